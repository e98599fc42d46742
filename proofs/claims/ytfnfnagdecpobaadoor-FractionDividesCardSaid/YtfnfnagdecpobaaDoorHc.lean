/- fraction: TextBig. -/
import Derived.Test.YtfnfnagdecpobaaDoorHb
import Derived.Test.YtfnfnagdecpobaaDoorGa
import Derived.Test.YtfnfnagdecpobaaDoorFf
set_option linter.unusedSimpArgs false
namespace Go.Proofs.YtfnfnagdecpobaaDoor.hc
open Go.RowKit Go.Proofs.YtfnfnagdecpobaaDoor.fm Go.Proofs.YtfnfnagdecpobaaDoor.mem Go.Proofs.YtfnfnagdecpobaaDoor.fa Go.Proofs.YtfnfnagdecpobaaDoor.fb Go.Proofs.YtfnfnagdecpobaaDoor.ff Go.Proofs.YtfnfnagdecpobaaDoor.fu Go.Proofs.YtfnfnagdecpobaaDoor.fv Go.Proofs.YtfnfnagdecpobaaDoor.fw Go.Proofs.YtfnfnagdecpobaaDoor.fx Go.Proofs.YtfnfnagdecpobaaDoor.fy Go.Proofs.YtfnfnagdecpobaaDoor.ha Go.Proofs.YtfnfnagdecpobaaDoor.hb

/-- bytes -/
def ba (l : List UInt8) : ByteArray := ⟨l.toArray⟩
theorem ba_append (a b : List UInt8) : ba a ++ ba b = ba (a ++ b) := by
  apply ByteArray.ext
  simp [ba]
theorem ba_size (a : List UInt8) : (ba a).size = a.length := by simp [ba, ByteArray.size]
theorem zeros9 (n : Nat) : (⟨#[48, 48, 48, 48, 48, 48, 48, 48, 48]⟩ : ByteArray).extract n 9 = ba (List.replicate (9 - n) 48) := by
  apply ByteArray.ext
  rw [ByteArray.data_extract]
  show (Array.extract #[48, 48, 48, 48, 48, 48, 48, 48, 48] n 9) = (List.replicate (9 - n) 48).toArray
  apply Array.ext'
  rw [Array.toList_extract]
  show ([48, 48, 48, 48, 48, 48, 48, 48, 48] : List UInt8).extract n 9 = List.replicate (9 - n) 48
  by_cases h : n < 9
  · have : ∀ k : Fin 9, ([48, 48, 48, 48, 48, 48, 48, 48, 48] : List UInt8).extract k.val 9 = List.replicate (9 - k.val) 48 := by decide
    exact this ⟨n, h⟩
  · rw [show 9 - n = 0 by omega, List.extract_eq_take_drop, List.take_eq_nil_iff.2 (Or.inl (by omega))]
    rfl

/-- What is written (t) and what is left to be written (m) are the digits of n. -/
def Left (n m : Nat) (t : List UInt8) : Prop := if m = 0 then t = Lib.decDigits n else Lib.decDigits m ++ t = Lib.decDigits n

theorem left_start {n : Nat} (h : n ≠ 0) : Left n n [] := by unfold Left; rw [if_neg h]; simp
theorem left_end {n : Nat} {t : List UInt8} (h : Left n 0 t) : t = Lib.decDigits n := by unfold Left at h; rwa [if_pos rfl] at h
theorem left_last {n m : Nat} {t : List UInt8} (h : Left n m t) (hm : m ≠ 0) (hq : m / 1000000000 = 0) : Left n (m / 1000000000) (Lib.decDigits (m % 1000000000) ++ t) := by
  unfold Left at *
  rw [if_neg hm] at h
  rw [hq, if_pos rfl, Nat.mod_eq_of_lt (by omega)]
  exact h
theorem left_more {n m : Nat} {t : List UInt8} (h : Left n m t) (hm : m ≠ 0) (hq : m / 1000000000 ≠ 0) :
    Left n (m / 1000000000) (List.replicate (9 - (Lib.decDigits (m % 1000000000)).length) 48 ++ Lib.decDigits (m % 1000000000) ++ t) := by
  unfold Left at *
  rw [if_neg hm] at h
  rw [if_neg hq, ← List.append_assoc, ← dec_nine _ _ hq (Nat.mod_lt _ (by decide))]
  rw [show m / 1000000000 * 1000000000 + m % 1000000000 = m by omega]
  exact h

theorem left_last' {n m p q : Nat} {t : List UInt8} (h : Left n m t) (hm : m ≠ 0) (hp : m % 1000000000 = p) (hq : m / 1000000000 = q) (h0 : q = 0) : Left n q (Lib.decDigits p ++ t) := by
  subst hp hq
  exact left_last h hm h0
theorem left_more' {n m p q : Nat} {t : List UInt8} (h : Left n m t) (hm : m ≠ 0) (hp : m % 1000000000 = p) (hq : m / 1000000000 = q) (h0 : q ≠ 0) :
    Left n q (List.replicate (9 - (Lib.decDigits p).length) 48 ++ Lib.decDigits p ++ t) := by
  subst hp hq
  exact left_more h hm h0

theorem left_len {n m : Nat} {t : List UInt8} (h : Left n m t) : t.length ≤ (Lib.decDigits n).length := by
  unfold Left at h
  split at h
  · rw [h]; exact Nat.le_refl _
  · rw [← h, List.length_append]; omega

set_option maxRecDepth 100000 in
set_option maxHeartbeats 4000000 in
theorem textBig_any (w : World) (a : Value) (z : Int) (ha : IsBig w a z) (hl : (digs z.natAbs).length ≤ 256) (hP : Pow w) :
    Calls Tryd.prog 27 #[a] w fun e w' => e = .returned (.string (ba (Lib.itoa z))) ∧ Below w.heap.size w w' := by
  obtain ⟨A, c, rfl, R⟩ := ha
  go_enter Tryd.func27, Tryd.ntmps27
  have hb2 : Below w.heap.size w (w.alloc (.cells #[.bool (decide (z < 0)), .slice A (digs z.natAbs).length c] 28)) := (Below.refl _ _).alloc (Nat.le_refl _) _
  obtain ⟨W, hW⟩ : ∃ W, W = (w.alloc (.cells #[.bool (decide (z < 0)), .slice A (digs z.natAbs).length c] 28)) := ⟨_, rfl⟩
  have hsz : W.heap.size = w.heap.size + 1 := by rw [hW]; simp
  have k0 : W.cell? ⟨w.heap.size, 0, none⟩ = some (.bool (decide (z < 0))) := by rw [hW]; simp [go_sem]
  have k1 : W.cell? ⟨w.heap.size, 1, none⟩ = some (.slice A (digs z.natAbs).length c) := by rw [hW]; simp [go_sem]
  rw [← hW] at hb2
  have HB := Lib.hid (And.intro hb2 (And.intro hsz (And.intro k0 k1)))
  clear hb2 hsz k0 k1
  go_wp2_with fail
  rw [← hW]
  clear hW
  have hbA := HB.out.1.alloc HB.out.1.size (.cells #[.bool (decide (z < 0)), .slice A (digs z.natAbs).length c] 28)
  refine (valid1 (W.alloc _) (w.heap.size + 1) 1 z A c 28 (0, 0) (by rw [← HB.out.2.1]; exact heap_alloc_new W _) ((R.below hbA).more hbA.size) (by omega)).mono ?_
  rintro _ W1 ⟨rfl, hb1⟩
  have hc : Below W.heap.size W W1 := ((Below.refl _ _).alloc (Nat.le_refl _) _).trans (hb1.mono (by simp))
  have hb3 := HB.out.1.trans (hc.mono HB.out.1.size)
  have a0 := (hc.cell (p := ⟨w.heap.size, 0, none⟩) (by show w.heap.size < _; have := HB.out.2.1; omega)).trans HB.out.2.2.1
  have a1 := (hc.cell (p := ⟨w.heap.size, 1, none⟩) (by show w.heap.size < _; have := HB.out.2.1; omega)).trans HB.out.2.2.2
  have hlt : w.heap.size < W1.heap.size := by have := hc.size; have := HB.out.2.1; omega
  have H3 := Lib.hid (And.intro hb3 hlt)
  clear hb1 hc hb3 HB hbA hlt
  by_cases hz : z = 0
  · subst hz
    rw [show (0 : Int).natAbs = 0 from rfl, digs_zero] at *
    go_wp2_with fail
    go_ret
    exact ⟨by rw [show Lib.itoa 0 = [48] by unfold Lib.itoa; rw [if_neg (by decide), Lib.decDigits, dif_pos (by decide)]; rfl]; rfl, H3.out.1⟩
  · have hn : (digs z.natAbs).length ≠ 0 := fun e => hz (by have := digs_len_zero.1 e; omega)
    have z1 : (((digs z.natAbs).length : Int) == 0) = false := beq_eq_false_iff_ne.2 (by omega)
    have R1 := (R.below H3.out.1).more H3.out.1.size
    have HZ := Lib.hid hz
    clear R hn hz
    obtain ⟨n, hN⟩ : ∃ n, z.natAbs = n := ⟨_, rfl⟩
    rw [hN] at R1 hl z1 a1
    simp only [hN]
    have hlong : (Lib.decDigits n).length ≤ 2560 := dec_long (k := 256) (by decide) ((lt_len_iff _ _).1 hl)
    have HN := Lib.hid hN
    have HLong := Lib.hid hlong
    clear hN hlong
    go_wp2_with fail
    go_loopg [3, 4] n (fun g s3 s4 wr => ∃ m t A c, m = g ∧ s3 = .string (ba t) ∧ s4 = .slice A (digs m).length c ∧ Rd wr wr.heap.size A c (digs m) ∧ Hid (Left n m t) ∧ (digs m).length ≤ 256 ∧
      Below w.heap.size w wr ∧ w.heap.size < wr.heap.size ∧ wr.cell? ⟨w.heap.size, 0, none⟩ = some (.bool (decide (z < 0))))
    case atStart => exact ⟨n, [], A, c, rfl, rfl, rfl, R1, Lib.hid (left_start (by have := HN.out; have := HZ.out; omega)), hl, H3.out.1, H3.out.2, a0⟩
    case round =>
      clear a0 a1 z1 hl R1 H3
      obtain ⟨m, t, A, c, rfl, rfl, rfl, R1, HL, hl, hb, hlt, a0⟩ := hrel
      by_cases hm : m = 0
      · subst hm
        rw [show (digs 0).length = 0 from rfl]
        have ht := left_end HL.out
        obtain ⟨T, hT⟩ : ∃ T, T = ba t := ⟨_, rfl⟩
        have hTs : T.size ≤ 2560 := by rw [hT, ba_size, ht]; exact HLong.out
        rw [← hT]
        have HT := Lib.hid (And.intro hT ht)
        clear hT ht R1 hl
        rcases Int.lt_or_le z 0 with hz | hz
        · rw [decide_eq_true hz] at a0
          have HS := Lib.hid hz
          clear hz
          go_wp2_with fail
          go_ret
          refine ⟨?_, hb⟩
          rw [HT.out.1, HT.out.2, show (⟨#[45]⟩ : ByteArray) = ba [45] from rfl, ba_append]
          unfold Lib.itoa
          rw [if_pos HS.out, HN.out]
          rfl
        · rw [decide_eq_false (by omega)] at a0
          have HS := Lib.hid hz
          clear hz
          go_wp2_with fail
          go_ret
          refine ⟨?_, hb⟩
          rw [HT.out.1, HT.out.2]
          unfold Lib.itoa
          have := HS.out
          rw [if_neg (by omega), show z.toNat = n by have := HN.out; omega]
          rfl
      · have hn : (digs m).length ≠ 0 := fun e => hm (digs_len_zero.1 e)
        have z1 : (0 : Int) < ((digs m).length : Int) := by omega
        have HM := Lib.hid hm
        have HB := Lib.hid (And.intro hb (And.intro hlt a0))
        clear hm hn hb hlt a0
        go_wp2_with fail
        refine (divWord_any wr A c 1000000000 (digs m) R1 (by decide) (by decide) (by omega)).mono ?_
        rintro _ w2 ⟨v2, rfl, hO2, hb2⟩
        rw [val_digs] at hO2 ⊢
        obtain ⟨A2, c2, rfl, R2⟩ := own_rd hO2 (ok_digs _)
        obtain ⟨p, hp⟩ : ∃ p, m % 1000000000 = p := ⟨_, rfl⟩
        obtain ⟨q, hq⟩ : ∃ q, m / 1000000000 = q := ⟨_, rfl⟩
        have hp9 : p < 1000000000 := by rw [← hp]; exact Nat.mod_lt _ (by decide)
        have hqm : q < m := by rw [← hq]; have := HM.out; omega
        have hql : (digs q).length ≤ 256 := Nat.le_trans (len_mono (Nat.le_of_lt hqm)) hl
        rw [hp]
        rw [hq] at R2 hO2 ⊢
        have HP := Lib.hid (And.intro hp (And.intro hq (And.intro hp9 hqm)))
        have i1 : IntKind.u64.wrap (p : Int) = (p : Int) := IntWalk.u64_in _ (by omega)
        have hb3 : Below w.heap.size w w2 := HB.out.1.trans (hb2.mono (Nat.le_of_lt HB.out.2.1))
        have a2 : w2.cell? ⟨w.heap.size, 0, none⟩ = some (.bool (decide (z < 0))) := (hb2.cell HB.out.2.1).trans HB.out.2.2
        have hl2 : w.heap.size < w2.heap.size := Nat.lt_of_lt_of_le HB.out.2.1 hb2.size
        have HC := Lib.hid (And.intro hb3 (And.intro hl2 a2))
        clear hp hq hp9 hqm hO2 hb2 R1 hl z1 hb3 a2 hl2 HB
        go_wp2_with fail
        refine (formatUint_any w2 p (by have := HP.out.2.2.1; omega) (hP.below HC.out.1)).mono ?_
        rintro _ w3 ⟨rfl, hb4⟩
        have hs9 : (Lib.decDigits p).length ≤ 9 := dec_len HP.out.2.2.1
        obtain ⟨s, hs⟩ : ∃ s, s = ba (Lib.decDigits p) := ⟨_, rfl⟩
        have hss : s.size ≤ 9 := by rw [hs, ba_size]; exact hs9
        obtain ⟨T, hT⟩ : ∃ T, T = ba t := ⟨_, rfl⟩
        have hTs : T.size ≤ 2560 := by rw [hT, ba_size]; exact Nat.le_trans (left_len HL.out) HLong.out
        rw [show (⟨(Lib.decDigits p).toArray⟩ : ByteArray) = s from hs.symm, ← hT]
        have HS := Lib.hid (And.intro hs hT)
        have R3 := (R2.below hb4).more hb4.size
        have HD := Lib.hid (And.intro (HC.out.1.trans (hb4.mono (Nat.le_of_lt HC.out.2.1))) (And.intro (Nat.lt_of_lt_of_le HC.out.2.1 hb4.size) ((hb4.cell HC.out.2.1).trans HC.out.2.2)))
        clear hs hT hs9 hb4 R2 HC
        by_cases hq : q = 0
        · have hq1 : (digs q).length = 0 := digs_len_zero.2 hq
          rw [hq1]
          have HQ := Lib.hid hq
          have HQ1 := Lib.hid hq1
          clear hq hq1
          go_wp2_with fail
          go_roundg q
          case rel =>
            refine ⟨q, _, A2, c2, rfl, ?_, by rw [HQ1.out], R3, Lib.hid (left_last' HL.out HM.out HP.out.1 HP.out.2.1 HQ.out), hql, HD.out.1, HD.out.2.1, HD.out.2.2⟩
            rw [HS.out.1, HS.out.2, ba_append]
          case measure => exact HP.out.2.2.2
        · have hq0 : (digs q).length ≠ 0 := fun e => hq (digs_len_zero.1 e)
          have z2 : (0 : Int) < ((digs q).length : Int) := by omega
          have HQ := Lib.hid hq
          clear hq hq0
          go_wp2_with fail
          go_roundg q
          case rel =>
            refine ⟨q, _, A2, c2, rfl, ?_, rfl, R3, Lib.hid (left_more' HL.out HM.out HP.out.1 HP.out.2.1 HQ.out), hql, HD.out.1, HD.out.2.1, HD.out.2.2⟩
            rw [HS.out.1, HS.out.2]
            rw [ba_size, zeros9, ba_append, ba_append]
          case measure => exact HP.out.2.2.2

end Go.Proofs.YtfnfnagdecpobaaDoor.hc
