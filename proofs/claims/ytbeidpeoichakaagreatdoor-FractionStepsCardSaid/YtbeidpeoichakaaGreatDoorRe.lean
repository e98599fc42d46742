/- The reference: TextBig. -/
import Derived.Test.YtbeidpeoichakaaGreatDoorRa
import Derived.Test.YtbeidpeoichakaaGreatDoorRb
import Derived.Test.YtbeidpeoichakaaGreatDoorHa
import Derived.Test.YtbeidpeoichakaaGreatDoorJc
import Derived.Test.YtbeidpeoichakaaGreatDoorHe
import Derived.Deep.AppendSrc
import Derived.Deep.Upon
import Derived.Laws.IdiomStrings
import Derived.Test.YtbeidpeoichakaaGreatDoorQa
import Derived.Test.YtbeidpeoichakaaGreatDoorHh
set_option linter.unusedSimpArgs false
set_option linter.unusedVariables false
namespace Go.Proofs.YtbeidpeoichakaaGreatDoor.re
open Go.RowKit Go.Proofs.YtbeidpeoichakaaGreatDoor.fm Go.Proofs.YtbeidpeoichakaaGreatDoor.mem Go.Proofs.YtbeidpeoichakaaGreatDoor.fa Go.Proofs.YtbeidpeoichakaaGreatDoor.fb Go.Proofs.YtbeidpeoichakaaGreatDoor.ff Go.Proofs.YtbeidpeoichakaaGreatDoor.fu Go.Proofs.YtbeidpeoichakaaGreatDoor.fv Go.Proofs.YtbeidpeoichakaaGreatDoor.fw Go.Proofs.YtbeidpeoichakaaGreatDoor.fx Go.Proofs.YtbeidpeoichakaaGreatDoor.fy Go.Proofs.YtbeidpeoichakaaGreatDoor.ha Go.Proofs.YtbeidpeoichakaaGreatDoor.hc Go.Proofs.YtbeidpeoichakaaGreatDoor.jh Go.Proofs.YtbeidpeoichakaaGreatDoor.ja Go.Proofs.YtbeidpeoichakaaGreatDoor.ra Go.Proofs.YtbeidpeoichakaaGreatDoor.rb

/-- nothing is appended -/
theorem wpList_append_nothing {P : Program} {ops : Array Oper} {rest : List Oper} {o : Oper} {a : Act} {Q : Exit → Act → World → Prop} {w : World} (hgd : o.guard = none) (s x : Operand) (t : TypeId)
    (ho : o.op = .call { callee := .builtin .append, args := #[s, x], argTypes := #[t, t] }) (e : TypeId) (i : TypeInfo) (ht : P.underlying t = some (.slice e)) (hi : P.info? e = some i)
    (b : Option Addr) (n cap : Nat) (hn : n ≤ cap) (hs : a.eval s = .slice b n cap) (ad : Option Addr) (c : Nat) (hx : a.eval x = .slice ad 0 c)
    (h : wpList P ops Q rest (a.put o.dst (.slice b n cap)) w) : wpList P ops Q (o :: rest) a w := by
  have hsrc : Src P i.size t (.slice ad 0 c) 0 [] w := by
    cases ad with
    | none => exact Src.ofNil w ht c
    | some ad => exact Src.ofSlice w ht ad 0 c [] (by simp) (fun j u hu => by simp at hu) (fun u hu => by simp at hu)
  refine wpList_plain hgd fun K hK => ?_
  have hrun := run_append_nothing (P := P) w t t o.type e i ht hi b n cap hn (.slice ad 0 c) hsrc
  unfold Oper.wp execOp
  simp only [ho, resolve, invoke, builtin, Sem.run_bind, Sem.run_pure, Result.andThen_ok, List.map_toArray, List.map_cons, List.map_nil, hs, hx, hrun]
  exact hK _ _ h

/-- What is written (t) and what is left to be written (m) are the digits of n, digit by digit. -/
def Left1 (n m : Nat) (t : List UInt8) : Prop := if m = 0 then t = if n = 0 then [] else Lib.decDigits n else Lib.decDigits m ++ t = Lib.decDigits n

theorem left1_start (n : Nat) : Left1 n n [] := by
  unfold Left1
  by_cases h : n = 0
  · rw [if_pos h, if_pos h]
  · rw [if_neg h]; simp
theorem left1_end {n : Nat} {t : List UInt8} (h : Left1 n 0 t) : t = if n = 0 then [] else Lib.decDigits n := by unfold Left1 at h; rwa [if_pos rfl] at h

theorem dec_last (m : Nat) (h : m / 10 ≠ 0) : Lib.decDigits m = Lib.decDigits (m / 10) ++ [UInt8.ofNat (48 + m % 10)] := by
  rw [Lib.decDigits, dif_neg (by omega)]

theorem left1_step {n m : Nat} {t : List UInt8} (h : Left1 n m t) (hm : m ≠ 0) : Left1 n (m / 10) (UInt8.ofNat (48 + m % 10) :: t) := by
  unfold Left1 at *
  rw [if_neg hm] at h
  by_cases hq : m / 10 = 0
  · rw [if_pos hq]
    have hlt : m < 10 := by omega
    have hn : n ≠ 0 := by
      rintro rfl
      have h1 : (Lib.decDigits m ++ t).length = (Lib.decDigits 0).length := by rw [h]
      rw [List.length_append, Lib.decDigits_one hlt, Lib.decDigits_one (by decide)] at h1
      have ht : t = [] := by
        apply List.eq_nil_of_length_eq_zero
        simpa using h1
      rw [ht, Lib.decDigits_one hlt, Lib.decDigits_one (by decide)] at h
      have h2 : UInt8.ofNat (48 + m) = UInt8.ofNat (48 + 0) := by simpa using h
      have h3 := congrArg UInt8.toNat h2
      rw [UInt8.toNat_ofNat', UInt8.toNat_ofNat'] at h3
      omega
    rw [if_neg hn, ← h, Lib.decDigits_one hlt, Nat.mod_eq_of_lt hlt]
    rfl
  · rw [if_neg hq, ← h, dec_last m hq]
    simp

theorem left1_len {n m : Nat} {t : List UInt8} (h : Left1 n m t) : t.length ≤ (Lib.decDigits n).length := by
  unfold Left1 at h
  split at h
  · split at h
    · rw [h]; simp
    · rw [h]; exact Nat.le_refl _
  · rw [← h, List.length_append]; omega

theorem own_base0 {base base' : Nat} {w : World} {v : Value} {l : List Nat} (h : Owns base w v l) (hb : base' ≤ base) : w.ownsRow base' 59 1 v l.length (ws l) := by
  obtain ⟨h1, h2⟩ := h
  refine ⟨h1, ?_⟩
  rcases h2 with h2 | ⟨b, cap, cur, hv, hbb, r⟩
  · exact Or.inl h2
  · exact Or.inr ⟨b, cap, cur, hv, Nat.le_trans hb hbb, r⟩

theorem ref_end {base : Nat} {w : World} {g n cap m : Nat} {Q : List Nat} (hok : ok Q) (hv : val Q = m) (h : w.ownsRow base 59 1 (.slice (some ⟨g, 0, none⟩) n cap) n (ws Q)) (o : Obj) :
    (w.alloc o).drew.ownsRow base 59 1 (.slice (some ⟨g, 0, none⟩) (digs m).length cap) (digs m).length (ws (digs m)) := by
  have hl := own_len h
  have hd := digs_take hok
  rw [hv] at hd
  have hle : (digs m).length ≤ n := by have h2 : (digs m).length = (Q.take (digs m).length).length := by rw [← hd]
                                       rw [List.length_take] at h2; omega
  have h1 := own_trim h (digs m).length hle
  rw [← hd] at h1
  exact h1.alloc o

set_option maxRecDepth 100000 in
set_option maxHeartbeats 8000000 in
theorem rtextBig_any (w : World) (a : Value) (z : Int) (ha : IsBig w a z) (hl : (digs z.natAbs).length ≤ 256) :
    Calls Tryz.prog 56 #[a] w fun e w' => e = .returned (.string (ba (Lib.itoa z))) ∧ Below w.heap.size w w' := by
  obtain ⟨A, c, rfl, R⟩ := ha
  obtain ⟨i0, hi, hz0, hz1, hz2⟩ := info_parts info_u32
  go_enter Tryz.func56, Tryz.ntmps56
  have hb2 : Below w.heap.size w (w.alloc (.cells #[.bool (decide (z < 0)), .slice A (digs z.natAbs).length c] 28)) := (Below.refl _ _).alloc (Nat.le_refl _) _
  obtain ⟨W, hW⟩ : ∃ W, W = (w.alloc (.cells #[.bool (decide (z < 0)), .slice A (digs z.natAbs).length c] 28)) := ⟨_, rfl⟩
  have hsz : W.heap.size = w.heap.size + 1 := by rw [hW]; simp
  have a0 : W.cell? ⟨w.heap.size, 0, none⟩ = some (.bool (decide (z < 0))) := by rw [hW]; simp [go_sem]
  have a1 : W.cell? ⟨w.heap.size, 1, none⟩ = some (.slice A (digs z.natAbs).length c) := by rw [hW]; simp [go_sem]
  rw [← hW] at hb2
  have HB := Lib.hid (And.intro hb2 (And.intro hsz (And.intro a0 a1)))
  clear hb2 hsz
  go_upto_region 1 with fail
  rw [← hW]
  clear hW
  go_wp2_with fail
  refine (rvalidBig_any W _ z ⟨A, c, rfl, (R.below HB.out.1).more HB.out.1.size⟩ hl).mono ?_
  rintro _ W1 ⟨rfl, hb1⟩
  have k0 := (hb1.cell (p := ⟨w.heap.size, 0, none⟩) (by show w.heap.size < _; have := HB.out.2.1; omega)).trans HB.out.2.2.1
  have k1 := (hb1.cell (p := ⟨w.heap.size, 1, none⟩) (by show w.heap.size < _; have := HB.out.2.1; omega)).trans HB.out.2.2.2
  have hlt : w.heap.size < W1.heap.size := by have := hb1.size; have := HB.out.2.1; omega
  have H3 := Lib.hid (And.intro (HB.out.1.trans (hb1.mono HB.out.1.size)) hlt)
  have R1 := (R.below H3.out.1).more H3.out.1.size
  clear hb1 HB a0 a1 R hlt
  obtain ⟨n, hN⟩ : ∃ n, n = z.natAbs := ⟨_, rfl⟩
  rw [← hN] at R1 hl k1
  have HN := Lib.hid hN
  have hlong : (Lib.decDigits n).length ≤ 2560 := dec_long (k := 256) (by decide) ((lt_len_iff _ _).1 hl)
  have HLong := Lib.hid hlong
  clear hN hlong
  go_upto_region 3 with fail
  go_cut [3, 4] (fun s3 s4 wx => ∃ gg cap, s3 = .slice (some ⟨gg, 0, none⟩) (digs n).length cap ∧ s4 = .string (ba []) ∧ wx.ownsRow (w.heap.size + 1) 59 1 s3 (digs n).length (ws (digs n)) ∧ Below (w.heap.size + 1) W1 wx)
  case first =>
    have hb0 := (Below.refl W1.heap.size W1).alloc (Nat.le_refl _) (.cells #[] 59)
    have HO0 := Lib.hid (own_new W1 [] #[] rfl (by decide))
    have HB0 := Lib.hid hb0
    clear hb0
    have hlt1 := H3.out.2
    by_cases h0 : n = 0
    · subst h0
      rw [show (digs 0).length = 0 from rfl] at *
      clear R1
      go_wp2_with (first
        | (at_builtin; refine wpList_append_nothing rfl _ _ 26 rfl 59 i0 Tryz.underlying26 hi _ 0 0 (Nat.le_refl _) rfl A c rfl ?_))
      go_meet
      exact ⟨W1.heap.size, 0, rfl, rfl, own_base0 HO0.out H3.out.2, HB0.out.mono H3.out.2⟩
    · have hl0 : 0 < (digs n).length := by have : (digs n).length ≠ 0 := fun e => h0 (digs_len_zero.1 e); omega
      obtain ⟨x, hx⟩ : ∃ x, x = digs n := ⟨_, rfl⟩
      rw [← hx] at R1 hl hl0 k1
      obtain ⟨ab, aoff, rfl, hab, hac⟩ := R1.cells hl0
      have HN2 := Lib.hid (je.rd_news (R1.below HB0.out))
      have HXX := Lib.hid hx
      clear hac hx h0
      go_wp2_with (first
        | (at_builtin; refine wpList_append_lies _ rfl _ _ 26 rfl W1.heap.size 59 i0 (.int .u32 0) 1 4 Tryz.underlying26 hi hz0 hz1 hz2 rfl (by decide) _ 0 [] rfl HO0.out ⟨ab, aoff, none⟩ x.length c (ws x) rfl (by rw [ws_length, Nat.mul_one]) HN2.out (ws_oneCell x) hl0 (by unfold maxLen; omega) (by omega) HB0.out.size _ rfl ?_; intro gg cap w1 hown1 hgrow hat hlt2; have hown2 : Owns W1.heap.size w1 (.slice (some ⟨gg, 0, none⟩) x.length cap) x := (by have h1 := hown1; rw [Nat.zero_add] at h1; exact h1); have hb1 : Below W1.heap.size W1 w1 := HB0.out.grown hgrow HB0.out.size (fun j hj => (HO0.out.lt j hj).1); have H1 := Lib.hid (And.intro hown2 hb1); clear hown1 hgrow hat hlt2 hown2 hb1))
      go_wp2_with fail
      go_meet
      exact ⟨gg, cap, by rw [← HXX.out], rfl, by rw [← HXX.out]; exact own_base0 H1.out.1 H3.out.2, H1.out.2.mono H3.out.2⟩
  case rest =>
  obtain ⟨gg, cap, rfl, rfl, hown, hbx⟩ := hcut
  have HS := Lib.hid (And.intro hown hbx)
  clear hown hbx k1 R1
  go_upto_region 4 with fail
  go_loopg [3, 4] n (fun g s3 s4 wr => ∃ (t : List UInt8) (gg cap : Nat), s3 = .slice (some ⟨gg, 0, none⟩) (digs g).length cap ∧ s4 = .string (ba t) ∧ Hid (Left1 n g t) ∧ g ≤ n ∧ Hid (wr.ownsRow (w.heap.size + 1) 59 1 (.slice (some ⟨gg, 0, none⟩) (digs g).length cap) (digs g).length (ws (digs g)) ∧ Below (w.heap.size + 1) W1 wr))
  case atStart => exact ⟨[], gg, cap, rfl, rfl, Lib.hid (left1_start n), Nat.le_refl _, HS⟩
  case round =>
    clear HS
    obtain ⟨t, gg, cap, rfl, rfl, HL, hgn, HO⟩ := hrel
    have kb := (HO.out.2.cell (p := ⟨w.heap.size, 0, none⟩) (Nat.lt_succ_self _)).trans k0
    have hts := left1_len HL.out
    have hts2 : t.length ≤ 2560 := Nat.le_trans hts HLong.out
    by_cases hg : gk = 0
    · subst hg
      have ht := left1_end HL.out
      have HT := Lib.hid ht
      rw [show (digs 0).length = 0 from rfl]
      clear ht hts
      have HBW := Lib.hid (H3.out.1.trans (HO.out.2.mono (Nat.le_of_lt (Nat.lt_of_lt_of_le (Nat.lt_succ_self _) (Nat.le_refl _)))))
      by_cases h0 : n = 0
      · have ht0 : t = [] := by rw [HT.out, if_pos h0]
        have hz0 : z = 0 := by have := HN.out; omega
        subst ht0
        rw [decide_eq_false (by omega)] at kb
        have HZ := Lib.hid hz0
        clear h0 hgn hz0
        rw [show ba [] = ⟨#[]⟩ from rfl]
        go_wp2_with fail
        go_ret
        exact ⟨by rw [HZ.out, show Lib.itoa 0 = [48] by unfold Lib.itoa; rw [if_neg (by decide), Lib.decDigits, dif_pos (by decide)]; rfl]; rfl, HBW.out⟩
      · obtain ⟨T, hT⟩ : ∃ T, T = ba t := ⟨_, rfl⟩
        have ht0 : t = Lib.decDigits n := by rw [HT.out, if_neg h0]
        have hTs : T.size ≤ 2560 := by rw [hT, ba_size]; exact hts2
        have hT0 : T.size ≠ 0 := by
          rw [hT, ba_size, ht0, Lib.decDigits_length]
          have := Lib.nDigits_pos n
          omega
        have hne : ¬ T.toList = [] := he.toList_ne hT0
        have hne3 : T.toList.isEmpty = false := by cases h : T.toList with | nil => exact absurd h hne | cons a l => rfl
        have hne2 : (!T.toList.isEmpty) = true := by cases h : T.toList with | nil => exact absurd h hne | cons a l => rfl
        rw [← hT]
        have HTT := Lib.hid (And.intro hT ht0)
        clear hT ht0 hT0 hgn h0
        rcases Int.lt_or_le z 0 with hz | hz
        · rw [decide_eq_true hz] at kb
          have HS := Lib.hid hz
          clear hz
          go_wp2_with fail
          go_ret
          refine ⟨?_, HBW.out⟩
          rw [HTT.out.1, HTT.out.2, show (⟨#[45]⟩ : ByteArray) = ba [45] from rfl, ba_append]
          unfold Lib.itoa
          rw [if_pos HS.out, ← HN.out]
          rfl
        · rw [decide_eq_false (by omega)] at kb
          have HS := Lib.hid hz
          clear hz
          go_wp2_with fail
          go_ret
          refine ⟨?_, HBW.out⟩
          rw [HTT.out.1, HTT.out.2]
          unfold Lib.itoa
          have := HS.out
          rw [if_neg (by omega), show z.toNat = n by have := HN.out; omega]
          rfl
    · have hl0 : 0 < (digs gk).length := by have : (digs gk).length ≠ 0 := fun e => hg (digs_len_zero.1 e); omega
      have hll : (digs gk).length ≤ 256 := Nat.le_trans (len_mono hgn) hl
      obtain ⟨x, hx⟩ : ∃ x, x = digs gk := ⟨_, rfl⟩
      have hok : ok x := by rw [hx]; exact ok_digs _
      have hv : val x = gk := by rw [hx, val_digs]
      rw [← hx] at HO hl0 hll ⊢
      have HV := Lib.hid (And.intro hok (And.intro hv hx))
      have HG := Lib.hid (And.intro hg hgn)
      have HTS := Lib.hid hts2
      clear hok hv hx hg hgn hts hts2
      go_upto_region 7 with fail
      go_loopw [5, 6] (fun cv i wx => ∃ (k rest : Nat) (y : Int) (Q : List Nat), k ≤ x.length ∧ y = (k : Int) - 1 ∧ i = .int .i64 y ∧ cv = .int .u64 (rest : Int) ∧ rest < 10 ∧ Hid (ok Q ∧ (∀ j, j < k → Q.getD j 0 = x.getD j 0) ∧ val (x.drop k) = val (Q.drop k) * 10 + rest ∧
          wx.ownsRow (w.heap.size + 1) 59 1 (.slice (some ⟨gg, 0, none⟩) x.length cap) x.length (ws Q) ∧ Below (w.heap.size + 1) W1 wx)) (fun _ i _ => (intOf i + 1).toNat)
      case atStart => exact ⟨x.length, 0, _, x, Nat.le_refl _, rfl, rfl, rfl, by decide, Lib.hid ⟨HV.out.1, fun _ _ => rfl, by rw [List.drop_of_length_le (Nat.le_refl _)]; simp [val], HO.out.1, HO.out.2⟩⟩
      case round =>
        obtain ⟨k, rest, y, Q, hk, hy, rfl, rfl, hrest, H⟩ := hrel
        have hQl := own_len H.out.2.2.2.1
        rcases Nat.eq_zero_or_pos k with h0 | h0
        · subst h0
          obtain rfl : y = -1 := by omega
          have hE := H.out.2.2.1
          simp only [List.drop_zero] at hE
          have hq : val Q = gk / 10 := by have := HV.out.2.1; omega
          have hr : rest = gk % 10 := by have := HV.out.2.1; omega
          have HQ := Lib.hid (And.intro hq hr)
          clear hE hq hr hk hy
          go_upto_region 12 with fail
          obtain ⟨d, hd⟩ : ∃ d : Nat, d = 48 + rest := ⟨_, rfl⟩
          have i1 : IntKind.u8.wrap (rest : Int) = (rest : Int) := IntWalk.u8_in _ (by omega)
          have i2 : IntKind.u8.wrap (48 + (rest : Int)) = (d : Int) := by rw [IntWalk.u8_in _ (by omega)]; omega
          obtain ⟨AQ, cQ, eQ, RQ⟩ := own_rd (base := w.heap.size + 1) (v := .slice (some ⟨gg, 0, none⟩) x.length cap) (l := Q) (by have := H.out.2.2.2.1; rw [← hQl] at this; unfold Owns; rw [← hQl]; exact this) H.out.1
          have hrt : ∀ (X : World), Rd X X.heap.size AQ cQ Q → Calls Tryz.prog 67 #[.slice (some ⟨gg, 0, none⟩) x.length cap] X fun e w' => e = .returned (.slice (some ⟨gg, 0, none⟩) (digs (gk / 10)).length cap) ∧ X = w' := fun X RX => by
            have h1 := rtrim_any X X.heap.size AQ cQ Q RX (by omega)
            rw [← eQ, HQ.out.1] at h1
            injection eQ with e1 e2 e3
            rw [← e1, ← e3] at h1
            exact h1
          have HRT := Lib.hid hrt
          have hal := fun (X : World) (hX : Rd X X.heap.size AQ cQ Q) => hX
          have R1 := RQ.drewN 1
          have R2 : Rd (wr.alloc (.cells #[.int .u8 (d : Int)] 5)).drew (wr.alloc (.cells #[.int .u8 (d : Int)] 5)).drew.heap.size AQ cQ Q := ((RQ.below ((Below.refl _ _).alloc (Nat.le_refl _) (.cells #[.int .u8 (d : Int)] 5))).more (by simp)).drewN 1
          have HR := Lib.hid (And.intro R1 R2)
          have hcv := run_convert_bytes_back (P := Tryz.prog) (wr.alloc (.cells #[.int .u8 (d : Int)] 5)).drew 22 9 5 ⟨wr.heap.size, 0, none⟩ 1 [UInt8.ofNat d] (by kernel_rfl) (by kernel_rfl) (by kernel_rfl) (fun j hj => by
            obtain rfl : j = 0 := by simp at hj; omega
            show (wr.alloc (.cells #[.int .u8 (d : Int)] 5)).cell? ⟨wr.heap.size, 0, none⟩ = _
            rw [World.cell?_alloc_new]
            show some (Value.int .u8 (d : Int)) = some (Value.int .u8 ((UInt8.ofNat d).toNat : Int))
            rw [UInt8.toNat_ofNat', Nat.mod_eq_of_lt (by omega)])
          have hts3 := HTS.out
          rw [← ba_size] at hts3
          have hLs := left1_step HL.out HG.out.1
          rw [← HQ.out.2, ← hd] at hLs
          have HLS := Lib.hid hLs
          have HHd := Lib.hid hd
          simp only [List.length_cons, List.length_nil] at hcv
          clear hrt hal R1 R2 RQ eQ hd hLs
          go_region_with (first
            | (go_at_call 67; refine (HRT.out _ (by first | exact HR.out.1 | exact HR.out.2)).mono ?_; rintro _ _ ⟨rfl, rfl⟩))
          all_goals (have hend := ref_end H.out.1 HQ.out.1 H.out.2.2.2.1 (.cells #[.int .u8 (d : Int)] 5); have hbel := (H.out.2.2.2.2.alloc (Nat.le_trans (Nat.le_refl _) H.out.2.2.2.2.size |> fun h => Nat.le_trans (show w.heap.size + 1 ≤ W1.heap.size from H3.out.2) h) (.cells #[.int .u8 (d : Int)] 5)).drew; have HEND := Lib.hid (And.intro hend hbel); clear hend hbel)
          all_goals (obtain ⟨w9, hw9⟩ : ∃ w9, w9 = (wr.alloc (.cells #[.int .u8 (d : Int)] 5)).drew := ⟨_, rfl⟩)
          all_goals (rw [← hw9] at HEND ⊢; clear hw9 hcv HR HRT)
          all_goals (go_wp2_with fail)
          all_goals (go_roundg (gk / 10))
          all_goals first
            | (have h1 := HG.out.1; omega)
            | exact ⟨UInt8.ofNat d :: t, gg, cap, rfl, congrArg Value.string (ba_append [UInt8.ofNat d] t), HLS, by have := HG.out; omega, HEND⟩
        · obtain ⟨j, rfl⟩ : ∃ j, k = j + 1 := ⟨k - 1, by omega⟩
          obtain rfl : y = (j : Int) := by omega
          have c2 := own_cell H.out.2.2.2.1 j (by omega)
          have c3 := H.out.2.2.2.1.frozenAt j
          rw [H.out.2.1 j (by omega)] at c2
          obtain ⟨T, q, r, t1, t2, t3, hq, hr, heq, hT⟩ := div_word rest (x.getD j 0) 10 (ok_getD HV.out.1 j) (by decide) (by decide) hrest
          have hst := div_step x Q j 10 rest q r (by omega) (by omega) heq H.out.2.2.1
          have own2 := own_set H.out.2.2.2.1 j q (q : Int) rfl
          have bel2 := H.out.2.2.2.2.setCell (p := ⟨gg, j, none⟩) (H.out.2.2.2.1.lt gg rfl).1 (.int .u32 (q : Int))
          have O := Lib.hid (And.intro own2 (And.intro bel2 (And.intro hst (And.intro (ok_set H.out.1 j hq) (show ∀ i, i < j → (Q.set j q).getD i 0 = x.getD i 0 from fun i hi => by rw [fm.getD_set_ne _ _ _ _ (by omega)]; exact H.out.2.1 i (by omega))))))
          have i1 : (j : Int) < (x.length : Int) := by omega
          have t2' : (T : Int) / 10 = (q : Int) := t2
          have t3' : (T : Int) % 10 = (r : Int) := t3
          have bx := ok_getD HV.out.1 j
          have HJ := Lib.hid hk
          clear own2 bel2 hst heq hk hy hQl t2 t3
          generalize x.getD j 0 = xj at *
          go_wp2_with fail
          go_roundw
          case rel => exact ⟨j, r, (j : Int) - 1, _, by have := HJ.out; omega, rfl, by go_num, congrArg (Value.int .u64) t3', hr, Lib.hid ⟨O.out.2.2.2.1, O.out.2.2.2.2, O.out.2.2.1, O.out.1, O.out.2.1⟩⟩
          case measure => simp [intOf]

end Go.Proofs.YtbeidpeoichakaaGreatDoor.re

/- law 01: odd. -/
set_option linter.unusedSimpArgs false
set_option linter.unusedVariables false
namespace Go.Proofs.YtbeidpeoichakaaGreatDoor.rf
open Go.RowKit Go.Proofs.YtbeidpeoichakaaGreatDoor.fm Go.Proofs.YtbeidpeoichakaaGreatDoor.mem Go.Proofs.YtbeidpeoichakaaGreatDoor.fu Go.Proofs.YtbeidpeoichakaaGreatDoor.fv Go.Proofs.YtbeidpeoichakaaGreatDoor.fw Go.Proofs.YtbeidpeoichakaaGreatDoor.fx Go.Proofs.YtbeidpeoichakaaGreatDoor.fy Go.Proofs.YtbeidpeoichakaaGreatDoor.fz Go.Proofs.YtbeidpeoichakaaGreatDoor.je Go.Proofs.YtbeidpeoichakaaGreatDoor.hh Go.Proofs.YtbeidpeoichakaaGreatDoor.qa Go.Proofs.YtbeidpeoichakaaGreatDoor.re

/-- What holds while odd works: the parameter's box, the result's box, and the words. -/
structure OSt (w W : World) (n : Bool) (gg cap : Nat) (x : List Nat) : Prop where
  bel : Below w.heap.size w W
  size : w.heap.size + 2 ≤ W.heap.size
  p0 : W.cell? ⟨w.heap.size, 0, none⟩ = some (.bool n)
  p1 : W.cell? ⟨w.heap.size, 1, none⟩ = some (.slice (some ⟨gg, 0, none⟩) x.length cap)
  r0 : W.cell? ⟨w.heap.size + 1, 0, none⟩ = some (.bool false)
  r1 : W.cell? ⟨w.heap.size + 1, 1, none⟩ = some (.slice none 0 0)
  fp : ∀ k, W.frozen? ⟨w.heap.size, k, none⟩ = false
  fr : ∀ k, W.frozen? ⟨w.heap.size + 1, k, none⟩ = false
  own : W.ownsRow (w.heap.size + 2) 59 1 (.slice (some ⟨gg, 0, none⟩) x.length cap) x.length (ws x)
  okx : ok x

/-- What odd answers: a sign and words. -/
def Oddly (w : World) (e : Ending) (w' : World) : Prop :=
  ∃ n A c x, e = .returned (.agg #[.bool n, .slice A x.length c]) ∧ Rd w' w'.heap.size A c x ∧ x.length ≤ 257 ∧ Below w.heap.size w w'

/-- another sign -/
theorem OSt.flip {w W : World} {n : Bool} {gg cap : Nat} {x : List Nat} (S : OSt w W n gg cap x) (n' : Bool) : OSt w (W.setCell ⟨w.heap.size, 0, none⟩ (.bool n')) n' gg cap x := by
  have hg := (S.own.lt gg rfl).1
  refine ⟨S.bel.setCell (p := ⟨w.heap.size, 0, none⟩) (Nat.le_refl _) _, by simpa using S.size, World.cell?_setCell_same _ _ _ S.p0, ?_, ?_, ?_, ?_, ?_, ownsRow_setCell_below S.own (by show w.heap.size < _; omega) _, S.okx⟩
  · exact (World.cell?_setCell_other _ _ _ _ (by intro h; cases h)).trans S.p1
  · exact (World.cell?_setCell_other _ _ _ _ (by intro h; simp at h)).trans S.r0
  · exact (World.cell?_setCell_other _ _ _ _ (by intro h; simp at h)).trans S.r1
  · intro k; simpa [go_sem] using S.fp k
  · intro k; simpa [go_sem] using S.fr k

/-- other words -/
theorem OSt.words {w W W' : World} {n : Bool} {gg cap gg' cap' : Nat} {x x' : List Nat} (S : OSt w W n gg cap x) (h : Below (w.heap.size + 2) W W') (hown : W'.ownsRow (w.heap.size + 2) 59 1 (.slice (some ⟨gg', 0, none⟩) x'.length cap') x'.length (ws x')) (hok : ok x') :
    OSt w (W'.setCell ⟨w.heap.size, 1, none⟩ (.slice (some ⟨gg', 0, none⟩) x'.length cap')) n gg' cap' x' := by
  have hz := S.size
  have h0 : w.heap.size < w.heap.size + 2 := by omega
  have h1 : w.heap.size + 1 < w.heap.size + 2 := by omega
  refine ⟨(S.bel.trans (h.mono (by omega))).setCell (p := ⟨w.heap.size, 1, none⟩) (Nat.le_refl _) _, by simpa using Nat.le_trans S.size h.size, ?_, World.cell?_setCell_same _ _ _ ((h.cell (p := ⟨w.heap.size, 1, none⟩) h0).trans S.p1), ?_, ?_, ?_, ?_, ownsRow_setCell_below hown (by show w.heap.size < _; omega) _, hok⟩
  · exact (World.cell?_setCell_other _ _ _ _ (by intro h; cases h)).trans ((h.cell (p := ⟨w.heap.size, 0, none⟩) h0).trans S.p0)
  · exact (World.cell?_setCell_other _ _ _ _ (by intro h; simp at h)).trans ((h.cell (p := ⟨w.heap.size + 1, 0, none⟩) h1).trans S.r0)
  · exact (World.cell?_setCell_other _ _ _ _ (by intro h; simp at h)).trans ((h.cell (p := ⟨w.heap.size + 1, 1, none⟩) h1).trans S.r1)
  · intro k; simpa [go_sem] using (below_frozen h (p := ⟨w.heap.size, k, none⟩) h0).trans (S.fp k)
  · intro k; simpa [go_sem] using (below_frozen h (p := ⟨w.heap.size + 1, k, none⟩) h1).trans (S.fr k)

/-- a word stored -/
theorem OSt.set {w W : World} {n : Bool} {gg cap : Nat} {x : List Nat} (S : OSt w W n gg cap x) (j v : Nat) (hv : v < 4294967296) : OSt w (W.setCell ⟨gg, j, none⟩ (.int .u32 (v : Int))) n gg cap (x.set j v) := by
  have hg := (S.own.lt gg rfl).1
  have hz := S.size
  have h := (Below.refl (w.heap.size + 2) W).setCell (p := ⟨gg, j, none⟩) hg (.int .u32 (v : Int))
  have h0 : w.heap.size < w.heap.size + 2 := by omega
  have h1 : w.heap.size + 1 < w.heap.size + 2 := by omega
  refine ⟨S.bel.trans (h.mono (by omega)), by simpa using hz, (h.cell (p := ⟨w.heap.size, 0, none⟩) h0).trans S.p0, ?_, (h.cell (p := ⟨w.heap.size + 1, 0, none⟩) h1).trans S.r0, (h.cell (p := ⟨w.heap.size + 1, 1, none⟩) h1).trans S.r1, fun k => (below_frozen h (p := ⟨w.heap.size, k, none⟩) h0).trans (S.fp k), fun k => (below_frozen h (p := ⟨w.heap.size + 1, k, none⟩) h1).trans (S.fr k), ?_, ok_set S.okx j hv⟩
  · rw [List.length_set]; exact (h.cell (p := ⟨w.heap.size, 1, none⟩) h0).trans S.p1
  · rw [List.length_set]; exact own_set S.own j v (v : Int) rfl

/-- the result's box, filled -/
theorem OSt.done {w W : World} {n : Bool} {gg cap : Nat} {x : List Nat} (S : OSt w W n gg cap x) (w' : World) (hw : w' = (W.setCell ⟨w.heap.size + 1, 0, none⟩ (.bool n)).setCell ⟨w.heap.size + 1, 1, none⟩ (.slice (some ⟨gg, 0, none⟩) x.length cap)) :
    Rd w' w'.heap.size (some ⟨gg, 0, none⟩) cap x ∧ Below w.heap.size w w' ∧ w'.cell? ⟨w.heap.size + 1, 0, none⟩ = some (.bool n) ∧ w'.cell? ⟨w.heap.size + 1, 1, none⟩ = some (.slice (some ⟨gg, 0, none⟩) x.length cap) := by
  subst hw
  obtain ⟨A, c, e, R⟩ := own_rd (show Owns (w.heap.size + 2) W (.slice (some ⟨gg, 0, none⟩) x.length cap) x from S.own) S.okx
  injection e with e1 e2 e3
  subst e1 e3
  have e1 : (W.setCell ⟨w.heap.size + 1, 0, none⟩ (.bool n)).cell? ⟨w.heap.size + 1, 1, none⟩ = some (.slice none 0 0) := (World.cell?_setCell_other _ _ _ _ (by intro h; cases h)).trans S.r1
  have R1 : Rd (W.setCell ⟨w.heap.size + 1, 0, none⟩ (.bool n)) W.heap.size (some ⟨gg, 0, none⟩) cap x := rd_set R (ni_bool S.r0)
  have R2 := rd_set (v := .slice (some ⟨gg, 0, none⟩) x.length cap) R1 (ni_slice e1)
  refine ⟨R2.more (by simp), (S.bel.setCell (p := ⟨w.heap.size + 1, 0, none⟩) (by show w.heap.size ≤ w.heap.size + 1; omega) _).setCell (p := ⟨w.heap.size + 1, 1, none⟩) (by show w.heap.size ≤ w.heap.size + 1; omega) _, ?_, World.cell?_setCell_same _ _ _ e1⟩
  exact (World.cell?_setCell_other _ _ _ _ (by intro h; cases h)).trans (World.cell?_setCell_same _ _ _ S.r0)

theorem ost_first {w W : World} {n : Bool} {A : Option Addr} {c : Nat} {x : List Nat} (h : Below w.heap.size w W ∧ W.heap.size = w.heap.size + 1 + 1 ∧ W.cell? ⟨w.heap.size, 0, none⟩ = some (.bool n) ∧ W.cell? ⟨w.heap.size, 1, none⟩ = some (.slice A x.length c) ∧
    W.cell? ⟨w.heap.size + 1, 0, none⟩ = some (.bool false) ∧ W.cell? ⟨w.heap.size + 1, 1, none⟩ = some (.slice none 0 0) ∧ (∀ k, W.frozen? ⟨w.heap.size, k, none⟩ = false) ∧ (∀ k, W.frozen? ⟨w.heap.size + 1, k, none⟩ = false) ∧ Rd W W.heap.size A c x) (hok : ok x) :
    ∀ (W' : World) (gg cap : Nat), Below W.heap.size W W' → W'.ownsRow (w.heap.size + 2) 59 1 (.slice (some ⟨gg, 0, none⟩) x.length cap) x.length (ws x) → OSt w (W'.setCell ⟨w.heap.size, 1, none⟩ (.slice (some ⟨gg, 0, none⟩) x.length cap)) n gg cap x := by
  intro W' gg cap hb hown
  obtain ⟨h1, h2, k0, k1, r0, r1, fp, fr, _⟩ := h
  have l0 : w.heap.size < W.heap.size := by omega
  have l1 : w.heap.size + 1 < W.heap.size := by omega
  refine ⟨(h1.trans (hb.mono h1.size)).setCell (p := ⟨w.heap.size, 1, none⟩) (Nat.le_refl _) _, by have := hb.size; simp; omega, ?_, World.cell?_setCell_same _ _ _ ((hb.cell (p := ⟨w.heap.size, 1, none⟩) l0).trans k1), ?_, ?_, ?_, ?_, ownsRow_setCell_below hown (by show w.heap.size < _; omega) _, hok⟩
  · exact (World.cell?_setCell_other _ _ _ _ (by intro h; cases h)).trans ((hb.cell (p := ⟨w.heap.size, 0, none⟩) l0).trans k0)
  · exact (World.cell?_setCell_other _ _ _ _ (by intro h; simp at h)).trans ((hb.cell (p := ⟨w.heap.size + 1, 0, none⟩) l1).trans r0)
  · exact (World.cell?_setCell_other _ _ _ _ (by intro h; simp at h)).trans ((hb.cell (p := ⟨w.heap.size + 1, 1, none⟩) l1).trans r1)
  · intro k; simpa [go_sem] using (below_frozen hb (p := ⟨w.heap.size, k, none⟩) l0).trans (fp k)
  · intro k; simpa [go_sem] using (below_frozen hb (p := ⟨w.heap.size + 1, k, none⟩) l1).trans (fr k)

set_option maxRecDepth 100000 in
set_option maxHeartbeats 8000000 in
theorem odd_any (w : World) (a : Value) (z what : Int) (ha : IsBig w a z) (hl : (digs z.natAbs).length ≤ 200) (h1 : -9223372036854775808 ≤ what) (h2 : what < 9223372036854775808) :
    Calls Tryz.prog 7 #[a, .int .i64 what] w (Oddly w) := by
  obtain ⟨A, c, rfl, R⟩ := ha
  obtain ⟨i0, hi, hz0, hz1, hz2⟩ := info_parts info_u32
  go_enter Tryz.func7, Tryz.ntmps7
  generalize decide (z < 0) = n at *
  obtain ⟨x, hx⟩ : ∃ x, x = digs z.natAbs := ⟨_, rfl⟩
  have hokx : ok x := by rw [hx]; exact ok_digs _
  rw [← hx] at hl R ⊢
  clear hx
  obtain ⟨W, hW⟩ : ∃ W, W = (w.alloc (.cells #[.bool n, .slice A x.length c] 28)).alloc (.cells #[.bool false, .slice none 0 0] 28) := ⟨_, rfl⟩
  have hbel : Below w.heap.size w W := by rw [hW]; exact ((Below.refl _ _).alloc (Nat.le_refl _) _).alloc (by simp) _
  have hsz : W.heap.size = w.heap.size + 1 + 1 := by rw [hW]; simp
  have k0 : W.cell? ⟨w.heap.size, 0, none⟩ = some (.bool n) := by rw [hW]; simp [go_sem]
  have k1 : W.cell? ⟨w.heap.size, 1, none⟩ = some (.slice A x.length c) := by rw [hW]; simp [go_sem]
  have r0 : W.cell? ⟨w.heap.size + 1, 0, none⟩ = some (.bool false) := by rw [hW]; simp [go_sem]
  have r1 : W.cell? ⟨w.heap.size + 1, 1, none⟩ = some (.slice none 0 0) := by rw [hW]; simp [go_sem]
  have fp : ∀ k, W.frozen? ⟨w.heap.size, k, none⟩ = false := by intro k; rw [hW]; simp [go_sem]
  have fr : ∀ k, W.frozen? ⟨w.heap.size + 1, k, none⟩ = false := by intro k; rw [hW]; simp [go_sem]
  go_upto_region 1 with fail
  rw [← hW]
  clear hW
  have R1 := (R.below hbel).more hbel.size
  have HW := Lib.hid (And.intro hbel (And.intro hsz (And.intro k0 (And.intro k1 (And.intro r0 (And.intro r1 (And.intro fp (And.intro fr R1))))))))
  have f1 := fp 1
  clear hbel hsz k0 r0 r1 fp fr R R1
  go_cut [8] (fun _ wx => ∃ gg cap, Hid (OSt w wx n gg cap x))
  case first =>
    have hb0 := (Below.refl W.heap.size W).alloc (Nat.le_refl _) (.cells #[] 59)
    have HO0 := Lib.hid (own_new W [] #[] rfl (by decide))
    have hwl : w.heap.size < W.heap.size := by have := HW.out.2.1; omega
    have k1' := (hb0.cell (p := ⟨w.heap.size, 1, none⟩) hwl).trans k1
    have f1' := (below_frozen hb0 (p := ⟨w.heap.size, 1, none⟩) hwl).trans f1
    have HB0 := Lib.hid hb0
    have OS := ost_first HW.out hokx
    have HOS := Lib.hid OS
    clear hb0 OS
    by_cases hl0 : x.length = 0
    · obtain rfl : x = [] := List.eq_nil_of_length_eq_zero hl0
      clear hl0 hl
      rw [List.length_nil] at k1'
      go_wp2_with (first
        | (at_builtin; refine wpList_append_nothing rfl _ _ 26 rfl 59 i0 Tryz.underlying26 hi _ 0 0 (Nat.le_refl _) rfl A c rfl ?_))
      have HO1 := Lib.hid (own_base0 HO0.out (show w.heap.size + 2 ≤ W.heap.size by have := HW.out.2.1; omega))
      clear HO0
      go_meet
      refine ⟨W.heap.size, 0, Lib.hid ?_⟩
      have h9 := HOS.out _ _ _ HB0.out HO1.out
      rw [World.setCell_alloc_past _ _ _ _ hwl] at h9
      exact h9
    · obtain ⟨ab, aoff, rfl, hab, hac⟩ := HW.out.2.2.2.2.2.2.2.2.cells (by omega)
      have HN2 := Lib.hid (rd_news (HW.out.2.2.2.2.2.2.2.2.below HB0.out))
      have hl0' : 0 < x.length := by omega
      clear hac hl0
      go_wp2_with (first
        | (at_builtin; refine wpList_append_lies _ rfl _ _ 26 rfl W.heap.size 59 i0 (.int .u32 0) 1 4 Tryz.underlying26 hi hz0 hz1 hz2 rfl (by decide) _ 0 [] rfl HO0.out ⟨ab, aoff, none⟩ x.length c (ws x) rfl (by rw [ws_length, Nat.mul_one]) HN2.out (ws_oneCell x) hl0' (by unfold maxLen; omega) (by omega) HB0.out.size _ rfl ?_; intro gg cap w1 hown1 hgrow hat hlt2; have hown2 : Owns W.heap.size w1 (.slice (some ⟨gg, 0, none⟩) x.length cap) x := (by have h1 := hown1; rw [Nat.zero_add] at h1; exact h1); have hb1 : Below W.heap.size W w1 := HB0.out.grown hgrow HB0.out.size (fun j hj => (HO0.out.lt j hj).1); have H1 := Lib.hid (And.intro hown2 hb1); have k2 := (hb1.cell (p := ⟨w.heap.size, 1, none⟩) (by show w.heap.size < _; have := HW.out.2.1; omega)).trans k1; have f2 := (below_frozen hb1 (p := ⟨w.heap.size, 1, none⟩) (by show w.heap.size < _; have := HW.out.2.1; omega)).trans f1; clear hown1 hgrow hat hlt2 hown2 hb1))
      go_wp2_with fail
      go_meet
      exact ⟨gg, cap, Lib.hid (HOS.out _ _ _ H1.out.2 (own_base0 H1.out.1 (by have := HW.out.2.1; omega)))⟩
  case rest =>
  obtain ⟨gg, cap, HS⟩ := hcut
  clear k1 f1 HW
  go_wp2_with fail
  refine (mod_any wc what 4 h1 h2 (by decide) (by decide)).mono ?_
  rintro _ _ ⟨m, rfl, hm, rfl⟩
  have p0 := HS.out.p0
  have p1 := HS.out.p1
  have r0 := HS.out.r0
  have r1 := HS.out.r1
  have fp0 := HS.out.fp 0
  have fp1 := HS.out.fp 1
  have fr0 := HS.out.fr 0
  have fr1 := HS.out.fr 1
  have hm4 : m = 0 ∨ m = 1 ∨ m = 2 ∨ m = 3 := by omega
  rcases hm4 with rfl | rfl | rfl | rfl
  · go_upto_region 4 with fail
    go_wp2_with (first
      | (at_builtin; (refine wpList_append_lies _ rfl _ _ 26 rfl (w.heap.size + 2) 59 i0 (.int .u32 0) 1 4 Tryz.underlying26 hi hz0 hz1 hz2 rfl (by decide) _ x.length (ws x) rfl (HS.out.own.alloc _) ⟨wc.heap.size, 0, none⟩ 1 1 [.int .u32 0] rfl rfl (cell_one_new _ _ _) (fun u hu => by simp at hu; subst hu; rfl) (by decide) (by unfold maxLen; omega) (by omega) (by have := HS.out.size; simp; omega) _ rfl ?_); intro g2 cap2 w6 hown6 hgrow hat hlt6; have hb6 : Below (w.heap.size + 2) wc w6 := (((Below.refl _ _).alloc HS.out.size (.cells #[.int .u32 0] 59)).grown hgrow (by have := HS.out.size; simp; omega) (fun j hj => ((HS.out.own.alloc (.cells #[.int .u32 0] 59)).lt j hj).1)); have hown7 : w6.ownsRow (w.heap.size + 2) 59 1 (.slice (some ⟨g2, 0, none⟩) (x ++ [0]).length cap2) (x ++ [0]).length (ws (x ++ [0])) := (by rw [ws_append, List.length_append]; exact hown6); have S3 := HS.out.words hb6 hown7 (ok_append.2 ⟨HS.out.okx, by intro u hu; simp at hu; omega⟩); have q1 := (hb6.cell (p := ⟨w.heap.size, 1, none⟩) (by show w.heap.size < _; omega)).trans p1; have g1 := (below_frozen hb6 (p := ⟨w.heap.size, 1, none⟩) (by show w.heap.size < _; omega)).trans fp1; have hd := S3.done _ rfl; have HD := Lib.hid hd; have hz6 := HS.out.size; have q0 := (hb6.cell (p := ⟨w.heap.size, 0, none⟩) (by show w.heap.size < _; omega)).trans p0; have s0 := (hb6.cell (p := ⟨w.heap.size + 1, 0, none⟩) (by show w.heap.size + 1 < _; omega)).trans r0; have s1 := (hb6.cell (p := ⟨w.heap.size + 1, 1, none⟩) (by show w.heap.size + 1 < _; omega)).trans r1; have t0 := (below_frozen hb6 (p := ⟨w.heap.size + 1, 0, none⟩) (by show w.heap.size + 1 < _; omega)).trans fr0; have t1 := (below_frozen hb6 (p := ⟨w.heap.size + 1, 1, none⟩) (by show w.heap.size + 1 < _; omega)).trans fr1; clear hown6 hgrow hat hlt6 hb6 hown7 S3 hd hz6))
    have hx1 : (x ++ [0]).length = x.length + 1 := by simp
    have HD2 := Lib.hid HD.out
    rw [hx1] at HD2
    (try simp only [Exit.inBlock, Exit.then])
    refine bodyPost_ret (results_big1 rfl _ _ (w.heap.size + 1) rfl HD2.out.2.2.1 HD2.out.2.2.2) rfl ?_
    exact ⟨n, _, cap2, x ++ [0], by rw [hx1], HD2.out.1, by rw [hx1]; omega, HD2.out.2.1⟩
  · have S2 := HS.out.flip (!n)
    have hd := S2.done _ rfl
    have HD := Lib.hid hd
    clear S2 hd
    go_wp2_with fail
    (try simp only [Exit.inBlock, Exit.then])
    refine bodyPost_ret (results_big1 rfl _ _ (w.heap.size + 1) rfl HD.out.2.2.1 HD.out.2.2.2) rfl ?_
    exact ⟨!n, _, cap, x, rfl, HD.out.1, by omega, HD.out.2.1⟩
  · obtain ⟨u, hu⟩ : ∃ u, u = what.tdiv 4 := ⟨_, rfl⟩
    have hub : -9223372036854775808 ≤ u ∧ u < 9223372036854775808 := by
      have h3 : u.natAbs = what.natAbs / 4 := by rw [hu]; exact Int.natAbs_tdiv what 4
      omega
    have HU := Lib.hid hub
    clear hub
    go_wp2_with fail
    rw [← hu]
    refine (mod_any wc u 2 HU.out.1 HU.out.2 (by decide) (by decide)).mono ?_
    rintro _ _ ⟨m2, rfl, hm2, rfl⟩
    obtain ⟨N, hN⟩ : ∃ N : Nat, N = 256 + m2 := ⟨_, rfl⟩
    obtain ⟨L, hL⟩ : ∃ L : Nat, L = 255 + m2 := ⟨_, rfl⟩
    have i1 : (256 : Int) + (m2 : Int) = (N : Int) := by omega
    have i2 : (N : Int) - 1 = (L : Int) := by omega
    have hNl : N ≤ 257 := by omega
    have hLN : L < N := by omega
    have hLz : (L : Int) < (N : Int) := by omega
    clear hL hN hu
    go_wp2_with (first
      | (refine wpList_make_full _ rfl _ _ 26 rfl (w.heap.size + 2) 59 i0 _ 1 Tryz.underlying26 hi hz0 hz1 .i64 .i64 _ _ N rfl rfl rfl rfl (by rw [hz2]; omega) (by unfold maxLen; omega) HS.out.size ?_; intro w1 hown hgrow; rw [zeros_made] at hown; have hb6 : Below (w.heap.size + 2) wc w1 := (Below.refl _ _).grown hgrow HS.out.size (by simp); have hown7 : w1.ownsRow (w.heap.size + 2) 59 1 (.slice (some ⟨wc.heap.size, 0, none⟩) (List.replicate N 0).length N) (List.replicate N 0).length (ws (List.replicate N 0)) := (by rw [List.length_replicate]; exact hown); have S3 := HS.out.words hb6 hown7 (ok_replicate N); rw [List.length_replicate] at S3; have HS3 := Lib.hid S3; have q1 := (hb6.cell (p := ⟨w.heap.size, 1, none⟩) (by show w.heap.size < _; omega)).trans p1; have g1 := (below_frozen hb6 (p := ⟨w.heap.size, 1, none⟩) (by show w.heap.size < _; omega)).trans fp1; have w1c := own_cell hown L hLN; have w1f := hown.frozenAt L; have S4 := S3.set L 1 (by decide); have hd := S4.done _ rfl; rw [List.length_set, List.length_replicate] at hd; have HD := Lib.hid hd; have hz6 := HS.out.size; have q0 := (hb6.cell (p := ⟨w.heap.size, 0, none⟩) (by show w.heap.size < _; omega)).trans p0; have s0 := (hb6.cell (p := ⟨w.heap.size + 1, 0, none⟩) (by show w.heap.size + 1 < _; omega)).trans r0; have s1 := (hb6.cell (p := ⟨w.heap.size + 1, 1, none⟩) (by show w.heap.size + 1 < _; omega)).trans r1; have t0 := (below_frozen hb6 (p := ⟨w.heap.size + 1, 0, none⟩) (by show w.heap.size + 1 < _; omega)).trans fr0; have t1 := (below_frozen hb6 (p := ⟨w.heap.size + 1, 1, none⟩) (by show w.heap.size + 1 < _; omega)).trans fr1; have hne1 : ¬ w.heap.size = wc.heap.size := (by omega); have hne2 : ¬ w.heap.size + 1 = wc.heap.size := (by omega); clear hown hgrow hb6 hown7 S3 S4 hd hz6))
    (try simp only [Exit.inBlock, Exit.then])
    refine bodyPost_ret (results_big1 rfl _ _ (w.heap.size + 1) rfl HD.out.2.2.1 HD.out.2.2.2) rfl ?_
    exact ⟨n, _, N, (List.replicate N 0).set L 1, by rw [List.length_set, List.length_replicate], HD.out.1, by rw [List.length_set, List.length_replicate]; exact hNl, HD.out.2.1⟩
  · have hd := HS.out.done _ rfl
    have HD := Lib.hid hd
    clear hd
    go_wp2_with fail
    (try simp only [Exit.inBlock, Exit.then])
    refine bodyPost_ret (results_big1 rfl _ _ (w.heap.size + 1) rfl HD.out.2.2.1 HD.out.2.2.2) rfl ?_
    exact ⟨n, _, cap, x, rfl, HD.out.1, by omega, HD.out.2.1⟩

end Go.Proofs.YtbeidpeoichakaaGreatDoor.rf
