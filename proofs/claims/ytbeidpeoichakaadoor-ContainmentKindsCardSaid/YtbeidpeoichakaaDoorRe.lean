/- The reference: TextBig. -/
import Derived.Test.YtbeidpeoichakaaDoorRa
import Derived.Test.YtbeidpeoichakaaDoorRb
import Derived.Test.YtbeidpeoichakaaDoorHa
import Derived.Test.YtbeidpeoichakaaDoorJc
import Derived.Test.YtbeidpeoichakaaDoorHe
import Derived.Deep.AppendSrc
import Derived.Deep.Upon
import Derived.Laws.IdiomStrings
set_option linter.unusedSimpArgs false
set_option linter.unusedVariables false
namespace Go.Proofs.YtbeidpeoichakaaDoor.re
open Go.RowKit Go.Proofs.YtbeidpeoichakaaDoor.fm Go.Proofs.YtbeidpeoichakaaDoor.mem Go.Proofs.YtbeidpeoichakaaDoor.fa Go.Proofs.YtbeidpeoichakaaDoor.fb Go.Proofs.YtbeidpeoichakaaDoor.ff Go.Proofs.YtbeidpeoichakaaDoor.fu Go.Proofs.YtbeidpeoichakaaDoor.fv Go.Proofs.YtbeidpeoichakaaDoor.fw Go.Proofs.YtbeidpeoichakaaDoor.fx Go.Proofs.YtbeidpeoichakaaDoor.fy Go.Proofs.YtbeidpeoichakaaDoor.ha Go.Proofs.YtbeidpeoichakaaDoor.hc Go.Proofs.YtbeidpeoichakaaDoor.jh Go.Proofs.YtbeidpeoichakaaDoor.ja Go.Proofs.YtbeidpeoichakaaDoor.ra Go.Proofs.YtbeidpeoichakaaDoor.rb

/-- nothing is appended -/
theorem wpList_append_nothing {P : Program} {ops : Array Oper} {rest : List Oper} {o : Oper} {a : Act} {Q : Exit → Act → World → Prop} {w : World} (hgd : o.guard = none) (s x : Operand) (t : TypeId)
    (ho : o.op = .call { callee := .builtin .append, args := #[s, x], argTypes := #[t, t] }) (e : TypeId) (i : TypeInfo) (ht : P.underlying t = some (.slice e)) (hi : P.info? e = some i)
    (b : Option Addr) (n cap : Nat) (hn : n ≤ cap) (hs : a.eval s = .slice b n cap) (ad : Option Addr) (c : Nat) (hx : a.eval x = .slice ad 0 c)
    (h : wpList P ops Q rest (a.put o.dst (.slice b n cap)) w) : wpList P ops Q (o :: rest) a w := by
  have hsrc : Src P i.size t (.slice ad 0 c) 0 [] w := by
    cases ad with
    | none => exact Src.ofNil w ht c
    | some ad => exact Src.ofSlice w ht ad 0 c [] (by simp) (fun j u hu => by simp at hu) (fun u hu => by simp at hu)
  refine wpList_plain hgd fun K hK => ?_
  have hrun := run_append_nothing (P := P) w t t o.type e i ht hi b n cap hn (.slice ad 0 c) hsrc
  unfold Oper.wp execOp
  simp only [ho, resolve, invoke, builtin, Sem.run_bind, Sem.run_pure, Result.andThen_ok, List.map_toArray, List.map_cons, List.map_nil, hs, hx, hrun]
  exact hK _ _ h

/-- What is written (t) and what is left to be written (m) are the digits of n, digit by digit. -/
def Left1 (n m : Nat) (t : List UInt8) : Prop := if m = 0 then t = if n = 0 then [] else Lib.decDigits n else Lib.decDigits m ++ t = Lib.decDigits n

theorem left1_start (n : Nat) : Left1 n n [] := by
  unfold Left1
  by_cases h : n = 0
  · rw [if_pos h, if_pos h]
  · rw [if_neg h]; simp
theorem left1_end {n : Nat} {t : List UInt8} (h : Left1 n 0 t) : t = if n = 0 then [] else Lib.decDigits n := by unfold Left1 at h; rwa [if_pos rfl] at h

theorem dec_last (m : Nat) (h : m / 10 ≠ 0) : Lib.decDigits m = Lib.decDigits (m / 10) ++ [UInt8.ofNat (48 + m % 10)] := by
  rw [Lib.decDigits, dif_neg (by omega)]

theorem left1_step {n m : Nat} {t : List UInt8} (h : Left1 n m t) (hm : m ≠ 0) : Left1 n (m / 10) (UInt8.ofNat (48 + m % 10) :: t) := by
  unfold Left1 at *
  rw [if_neg hm] at h
  by_cases hq : m / 10 = 0
  · rw [if_pos hq]
    have hlt : m < 10 := by omega
    have hn : n ≠ 0 := by
      rintro rfl
      have h1 : (Lib.decDigits m ++ t).length = (Lib.decDigits 0).length := by rw [h]
      rw [List.length_append, Lib.decDigits_one hlt, Lib.decDigits_one (by decide)] at h1
      have ht : t = [] := by
        apply List.eq_nil_of_length_eq_zero
        simpa using h1
      rw [ht, Lib.decDigits_one hlt, Lib.decDigits_one (by decide)] at h
      have h2 : UInt8.ofNat (48 + m) = UInt8.ofNat (48 + 0) := by simpa using h
      have h3 := congrArg UInt8.toNat h2
      rw [UInt8.toNat_ofNat', UInt8.toNat_ofNat'] at h3
      omega
    rw [if_neg hn, ← h, Lib.decDigits_one hlt, Nat.mod_eq_of_lt hlt]
    rfl
  · rw [if_neg hq, ← h, dec_last m hq]
    simp

theorem left1_len {n m : Nat} {t : List UInt8} (h : Left1 n m t) : t.length ≤ (Lib.decDigits n).length := by
  unfold Left1 at h
  split at h
  · split at h
    · rw [h]; simp
    · rw [h]; exact Nat.le_refl _
  · rw [← h, List.length_append]; omega

theorem own_base0 {base base' : Nat} {w : World} {v : Value} {l : List Nat} (h : Owns base w v l) (hb : base' ≤ base) : w.ownsRow base' 68 1 v l.length (ws l) := by
  obtain ⟨h1, h2⟩ := h
  refine ⟨h1, ?_⟩
  rcases h2 with h2 | ⟨b, cap, cur, hv, hbb, r⟩
  · exact Or.inl h2
  · exact Or.inr ⟨b, cap, cur, hv, Nat.le_trans hb hbb, r⟩

theorem ref_end {base : Nat} {w : World} {g n cap m : Nat} {Q : List Nat} (hok : ok Q) (hv : val Q = m) (h : w.ownsRow base 68 1 (.slice (some ⟨g, 0, none⟩) n cap) n (ws Q)) (o : Obj) :
    (w.alloc o).drew.ownsRow base 68 1 (.slice (some ⟨g, 0, none⟩) (digs m).length cap) (digs m).length (ws (digs m)) := by
  have hl := own_len h
  have hd := digs_take hok
  rw [hv] at hd
  have hle : (digs m).length ≤ n := by have h2 : (digs m).length = (Q.take (digs m).length).length := by rw [← hd]
                                       rw [List.length_take] at h2; omega
  have h1 := own_trim h (digs m).length hle
  rw [← hd] at h1
  exact h1.alloc o

set_option maxRecDepth 100000 in
set_option maxHeartbeats 8000000 in
theorem rtextBig_any (w : World) (a : Value) (z : Int) (ha : IsBig w a z) (hl : (digs z.natAbs).length ≤ 256) :
    Calls Tryd.prog 35 #[a] w fun e w' => e = .returned (.string (ba (Lib.itoa z))) ∧ Below w.heap.size w w' := by
  obtain ⟨A, c, rfl, R⟩ := ha
  obtain ⟨i0, hi, hz0, hz1, hz2⟩ := info_parts info_u32
  go_enter Tryd.func35, Tryd.ntmps35
  have hb2 : Below w.heap.size w (w.alloc (.cells #[.bool (decide (z < 0)), .slice A (digs z.natAbs).length c] 25)) := (Below.refl _ _).alloc (Nat.le_refl _) _
  obtain ⟨W, hW⟩ : ∃ W, W = (w.alloc (.cells #[.bool (decide (z < 0)), .slice A (digs z.natAbs).length c] 25)) := ⟨_, rfl⟩
  have hsz : W.heap.size = w.heap.size + 1 := by rw [hW]; simp
  have a0 : W.cell? ⟨w.heap.size, 0, none⟩ = some (.bool (decide (z < 0))) := by rw [hW]; simp [go_sem]
  have a1 : W.cell? ⟨w.heap.size, 1, none⟩ = some (.slice A (digs z.natAbs).length c) := by rw [hW]; simp [go_sem]
  rw [← hW] at hb2
  have HB := Lib.hid (And.intro hb2 (And.intro hsz (And.intro a0 a1)))
  clear hb2 hsz
  go_upto_region 1 with fail
  rw [← hW]
  clear hW
  go_wp2_with fail
  refine (rvalidBig_any W _ z ⟨A, c, rfl, (R.below HB.out.1).more HB.out.1.size⟩ hl).mono ?_
  rintro _ W1 ⟨rfl, hb1⟩
  have k0 := (hb1.cell (p := ⟨w.heap.size, 0, none⟩) (by show w.heap.size < _; have := HB.out.2.1; omega)).trans HB.out.2.2.1
  have k1 := (hb1.cell (p := ⟨w.heap.size, 1, none⟩) (by show w.heap.size < _; have := HB.out.2.1; omega)).trans HB.out.2.2.2
  have hlt : w.heap.size < W1.heap.size := by have := hb1.size; have := HB.out.2.1; omega
  have H3 := Lib.hid (And.intro (HB.out.1.trans (hb1.mono HB.out.1.size)) hlt)
  have R1 := (R.below H3.out.1).more H3.out.1.size
  clear hb1 HB a0 a1 R hlt
  obtain ⟨n, hN⟩ : ∃ n, n = z.natAbs := ⟨_, rfl⟩
  rw [← hN] at R1 hl k1
  have HN := Lib.hid hN
  have hlong : (Lib.decDigits n).length ≤ 2560 := dec_long (k := 256) (by decide) ((lt_len_iff _ _).1 hl)
  have HLong := Lib.hid hlong
  clear hN hlong
  go_upto_region 3 with fail
  go_cut [3, 4] (fun s3 s4 wx => ∃ gg cap, s3 = .slice (some ⟨gg, 0, none⟩) (digs n).length cap ∧ s4 = .string (ba []) ∧ wx.ownsRow (w.heap.size + 1) 68 1 s3 (digs n).length (ws (digs n)) ∧ Below (w.heap.size + 1) W1 wx)
  case first =>
    have hb0 := (Below.refl W1.heap.size W1).alloc (Nat.le_refl _) (.cells #[] 68)
    have HO0 := Lib.hid (own_new W1 [] #[] rfl (by decide))
    have HB0 := Lib.hid hb0
    clear hb0
    have hlt1 := H3.out.2
    by_cases h0 : n = 0
    · subst h0
      rw [show (digs 0).length = 0 from rfl] at *
      clear R1
      go_wp2_with (first
        | (at_builtin; refine wpList_append_nothing rfl _ _ 23 rfl 68 i0 Tryd.underlying23 hi _ 0 0 (Nat.le_refl _) rfl A c rfl ?_))
      go_meet
      exact ⟨W1.heap.size, 0, rfl, rfl, own_base0 HO0.out H3.out.2, HB0.out.mono H3.out.2⟩
    · have hl0 : 0 < (digs n).length := by have : (digs n).length ≠ 0 := fun e => h0 (digs_len_zero.1 e); omega
      obtain ⟨x, hx⟩ : ∃ x, x = digs n := ⟨_, rfl⟩
      rw [← hx] at R1 hl hl0 k1
      obtain ⟨ab, aoff, rfl, hab, hac⟩ := R1.cells hl0
      have HN2 := Lib.hid (je.rd_news (R1.below HB0.out))
      have HXX := Lib.hid hx
      clear hac hx h0
      go_wp2_with (first
        | (at_builtin; refine wpList_append_lies _ rfl _ _ 23 rfl W1.heap.size 68 i0 (.int .u32 0) 1 4 Tryd.underlying23 hi hz0 hz1 hz2 rfl (by decide) _ 0 [] rfl HO0.out ⟨ab, aoff, none⟩ x.length c (ws x) rfl (by rw [ws_length, Nat.mul_one]) HN2.out (ws_oneCell x) hl0 (by unfold maxLen; omega) (by omega) HB0.out.size _ rfl ?_; intro gg cap w1 hown1 hgrow hat hlt2; have hown2 : Owns W1.heap.size w1 (.slice (some ⟨gg, 0, none⟩) x.length cap) x := (by have h1 := hown1; rw [Nat.zero_add] at h1; exact h1); have hb1 : Below W1.heap.size W1 w1 := HB0.out.grown hgrow HB0.out.size (fun j hj => (HO0.out.lt j hj).1); have H1 := Lib.hid (And.intro hown2 hb1); clear hown1 hgrow hat hlt2 hown2 hb1))
      go_wp2_with fail
      go_meet
      exact ⟨gg, cap, by rw [← HXX.out], rfl, by rw [← HXX.out]; exact own_base0 H1.out.1 H3.out.2, H1.out.2.mono H3.out.2⟩
  case rest =>
  obtain ⟨gg, cap, rfl, rfl, hown, hbx⟩ := hcut
  have HS := Lib.hid (And.intro hown hbx)
  clear hown hbx k1 R1
  go_upto_region 4 with fail
  go_loopg [3, 4] n (fun g s3 s4 wr => ∃ (t : List UInt8) (gg cap : Nat), s3 = .slice (some ⟨gg, 0, none⟩) (digs g).length cap ∧ s4 = .string (ba t) ∧ Hid (Left1 n g t) ∧ g ≤ n ∧ Hid (wr.ownsRow (w.heap.size + 1) 68 1 (.slice (some ⟨gg, 0, none⟩) (digs g).length cap) (digs g).length (ws (digs g)) ∧ Below (w.heap.size + 1) W1 wr))
  case atStart => exact ⟨[], gg, cap, rfl, rfl, Lib.hid (left1_start n), Nat.le_refl _, HS⟩
  case round =>
    clear HS
    obtain ⟨t, gg, cap, rfl, rfl, HL, hgn, HO⟩ := hrel
    have kb := (HO.out.2.cell (p := ⟨w.heap.size, 0, none⟩) (Nat.lt_succ_self _)).trans k0
    have hts := left1_len HL.out
    have hts2 : t.length ≤ 2560 := Nat.le_trans hts HLong.out
    by_cases hg : gk = 0
    · subst hg
      have ht := left1_end HL.out
      have HT := Lib.hid ht
      rw [show (digs 0).length = 0 from rfl]
      clear ht hts
      have HBW := Lib.hid (H3.out.1.trans (HO.out.2.mono (Nat.le_of_lt (Nat.lt_of_lt_of_le (Nat.lt_succ_self _) (Nat.le_refl _)))))
      by_cases h0 : n = 0
      · have ht0 : t = [] := by rw [HT.out, if_pos h0]
        have hz0 : z = 0 := by have := HN.out; omega
        subst ht0
        rw [decide_eq_false (by omega)] at kb
        have HZ := Lib.hid hz0
        clear h0 hgn hz0
        rw [show ba [] = ⟨#[]⟩ from rfl]
        go_wp2_with fail
        go_ret
        exact ⟨by rw [HZ.out, show Lib.itoa 0 = [48] by unfold Lib.itoa; rw [if_neg (by decide), Lib.decDigits, dif_pos (by decide)]; rfl]; rfl, HBW.out⟩
      · obtain ⟨T, hT⟩ : ∃ T, T = ba t := ⟨_, rfl⟩
        have ht0 : t = Lib.decDigits n := by rw [HT.out, if_neg h0]
        have hTs : T.size ≤ 2560 := by rw [hT, ba_size]; exact hts2
        have hT0 : T.size ≠ 0 := by
          rw [hT, ba_size, ht0, Lib.decDigits_length]
          have := Lib.nDigits_pos n
          omega
        have hne : ¬ T.toList = [] := he.toList_ne hT0
        have hne3 : T.toList.isEmpty = false := by cases h : T.toList with | nil => exact absurd h hne | cons a l => rfl
        have hne2 : (!T.toList.isEmpty) = true := by cases h : T.toList with | nil => exact absurd h hne | cons a l => rfl
        rw [← hT]
        have HTT := Lib.hid (And.intro hT ht0)
        clear hT ht0 hT0 hgn h0
        rcases Int.lt_or_le z 0 with hz | hz
        · rw [decide_eq_true hz] at kb
          have HS := Lib.hid hz
          clear hz
          go_wp2_with fail
          go_ret
          refine ⟨?_, HBW.out⟩
          rw [HTT.out.1, HTT.out.2, show (⟨#[45]⟩ : ByteArray) = ba [45] from rfl, ba_append]
          unfold Lib.itoa
          rw [if_pos HS.out, ← HN.out]
          rfl
        · rw [decide_eq_false (by omega)] at kb
          have HS := Lib.hid hz
          clear hz
          go_wp2_with fail
          go_ret
          refine ⟨?_, HBW.out⟩
          rw [HTT.out.1, HTT.out.2]
          unfold Lib.itoa
          have := HS.out
          rw [if_neg (by omega), show z.toNat = n by have := HN.out; omega]
          rfl
    · have hl0 : 0 < (digs gk).length := by have : (digs gk).length ≠ 0 := fun e => hg (digs_len_zero.1 e); omega
      have hll : (digs gk).length ≤ 256 := Nat.le_trans (len_mono hgn) hl
      obtain ⟨x, hx⟩ : ∃ x, x = digs gk := ⟨_, rfl⟩
      have hok : ok x := by rw [hx]; exact ok_digs _
      have hv : val x = gk := by rw [hx, val_digs]
      rw [← hx] at HO hl0 hll ⊢
      have HV := Lib.hid (And.intro hok (And.intro hv hx))
      have HG := Lib.hid (And.intro hg hgn)
      have HTS := Lib.hid hts2
      clear hok hv hx hg hgn hts hts2
      go_upto_region 7 with fail
      go_loopw [5, 6] (fun cv i wx => ∃ (k rest : Nat) (y : Int) (Q : List Nat), k ≤ x.length ∧ y = (k : Int) - 1 ∧ i = .int .i64 y ∧ cv = .int .u64 (rest : Int) ∧ rest < 10 ∧ Hid (ok Q ∧ (∀ j, j < k → Q.getD j 0 = x.getD j 0) ∧ val (x.drop k) = val (Q.drop k) * 10 + rest ∧
          wx.ownsRow (w.heap.size + 1) 68 1 (.slice (some ⟨gg, 0, none⟩) x.length cap) x.length (ws Q) ∧ Below (w.heap.size + 1) W1 wx)) (fun _ i _ => (intOf i + 1).toNat)
      case atStart => exact ⟨x.length, 0, _, x, Nat.le_refl _, rfl, rfl, rfl, by decide, Lib.hid ⟨HV.out.1, fun _ _ => rfl, by rw [List.drop_of_length_le (Nat.le_refl _)]; simp [val], HO.out.1, HO.out.2⟩⟩
      case round =>
        obtain ⟨k, rest, y, Q, hk, hy, rfl, rfl, hrest, H⟩ := hrel
        have hQl := own_len H.out.2.2.2.1
        rcases Nat.eq_zero_or_pos k with h0 | h0
        · subst h0
          obtain rfl : y = -1 := by omega
          have hE := H.out.2.2.1
          simp only [List.drop_zero] at hE
          have hq : val Q = gk / 10 := by have := HV.out.2.1; omega
          have hr : rest = gk % 10 := by have := HV.out.2.1; omega
          have HQ := Lib.hid (And.intro hq hr)
          clear hE hq hr hk hy
          go_upto_region 12 with fail
          obtain ⟨d, hd⟩ : ∃ d : Nat, d = 48 + rest := ⟨_, rfl⟩
          have i1 : IntKind.u8.wrap (rest : Int) = (rest : Int) := IntWalk.u8_in _ (by omega)
          have i2 : IntKind.u8.wrap (48 + (rest : Int)) = (d : Int) := by rw [IntWalk.u8_in _ (by omega)]; omega
          obtain ⟨AQ, cQ, eQ, RQ⟩ := own_rd (base := w.heap.size + 1) (v := .slice (some ⟨gg, 0, none⟩) x.length cap) (l := Q) (by have := H.out.2.2.2.1; rw [← hQl] at this; unfold Owns; rw [← hQl]; exact this) H.out.1
          have hrt : ∀ (X : World), Rd X X.heap.size AQ cQ Q → Calls Tryd.prog 57 #[.slice (some ⟨gg, 0, none⟩) x.length cap] X fun e w' => e = .returned (.slice (some ⟨gg, 0, none⟩) (digs (gk / 10)).length cap) ∧ X = w' := fun X RX => by
            have h1 := rtrim_any X X.heap.size AQ cQ Q RX (by omega)
            rw [← eQ, HQ.out.1] at h1
            injection eQ with e1 e2 e3
            rw [← e1, ← e3] at h1
            exact h1
          have HRT := Lib.hid hrt
          have hal := fun (X : World) (hX : Rd X X.heap.size AQ cQ Q) => hX
          have R1 := RQ.drewN 1
          have R2 : Rd (wr.alloc (.cells #[.int .u8 (d : Int)] 5)).drew (wr.alloc (.cells #[.int .u8 (d : Int)] 5)).drew.heap.size AQ cQ Q := ((RQ.below ((Below.refl _ _).alloc (Nat.le_refl _) (.cells #[.int .u8 (d : Int)] 5))).more (by simp)).drewN 1
          have HR := Lib.hid (And.intro R1 R2)
          have hcv := run_convert_bytes_back (P := Tryd.prog) (wr.alloc (.cells #[.int .u8 (d : Int)] 5)).drew 98 9 5 ⟨wr.heap.size, 0, none⟩ 1 [UInt8.ofNat d] (by kernel_rfl) (by kernel_rfl) (by kernel_rfl) (fun j hj => by
            obtain rfl : j = 0 := by simp at hj; omega
            show (wr.alloc (.cells #[.int .u8 (d : Int)] 5)).cell? ⟨wr.heap.size, 0, none⟩ = _
            rw [World.cell?_alloc_new]
            show some (Value.int .u8 (d : Int)) = some (Value.int .u8 ((UInt8.ofNat d).toNat : Int))
            rw [UInt8.toNat_ofNat', Nat.mod_eq_of_lt (by omega)])
          have hts3 := HTS.out
          rw [← ba_size] at hts3
          have hLs := left1_step HL.out HG.out.1
          rw [← HQ.out.2, ← hd] at hLs
          have HLS := Lib.hid hLs
          have HHd := Lib.hid hd
          simp only [List.length_cons, List.length_nil] at hcv
          clear hrt hal R1 R2 RQ eQ hd hLs
          go_region_with (first
            | (go_at_call 57; refine (HRT.out _ (by first | exact HR.out.1 | exact HR.out.2)).mono ?_; rintro _ _ ⟨rfl, rfl⟩))
          all_goals (have hend := ref_end H.out.1 HQ.out.1 H.out.2.2.2.1 (.cells #[.int .u8 (d : Int)] 5); have hbel := (H.out.2.2.2.2.alloc (Nat.le_trans (Nat.le_refl _) H.out.2.2.2.2.size |> fun h => Nat.le_trans (show w.heap.size + 1 ≤ W1.heap.size from H3.out.2) h) (.cells #[.int .u8 (d : Int)] 5)).drew; have HEND := Lib.hid (And.intro hend hbel); clear hend hbel)
          all_goals (obtain ⟨w9, hw9⟩ : ∃ w9, w9 = (wr.alloc (.cells #[.int .u8 (d : Int)] 5)).drew := ⟨_, rfl⟩)
          all_goals (rw [← hw9] at HEND ⊢; clear hw9 hcv HR HRT)
          all_goals (go_wp2_with fail)
          all_goals (go_roundg (gk / 10))
          all_goals first
            | (have h1 := HG.out.1; omega)
            | exact ⟨UInt8.ofNat d :: t, gg, cap, rfl, congrArg Value.string (ba_append [UInt8.ofNat d] t), HLS, by have := HG.out; omega, HEND⟩
        · obtain ⟨j, rfl⟩ : ∃ j, k = j + 1 := ⟨k - 1, by omega⟩
          obtain rfl : y = (j : Int) := by omega
          have c2 := own_cell H.out.2.2.2.1 j (by omega)
          have c3 := H.out.2.2.2.1.frozenAt j
          rw [H.out.2.1 j (by omega)] at c2
          obtain ⟨T, q, r, t1, t2, t3, hq, hr, heq, hT⟩ := div_word rest (x.getD j 0) 10 (ok_getD HV.out.1 j) (by decide) (by decide) hrest
          have hst := div_step x Q j 10 rest q r (by omega) (by omega) heq H.out.2.2.1
          have own2 := own_set H.out.2.2.2.1 j q (q : Int) rfl
          have bel2 := H.out.2.2.2.2.setCell (p := ⟨gg, j, none⟩) (H.out.2.2.2.1.lt gg rfl).1 (.int .u32 (q : Int))
          have O := Lib.hid (And.intro own2 (And.intro bel2 (And.intro hst (And.intro (ok_set H.out.1 j hq) (show ∀ i, i < j → (Q.set j q).getD i 0 = x.getD i 0 from fun i hi => by rw [fm.getD_set_ne _ _ _ _ (by omega)]; exact H.out.2.1 i (by omega))))))
          have i1 : (j : Int) < (x.length : Int) := by omega
          have t2' : (T : Int) / 10 = (q : Int) := t2
          have t3' : (T : Int) % 10 = (r : Int) := t3
          have bx := ok_getD HV.out.1 j
          have HJ := Lib.hid hk
          clear own2 bel2 hst heq hk hy hQl t2 t3
          generalize x.getD j 0 = xj at *
          go_wp2_with fail
          go_roundw
          case rel => exact ⟨j, r, (j : Int) - 1, _, by have := HJ.out; omega, rfl, by go_num, congrArg (Value.int .u64) t3', hr, Lib.hid ⟨O.out.2.2.2.1, O.out.2.2.2.2, O.out.2.2.1, O.out.1, O.out.2.1⟩⟩
          case measure => simp [intOf]

end Go.Proofs.YtbeidpeoichakaaDoor.re
