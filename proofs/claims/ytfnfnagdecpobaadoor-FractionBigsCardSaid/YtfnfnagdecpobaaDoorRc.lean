/- The reference: CmpBig, DivBig. -/
import Derived.Test.YtfnfnagdecpobaaDoorRb
import Derived.Test.YtfnfnagdecpobaaDoorJf
set_option linter.unusedSimpArgs false
namespace Go.Proofs.YtfnfnagdecpobaaDoor.rc
open Go.RowKit Go.Proofs.YtfnfnagdecpobaaDoor.fm Go.Proofs.YtfnfnagdecpobaaDoor.mem Go.Proofs.YtfnfnagdecpobaaDoor.fa Go.Proofs.YtfnfnagdecpobaaDoor.fb Go.Proofs.YtfnfnagdecpobaaDoor.fu Go.Proofs.YtfnfnagdecpobaaDoor.fv Go.Proofs.YtfnfnagdecpobaaDoor.fw Go.Proofs.YtfnfnagdecpobaaDoor.fx Go.Proofs.YtfnfnagdecpobaaDoor.fy Go.Proofs.YtfnfnagdecpobaaDoor.fz Go.Proofs.YtfnfnagdecpobaaDoor.gf Go.Proofs.YtfnfnagdecpobaaDoor.jh Go.Proofs.YtfnfnagdecpobaaDoor.ja Go.Proofs.YtfnfnagdecpobaaDoor.jf Go.Proofs.YtfnfnagdecpobaaDoor.pb Go.Proofs.YtfnfnagdecpobaaDoor.rb

/-- Two parameters in boxes of their own. -/
structure Duo (w W : World) (n n' : Bool) (s s' : Value) : Prop where
  bel : Below w.heap.size w W
  size : w.heap.size + 2 ≤ W.heap.size
  a0 : W.cell? ⟨w.heap.size, 0, none⟩ = some (.bool n)
  a1 : W.cell? ⟨w.heap.size, 1, none⟩ = some s
  b0 : W.cell? ⟨w.heap.size + 1, 0, none⟩ = some (.bool n')
  b1 : W.cell? ⟨w.heap.size + 1, 1, none⟩ = some s'

theorem duo_made (w : World) (n n' : Bool) (s s' : Value) : Duo w ((w.alloc (.cells #[.bool n, s] 28)).alloc (.cells #[.bool n', s'] 28)) n n' s s' := by
  refine ⟨((Below.refl _ _).alloc (Nat.le_refl _) _).alloc (by simp) _, by simp, ?_, ?_, ?_, ?_⟩
  all_goals simp [go_sem]

theorem Duo.after {w W W' : World} {n n' : Bool} {s s' : Value} (D : Duo w W n n' s s') (h : Below W.heap.size W W') : Duo w W' n n' s s' := by
  have hs := D.size
  have h0 : w.heap.size < W.heap.size := by omega
  have h1 : w.heap.size + 1 < W.heap.size := by omega
  exact ⟨D.bel.trans (h.mono D.bel.size), Nat.le_trans hs h.size, (h.cell (p := ⟨w.heap.size, 0, none⟩) h0).trans D.a0, (h.cell (p := ⟨w.heap.size, 1, none⟩) h0).trans D.a1, (h.cell (p := ⟨w.heap.size + 1, 0, none⟩) h1).trans D.b0, (h.cell (p := ⟨w.heap.size + 1, 1, none⟩) h1).trans D.b1⟩

theorem Duo.rd {w W : World} {n n' : Bool} {s s' : Value} (D : Duo w W n n' s s') {A : Option Addr} {c : Nat} {l : List Nat} (R : Rd w w.heap.size A c l) : Rd W W.heap.size A c l := (R.below D.bel).more D.bel.size

set_option maxRecDepth 100000 in
set_option maxHeartbeats 2000000 in
theorem rcmpBig_any (w : World) (a b : Value) (x y : Int) (ha : IsBig w a x) (hb : IsBig w b y) (hl : (digs x.natAbs).length ≤ 256) (hl' : (digs y.natAbs).length ≤ 256) :
    Calls Tryd.prog 21 #[a, b] w fun e w' => e = .returned (.int .i64 (order x y)) ∧ Below w.heap.size w w' := by
  obtain ⟨A, c, rfl, R⟩ := ha
  obtain ⟨A', c', rfl, R'⟩ := hb
  go_enter Tryd.func21, Tryd.ntmps21
  have hB := duo_made w (decide (x < 0)) (decide (y < 0)) (.slice A (digs x.natAbs).length c) (.slice A' (digs y.natAbs).length c')
  obtain ⟨W, hW⟩ : ∃ W, W = ((w.alloc (.cells #[.bool (decide (x < 0)), .slice A (digs x.natAbs).length c] 28)).alloc (.cells #[.bool (decide (y < 0)), .slice A' (digs y.natAbs).length c'] 28)) := ⟨_, rfl⟩
  rw [← hW] at hB
  have HB := Lib.hid hB
  have a0 := hB.a0
  have a1 := hB.a1
  clear hB
  go_upto_region 1 with fail
  rw [← hW]
  clear hW
  go_wp2_with fail
  refine (rvalidBig_any W _ x ⟨A, c, rfl, HB.out.rd R⟩ hl).mono ?_
  rintro _ W1 ⟨rfl, hb1⟩
  have H1 := Lib.hid (HB.out.after hb1)
  have b0 := H1.out.b0
  have b1 := H1.out.b1
  clear a0 a1 hb1
  go_wp2_with fail
  refine (rvalidBig_any W1 _ y ⟨A', c', rfl, H1.out.rd R'⟩ hl').mono ?_
  rintro _ W2 ⟨rfl, hb2⟩
  have H2 := Lib.hid (H1.out.after hb2)
  clear b0 b1 hb2
  have a0 := H2.out.a0
  have a1 := H2.out.a1
  have b0 := H2.out.b0
  have b1 := H2.out.b1
  rcases Int.lt_or_le x 0 with hx | hx
  · rcases Int.lt_or_le y 0 with hy | hy
    · rw [decide_eq_true hx] at a0
      rw [decide_eq_true hy] at b0
      have e : order x y = fb.cmp y.natAbs x.natAbs := by rw [cmp_order]; unfold order; split <;> split <;> first | rfl | omega | (split <;> first | rfl | omega)
      have E := Lib.hid e
      clear e hx hy
      go_wp2_with fail
      refine (rcmp_any _ _ A' A c' c _ _ (H2.out.rd R') (H2.out.rd R) (by omega) (by omega)).mono ?_
      rintro _ _ ⟨rfl, k, rfl⟩
      go_wp2_with fail
      go_ret
      exact ⟨ret_int E.out.symm, below_drewN H2.out.bel k⟩
    · rw [decide_eq_true hx] at a0
      rw [decide_eq_false (by omega)] at b0
      have e : order x y = -1 := by unfold order; rw [if_pos (by omega)]
      have E := Lib.hid e
      clear e hx hy
      go_wp2_with fail
      go_ret
      exact ⟨ret_int E.out.symm, H2.out.bel⟩
  · rcases Int.lt_or_le y 0 with hy | hy
    · rw [decide_eq_false (by omega)] at a0
      rw [decide_eq_true hy] at b0
      have e : order x y = 1 := by unfold order; rw [if_neg (by omega), if_pos (by omega)]
      have E := Lib.hid e
      clear e hx hy
      go_wp2_with fail
      go_ret
      exact ⟨ret_int E.out.symm, H2.out.bel⟩
    · rw [decide_eq_false (by omega)] at a0
      rw [decide_eq_false (by omega)] at b0
      have e : order x y = fb.cmp x.natAbs y.natAbs := by rw [cmp_order]; unfold order; split <;> split <;> first | rfl | omega | (split <;> first | rfl | omega)
      have E := Lib.hid e
      clear e hx hy
      go_wp2_with fail
      refine (rcmp_any _ _ A A' c c' _ _ (H2.out.rd R) (H2.out.rd R') (by omega) (by omega)).mono ?_
      rintro _ _ ⟨rfl, k, rfl⟩
      go_wp2_with fail
      go_ret
      exact ⟨ret_int E.out.symm, below_drewN H2.out.bel k⟩

set_option maxRecDepth 100000 in
set_option maxHeartbeats 2000000 in
theorem rcmpBig_bad (w : World) (n n' : Bool) (l l' : List Nat) (A A' : Option Addr) (c c' : Nat) (R : Rd w w.heap.size A c l) (R' : Rd w w.heap.size A' c' l') (hs : l.length ≤ 1000000) (hs' : l'.length ≤ 1000000) (hg : (good n l && good n' l') = false) :
    Calls Tryd.prog 21 #[.agg #[.bool n, .slice A l.length c], .agg #[.bool n', .slice A' l'.length c']] w fun e w' => e = .returned (.int .i64 0) ∧ Below w.heap.size w w' := by
  go_enter Tryd.func21, Tryd.ntmps21
  have hB := duo_made w n n' (.slice A l.length c) (.slice A' l'.length c')
  obtain ⟨W, hW⟩ : ∃ W, W = ((w.alloc (.cells #[.bool n, .slice A l.length c] 28)).alloc (.cells #[.bool n', .slice A' l'.length c'] 28)) := ⟨_, rfl⟩
  rw [← hW] at hB
  have HB := Lib.hid hB
  have HG := Lib.hid hg
  have a0 := hB.a0
  have a1 := hB.a1
  clear hB hg
  go_upto_region 1 with fail
  rw [← hW]
  clear hW
  go_wp2_with fail
  refine (rvalidBig_gen W n l A c (HB.out.rd R) hs).mono ?_
  rintro _ W1 ⟨rfl, hb1⟩
  have H1 := Lib.hid (HB.out.after hb1)
  clear a0 a1 hb1
  by_cases hg1 : good n l = true
  · have hg2 : good n' l' = false := by have := HG.out; rw [hg1] at this; simpa using this
    rw [hg1]
    have b0 := H1.out.b0
    have b1 := H1.out.b1
    have HG2 := Lib.hid hg2
    clear hg1 hg2
    go_wp2_with fail
    refine (rvalidBig_gen W1 n' l' A' c' (H1.out.rd R') hs').mono ?_
    rintro _ W2 ⟨rfl, hb2⟩
    rw [HG2.out]
    have H2 := Lib.hid (H1.out.after hb2)
    clear hb2 R R' b0 b1
    go_wp2
    go_ret
    exact ⟨rfl, H2.out.bel⟩
  · obtain hg1 : good n l = false := by simpa using hg1
    rw [hg1]
    clear hg1 R R'
    go_wp2
    go_ret
    exact ⟨rfl, H1.out.bel⟩

set_option maxRecDepth 100000 in
set_option maxHeartbeats 8000000 in
theorem rdivBig_any (w : World) (a b : Value) (x y : Int) (ha : IsBig w a x) (hb : IsBig w b y) (hl : (digs x.natAbs).length ≤ 256) (hl' : (digs y.natAbs).length ≤ 256) :
    Calls Tryd.prog 30 #[a, b] w (DividedBig w x y) := by
  obtain ⟨A, c, rfl, R⟩ := ha
  obtain ⟨A', c', rfl, R'⟩ := hb
  go_enter Tryd.func30, Tryd.ntmps30
  have hB := boxes4_made w (decide (x < 0)) (decide (y < 0)) (.slice A (digs x.natAbs).length c) (.slice A' (digs y.natAbs).length c')
  obtain ⟨W, hW⟩ : ∃ W, W = ((((w.alloc (.cells #[.bool (decide (x < 0)), .slice A (digs x.natAbs).length c] 28)).alloc (.cells #[.bool (decide (y < 0)), .slice A' (digs y.natAbs).length c'] 28)).alloc (.cells #[.bool false, .slice none 0 0] 28)).alloc (.cells #[.bool false, .slice none 0 0] 28)) := ⟨_, rfl⟩
  rw [← hW] at hB
  have HB := Lib.hid hB
  have a0 := hB.B.a0
  have a1 := hB.B.a1
  clear hB
  go_upto_region 1 with fail
  rw [← hW]
  clear hW
  go_wp2_with fail
  refine (rvalidBig_any W _ x ⟨A, c, rfl, HB.out.B.rd R⟩ hl).mono ?_
  rintro _ W0 ⟨rfl, hb1⟩
  have H0 := Lib.hid (HB.out.after hb1)
  have b0 := H0.out.B.b0
  have b1 := H0.out.B.b1
  clear a0 a1 hb1
  go_wp2_with fail
  refine (rvalidBig_any W0 _ y ⟨A', c', rfl, H0.out.B.rd R'⟩ hl').mono ?_
  rintro _ W1 ⟨rfl, hb2⟩
  have hB1 := H0.out.after hb2
  clear b0 b1 hb2
  have a0 := hB1.B.a0
  have a1 := hB1.B.a1
  have b0 := hB1.B.b0
  have b1 := hB1.B.b1
  have r0 := hB1.B.r0
  have r1 := hB1.B.r1
  have q0 := hB1.q0
  have q1 := hB1.q1
  have f0 := hB1.fq 0
  have f1 := hB1.fq 1
  have f2 := hB1.B.fr (w.heap.size + 1 + 1) 0 (by omega) (by omega)
  have f3 := hB1.B.fr (w.heap.size + 1 + 1) 1 (by omega) (by omega)
  have H1 := Lib.hid hB1
  clear hB1
  by_cases hy : y = 0
  · have hz : (digs y.natAbs).length = 0 := digs_len_zero.2 (by omega)
    rw [hz] at b1
    have HY := Lib.hid hy
    have F := H1.out.filled (z := 0) (z' := 0) (A := none) (A' := none) (c := 0) (c' := 0) (by rw [show digs (0 : Int).natAbs = [] from digs_zero]; exact Rd.nil _ _ _ _) (by rw [show digs (0 : Int).natAbs = [] from digs_zero]; exact Rd.nil _ _ _ _)
    simp only [show digs (0 : Int).natAbs = [] from digs_zero, List.length_nil, show decide ((0 : Int) < 0) = false from rfl] at F
    have HE := Lib.hid (F _ (.inl rfl))
    clear hy hz F
    go_wp2_with fail
    clear H1 HB r0 r1 q0 q1 R R' a0 a1 b0 b1 f0 f1 f2 f3 hl hl'
    (try simp only [Exit.inBlock, Exit.then])
    refine bodyPost_ret (results_big3 rfl _ _ (w.heap.size + 1 + 1) (w.heap.size + 1 + 1 + 1) rfl rfl HE.out.2.1 HE.out.2.2.1 HE.out.2.2.2.1 HE.out.2.2.2.2) rfl ?_
    exact ⟨_, _, by rw [if_pos HY.out]; rfl, by rw [HY.out, Int.tdiv_zero]; exact HE.out.1.1, by rw [if_pos HY.out]; exact HE.out.1.2.1, HE.out.1.2.2⟩
  · have hz : ¬ (digs y.natAbs).length = 0 := fun e => hy (by have := digs_len_zero.1 e; omega)
    have hzz : (((digs y.natAbs).length : Int) == 0) = false := beq_eq_false_iff_ne.2 (by omega)
    have HY := Lib.hid hy
    clear r0 r1 q0 q1 f0 f1 f2 f3
    go_wp2_with fail
    refine (rdiv_any W1 A A' c c' x.natAbs y.natAbs (H1.out.B.rd R) (H1.out.B.rd R') (by have := HY.out; omega) (by omega) (by omega)).mono ?_
    rintro _ W2 ⟨A2, c2, A3, c3, rfl, R2, R3, hb2⟩
    have hB2 := H1.out.after hb2
    have a0 := hB2.B.a0
    have b0 := hB2.B.b0
    have H2 := Lib.hid hB2
    have H2d := Lib.hid (hB2.after (Below.refl _ _).drew)
    have R2d : Rd W2.drew W2.drew.heap.size A2 c2 (digs (x.natAbs / y.natAbs)) := R2.drewN 1
    have R3d : Rd W2.drew W2.drew.heap.size A3 c3 (digs (x.natAbs % y.natAbs)) := R3.drewN 1
    have hq : (digs (x.natAbs / y.natAbs)).length ≤ 100000000 := Nat.le_trans (len_mono (Nat.div_le_self _ _)) (by omega)
    have hr : (digs (x.natAbs % y.natAbs)).length ≤ 100000000 := Nat.le_trans (len_mono (Nat.mod_le _ _)) (by omega)
    clear hb2 hB2 a1 b1 hy hz hzz R R' hl hl'
    obtain ⟨Z, hZ⟩ : ∃ Z, Z = x.tdiv y := ⟨_, rfl⟩
    obtain ⟨Z', hZ'⟩ : ∃ Z, Z = x.tmod y := ⟨_, rfl⟩
    have HZ := Lib.hid (And.intro hZ (And.intro hZ' (And.intro hq hr)))
    clear hZ hZ' hq hr
    go_wp2_with fail
    go_region_held3 (fun w' => w'.cell? ⟨w.heap.size, 0, none⟩ = some (.bool (decide (x < 0))) ∧ w'.cell? ⟨w.heap.size + 1, 0, none⟩ = some (.bool (decide (y < 0))))
      (first | with_reducible exact ⟨H2.out.B.a0, H2.out.B.b0⟩ | with_reducible exact ⟨H2d.out.B.a0, H2d.out.B.b0⟩ | with_reducible exact ⟨H3.out.B.a0, H3.out.B.b0⟩ | with_reducible exact ⟨H4.out.B.a0, H4.out.B.b0⟩ | (have q1 := H4.out.B.a0; have q2 := H4.out.B.b0; refine ⟨?_, ?_⟩ <;> simp [go_sem, q1, q2]))
      (first
        | (have R3f := R3e; clear R3e; go_at_call 47; refine (rbig_any W3 (decide (x < 0)) A3 c3 _ R3f HZ.out.2.2.2).mono ?_; rintro _ W4 ⟨v4, rfl, hI4, hb4⟩
           rw [val_digs, sgnd_mod, ← HZ.out.2.1] at hI4
           have h4 := H3.out.after hb4
           have r0 := h4.B.r0
           have r1 := h4.B.r1
           have q0 := h4.q0
           have q1 := h4.q1
           have f0 := h4.fq 0
           have f1 := h4.fq 1
           have f2 := h4.B.fr (w.heap.size + 1 + 1) 0 (by omega) (by omega)
           have f3 := h4.B.fr (w.heap.size + 1 + 1) 1 (by omega) (by omega)
           have H4 := Lib.hid h4
           obtain ⟨A5, c5, rfl, R5⟩ := hI3.below hb4
           obtain ⟨A6, c6, rfl, R6⟩ := hI4
           clear h4 hb4)
        | (go_at_call 47; refine (rbig_any W2.drew (decide (x < 0) != decide (y < 0)) A2 c2 _ R2d HZ.out.2.2.1).mono ?_; rintro _ W3 ⟨v3, rfl, hI3, hb3⟩
           rw [val_digs, sgnd_div, ← HZ.out.1] at hI3
           have H3 := Lib.hid (H2d.out.after hb3)
           have R3e := (R3d.below hb3).more hb3.size
           clear hb3))
    obtain ⟨e, d0, d1, d2, d3⟩ := H4.out.filled R5 R6 _ (.inl rfl)
    have HE := Lib.hid (And.intro e (And.intro d0 (And.intro d1 (And.intro d2 d3))))
    clear e d0 d1 d2 d3 R5 R6 R2 R3 R2d R3d R3f H1 H2 H2d H3 H4 HB
    go_wp2
    (try simp only [Exit.inBlock, Exit.then])
    refine bodyPost_ret (results_big3 rfl _ _ (w.heap.size + 1 + 1) (w.heap.size + 1 + 1 + 1) rfl rfl HE.out.2.1 HE.out.2.2.1 HE.out.2.2.2.1 HE.out.2.2.2.2) rfl ?_
    exact ⟨_, _, by rw [if_neg HY.out]; rfl, by rw [← HZ.out.1]; exact HE.out.1.1, by rw [if_neg HY.out, ← HZ.out.2.1]; exact HE.out.1.2.1, HE.out.1.2.2⟩

set_option maxRecDepth 100000 in
set_option maxHeartbeats 4000000 in
theorem rdivBig_bad (w : World) (n n' : Bool) (l l' : List Nat) (A A' : Option Addr) (c c' : Nat) (R : Rd w w.heap.size A c l) (R' : Rd w w.heap.size A' c' l') (hs : l.length ≤ 1000000) (hs' : l'.length ≤ 1000000) (hg : (good n l && good n' l') = false) :
    Calls Tryd.prog 30 #[.agg #[.bool n, .slice A l.length c], .agg #[.bool n', .slice A' l'.length c']] w fun e w' => e = .returned (.tuple #[.agg #[.bool false, .slice none 0 0], .agg #[.bool false, .slice none 0 0], .int .i64 1]) ∧ Below w.heap.size w w' := by
  go_enter Tryd.func30, Tryd.ntmps30
  have hB := boxes4_made w n n' (.slice A l.length c) (.slice A' l'.length c')
  obtain ⟨W, hW⟩ : ∃ W, W = ((((w.alloc (.cells #[.bool n, .slice A l.length c] 28)).alloc (.cells #[.bool n', .slice A' l'.length c'] 28)).alloc (.cells #[.bool false, .slice none 0 0] 28)).alloc (.cells #[.bool false, .slice none 0 0] 28)) := ⟨_, rfl⟩
  rw [← hW] at hB
  have HB := Lib.hid hB
  have HG := Lib.hid hg
  have a0 := hB.B.a0
  have a1 := hB.B.a1
  clear hB hg
  go_upto_region 1 with fail
  rw [← hW]
  clear hW
  go_wp2_with fail
  refine (rvalidBig_gen W n l A c (HB.out.B.rd R) hs).mono ?_
  rintro _ W1 ⟨rfl, hb1⟩
  have H1 := Lib.hid (HB.out.after hb1)
  clear a0 a1 hb1
  by_cases hg1 : good n l = true
  · have hg2 : good n' l' = false := by have := HG.out; rw [hg1] at this; simpa using this
    rw [hg1]
    have b0 := H1.out.B.b0
    have b1 := H1.out.B.b1
    have HG2 := Lib.hid hg2
    clear hg1 hg2
    go_wp2_with fail
    refine (rvalidBig_gen W1 n' l' A' c' (H1.out.B.rd R') hs').mono ?_
    rintro _ W2 ⟨rfl, hb2⟩
    rw [HG2.out]
    have h2 := H1.out.after hb2
    have r0 := h2.B.r0
    have r1 := h2.B.r1
    have q0 := h2.q0
    have q1 := h2.q1
    have f0 := h2.fq 0
    have f1 := h2.fq 1
    have f2 := h2.B.fr (w.heap.size + 1 + 1) 0 (by omega) (by omega)
    have f3 := h2.B.fr (w.heap.size + 1 + 1) 1 (by omega) (by omega)
    have F := h2.filled (z := 0) (z' := 0) (A := none) (A' := none) (c := 0) (c' := 0) (by rw [show digs (0 : Int).natAbs = [] from digs_zero]; exact Rd.nil _ _ _ _) (by rw [show digs (0 : Int).natAbs = [] from digs_zero]; exact Rd.nil _ _ _ _)
    simp only [show digs (0 : Int).natAbs = [] from digs_zero, List.length_nil, show decide ((0 : Int) < 0) = false from rfl] at F
    have HE := Lib.hid (F _ (.inl rfl))
    clear F h2 hb2 b0 b1 R R'
    go_wp2_with fail
    clear r0 r1 q0 q1 f0 f1 f2 f3
    (try simp only [Exit.inBlock, Exit.then])
    refine bodyPost_ret (results_big3 rfl _ _ (w.heap.size + 1 + 1) (w.heap.size + 1 + 1 + 1) rfl rfl HE.out.2.1 HE.out.2.2.1 HE.out.2.2.2.1 HE.out.2.2.2.2) rfl ?_
    exact ⟨rfl, HE.out.1.2.2⟩
  · obtain hg1 : good n l = false := by simpa using hg1
    rw [hg1]
    have h2 := H1.out
    have hb2 := hg1
    have b0 := hg1
    have b1 := hg1
    have r0 := h2.B.r0
    have r1 := h2.B.r1
    have q0 := h2.q0
    have q1 := h2.q1
    have f0 := h2.fq 0
    have f1 := h2.fq 1
    have f2 := h2.B.fr (w.heap.size + 1 + 1) 0 (by omega) (by omega)
    have f3 := h2.B.fr (w.heap.size + 1 + 1) 1 (by omega) (by omega)
    have F := h2.filled (z := 0) (z' := 0) (A := none) (A' := none) (c := 0) (c' := 0) (by rw [show digs (0 : Int).natAbs = [] from digs_zero]; exact Rd.nil _ _ _ _) (by rw [show digs (0 : Int).natAbs = [] from digs_zero]; exact Rd.nil _ _ _ _)
    simp only [show digs (0 : Int).natAbs = [] from digs_zero, List.length_nil, show decide ((0 : Int) < 0) = false from rfl] at F
    have HE := Lib.hid (F _ (.inl rfl))
    clear F h2 hb2 b0 b1 R R'
    go_wp2_with fail
    clear r0 r1 q0 q1 f0 f1 f2 f3
    (try simp only [Exit.inBlock, Exit.then])
    refine bodyPost_ret (results_big3 rfl _ _ (w.heap.size + 1 + 1) (w.heap.size + 1 + 1 + 1) rfl rfl HE.out.2.1 HE.out.2.2.1 HE.out.2.2.2.1 HE.out.2.2.2.2) rfl ?_
    exact ⟨rfl, HE.out.1.2.2⟩

end Go.Proofs.YtfnfnagdecpobaaDoor.rc
