/- fraction: Mul, Div of fractions. -/
import Derived.Test.YtbeidpeoichakaaDoorGf
set_option linter.unusedSimpArgs false
namespace Go.Proofs.YtbeidpeoichakaaDoor.na
open Go.RowKit Go.Proofs.YtbeidpeoichakaaDoor.fm Go.Proofs.YtbeidpeoichakaaDoor.mem Go.Proofs.YtbeidpeoichakaaDoor.fa Go.Proofs.YtbeidpeoichakaaDoor.fb Go.Proofs.YtbeidpeoichakaaDoor.fe Go.Proofs.YtbeidpeoichakaaDoor.fj Go.Proofs.YtbeidpeoichakaaDoor.fu Go.Proofs.YtbeidpeoichakaaDoor.fv Go.Proofs.YtbeidpeoichakaaDoor.fw Go.Proofs.YtbeidpeoichakaaDoor.gb Go.Proofs.YtbeidpeoichakaaDoor.gc Go.Proofs.YtbeidpeoichakaaDoor.gd Go.Proofs.YtbeidpeoichakaaDoor.gg

theorem held6 {w W : World} {n n' : Bool} {s t s' t' : Value} (B : Two4 w W n n' s t s' t') :
    W.cell? ⟨w.heap.size, 0, none⟩ = some (.bool n) ∧ W.cell? ⟨w.heap.size, 1, none⟩ = some s ∧ W.cell? ⟨w.heap.size, 3, none⟩ = some t ∧
    W.cell? ⟨w.heap.size + 1, 0, none⟩ = some (.bool n') ∧ W.cell? ⟨w.heap.size + 1, 1, none⟩ = some s' ∧ W.cell? ⟨w.heap.size + 1, 3, none⟩ = some t' :=
  ⟨B.a0, B.a1, B.a3, B.b0, B.b1, B.b3⟩

theorem put6 {w W : World} {n n' : Bool} {s t s' t' v0 v1 v2 v3 : Value} (B : Two4 w W n n' s t s' t') :
    (((((W.setCell ⟨w.heap.size + 1 + 1, 0, none⟩ v0).setCell ⟨w.heap.size + 1 + 1, 1, none⟩ v1).setCell ⟨w.heap.size + 1 + 1, 2, none⟩ v2).setCell ⟨w.heap.size + 1 + 1, 3, none⟩ v3).cell? ⟨w.heap.size, 0, none⟩ = some (.bool n)) ∧
    (((((W.setCell ⟨w.heap.size + 1 + 1, 0, none⟩ v0).setCell ⟨w.heap.size + 1 + 1, 1, none⟩ v1).setCell ⟨w.heap.size + 1 + 1, 2, none⟩ v2).setCell ⟨w.heap.size + 1 + 1, 3, none⟩ v3).cell? ⟨w.heap.size, 1, none⟩ = some s) ∧
    (((((W.setCell ⟨w.heap.size + 1 + 1, 0, none⟩ v0).setCell ⟨w.heap.size + 1 + 1, 1, none⟩ v1).setCell ⟨w.heap.size + 1 + 1, 2, none⟩ v2).setCell ⟨w.heap.size + 1 + 1, 3, none⟩ v3).cell? ⟨w.heap.size, 3, none⟩ = some t) ∧
    (((((W.setCell ⟨w.heap.size + 1 + 1, 0, none⟩ v0).setCell ⟨w.heap.size + 1 + 1, 1, none⟩ v1).setCell ⟨w.heap.size + 1 + 1, 2, none⟩ v2).setCell ⟨w.heap.size + 1 + 1, 3, none⟩ v3).cell? ⟨w.heap.size + 1, 0, none⟩ = some (.bool n')) ∧
    (((((W.setCell ⟨w.heap.size + 1 + 1, 0, none⟩ v0).setCell ⟨w.heap.size + 1 + 1, 1, none⟩ v1).setCell ⟨w.heap.size + 1 + 1, 2, none⟩ v2).setCell ⟨w.heap.size + 1 + 1, 3, none⟩ v3).cell? ⟨w.heap.size + 1, 1, none⟩ = some s') ∧
    (((((W.setCell ⟨w.heap.size + 1 + 1, 0, none⟩ v0).setCell ⟨w.heap.size + 1 + 1, 1, none⟩ v1).setCell ⟨w.heap.size + 1 + 1, 2, none⟩ v2).setCell ⟨w.heap.size + 1 + 1, 3, none⟩ v3).cell? ⟨w.heap.size + 1, 3, none⟩ = some t') := by
  refine ⟨?_, ?_, ?_, ?_, ?_, ?_⟩
  · exact (four_other (by show w.heap.size ≠ _; omega)).trans B.a0
  · exact (four_other (by show w.heap.size ≠ _; omega)).trans B.a1
  · exact (four_other (by show w.heap.size ≠ _; omega)).trans B.a3
  · exact (four_other (by show w.heap.size + 1 ≠ _; omega)).trans B.b0
  · exact (four_other (by show w.heap.size + 1 ≠ _; omega)).trans B.b1
  · exact (four_other (by show w.heap.size + 1 ≠ _; omega)).trans B.b3

theorem held5 {w W : World} {n n' : Bool} {s t s' t' : Value} {z : Int} {g : Nat} {A : Option Addr} {c : Nat} (N : NumAt w W n n' s t s' t' z g A c) :
    W.cell? ⟨g, 0, none⟩ = some (.bool (decide (z < 0))) ∧ W.cell? ⟨g, 1, none⟩ = some (.slice A (digs z.natAbs).length c) ∧ W.cell? ⟨w.heap.size, 3, none⟩ = some t ∧ W.cell? ⟨w.heap.size + 1, 0, none⟩ = some (.bool n') ∧ W.cell? ⟨w.heap.size + 1, 1, none⟩ = some s' :=
  ⟨N.c0, N.c1, N.T.a3, N.T.b0, N.T.b1⟩

theorem put5 {w W : World} {n n' : Bool} {s t s' t' v0 v1 v2 v3 : Value} {z : Int} {g : Nat} {A : Option Addr} {c : Nat} (N : NumAt w W n n' s t s' t' z g A c) :
    (((((W.setCell ⟨w.heap.size + 1 + 1, 0, none⟩ v0).setCell ⟨w.heap.size + 1 + 1, 1, none⟩ v1).setCell ⟨w.heap.size + 1 + 1, 2, none⟩ v2).setCell ⟨w.heap.size + 1 + 1, 3, none⟩ v3).cell? ⟨g, 0, none⟩ = some (.bool (decide (z < 0)))) ∧
    (((((W.setCell ⟨w.heap.size + 1 + 1, 0, none⟩ v0).setCell ⟨w.heap.size + 1 + 1, 1, none⟩ v1).setCell ⟨w.heap.size + 1 + 1, 2, none⟩ v2).setCell ⟨w.heap.size + 1 + 1, 3, none⟩ v3).cell? ⟨g, 1, none⟩ = some (.slice A (digs z.natAbs).length c)) ∧
    (((((W.setCell ⟨w.heap.size + 1 + 1, 0, none⟩ v0).setCell ⟨w.heap.size + 1 + 1, 1, none⟩ v1).setCell ⟨w.heap.size + 1 + 1, 2, none⟩ v2).setCell ⟨w.heap.size + 1 + 1, 3, none⟩ v3).cell? ⟨w.heap.size, 3, none⟩ = some t) ∧
    (((((W.setCell ⟨w.heap.size + 1 + 1, 0, none⟩ v0).setCell ⟨w.heap.size + 1 + 1, 1, none⟩ v1).setCell ⟨w.heap.size + 1 + 1, 2, none⟩ v2).setCell ⟨w.heap.size + 1 + 1, 3, none⟩ v3).cell? ⟨w.heap.size + 1, 0, none⟩ = some (.bool n')) ∧
    (((((W.setCell ⟨w.heap.size + 1 + 1, 0, none⟩ v0).setCell ⟨w.heap.size + 1 + 1, 1, none⟩ v1).setCell ⟨w.heap.size + 1 + 1, 2, none⟩ v2).setCell ⟨w.heap.size + 1 + 1, 3, none⟩ v3).cell? ⟨w.heap.size + 1, 1, none⟩ = some s') := by
  have h := N.lo
  refine ⟨?_, ?_, ?_, ?_, ?_⟩
  · exact (four_other (by show g ≠ _; omega)).trans N.c0
  · exact (four_other (by show g ≠ _; omega)).trans N.c1
  · exact (four_other (by show w.heap.size ≠ _; omega)).trans N.T.a3
  · exact (four_other (by show w.heap.size + 1 ≠ _; omega)).trans N.T.b0
  · exact (four_other (by show w.heap.size + 1 ≠ _; omega)).trans N.T.b1

set_option maxRecDepth 100000 in
set_option maxHeartbeats 8000000 in
theorem mulFrac_any (w : World) (a b : Value) (x y : Int) (d d' : Nat) (ha : IsFrac w a x d) (hb : IsFrac w b y d') (F : Fine x d) (F' : Fine y d') (hT : Tabs w) :
    Calls Tryd.prog 61 #[a, b] w (Low w (x * y) (d * d')) := by
  obtain ⟨A, c, B, k, rfl, R, S⟩ := ha
  obtain ⟨A', c', B', k', rfl, R', S'⟩ := hb
  go_enter Tryd.func61, Tryd.ntmps61
  have hB := two4_made w (decide (x < 0)) (decide (y < 0)) (.slice A (digs x.natAbs).length c) (.slice B (digs d).length k) (.slice A' (digs y.natAbs).length c') (.slice B' (digs d').length k')
  obtain ⟨W, hW⟩ : ∃ W, W = (((w.alloc (.cells #[.bool (decide (x < 0)), .slice A (digs x.natAbs).length c, .bool false, .slice B (digs d).length k] 27)).alloc (.cells #[.bool (decide (y < 0)), .slice A' (digs y.natAbs).length c', .bool false, .slice B' (digs d').length k'] 27)).alloc (.cells #[.bool false, .slice none 0 0, .bool false, .slice none 0 0] 27)) := ⟨_, rfl⟩
  have hsz : W.heap.size = w.heap.size + 1 + 1 + 1 := by rw [hW]; simp
  rw [← hW] at hB
  have HB := Lib.hid (And.intro hB hsz)
  clear hB hsz
  go_wp2_with fail
  rw [← hW]
  clear hW
  have hbA : ∀ o, Below W.heap.size W (W.alloc o) := fun o => (Below.refl _ _).alloc (Nat.le_refl _) o
  refine (validAll2 (W.alloc _) (w.heap.size + 1 + 1 + 1) 2 x y d d' A B A' B' c k c' k' 27 (0, 0) (hT.below (HB.out.1.F.bel.trans ((hbA _).mono HB.out.1.F.bel.size))) F F' (by rw [← HB.out.2]; exact heap_alloc_new W _)
    (((HB.out.1.rd R).below (hbA _)).more (by simp)) (((HB.out.1.rd S).below (hbA _)).more (by simp)) (((HB.out.1.rd R').below (hbA _)).more (by simp)) (((HB.out.1.rd S').below (hbA _)).more (by simp))).mono ?_
  rintro _ W1 ⟨rfl, hb1⟩
  have hB1 := HB.out.1.after ((hbA _).trans (hb1.mono (by simp)))
  have H1 := Lib.hid hB1
  have H1d := Lib.hid (hB1.after (Below.refl _ _).drew)
  have HF := Lib.hid (And.intro F F')
  have a0 := hB1.a0
  have a1 := hB1.a1
  have a3 := hB1.a3
  have b0 := hB1.b0
  have b1 := hB1.b1
  have b3 := hB1.b3
  obtain ⟨Z0, hZ0⟩ : ∃ Z0, Z0 = x * y := ⟨_, rfl⟩
  obtain ⟨D0, hD0⟩ : ∃ D0, D0 = d * d' := ⟨_, rfl⟩
  have hZl : (digs Z0.natAbs).length ≤ 1000 := by rw [hZ0]; exact mul_len F.hz F'.hz
  have hDl : (digs D0).length ≤ 1000 := by
    have h1 := mul_len (x := (d : Int)) (y := (d' : Int)) (by rw [Int.natAbs_natCast]; exact F.hd) (by rw [Int.natAbs_natCast]; exact F'.hd)
    rw [← Int.natCast_mul, Int.natAbs_natCast, ← hD0] at h1
    exact h1
  have hDn : D0 ≠ 0 := by rw [hD0]; exact Nat.mul_ne_zero F.d0 F'.d0
  have HZ := Lib.hid (And.intro hZ0 (And.intro hD0 (And.intro hZl (And.intro hDl hDn))))
  clear hB1 hb1 HB hbA F F' hZ0 hD0 hZl hDl hDn
  go_wp2_with fail
  go_region_held3 (fun w' => w'.cell? ⟨w.heap.size, 0, none⟩ = some (.bool (decide (x < 0))) ∧ w'.cell? ⟨w.heap.size, 1, none⟩ = some (.slice A (digs x.natAbs).length c) ∧ w'.cell? ⟨w.heap.size, 3, none⟩ = some (.slice B (digs d).length k) ∧ w'.cell? ⟨w.heap.size + 1, 0, none⟩ = some (.bool (decide (y < 0))) ∧ w'.cell? ⟨w.heap.size + 1, 1, none⟩ = some (.slice A' (digs y.natAbs).length c') ∧ w'.cell? ⟨w.heap.size + 1, 3, none⟩ = some (.slice B' (digs d').length k'))
    (first | with_reducible exact held6 H1.out | with_reducible exact held6 H1d.out | with_reducible exact held6 H3.out | with_reducible exact held6 H4.out | with_reducible exact held6 H5.out | exact put6 H5.out)
    (first
      | (have R4b := R4; go_at_call 70; refine (lowest_any W4 v3 Z0 D0 A4 c4 hI4 R4b HZ.out.2.2.2.2 (by have := HZ.out.2.2.1; omega) (by have := HZ.out.2.2.2.1; omega) (hT.below H4.out.F.bel)).mono ?_
         rintro _ W5 hF
         obtain ⟨A5, c5, A6, c6, Z1, D1, k1, rfl, R5, R6, hb5, hk⟩ := frac_open hF
         have S5 := H4.out.after hb5
         have H5 := Lib.hid S5
         have r0 := S5.F.r0
         have r1 := S5.F.r1
         have r2 := S5.F.r2
         have r3 := S5.F.r3
         have f0 := S5.F.fr 0
         have f1 := S5.F.fr 1
         have f2 := S5.F.fr 2
         have f3 := S5.F.fr 3
         clear hF hb5 S5 R4b)
      | (have hI3b := hI3; go_at_call 79; refine (mulWords_any W3 B B' k k' (digs d) (digs d') (H3.out.rd S) (H3.out.rd S') (by have := HF.out.1.hd; omega) (by have := HF.out.2.hd; omega)).mono ?_; rintro _ W4 ⟨v4, rfl, hO4, hb4⟩
         rw [val_digs, val_digs, ← HZ.out.2.1] at hO4
         obtain ⟨A4, c4, rfl, R4⟩ := own_rd hO4 (ok_digs _)
         have H4 := Lib.hid (H3.out.after hb4)
         have hI4 := hI3.below hb4
         clear hO4 hb4 hI3 hI3b)
      | (go_at_call 78; refine (product_any W1.drew _ _ x y ⟨A, c, rfl, H1d.out.rd R⟩ ⟨A', c', rfl, H1d.out.rd R'⟩ (by have := HF.out.1.hz; omega) (by have := HF.out.2.hz; omega)).mono ?_; rintro _ W3 ⟨v3, rfl, hI3, hb3⟩
         rw [← HZ.out.1] at hI3
         have H3 := Lib.hid (H1d.out.after hb3)
         clear hb3))
  obtain ⟨e, d0, d1, d2, d3⟩ := H5.out.F.filled R5 R6 _ rfl
  have HE := Lib.hid (And.intro e (And.intro d0 (And.intro d1 (And.intro d2 d3))))
  clear e d0 d1 d2 d3 R5 R6 R4 R R' S S' H1 H1d H3 H4 H5 a0 a1 a3 b0 b1 b3 hI4
  go_wp2
  (try simp only [Exit.inBlock, Exit.then])
  refine bodyPost_ret (results_frac rfl _ _ (w.heap.size + 1 + 1) rfl HE.out.2.1 HE.out.2.2.1 HE.out.2.2.2.1 HE.out.2.2.2.2) rfl ?_
  unfold Low
  rw [← HZ.out.1, ← HZ.out.2.1]
  exact frac_shut hk HE.out.1.1 HE.out.1.2

theorem sgnd_quo (X y : Int) (hy : y ≠ 0) : sgnd (decide (X < 0) != decide (y < 0)) X.natAbs = X * y.sign := by
  unfold sgnd
  by_cases h : y < 0
  · rw [Int.sign_eq_neg_one_of_neg h, decide_eq_true h]
    by_cases h' : X < 0
    · rw [decide_eq_true h']; simp; omega
    · rw [decide_eq_false h']; simp; omega
  · rw [Int.sign_eq_one_of_pos (by omega), decide_eq_false h]
    by_cases h' : X < 0
    · rw [decide_eq_true h']; simp; omega
    · rw [decide_eq_false h']; simp; omega

set_option maxRecDepth 100000 in
set_option maxHeartbeats 8000000 in
theorem divFrac_any (w : World) (a b : Value) (x y : Int) (d d' : Nat) (ha : IsFrac w a x d) (hb : IsFrac w b y d') (F : Fine x d) (F' : Fine y d') (hy : y ≠ 0) (hT : Tabs w) :
    Calls Tryd.prog 60 #[a, b] w (Low w (x * d' * y.sign) (d * y.natAbs)) := by
  obtain ⟨A, c, B, k, rfl, R, S⟩ := ha
  obtain ⟨A', c', B', k', rfl, R', S'⟩ := hb
  go_enter Tryd.func60, Tryd.ntmps60
  have hB := two4_made w (decide (x < 0)) (decide (y < 0)) (.slice A (digs x.natAbs).length c) (.slice B (digs d).length k) (.slice A' (digs y.natAbs).length c') (.slice B' (digs d').length k')
  obtain ⟨W, hW⟩ : ∃ W, W = (((w.alloc (.cells #[.bool (decide (x < 0)), .slice A (digs x.natAbs).length c, .bool false, .slice B (digs d).length k] 27)).alloc (.cells #[.bool (decide (y < 0)), .slice A' (digs y.natAbs).length c', .bool false, .slice B' (digs d').length k'] 27)).alloc (.cells #[.bool false, .slice none 0 0, .bool false, .slice none 0 0] 27)) := ⟨_, rfl⟩
  have hsz : W.heap.size = w.heap.size + 1 + 1 + 1 := by rw [hW]; simp
  rw [← hW] at hB
  have HB := Lib.hid (And.intro hB hsz)
  clear hB hsz
  go_wp2_with fail
  rw [← hW]
  clear hW
  have hbA : ∀ o, Below W.heap.size W (W.alloc o) := fun o => (Below.refl _ _).alloc (Nat.le_refl _) o
  refine (validAll2 (W.alloc _) (w.heap.size + 1 + 1 + 1) 2 x y d d' A B A' B' c k c' k' 27 (0, 0) (hT.below (HB.out.1.F.bel.trans ((hbA _).mono HB.out.1.F.bel.size))) F F' (by rw [← HB.out.2]; exact heap_alloc_new W _)
    (((HB.out.1.rd R).below (hbA _)).more (by simp)) (((HB.out.1.rd S).below (hbA _)).more (by simp)) (((HB.out.1.rd R').below (hbA _)).more (by simp)) (((HB.out.1.rd S').below (hbA _)).more (by simp))).mono ?_
  rintro _ W1 ⟨rfl, hb1⟩
  have hB1 := HB.out.1.after ((hbA _).trans (hb1.mono (by simp)))
  have H1 := Lib.hid hB1
  have H1d := Lib.hid (hB1.after (Below.refl _ _).drew)
  have HF := Lib.hid (And.intro F F')
  have a0 := hB1.a0
  have a1 := hB1.a1
  have b1 := hB1.b1
  have b2 := hB1.b2
  have b3 := hB1.b3
  have z1 : (((digs y.natAbs).length : Int) == 0) = false := by
    have hne : (digs y.natAbs).length ≠ 0 := fun e => by have := digs_len_zero.1 e; omega
    exact beq_eq_false_iff_ne.2 (by omega)
  obtain ⟨X1, hX1⟩ : ∃ X1, X1 = x * (d' : Int) := ⟨_, rfl⟩
  obtain ⟨Z0, hZ0⟩ : ∃ Z0, Z0 = sgnd (decide (X1 < 0) != decide (y < 0)) X1.natAbs := ⟨_, rfl⟩
  obtain ⟨D0, hD0⟩ : ∃ D0, D0 = d * y.natAbs := ⟨_, rfl⟩
  have hXl : (digs X1.natAbs).length ≤ 1000 := by rw [hX1]; exact mul_len F.hz (by simpa using F'.hd)
  have hZl : (digs Z0.natAbs).length ≤ 1000 := by rw [hZ0, sgnd_abs]; exact hXl
  have hZe : Z0 = x * d' * y.sign := by rw [hZ0, sgnd_quo X1 y hy, hX1]
  have hDl : (digs D0).length ≤ 1000 := by
    have h1 := mul_len (x := (d : Int)) (y := y) (by rw [Int.natAbs_natCast]; exact F.hd) F'.hz
    rw [Int.natAbs_mul, Int.natAbs_natCast, ← hD0] at h1
    exact h1
  have hDn : D0 ≠ 0 := by rw [hD0]; exact Nat.mul_ne_zero F.d0 (by omega)
  have HX := Lib.hid (And.intro hX1 hZ0)
  have HZ := Lib.hid (And.intro hZe (And.intro hD0 (And.intro hZl (And.intro hDl hDn))))
  clear hB1 hb1 HB hbA F F' hX1 hZ0 hXl hZe hD0 hZl hDl hDn H1d hy
  go_wp2_with fail
  refine (product_any _ _ _ x d' ⟨A, c, rfl, H1.out.rd R⟩ (isBig_den (H1.out.rd S')) (by have := HF.out.1.hz; omega) (by have := HF.out.2.hd; rw [Int.natAbs_natCast]; omega)).mono ?_
  rintro _ W3 ⟨v3, rfl, hI3, hb3⟩
  rw [← HX.out.1] at hI3
  obtain ⟨A3, c3, rfl, R3⟩ := hI3
  have hN := numAt_new (H1.out.after hb3) R3
  go_upto_region 6 with fail
  obtain ⟨W4, hW4⟩ : ∃ W4, W4 = W3.alloc (.cells #[.bool (decide (X1 < 0)), .slice A3 (digs X1.natAbs).length c3] 25) := ⟨_, rfl⟩
  rw [← hW4] at hN ⊢
  clear hW4 a0 a1 b1 b2 b3 H1 R3 hb3 z1
  generalize W3.heap.size = g at *
  have N0 := Lib.hid hN
  have N0d := Lib.hid (hN.after (Below.refl _ _).drew)
  have c0 := hN.c0
  have e1 := hN.c1
  have a3 := hN.T.a3
  have b0 := hN.T.b0
  have b1 := hN.T.b1
  clear hN
  go_wp2_with fail
  go_region_held3 (fun w' => w'.cell? ⟨g, 0, none⟩ = some (.bool (decide (X1 < 0))) ∧ w'.cell? ⟨g, 1, none⟩ = some (.slice A3 (digs X1.natAbs).length c3) ∧ w'.cell? ⟨w.heap.size, 3, none⟩ = some (.slice B (digs d).length k) ∧ w'.cell? ⟨w.heap.size + 1, 0, none⟩ = some (.bool (decide (y < 0))) ∧ w'.cell? ⟨w.heap.size + 1, 1, none⟩ = some (.slice A' (digs y.natAbs).length c'))
    (first | with_reducible exact held5 N0.out | with_reducible exact held5 N0d.out | with_reducible exact held5 N1.out | with_reducible exact held5 N2.out | with_reducible exact held5 N3.out | exact put5 N3.out)
    (first
      | (have R4b := R4; go_at_call 70; refine (lowest_any _ v5 Z0 D0 A4 c4 hI4 R4b HZ.out.2.2.2.2 (by have := HZ.out.2.2.1; omega) (by have := HZ.out.2.2.2.1; omega) (hT.below N2.out.T.F.bel)).mono ?_
         rintro _ W7 hF
         obtain ⟨A5, c5, A6, c6, Z1, D1, k1, rfl, R5, R6, hb5, hk⟩ := frac_open hF
         have S5 := N2.out.after hb5
         have N3 := Lib.hid S5
         have r0 := S5.T.F.r0
         have r1 := S5.T.F.r1
         have r2 := S5.T.F.r2
         have r3 := S5.T.F.r3
         have f0 := S5.T.F.fr 0
         have f1 := S5.T.F.fr 1
         have f2 := S5.T.F.fr 2
         have f3 := S5.T.F.fr 3
         clear hF hb5 S5 R4b)
      | (have hI3b := hI3; go_at_call 79; refine (mulWords_any _ B A' k c' (digs d) (digs y.natAbs) (N1.out.T.rd S) (N1.out.T.rd R') (by have := HF.out.1.hd; omega) (by have := HF.out.2.hz; omega)).mono ?_; rintro _ W6 ⟨v4, rfl, hO4, hb4⟩
         rw [val_digs, val_digs, ← HZ.out.2.1] at hO4
         obtain ⟨A4, c4, rfl, R4⟩ := own_rd hO4 (ok_digs _)
         have N2 := Lib.hid (N1.out.after hb4)
         have hI4 := hI3.below hb4
         clear hO4 hb4 hI3 hI3b)
      | (go_at_call 71; refine (big_any _ (decide (X1 < 0) != decide (y < 0)) A3 c3 X1.natAbs N0d.out.rd).mono ?_; rintro _ W5 ⟨v5, rfl, hI3, hb3⟩
         rw [← HX.out.2] at hI3
         have N1 := Lib.hid (N0d.out.after hb3)
         clear hb3))
  obtain ⟨e, d0, d1, d2, d3⟩ := N3.out.T.F.filled R5 R6 _ rfl
  have HE := Lib.hid (And.intro e (And.intro d0 (And.intro d1 (And.intro d2 d3))))
  clear e d0 d1 d2 d3 R5 R6 R4 R R' S S' N0 N0d N1 N2 N3 c0 e1 a3 b0 b1 hI4
  go_wp2
  (try simp only [Exit.inBlock, Exit.then])
  refine bodyPost_ret (results_frac rfl _ _ (w.heap.size + 1 + 1) rfl HE.out.2.1 HE.out.2.2.1 HE.out.2.2.2.1 HE.out.2.2.2.2) rfl ?_
  unfold Low
  rw [← HZ.out.1, ← HZ.out.2.1]
  exact frac_shut hk HE.out.1.1 HE.out.1.2

/-- Dividing by nothing. -/
def Nought (w : World) (e : Ending) (w' : World) : Prop := ∃ v, e = .returned (.tuple #[v, .int .i64 8]) ∧ IsFrac w' v 0 0 ∧ Below w.heap.size w w'

set_option maxRecDepth 100000 in
set_option maxHeartbeats 8000000 in
theorem divFrac_none (w : World) (a b : Value) (x : Int) (d d' : Nat) (ha : IsFrac w a x d) (hb : IsFrac w b 0 d') (F : Fine x d) (F' : Fine 0 d') (hT : Tabs w) :
    Calls Tryd.prog 60 #[a, b] w (Nought w) := by
  obtain ⟨y, hy⟩ : ∃ y : Int, y = 0 := ⟨_, rfl⟩
  rw [← hy] at hb F'
  have z1 : (((digs y.natAbs).length : Int) == 0) = true := by
    rw [hy]
    rfl
  clear hy
  obtain ⟨A, c, B, k, rfl, R, S⟩ := ha
  obtain ⟨A', c', B', k', rfl, R', S'⟩ := hb
  go_enter Tryd.func60, Tryd.ntmps60
  have hB := two4_made w (decide (x < 0)) (decide (y < 0)) (.slice A (digs x.natAbs).length c) (.slice B (digs d).length k) (.slice A' (digs y.natAbs).length c') (.slice B' (digs d').length k')
  obtain ⟨W, hW⟩ : ∃ W, W = (((w.alloc (.cells #[.bool (decide (x < 0)), .slice A (digs x.natAbs).length c, .bool false, .slice B (digs d).length k] 27)).alloc (.cells #[.bool (decide (y < 0)), .slice A' (digs y.natAbs).length c', .bool false, .slice B' (digs d').length k'] 27)).alloc (.cells #[.bool false, .slice none 0 0, .bool false, .slice none 0 0] 27)) := ⟨_, rfl⟩
  have hsz : W.heap.size = w.heap.size + 1 + 1 + 1 := by rw [hW]; simp
  rw [← hW] at hB
  have HB := Lib.hid (And.intro hB hsz)
  clear hB hsz
  go_wp2_with fail
  rw [← hW]
  clear hW
  have hbA : ∀ o, Below W.heap.size W (W.alloc o) := fun o => (Below.refl _ _).alloc (Nat.le_refl _) o
  refine (validAll2 (W.alloc _) (w.heap.size + 1 + 1 + 1) 2 x y d d' A B A' B' c k c' k' 27 (0, 0) (hT.below (HB.out.1.F.bel.trans ((hbA _).mono HB.out.1.F.bel.size))) F F' (by rw [← HB.out.2]; exact heap_alloc_new W _)
    (((HB.out.1.rd R).below (hbA _)).more (by simp)) (((HB.out.1.rd S).below (hbA _)).more (by simp)) (((HB.out.1.rd R').below (hbA _)).more (by simp)) (((HB.out.1.rd S').below (hbA _)).more (by simp))).mono ?_
  rintro _ W1 ⟨rfl, hb1⟩
  have hB1 := HB.out.1.after ((hbA _).trans (hb1.mono (by simp)))
  have H1 := Lib.hid hB1
  have H1d := Lib.hid (hB1.after (Below.refl _ _).drew)
  have HF := Lib.hid (And.intro F F')
  have b1 := hB1.b1
  have r0 := hB1.F.r0
  have r1 := hB1.F.r1
  have r2 := hB1.F.r2
  have r3 := hB1.F.r3
  have f0 := hB1.F.fr 0
  have f1 := hB1.F.fr 1
  have f2 := hB1.F.fr 2
  have f3 := hB1.F.fr 3
  clear hB1 hb1 HB hbA F F' H1d
  obtain ⟨e, d0, d1, d2, d3⟩ := H1.out.F.filled (z := 0) (d := 0) (A := none) (c := 0) (A' := none) (c' := 0) (Rd.nil _ _ _ _) (Rd.nil _ _ _ _) _ rfl
  have HE := Lib.hid (And.intro e (And.intro d0 (And.intro d1 (And.intro d2 d3))))
  clear e d0 d1 d2 d3 H1
  go_wp2_with fail
  go_wp2
  (try simp only [Exit.inBlock, Exit.then])
  refine bodyPost_ret (results_frac rfl _ _ (w.heap.size + 1 + 1) rfl HE.out.2.1 HE.out.2.2.1 HE.out.2.2.2.1 HE.out.2.2.2.2) rfl ?_
  exact ⟨_, rfl, HE.out.1.1, HE.out.1.2⟩

end Go.Proofs.YtbeidpeoichakaaDoor.na
