/- fraction: Mul, Div of fractions. -/
import Derived.Test.YtbeidpeoichakaaGreatDoorGf
import Derived.Test.YtbeidpeoichakaaGreatDoorKa
set_option linter.unusedSimpArgs false
namespace Go.Proofs.YtbeidpeoichakaaGreatDoor.na
open Go.RowKit Go.Proofs.YtbeidpeoichakaaGreatDoor.fm Go.Proofs.YtbeidpeoichakaaGreatDoor.mem Go.Proofs.YtbeidpeoichakaaGreatDoor.fa Go.Proofs.YtbeidpeoichakaaGreatDoor.fb Go.Proofs.YtbeidpeoichakaaGreatDoor.fe Go.Proofs.YtbeidpeoichakaaGreatDoor.fj Go.Proofs.YtbeidpeoichakaaGreatDoor.fu Go.Proofs.YtbeidpeoichakaaGreatDoor.fv Go.Proofs.YtbeidpeoichakaaGreatDoor.fw Go.Proofs.YtbeidpeoichakaaGreatDoor.gb Go.Proofs.YtbeidpeoichakaaGreatDoor.gc Go.Proofs.YtbeidpeoichakaaGreatDoor.gd Go.Proofs.YtbeidpeoichakaaGreatDoor.gg

theorem held6 {w W : World} {n n' : Bool} {s t s' t' : Value} (B : Two4 w W n n' s t s' t') :
    W.cell? ⟨w.heap.size, 0, none⟩ = some (.bool n) ∧ W.cell? ⟨w.heap.size, 1, none⟩ = some s ∧ W.cell? ⟨w.heap.size, 3, none⟩ = some t ∧
    W.cell? ⟨w.heap.size + 1, 0, none⟩ = some (.bool n') ∧ W.cell? ⟨w.heap.size + 1, 1, none⟩ = some s' ∧ W.cell? ⟨w.heap.size + 1, 3, none⟩ = some t' :=
  ⟨B.a0, B.a1, B.a3, B.b0, B.b1, B.b3⟩

theorem put6 {w W : World} {n n' : Bool} {s t s' t' v0 v1 v2 v3 : Value} (B : Two4 w W n n' s t s' t') :
    (((((W.setCell ⟨w.heap.size + 1 + 1, 0, none⟩ v0).setCell ⟨w.heap.size + 1 + 1, 1, none⟩ v1).setCell ⟨w.heap.size + 1 + 1, 2, none⟩ v2).setCell ⟨w.heap.size + 1 + 1, 3, none⟩ v3).cell? ⟨w.heap.size, 0, none⟩ = some (.bool n)) ∧
    (((((W.setCell ⟨w.heap.size + 1 + 1, 0, none⟩ v0).setCell ⟨w.heap.size + 1 + 1, 1, none⟩ v1).setCell ⟨w.heap.size + 1 + 1, 2, none⟩ v2).setCell ⟨w.heap.size + 1 + 1, 3, none⟩ v3).cell? ⟨w.heap.size, 1, none⟩ = some s) ∧
    (((((W.setCell ⟨w.heap.size + 1 + 1, 0, none⟩ v0).setCell ⟨w.heap.size + 1 + 1, 1, none⟩ v1).setCell ⟨w.heap.size + 1 + 1, 2, none⟩ v2).setCell ⟨w.heap.size + 1 + 1, 3, none⟩ v3).cell? ⟨w.heap.size, 3, none⟩ = some t) ∧
    (((((W.setCell ⟨w.heap.size + 1 + 1, 0, none⟩ v0).setCell ⟨w.heap.size + 1 + 1, 1, none⟩ v1).setCell ⟨w.heap.size + 1 + 1, 2, none⟩ v2).setCell ⟨w.heap.size + 1 + 1, 3, none⟩ v3).cell? ⟨w.heap.size + 1, 0, none⟩ = some (.bool n')) ∧
    (((((W.setCell ⟨w.heap.size + 1 + 1, 0, none⟩ v0).setCell ⟨w.heap.size + 1 + 1, 1, none⟩ v1).setCell ⟨w.heap.size + 1 + 1, 2, none⟩ v2).setCell ⟨w.heap.size + 1 + 1, 3, none⟩ v3).cell? ⟨w.heap.size + 1, 1, none⟩ = some s') ∧
    (((((W.setCell ⟨w.heap.size + 1 + 1, 0, none⟩ v0).setCell ⟨w.heap.size + 1 + 1, 1, none⟩ v1).setCell ⟨w.heap.size + 1 + 1, 2, none⟩ v2).setCell ⟨w.heap.size + 1 + 1, 3, none⟩ v3).cell? ⟨w.heap.size + 1, 3, none⟩ = some t') := by
  refine ⟨?_, ?_, ?_, ?_, ?_, ?_⟩
  · exact (four_other (by show w.heap.size ≠ _; omega)).trans B.a0
  · exact (four_other (by show w.heap.size ≠ _; omega)).trans B.a1
  · exact (four_other (by show w.heap.size ≠ _; omega)).trans B.a3
  · exact (four_other (by show w.heap.size + 1 ≠ _; omega)).trans B.b0
  · exact (four_other (by show w.heap.size + 1 ≠ _; omega)).trans B.b1
  · exact (four_other (by show w.heap.size + 1 ≠ _; omega)).trans B.b3

theorem held5 {w W : World} {n n' : Bool} {s t s' t' : Value} {z : Int} {g : Nat} {A : Option Addr} {c : Nat} (N : NumAt w W n n' s t s' t' z g A c) :
    W.cell? ⟨g, 0, none⟩ = some (.bool (decide (z < 0))) ∧ W.cell? ⟨g, 1, none⟩ = some (.slice A (digs z.natAbs).length c) ∧ W.cell? ⟨w.heap.size, 3, none⟩ = some t ∧ W.cell? ⟨w.heap.size + 1, 0, none⟩ = some (.bool n') ∧ W.cell? ⟨w.heap.size + 1, 1, none⟩ = some s' :=
  ⟨N.c0, N.c1, N.T.a3, N.T.b0, N.T.b1⟩

theorem put5 {w W : World} {n n' : Bool} {s t s' t' v0 v1 v2 v3 : Value} {z : Int} {g : Nat} {A : Option Addr} {c : Nat} (N : NumAt w W n n' s t s' t' z g A c) :
    (((((W.setCell ⟨w.heap.size + 1 + 1, 0, none⟩ v0).setCell ⟨w.heap.size + 1 + 1, 1, none⟩ v1).setCell ⟨w.heap.size + 1 + 1, 2, none⟩ v2).setCell ⟨w.heap.size + 1 + 1, 3, none⟩ v3).cell? ⟨g, 0, none⟩ = some (.bool (decide (z < 0)))) ∧
    (((((W.setCell ⟨w.heap.size + 1 + 1, 0, none⟩ v0).setCell ⟨w.heap.size + 1 + 1, 1, none⟩ v1).setCell ⟨w.heap.size + 1 + 1, 2, none⟩ v2).setCell ⟨w.heap.size + 1 + 1, 3, none⟩ v3).cell? ⟨g, 1, none⟩ = some (.slice A (digs z.natAbs).length c)) ∧
    (((((W.setCell ⟨w.heap.size + 1 + 1, 0, none⟩ v0).setCell ⟨w.heap.size + 1 + 1, 1, none⟩ v1).setCell ⟨w.heap.size + 1 + 1, 2, none⟩ v2).setCell ⟨w.heap.size + 1 + 1, 3, none⟩ v3).cell? ⟨w.heap.size, 3, none⟩ = some t) ∧
    (((((W.setCell ⟨w.heap.size + 1 + 1, 0, none⟩ v0).setCell ⟨w.heap.size + 1 + 1, 1, none⟩ v1).setCell ⟨w.heap.size + 1 + 1, 2, none⟩ v2).setCell ⟨w.heap.size + 1 + 1, 3, none⟩ v3).cell? ⟨w.heap.size + 1, 0, none⟩ = some (.bool n')) ∧
    (((((W.setCell ⟨w.heap.size + 1 + 1, 0, none⟩ v0).setCell ⟨w.heap.size + 1 + 1, 1, none⟩ v1).setCell ⟨w.heap.size + 1 + 1, 2, none⟩ v2).setCell ⟨w.heap.size + 1 + 1, 3, none⟩ v3).cell? ⟨w.heap.size + 1, 1, none⟩ = some s') := by
  have h := N.lo
  refine ⟨?_, ?_, ?_, ?_, ?_⟩
  · exact (four_other (by show g ≠ _; omega)).trans N.c0
  · exact (four_other (by show g ≠ _; omega)).trans N.c1
  · exact (four_other (by show w.heap.size ≠ _; omega)).trans N.T.a3
  · exact (four_other (by show w.heap.size + 1 ≠ _; omega)).trans N.T.b0
  · exact (four_other (by show w.heap.size + 1 ≠ _; omega)).trans N.T.b1

set_option maxRecDepth 100000 in
set_option maxHeartbeats 8000000 in
theorem mulFrac_any (w : World) (a b : Value) (x y : Int) (d d' : Nat) (ha : IsFrac w a x d) (hb : IsFrac w b y d') (F : Fine x d) (F' : Fine y d') (hT : Tabs w) :
    Calls Tryz.prog 16 #[a, b] w (Low w (x * y) (d * d')) := by
  obtain ⟨A, c, B, k, rfl, R, S⟩ := ha
  obtain ⟨A', c', B', k', rfl, R', S'⟩ := hb
  go_enter Tryz.func16, Tryz.ntmps16
  have hB := two4_made w (decide (x < 0)) (decide (y < 0)) (.slice A (digs x.natAbs).length c) (.slice B (digs d).length k) (.slice A' (digs y.natAbs).length c') (.slice B' (digs d').length k')
  obtain ⟨W, hW⟩ : ∃ W, W = (((w.alloc (.cells #[.bool (decide (x < 0)), .slice A (digs x.natAbs).length c, .bool false, .slice B (digs d).length k] 30)).alloc (.cells #[.bool (decide (y < 0)), .slice A' (digs y.natAbs).length c', .bool false, .slice B' (digs d').length k'] 30)).alloc (.cells #[.bool false, .slice none 0 0, .bool false, .slice none 0 0] 30)) := ⟨_, rfl⟩
  have hsz : W.heap.size = w.heap.size + 1 + 1 + 1 := by rw [hW]; simp
  rw [← hW] at hB
  have HB := Lib.hid (And.intro hB hsz)
  clear hB hsz
  go_wp2_with fail
  rw [← hW]
  clear hW
  have hbA : ∀ o, Below W.heap.size W (W.alloc o) := fun o => (Below.refl _ _).alloc (Nat.le_refl _) o
  refine (validAll2 (W.alloc _) (w.heap.size + 1 + 1 + 1) 2 x y d d' A B A' B' c k c' k' 30 (0, 0) (hT.below (HB.out.1.F.bel.trans ((hbA _).mono HB.out.1.F.bel.size))) F F' (by rw [← HB.out.2]; exact heap_alloc_new W _)
    (((HB.out.1.rd R).below (hbA _)).more (by simp)) (((HB.out.1.rd S).below (hbA _)).more (by simp)) (((HB.out.1.rd R').below (hbA _)).more (by simp)) (((HB.out.1.rd S').below (hbA _)).more (by simp))).mono ?_
  rintro _ W1 ⟨rfl, hb1⟩
  have hB1 := HB.out.1.after ((hbA _).trans (hb1.mono (by simp)))
  have H1 := Lib.hid hB1
  have H1d := Lib.hid (hB1.after (Below.refl _ _).drew)
  have HF := Lib.hid (And.intro F F')
  have a0 := hB1.a0
  have a1 := hB1.a1
  have a3 := hB1.a3
  have b0 := hB1.b0
  have b1 := hB1.b1
  have b3 := hB1.b3
  obtain ⟨Z0, hZ0⟩ : ∃ Z0, Z0 = x * y := ⟨_, rfl⟩
  obtain ⟨D0, hD0⟩ : ∃ D0, D0 = d * d' := ⟨_, rfl⟩
  have hZl : (digs Z0.natAbs).length ≤ 1000 := by rw [hZ0]; exact mul_len F.hz F'.hz
  have hDl : (digs D0).length ≤ 1000 := by
    have h1 := mul_len (x := (d : Int)) (y := (d' : Int)) (by rw [Int.natAbs_natCast]; exact F.hd) (by rw [Int.natAbs_natCast]; exact F'.hd)
    rw [← Int.natCast_mul, Int.natAbs_natCast, ← hD0] at h1
    exact h1
  have hDn : D0 ≠ 0 := by rw [hD0]; exact Nat.mul_ne_zero F.d0 F'.d0
  have HZ := Lib.hid (And.intro hZ0 (And.intro hD0 (And.intro hZl (And.intro hDl hDn))))
  clear hB1 hb1 HB hbA F F' hZ0 hD0 hZl hDl hDn
  go_wp2_with fail
  go_region_held3 (fun w' => w'.cell? ⟨w.heap.size, 0, none⟩ = some (.bool (decide (x < 0))) ∧ w'.cell? ⟨w.heap.size, 1, none⟩ = some (.slice A (digs x.natAbs).length c) ∧ w'.cell? ⟨w.heap.size, 3, none⟩ = some (.slice B (digs d).length k) ∧ w'.cell? ⟨w.heap.size + 1, 0, none⟩ = some (.bool (decide (y < 0))) ∧ w'.cell? ⟨w.heap.size + 1, 1, none⟩ = some (.slice A' (digs y.natAbs).length c') ∧ w'.cell? ⟨w.heap.size + 1, 3, none⟩ = some (.slice B' (digs d').length k'))
    (first | with_reducible exact held6 H1.out | with_reducible exact held6 H1d.out | with_reducible exact held6 H3.out | with_reducible exact held6 H4.out | with_reducible exact held6 H5.out | exact put6 H5.out)
    (first
      | (have R4b := R4; go_at_call 40; refine (lowest_any W4 v3 Z0 D0 A4 c4 hI4 R4b HZ.out.2.2.2.2 (by have := HZ.out.2.2.1; omega) (by have := HZ.out.2.2.2.1; omega) (hT.below H4.out.F.bel)).mono ?_
         rintro _ W5 hF
         obtain ⟨A5, c5, A6, c6, Z1, D1, k1, rfl, R5, R6, hb5, hk⟩ := frac_open hF
         have S5 := H4.out.after hb5
         have H5 := Lib.hid S5
         have r0 := S5.F.r0
         have r1 := S5.F.r1
         have r2 := S5.F.r2
         have r3 := S5.F.r3
         have f0 := S5.F.fr 0
         have f1 := S5.F.fr 1
         have f2 := S5.F.fr 2
         have f3 := S5.F.fr 3
         clear hF hb5 S5 R4b)
      | (have hI3b := hI3; go_at_call 44; refine (mulWords_any W3 B B' k k' (digs d) (digs d') (H3.out.rd S) (H3.out.rd S') (by have := HF.out.1.hd; omega) (by have := HF.out.2.hd; omega)).mono ?_; rintro _ W4 ⟨v4, rfl, hO4, hb4⟩
         rw [val_digs, val_digs, ← HZ.out.2.1] at hO4
         obtain ⟨A4, c4, rfl, R4⟩ := own_rd hO4 (ok_digs _)
         have H4 := Lib.hid (H3.out.after hb4)
         have hI4 := hI3.below hb4
         clear hO4 hb4 hI3 hI3b)
      | (go_at_call 43; refine (product_any W1.drew _ _ x y ⟨A, c, rfl, H1d.out.rd R⟩ ⟨A', c', rfl, H1d.out.rd R'⟩ (by have := HF.out.1.hz; omega) (by have := HF.out.2.hz; omega)).mono ?_; rintro _ W3 ⟨v3, rfl, hI3, hb3⟩
         rw [← HZ.out.1] at hI3
         have H3 := Lib.hid (H1d.out.after hb3)
         clear hb3))
  obtain ⟨e, d0, d1, d2, d3⟩ := H5.out.F.filled R5 R6 _ rfl
  have HE := Lib.hid (And.intro e (And.intro d0 (And.intro d1 (And.intro d2 d3))))
  clear e d0 d1 d2 d3 R5 R6 R4 R R' S S' H1 H1d H3 H4 H5 a0 a1 a3 b0 b1 b3 hI4
  go_wp2
  (try simp only [Exit.inBlock, Exit.then])
  refine bodyPost_ret (results_frac rfl _ _ (w.heap.size + 1 + 1) rfl HE.out.2.1 HE.out.2.2.1 HE.out.2.2.2.1 HE.out.2.2.2.2) rfl ?_
  unfold Low
  rw [← HZ.out.1, ← HZ.out.2.1]
  exact frac_shut hk HE.out.1.1 HE.out.1.2

theorem sgnd_quo (X y : Int) (hy : y ≠ 0) : sgnd (decide (X < 0) != decide (y < 0)) X.natAbs = X * y.sign := by
  unfold sgnd
  by_cases h : y < 0
  · rw [Int.sign_eq_neg_one_of_neg h, decide_eq_true h]
    by_cases h' : X < 0
    · rw [decide_eq_true h']; simp; omega
    · rw [decide_eq_false h']; simp; omega
  · rw [Int.sign_eq_one_of_pos (by omega), decide_eq_false h]
    by_cases h' : X < 0
    · rw [decide_eq_true h']; simp; omega
    · rw [decide_eq_false h']; simp; omega

set_option maxRecDepth 100000 in
set_option maxHeartbeats 8000000 in
theorem divFrac_any (w : World) (a b : Value) (x y : Int) (d d' : Nat) (ha : IsFrac w a x d) (hb : IsFrac w b y d') (F : Fine x d) (F' : Fine y d') (hy : y ≠ 0) (hT : Tabs w) :
    Calls Tryz.prog 18 #[a, b] w (Low w (x * d' * y.sign) (d * y.natAbs)) := by
  obtain ⟨A, c, B, k, rfl, R, S⟩ := ha
  obtain ⟨A', c', B', k', rfl, R', S'⟩ := hb
  go_enter Tryz.func18, Tryz.ntmps18
  have hB := two4_made w (decide (x < 0)) (decide (y < 0)) (.slice A (digs x.natAbs).length c) (.slice B (digs d).length k) (.slice A' (digs y.natAbs).length c') (.slice B' (digs d').length k')
  obtain ⟨W, hW⟩ : ∃ W, W = (((w.alloc (.cells #[.bool (decide (x < 0)), .slice A (digs x.natAbs).length c, .bool false, .slice B (digs d).length k] 30)).alloc (.cells #[.bool (decide (y < 0)), .slice A' (digs y.natAbs).length c', .bool false, .slice B' (digs d').length k'] 30)).alloc (.cells #[.bool false, .slice none 0 0, .bool false, .slice none 0 0] 30)) := ⟨_, rfl⟩
  have hsz : W.heap.size = w.heap.size + 1 + 1 + 1 := by rw [hW]; simp
  rw [← hW] at hB
  have HB := Lib.hid (And.intro hB hsz)
  clear hB hsz
  go_wp2_with fail
  rw [← hW]
  clear hW
  have hbA : ∀ o, Below W.heap.size W (W.alloc o) := fun o => (Below.refl _ _).alloc (Nat.le_refl _) o
  refine (validAll2 (W.alloc _) (w.heap.size + 1 + 1 + 1) 2 x y d d' A B A' B' c k c' k' 30 (0, 0) (hT.below (HB.out.1.F.bel.trans ((hbA _).mono HB.out.1.F.bel.size))) F F' (by rw [← HB.out.2]; exact heap_alloc_new W _)
    (((HB.out.1.rd R).below (hbA _)).more (by simp)) (((HB.out.1.rd S).below (hbA _)).more (by simp)) (((HB.out.1.rd R').below (hbA _)).more (by simp)) (((HB.out.1.rd S').below (hbA _)).more (by simp))).mono ?_
  rintro _ W1 ⟨rfl, hb1⟩
  have hB1 := HB.out.1.after ((hbA _).trans (hb1.mono (by simp)))
  have H1 := Lib.hid hB1
  have H1d := Lib.hid (hB1.after (Below.refl _ _).drew)
  have HF := Lib.hid (And.intro F F')
  have a0 := hB1.a0
  have a1 := hB1.a1
  have b1 := hB1.b1
  have b2 := hB1.b2
  have b3 := hB1.b3
  have z1 : (((digs y.natAbs).length : Int) == 0) = false := by
    have hne : (digs y.natAbs).length ≠ 0 := fun e => by have := digs_len_zero.1 e; omega
    exact beq_eq_false_iff_ne.2 (by omega)
  obtain ⟨X1, hX1⟩ : ∃ X1, X1 = x * (d' : Int) := ⟨_, rfl⟩
  obtain ⟨Z0, hZ0⟩ : ∃ Z0, Z0 = sgnd (decide (X1 < 0) != decide (y < 0)) X1.natAbs := ⟨_, rfl⟩
  obtain ⟨D0, hD0⟩ : ∃ D0, D0 = d * y.natAbs := ⟨_, rfl⟩
  have hXl : (digs X1.natAbs).length ≤ 1000 := by rw [hX1]; exact mul_len F.hz (by simpa using F'.hd)
  have hZl : (digs Z0.natAbs).length ≤ 1000 := by rw [hZ0, sgnd_abs]; exact hXl
  have hZe : Z0 = x * d' * y.sign := by rw [hZ0, sgnd_quo X1 y hy, hX1]
  have hDl : (digs D0).length ≤ 1000 := by
    have h1 := mul_len (x := (d : Int)) (y := y) (by rw [Int.natAbs_natCast]; exact F.hd) F'.hz
    rw [Int.natAbs_mul, Int.natAbs_natCast, ← hD0] at h1
    exact h1
  have hDn : D0 ≠ 0 := by rw [hD0]; exact Nat.mul_ne_zero F.d0 (by omega)
  have HX := Lib.hid (And.intro hX1 hZ0)
  have HZ := Lib.hid (And.intro hZe (And.intro hD0 (And.intro hZl (And.intro hDl hDn))))
  clear hB1 hb1 HB hbA F F' hX1 hZ0 hXl hZe hD0 hZl hDl hDn H1d hy
  go_wp2_with fail
  refine (product_any _ _ _ x d' ⟨A, c, rfl, H1.out.rd R⟩ (isBig_den (H1.out.rd S')) (by have := HF.out.1.hz; omega) (by have := HF.out.2.hd; rw [Int.natAbs_natCast]; omega)).mono ?_
  rintro _ W3 ⟨v3, rfl, hI3, hb3⟩
  rw [← HX.out.1] at hI3
  obtain ⟨A3, c3, rfl, R3⟩ := hI3
  have hN := numAt_new (H1.out.after hb3) R3
  go_upto_region 6 with fail
  obtain ⟨W4, hW4⟩ : ∃ W4, W4 = W3.alloc (.cells #[.bool (decide (X1 < 0)), .slice A3 (digs X1.natAbs).length c3] 28) := ⟨_, rfl⟩
  rw [← hW4] at hN ⊢
  clear hW4 a0 a1 b1 b2 b3 H1 R3 hb3 z1
  generalize W3.heap.size = g at *
  have N0 := Lib.hid hN
  have N0d := Lib.hid (hN.after (Below.refl _ _).drew)
  have c0 := hN.c0
  have e1 := hN.c1
  have a3 := hN.T.a3
  have b0 := hN.T.b0
  have b1 := hN.T.b1
  clear hN
  go_wp2_with fail
  go_region_held3 (fun w' => w'.cell? ⟨g, 0, none⟩ = some (.bool (decide (X1 < 0))) ∧ w'.cell? ⟨g, 1, none⟩ = some (.slice A3 (digs X1.natAbs).length c3) ∧ w'.cell? ⟨w.heap.size, 3, none⟩ = some (.slice B (digs d).length k) ∧ w'.cell? ⟨w.heap.size + 1, 0, none⟩ = some (.bool (decide (y < 0))) ∧ w'.cell? ⟨w.heap.size + 1, 1, none⟩ = some (.slice A' (digs y.natAbs).length c'))
    (first | with_reducible exact held5 N0.out | with_reducible exact held5 N0d.out | with_reducible exact held5 N1.out | with_reducible exact held5 N2.out | with_reducible exact held5 N3.out | exact put5 N3.out)
    (first
      | (have R4b := R4; go_at_call 40; refine (lowest_any _ v5 Z0 D0 A4 c4 hI4 R4b HZ.out.2.2.2.2 (by have := HZ.out.2.2.1; omega) (by have := HZ.out.2.2.2.1; omega) (hT.below N2.out.T.F.bel)).mono ?_
         rintro _ W7 hF
         obtain ⟨A5, c5, A6, c6, Z1, D1, k1, rfl, R5, R6, hb5, hk⟩ := frac_open hF
         have S5 := N2.out.after hb5
         have N3 := Lib.hid S5
         have r0 := S5.T.F.r0
         have r1 := S5.T.F.r1
         have r2 := S5.T.F.r2
         have r3 := S5.T.F.r3
         have f0 := S5.T.F.fr 0
         have f1 := S5.T.F.fr 1
         have f2 := S5.T.F.fr 2
         have f3 := S5.T.F.fr 3
         clear hF hb5 S5 R4b)
      | (have hI3b := hI3; go_at_call 44; refine (mulWords_any _ B A' k c' (digs d) (digs y.natAbs) (N1.out.T.rd S) (N1.out.T.rd R') (by have := HF.out.1.hd; omega) (by have := HF.out.2.hz; omega)).mono ?_; rintro _ W6 ⟨v4, rfl, hO4, hb4⟩
         rw [val_digs, val_digs, ← HZ.out.2.1] at hO4
         obtain ⟨A4, c4, rfl, R4⟩ := own_rd hO4 (ok_digs _)
         have N2 := Lib.hid (N1.out.after hb4)
         have hI4 := hI3.below hb4
         clear hO4 hb4 hI3 hI3b)
      | (go_at_call 50; refine (big_any _ (decide (X1 < 0) != decide (y < 0)) A3 c3 X1.natAbs N0d.out.rd).mono ?_; rintro _ W5 ⟨v5, rfl, hI3, hb3⟩
         rw [← HX.out.2] at hI3
         have N1 := Lib.hid (N0d.out.after hb3)
         clear hb3))
  obtain ⟨e, d0, d1, d2, d3⟩ := N3.out.T.F.filled R5 R6 _ rfl
  have HE := Lib.hid (And.intro e (And.intro d0 (And.intro d1 (And.intro d2 d3))))
  clear e d0 d1 d2 d3 R5 R6 R4 R R' S S' N0 N0d N1 N2 N3 c0 e1 a3 b0 b1 hI4
  go_wp2
  (try simp only [Exit.inBlock, Exit.then])
  refine bodyPost_ret (results_frac rfl _ _ (w.heap.size + 1 + 1) rfl HE.out.2.1 HE.out.2.2.1 HE.out.2.2.2.1 HE.out.2.2.2.2) rfl ?_
  unfold Low
  rw [← HZ.out.1, ← HZ.out.2.1]
  exact frac_shut hk HE.out.1.1 HE.out.1.2

/-- Dividing by nothing. -/
def Nought (w : World) (e : Ending) (w' : World) : Prop := ∃ v, e = .returned (.tuple #[v, .int .i64 8]) ∧ IsFrac w' v 0 0 ∧ Below w.heap.size w w'

set_option maxRecDepth 100000 in
set_option maxHeartbeats 8000000 in
theorem divFrac_none (w : World) (a b : Value) (x : Int) (d d' : Nat) (ha : IsFrac w a x d) (hb : IsFrac w b 0 d') (F : Fine x d) (F' : Fine 0 d') (hT : Tabs w) :
    Calls Tryz.prog 18 #[a, b] w (Nought w) := by
  obtain ⟨y, hy⟩ : ∃ y : Int, y = 0 := ⟨_, rfl⟩
  rw [← hy] at hb F'
  have z1 : (((digs y.natAbs).length : Int) == 0) = true := by
    rw [hy]
    rfl
  clear hy
  obtain ⟨A, c, B, k, rfl, R, S⟩ := ha
  obtain ⟨A', c', B', k', rfl, R', S'⟩ := hb
  go_enter Tryz.func18, Tryz.ntmps18
  have hB := two4_made w (decide (x < 0)) (decide (y < 0)) (.slice A (digs x.natAbs).length c) (.slice B (digs d).length k) (.slice A' (digs y.natAbs).length c') (.slice B' (digs d').length k')
  obtain ⟨W, hW⟩ : ∃ W, W = (((w.alloc (.cells #[.bool (decide (x < 0)), .slice A (digs x.natAbs).length c, .bool false, .slice B (digs d).length k] 30)).alloc (.cells #[.bool (decide (y < 0)), .slice A' (digs y.natAbs).length c', .bool false, .slice B' (digs d').length k'] 30)).alloc (.cells #[.bool false, .slice none 0 0, .bool false, .slice none 0 0] 30)) := ⟨_, rfl⟩
  have hsz : W.heap.size = w.heap.size + 1 + 1 + 1 := by rw [hW]; simp
  rw [← hW] at hB
  have HB := Lib.hid (And.intro hB hsz)
  clear hB hsz
  go_wp2_with fail
  rw [← hW]
  clear hW
  have hbA : ∀ o, Below W.heap.size W (W.alloc o) := fun o => (Below.refl _ _).alloc (Nat.le_refl _) o
  refine (validAll2 (W.alloc _) (w.heap.size + 1 + 1 + 1) 2 x y d d' A B A' B' c k c' k' 30 (0, 0) (hT.below (HB.out.1.F.bel.trans ((hbA _).mono HB.out.1.F.bel.size))) F F' (by rw [← HB.out.2]; exact heap_alloc_new W _)
    (((HB.out.1.rd R).below (hbA _)).more (by simp)) (((HB.out.1.rd S).below (hbA _)).more (by simp)) (((HB.out.1.rd R').below (hbA _)).more (by simp)) (((HB.out.1.rd S').below (hbA _)).more (by simp))).mono ?_
  rintro _ W1 ⟨rfl, hb1⟩
  have hB1 := HB.out.1.after ((hbA _).trans (hb1.mono (by simp)))
  have H1 := Lib.hid hB1
  have H1d := Lib.hid (hB1.after (Below.refl _ _).drew)
  have HF := Lib.hid (And.intro F F')
  have b1 := hB1.b1
  have r0 := hB1.F.r0
  have r1 := hB1.F.r1
  have r2 := hB1.F.r2
  have r3 := hB1.F.r3
  have f0 := hB1.F.fr 0
  have f1 := hB1.F.fr 1
  have f2 := hB1.F.fr 2
  have f3 := hB1.F.fr 3
  clear hB1 hb1 HB hbA F F' H1d
  obtain ⟨e, d0, d1, d2, d3⟩ := H1.out.F.filled (z := 0) (d := 0) (A := none) (c := 0) (A' := none) (c' := 0) (Rd.nil _ _ _ _) (Rd.nil _ _ _ _) _ rfl
  have HE := Lib.hid (And.intro e (And.intro d0 (And.intro d1 (And.intro d2 d3))))
  clear e d0 d1 d2 d3 H1
  go_wp2_with fail
  go_wp2
  (try simp only [Exit.inBlock, Exit.then])
  refine bodyPost_ret (results_frac rfl _ _ (w.heap.size + 1 + 1) rfl HE.out.2.1 HE.out.2.2.1 HE.out.2.2.2.1 HE.out.2.2.2.2) rfl ?_
  exact ⟨_, rfl, HE.out.1.1, HE.out.1.2⟩

end Go.Proofs.YtbeidpeoichakaaGreatDoor.na

/- fraction: the arithmetic of fractions in lowest terms, as rational numbers; Valid. -/
set_option linter.unusedSimpArgs false
namespace Go.Proofs.YtbeidpeoichakaaGreatDoor.nb
open Go.RowKit Go.Proofs.YtbeidpeoichakaaGreatDoor.fm Go.Proofs.YtbeidpeoichakaaGreatDoor.mem Go.Proofs.YtbeidpeoichakaaGreatDoor.fj Go.Proofs.YtbeidpeoichakaaGreatDoor.fu Go.Proofs.YtbeidpeoichakaaGreatDoor.fv Go.Proofs.YtbeidpeoichakaaGreatDoor.fw Go.Proofs.YtbeidpeoichakaaGreatDoor.fx Go.Proofs.YtbeidpeoichakaaGreatDoor.fy Go.Proofs.YtbeidpeoichakaaGreatDoor.fz Go.Proofs.YtbeidpeoichakaaGreatDoor.gb Go.Proofs.YtbeidpeoichakaaGreatDoor.gc Go.Proofs.YtbeidpeoichakaaGreatDoor.gd Go.Proofs.YtbeidpeoichakaaGreatDoor.gg Go.Proofs.YtbeidpeoichakaaGreatDoor.hb Go.Proofs.YtbeidpeoichakaaGreatDoor.hd Go.Proofs.YtbeidpeoichakaaGreatDoor.hf Go.Proofs.YtbeidpeoichakaaGreatDoor.hg Go.Proofs.YtbeidpeoichakaaGreatDoor.hh Go.Proofs.YtbeidpeoichakaaGreatDoor.ji Go.Proofs.YtbeidpeoichakaaGreatDoor.jj Go.Proofs.YtbeidpeoichakaaGreatDoor.jk Go.Proofs.YtbeidpeoichakaaGreatDoor.ka Go.Proofs.YtbeidpeoichakaaGreatDoor.na

/-- the rational number of a fraction -/
def q (z : Int) (d : Nat) : Rat := (z : Rat) / ((d : Nat) : Rat)

theorem cast_ne {d : Nat} (h : d ≠ 0) : ((d : Nat) : Rat) ≠ 0 := by
  intro e; exact h (by exact_mod_cast e)
theorem q_add (x y : Int) (d d' : Nat) (h : d ≠ 0) (h' : d' ≠ 0) : q (x * d' + y * d) (d * d') = q x d + q y d' := by
  unfold q
  have := cast_ne h; have := cast_ne h'
  push_cast
  grind
theorem q_sub (x y : Int) (d d' : Nat) (h : d ≠ 0) (h' : d' ≠ 0) : q (x * d' + (-y) * d) (d * d') = q x d - q y d' := by
  unfold q
  have := cast_ne h; have := cast_ne h'
  push_cast
  grind
theorem q_mul (x y : Int) (d d' : Nat) (h : d ≠ 0) (h' : d' ≠ 0) : q (x * y) (d * d') = q x d * q y d' := by
  unfold q
  have := cast_ne h; have := cast_ne h'
  push_cast
  grind
theorem q_div (x y : Int) (d d' : Nat) (h : d ≠ 0) (h' : d' ≠ 0) (hy : y ≠ 0) : q (x * d' * y.sign) (d * y.natAbs) = q x d / q y d' := by
  unfold q
  have h1 := cast_ne h; have h2 := cast_ne h'
  have h3 : ((y : Int) : Rat) ≠ 0 := by intro e; exact hy (by exact_mod_cast e)
  have hs : (y.sign : Rat) * (y : Rat) = ((y.natAbs : Nat) : Rat) := by
    have : y.sign * y = (y.natAbs : Int) := by rw [Int.mul_comm]; exact Int.mul_sign_self y
    exact_mod_cast this
  have hn : ((y.natAbs : Nat) : Rat) ≠ 0 := cast_ne (by omega)
  push_cast
  grind
theorem q_eq {z z' : Int} {d d' : Nat} (h : d ≠ 0) (h' : d' ≠ 0) (e : q z d = q z' d') : z * d' = z' * d := by
  unfold q at e
  have := cast_ne h; have := cast_ne h'
  have : (z : Rat) * d' = z' * d := by grind
  exact_mod_cast this
theorem q_ne {z : Int} {d : Nat} (h : d ≠ 0) (hz : z ≠ 0) : q z d ≠ 0 := by
  intro e
  have h1 : q z d = q 0 1 := by rw [e]; unfold q; grind
  have := q_eq h (by decide) h1
  simp at this
  exact hz this
theorem q_scale (z : Int) (d g : Nat) (hg : g ≠ 0) (hd : d ≠ 0) (h1 : (g : Int) ∣ z) (h2 : g ∣ d) : q (z.tdiv g) (d / g) = q z d := by
  obtain ⟨k, rfl⟩ := h1
  obtain ⟨m, rfl⟩ := h2
  rw [Int.mul_comm, Int.mul_tdiv_cancel _ (by omega), Nat.mul_div_cancel_left _ (by omega)]
  unfold q
  have := cast_ne hg
  have := cast_ne (show m ≠ 0 by rintro rfl; simp at hd)
  push_cast
  grind

/-- A fraction in lowest terms of at most n words. -/
structure Good (n : Nat) (z : Int) (d : Nat) : Prop where
  hz : (digs z.natAbs).length ≤ n
  hd : (digs d).length ≤ n
  d0 : d ≠ 0
  low : Nat.gcd z.natAbs d = 1

theorem Good.fine {n : Nat} {z : Int} {d : Nat} (G : Good n z d) (h : n ≤ 256) : Fine z d := ⟨Nat.le_trans G.hz h, Nat.le_trans G.hd h, G.d0, G.low⟩
theorem good_small {z : Int} {d : Nat} (S : Small z d) : Good 4 z d := ⟨S.hz, S.hd, S.d0, S.low⟩

/-- fractions in lowest terms are those of their numbers -/
theorem q_inj {m n : Nat} {z z' : Int} {d d' : Nat} (F : Good m z d) (F' : Good n z' d') (e : q z d = q z' d') : z = z' ∧ d = d' := by
  have h := q_eq F.d0 F'.d0 e
  have h1 : z.natAbs * d' = z'.natAbs * d := by
    have := congrArg Int.natAbs h
    rwa [Int.natAbs_mul, Int.natAbs_mul, Int.natAbs_natCast, Int.natAbs_natCast] at this
  have hd : d ∣ d' := by
    have : d ∣ z.natAbs * d' := ⟨z'.natAbs, by rw [h1, Nat.mul_comm]⟩
    exact (Nat.Coprime.symm F.low).dvd_of_dvd_mul_left this
  have hd' : d' ∣ d := by
    have : d' ∣ z'.natAbs * d := ⟨z.natAbs, by rw [← h1, Nat.mul_comm]⟩
    exact (Nat.Coprime.symm F'.low).dvd_of_dvd_mul_left this
  have e := Nat.dvd_antisymm hd hd'
  refine ⟨?_, e⟩
  rw [← e] at h
  exact Int.eq_of_mul_eq_mul_right (by have := F.d0; omega) h

theorem good_low {n : Nat} {z : Int} {d : Nat} (hz : (digs z.natAbs).length ≤ n) (hd : (digs d).length ≤ n) (d0 : d ≠ 0) : Good n (z.tdiv (Nat.gcd z.natAbs d : Nat)) (d / Nat.gcd z.natAbs d) := by
  have hg : 0 < Nat.gcd z.natAbs d := Nat.gcd_pos_of_pos_right _ (by omega)
  have hdiv := Nat.gcd_dvd_right z.natAbs d
  refine ⟨?_, Nat.le_trans (len_mono (Nat.div_le_self _ _)) hd, ?_, ?_⟩
  · rw [Int.natAbs_tdiv, Int.natAbs_natCast]; exact Nat.le_trans (len_mono (Nat.div_le_self _ _)) hz
  · have := Nat.div_pos (Nat.le_of_dvd (by omega) hdiv) hg; omega
  · rw [Int.natAbs_tdiv, Int.natAbs_natCast]
    exact (Nat.gcd_div (Nat.gcd_dvd_left _ _) hdiv).trans (Nat.div_self hg)

theorem q_low {z : Int} {d : Nat} (d0 : d ≠ 0) : q (z.tdiv (Nat.gcd z.natAbs d : Nat)) (d / Nat.gcd z.natAbs d) = q z d := by
  have hg : 0 < Nat.gcd z.natAbs d := Nat.gcd_pos_of_pos_right _ (by omega)
  exact q_scale z d _ (by omega) d0 (Int.ofNat_dvd_left.2 (Nat.gcd_dvd_left _ _)) (Nat.gcd_dvd_right _ _)

/-- A call gave the fraction of a number, and no error. -/
def Out (w : World) (n : Nat) (r : Rat) (e : Ending) (w' : World) : Prop :=
  ∃ (A : Option Addr) (c : Nat) (B : Option Addr) (k : Nat) (Z : Int) (D : Nat), e = .returned (.tuple #[.agg #[.bool (decide (Z < 0)), .slice A (digs Z.natAbs).length c, .bool false, .slice B (digs D).length k], .int .i64 0]) ∧
    Rd w' w'.heap.size A c (digs Z.natAbs) ∧ Rd w' w'.heap.size B k (digs D) ∧ Below w.heap.size w w' ∧ Hid (Good n Z D ∧ q Z D = r)

theorem out_low {w : World} {N : Int} {D n : Nat} {e : Ending} {w' : World} (h : Low w N D e w') (hN : (digs N.natAbs).length ≤ n) (hD : (digs D).length ≤ n) (h0 : D ≠ 0) (hn : n ≤ 256) : Out w n (q N D) e w' := by
  have G := good_low hN hD h0
  have hfit : fits (N.tdiv (Nat.gcd N.natAbs D : Nat)) (D / Nat.gcd N.natAbs D) = true := by
    unfold fits
    rw [decide_eq_true, decide_eq_true]
    · rfl
    · exact Nat.le_trans G.hd hn
    · exact Nat.le_trans G.hz hn
  obtain ⟨A4, c4, B4, e4, M, E, rfl, R4, S4, hb, HM⟩ := low_open h rfl rfl hfit
  refine ⟨A4, c4, B4, e4, M, E, rfl, R4, S4, hb, Lib.hid ⟨?_, ?_⟩⟩
  · rw [HM.out.1, HM.out.2]; exact G
  · rw [HM.out.1, HM.out.2]; exact q_low h0

theorem len_mulN (j k : Nat) {a b : Nat} (ha : (digs a).length ≤ j) (hb : (digs b).length ≤ k) : (digs (a * b)).length ≤ j + k := by
  have := len_mul j k (x := (a : Int)) (y := (b : Int)) (by simpa using ha) (by simpa using hb)
  rwa [← Int.natCast_mul, Int.natAbs_natCast] at this

theorem add_good (j k : Nat) (w : World) (a b : Value) {x y : Int} {d d' : Nat} (ha : IsFrac w a x d) (hb : IsFrac w b y d') (G : Good j x d) (G' : Good k y d') (h : j + k + 1 ≤ 256) (hT : Tabs w) :
    Calls Tryz.prog 11 #[a, b] w (Out w (j + k + 1) (q x d + q y d')) := by
  refine (addFrac_any w a b x y d d' ha hb (G.fine (by omega)) (G'.fine (by omega)) hT).mono fun e w' hL => ?_
  rw [← q_add x y d d' G.d0 G'.d0]
  refine out_low hL (len_add (j + k) (len_mul j k G.hz (by simpa using G'.hd)) ?_) (Nat.le_trans (len_mulN j k G.hd G'.hd) (by omega)) (Nat.mul_ne_zero G.d0 G'.d0) h
  rw [Int.mul_comm]
  exact len_mul j k (by simpa using G.hd) G'.hz

theorem sub_good (j k : Nat) (w : World) (a b : Value) {x y : Int} {d d' : Nat} (ha : IsFrac w a x d) (hb : IsFrac w b y d') (G : Good j x d) (G' : Good k y d') (h : j + k + 1 ≤ 256) (hT : Tabs w) :
    Calls Tryz.prog 14 #[a, b] w (Out w (j + k + 1) (q x d - q y d')) := by
  refine (subFrac_any w a b x y d d' ha hb (G.fine (by omega)) (G'.fine (by omega)) hT).mono fun e w' hL => ?_
  rw [← q_sub x y d d' G.d0 G'.d0]
  refine out_low hL (len_add (j + k) (len_mul j k G.hz (by simpa using G'.hd)) ?_) (Nat.le_trans (len_mulN j k G.hd G'.hd) (by omega)) (Nat.mul_ne_zero G.d0 G'.d0) h
  rw [Int.mul_comm]
  exact len_mul j k (by simpa using G.hd) (by rw [Int.natAbs_neg]; exact G'.hz)

theorem mul_good (j k : Nat) (w : World) (a b : Value) {x y : Int} {d d' : Nat} (ha : IsFrac w a x d) (hb : IsFrac w b y d') (G : Good j x d) (G' : Good k y d') (h : j + k ≤ 256) (hT : Tabs w) :
    Calls Tryz.prog 16 #[a, b] w (Out w (j + k) (q x d * q y d')) := by
  refine (mulFrac_any w a b x y d d' ha hb (G.fine (by omega)) (G'.fine (by omega)) hT).mono fun e w' hL => ?_
  rw [← q_mul x y d d' G.d0 G'.d0]
  exact out_low hL (len_mul j k G.hz G'.hz) (len_mulN j k G.hd G'.hd) (Nat.mul_ne_zero G.d0 G'.d0) h

theorem div_good (j k : Nat) (w : World) (a b : Value) {x y : Int} {d d' : Nat} (ha : IsFrac w a x d) (hb : IsFrac w b y d') (G : Good j x d) (G' : Good k y d') (h : j + k ≤ 256) (hy : y ≠ 0) (hT : Tabs w) :
    Calls Tryz.prog 18 #[a, b] w (Out w (j + k) (q x d / q y d')) := by
  refine (divFrac_any w a b x y d d' ha hb (G.fine (by omega)) (G'.fine (by omega)) hy hT).mono fun e w' hL => ?_
  rw [← q_div x y d d' G.d0 G'.d0 hy]
  refine out_low hL ?_ (len_mulN j k G.hd G'.hz) (Nat.mul_ne_zero G.d0 (by omega)) h
  have e1 : (x * d' * y.sign).natAbs = (x * d').natAbs := by
    rw [Int.natAbs_mul, Int.natAbs_sign_of_ne_zero hy, Nat.mul_one]
  rw [e1]
  exact len_mul j k G.hz (by simpa using G'.hd)

set_option maxRecDepth 100000 in
set_option maxHeartbeats 1000000 in
theorem valid_any (w : World) (a : Value) (z : Int) (d : Nat) (ha : IsFrac w a z d) (F : Fine z d) (hT : Tabs w) :
    Calls Tryz.prog 22 #[a] w fun e w' => e = .returned (.bool true) ∧ Below w.heap.size w w' := by
  obtain ⟨A, c, B, k, rfl, R, S⟩ := ha
  go_enter Tryz.func22, Tryz.ntmps22
  have hb2 : Below w.heap.size w (w.alloc (.cells #[.bool (decide (z < 0)), .slice A (digs z.natAbs).length c, .bool false, .slice B (digs d).length k] 30)) := (Below.refl _ _).alloc (Nat.le_refl _) _
  obtain ⟨W, hW⟩ : ∃ W, W = (w.alloc (.cells #[.bool (decide (z < 0)), .slice A (digs z.natAbs).length c, .bool false, .slice B (digs d).length k] 30)) := ⟨_, rfl⟩
  have hsz : W.heap.size = w.heap.size + 1 := by rw [hW]; simp
  rw [← hW] at hb2
  have HB := Lib.hid (And.intro hb2 hsz)
  clear hb2 hsz
  go_wp2_with fail
  rw [← hW]
  clear hW
  have hbA := HB.out.1.alloc HB.out.1.size (.cells #[.bool (decide (z < 0)), .slice A (digs z.natAbs).length c, .bool false, .slice B (digs d).length k] 30)
  refine (validAll_any (W.alloc _) (w.heap.size + 1) 1 [(z, d)] (by have := HB.out.2; simp; omega) (by simp) (fun j hj => ?_) (hT.below hbA)).mono ?_
  · obtain rfl : j = 0 := by simp at hj; omega
    have hg : (W.alloc (.cells #[.bool (decide (z < 0)), .slice A (digs z.natAbs).length c, .bool false, .slice B (digs d).length k] 30)).heap[w.heap.size + 1]? = some (.cells #[.bool (decide (z < 0)), .slice A (digs z.natAbs).length c, .bool false, .slice B (digs d).length k] 30 (0, 0)) := by
      rw [← HB.out.2]; exact heap_alloc_new W _
    exact ⟨⟨A, c, B, k, by rw [cell_of_row _ _ (0 * 4) _ _ _ hg]; rfl, by rw [cell_of_row _ _ (0 * 4 + 1) _ _ _ hg]; rfl, by rw [cell_of_row _ _ (0 * 4 + 2) _ _ _ hg]; rfl, by rw [cell_of_row _ _ (0 * 4 + 3) _ _ _ hg]; rfl, (R.below hbA).more hbA.size, (S.below hbA).more hbA.size⟩, F⟩
  rintro _ W1 ⟨rfl, hb1⟩
  have hb3 := hbA.trans (hb1.mono hbA.size)
  have H3 := Lib.hid hb3
  clear hb1 hb3 HB hbA F
  go_wp2_with fail
  go_ret
  exact ⟨rfl, H3.out⟩

theorem text_zero (z : Int) (d n : Nat) (G : Good n z d) : (hc.ba (textOf z d)).toList = [48] ↔ z = 0 := by
  have e0 : hc.ba (textOf 0 1) = hc.ba [48] := by
    have : textOf 0 1 = [48] := by
      unfold textOf
      rw [if_pos rfl]
      unfold Lib.itoa
      rw [if_neg (by omega), Lib.decDigits]
      rfl
    rw [this]
  have e1 : (hc.ba [48]).toList = [48] := by
    have h := loop_data (hc.ba [48]) 1 0 [] rfl
    rw [ByteArray.toList, h]
    rfl
  constructor
  · intro h
    have h2 : (hc.ba (textOf z d)).toList = (hc.ba (textOf 0 1)).toList := by rw [h, e0, e1]
    exact (textOf_inj (ba_inj (toList_inj h2))).1
  · intro h
    subst h
    have hd : d = 1 := by
      have := G.low
      simpa using this
    rw [hd, e0, e1]

/-- Fractions in boxes of their own. -/
def All (W : World) : List (Nat × Int × Nat × Option Addr × Nat × Option Addr × Nat) → Prop
  | [] => True
  | (g, z, d, A, c, B, k) :: l => FAt W g z d A c B k ∧ All W l

theorem All.head {W : World} {g : Nat} {z : Int} {d : Nat} {A : Option Addr} {c : Nat} {B : Option Addr} {k : Nat} {l : List (Nat × Int × Nat × Option Addr × Nat × Option Addr × Nat)} (h : All W ((g, z, d, A, c, B, k) :: l)) : FAt W g z d A c B k := h.1
theorem All.tail {W : World} {t : Nat × Int × Nat × Option Addr × Nat × Option Addr × Nat} {l : List (Nat × Int × Nat × Option Addr × Nat × Option Addr × Nat)} (h : All W (t :: l)) : All W l := h.2
theorem All.after {W W' : World} : ∀ {l : List (Nat × Int × Nat × Option Addr × Nat × Option Addr × Nat)}, All W l → Below W.heap.size W W' → All W' l
  | [], _, _ => trivial
  | (_, _, _, _, _, _, _) :: _, h, hb => ⟨h.1.after hb, All.after h.2 hb⟩

/-- What lies in the boxes, and what was before is kept. -/
structure St (w W : World) (l : List (Nat × Int × Nat × Option Addr × Nat × Option Addr × Nat)) : Prop where
  bel : Below w.heap.size w W
  all : All W l

theorem St.after {w W W' : World} {l : List (Nat × Int × Nat × Option Addr × Nat × Option Addr × Nat)} (S : St w W l) (h : Below W.heap.size W W') : St w W' l :=
  ⟨S.bel.trans (h.mono S.bel.size), S.all.after h⟩
theorem St.draw {w W : World} {l : List (Nat × Int × Nat × Option Addr × Nat × Option Addr × Nat)} (S : St w W l) : St w W.drew l := S.after (Below.refl _ _).drew
/-- one more -/
theorem St.more {w W : World} {l : List (Nat × Int × Nat × Option Addr × Nat × Option Addr × Nat)} (S : St w W l) {z : Int} {d : Nat} {A B : Option Addr} {c k : Nat} (R : Rd W W.heap.size A c (digs z.natAbs)) (R' : Rd W W.heap.size B k (digs d)) :
    St w (W.alloc (.cells #[.bool (decide (z < 0)), .slice A (digs z.natAbs).length c, .bool false, .slice B (digs d).length k] 30)) ((W.heap.size, z, d, A, c, B, k) :: l) :=
  have h := (Below.refl W.heap.size W).alloc (Nat.le_refl _) (.cells #[.bool (decide (z < 0)), .slice A (digs z.natAbs).length c, .bool false, .slice B (digs d).length k] 30)
  ⟨(S.after h).bel, fat_new R R', (S.after h).all⟩

end Go.Proofs.YtbeidpeoichakaaGreatDoor.nb
