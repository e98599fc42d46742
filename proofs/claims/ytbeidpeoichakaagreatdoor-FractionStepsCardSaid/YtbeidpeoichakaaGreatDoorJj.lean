/- fraction: Cmp of fractions. -/
import Derived.Test.YtbeidpeoichakaaGreatDoorGf
import Derived.Test.YtbeidpeoichakaaGreatDoorHf
import Derived.Test.YtbeidpeoichakaaGreatDoorHa
set_option linter.unusedSimpArgs false
namespace Go.Proofs.YtbeidpeoichakaaGreatDoor.jj
open Go.RowKit Go.Proofs.YtbeidpeoichakaaGreatDoor.fm Go.Proofs.YtbeidpeoichakaaGreatDoor.mem Go.Proofs.YtbeidpeoichakaaGreatDoor.fa Go.Proofs.YtbeidpeoichakaaGreatDoor.fb Go.Proofs.YtbeidpeoichakaaGreatDoor.fd Go.Proofs.YtbeidpeoichakaaGreatDoor.fe Go.Proofs.YtbeidpeoichakaaGreatDoor.fj Go.Proofs.YtbeidpeoichakaaGreatDoor.fq Go.Proofs.YtbeidpeoichakaaGreatDoor.fr Go.Proofs.YtbeidpeoichakaaGreatDoor.ft Go.Proofs.YtbeidpeoichakaaGreatDoor.fu Go.Proofs.YtbeidpeoichakaaGreatDoor.fv Go.Proofs.YtbeidpeoichakaaGreatDoor.fw Go.Proofs.YtbeidpeoichakaaGreatDoor.fx Go.Proofs.YtbeidpeoichakaaGreatDoor.fy Go.Proofs.YtbeidpeoichakaaGreatDoor.fz Go.Proofs.YtbeidpeoichakaaGreatDoor.gb Go.Proofs.YtbeidpeoichakaaGreatDoor.gc Go.Proofs.YtbeidpeoichakaaGreatDoor.gd Go.Proofs.YtbeidpeoichakaaGreatDoor.gg

/-- Two fractions in boxes of their own. -/
structure Two5 (w W : World) (n n' : Bool) (s t s' t' : Value) : Prop where
  bel : Below w.heap.size w W
  size : w.heap.size + 1 < W.heap.size
  a0 : W.cell? ⟨w.heap.size, 0, none⟩ = some (.bool n)
  a1 : W.cell? ⟨w.heap.size, 1, none⟩ = some s
  a2 : W.cell? ⟨w.heap.size, 2, none⟩ = some (.bool false)
  a3 : W.cell? ⟨w.heap.size, 3, none⟩ = some t
  b0 : W.cell? ⟨w.heap.size + 1, 0, none⟩ = some (.bool n')
  b1 : W.cell? ⟨w.heap.size + 1, 1, none⟩ = some s'
  b2 : W.cell? ⟨w.heap.size + 1, 2, none⟩ = some (.bool false)
  b3 : W.cell? ⟨w.heap.size + 1, 3, none⟩ = some t'

theorem Two5.after {w W w' : World} {n n' : Bool} {s t s' t' : Value} (B : Two5 w W n n' s t s' t') (h : Below W.heap.size W w') : Two5 w w' n n' s t s' t' := by
  have hs := B.size
  have ha : w.heap.size < W.heap.size := by omega
  have hb : w.heap.size + 1 < W.heap.size := by omega
  exact ⟨B.bel.trans (h.mono B.bel.size), Nat.lt_of_lt_of_le hb h.size, (h.cell ha).trans B.a0, (h.cell ha).trans B.a1, (h.cell ha).trans B.a2, (h.cell ha).trans B.a3, (h.cell hb).trans B.b0, (h.cell hb).trans B.b1, (h.cell hb).trans B.b2, (h.cell hb).trans B.b3⟩
theorem Two5.rd {w W : World} {n n' : Bool} {s t s' t' : Value} (B : Two5 w W n n' s t s' t') {A : Option Addr} {c : Nat} {l : List Nat} (R : Rd w w.heap.size A c l) : Rd W W.heap.size A c l := (R.below B.bel).more B.bel.size
theorem Two5.draw {w W : World} {n n' : Bool} {s t s' t' : Value} (B : Two5 w W n n' s t s' t') : Two5 w W.drew n n' s t s' t' := B.after (Below.refl _ _).drew
theorem Two5.held8 {w W : World} {n n' : Bool} {s t s' t' : Value} (B : Two5 w W n n' s t s' t') :
    W.cell? ⟨w.heap.size, 0, none⟩ = some (.bool n) ∧ W.cell? ⟨w.heap.size, 1, none⟩ = some s ∧ W.cell? ⟨w.heap.size, 2, none⟩ = some (.bool false) ∧ W.cell? ⟨w.heap.size, 3, none⟩ = some t ∧
    W.cell? ⟨w.heap.size + 1, 0, none⟩ = some (.bool n') ∧ W.cell? ⟨w.heap.size + 1, 1, none⟩ = some s' ∧ W.cell? ⟨w.heap.size + 1, 2, none⟩ = some (.bool false) ∧ W.cell? ⟨w.heap.size + 1, 3, none⟩ = some t' :=
  ⟨B.a0, B.a1, B.a2, B.a3, B.b0, B.b1, B.b2, B.b3⟩

theorem two5_made (w : World) (n n' : Bool) (s t s' t' : Value) :
    Two5 w ((w.alloc (.cells #[.bool n, s, .bool false, t] 30)).alloc (.cells #[.bool n', s', .bool false, t'] 30)) n n' s t s' t' := by
  refine ⟨((Below.refl _ _).alloc (Nat.le_refl _) _).alloc (by simp) _, by simp, ?_, ?_, ?_, ?_, ?_, ?_, ?_, ?_⟩
  all_goals simp [go_sem]

theorem order_mul (x y : Int) (d : Nat) (hd : d ≠ 0) : fw.order (x * d) (y * d) = fw.order x y := by
  have hp : (0 : Int) < (d : Int) := by omega
  unfold fw.order
  by_cases h1 : x < y
  · rw [if_pos h1, if_pos (Int.mul_lt_mul_of_pos_right h1 hp)]
  · rw [if_neg h1, if_neg (by have := Int.mul_le_mul_of_nonneg_right (Int.not_lt.1 h1) (Int.le_of_lt hp); omega)]
    by_cases h2 : y < x
    · rw [if_pos h2, if_pos (Int.mul_lt_mul_of_pos_right h2 hp)]
    · rw [if_neg h2, if_neg (by have := Int.mul_le_mul_of_nonneg_right (Int.not_lt.1 h2) (Int.le_of_lt hp); omega)]

theorem order_sign (x y : Int) (d d' : Nat) (hd : d ≠ 0) (hd' : d' ≠ 0) (h : decide (x < 0) ≠ decide (y < 0)) : fw.order (x * d') (y * d) = fw.order x y := by
  have hp : (0 : Int) < (d : Int) := by omega
  have hp' : (0 : Int) < (d' : Int) := by omega
  unfold fw.order
  rcases Int.lt_or_le x 0 with hx | hx
  · have hy : 0 ≤ y := by
      rcases Int.lt_or_le y 0 with hy | hy
      · rw [decide_eq_true hx, decide_eq_true hy] at h; exact absurd rfl h
      · exact hy
    have h1 : x * d' < 0 := Int.mul_neg_of_neg_of_pos hx hp'
    have h2 : 0 ≤ y * d := Int.mul_nonneg hy (Int.le_of_lt hp)
    rw [if_pos (by omega), if_pos (by omega)]
  · have hy : y < 0 := by
      rcases Int.lt_or_le y 0 with hy | hy
      · exact hy
      · rw [decide_eq_false (by omega), decide_eq_false (by omega)] at h; exact absurd rfl h
    have h1 : 0 ≤ x * d' := Int.mul_nonneg hx (Int.le_of_lt hp')
    have h2 : y * d < 0 := Int.mul_neg_of_neg_of_pos hy hp
    rw [if_neg (by omega), if_pos (by omega), if_neg (by omega), if_pos (by omega)]

set_option maxRecDepth 100000 in
set_option maxHeartbeats 8000000 in
theorem cmpFrac_any (w : World) (a b : Value) (x y : Int) (d d' : Nat) (ha : IsFrac w a x d) (hb : IsFrac w b y d') (F : Fine x d) (F' : Fine y d') (hT : Tabs w) :
    Calls Tryz.prog 20 #[a, b] w fun e w' => e = .returned (.int .i64 (fw.order (x * d') (y * d))) ∧ Below w.heap.size w w' := by
  obtain ⟨A, c, B, k, rfl, R, S⟩ := ha
  obtain ⟨A', c', B', k', rfl, R', S'⟩ := hb
  go_enter Tryz.func20, Tryz.ntmps20
  have hB := two5_made w (decide (x < 0)) (decide (y < 0)) (.slice A (digs x.natAbs).length c) (.slice B (digs d).length k) (.slice A' (digs y.natAbs).length c') (.slice B' (digs d').length k')
  obtain ⟨W, hW⟩ : ∃ W, W = ((w.alloc (.cells #[.bool (decide (x < 0)), .slice A (digs x.natAbs).length c, .bool false, .slice B (digs d).length k] 30)).alloc (.cells #[.bool (decide (y < 0)), .slice A' (digs y.natAbs).length c', .bool false, .slice B' (digs d').length k'] 30)) := ⟨_, rfl⟩
  have hsz : W.heap.size = w.heap.size + 1 + 1 := by rw [hW]; simp
  rw [← hW] at hB
  have HB := Lib.hid (And.intro hB hsz)
  clear hB hsz
  go_wp2_with fail
  rw [← hW]
  clear hW
  have hbA : ∀ o, Below W.heap.size W (W.alloc o) := fun o => (Below.refl _ _).alloc (Nat.le_refl _) o
  refine (validAll2 (W.alloc _) (w.heap.size + 1 + 1) 2 x y d d' A B A' B' c k c' k' 30 (0, 0) (hT.below (HB.out.1.bel.trans ((hbA _).mono HB.out.1.bel.size))) F F' (by rw [← HB.out.2]; exact heap_alloc_new W _)
    (((HB.out.1.rd R).below (hbA _)).more (by simp)) (((HB.out.1.rd S).below (hbA _)).more (by simp)) (((HB.out.1.rd R').below (hbA _)).more (by simp)) (((HB.out.1.rd S').below (hbA _)).more (by simp))).mono ?_
  rintro _ W1 ⟨rfl, hb1⟩
  have hB1 := HB.out.1.after ((hbA _).trans (hb1.mono (by simp)))
  have H1 := Lib.hid hB1
  have a0 := hB1.a0
  have a1 := hB1.a1
  have a2 := hB1.a2
  have a3 := hB1.a3
  have b0 := hB1.b0
  have b1 := hB1.b1
  have b2 := hB1.b2
  have b3 := hB1.b3
  have HF := Lib.hid (And.intro F F')
  clear hB1 hb1 HB hbA F F'
  go_wp2_with fail
  refine (cmpWords_any W1 _ B B' k k' d d' (H1.out.rd S) (H1.out.rd S') (by have := HF.out.1.hd; omega) (by have := HF.out.2.hd; omega)).mono ?_
  rintro _ _ ⟨rfl, j, rfl⟩
  have H2 := Lib.hid (H1.out.after (show Below W1.heap.size W1 (W1.drewN j) from ⟨rfl, rfl, rfl, Nat.le_refl _, fun _ _ => rfl⟩))
  obtain ⟨W2, hW2⟩ : ∃ W2, W2 = W1.drewN j := ⟨_, rfl⟩
  rw [← hW2] at H2 ⊢
  clear hW2 a0 a1 a2 a3 b0 b1 b2 b3 H1
  have a0 := H2.out.a0
  have a1 := H2.out.a1
  have a2 := H2.out.a2
  have a3 := H2.out.a3
  have b0 := H2.out.b0
  have b1 := H2.out.b1
  have b2 := H2.out.b2
  have b3 := H2.out.b3
  by_cases hdd : d = d'
  · have hcv : cmp d d' = 0 := by rw [hdd]; unfold cmp; simp
    rw [hcv]
    have HD := Lib.hid hdd
    clear hdd hcv
    go_wp2_with fail
    refine (compare_any W2 _ _ x y ⟨A, c, rfl, H2.out.rd R⟩ ⟨A', c', rfl, H2.out.rd R'⟩ (by have := HF.out.1.hz; omega) (by have := HF.out.2.hz; omega)).mono ?_
    rintro _ W3 ⟨rfl, hb3⟩
    have HB3 := Lib.hid (H2.out.bel.trans (hb3.mono H2.out.bel.size))
    clear hb3
    go_wp2_with fail
    go_ret
    refine ⟨?_, HB3.out⟩
    rw [← HD.out, order_mul _ _ _ HF.out.1.d0]
    rfl
  · have z1 : (cmp d d' == 0) = false := beq_eq_false_iff_ne.2 (by unfold cmp; split <;> (try split) <;> omega)
    clear hdd
    generalize cmp d d' = cv at *
    by_cases hs : decide (x < 0) = decide (y < 0)
    · have z2 : (!decide (x < 0) == decide (y < 0)) = false := by rw [hs]; cases decide (y < 0) <;> rfl
      clear hs
      obtain ⟨X1, hX1⟩ : ∃ X1, X1 = x * (d' : Int) := ⟨_, rfl⟩
      obtain ⟨Y1, hY1⟩ : ∃ Y1, Y1 = y * (d : Int) := ⟨_, rfl⟩
      have hX1l : (digs X1.natAbs).length ≤ 1000 := by rw [hX1]; exact mul_len HF.out.1.hz (by simpa using HF.out.2.hd)
      have hY1l : (digs Y1.natAbs).length ≤ 1000 := by rw [hY1]; exact mul_len HF.out.2.hz (by simpa using HF.out.1.hd)
      have HZ := Lib.hid (And.intro hX1 (And.intro hY1 (And.intro hX1l hY1l)))
      clear hX1 hY1 hX1l hY1l
      go_wp2_with fail
      go_region_held3 (fun w' => w'.cell? ⟨w.heap.size, 0, none⟩ = some (.bool (decide (x < 0))) ∧ w'.cell? ⟨w.heap.size, 1, none⟩ = some (.slice A (digs x.natAbs).length c) ∧ w'.cell? ⟨w.heap.size, 2, none⟩ = some (.bool false) ∧ w'.cell? ⟨w.heap.size, 3, none⟩ = some (.slice B (digs d).length k) ∧ w'.cell? ⟨w.heap.size + 1, 0, none⟩ = some (.bool (decide (y < 0))) ∧ w'.cell? ⟨w.heap.size + 1, 1, none⟩ = some (.slice A' (digs y.natAbs).length c') ∧ w'.cell? ⟨w.heap.size + 1, 2, none⟩ = some (.bool false) ∧ w'.cell? ⟨w.heap.size + 1, 3, none⟩ = some (.slice B' (digs d').length k'))
        (first | with_reducible exact H2.out.held8 | with_reducible exact H2.out.draw.held8 | with_reducible exact H3.out.held8 | with_reducible exact H4.out.held8 | with_reducible exact H5.out.held8)
        (first
          | (have hI4b := hI4; go_at_call 51; refine (compare_any _ _ _ X1 Y1 hI3 hI4 (by have := HZ.out.2.2.1; omega) (by have := HZ.out.2.2.2; omega)).mono ?_; rintro _ W5 ⟨rfl, hb5⟩
             have H5 := Lib.hid (H4.out.after hb5)
             clear hb5 hI3 hI4 hI4b)
          | (have hI3b := hI3; go_at_call 43; refine (product_any _ _ _ y d ⟨A', c', rfl, H3.out.rd R'⟩ (isBig_den (H3.out.rd S)) (by have := HF.out.2.hz; omega) (by have := HF.out.1.hd; rw [Int.natAbs_natCast]; omega)).mono ?_; rintro _ W4 ⟨v4, rfl, hI4, hb4⟩
             rw [← HZ.out.2.1] at hI4
             have H4 := Lib.hid (H3.out.after hb4)
             have hI3 : IsBig W4 v3 X1 := hI3b.below hb4
             clear hb4 hI3b)
          | (go_at_call 43; refine (product_any _ _ _ x d' ⟨A, c, rfl, H2.out.draw.rd R⟩ (isBig_den (H2.out.draw.rd S')) (by have := HF.out.1.hz; omega) (by have := HF.out.2.hd; rw [Int.natAbs_natCast]; omega)).mono ?_; rintro _ W3 ⟨v3, rfl, hI3, hb3⟩
             rw [← HZ.out.1] at hI3
             have H3 := Lib.hid (H2.out.draw.after hb3)
             clear hb3))
      go_wp2_with fail
      go_ret
      refine ⟨?_, H5.out.bel⟩
      rw [← HZ.out.1, ← HZ.out.2.1]
      rfl
    · have z2 : (!decide (x < 0) == decide (y < 0)) = true := by cases h1 : decide (x < 0) <;> cases h2 : decide (y < 0) <;> simp_all
      have HS := Lib.hid hs
      clear hs
      go_wp2_with fail
      refine (compare_any W2 _ _ x y ⟨A, c, rfl, H2.out.rd R⟩ ⟨A', c', rfl, H2.out.rd R'⟩ (by have := HF.out.1.hz; omega) (by have := HF.out.2.hz; omega)).mono ?_
      rintro _ W3 ⟨rfl, hb3⟩
      have HB3 := Lib.hid (H2.out.bel.trans (hb3.mono H2.out.bel.size))
      clear hb3
      go_wp2_with fail
      go_ret
      refine ⟨?_, HB3.out⟩
      rw [order_sign _ _ _ _ HF.out.1.d0 HF.out.2.d0 HS.out]
      rfl

end Go.Proofs.YtbeidpeoichakaaGreatDoor.jj

/- fraction: Sub of fractions. -/
set_option linter.unusedSimpArgs false
namespace Go.Proofs.YtbeidpeoichakaaGreatDoor.jk
open Go.RowKit Go.Proofs.YtbeidpeoichakaaGreatDoor.fm Go.Proofs.YtbeidpeoichakaaGreatDoor.mem Go.Proofs.YtbeidpeoichakaaGreatDoor.fa Go.Proofs.YtbeidpeoichakaaGreatDoor.fb Go.Proofs.YtbeidpeoichakaaGreatDoor.fd Go.Proofs.YtbeidpeoichakaaGreatDoor.fe Go.Proofs.YtbeidpeoichakaaGreatDoor.fj Go.Proofs.YtbeidpeoichakaaGreatDoor.fu Go.Proofs.YtbeidpeoichakaaGreatDoor.fv Go.Proofs.YtbeidpeoichakaaGreatDoor.fw Go.Proofs.YtbeidpeoichakaaGreatDoor.fx Go.Proofs.YtbeidpeoichakaaGreatDoor.fy Go.Proofs.YtbeidpeoichakaaGreatDoor.fz Go.Proofs.YtbeidpeoichakaaGreatDoor.ga Go.Proofs.YtbeidpeoichakaaGreatDoor.gb Go.Proofs.YtbeidpeoichakaaGreatDoor.gc Go.Proofs.YtbeidpeoichakaaGreatDoor.gd Go.Proofs.YtbeidpeoichakaaGreatDoor.gg

theorem Fine.neg {y : Int} {d : Nat} (F : Fine y d) : Fine (-y) d := ⟨by rw [Int.natAbs_neg]; exact F.hz, F.hd, F.d0, by rw [Int.natAbs_neg]; exact F.low⟩

theorem valid_one (W : World) (g cap : Nat) (y : Int) (d : Nat) (A B : Option Addr) (c k : Nat) (ty : TypeId) (fr : Nat × Nat) (hT : Tabs W) (F : Fine y d)
    (hg : W.heap[g]? = some (.cells #[.bool (decide (y < 0)), .slice A (digs y.natAbs).length c, .bool false, .slice B (digs d).length k] ty fr))
    (R : Rd W W.heap.size A c (digs y.natAbs)) (S : Rd W W.heap.size B k (digs d)) :
    Calls Tryz.prog 38 #[.slice (some ⟨g, 0, none⟩) 1 cap] W fun e w' => e = .returned (.bool true) ∧ Below W.heap.size W w' := by
  refine validAll_any W g cap [(y, d)] (Array.getElem?_eq_some_iff.1 hg).1 (by simp) (fun j hj => ?_) hT
  obtain rfl : j = 0 := by simp at hj; omega
  exact ⟨⟨A, c, B, k, by rw [cell_of_row W g (0 * 4) _ ty fr hg]; rfl, by rw [cell_of_row W g (0 * 4 + 1) _ ty fr hg]; rfl, by rw [cell_of_row W g (0 * 4 + 2) _ ty fr hg]; rfl, by rw [cell_of_row W g (0 * 4 + 3) _ ty fr hg]; rfl, R, S⟩, F⟩

theorem frac_of {W : World} {Y : Int} {d : Nat} {A B : Option Addr} {c k : Nat} (R : Rd W W.heap.size A c (digs Y.natAbs)) (S : Rd W W.heap.size B k (digs d)) :
    IsFrac W (.agg #[.bool (decide (Y < 0)), .slice A (digs Y.natAbs).length c, .bool false, .slice B (digs d).length k]) Y d := ⟨A, c, B, k, rfl, R, S⟩

theorem held8_put {w W : World} {n n' : Bool} {s t s' t' v0 v1 v2 v3 : Value} (B : Two4 w W n n' s t s' t') :
    ((((W.setCell ⟨w.heap.size + 1 + 1, 0, none⟩ v0).setCell ⟨w.heap.size + 1 + 1, 1, none⟩ v1).setCell ⟨w.heap.size + 1 + 1, 2, none⟩ v2).setCell ⟨w.heap.size + 1 + 1, 3, none⟩ v3).cell? ⟨w.heap.size, 0, none⟩ = some (.bool n) ∧
    ((((W.setCell ⟨w.heap.size + 1 + 1, 0, none⟩ v0).setCell ⟨w.heap.size + 1 + 1, 1, none⟩ v1).setCell ⟨w.heap.size + 1 + 1, 2, none⟩ v2).setCell ⟨w.heap.size + 1 + 1, 3, none⟩ v3).cell? ⟨w.heap.size, 1, none⟩ = some s ∧
    ((((W.setCell ⟨w.heap.size + 1 + 1, 0, none⟩ v0).setCell ⟨w.heap.size + 1 + 1, 1, none⟩ v1).setCell ⟨w.heap.size + 1 + 1, 2, none⟩ v2).setCell ⟨w.heap.size + 1 + 1, 3, none⟩ v3).cell? ⟨w.heap.size, 2, none⟩ = some (.bool false) ∧
    ((((W.setCell ⟨w.heap.size + 1 + 1, 0, none⟩ v0).setCell ⟨w.heap.size + 1 + 1, 1, none⟩ v1).setCell ⟨w.heap.size + 1 + 1, 2, none⟩ v2).setCell ⟨w.heap.size + 1 + 1, 3, none⟩ v3).cell? ⟨w.heap.size, 3, none⟩ = some t ∧
    ((((W.setCell ⟨w.heap.size + 1 + 1, 0, none⟩ v0).setCell ⟨w.heap.size + 1 + 1, 1, none⟩ v1).setCell ⟨w.heap.size + 1 + 1, 2, none⟩ v2).setCell ⟨w.heap.size + 1 + 1, 3, none⟩ v3).cell? ⟨w.heap.size + 1, 0, none⟩ = some (.bool n') ∧
    ((((W.setCell ⟨w.heap.size + 1 + 1, 0, none⟩ v0).setCell ⟨w.heap.size + 1 + 1, 1, none⟩ v1).setCell ⟨w.heap.size + 1 + 1, 2, none⟩ v2).setCell ⟨w.heap.size + 1 + 1, 3, none⟩ v3).cell? ⟨w.heap.size + 1, 1, none⟩ = some s' ∧
    ((((W.setCell ⟨w.heap.size + 1 + 1, 0, none⟩ v0).setCell ⟨w.heap.size + 1 + 1, 1, none⟩ v1).setCell ⟨w.heap.size + 1 + 1, 2, none⟩ v2).setCell ⟨w.heap.size + 1 + 1, 3, none⟩ v3).cell? ⟨w.heap.size + 1, 2, none⟩ = some (.bool false) ∧
    ((((W.setCell ⟨w.heap.size + 1 + 1, 0, none⟩ v0).setCell ⟨w.heap.size + 1 + 1, 1, none⟩ v1).setCell ⟨w.heap.size + 1 + 1, 2, none⟩ v2).setCell ⟨w.heap.size + 1 + 1, 3, none⟩ v3).cell? ⟨w.heap.size + 1, 3, none⟩ = some t' := by
  have h0 : w.heap.size ≠ w.heap.size + 1 + 1 := by omega
  have h1 : w.heap.size + 1 ≠ w.heap.size + 1 + 1 := by omega
  exact ⟨(four_other h0).trans B.a0, (four_other h0).trans B.a1, (four_other h0).trans B.a2, (four_other h0).trans B.a3, (four_other h1).trans B.b0, (four_other h1).trans B.b1, (four_other h1).trans B.b2, (four_other h1).trans B.b3⟩

set_option maxRecDepth 100000 in
set_option maxHeartbeats 8000000 in
theorem subFrac_any (w : World) (a b : Value) (x y : Int) (d d' : Nat) (ha : IsFrac w a x d) (hb : IsFrac w b y d') (F : Fine x d) (F' : Fine y d') (hT : Tabs w) :
    Calls Tryz.prog 14 #[a, b] w (Low w (x * d' + (-y) * d) (d * d')) := by
  obtain ⟨A, c, B, k, rfl, R, S⟩ := ha
  obtain ⟨A', c', B', k', rfl, R', S'⟩ := hb
  go_enter Tryz.func14, Tryz.ntmps14
  have hB := two4_made w (decide (x < 0)) (decide (y < 0)) (.slice A (digs x.natAbs).length c) (.slice B (digs d).length k) (.slice A' (digs y.natAbs).length c') (.slice B' (digs d').length k')
  obtain ⟨W, hW⟩ : ∃ W, W = (((w.alloc (.cells #[.bool (decide (x < 0)), .slice A (digs x.natAbs).length c, .bool false, .slice B (digs d).length k] 30)).alloc (.cells #[.bool (decide (y < 0)), .slice A' (digs y.natAbs).length c', .bool false, .slice B' (digs d').length k'] 30)).alloc (.cells #[.bool false, .slice none 0 0, .bool false, .slice none 0 0] 30)) := ⟨_, rfl⟩
  have hsz : W.heap.size = w.heap.size + 1 + 1 + 1 := by rw [hW]; simp
  rw [← hW] at hB
  have HB := Lib.hid (And.intro hB hsz)
  clear hB hsz
  go_wp2_with fail
  rw [← hW]
  clear hW
  have hbA : ∀ o, Below W.heap.size W (W.alloc o) := fun o => (Below.refl _ _).alloc (Nat.le_refl _) o
  refine (valid_one (W.alloc _) (w.heap.size + 1 + 1 + 1) 1 y d' A' B' c' k' 30 (0, 0) (hT.below (HB.out.1.F.bel.trans ((hbA _).mono HB.out.1.F.bel.size))) F' (by rw [← HB.out.2]; exact heap_alloc_new W _)
    (((HB.out.1.rd R').below (hbA _)).more (by simp)) (((HB.out.1.rd S').below (hbA _)).more (by simp))).mono ?_
  rintro _ W1 ⟨rfl, hb1⟩
  have hB1 := HB.out.1.after ((hbA _).trans (hb1.mono (by simp)))
  have H1 := Lib.hid hB1
  have a0 := hB1.a0
  have a1 := hB1.a1
  have a2 := hB1.a2
  have a3 := hB1.a3
  have b0 := hB1.b0
  have b1 := hB1.b1
  have b2 := hB1.b2
  have b3 := hB1.b3
  have HF := Lib.hid (And.intro F F')
  have H1d := Lib.hid hB1.draw
  obtain ⟨Y, hY⟩ : ∃ Y, Y = -y := ⟨_, rfl⟩
  have hFY : Fine Y d' := by rw [hY]; exact Fine.neg F'
  have HY := Lib.hid (And.intro hY hFY)
  clear hB1 hb1 HB hbA F F' hY hFY
  go_wp2_with fail
  go_region_held3 (fun w' => w'.cell? ⟨w.heap.size, 0, none⟩ = some (.bool (decide (x < 0))) ∧ w'.cell? ⟨w.heap.size, 1, none⟩ = some (.slice A (digs x.natAbs).length c) ∧ w'.cell? ⟨w.heap.size, 2, none⟩ = some (.bool false) ∧ w'.cell? ⟨w.heap.size, 3, none⟩ = some (.slice B (digs d).length k) ∧ w'.cell? ⟨w.heap.size + 1, 0, none⟩ = some (.bool (decide (y < 0))) ∧ w'.cell? ⟨w.heap.size + 1, 1, none⟩ = some (.slice A' (digs y.natAbs).length c') ∧ w'.cell? ⟨w.heap.size + 1, 2, none⟩ = some (.bool false) ∧ w'.cell? ⟨w.heap.size + 1, 3, none⟩ = some (.slice B' (digs d').length k'))
    (first | with_reducible exact H1.out.held8 | with_reducible exact H1d.out.held8 | with_reducible exact H3.out.held8 | with_reducible exact H5.out.held8 | (exact held8_put H5.out))
    (first
      | (have hI3b := hI3; go_at_call 11; refine (addFrac_any _ _ _ x Y d d' ⟨A, c, B, k, rfl, H3.out.rd R, H3.out.rd S⟩ (frac_of hI3b (H3.out.rd S')) HF.out.1 HY.out.2 (hT.below H3.out.F.bel)).mono ?_
         rintro _ W5 hF
         obtain ⟨A5, c5, A6, c6, Z1, D1, k1, rfl, R5, R6, hb5, hk⟩ := frac_open hF
         have S5 := H3.out.after hb5
         have H5 := Lib.hid S5
         have r0 := S5.F.r0
         have r1 := S5.F.r1
         have r2 := S5.F.r2
         have r3 := S5.F.r3
         have f0 := S5.F.fr 0
         have f1 := S5.F.fr 1
         have f2 := S5.F.fr 2
         have f3 := S5.F.fr 3
         clear hF hb5 S5 hI3b)
      | (go_at_call 48; refine (negated_any _ _ y ⟨A', c', rfl, H1d.out.rd R'⟩).mono ?_; rintro _ W3 ⟨v3, rfl, hI3, hb3⟩
         rw [← HY.out.1] at hI3
         have H3 := Lib.hid (H1d.out.after hb3)
         obtain ⟨A3, c3, rfl, R3⟩ := hI3
         have hI3 := R3
         clear hb3 R3))
  obtain ⟨e, d0, d1, d2, d3⟩ := H5.out.F.filled R5 R6 _ rfl
  have HE := Lib.hid (And.intro e (And.intro d0 (And.intro d1 (And.intro d2 d3))))
  clear e d0 d1 d2 d3 R5 R6 R R' S S' H1 H1d H3 H5 a0 a1 a2 a3 b0 b1 b2 b3
  go_wp2
  (try simp only [Exit.inBlock, Exit.then])
  refine bodyPost_ret (results_frac rfl _ _ (w.heap.size + 1 + 1) rfl HE.out.2.1 HE.out.2.2.1 HE.out.2.2.2.1 HE.out.2.2.2.2) rfl ?_
  unfold Low
  rw [← HY.out.1]
  exact frac_shut hk HE.out.1.1 HE.out.1.2

end Go.Proofs.YtbeidpeoichakaaGreatDoor.jk
