/- ContainmentKinds: the law. -/
import Derived.Test.YtbeidpeoichakaaDoorSf
import Derived.Deep.Cut
import Derived.Deep.DeepCutAuto
import Derived.Deep.CutBlock
set_option linter.unusedSimpArgs false
set_option linter.unusedVariables false
namespace Go.Proofs.YtbeidpeoichakaaDoor.sg
open Go.RowKit Go.Proofs.YtbeidpeoichakaaDoor.fm Go.Proofs.YtbeidpeoichakaaDoor.mem Go.Proofs.YtbeidpeoichakaaDoor.fa Go.Proofs.YtbeidpeoichakaaDoor.fb Go.Proofs.YtbeidpeoichakaaDoor.fu Go.Proofs.YtbeidpeoichakaaDoor.fv Go.Proofs.YtbeidpeoichakaaDoor.fw Go.Proofs.YtbeidpeoichakaaDoor.fy Go.Proofs.YtbeidpeoichakaaDoor.ga Go.Proofs.YtbeidpeoichakaaDoor.gb Go.Proofs.YtbeidpeoichakaaDoor.gc Go.Proofs.YtbeidpeoichakaaDoor.fj Go.Proofs.YtbeidpeoichakaaDoor.gg Go.Proofs.YtbeidpeoichakaaDoor.ja Go.Proofs.YtbeidpeoichakaaDoor.jb Go.Proofs.YtbeidpeoichakaaDoor.jg Go.Proofs.YtbeidpeoichakaaDoor.jh Go.Proofs.YtbeidpeoichakaaDoor.pa Go.Proofs.YtbeidpeoichakaaDoor.pb Go.Proofs.YtbeidpeoichakaaDoor.pc Go.Proofs.YtbeidpeoichakaaDoor.nb Go.Proofs.YtbeidpeoichakaaDoor.hc Go.Proofs.YtbeidpeoichakaaDoor.hd Go.Proofs.YtbeidpeoichakaaDoor.re Go.Proofs.YtbeidpeoichakaaDoor.sa Go.Proofs.YtbeidpeoichakaaDoor.sc Go.Proofs.YtbeidpeoichakaaDoor.se Go.Proofs.YtbeidpeoichakaaDoor.sf

/-- the number 1 -/
theorem whole_one (w : World) : Calls Tryd.prog 7 #[.int .i64 1] w fun e w' => ∃ (A : Option Addr) (k : Nat) (B : Option Addr) (l : Nat) (Z : Int) (D : Nat), e = .returned (.agg #[.bool (decide (Z < 0)), .slice A (digs Z.natAbs).length k, .bool false, .slice B (digs D).length l]) ∧
    Rd w' w'.heap.size A k (digs Z.natAbs) ∧ Rd w' w'.heap.size B l (digs D) ∧ Below w.heap.size w w' ∧ Hid (nb.Good 2 Z D ∧ q Z D = q 1 1) := by
  refine (rwhole_any w 1 (by decide) (by decide)).mono ?_
  rintro _ w' ⟨_, rfl, ⟨A, k, B, l, rfl, R, S⟩, hb⟩
  exact ⟨A, k, B, l, 1, 1, rfl, R, S, hb, Lib.hid ⟨good_small2 (by decide) (by decide) (by decide) (by decide), rfl⟩⟩

set_option maxRecDepth 100000 in
set_option maxHeartbeats 4000000 in
theorem kinds_law (w : World) (c0 q0 n0 : Nat) (hc0 : c0 < 256) (hq0 : q0 < 256) (hn0 : n0 < 256) (hT : Tabs w) :
    Calls Tryd.prog 3 #[.int .u8 (c0 : Int), .int .u8 (q0 : Int), .int .u8 (n0 : Int)] w fun e w' => e = .returned (.bool true) ∧ Below w.heap.size w w' := by
  go_enter Tryd.func3, Tryd.ntmps3
  have HT := Lib.hid hT
  clear hT
  go_wp2_with fail
  refine (sane_any w HT.out).mono ?_
  rintro _ W0 ⟨rfl, hb0⟩
  have HB0 := Lib.hid hb0
  clear hb0
  obtain ⟨Q, hQ⟩ : ∃ Q, Q = 1 + q0 % 40 := ⟨_, rfl⟩
  obtain ⟨N, hN⟩ : ∃ N, N = 1 + n0 % 40 := ⟨_, rfl⟩
  obtain ⟨C, hC⟩ : ∃ C, C = c0 % (min Q N + 1) := ⟨_, rfl⟩
  have bq1 : 1 ≤ Q := by omega
  have bq2 : Q ≤ 40 := by omega
  have bn1 : 1 ≤ N := by omega
  have bn2 : N ≤ 40 := by omega
  have bc : C ≤ min Q N := by rw [hC]; exact Nat.le_of_lt_succ (Nat.mod_lt _ (by omega))
  have bc1 : C ≤ Q := by omega
  have bc2 : C ≤ N := by omega
  have e1 : 1 + (q0 : Int) % 40 = (Q : Int) := by omega
  have e2 : 1 + (n0 : Int) % 40 = (N : Int) := by omega
  have e3 : (c0 : Int) % (1 + min ((q0 : Int) % 40) ((n0 : Int) % 40) + 1) = (C : Int) := by
    rw [hC, Int.natCast_emod]
    congr 1
    omega
  have HE := Lib.hid (And.intro e1 (And.intro e2 e3))
  clear e1 e2 e3 bc hC hQ hN
  go_upto_region 5 with fail
  rw [HE.out.1, HE.out.2.1, HE.out.2.2]
  clear HE hc0 hq0 hn0
  go_wp2_with fail
  refine (whole_one W0).mono ?_
  rintro _ W1 ⟨A1, k1, B1, l1, Z1, D1, rfl, R1, S1, hb1, HG1⟩
  have hf1 := sa.fat_new R1 S1 27
  have hu1 : Below W1.heap.size W1 (W1.alloc (.cells #[.bool (decide (Z1 < 0)), .slice A1 (digs Z1.natAbs).length k1, .bool false, .slice B1 (digs D1).length l1] 27)) := (Below.refl _ _).alloc (Nat.le_refl _) _
  go_upto_region 6 with fail
  obtain ⟨U1, hU⟩ : ∃ U, U = W1.alloc (.cells #[.bool (decide (Z1 < 0)), .slice A1 (digs Z1.natAbs).length k1, .bool false, .slice B1 (digs D1).length l1] 27) := ⟨_, rfl⟩
  rw [← hU] at hf1 hu1 ⊢
  obtain ⟨g1, hg⟩ : ∃ g, g = W1.heap.size := ⟨_, rfl⟩
  rw [← hg] at hf1 ⊢
  have hc1 := hb1.trans (hu1.mono hb1.size)
  clear hU hg R1 S1 hb1 hu1
  have H1 := Lib.hid (And.intro (HB0.out.trans (hc1.mono HB0.out.size)) hf1)
  clear hc1 hf1 HB0
  go_wp2_with fail
  refine (score_any U1 1 C Q N (by decide) bq1 bn1 (by omega) (by omega) bc1 bc2 (HT.out.below H1.out.1)).mono ?_
  rintro _ W2 ⟨A2, k2, B2, l2, Z2, D2, rfl, R2, S2, hb2, HG2⟩
  have hf2 := sa.fat_new R2 S2 27
  have hu2 : Below W2.heap.size W2 (W2.alloc (.cells #[.bool (decide (Z2 < 0)), .slice A2 (digs Z2.natAbs).length k2, .bool false, .slice B2 (digs D2).length l2] 27)) := (Below.refl _ _).alloc (Nat.le_refl _) _
  go_upto_region 7 with fail
  obtain ⟨U2, hU⟩ : ∃ U, U = W2.alloc (.cells #[.bool (decide (Z2 < 0)), .slice A2 (digs Z2.natAbs).length k2, .bool false, .slice B2 (digs D2).length l2] 27) := ⟨_, rfl⟩
  rw [← hU] at hf2 hu2 ⊢
  obtain ⟨g2, hg⟩ : ∃ g, g = W2.heap.size := ⟨_, rfl⟩
  rw [← hg] at hf2 ⊢
  have hc2 := hb2.trans (hu2.mono hb2.size)
  clear hU hg R2 S2 hb2 hu2
  have H2 := Lib.hid (And.intro (H1.out.1.trans (hc2.mono H1.out.1.size)) (And.intro (H1.out.2.after hc2) hf2))
  clear hc2 hf2 H1
  go_wp2_with fail
  refine (score_any U2 2 C Q N (by decide) bq1 bn1 (by omega) (by omega) bc1 bc2 (HT.out.below H2.out.1)).mono ?_
  rintro _ W3 ⟨A3, k3, B3, l3, Z3, D3, rfl, R3, S3, hb3, HG3⟩
  have hf3 := sa.fat_new R3 S3 27
  have hu3 : Below W3.heap.size W3 (W3.alloc (.cells #[.bool (decide (Z3 < 0)), .slice A3 (digs Z3.natAbs).length k3, .bool false, .slice B3 (digs D3).length l3] 27)) := (Below.refl _ _).alloc (Nat.le_refl _) _
  go_upto_region 8 with fail
  obtain ⟨U3, hU⟩ : ∃ U, U = W3.alloc (.cells #[.bool (decide (Z3 < 0)), .slice A3 (digs Z3.natAbs).length k3, .bool false, .slice B3 (digs D3).length l3] 27) := ⟨_, rfl⟩
  rw [← hU] at hf3 hu3 ⊢
  obtain ⟨g3, hg⟩ : ∃ g, g = W3.heap.size := ⟨_, rfl⟩
  rw [← hg] at hf3 ⊢
  have hc3 := hb3.trans (hu3.mono hb3.size)
  clear hU hg R3 S3 hb3 hu3
  have H3 := Lib.hid (And.intro (H2.out.1.trans (hc3.mono H2.out.1.size)) (And.intro (H2.out.2.1.after hc3) (And.intro (H2.out.2.2.after hc3) hf3)))
  clear hc3 hf3 H2
  go_wp2_with fail
  refine (score_any U3 3 C Q N (by decide) bq1 bn1 (by omega) (by omega) bc1 bc2 (HT.out.below H3.out.1)).mono ?_
  rintro _ W4 ⟨A4, k4, B4, l4, Z4, D4, rfl, R4, S4, hb4, HG4⟩
  have hf4 := sa.fat_new R4 S4 27
  have hu4 : Below W4.heap.size W4 (W4.alloc (.cells #[.bool (decide (Z4 < 0)), .slice A4 (digs Z4.natAbs).length k4, .bool false, .slice B4 (digs D4).length l4] 27)) := (Below.refl _ _).alloc (Nat.le_refl _) _
  go_upto_region 9 with fail
  obtain ⟨U4, hU⟩ : ∃ U, U = W4.alloc (.cells #[.bool (decide (Z4 < 0)), .slice A4 (digs Z4.natAbs).length k4, .bool false, .slice B4 (digs D4).length l4] 27) := ⟨_, rfl⟩
  rw [← hU] at hf4 hu4 ⊢
  obtain ⟨g4, hg⟩ : ∃ g, g = W4.heap.size := ⟨_, rfl⟩
  rw [← hg] at hf4 ⊢
  have hc4 := hb4.trans (hu4.mono hb4.size)
  clear hU hg R4 S4 hb4 hu4
  obtain ⟨J, hJs, hJo, HJ⟩ : ∃ J : World → Prop, Hid (Stays J) ∧ Hid (∀ W, J W → Below w.heap.size w W ∧ sa.FAt W g1 Z1 D1 A1 k1 B1 l1 ∧ sa.FAt W g2 Z2 D2 A2 k2 B2 l2 ∧ sa.FAt W g3 Z3 D3 A3 k3 B3 l3 ∧ sa.FAt W g4 Z4 D4 A4 k4 B4 l4) ∧ Hid (J U4) :=
    ⟨fun W => Below w.heap.size w W ∧ sa.FAt W g1 Z1 D1 A1 k1 B1 l1 ∧ sa.FAt W g2 Z2 D2 A2 k2 B2 l2 ∧ sa.FAt W g3 Z3 D3 A3 k3 B3 l3 ∧ sa.FAt W g4 Z4 D4 A4 k4 B4 l4,
      Lib.hid ((stays_below w).and (stays_frac.and (stays_frac.and (stays_frac.and stays_frac)))), Lib.hid fun W h => h, Lib.hid ⟨H3.out.1.trans (hc4.mono H3.out.1.size), H3.out.2.1.after hc4, H3.out.2.2.1.after hc4, H3.out.2.2.2.after hc4, hf4⟩⟩
  clear hc4 hf4 H3
  have eM : dv 3 C Q N = Q + N - C := rfl
  have G1 := HG1.out.1
  have G2 := HG2.out.1
  have G3 := HG3.out.1
  have G4 := HG4.out.1
  have p1 := HG1.out.2
  have p2 : q Z2 D2 = q (C : Int) Q := HG2.out.2
  have p3 : q Z3 D3 = q (C : Int) N := HG3.out.2
  have p4 : q Z4 D4 = q (C : Int) (Q + N - C) := HG4.out.2
  have x1 := order_q (z1 := Z4) (z2 := Z2) G4.d0 G2.d0 (by omega) (by omega) p4 p2
  have x2 := order_q (z1 := Z4) (z2 := Z3) G4.d0 G3.d0 (by omega) (by omega) p4 p3
  have x3 := order_q (z1 := Z4) (z2 := Z1) G4.d0 G1.d0 (by omega) (by omega) p4 p1
  have x4 := order_q (z1 := Z2) (z2 := Z1) G2.d0 G1.d0 (by omega) (by omega) p2 p1
  have x5 := order_q (z1 := Z3) (z2 := Z1) G3.d0 G1.d0 (by omega) (by omega) p3 p1
  have y1 : fw.order (Z4 * D2) (Z2 * D4) ≤ 0 := by
    rw [x1]
    have : ¬ (0 < fw.order ((C : Int) * Q) ((C : Int) * ((Q + N - C : Nat) : Int))) := by
      rw [order_pos]
      have : (C : Int) * Q ≤ (C : Int) * ((Q + N - C : Nat) : Int) := Int.mul_le_mul_of_nonneg_left (by omega) (by omega)
      omega
    omega
  have y2 : fw.order (Z4 * D3) (Z3 * D4) ≤ 0 := by
    rw [x2]
    have : ¬ (0 < fw.order ((C : Int) * N) ((C : Int) * ((Q + N - C : Nat) : Int))) := by
      rw [order_pos]
      have : (C : Int) * N ≤ (C : Int) * ((Q + N - C : Nat) : Int) := Int.mul_le_mul_of_nonneg_left (by omega) (by omega)
      omega
    omega
  have y3 : fw.order (Z4 * D1) (Z1 * D4) = 0 ↔ C = Q ∧ C = N := by
    rw [x3, order_zero]
    omega
  have y4 : fw.order (Z2 * D1) (Z1 * D2) = 0 ↔ C = Q := by
    rw [x4, order_zero]
    omega
  have y5 : fw.order (Z3 * D1) (Z1 * D3) = 0 ↔ C = N := by
    rw [x5, order_zero]
    omega
  have HG := Lib.hid (And.intro G1 (And.intro G2 (And.intro G3 G4)))
  clear x1 x2 x3 x4 x5 p1 p2 p3 p4 G1 G2 G3 G4 eM
  generalize hX1 : fw.order (Z4 * D2) (Z2 * D4) = X1 at *
  generalize hX2 : fw.order (Z4 * D3) (Z3 * D4) = X2 at *
  generalize hX3 : fw.order (Z4 * D1) (Z1 * D4) = X3 at *
  generalize hX4 : fw.order (Z2 * D1) (Z1 * D2) = X4 at *
  generalize hX5 : fw.order (Z3 * D1) (Z1 * D3) = X5 at *
  have HX := Lib.hid (And.intro hX1 (And.intro hX2 (And.intro hX3 (And.intro hX4 hX5))))
  clear hX1 hX2 hX3 hX4 hX5
  go_cut [117] (fun s wx => s = .bool false ∧ Hid (J wx))
  case first =>
    obtain ⟨u1, u2, hu1, hu2, e3, e4, e5⟩ : ∃ u1 u2 : Bool, ((C : Int) == (Q : Int)) = u1 ∧ ((C : Int) == (N : Int)) = u2 ∧ (X3 == 0) = (u1 && u2) ∧ (X4 == 0) = u1 ∧ (X5 == 0) = u2 := by
      refine ⟨_, _, rfl, rfl, ?_, ?_, ?_⟩
      · rw [Bool.eq_iff_iff]; simp only [Bool.and_eq_true, beq_iff_eq]; omega
      · rw [Bool.eq_iff_iff]; simp only [beq_iff_eq]; omega
      · rw [Bool.eq_iff_iff]; simp only [beq_iff_eq]; omega
    clear y3 y4 y5
    cases u1 <;> cases u2 <;> simp only [Bool.and_true, Bool.and_false, Bool.and_self, Bool.true_and, Bool.false_and] at e3
    all_goals (
      obtain ⟨a0, a1, a2, a3⟩ := (hJo.out _ HJ.out).2.2.2.2.held
      obtain ⟨b0, b1, b2, b3⟩ := (hJo.out _ HJ.out).2.2.1.held
      go_wp2_with fail
      refine (rcmp_good U4 _ _ Z4 Z2 D4 D2 (hJo.out _ HJ.out).2.2.2.2.frac (hJo.out _ HJ.out).2.2.1.frac HG.out.2.2.2 HG.out.2.1).mono ?_
      rintro _ V1 ⟨rfl, hb⟩
      rw [HX.out.1]
      have HJ1 := Lib.hid (hJs.out _ _ HJ.out hb)
      clear hb a0 a1 a2 a3 b0 b1 b2 b3
      obtain ⟨a0, a1, a2, a3⟩ := (hJo.out _ HJ1.out).2.2.2.2.held
      obtain ⟨b0, b1, b2, b3⟩ := (hJo.out _ HJ1.out).2.2.2.1.held
      go_wp2_with fail
      refine (rcmp_good V1 _ _ Z4 Z3 D4 D3 (hJo.out _ HJ1.out).2.2.2.2.frac (hJo.out _ HJ1.out).2.2.2.1.frac HG.out.2.2.2 HG.out.2.2.1).mono ?_
      rintro _ V2 ⟨rfl, hb⟩
      rw [HX.out.2.1]
      have HJ2 := Lib.hid (hJs.out _ _ HJ1.out hb)
      clear hb a0 a1 a2 a3 b0 b1 b2 b3
      obtain ⟨a0, a1, a2, a3⟩ := (hJo.out _ HJ2.out).2.2.2.2.held
      obtain ⟨b0, b1, b2, b3⟩ := (hJo.out _ HJ2.out).2.1.held
      go_wp2_with fail
      refine (rcmp_good V2 _ _ Z4 Z1 D4 D1 (hJo.out _ HJ2.out).2.2.2.2.frac (hJo.out _ HJ2.out).2.1.frac HG.out.2.2.2 HG.out.1).mono ?_
      rintro _ V3 ⟨rfl, hb⟩
      rw [HX.out.2.2.1]
      have HJ3 := Lib.hid (hJs.out _ _ HJ2.out hb)
      clear hb a0 a1 a2 a3 b0 b1 b2 b3
      obtain ⟨a0, a1, a2, a3⟩ := (hJo.out _ HJ3.out).2.2.1.held
      obtain ⟨b0, b1, b2, b3⟩ := (hJo.out _ HJ3.out).2.1.held
      go_wp2_with fail
      refine (rcmp_good V3 _ _ Z2 Z1 D2 D1 (hJo.out _ HJ3.out).2.2.1.frac (hJo.out _ HJ3.out).2.1.frac HG.out.2.1 HG.out.1).mono ?_
      rintro _ V4 ⟨rfl, hb⟩
      rw [HX.out.2.2.2.1]
      have HJ4 := Lib.hid (hJs.out _ _ HJ3.out hb)
      clear hb a0 a1 a2 a3 b0 b1 b2 b3
      obtain ⟨a0, a1, a2, a3⟩ := (hJo.out _ HJ4.out).2.2.2.1.held
      obtain ⟨b0, b1, b2, b3⟩ := (hJo.out _ HJ4.out).2.1.held
      go_wp2_with fail
      refine (rcmp_good V4 _ _ Z3 Z1 D3 D1 (hJo.out _ HJ4.out).2.2.2.1.frac (hJo.out _ HJ4.out).2.1.frac HG.out.2.2.1 HG.out.1).mono ?_
      rintro _ V5 ⟨rfl, hb⟩
      rw [HX.out.2.2.2.2]
      have HJ5 := Lib.hid (hJs.out _ _ HJ4.out hb)
      clear hb a0 a1 a2 a3 b0 b1 b2 b3
      go_wp2_with fail
      go_meet
      exact ⟨by rw [decide_eq_false (by omega), decide_eq_false (by omega)]; rfl, HJ5⟩)
  case rest =>
    obtain ⟨rfl, HJ5⟩ := hcut
    clear HJ HX y1 y2 y3 y4 y5
    by_cases hC : C = 0
    · have hz2 := score_is HG2.out.1 HG2.out.2 (by show Q ≠ 0; omega) (good_small2 (z := 0) (d := 1) (by decide) (by decide) (by decide) (by decide)) (by rw [hC]; simp)
      have hz3 := score_is HG3.out.1 HG3.out.2 (by show N ≠ 0; omega) (good_small2 (z := 0) (d := 1) (by decide) (by decide) (by decide) (by decide)) (by rw [hC]; simp)
      have hz4 := score_is HG4.out.1 HG4.out.2 (by show Q + N - C ≠ 0; omega) (good_small2 (z := 0) (d := 1) (by decide) (by decide) (by decide) (by decide)) (by rw [hC]; simp)
      have HZ := Lib.hid (And.intro hz2 (And.intro hz3 hz4))
      have t0 := ba_toList [48]
      clear hz2 hz3 hz4
      obtain ⟨a0, a1, a2, a3⟩ := (hJo.out _ HJ5.out).2.2.1.held
      go_wp2_with fail
      refine (rtext_any wc _ Z2 D2 2 (hJo.out _ HJ5.out).2.2.1.frac HG2.out.1 (by decide)).mono ?_
      rintro _ T1 ⟨rfl, hb⟩
      rw [HZ.out.1.1, HZ.out.1.2, text_null]
      have K1 := Lib.hid (hJs.out _ _ HJ5.out hb)
      clear hb a0 a1 a2 a3
      obtain ⟨a0, a1, a2, a3⟩ := (hJo.out _ K1.out).2.2.2.1.held
      go_wp2_with fail
      refine (rtext_any T1 _ Z3 D3 2 (hJo.out _ K1.out).2.2.2.1.frac HG3.out.1 (by decide)).mono ?_
      rintro _ T2 ⟨rfl, hb⟩
      rw [HZ.out.2.1.1, HZ.out.2.1.2, text_null]
      have K2 := Lib.hid (hJs.out _ _ K1.out hb)
      clear hb a0 a1 a2 a3
      obtain ⟨a0, a1, a2, a3⟩ := (hJo.out _ K2.out).2.2.2.2.held
      go_wp2_with fail
      refine (rtext_any T2 _ Z4 D4 2 (hJo.out _ K2.out).2.2.2.2.frac HG4.out.1 (by decide)).mono ?_
      rintro _ T3 ⟨rfl, hb⟩
      rw [HZ.out.2.2.1, HZ.out.2.2.2, text_null]
      have K3 := Lib.hid (hJs.out _ _ K2.out hb)
      clear hb a0 a1 a2 a3
      go_wp2_with fail
      go_ret
      exact ⟨rfl, (hJo.out _ K3.out).1⟩
    · have HB := Lib.hid (hJo.out _ HJ5.out).1
      clear HJ5 hJs hJo HG1 HG2 HG3 HG4 HG
      have h119 : ((C : Int) == 0) = false := beq_eq_false_iff_ne.2 (by omega)
      go_wp2_with fail
      go_loopw [17] (fun i wr => ∃ t : Nat, 1 ≤ t ∧ t ≤ 4 ∧ i = .int .i64 (t : Int) ∧ Hid (Below w.heap.size w wr)) (fun i _ => 4 - (intOf i).toNat)
      case atStart => exact ⟨1, by decide, by decide, rfl, HB⟩
      case round =>
        obtain ⟨t, ht1, ht2, rfl, H⟩ := hrel
        clear HB
        by_cases ht : t = 4
        · subst ht
          go_wp2_with fail
          go_ret
          exact ⟨rfl, H.out⟩
        · have ht3 : (t : Int) ≤ 3 := by omega
          have e1 : IntKind.i64.wrap ((C : Int) - 1) = (C : Int) - 1 := IntWalk.i64_in _ (by omega)
          have e2 : (C : Int) - 1 = ((C - 1 : Nat) : Int) := by omega
          have HE := Lib.hid e2
          clear e2
          go_wp2_with fail
          rw [HE.out]
          refine (score_any wr t (C - 1) Q N (by omega) bq1 bn1 (by omega) (by omega) (by omega) (by omega) (HT.out.below H.out)).mono ?_
          rintro _ Y5 ⟨A5, k5, B5, l5, Z5, D5, rfl, R5, S5, hb5, HG5⟩
          have hf5 := sa.fat_new R5 S5 27
          have hu5 : Below Y5.heap.size Y5 (Y5.alloc (.cells #[.bool (decide (Z5 < 0)), .slice A5 (digs Z5.natAbs).length k5, .bool false, .slice B5 (digs D5).length l5] 27)) := (Below.refl _ _).alloc (Nat.le_refl _) _
          go_upto_region 17 with fail
          obtain ⟨U5, hU⟩ : ∃ U, U = Y5.alloc (.cells #[.bool (decide (Z5 < 0)), .slice A5 (digs Z5.natAbs).length k5, .bool false, .slice B5 (digs D5).length l5] 27) := ⟨_, rfl⟩
          rw [← hU] at hf5 hu5 ⊢
          obtain ⟨g5, hg⟩ : ∃ g, g = Y5.heap.size := ⟨_, rfl⟩
          rw [← hg] at hf5 ⊢
          have hc5 := hb5.trans (hu5.mono hb5.size)
          clear hU hg R5 S5 hb5 hu5
          have H5 := Lib.hid (And.intro (H.out.trans (hc5.mono H.out.size)) hf5)
          clear hc5 hf5 H
          go_wp2_with fail
          refine (score_any U5 t C Q N (by omega) bq1 bn1 (by omega) (by omega) bc1 bc2 (HT.out.below H5.out.1)).mono ?_
          rintro _ Y6 ⟨A6, k6, B6, l6, Z6, D6, rfl, R6, S6, hb6, HG6⟩
          have hf6 := sa.fat_new R6 S6 27
          have hu6 : Below Y6.heap.size Y6 (Y6.alloc (.cells #[.bool (decide (Z6 < 0)), .slice A6 (digs Z6.natAbs).length k6, .bool false, .slice B6 (digs D6).length l6] 27)) := (Below.refl _ _).alloc (Nat.le_refl _) _
          go_upto_region 18 with fail
          obtain ⟨U6, hU⟩ : ∃ U, U = Y6.alloc (.cells #[.bool (decide (Z6 < 0)), .slice A6 (digs Z6.natAbs).length k6, .bool false, .slice B6 (digs D6).length l6] 27) := ⟨_, rfl⟩
          rw [← hU] at hf6 hu6 ⊢
          obtain ⟨g6, hg⟩ : ∃ g, g = Y6.heap.size := ⟨_, rfl⟩
          rw [← hg] at hf6 ⊢
          have hc6 := hb6.trans (hu6.mono hb6.size)
          clear hU hg R6 S6 hb6 hu6
          have H6 := Lib.hid (And.intro (H5.out.1.trans (hc6.mono H5.out.1.size)) (And.intro (H5.out.2.after hc6) hf6))
          clear hc6 hf6 H5
          have x6 := order_q HG5.out.1.d0 HG6.out.1.d0 (show dv t (C - 1) Q N ≠ 0 by unfold dv; (repeat' split) <;> omega) (show dv t C Q N ≠ 0 by unfold dv; (repeat' split) <;> omega) HG5.out.2 HG6.out.2
          have y6 : fw.order (Z5 * D6) (Z6 * D5) < 0 := by
            rw [x6]
            have : ((C - 1 : Nat) : Int) * (dv t C Q N : Nat) < (C : Int) * (dv t (C - 1) Q N : Nat) := by
              have h1 : ((C - 1 : Nat) : Int) * (dv t C Q N : Nat) ≤ ((C - 1 : Nat) : Int) * (dv t (C - 1) Q N : Nat) := Int.mul_le_mul_of_nonneg_left (by unfold dv; (repeat' split) <;> omega) (by omega)
              have h2 : ((C - 1 : Nat) : Int) * (dv t (C - 1) Q N : Nat) < (C : Int) * (dv t (C - 1) Q N : Nat) := Int.mul_lt_mul_of_pos_right (by omega) (by unfold dv; (repeat' split) <;> omega)
              omega
            rw [order_lt this]
            decide
          generalize hX6 : fw.order (Z5 * D6) (Z6 * D5) = X6 at *
          have HX6 := Lib.hid hX6
          clear x6 hX6
          obtain ⟨a0, a1, a2, a3⟩ := H6.out.2.1.held
          obtain ⟨b0, b1, b2, b3⟩ := H6.out.2.2.held
          go_wp2_with fail
          refine (rcmp_good U6 _ _ Z5 Z6 D5 D6 H6.out.2.1.frac H6.out.2.2.frac HG5.out.1 HG6.out.1).mono ?_
          rintro _ Y7 ⟨rfl, hb⟩
          rw [HX6.out]
          have H7 := Lib.hid (H6.out.1.trans (hb.mono H6.out.1.size))
          have e9 : IntKind.i64.wrap ((t : Int) + 1) = (t : Int) + 1 := IntWalk.i64_in _ (by omega)
          clear hb a0 a1 a2 a3 b0 b1 b2 b3 H6 e1
          go_wp2_with fail
          exact ⟨⟨t + 1, by omega, by omega, by simp, H7⟩, by simp [intOf] <;> omega⟩
end Go.Proofs.YtbeidpeoichakaaDoor.sg
