/- The reference's Valid, Tokens, Similar. -/
import Derived.Test.YtgmnjiiommbjaaaDy
import Derived.Test.YtgmnjiiommbjaaaCf
import Derived.Test.YtgmnjiiommbjaaaBu
import Derived.Deep.RegionHeld3
set_option linter.unusedVariables false
set_option linter.unusedSimpArgs false
namespace Go.Proofs.Ytgmnjiiommbjaaa.dist
open Go.RowKit Go.Proofs.Ytgmnjiiommbjaaa.txt Go.Proofs.Ytgmnjiiommbjaaa.tx Go.Proofs.Ytgmnjiiommbjaaa.lev Go.Proofs.Ytgmnjiiommbjaaa.fold

set_option maxRecDepth 100000 in
set_option maxHeartbeats 2000000 in
theorem refValid_any (k l n d : Int) (w : World) : Calls Try.prog 20 #[ruleV k l n d] w fun e w' => e = .returned (.bool (okR k l n d)) ∧ Below w.heap.size w w' := by
  obtain ⟨R, hR⟩ : ∃ R, R = okR k l n d := ⟨_, rfl⟩
  rw [← hR]
  unfold okR at hR
  have HR := Lib.hid hR
  clear hR
  go_enter Try.func20, Try.ntmps20
  have hb : ∀ v, Below w.heap.size w (w.alloc (.cells v 24)) := fun v => (Below.refl _ w).alloc (Nat.le_refl _) _
  have HB := Lib.hid hb
  clear hb
  go_wp2_with fail
  all_goals (
    go_ret
    refine ⟨?_, HB.out _⟩
    rw [HR.out]
    try simp only [beq_iff_eq, beq_eq_false_iff_ne, Bool.and_eq_true, decide_eq_true_eq, decide_eq_false_iff_not] at *
    first
      | exact congrArg (fun b => Ending.returned (Value.bool b)) (decide_eq_true (by omega)).symm
      | exact congrArg (fun b => Ending.returned (Value.bool b)) (decide_eq_false (by omega)).symm
      | exact congrArg (fun b => Ending.returned (Value.bool b)) (decide_eq_decide.2 (by omega)))

theorem strsTo {w w' : World} {v : Value} {xs : List (List UInt8)} (h : Strs w w.heap.size v xs) (hb : Below w.heap.size w w') : Strs w' w'.heap.size v xs := (h.below hb).more hb.size

set_option maxRecDepth 100000 in
set_option maxHeartbeats 2000000 in
theorem refTokens_two (a b : List UInt8) (w : World) (ha : a.length ≤ 400000) (hb : b.length ≤ 400000) :
    Calls Try.prog 16 #[.string ⟨a.toArray⟩, .string ⟨b.toArray⟩] w fun e w' => e = .returned (.tuple #[.int .i64 (Co a b : Int), .int .i64 (Un a b : Int)]) ∧ Below w.heap.size w w' := by
  have f1 := tokens_few a
  have f2 := tokens_few b
  have g1 := TS_few a
  have g2 := TS_few b
  go_enter Try.func16, Try.ntmps16
  go_wp2_with fail
  refine (rf.refTokens_any ⟨a.toArray⟩ w (by simp [ByteArray.size]; omega)).mono ?_
  rintro _ w1 ⟨v1, rfl, o1, b1⟩
  go_wp2_with fail
  refine (refSet_any v1 _ w1 (strs_of_owns o1) (by omega)).mono ?_
  rintro _ w2 ⟨v2, rfl, S2, b2⟩
  have H2 := Lib.hid (And.intro (b1.trans (b2.mono b1.size)) (show Strs w2 w2.heap.size v2 (TS a) from S2))
  clear o1 b1 b2 S2
  go_wp2_with fail
  refine (rf.refTokens_any ⟨b.toArray⟩ w2 (by simp [ByteArray.size]; omega)).mono ?_
  rintro _ w3 ⟨v3, rfl, o3, b3⟩
  go_wp2_with fail
  refine (refSet_any v3 _ w3 (strs_of_owns o3) (by omega)).mono ?_
  rintro _ w4 ⟨v4, rfl, S4, b4⟩
  have H4 := Lib.hid (And.intro (H2.out.1.trans ((b3.trans (b4.mono b3.size)).mono H2.out.1.size)) (And.intro ((strsTo H2.out.2 b3) |> fun h => strsTo h b4) (show Strs w4 w4.heap.size v4 (TS b) from S4)))
  clear o3 b3 b4 S4
  have A1 := ascB_of (setOf_asc (tok.tokens (a.map low)))
  have A2 := ascB_of (setOf_asc (tok.tokens (b.map low)))
  have HA := Lib.hid (And.intro A1 A2)
  clear A1 A2
  have hC : comV (TS a) (TS b) = Co a b := by unfold comV; rw [if_pos HA.out]
  have hU : uniV (TS a) (TS b) = Un a b := by unfold uniV; rw [if_pos HA.out]
  have HCU := Lib.hid (And.intro hC hU)
  clear hC hU
  go_wp2_with fail
  refine (refCommon_any _ _ (TS a) (TS b) w4 H4.out.2.1 H4.out.2.2 (by omega) (by omega)).mono ?_
  rintro _ w5 ⟨rfl, d5⟩
  rw [HCU.out.1]
  have H5 := Lib.hid (And.intro (H4.out.1.trans ((d5.below _).mono H4.out.1.size)) (And.intro (strsTo H4.out.2.1 (d5.below _)) (strsTo H4.out.2.2 (d5.below _))))
  clear d5
  go_wp2_with fail
  refine (refUnion_any _ _ (TS a) (TS b) w5 H5.out.2.1 H5.out.2.2 (by omega) (by omega)).mono ?_
  rintro _ w6 ⟨rfl, d6⟩
  rw [HCU.out.2]
  have HB := Lib.hid (H5.out.1.trans ((d6.below _).mono H5.out.1.size))
  go_wp2
  go_ret2
  exact ⟨rfl, HB.out⟩

set_option maxRecDepth 100000 in
set_option maxHeartbeats 2000000 in
theorem refSimilar_any (k l n d : Int) (a b : List UInt8) (w : World) (ha : a.length ≤ 10000) (hb : b.length ≤ 10000) :
    Calls Try.prog 22 #[ruleV k l n d, .string ⟨a.toArray⟩, .string ⟨b.toArray⟩] w fun e w' => e = .returned (.bool (simV k l n d a b)) ∧ Below w.heap.size w w' := by
  obtain ⟨R, hR⟩ : ∃ R, R = okR k l n d := ⟨_, rfl⟩
  obtain ⟨S, hS⟩ : ∃ S, S = simV k l n d a b := ⟨_, rfl⟩
  rw [← hS]
  have HR := Lib.hid (And.intro hR hS)
  have hva := fun W => refValid_any k l n d W
  simp only [← hR] at hva
  clear hR hS
  go_enter Try.func22, Try.ntmps22
  have hb0 : ∀ v, Below w.heap.size w (w.alloc (.cells v 24)) := fun v => (Below.refl _ w).alloc (Nat.le_refl _) _
  have HB := Lib.hid hb0
  clear hb0
  go_wp2_with fail
  refine (hva _).mono ?_
  rintro _ w1 ⟨rfl, b1⟩
  clear hva
  have c0 : w1.cell? ⟨w.heap.size, 0, none⟩ = some (.int .i64 k) := (b1.cell (p := ⟨w.heap.size, 0, none⟩) (by simp)).trans (by rw [World.cell?_alloc_new]; rfl)
  have c1 : w1.cell? ⟨w.heap.size, 1, none⟩ = some (.int .i64 l) := (b1.cell (p := ⟨w.heap.size, 1, none⟩) (by simp)).trans (by rw [World.cell?_alloc_new]; rfl)
  have c2 : w1.cell? ⟨w.heap.size, 2, none⟩ = some (.int .i64 n) := (b1.cell (p := ⟨w.heap.size, 2, none⟩) (by simp)).trans (by rw [World.cell?_alloc_new]; rfl)
  have c3 : w1.cell? ⟨w.heap.size, 3, none⟩ = some (.int .i64 d) := (b1.cell (p := ⟨w.heap.size, 3, none⟩) (by simp)).trans (by rw [World.cell?_alloc_new]; rfl)
  have hw1 : w.heap.size < w1.heap.size := by have := b1.size; simp at this; omega
  have HW := Lib.hid ((HB.out _).trans (b1.mono (by simp)))
  clear b1
  cases R
  · have hs := simV_bad HR.out.1.symm a b
    rw [← HR.out.2] at hs
    subst hs
    clear HR
    go_wp2_with fail
    go_ret
    exact ⟨rfl, HW.out⟩
  · by_cases hk2 : k = 2
    · have hs := simV_two HR.out.1.symm hk2 a b
      rw [← HR.out.2] at hs
      have HS := Lib.hid hs
      subst hk2
      clear HR hs
      go_wp2_with fail
      have H1 := Lib.hid c1
      have H1d := Lib.hid (show w1.drew.cell? ⟨w.heap.size, 1, none⟩ = some (.int .i64 l) from c1)
      go_region_held3 (fun w' => w'.cell? ⟨w.heap.size, 1, none⟩ = some (.int .i64 l))
        (first | with_reducible exact H1d.out | with_reducible exact H1.out | with_reducible exact H2c.out)
        (first
          | (go_at_call 12; refine (refEdit_any a b w1.drew (by omega) (by omega)).mono ?_; rintro _ w2 ⟨rfl, b2⟩
             have H2c := Lib.hid ((b2.cell (p := ⟨w.heap.size, 1, none⟩) (show w.heap.size < w1.drew.heap.size from hw1)).trans H1d.out)
             have HW2 := Lib.hid (HW.out.drew.trans (b2.mono (show w.heap.size ≤ w1.drew.heap.size from Nat.le_of_lt hw1)))
             clear b2))
      rename_i hHeld
      clear hHeld c0 c1 c2 c3 H1 H1d H2c
      go_wp2_with fail
      go_ret
      refine ⟨?_, HW2.out⟩
      rw [HS.out]
      rfl
    · have hk2' : (k == 2) = false := by simpa using hk2
      by_cases hk3 : k = 3
      · have ho := okR_three HR.out.1.symm hk3
        have HO := Lib.hid (And.intro HR ho)
        have hcol := Co_le a b
        have hunl := Un_le a b
        subst hk3
        clear HR ho hk2 hk2'
        go_wp2_with fail
        refine (refTokens_two a b w1 (by omega) (by omega)).mono ?_
        rintro _ w2 ⟨rfl, b2⟩
        have c2' := (b2.cell (p := ⟨w.heap.size, 2, none⟩) hw1).trans c2
        have c3' := (b2.cell (p := ⟨w.heap.size, 3, none⟩) hw1).trans c3
        have HW2 := Lib.hid (HW.out.trans (b2.mono (by omega)))
        clear b2 c0 c1 c2 c3
        obtain ⟨C, hC⟩ : ∃ C, C = Co a b := ⟨_, rfl⟩
        obtain ⟨U, hU⟩ : ∃ U, U = Un a b := ⟨_, rfl⟩
        rw [← hC] at hcol ⊢
        rw [← hU] at hunl ⊢
        have HCU := Lib.hid (And.intro hC hU)
        clear hC hU
        by_cases hu0 : 0 < U
        · have hs := simV_three HO.out.1.out.1.symm rfl a b (by rw [← HCU.out.2]; exact hu0)
          rw [← HO.out.1.out.2, ← HCU.out.1, ← HCU.out.2] at hs
          have HS := Lib.hid hs
          have gu : ((U : Int) == 0) = false := by rw [beq_eq_false_iff_ne]; omega
          have m1 : 0 ≤ d * (C : Int) ∧ d * (C : Int) ≤ 1000 * 20001 := by
            have h1 := HO.out.2
            constructor
            · exact Int.mul_nonneg (by omega) (by omega)
            · exact Int.mul_le_mul (by omega) (by omega) (by omega) (by omega)
          have m2 : 0 ≤ n * (U : Int) ∧ n * (U : Int) ≤ 1000 * 20002 := by
            have h1 := HO.out.2
            constructor
            · exact Int.mul_nonneg (by omega) (by omega)
            · exact Int.mul_le_mul (by omega) (by omega) (by omega) (by omega)
          have e1 : IntKind.i64.wrap (d * (C : Int)) = d * (C : Int) := IntWalk.i64_in _ (by omega)
          have e2 : IntKind.i64.wrap (n * (U : Int)) = n * (U : Int) := IntWalk.i64_in _ (by omega)
          clear hs
          go_wp2_with fail
          go_ret
          refine ⟨?_, HW2.out⟩
          rw [HS.out]
          rfl
        · have hs := simV_same HO.out.1.out.1.symm (by decide) a b (fun _ => by rw [← HCU.out.2]; omega)
          rw [← HO.out.1.out.2] at hs
          have HS := Lib.hid hs
          have gu : ((U : Int) == 0) = true := by rw [beq_iff_eq]; omega
          clear hs
          go_wp2_with fail
          go_ret
          refine ⟨?_, HW2.out⟩
          rw [HS.out]
          exact congrArg (fun b => Ending.returned (Value.bool b)) (by simp [Bool.beq_eq_decide_eq])
      · have hk1 : k = 1 := by rcases okR_one HR.out.1.symm with h | h | h <;> omega
        have hs := simV_same HR.out.1.symm hk2 a b (fun h => absurd h hk3)
        rw [← HR.out.2] at hs
        have HS := Lib.hid hs
        subst hk1
        clear hs HR hk2 hk3 hk2'
        go_wp2_with fail
        go_ret
        refine ⟨?_, HW.out⟩
        rw [HS.out]
        exact congrArg (fun b => Ending.returned (Value.bool b)) (by simp [Bool.beq_eq_decide_eq])
end Go.Proofs.Ytgmnjiiommbjaaa.dist
