/- distance.Valid and Similar, at any rule. -/
import Derived.Test.YtgmnjiiommbjaaaDf
set_option linter.unusedVariables false
set_option linter.unusedSimpArgs false
namespace Go.Proofs.Ytgmnjiiommbjaaa.dist
open Go.RowKit Go.Proofs.Ytgmnjiiommbjaaa.txt Go.Proofs.Ytgmnjiiommbjaaa.tx Go.Proofs.Ytgmnjiiommbjaaa.lev Go.Proofs.Ytgmnjiiommbjaaa.fold

def okR (k l n d : Int) : Bool := decide ((k = 1 ∧ l = 0 ∧ n = 0 ∧ d = 0) ∨ (k = 2 ∧ n = 0 ∧ d = 0 ∧ 0 ≤ l ∧ l ≤ 8) ∨ (k = 3 ∧ l = 0 ∧ 1 ≤ n ∧ n ≤ d ∧ d ≤ 1000))
abbrev ruleV (k l n d : Int) : Value := .agg #[.int .i64 k, .int .i64 l, .int .i64 n, .int .i64 d]

set_option maxRecDepth 100000 in
set_option maxHeartbeats 2000000 in
theorem valid_any (k l n d : Int) (w : World) : Calls Try.prog 19 #[ruleV k l n d] w fun e w' => e = .returned (.bool (okR k l n d)) ∧ Below w.heap.size w w' := by
  obtain ⟨R, hR⟩ : ∃ R, R = okR k l n d := ⟨_, rfl⟩
  rw [← hR]
  unfold okR at hR
  have HR := Lib.hid hR
  clear hR
  go_enter Try.func19, Try.ntmps19
  have hb : ∀ v, Below w.heap.size w (w.alloc (.cells v 24)) := fun v => (Below.refl _ w).alloc (Nat.le_refl _) _
  have HB := Lib.hid hb
  clear hb
  go_wp2_with fail
  all_goals (
    go_ret
    refine ⟨?_, HB.out _⟩
    rw [HR.out]
    try simp only [beq_iff_eq, beq_eq_false_iff_ne, Bool.and_eq_true, decide_eq_true_eq, decide_eq_false_iff_not] at *
    first
      | exact congrArg (fun b => Ending.returned (Value.bool b)) (decide_eq_true (by omega)).symm
      | exact congrArg (fun b => Ending.returned (Value.bool b)) (decide_eq_false (by omega)).symm
      | exact congrArg (fun b => Ending.returned (Value.bool b)) (decide_eq_decide.2 (by omega)))

theorem okR_two {k l n d : Int} (h : okR k l n d = true) (h2 : k = 2) : n = 0 ∧ d = 0 ∧ 0 ≤ l ∧ l ≤ 8 := by
  have := of_decide_eq_true h
  omega
theorem okR_three {k l n d : Int} (h : okR k l n d = true) (h2 : k = 3) : l = 0 ∧ 1 ≤ n ∧ n ≤ d ∧ d ≤ 1000 := by
  have := of_decide_eq_true h
  omega
theorem okR_one {k l n d : Int} (h : okR k l n d = true) : k = 1 ∨ k = 2 ∨ k = 3 := by
  have := of_decide_eq_true h
  omega

/-- whether two texts are similar by a rule -/
def simV (k l n d : Int) (a b : List UInt8) : Bool :=
  okR k l n d && (if k = 2 then decide ((E a b : Int) ≤ l) else if k = 3 ∧ 0 < Un a b then decide (n * (Un a b : Int) ≤ d * (Co a b : Int)) else decide (a = b))

theorem simV_bad {k l n d : Int} (h : okR k l n d = false) (a b : List UInt8) : simV k l n d a b = false := by unfold simV; rw [h]; rfl
theorem simV_two {k l n d : Int} (h : okR k l n d = true) (h2 : k = 2) (a b : List UInt8) : simV k l n d a b = decide ((E a b : Int) ≤ l) := by unfold simV; rw [h, if_pos h2]; rfl
theorem simV_three {k l n d : Int} (h : okR k l n d = true) (h2 : k = 3) (a b : List UInt8) (h3 : 0 < Un a b) : simV k l n d a b = decide (n * (Un a b : Int) ≤ d * (Co a b : Int)) := by unfold simV; rw [h, if_neg (by omega), if_pos ⟨h2, h3⟩]; rfl
theorem simV_same {k l n d : Int} (h : okR k l n d = true) (h2 : k ≠ 2) (a b : List UInt8) (h3 : k = 3 → Un a b = 0) : simV k l n d a b = decide (a = b) := by
  unfold simV
  rw [h, if_neg h2, if_neg (by rintro ⟨h4, h5⟩; have := h3 h4; omega)]
  rfl

theorem Co_le (a b : List UInt8) : Co a b ≤ a.length + 1 := Nat.le_trans (merge_le _ _) (TS_few a)
theorem Un_le (a b : List UInt8) : Un a b ≤ a.length + b.length + 2 := by
  have := TS_few a
  have := TS_few b
  show (TS a).length + (TS b).length - Co a b ≤ _
  omega

set_option maxRecDepth 100000 in
set_option maxHeartbeats 2000000 in
theorem similar_any (k l n d : Int) (a b : List UInt8) (w : World) (ha : a.length ≤ 10000) (hb : b.length ≤ 10000) :
    Calls Try.prog 21 #[ruleV k l n d, .string ⟨a.toArray⟩, .string ⟨b.toArray⟩] w fun e w' => e = .returned (.bool (simV k l n d a b)) ∧ Below w.heap.size w w' := by
  obtain ⟨R, hR⟩ : ∃ R, R = okR k l n d := ⟨_, rfl⟩
  obtain ⟨S, hS⟩ : ∃ S, S = simV k l n d a b := ⟨_, rfl⟩
  rw [← hS]
  have HR := Lib.hid (And.intro hR hS)
  have hva := fun W => valid_any k l n d W
  simp only [← hR] at hva
  clear hR hS
  go_enter Try.func21, Try.ntmps21
  have hb0 : ∀ v, Below w.heap.size w (w.alloc (.cells v 24)) := fun v => (Below.refl _ w).alloc (Nat.le_refl _) _
  have HB := Lib.hid hb0
  clear hb0
  go_wp2_with fail
  refine (hva _).mono ?_
  rintro _ w1 ⟨rfl, b1⟩
  clear hva
  have c0 : w1.cell? ⟨w.heap.size, 0, none⟩ = some (.int .i64 k) := (b1.cell (p := ⟨w.heap.size, 0, none⟩) (by simp)).trans (by rw [World.cell?_alloc_new]; rfl)
  have c1 : w1.cell? ⟨w.heap.size, 1, none⟩ = some (.int .i64 l) := (b1.cell (p := ⟨w.heap.size, 1, none⟩) (by simp)).trans (by rw [World.cell?_alloc_new]; rfl)
  have c2 : w1.cell? ⟨w.heap.size, 2, none⟩ = some (.int .i64 n) := (b1.cell (p := ⟨w.heap.size, 2, none⟩) (by simp)).trans (by rw [World.cell?_alloc_new]; rfl)
  have c3 : w1.cell? ⟨w.heap.size, 3, none⟩ = some (.int .i64 d) := (b1.cell (p := ⟨w.heap.size, 3, none⟩) (by simp)).trans (by rw [World.cell?_alloc_new]; rfl)
  have hw1 : w.heap.size < w1.heap.size := by have := b1.size; simp at this; omega
  have HW := Lib.hid ((HB.out _).trans (b1.mono (by simp)))
  clear b1
  cases R
  · have hs := simV_bad HR.out.1.symm a b
    rw [← HR.out.2] at hs
    subst hs
    clear HR
    go_wp2_with fail
    go_ret
    exact ⟨rfl, HW.out⟩
  · by_cases hk2 : k = 2
    · have hs := simV_two HR.out.1.symm hk2 a b
      have ho := okR_two HR.out.1.symm hk2
      rw [← HR.out.2] at hs
      have HS := Lib.hid hs
      subst hk2
      obtain ⟨l', rfl⟩ : ∃ l' : Nat, l = l' := ⟨l.toNat, by omega⟩
      clear HR hs ho
      go_wp2_with fail
      refine (within_any a b l' w1 (by omega) (by omega)).mono ?_
      rintro _ w2 ⟨rfl, b2⟩
      have HW2 := Lib.hid (HW.out.trans (b2.mono (by omega)))
      clear b2
      go_wp2_with fail
      go_ret
      refine ⟨?_, HW2.out⟩
      rw [HS.out]
      exact congrArg (fun b => Ending.returned (Value.bool b)) (by simp)
    · have hk2' : (k == 2) = false := by simpa using hk2
      by_cases hk3 : k = 3
      · have ho := okR_three HR.out.1.symm hk3
        have HO := Lib.hid (And.intro HR ho)
        have hcol := Co_le a b
        have hunl := Un_le a b
        subst hk3
        clear HR ho hk2 hk2'
        go_wp2_with fail
        refine (tokens_two a b w1 (by omega) (by omega)).mono ?_
        rintro _ w2 ⟨rfl, b2⟩
        have c2' := (b2.cell (p := ⟨w.heap.size, 2, none⟩) hw1).trans c2
        have c3' := (b2.cell (p := ⟨w.heap.size, 3, none⟩) hw1).trans c3
        have HW2 := Lib.hid (HW.out.trans (b2.mono (by omega)))
        clear b2 c0 c1 c2 c3
        obtain ⟨C, hC⟩ : ∃ C, C = Co a b := ⟨_, rfl⟩
        obtain ⟨U, hU⟩ : ∃ U, U = Un a b := ⟨_, rfl⟩
        rw [← hC] at hcol ⊢
        rw [← hU] at hunl ⊢
        have HCU := Lib.hid (And.intro hC hU)
        clear hC hU
        by_cases hu0 : 0 < U
        · have hs := simV_three HO.out.1.out.1.symm rfl a b (by rw [← HCU.out.2]; exact hu0)
          rw [← HO.out.1.out.2, ← HCU.out.1, ← HCU.out.2] at hs
          have HS := Lib.hid hs
          have gu : (0 : Int) < (U : Int) := by omega
          have m1 : 0 ≤ d * (C : Int) ∧ d * (C : Int) ≤ 1000 * 20001 := by
            have h1 := HO.out.2
            constructor
            · exact Int.mul_nonneg (by omega) (by omega)
            · exact Int.mul_le_mul (by omega) (by omega) (by omega) (by omega)
          have m2 : 0 ≤ n * (U : Int) ∧ n * (U : Int) ≤ 1000 * 20002 := by
            have h1 := HO.out.2
            constructor
            · exact Int.mul_nonneg (by omega) (by omega)
            · exact Int.mul_le_mul (by omega) (by omega) (by omega) (by omega)
          have e1 : IntKind.i64.wrap (d * (C : Int)) = d * (C : Int) := IntWalk.i64_in _ (by omega)
          have e2 : IntKind.i64.wrap (n * (U : Int)) = n * (U : Int) := IntWalk.i64_in _ (by omega)
          clear hs
          go_wp2_with fail
          go_ret
          refine ⟨?_, HW2.out⟩
          rw [HS.out]
          rfl
        · have hs := simV_same HO.out.1.out.1.symm (by decide) a b (fun _ => by rw [← HCU.out.2]; omega)
          rw [← HO.out.1.out.2] at hs
          have HS := Lib.hid hs
          have gu : ¬ (0 : Int) < (U : Int) := by omega
          clear hs
          go_wp2_with fail
          go_ret
          refine ⟨?_, HW2.out⟩
          rw [HS.out]
          exact congrArg (fun b => Ending.returned (Value.bool b)) (by simp [Bool.beq_eq_decide_eq])
      · have hk3' : (k == 3) = false := by simpa using hk3
        have hs := simV_same HR.out.1.symm hk2 a b (fun h => absurd h hk3)
        rw [← HR.out.2] at hs
        have HS := Lib.hid hs
        clear hs HR
        go_wp2_with fail
        go_ret
        refine ⟨?_, HW.out⟩
        rw [HS.out]
        exact congrArg (fun b => Ending.returned (Value.bool b)) (by simp [Bool.beq_eq_decide_eq])
end Go.Proofs.Ytgmnjiiommbjaaa.dist
