/- Similarity is symmetric, holds of a text itself, grows with a weaker rule, and bounds the lengths. -/
import Derived.Test.YtgmnjiiommbjaaaDq
import Derived.Test.YtgmnjiiommbjaaaDl
set_option linter.unusedVariables false
set_option linter.unusedSimpArgs false
namespace Go.Proofs.Ytgmnjiiommbjaaa.dist
open Go.RowKit Go.Proofs.Ytgmnjiiommbjaaa.txt Go.Proofs.Ytgmnjiiommbjaaa.tx Go.Proofs.Ytgmnjiiommbjaaa.lev Go.Proofs.Ytgmnjiiommbjaaa.fold Go.Proofs.Ytgmnjiiommbjaaa.pat

theorem mergeN_symm (f : Nat) : ∀ xs ys, mergeN f xs ys = mergeN f ys xs := by
  induction f with
  | zero => intro xs ys; cases xs <;> cases ys <;> rfl
  | succ f ih =>
    intro xs ys
    cases xs with
    | nil => rw [mergeN_nil, mergeN_nil']
    | cons x xs =>
      cases ys with
      | nil => rw [mergeN_nil, mergeN_nil']
      | cons y ys =>
        rw [mergeN_cons, mergeN_cons]
        by_cases h : x < y
        · have h2 : ¬ y < x := List.lt_asymm h
          rw [if_pos h, if_neg h2, if_pos h, ih]
        · by_cases h2 : y < x
          · rw [if_neg h, if_pos h2, if_pos h2, ih]
          · rw [if_neg h, if_neg h2, if_neg h2, if_neg h, ih]
theorem merge_symm (xs ys : List (List UInt8)) : merge xs ys = merge ys xs := by
  unfold merge
  rw [Nat.add_comm ys.length, mergeN_symm]
theorem Co_symm (a b : List UInt8) : Co a b = Co b a := merge_symm _ _
theorem Un_symm (a b : List UInt8) : Un a b = Un b a := by
  show (TS a).length + (TS b).length - Co a b = (TS b).length + (TS a).length - Co b a
  rw [Co_symm b a, Nat.add_comm]
theorem E_symm (a b : List UInt8) : E a b = E b a := lev_symm _ _
theorem simV_symm (k l n d : Int) (a b : List UInt8) : simV k l n d a b = simV k l n d b a := by
  unfold simV
  rw [E_symm b a, Co_symm b a, Un_symm b a]
  congr 2
  congr 1
  rw [decide_eq_decide]
  exact ⟨Eq.symm, Eq.symm⟩
theorem E_self (a : List UInt8) : E a a = 0 := lev_self _
theorem Co_self (a : List UInt8) : Co a a = (TS a).length := merge_self _
theorem Un_self (a : List UInt8) : Un a a = (TS a).length := by
  show (TS a).length + (TS a).length - Co a a = _
  rw [Co_self]
  omega
theorem simV_self {k l n d : Int} (h : okR k l n d = true) (a : List UInt8) : simV k l n d a a = true := by
  rcases okR_one h with hk | hk | hk
  · rw [simV_same h (by omega) a a (by omega)]; simp
  · rw [simV_two h hk, E_self]
    have := okR_two h hk
    exact decide_eq_true (by omega)
  · by_cases hu : 0 < Un a a
    · rw [simV_three h hk a a hu, Un_self, Co_self]
      have := okR_three h hk
      exact decide_eq_true (Int.mul_le_mul_of_nonneg_right (by omega) (by omega))
    · rw [simV_same h (by omega) a a (fun _ => by omega)]; simp

/-- the rules that the dice give -/
def diceR (k l n d : Int) : Prop := (k = 1 ∧ l = 0 ∧ n = 0 ∧ d = 0) ∨ (k = 2 ∧ n = 0 ∧ d = 0 ∧ 0 ≤ l ∧ l ≤ 3) ∨ (k = 3 ∧ l = 0 ∧ 1 ≤ n ∧ n ≤ d ∧ d ≤ 4)
theorem diceR.ok {k l n d : Int} (h : diceR k l n d) : okR k l n d = true := by
  unfold diceR at h
  unfold okR
  exact decide_eq_true (by omega)
theorem weak_one (a b : List UInt8) (h : simV 1 0 0 0 a b = true) : simV 2 1 0 0 a b = true := by
  rw [simV_same (by decide) (by decide) a b (fun h => absurd h (by decide))] at h
  obtain rfl := of_decide_eq_true h
  exact simV_self (by decide) a
theorem weak_two (l : Int) (h0 : 0 ≤ l) (h3 : l ≤ 3) (a b : List UInt8) (h : simV 2 l 0 0 a b = true) : simV 2 (l + 1) 0 0 a b = true := by
  rw [simV_two (by unfold okR; exact decide_eq_true (by omega)) rfl] at h ⊢
  have := of_decide_eq_true h
  exact decide_eq_true (by omega)
theorem weak_three (n d m : Int) (h0 : 1 ≤ n) (h1 : n ≤ d) (h2 : d ≤ 4) (hm : 1 ≤ m) (hmn : m ≤ n) (a b : List UInt8) (h : simV 3 0 n d a b = true) : simV 3 0 m d a b = true := by
  have o1 : okR 3 0 n d = true := by unfold okR; exact decide_eq_true (by omega)
  have o2 : okR 3 0 m d = true := by unfold okR; exact decide_eq_true (by omega)
  by_cases hu : 0 < Un a b
  · rw [simV_three o1 rfl a b hu] at h
    rw [simV_three o2 rfl a b hu]
    have h3 := of_decide_eq_true h
    exact decide_eq_true (Int.le_trans (Int.mul_le_mul_of_nonneg_right hmn (by omega)) h3)
  · rw [simV_same o1 (by decide) a b (fun _ => by omega)] at h
    rw [simV_same o2 (by decide) a b (fun _ => by omega)]
    exact h
/-- similar texts have the lengths that are told -/
theorem lens_one (a b : List UInt8) (h : simV 1 0 0 0 a b = true) : (P a).length = (P b).length := by
  rw [simV_same (by decide) (by decide) a b (fun h => absurd h (by decide))] at h
  rw [of_decide_eq_true h]
theorem lens_two (l : Int) (h0 : 0 ≤ l) (h3 : l ≤ 3) (a b : List UInt8) (h : simV 2 l 0 0 a b = true) : ((P a).length : Int) ≤ (P b).length + l ∧ ((P b).length : Int) ≤ (P a).length + l := by
  rw [simV_two (by unfold okR; exact decide_eq_true (by omega)) rfl] at h
  have h2 := of_decide_eq_true h
  have h4 : (P a).length ≤ (P b).length + E a b ∧ (P b).length ≤ (P a).length + E a b := lev_lens (P a) (P b)
  omega
end Go.Proofs.Ytgmnjiiommbjaaa.dist
