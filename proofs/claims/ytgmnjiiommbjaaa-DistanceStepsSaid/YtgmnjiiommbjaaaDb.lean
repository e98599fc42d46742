/- The rows of the edit distance within a band: plain numbers. No program here. -/
import Derived.Test.YtgmnjiiommbjaaaDa
set_option linter.unusedVariables false
set_option linter.unusedSimpArgs false
namespace Go.Proofs.Ytgmnjiiommbjaaa.lev

/-- what a row of costs says after i elements of a -/
structure Row (a b : List Int) (l i : Nat) (c : Nat → Nat) : Prop where
  ok : ∀ k, k ≤ b.length → k ≤ i + l → i ≤ k + l → min (c k) (l + 1) = min (D a b i k) (l + 1)
  bd : ∀ k, c k ≤ l + 1 + i

/-- in the midst of row i + 1: the columns before j are new -/
structure Mid (a b : List Int) (l i j : Nat) (c : Nat → Nat) (corner best : Nat) : Prop where
  new : ∀ k, k < j → i ≤ k + l → k ≤ b.length → min (c k) (l + 1) = min (D a b (i + 1) k) (l + 1)
  old : ∀ k, j ≤ k → k ≤ i + l → k ≤ b.length → i ≤ k + l → min (c k) (l + 1) = min (D a b i k) (l + 1)
  cor : j ≤ b.length → j ≤ i + 1 + l → min corner (l + 1) = min (D a b i (j - 1)) (l + 1)
  bst : best ≤ l + 1
  bst2 : ∀ k, 1 ≤ k → i + 1 ≤ k + l → k < j → best ≤ c k
  bd : ∀ k, c k ≤ l + 2 + i
  bd2 : ∀ k, j ≤ k → c k ≤ l + 1 + i
  bd3 : corner ≤ l + 1 + i

theorem row_start (a b : List Int) (l : Nat) : Row a b l 0 (fun j => min j (l + 1)) := by
  refine ⟨fun k hk _ _ => ?_, fun k => by omega⟩
  rw [D_zero a b k hk]
  omega

/-- the beginning of row i + 1 -/
theorem mid_start {a b : List Int} {l i : Nat} {c : Nat → Nat} (h : Row a b l i c) (hi : i < a.length) (hn : a.length ≤ b.length) :
    Mid a b l i (max (i + 1 - l) 1) (fun k => if k = i + 1 - l - 1 then (if i + 1 - l = 0 then i + 1 else l + 1) else c k) (c (i + 1 - l - 1)) (l + 1) := by
  refine ⟨fun k hk h1 h2 => ?_, fun k hk h1 h2 h3 => ?_, fun h1 h2 => ?_, Nat.le_refl _, fun k h1 h2 h3 => by omega, fun k => ?_, fun k hk => ?_, ?_⟩
  · skip
    by_cases h0 : i + 1 - l = 0
    · obtain rfl : k = 0 := by omega
      rw [if_pos (by omega), if_pos h0, D_zero' a b (i + 1) (by omega)]
    · have := D_band a b (i + 1) k (by omega) h2
      rw [if_pos (by omega), if_neg h0]
      omega
  · skip
    rw [if_neg (by omega)]
    exact h.ok k h2 h1 h3
  · have h3 := h.ok (i + 1 - l - 1) (by omega) (by omega) (by omega)
    rw [h3]
    have e : max (i + 1 - l) 1 - 1 = i + 1 - l - 1 := by omega
    rw [e]
  · skip
    have := h.bd k
    split
    · split <;> omega
    · omega
  · skip
    rw [if_neg (by omega)]
    exact h.bd k
  · exact h.bd _

def above (l i j : Nat) (c : Nat → Nat) : Nat := if j = i + 1 + l then l + 1 else c j
def cost (l i j : Nat) (c : Nat → Nat) (corner : Nat) (same : Bool) : Nat := if same = true then corner else 1 + min corner (min (above l i j c) (c (j - 1)))
def upd (c : Nat → Nat) (j v : Nat) : Nat → Nat := fun k => if k = j then v else c k

theorem trunc {l p q r p' q' r' : Nat} (h1 : min p (l + 1) = min p' (l + 1)) (h2 : min q (l + 1) = min q' (l + 1)) (h3 : min r (l + 1) = min r' (l + 1)) : min (1 + min p (min q r)) (l + 1) = min (1 + min p' (min q' r')) (l + 1) := by omega

theorem mid_step {a b : List Int} {l i j : Nat} {c : Nat → Nat} {corner best : Nat} (h : Mid a b l i j c corner best) (hi : i < a.length) (h1 : 1 ≤ j) (hj : j ≤ b.length) (hj2 : j ≤ i + 1 + l) (hj3 : i + 1 ≤ j + l)
    {x y : Int} (hx : a[i]? = some x) (hy : b[j - 1]? = some y) :
    Mid a b l i (j + 1) (upd c j (cost l i j c corner (decide (x = y)))) (c j) (min best (cost l i j c corner (decide (x = y)))) := by
  obtain ⟨m, rfl⟩ : ∃ m, j = m + 1 := ⟨j - 1, by omega⟩
  have hcor := h.cor hj hj2
  rw [Nat.add_sub_cancel] at hcor hy
  have hab : min (above l i (m + 1) c) (l + 1) = min (D a b i (m + 1)) (l + 1) := by
    unfold above
    by_cases e : m + 1 = i + 1 + l
    · rw [if_pos e]
      have := D_band a b i (m + 1) (by omega) hj
      omega
    · rw [if_neg e]
      exact h.old (m + 1) (Nat.le_refl _) (by omega) hj (by omega)
  have hleft : min (c m) (l + 1) = min (D a b (i + 1) m) (l + 1) := h.new m (by omega) (by omega) (by omega)
  have hcost : min (cost l i (m + 1) c corner (decide (x = y))) (l + 1) = min (D a b (i + 1) (m + 1)) (l + 1) := by
    unfold cost
    by_cases e : x = y
    · subst e
      rw [if_pos (by simp), D_same a b i m x hx hy]
      exact hcor
    · rw [if_neg (by simpa using e), D_diff a b i m x y hx hy e, Nat.add_sub_cancel]
      exact trunc hcor hab hleft
  have hbd : cost l i (m + 1) c corner (decide (x = y)) ≤ l + 2 + i := by
    have := h.bd3
    unfold cost
    split <;> omega
  generalize cost l i (m + 1) c corner (decide (x = y)) = v at *
  unfold upd
  refine ⟨fun k hk h4 h5 => ?_, fun k hk h4 h5 h6 => ?_, fun h4 h5 => ?_, by have := h.bst; omega, fun k h4 h5 h6 => ?_, fun k => ?_, fun k hk => ?_, h.bd2 _ (Nat.le_refl _)⟩
  · skip
    by_cases e : k = m + 1
    · rw [if_pos e, e]; exact hcost
    · rw [if_neg e]; exact h.new k (by omega) h4 h5
  · skip
    rw [if_neg (by omega)]
    exact h.old k (by omega) h4 h5 h6
  · rw [Nat.add_sub_cancel]
    exact h.old (m + 1) (Nat.le_refl _) (by omega) hj (by omega)
  · skip
    by_cases e : k = m + 1
    · rw [if_pos e]; omega
    · rw [if_neg e]
      have := h.bst2 k h4 h5 (by omega)
      omega
  · skip
    split
    · exact hbd
    · exact h.bd k
  · skip
    rw [if_neg (by omega)]
    exact h.bd2 k (by omega)

theorem mid_end {a b : List Int} {l i j : Nat} {c : Nat → Nat} {corner best : Nat} (h : Mid a b l i j c corner best) (hj : ¬ (j ≤ b.length ∧ j ≤ i + 1 + l)) : Row a b l (i + 1) c :=
  ⟨fun k h1 h2 h3 => h.new k (by omega) (by omega) h1, fun k => by have := h.bd k; omega⟩

/-- a row that is greater than the limit ends it -/
theorem mid_stop {a b : List Int} {l i j : Nat} {c : Nat → Nat} {corner best : Nat} (h : Mid a b l i j c corner best) (hi : i < a.length) (hj : ¬ (j ≤ b.length ∧ j ≤ i + 1 + l)) (hb : l < best) (h0 : 0 < i + 1 - l ∨ l < i + 1) : l < lev a b := by
  refine lev_gt a b (i + 1) l hi fun k hk => ?_
  have hd := D_band a b (i + 1) k hi hk
  by_cases h1 : 1 ≤ k ∧ i + 1 ≤ k + l ∧ k < j
  · have h2 := h.bst2 k h1.1 h1.2.1 h1.2.2
    have h3 := h.new k h1.2.2 (by omega) hk
    omega
  · omega

theorem row_full {a b : List Int} {l : Nat} {c : Nat → Nat} (h : Row a b l a.length c) (hn : a.length ≤ b.length) (hl : b.length ≤ a.length + l) : min (c b.length) (l + 1) = min (lev a b) (l + 1) := by
  rw [h.ok b.length (Nat.le_refl _) hl (by omega), D_full]

theorem far (a b : List Int) (l : Nat) (h : l < b.length - a.length) : min (lev a b) (l + 1) = l + 1 := by
  have := (lev_lens a b).2
  omega
end Go.Proofs.Ytgmnjiiommbjaaa.lev
