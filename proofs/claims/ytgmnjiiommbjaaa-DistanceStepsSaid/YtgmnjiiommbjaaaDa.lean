/- The edit distance of two lists: alignments, the recurrence, the triangle. No program here. -/
import Derived.WalkKit
set_option linter.unusedVariables false
set_option linter.unusedSimpArgs false
namespace Go.Proofs.Ytgmnjiiommbjaaa.lev

/-- an alignment of two lists, with its cost -/
inductive Al : List Int → List Int → Nat → Prop
  | nil : Al [] [] 0
  | ins {a b n} (y : Int) : Al a b n → Al a (y :: b) (n + 1)
  | del {a b n} (x : Int) : Al a b n → Al (x :: a) b (n + 1)
  | sub {a b n} (x y : Int) : Al a b n → Al (x :: a) (y :: b) (n + 1)
  | keep {a b n} (x : Int) : Al a b n → Al (x :: a) (x :: b) n

/-- the edit distance -/
def lev : List Int → List Int → Nat
  | [], b => b.length
  | x :: a, [] => (x :: a).length
  | x :: a, y :: b => min (lev a b + if x = y then 0 else 1) (min (lev a (y :: b) + 1) (lev (x :: a) b + 1))
termination_by a b => a.length + b.length

theorem lev_nil (b : List Int) : lev [] b = b.length := by rw [lev]
theorem lev_nil' (a : List Int) : lev a [] = a.length := by
  cases a with
  | nil => rw [lev]
  | cons x a => rw [lev]
theorem lev_cons (x y : Int) (a b : List Int) : lev (x :: a) (y :: b) = min (lev a b + if x = y then 0 else 1) (min (lev a (y :: b) + 1) (lev (x :: a) b + 1)) := by rw [lev]

theorem al_nil : ∀ b : List Int, Al [] b b.length
  | [] => .nil
  | y :: b => .ins y (al_nil b)
theorem al_nil' : ∀ a : List Int, Al a [] a.length
  | [] => .nil
  | x :: a => .del x (al_nil' a)

theorem al_lev (n : Nat) : ∀ a b : List Int, a.length + b.length ≤ n → Al a b (lev a b) := by
  induction n with
  | zero =>
    intro a b h
    obtain rfl := List.eq_nil_of_length_eq_zero (by omega : a.length = 0)
    rw [lev_nil]
    exact al_nil b
  | succ n ih =>
    intro a b h
    cases a with
    | nil => rw [lev_nil]; exact al_nil b
    | cons x a =>
      cases b with
      | nil => rw [lev_nil']; exact al_nil' _
      | cons y b =>
        simp only [List.length_cons] at h
        rw [lev_cons]
        have h1 := ih a b (by omega)
        have h2 := ih a (y :: b) (by rw [List.length_cons]; omega)
        have h3 := ih (x :: a) b (by rw [List.length_cons]; omega)
        by_cases e : x = y
        · subst e
          rw [if_pos rfl, Nat.add_zero]
          rcases Nat.le_total (lev a b) (min (lev a (x :: b) + 1) (lev (x :: a) b + 1)) with h4 | h4
          · rw [Nat.min_eq_left h4]; exact .keep x h1
          · rw [Nat.min_eq_right h4]
            rcases Nat.le_total (lev a (x :: b) + 1) (lev (x :: a) b + 1) with h5 | h5
            · rw [Nat.min_eq_left h5]; exact .del x h2
            · rw [Nat.min_eq_right h5]; exact .ins x h3
        · rw [if_neg e]
          rcases Nat.le_total (lev a b + 1) (min (lev a (y :: b) + 1) (lev (x :: a) b + 1)) with h4 | h4
          · rw [Nat.min_eq_left h4]; exact .sub x y h1
          · rw [Nat.min_eq_right h4]
            rcases Nat.le_total (lev a (y :: b) + 1) (lev (x :: a) b + 1) with h5 | h5
            · rw [Nat.min_eq_left h5]; exact .del x h2
            · rw [Nat.min_eq_right h5]; exact .ins y h3
theorem al_of (a b : List Int) : Al a b (lev a b) := al_lev _ a b (Nat.le_refl _)

theorem lev_le {a b : List Int} {n : Nat} (h : Al a b n) : lev a b ≤ n := by
  induction h with
  | nil => rw [lev_nil]; exact Nat.le_refl _
  | @ins a b n y h ih =>
    cases a with
    | nil => rw [lev_nil] at ih ⊢; rw [List.length_cons]; omega
    | cons x a => rw [lev_cons]; omega
  | @del a b n x h ih =>
    cases b with
    | nil => rw [lev_nil'] at ih ⊢; rw [List.length_cons]; omega
    | cons y b => rw [lev_cons]; omega
  | @sub a b n x y h ih =>
    rw [lev_cons]
    split <;> omega
  | @keep a b n x h ih =>
    rw [lev_cons, if_pos rfl]
    omega

theorem al_symm {a b : List Int} {n : Nat} (h : Al a b n) : Al b a n := by
  induction h with
  | nil => exact .nil
  | ins y _ ih => exact .del y ih
  | del x _ ih => exact .ins x ih
  | sub x y _ ih => exact .sub y x ih
  | keep x _ ih => exact .keep x ih
theorem lev_symm (a b : List Int) : lev a b = lev b a :=
  Nat.le_antisymm (lev_le (al_symm (al_of b a))) (lev_le (al_symm (al_of a b)))

theorem al_append {a b : List Int} {n : Nat} (h : Al a b n) {c d : List Int} {m : Nat} (h' : Al c d m) : Al (a ++ c) (b ++ d) (n + m) := by
  induction h with
  | nil => rw [Nat.zero_add]; exact h'
  | @ins a b n y _ ih => rw [show n + 1 + m = n + m + 1 by omega]; exact .ins y ih
  | @del a b n x _ ih => rw [show n + 1 + m = n + m + 1 by omega]; exact .del x ih
  | @sub a b n x y _ ih => rw [show n + 1 + m = n + m + 1 by omega]; exact .sub x y ih
  | keep x _ ih => exact .keep x ih
theorem al_reverse {a b : List Int} {n : Nat} (h : Al a b n) : Al a.reverse b.reverse n := by
  induction h with
  | nil => exact .nil
  | ins y _ ih => rw [List.reverse_cons]; have := al_append ih (.ins y .nil : Al [] [y] 1); rwa [List.append_nil] at this
  | del x _ ih => rw [List.reverse_cons]; have := al_append ih (.del x .nil : Al [x] [] 1); rwa [List.append_nil] at this
  | sub x y _ ih => rw [List.reverse_cons, List.reverse_cons]; exact al_append ih (.sub x y .nil : Al [x] [y] 1)
  | keep x _ ih => rw [List.reverse_cons, List.reverse_cons]; exact al_append ih (.keep x .nil : Al [x] [x] 0)
theorem lev_reverse (a b : List Int) : lev a.reverse b.reverse = lev a b := by
  refine Nat.le_antisymm (lev_le (al_reverse (al_of a b))) ?_
  have := lev_le (al_reverse (al_of a.reverse b.reverse))
  rwa [List.reverse_reverse, List.reverse_reverse] at this

theorem al_tail {x : Int} {a0 b : List Int} {n : Nat} (h : Al a0 b n) : ∀ a, a0 = x :: a → ∃ k, k ≤ n + 1 ∧ Al a b k := by
  induction h with
  | nil => intro a e; cases e
  | @ins a b n y h ih =>
    intro a' e
    obtain ⟨k, hk, hk2⟩ := ih a' e
    exact ⟨k + 1, by omega, .ins y hk2⟩
  | @del a b n x' h ih =>
    intro a' e
    cases e
    exact ⟨n, by omega, h⟩
  | @sub a b n x' y h ih =>
    intro a' e
    cases e
    exact ⟨n + 1, by omega, .ins y h⟩
  | @keep a b n x' h ih =>
    intro a' e
    cases e
    exact ⟨n + 1, by omega, .ins x h⟩
theorem lev_tail (x : Int) (a b : List Int) : lev a b ≤ lev (x :: a) b + 1 := by
  obtain ⟨k, hk, h⟩ := al_tail (al_of (x :: a) b) a rfl
  exact Nat.le_trans (lev_le h) hk
theorem lev_tail' (y : Int) (a b : List Int) : lev a b ≤ lev a (y :: b) + 1 := by
  rw [lev_symm a b, lev_symm a]
  exact lev_tail y b a

theorem lev_same (x : Int) (a b : List Int) : lev (x :: a) (x :: b) = lev a b := by
  have h1 := lev_tail x a b
  have h2 := lev_tail' x a b
  rw [lev_cons, if_pos rfl]
  have h3 := lev_tail x a (x :: b)
  have h4 := lev_tail' x (x :: a) b
  omega
theorem lev_diff (x y : Int) (a b : List Int) (h : x ≠ y) : lev (x :: a) (y :: b) = 1 + min (lev a b) (min (lev a (y :: b)) (lev (x :: a) b)) := by
  rw [lev_cons, if_neg h]
  omega
theorem lev_snoc (x : Int) (a b : List Int) : lev (a ++ [x]) (b ++ [x]) = lev a b := by
  rw [← lev_reverse, List.reverse_append, List.reverse_append]
  show lev (x :: a.reverse) (x :: b.reverse) = _
  rw [lev_same, lev_reverse]

theorem al_lens {a b : List Int} {n : Nat} (h : Al a b n) : a.length ≤ b.length + n ∧ b.length ≤ a.length + n := by
  induction h <;> simp only [List.length_cons, List.length_nil] at * <;> omega
theorem lev_lens (a b : List Int) : a.length ≤ b.length + lev a b ∧ b.length ≤ a.length + lev a b := al_lens (al_of a b)
theorem lev_max (a : List Int) : ∀ b : List Int, lev a b ≤ max a.length b.length := by
  induction a with
  | nil => intro b; rw [lev_nil]; simp
  | cons x a ih =>
    intro b
    cases b with
    | nil => rw [lev_nil']; simp
    | cons y b =>
      have := ih b
      rw [lev_cons]
      simp only [List.length_cons]
      split <;> omega
theorem lev_self (a : List Int) : lev a a = 0 := by
  induction a with
  | nil => rw [lev_nil]; rfl
  | cons x a ih => rw [lev_same, ih]
theorem al_zero {a b : List Int} {n : Nat} (h : Al a b n) : n = 0 → a = b := by
  induction h with
  | nil => intro _; rfl
  | ins y _ _ => intro e; cases e
  | del x _ _ => intro e; cases e
  | sub x y _ _ => intro e; cases e
  | keep x _ ih => intro e; rw [ih e]
theorem lev_zero (a b : List Int) : lev a b = 0 ↔ a = b :=
  ⟨fun h => al_zero (al_of a b) h, fun h => by rw [h, lev_self]⟩

theorem al_trans {a b : List Int} {n : Nat} (h : Al a b n) : ∀ {c : List Int} {m : Nat}, Al b c m → ∃ k, k ≤ n + m ∧ Al a c k := by
  induction h with
  | nil => intro c m h; exact ⟨m, by omega, h⟩
  | @del a b n x h ih =>
    intro c m h'
    obtain ⟨k, hk, hk2⟩ := ih h'
    exact ⟨k + 1, by omega, .del x hk2⟩
  | @ins a b n y h ih =>
    intro c m h'
    obtain ⟨k, hk, hk2⟩ := al_tail h' b rfl
    obtain ⟨j, hj, hj2⟩ := ih hk2
    exact ⟨j, by omega, hj2⟩
  | @sub a b n x y h ih =>
    intro c m h'
    generalize hb : y :: b = b0 at h'
    induction h' with
    | nil => cases hb
    | @ins b0 c m z h' ih' =>
      obtain ⟨k, hk, hk2⟩ := ih' hb
      exact ⟨k + 1, by omega, .ins z hk2⟩
    | @del b0 c m z h' _ =>
      cases hb
      obtain ⟨k, hk, hk2⟩ := ih h'
      exact ⟨k + 1, by omega, .del x hk2⟩
    | @sub b0 c m z u h' _ =>
      cases hb
      obtain ⟨k, hk, hk2⟩ := ih h'
      exact ⟨k + 1, by omega, .sub x u hk2⟩
    | @keep b0 c m z h' _ =>
      cases hb
      obtain ⟨k, hk, hk2⟩ := ih h'
      exact ⟨k + 1, by omega, .sub x y hk2⟩
  | @keep a b n x h ih =>
    intro c m h'
    generalize hb : x :: b = b0 at h'
    induction h' with
    | nil => cases hb
    | @ins b0 c m z h' ih' =>
      obtain ⟨k, hk, hk2⟩ := ih' hb
      exact ⟨k + 1, by omega, .ins z hk2⟩
    | @del b0 c m z h' _ =>
      cases hb
      obtain ⟨k, hk, hk2⟩ := ih h'
      exact ⟨k + 1, by omega, .del x hk2⟩
    | @sub b0 c m z u h' _ =>
      cases hb
      obtain ⟨k, hk, hk2⟩ := ih h'
      exact ⟨k + 1, by omega, .sub x u hk2⟩
    | @keep b0 c m z h' _ =>
      cases hb
      obtain ⟨k, hk, hk2⟩ := ih h'
      exact ⟨k, by omega, .keep x hk2⟩
theorem lev_triangle (a b c : List Int) : lev a c ≤ lev a b + lev b c := by
  obtain ⟨k, hk, h⟩ := al_trans (al_of a b) (al_of b c)
  exact Nat.le_trans (lev_le h) hk

/-- the distance of two beginnings -/
def D (a b : List Int) (i j : Nat) : Nat := lev (a.take i) (b.take j)
theorem take_rev (a : List Int) (i : Nat) (x : Int) (h : a[i]? = some x) : (a.take (i + 1)).reverse = x :: (a.take i).reverse := by
  rw [List.take_add_one, h]
  simp
theorem D_zero (a b : List Int) (j : Nat) (hj : j ≤ b.length) : D a b 0 j = j := by
  unfold D
  rw [List.take_zero, lev_nil, List.length_take]
  omega
theorem D_zero' (a b : List Int) (i : Nat) (hi : i ≤ a.length) : D a b i 0 = i := by
  unfold D
  rw [List.take_zero, lev_nil', List.length_take]
  omega
theorem D_same (a b : List Int) (i j : Nat) (x : Int) (ha : a[i]? = some x) (hb : b[j]? = some x) : D a b (i + 1) (j + 1) = D a b i j := by
  unfold D
  rw [← lev_reverse, take_rev a i x ha, take_rev b j x hb, lev_same, lev_reverse]
theorem D_diff (a b : List Int) (i j : Nat) (x y : Int) (ha : a[i]? = some x) (hb : b[j]? = some y) (h : x ≠ y) : D a b (i + 1) (j + 1) = 1 + min (D a b i j) (min (D a b i (j + 1)) (D a b (i + 1) j)) := by
  unfold D
  rw [← lev_reverse, take_rev a i x ha, take_rev b j y hb, lev_diff _ _ _ _ h, lev_reverse, ← take_rev b j y hb, lev_reverse, ← take_rev a i x ha, lev_reverse]
theorem D_band (a b : List Int) (i j : Nat) (hi : i ≤ a.length) (hj : j ≤ b.length) : i ≤ j + D a b i j ∧ j ≤ i + D a b i j := by
  have := lev_lens (a.take i) (b.take j)
  rw [List.length_take, List.length_take] at this
  unfold D
  omega
/-- each row has an element that is not greater than a given one of the next row -/
theorem D_row (a b : List Int) (i : Nat) (hi : i < a.length) (j : Nat) (hj : j ≤ b.length) : ∃ k, k ≤ b.length ∧ D a b i k ≤ D a b (i + 1) j := by
  obtain ⟨x, hx⟩ : ∃ x, a[i]? = some x := ⟨_, List.getElem?_eq_getElem hi⟩
  induction j with
  | zero => exact ⟨0, Nat.zero_le _, by rw [D_zero' a b i (by omega), D_zero' a b (i + 1) hi]; omega⟩
  | succ j ih =>
    obtain ⟨y, hy⟩ : ∃ y, b[j]? = some y := ⟨_, List.getElem?_eq_getElem hj⟩
    by_cases e : x = y
    · subst e
      exact ⟨j, by omega, by rw [D_same a b i j x hx hy]; exact Nat.le_refl _⟩
    · obtain ⟨k, hk, hk2⟩ := ih (by omega)
      rw [D_diff a b i j x y hx hy e]
      rcases Nat.le_total (D a b i j) (min (D a b i (j + 1)) (D a b (i + 1) j)) with h | h
      · exact ⟨j, by omega, by omega⟩
      · rcases Nat.le_total (D a b i (j + 1)) (D a b (i + 1) j) with h2 | h2
        · exact ⟨j + 1, hj, by omega⟩
        · exact ⟨k, hk, by omega⟩
theorem D_rows (a b : List Int) (i : Nat) (d : Nat) : ∀ j, i + d ≤ a.length → j ≤ b.length → ∃ k, k ≤ b.length ∧ D a b i k ≤ D a b (i + d) j := by
  induction d with
  | zero => intro j h hj; exact ⟨j, hj, Nat.le_refl _⟩
  | succ d ih =>
    intro j h hj
    obtain ⟨k, hk, hk2⟩ := D_row a b (i + d) (by omega) j hj
    obtain ⟨k', hk', hk2'⟩ := ih k (by omega) hk
    exact ⟨k', hk', Nat.le_trans hk2' hk2⟩
theorem D_full (a b : List Int) : D a b a.length b.length = lev a b := by unfold D; rw [List.take_length, List.take_length]
/-- where a row is greater than the limit, the distance is -/
theorem lev_gt (a b : List Int) (i lim : Nat) (hi : i ≤ a.length) (h : ∀ k, k ≤ b.length → lim < D a b i k) : lim < lev a b := by
  obtain ⟨k, hk, hk2⟩ := D_rows a b i (a.length - i) b.length (by omega) (Nat.le_refl _)
  rw [show i + (a.length - i) = a.length by omega, D_full] at hk2
  have := h k hk
  omega
end Go.Proofs.Ytgmnjiiommbjaaa.lev
