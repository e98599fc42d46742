/- DistanceWords: plain lists. -/
import Derived.Test.YtgmnjiiommbjaaaDk
import Derived.Test.YtgmnjiiommbjaaaCa
set_option linter.unusedVariables false
set_option linter.unusedSimpArgs false
namespace Go.Proofs.Ytgmnjiiommbjaaa.dist
open Go.Proofs.Ytgmnjiiommbjaaa.txt Go.Proofs.Ytgmnjiiommbjaaa.tok Go.Proofs.Ytgmnjiiommbjaaa.fold Go.Proofs.Ytgmnjiiommbjaaa.tw

theorem tk_cat (x : List UInt8) (s : UInt8) (hs : inTok s = false) (rest : List UInt8) : ∀ cur, tk cur (x ++ s :: rest) = tk cur x ++ tk [] rest := by
  induction x with
  | nil => intro cur; rw [List.nil_append, tk_cons, hs, if_neg (by decide), tk_nil]
  | cons b r ih =>
    intro cur
    rw [List.cons_append, tk_cons, tk_cons]
    split
    · exact ih _
    · rw [ih, List.append_assoc]

def catA (ys : List (List UInt8)) : List UInt8 := ys.flatMap fun t => t ++ [32]
def catB (ys : List (List UInt8)) : List UInt8 := ys.flatMap fun t => [45] ++ (t ++ [59, 32])
def allTok (ys : List (List UInt8)) : List (List UInt8) := ys.flatMap fun t => tokens (t.map low)
theorem catA_snoc (ys : List (List UInt8)) (t : List UInt8) : catA (ys ++ [t]) = catA ys ++ (t ++ [32]) := by simp [catA]
theorem catB_snoc (ys : List (List UInt8)) (t : List UInt8) : catB (ys ++ [t]) = catB ys ++ ([45] ++ (t ++ [59, 32])) := by simp [catB]

theorem tok_catA (ys : List (List UInt8)) (rest : List UInt8) : tk [] ((catA ys).map low ++ rest) = allTok ys ++ tk [] rest := by
  induction ys with
  | nil => rfl
  | cons y r ih =>
    have e : (catA (y :: r)).map low ++ rest = y.map low ++ 32 :: ((catA r).map low ++ rest) := by
      have : low 32 = 32 := rfl
      simp [catA, this]
    rw [e, tk_cat _ 32 (by decide), ih, ← tokens_tk]
    simp [allTok]
theorem tok_catB (ys : List (List UInt8)) (rest : List UInt8) : tk [] ((catB ys).map low ++ rest) = allTok ys ++ tk [] rest := by
  induction ys with
  | nil => rfl
  | cons y r ih =>
    have e : (catB (y :: r)).map low ++ rest = [] ++ 45 :: (y.map low ++ 59 :: ([] ++ 32 :: ((catB r).map low ++ rest))) := by
      have h1 : low 45 = 45 := rfl
      have h2 : low 59 = 59 := rfl
      have h3 : low 32 = 32 := rfl
      simp [catB, h1, h2, h3]
    rw [e, tk_cat [] 45 (by decide), tk_cat _ 59 (by decide), tk_cat [] 32 (by decide), ih]
    simp [allTok, tk_nil, fin, tokens_tk]

theorem setOf_congr {l m : List (List UInt8)} (h : ∀ x, x ∈ l ↔ x ∈ m) : setOf l = setOf m :=
  asc_ext (setOf_asc l) (setOf_asc m) fun x => (setOf_mem l x).trans ((h x).trans (setOf_mem m x).symm)

theorem TS_A (ys : List (List UInt8)) : TS (catA ys) = setOf (allTok ys) := by
  show setOf (tokens _) = _
  have h := tok_catA ys []
  rw [List.append_nil, tk_nil] at h
  rw [tokens_tk, h]
  simp [fin]
theorem TS_B (ys : List (List UInt8)) (e : List UInt8) (he : e = [] ∨ e ∈ ys) : TS (catB ys.reverse ++ e) = setOf (allTok ys) := by
  show setOf (tokens _) = _
  have h := tok_catB ys.reverse (e.map low)
  rw [tokens_tk, List.map_append, h]
  refine setOf_congr fun x => ?_
  rw [List.mem_append]
  have h1 : x ∈ allTok ys.reverse ↔ x ∈ allTok ys := by simp [allTok]
  rw [h1]
  constructor
  · rintro (h | h)
    · exact h
    · rw [← tokens_tk] at h
      rcases he with rfl | he
      · exact absurd h (by rw [tokens_tk]; simp [tk_nil, fin])
      · unfold allTok
        exact List.mem_flatMap.2 ⟨e, he, h⟩
  · exact .inl

theorem tk_ne {cur : List UInt8} (hc : cur ≠ []) (r : List UInt8) : tk cur r ≠ [] := by
  induction r generalizing cur with
  | nil => rw [tk_nil]; unfold fin; rw [if_neg hc]; simp
  | cons b r ih =>
    rw [tk_cons]
    split
    · exact ih (by simp)
    · unfold fin; rw [if_neg hc]; simp
theorem tk_any (l : List UInt8) (h : l.any inTok = true) : ∀ cur, tk cur l ≠ [] := by
  induction l with
  | nil => simp at h
  | cons b r ih =>
    intro cur
    rw [tk_cons]
    cases hb : inTok b
    · rw [if_neg (by decide)]
      have h2 : r.any inTok = true := by
        rw [List.any_cons, hb, Bool.false_or] at h
        exact h
      intro e
      exact ih h2 [] (List.append_eq_nil_iff.1 e).2
    · rw [if_pos rfl]
      exact tk_ne (by simp) r
theorem allTok_ne (ys : List (List UInt8)) (h : ys ≠ []) (hq : ∀ x ∈ ys, wq x = true) : 0 < (setOf (allTok ys)).length := by
  cases ys with
  | nil => exact absurd rfl h
  | cons y r =>
    have h1 := tk_any (y.map low) (wq_tok (hq y (by simp))) []
    rw [← tokens_tk] at h1
    obtain ⟨t, ht⟩ := List.exists_mem_of_ne_nil _ h1
    have h2 : t ∈ setOf (allTok (y :: r)) := (setOf_mem _ t).2 (List.mem_flatMap.2 ⟨y, by simp, ht⟩)
    exact List.length_pos_of_mem h2

theorem mergeN_self (f : Nat) : ∀ xs : List (List UInt8), xs.length ≤ f → mergeN f xs xs = xs.length := by
  induction f with
  | zero =>
    intro xs h
    rw [List.eq_nil_of_length_eq_zero (Nat.le_zero.1 h)]
    rfl
  | succ f ih =>
    intro xs h
    cases xs with
    | nil => rfl
    | cons x xs =>
      rw [List.length_cons] at h
      rw [mergeN_cons, if_neg (List.lt_irrefl x), if_neg (List.lt_irrefl x), ih xs (by omega), List.length_cons]
theorem merge_self (xs : List (List UInt8)) : merge xs xs = xs.length := mergeN_self _ xs (by omega)

/-- a capital letter for a small one -/
def up (b : UInt8) : UInt8 := if 97 ≤ b.toNat ∧ b.toNat ≤ 122 then b - 32 else b
theorem up_num (b : UInt8) (h : 97 ≤ b.toNat ∧ b.toNat ≤ 122) : (up b).toNat = b.toNat - 32 := by
  unfold up
  rw [if_pos h, UInt8.toNat_sub_of_le _ _ (by rw [UInt8.le_iff_toNat_le]; show 32 ≤ _; omega)]
  rfl
theorem low_up (b : UInt8) : low (up b) = low b := by
  by_cases h : 97 ≤ b.toNat ∧ b.toNat ≤ 122
  · have h1 := up_num b h
    have h2 := low_num (up b)
    rw [if_pos (by omega)] at h2
    have h3 := low_num b
    rw [if_neg (by omega)] at h3
    refine UInt8.toNat_inj.1 ?_
    omega
  · have : up b = b := by unfold up; rw [if_neg h]
    rw [this]
theorem TS_up (a : List UInt8) : TS (a.map up) = TS a := by
  show setOf (tokens ((a.map up).map low)) = _
  rw [List.map_map]
  have : (a.map (low ∘ up)) = a.map low := List.map_congr_left fun b _ => low_up b
  rw [this]
theorem catA_len (ys : List (List UInt8)) (h : ∀ x ∈ ys, wq x = true) : (catA ys).length ≤ 21 * ys.length := by
  induction ys with
  | nil => simp [catA]
  | cons y r ih =>
    have := ih fun x hx => h x (by simp [hx])
    have := wq_len (h y (by simp))
    have e : catA (y :: r) = (y ++ [32]) ++ catA r := by simp [catA]
    rw [e]
    simp
    omega
theorem catB_len (ys : List (List UInt8)) (h : ∀ x ∈ ys, wq x = true) : (catB ys).length ≤ 23 * ys.length := by
  induction ys with
  | nil => simp [catB]
  | cons y r ih =>
    have := ih fun x hx => h x (by simp [hx])
    have := wq_len (h y (by simp))
    have e : catB (y :: r) = ([45] ++ (y ++ [59, 32])) ++ catB r := by simp [catB]
    rw [e]
    simp
    omega
end Go.Proofs.Ytgmnjiiommbjaaa.dist
