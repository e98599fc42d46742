/- lines that are put together again: plain lists. -/
import Derived.Test.YthfkkpkfkobnpaaDoorBg
import Derived.Test.YthfkkpkfkobnpaaDoorBi
set_option linter.unusedVariables false
set_option linter.unusedSimpArgs false
namespace Go.Proofs.YthfkkpkfkobnpaaDoor.tx
open Go.RowKit Go.Proofs.YthfkkpkfkobnpaaDoor.txt

theorem linesFrom_enough (f : Nat) : ∀ (l : List UInt8) (f' : Nat), l.length ≤ f → l.length ≤ f' → linesFrom f l = linesFrom f' l := by
  induction f with
  | zero =>
    intro l f' h _
    obtain rfl := List.eq_nil_of_length_eq_zero (Nat.le_zero.1 h)
    rw [linesFrom_nil, linesFrom_nil]
  | succ f ih =>
    intro l f' h h'
    by_cases hl : l = []
    · subst hl; rw [linesFrom_nil, linesFrom_nil]
    · have hp := List.length_pos_iff.2 hl
      obtain ⟨f2, rfl⟩ : ∃ k, f' = k + 1 := ⟨f' - 1, by omega⟩
      rcases nl_cases l with hk | ⟨k, hk, hkl⟩
      · rw [linesFrom_miss _ l hl hk h, linesFrom_miss _ l hl hk h']
      · rw [linesFrom_hit f l k hl hk, linesFrom_hit f2 l k hl hk, ih _ f2 (by simp; omega) (by simp; omega)]

theorem nl_at (x rest : List UInt8) (h : ∀ b ∈ x, b ≠ 10) : nl (x ++ 10 :: rest) = x.length := by
  induction x with
  | nil => rfl
  | cons b x ih =>
    have hb : (b == 10) = false := by simpa using h b (by simp)
    have ih' := ih (fun c hc => h c (by simp [hc]))
    unfold nl at *
    rw [List.cons_append, Lib.indexByte, hb, ih']
    have : ((x.length : Int) == -1) = false := by simp
    simp [this]

/-- a line with its end -/
def lineEnd (crlf : Bool) : List UInt8 := if crlf then [13, 10] else [10]
/-- lines that are put together -/
def joined (crlf : Bool) (xs : List (List UInt8)) : List UInt8 := xs.flatMap fun x => x ++ lineEnd crlf
def PlL (x : List UInt8) : Prop := ∀ b ∈ x, b ≠ 10 ∧ b ≠ 13

theorem chop_same (x : List UInt8) (h : PlL x) : chop x = x := by
  unfold chop Lib.trimSuffix
  rw [if_neg]
  intro hs
  obtain ⟨t, ht⟩ := List.isSuffixOf_iff_suffix.1 hs
  exact (h 13 (by rw [← ht]; simp)).2 rfl
theorem chop_cr (x : List UInt8) : chop (x ++ [13]) = x := by
  unfold chop Lib.trimSuffix
  have hs : Lib.hasSuffix (x ++ [13]) [13] = true := by
    unfold Lib.hasSuffix
    exact List.isSuffixOf_iff_suffix.2 ⟨x, rfl⟩
  rw [if_pos hs]
  simp

theorem lines_cons (crlf : Bool) (x rest : List UInt8) (h : PlL x) : lines (x ++ lineEnd crlf ++ rest) = x :: lines rest := by
  obtain ⟨y, hy, hy10, hch⟩ : ∃ y, x ++ lineEnd crlf ++ rest = y ++ 10 :: rest ∧ (∀ b ∈ y, b ≠ 10) ∧ chop y = x := by
    cases crlf
    · exact ⟨x, by simp [lineEnd], fun b hb => (h b hb).1, chop_same x h⟩
    · refine ⟨x ++ [13], by simp [lineEnd], fun b hb => ?_, chop_cr x⟩
      rcases List.mem_append.1 hb with hb | hb
      · exact (h b hb).1
      · rw [List.mem_singleton.1 hb]; decide
  rw [hy]
  have hn := nl_at y rest hy10
  unfold lines
  have hne : y ++ 10 :: rest ≠ [] := by simp
  obtain ⟨f, hf⟩ : ∃ f, (y ++ 10 :: rest).length = f + 1 := ⟨y.length + rest.length, by simp; omega⟩
  rw [hf, linesFrom_hit f _ y.length hne hn]
  have e1 : (y ++ 10 :: rest).take y.length = y := by simp
  have e2 : (y ++ 10 :: rest).drop (y.length + 1) = rest := by rw [← List.drop_drop]; simp
  rw [e1, e2, hch, linesFrom_enough f rest rest.length (by simp at hf; omega) (Nat.le_refl _)]

theorem lines_joined (crlf : Bool) (xs : List (List UInt8)) (rest : List UInt8) (h : ∀ x ∈ xs, PlL x) : lines (joined crlf xs ++ rest) = xs ++ lines rest := by
  induction xs with
  | nil => rfl
  | cons x xs ih =>
    have e : joined crlf (x :: xs) ++ rest = x ++ lineEnd crlf ++ (joined crlf xs ++ rest) := by simp [joined]
    rw [e, lines_cons crlf x _ (h x (by simp)), ih (fun y hy => h y (by simp [hy]))]
    rfl
theorem lines_none : lines [] = [] := rfl
theorem lines_last : lines [108, 97, 115, 116] = [[108, 97, 115, 116]] := by decide
end Go.Proofs.YthfkkpkfkobnpaaDoor.tx
