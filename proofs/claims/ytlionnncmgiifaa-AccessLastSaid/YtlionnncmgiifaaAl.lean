/- law 42: AccessLast: what the last rule does, as lists; and the regions that append a rule and ask. -/
import Derived.Test.YtlionnncmgiifaaAk
import Derived.Deep.RegionHeld3
set_option linter.unusedVariables false
set_option linter.unusedSimpArgs false
namespace Go.Proofs.Ytlionnncmgiifaa.acc
open Go.RowKit Go.Proofs.Ytlionnncmgiifaa.dice Go.Proofs.Ytlionnncmgiifaa.full

theorem may_last (ps : List Perm) (p : Perm) (u : ByteArray) (t c : Int) (h : hit u t c p = true) : may (ps ++ [p]) u t c = p.a := by
  simp [may, h]

theorem may_none (ps qs : List Perm) (u : ByteArray) (t c : Int) (h : ∀ q ∈ qs, hit u t c q = false) : may (ps ++ qs) u t c = may ps u t c := by
  unfold may
  rw [List.reverse_append, List.find?_append, List.find?_eq_none.2 (fun q hq => by simp [h q (List.mem_reverse.1 hq)])]
  rfl

/-- the rules of one user -/
def mine (ps : List Perm) (u : ByteArray) : List Perm := ps.filter fun p => decide (p.u = u)

theorem find_filter {α : Type} (l : List α) (f g : α → Bool) (h : ∀ x, f x = true → g x = true) : (l.filter g).find? f = l.find? f := by
  induction l with
  | nil => rfl
  | cons a l ih =>
    by_cases hg : g a = true
    · rw [List.filter_cons_of_pos hg, List.find?_cons, List.find?_cons, ih]
    · have hf : f a = false := by
        cases e : f a
        · rfl
        · exact absurd (h a e) hg
      rw [List.filter_cons_of_neg hg, ih, List.find?_cons, hf]

theorem may_mine (ps : List Perm) (u : ByteArray) (t c : Int) : may (mine ps u) u t c = may ps u t c := by
  unfold may mine
  rw [← List.filter_reverse, find_filter _ _ _ (fun p hp => by simp only [hit, Bool.and_eq_true] at hp; exact hp.1.1)]

theorem may_other (ps : List Perm) (u v : ByteArray) (t c : Int) (hne : u ≠ v) : may (mine ps u) v t c = false := by
  unfold may
  rw [List.find?_eq_none.2]
  intro p hp
  have h1 : p.u = u := by simpa [mine] using (List.mem_filter.1 (List.mem_reverse.1 hp)).2
  have h2 : ¬ u = v := hne
  simp [hit, h1, h2]

theorem mine_snoc (ps : List Perm) (k : Nat) (p : Perm) (u : ByteArray) (h : ps[k]? = some p) : mine (ps.take (k + 1)) u = mine (ps.take k) u ++ (if p.u = u then [p] else []) := by
  unfold mine
  rw [List.take_add_one, h, List.filter_append]
  congr 1
  by_cases e : p.u = u <;> simp [e]

theorem mine_len (ps : List Perm) (u : ByteArray) : (mine ps u).length ≤ ps.length := List.length_filter_le _ _

/-- the user of the law -/
def U : ByteArray := ⟨#[117]⟩
theorem hit_all (a : Bool) (T C : Int) : hit U T C ⟨U, a, 0, -1⟩ = true := by simp [hit]
theorem hit_both (a : Bool) (T C : Int) : hit U T C ⟨U, a, T, C⟩ = true := by simp [hit]
theorem hit_table (a : Bool) (T C : Int) : hit U T C ⟨U, a, T, -1⟩ = true := by simp [hit]
theorem hit_column (a : Bool) (T C : Int) : hit U T C ⟨U, a, 0, C⟩ = true := by simp [hit]
theorem miss_user (a : Bool) (T C : Int) : hit U T C ⟨⟨#[119]⟩, a, 0, -1⟩ = false := by
  have : ¬ (⟨#[119]⟩ : ByteArray) = U := by decide
  simp [hit, this]
theorem miss_table (a : Bool) (T C : Int) (h : 0 ≤ T) : hit U T C ⟨U, a, T + 1, -1⟩ = false := by
  have h1 : ¬ T + 1 = 0 := by omega
  simp [hit, h1]
  omega
theorem miss_column (a : Bool) (T C : Int) (h : 0 ≤ C) : hit U T C ⟨U, a, T, C + 1⟩ = false := by
  have h1 : ¬ C + 1 = -1 := by omega
  simp [hit, h1]
  omega
end Go.Proofs.Ytlionnncmgiifaa.acc
