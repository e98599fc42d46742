/- Lists of texts: ascending ones are told by their members; sorted and compacted ones ascend. No program here. -/
import Derived.Lib.SlicesCompact
import Derived.Sort.KeysCollected
set_option linter.unusedVariables false
set_option linter.unusedSimpArgs false
namespace Go.Proofs.Ytgmnjiiommbjaaa.txt

/-- a list in ascending order, without equals -/
def asc (l : List (List UInt8)) : Prop := l.Pairwise (· < ·)

theorem lt_of_le_ne {a b : List UInt8} (h : a ≤ b) (hn : a ≠ b) : a < b := by
  by_cases h2 : a < b
  · exact h2
  · exact absurd (List.le_antisymm h (List.not_lt.1 h2)) hn

theorem ne_of_lt {a b : List UInt8} (h : a < b) : a ≠ b := fun e => List.lt_irrefl b (e ▸ h)

theorem asc_ext {l m : List (List UInt8)} (hl : asc l) (hm : asc m) (h : ∀ x, x ∈ l ↔ x ∈ m) : l = m := by
  have nl : l.Nodup := hl.imp fun {a b} h => ne_of_lt h
  have nm : m.Nodup := hm.imp fun {a b} h => ne_of_lt h
  refine List.Perm.eq_of_pairwise (le := fun a b => a < b) (fun a b _ _ h1 h2 => ?_) hl hm ((List.perm_ext_iff_of_nodup nl nm).2 h)
  exact absurd (List.lt_trans h1 h2) (List.lt_irrefl a)

/-- what slices.Sort and slices.Compact make of a list -/
def setOf (l : List (List UInt8)) : List (List UInt8) := Lib.compact (l.mergeSort fun x y => decide (x ≤ y))

theorem sorted_of (l : List (List UInt8)) : (l.mergeSort fun x y => decide (x ≤ y)).Pairwise (· ≤ ·) := by
  have tr : ∀ a b c : List UInt8, decide (a ≤ b) = true → decide (b ≤ c) = true → decide (a ≤ c) = true := fun a b c h1 h2 => by simp only [decide_eq_true_eq] at *; exact List.le_trans h1 h2
  have to : ∀ a b : List UInt8, (decide (a ≤ b) || decide (b ≤ a)) = true := fun a b => by simp only [Bool.or_eq_true, decide_eq_true_eq]; exact List.le_total a b
  exact (List.pairwise_mergeSort tr to l).imp fun {a b} h => by simpa using h

theorem get_le {l : List (List UInt8)} (h : l.Pairwise (· ≤ ·)) {i j : Nat} (hij : i ≤ j) (hj : j < l.length) : l[i]! ≤ l[j]! := by
  rcases Nat.eq_or_lt_of_le hij with rfl | hlt
  · exact List.le_refl _
  · rw [getElem!_pos l i (by omega), getElem!_pos l j hj]
    exact List.pairwise_iff_getElem.1 h i j (by omega) hj hlt

theorem compact_asc {l : List (List UInt8)} (h : l.Pairwise (· ≤ ·)) : asc (Lib.compact l) := by
  unfold asc Lib.compact Lib.compactUpTo
  rw [List.pairwise_map]
  have hr : ((List.range l.length).filter (Lib.keeps l.toArray)).Pairwise (· < ·) := List.pairwise_lt_range.filter _
  refine hr.imp_of_mem fun {i j} hi hj hij => ?_
  obtain ⟨_, h1⟩ := List.mem_filter.1 hi
  obtain ⟨hj2, h2⟩ := List.mem_filter.1 hj
  have hjl := List.mem_range.1 hj2
  simp only [List.getElem!_toArray]
  have hne : l[j]! ≠ l[j - 1]! := by
    have : j ≠ 0 := by omega
    simpa [Lib.keeps, this] using h2
  have h3 : l[j - 1]! < l[j]! := lt_of_le_ne (get_le h (by omega) hjl) (fun e => hne e.symm)
  exact List.lt_of_le_of_lt (get_le h (by omega) (by omega)) h3

theorem compact_mem {l : List (List UInt8)} (x : List UInt8) : x ∈ Lib.compact l ↔ x ∈ l := by
  unfold Lib.compact Lib.compactUpTo
  simp only [List.mem_map, List.mem_filter, List.mem_range, List.getElem!_toArray]
  constructor
  · rintro ⟨i, ⟨hi, _⟩, rfl⟩
    rw [getElem!_pos l i hi]
    exact List.getElem_mem _
  · intro hx
    obtain ⟨i, hi, rfl⟩ := List.getElem_of_mem hx
    clear hx
    induction i with
    | zero => exact ⟨0, ⟨hi, by simp [Lib.keeps]⟩, by rw [getElem!_pos l 0 hi]⟩
    | succ i ih =>
      by_cases e : l[i + 1]! = l[i]!
      · obtain ⟨k, hk, hk2⟩ := ih (by omega)
        refine ⟨k, hk, hk2.trans ?_⟩
        rw [getElem!_pos l _ hi, getElem!_pos l i (by omega)] at e
        exact e.symm
      · refine ⟨i + 1, ⟨hi, ?_⟩, by rw [getElem!_pos l _ hi]⟩
        have e2 : (l.toArray[i + 1]! ≠ l.toArray[i]!) := by simpa only [List.getElem!_toArray] using e
        simp only [Lib.keeps, Nat.add_sub_cancel, bne_iff_ne, Bool.or_eq_true, decide_eq_true_eq]
        exact Or.inr e2

theorem setOf_asc (l : List (List UInt8)) : asc (setOf l) := compact_asc (sorted_of l)
theorem setOf_mem (l : List (List UInt8)) (x : List UInt8) : x ∈ setOf l ↔ x ∈ l := by
  unfold setOf
  rw [compact_mem, List.mem_mergeSort]
theorem setOf_eq {l m : List (List UInt8)} (hm : asc m) (h : ∀ x, x ∈ m ↔ x ∈ l) : setOf l = m :=
  asc_ext (setOf_asc l) hm fun x => (setOf_mem l x).trans (h x).symm
theorem setOf_set (l : List (List UInt8)) : setOf (setOf l) = setOf l := setOf_eq (setOf_asc l) fun _ => Iff.rfl
theorem setOf_length (l : List (List UInt8)) : (setOf l).length ≤ l.length := by
  unfold setOf
  unfold Lib.compact Lib.compactUpTo
  rw [List.length_map]
  refine Nat.le_trans (List.length_filter_le _ _) ?_
  rw [List.length_range, List.length_mergeSort]
  exact Nat.le_refl _

/-- each element is less than the next one -/
def ascB : List (List UInt8) → Bool
  | a :: b :: r => decide (a < b) && ascB (b :: r)
  | _ => true

theorem ascB_of {l : List (List UInt8)} (h : asc l) : ascB l = true := by
  induction l with
  | nil => rfl
  | cons a l ih =>
    cases l with
    | nil => rfl
    | cons b r =>
      simp only [ascB, Bool.and_eq_true, decide_eq_true_eq]
      exact ⟨(List.pairwise_cons.1 h).1 b (by simp), ih (List.pairwise_cons.1 h).2⟩

/-- the first k elements ascend -/
def ascTo (l : List (List UInt8)) (k : Nat) : Prop := ∀ i, i + 1 < k → l[i]! < l[i + 1]!

theorem ascB_iff (l : List (List UInt8)) : ascB l = true ↔ ascTo l l.length := by
  induction l with
  | nil => simp [ascB, ascTo]
  | cons a l ih =>
    cases l with
    | nil => simp [ascB, ascTo]
    | cons b r =>
      simp only [ascB, Bool.and_eq_true, decide_eq_true_eq, ih]
      constructor
      · rintro ⟨h1, h2⟩ i hi
        cases i with
        | zero => simpa using h1
        | succ i =>
          have := h2 i (by simp at hi ⊢; omega)
          simpa using this
      · intro h
        refine ⟨by simpa using h 0 (by simp), fun i hi => ?_⟩
        have := h (i + 1) (by simp at hi ⊢; omega)
        simpa using this

theorem ascB_false {l : List (List UInt8)} {i : Nat} (hi : i + 1 < l.length) (h : ¬ l[i]! < l[i + 1]!) : ascB l = false := by
  cases e : ascB l
  · rfl
  · exact absurd ((ascB_iff l).1 e i hi) h

/-- what the reference does with one more text -/
def put (out : List (List UInt8)) (s : List UInt8) : List (List UInt8) :=
  let k := (out.takeWhile fun x => decide (x < s)).length
  if out[k]? = some s then out else out.take k ++ s :: out.drop k

theorem put_spec {out : List (List UInt8)} (h : asc out) (s : List UInt8) (k : Nat) (hk : k ≤ out.length) (h1 : ∀ i, i < k → out[i]! < s) (h2 : k < out.length → ¬ out[k]! < s) :
    (out[k]? = some s → ∀ x, x ∈ out ↔ x ∈ out ∨ x = s) ∧ (out[k]? ≠ some s → asc (out.take k ++ s :: out.drop k) ∧ ∀ x, x ∈ out.take k ++ s :: out.drop k ↔ x ∈ out ∨ x = s) := by
  constructor
  · intro e x
    constructor
    · exact .inl
    · rintro (hx | rfl)
      · exact hx
      · exact List.mem_of_getElem? e
  · intro hne
    constructor
    · unfold asc
      rw [List.pairwise_append]
      refine ⟨h.sublist (List.take_sublist _ _), List.pairwise_cons.2 ⟨?_, h.sublist (List.drop_sublist _ _)⟩, ?_⟩
      · intro y hy
        obtain ⟨i, hi, rfl⟩ := List.getElem_of_mem hy
        rw [List.length_drop] at hi
        have hkl : k < out.length := by omega
        have hs : s < out[k]! := by
          refine lt_of_le_ne (List.not_lt.1 (h2 hkl)) ?_
          rintro rfl
          rw [getElem!_pos out k hkl] at hne
          exact hne (List.getElem?_eq_getElem hkl)
        rw [List.getElem_drop]
        rcases Nat.eq_zero_or_pos i with rfl | hp
        · rw [getElem!_pos out k hkl] at hs
          exact hs
        · refine List.lt_trans hs ?_
          rw [getElem!_pos out k hkl]
          exact List.pairwise_iff_getElem.1 h k (k + i) hkl (by omega) (by omega)
      · intro a ha b hb
        obtain ⟨i, hi, rfl⟩ := List.getElem_of_mem ha
        rw [List.length_take] at hi
        rw [List.getElem_take]
        have hai := h1 i (by omega)
        rw [getElem!_pos out i (by omega)] at hai
        rcases List.mem_cons.1 hb with rfl | hb
        · exact hai
        · obtain ⟨j, hj, rfl⟩ := List.getElem_of_mem hb
          rw [List.length_drop] at hj
          rw [List.getElem_drop]
          exact List.pairwise_iff_getElem.1 h i (k + j) (by omega) (by omega) (by omega)
    · intro x
      rw [List.mem_append, List.mem_cons]
      conv => rhs; rw [← List.take_append_drop k out, List.mem_append]
      constructor
      · rintro (h | rfl | h)
        · exact .inl (.inl h)
        · exact .inr rfl
        · exact .inl (.inr h)
      · rintro ((h | h) | rfl)
        · exact .inl h
        · exact .inr (.inr h)
        · exact .inr (.inl rfl)

end Go.Proofs.Ytgmnjiiommbjaaa.txt
