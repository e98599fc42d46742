/- The reference: Parts of a decimal. -/
import Derived.Test.YtfnfnagdecpobaaDoorHe
import Derived.Test.YtfnfnagdecpobaaDoorMem
set_option linter.unusedSimpArgs false
namespace Go.Proofs.YtfnfnagdecpobaaDoor.pd
open Go.RowKit Go.Proofs.YtfnfnagdecpobaaDoor.fm Go.Proofs.YtfnfnagdecpobaaDoor.mem Go.Proofs.YtfnfnagdecpobaaDoor.ge Go.Proofs.YtfnfnagdecpobaaDoor.he

/-- A text that is no decimal. -/
def NotDec (s : ByteArray) : Prop := 26 < s.size ∨ ∃ f b p, CutAns (bodyB s) f b p ∧ (isNum f 15 && (!p || isNum b 9)) = false

def PartsIs (s : ByteArray) (n : Bool) (f b : ByteArray) (o : Bool) : Prop :=
  (o = false ∧ n = false ∧ f = ByteArray.empty ∧ b = ByteArray.empty ∧ NotDec s) ∨
  (o = true ∧ n = headIs s 45 ∧ s.size ≤ 26 ∧ isNum f 15 = true ∧ ((b = ByteArray.empty ∧ CutAns (bodyB s) f b false) ∨ (isNum b 9 = true ∧ CutAns (bodyB s) f b true)))

theorem data_len (t : ByteArray) : t.data.toList.length = t.size := by rw [Array.length_toList]; rfl

theorem extract_data (t : ByteArray) (i j : Nat) : (t.extract i j).data.toList = (t.data.toList.drop i).take (j - i) := by
  rw [ByteArray.data_extract, Array.toList_extract, List.extract_eq_take_drop]

theorem not_point {l : List UInt8} (h : l.all dig = true) : (46 : UInt8) ∉ l := fun hm => by
  have := List.all_eq_true.1 h 46 hm
  revert this
  decide

/-- a text of digits alone, up to a byte that is none and no point -/
theorem cut_other {t : ByteArray} {k : Nat} {x : UInt8} (hk : (t.data.toList.take k).all dig = true) (hx : t.data.toList[k]? = some x) (h46 : x ≠ 46) (hd : dig x = false) :
    ∃ f b p, CutAns t f b p ∧ isNum f 15 = false := by
  by_cases hp : (46 : UInt8) ∈ t.data.toList
  · -- the first point
    have key : ∀ (l : List UInt8), (46 : UInt8) ∈ l → ∃ j, l[j]? = some 46 ∧ (46 : UInt8) ∉ l.take j := by
      intro l
      induction l with
      | nil => intro h; exact absurd h (by simp)
      | cons y l ih =>
        intro h
        by_cases hy : y = 46
        · exact ⟨0, by rw [hy]; rfl, by simp⟩
        · obtain ⟨j, h1, h2⟩ := ih ((List.mem_cons.1 h).resolve_left (fun e => hy e.symm))
          exact ⟨j + 1, by simpa using h1, by rw [List.take_succ_cons, List.mem_cons]; exact fun h => h.elim (fun e => hy e.symm) h2⟩
    obtain ⟨j, h1, h2⟩ := key _ hp
    have hjl : j < t.size := by rw [← data_len]; exact (List.getElem?_eq_some_iff.1 h1).1
    have hkj : k < j := by
      rcases Nat.lt_trichotomy k j with h | h | h
      · exact h
      · exfalso
        subst h
        rw [hx] at h1
        exact h46 (Option.some.inj h1)
      · exfalso
        have : (46 : UInt8) ∈ t.data.toList.take k := List.mem_of_getElem? (i := j) (by rw [List.getElem?_take, if_pos h]; exact h1)
        exact not_point hk this
    refine ⟨_, _, true, Or.inr ⟨rfl, j, hjl, h1, h2, rfl, rfl⟩, not_num (k := k) (x := x) ?_ hd⟩
    rw [extract_data, List.drop_zero, List.getElem?_take, if_pos (by omega)]
    exact hx
  · exact ⟨t, _, false, Or.inl ⟨rfl, rfl, rfl, hp⟩, not_num hx hd⟩

theorem num_of {f : ByteArray} {m : Nat} (h1 : 1 ≤ f.size) (h2 : f.size ≤ m) (h3 : f.data.toList.all dig = true) : isNum f m = true := by
  unfold isNum
  rw [decide_eq_true h1, decide_eq_true h2, h3]; rfl

theorem num_size {f : ByteArray} {m : Nat} (h : ¬ (1 ≤ f.size ∧ f.size ≤ m)) : isNum f m = false := by
  unfold isNum
  by_cases h1 : 1 ≤ f.size
  · rw [decide_eq_false (show ¬ f.size ≤ m by omega)]; simp
  · rw [decide_eq_false h1]; rfl

theorem ex0_size (t : ByteArray) (k : Nat) (h : k ≤ t.size) : (t.extract 0 k).size = k := by rw [ByteArray.size_extract]; omega
theorem ex1_size (t : ByteArray) (k : Nat) : (t.extract k t.size).size = t.size - k := by rw [ByteArray.size_extract]; omega

theorem cut_point {t : ByteArray} {k : Nat} (hk : (t.data.toList.take k).all dig = true) (hx : t.data.toList[k]? = some 46) : CutAns t (t.extract 0 k) (t.extract (k + 1) t.size) true :=
  Or.inr ⟨rfl, k, by rw [← data_len]; exact (List.getElem?_eq_some_iff.1 hx).1, hx, not_point hk, rfl, rfl⟩

theorem cut_whole {t : ByteArray} (hk : t.data.toList.all dig = true) : CutAns t t ByteArray.empty false := Or.inl ⟨rfl, rfl, rfl, not_point hk⟩

theorem digits_only (t : ByteArray) (k : Nat) : (t.extract 0 k).data.toList = t.data.toList.take k := by rw [extract_data, List.drop_zero, Nat.sub_zero]

/-- no digit in front -/
theorem bad_front {t : ByteArray} {k : Nat} (hk : (t.data.toList.take k).all dig = true) (hend : t.size ≤ k ∨ ∃ x, t.data.toList[k]? = some x ∧ dig x = false) (hks : k ≤ t.size) (hb : k < 1 ∨ 15 < k) :
    ∃ f b p, CutAns t f b p ∧ (isNum f 15 && (!p || isNum b 9)) = false := by
  rcases hend with h | ⟨x, hx, hd⟩
  · obtain rfl : k = t.size := by omega
    rw [List.take_of_length_le (by rw [data_len]; exact Nat.le_refl _)] at hk
    exact ⟨_, _, _, cut_whole hk, by rw [num_size (by omega)]; rfl⟩
  · by_cases h46 : x = 46
    · subst h46
      exact ⟨_, _, _, cut_point hk hx, by rw [num_size (by rw [ex0_size t k hks]; omega)]; rfl⟩
    · obtain ⟨f, b, p, h1, h2⟩ := cut_other hk hx h46 hd
      exact ⟨f, b, p, h1, by rw [h2]; rfl⟩

end Go.Proofs.YtfnfnagdecpobaaDoor.pd
