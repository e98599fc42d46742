/- Plain mathematics for layer 1: natural numbers as lists of words of 32 bits, the least one first. No program here. -/
namespace Go.Proofs.YtfnfnagdecpobaaDoor.fm

def val : List Nat → Nat
  | [] => 0
  | x :: l => x + 4294967296 * val l

def ok (l : List Nat) : Prop := ∀ x ∈ l, x < 4294967296

def digsF : Nat → Nat → List Nat
  | 0, _ => []
  | f + 1, n => if n = 0 then [] else n % 4294967296 :: digsF f (n / 4294967296)

/-- the words of a number, without leading zeros -/
def digs (n : Nat) : List Nat := digsF n n

theorem digsF_same : ∀ (f g n : Nat), n ≤ f → n ≤ g → digsF f n = digsF g n := by
  intro f
  induction f with
  | zero => intro g n h _; obtain rfl : n = 0 := by omega
            cases g <;> simp [digsF]
  | succ f ih =>
    intro g n hf hg
    by_cases h0 : n = 0
    · subst h0; cases g <;> simp [digsF]
    · cases g with
      | zero => omega
      | succ g =>
        have : n / 4294967296 < n := Nat.div_lt_self (by omega) (by decide)
        simp only [digsF, if_neg h0]
        rw [ih g (n / 4294967296) (by omega) (by omega)]

theorem digs_zero : digs 0 = [] := rfl
theorem digs_step {n : Nat} (h : n ≠ 0) : digs n = n % 4294967296 :: digs (n / 4294967296) := by
  have hlt : n / 4294967296 < n := Nat.div_lt_self (by omega) (by decide)
  unfold digs
  obtain ⟨m, rfl⟩ : ∃ m, n = m + 1 := ⟨n - 1, by omega⟩
  simp only [digsF, if_neg h]
  rw [digsF_same m ((m + 1) / 4294967296) ((m + 1) / 4294967296) (by omega) (by omega)]

theorem digs_ind {P : Nat → Prop} (h0 : P 0) (hs : ∀ n, n ≠ 0 → P (n / 4294967296) → P n) (n : Nat) : P n := by
  induction n using Nat.strongRecOn with
  | _ n ih =>
    by_cases h : n = 0
    · subst h; exact h0
    · exact hs n h (ih _ (Nat.div_lt_self (by omega) (by decide)))

theorem val_digs (n : Nat) : val (digs n) = n := by
  induction n using digs_ind with
  | h0 => rfl
  | hs n h ih => rw [digs_step h]; simp only [val, ih]; omega

theorem ok_nil : ok [] := fun _ h => by cases h
theorem ok_cons {x : Nat} {l : List Nat} : ok (x :: l) ↔ x < 4294967296 ∧ ok l := by simp [ok]
theorem ok_append {a b : List Nat} : ok (a ++ b) ↔ ok a ∧ ok b := by
  simp only [ok, List.mem_append]
  exact ⟨fun h => ⟨fun x hx => h x (.inl hx), fun x hx => h x (.inr hx)⟩, fun h x hx => hx.elim (h.1 x) (h.2 x)⟩
theorem ok_take {l : List Nat} (h : ok l) (k : Nat) : ok (l.take k) := fun x hx => h x (List.mem_of_mem_take hx)
theorem ok_drop {l : List Nat} (h : ok l) (k : Nat) : ok (l.drop k) := fun x hx => h x (List.mem_of_mem_drop hx)
theorem ok_get {l : List Nat} (h : ok l) {i : Nat} (hi : i < l.length) : l[i] < 4294967296 := h _ (List.getElem_mem hi)
theorem ok_getD {l : List Nat} (h : ok l) (i : Nat) : l.getD i 0 < 4294967296 := by
  rw [List.getD_eq_getElem?_getD]
  rcases Nat.lt_or_ge i l.length with hi | hi
  · rw [List.getElem?_eq_getElem hi]; exact ok_get h hi
  · rw [List.getElem?_eq_none hi]; decide

theorem ok_digs (n : Nat) : ok (digs n) := by
  induction n using digs_ind with
  | h0 => exact ok_nil
  | hs n h ih => rw [digs_step h, ok_cons]; exact ⟨Nat.mod_lt _ (by decide), ih⟩

theorem digs_ne_nil {n : Nat} (h : n ≠ 0) : digs n ≠ [] := by rw [digs_step h]; simp
theorem digs_eq_nil {n : Nat} : digs n = [] ↔ n = 0 := ⟨fun h => Classical.byContradiction fun hn => digs_ne_nil hn h, fun h => by subst h; rfl⟩
theorem digs_len_zero {n : Nat} : (digs n).length = 0 ↔ n = 0 := by rw [List.length_eq_zero_iff, digs_eq_nil]

/-- no leading zero -/
def nrm (l : List Nat) : Prop := l = [] ∨ l.getD (l.length - 1) 0 ≠ 0

theorem nrm_cons {x : Nat} {l : List Nat} (hl : l ≠ []) : nrm (x :: l) ↔ nrm l := by
  have : 0 < l.length := List.length_pos_iff.2 hl
  have e : l.length + 1 - 1 = (l.length - 1) + 1 := by omega
  simp only [nrm, List.length_cons, e, List.getD_cons_succ, hl, false_or, reduceCtorEq]
theorem nrm_one {x : Nat} : nrm [x] ↔ x ≠ 0 := by simp [nrm]

theorem nrm_digs (n : Nat) : nrm (digs n) := by
  induction n using digs_ind with
  | h0 => exact .inl rfl
  | hs n h ih =>
    rw [digs_step h]
    by_cases h2 : n / 4294967296 = 0
    · rw [h2, digs_zero, nrm_one]
      have : n < 4294967296 := by have := Nat.div_add_mod n 4294967296; have := Nat.mod_lt n (show 4294967296 > 0 by decide); omega
      rw [Nat.mod_eq_of_lt this]; exact h
    · rw [nrm_cons (digs_ne_nil h2)]; exact ih

theorem val_pos_of_nrm : ∀ {l : List Nat}, nrm l → l ≠ [] → 0 < val l
  | [], _, h => absurd rfl h
  | [x], h, _ => by rw [nrm_one] at h; simp [val]; omega
  | x :: y :: l, h, _ => by
    rw [nrm_cons (by simp)] at h
    have := val_pos_of_nrm h (by simp)
    simp only [val] at this ⊢
    omega

theorem digs_val : ∀ {l : List Nat}, ok l → nrm l → digs (val l) = l
  | [], _, _ => rfl
  | x :: l, h, hn => by
    rw [ok_cons] at h
    have hp := val_pos_of_nrm hn (by simp)
    have h1 : val (x :: l) % 4294967296 = x := by
      simp only [val]; rw [Nat.add_mul_mod_self_left]; exact Nat.mod_eq_of_lt h.1
    have h2 : val (x :: l) / 4294967296 = val l := by
      simp only [val]
      rw [Nat.add_mul_div_left _ _ (by decide), Nat.div_eq_of_lt h.1]; omega
    rw [digs_step (by omega), h1, h2]
    by_cases hl : l = []
    · subst hl; rfl
    · rw [digs_val h.2 ((nrm_cons hl).1 hn)]

theorem val_append : ∀ (a b : List Nat), val (a ++ b) = val a + 4294967296 ^ a.length * val b
  | [], b => by simp [val]
  | x :: a, b => by
    simp only [List.cons_append, val, val_append a b, List.length_cons, Nat.pow_succ']
    rw [Nat.mul_add, Nat.mul_assoc]
    omega

theorem val_snoc (a : List Nat) (x : Nat) : val (a ++ [x]) = val a + 4294967296 ^ a.length * x := by rw [val_append]; simp [val]

theorem val_lt : ∀ {l : List Nat}, ok l → val l < 4294967296 ^ l.length
  | [], _ => by simp [val]
  | x :: l, h => by
    rw [ok_cons] at h
    have := val_lt h.2
    have h1 : val l + 1 ≤ 4294967296 ^ l.length := this
    have h2 := Nat.mul_le_mul_left 4294967296 h1
    have h3 := h.1
    simp only [val, List.length_cons, Nat.pow_succ']
    rw [Nat.mul_add] at h2
    omega

theorem val_take_succ (l : List Nat) (k : Nat) (h : k < l.length) : val (l.take (k + 1)) = val (l.take k) + 4294967296 ^ k * l.getD k 0 := by
  rw [List.take_succ_eq_append_getElem h, val_snoc, List.length_take, Nat.min_eq_left (Nat.le_of_lt h), List.getD_eq_getElem?_getD, List.getElem?_eq_getElem h]
  rfl

theorem val_split (l : List Nat) (k : Nat) (h : k ≤ l.length) : val l = val (l.take k) + 4294967296 ^ k * val (l.drop k) := by
  conv => lhs; rw [← List.take_append_drop k l]
  rw [val_append, List.length_take, Nat.min_eq_left h]

theorem val_drop (l : List Nat) (k : Nat) (h : k < l.length) : val (l.drop k) = l.getD k 0 + 4294967296 * val (l.drop (k + 1)) := by
  rw [List.drop_eq_getElem_cons h, List.getD_eq_getElem?_getD, List.getElem?_eq_getElem h]; rfl

theorem take_digs {l : List Nat} (h : ok l) {k : Nat} (hk : k ≤ l.length) (hz : k = 0 ∨ l.getD (k - 1) 0 ≠ 0) : digs (val (l.take k)) = l.take k := by
  refine digs_val (ok_take h k) ?_
  by_cases h0 : k = 0
  · left; simp [h0]
  · right
    have hz' := hz.resolve_left h0
    rw [List.length_take, Nat.min_eq_left hk, List.getD_eq_getElem?_getD, List.getElem?_take, if_pos (by omega), ← List.getD_eq_getElem?_getD]
    exact hz'

theorem lt_len_iff (n k : Nat) : (digs n).length ≤ k ↔ n < 4294967296 ^ k := by
  constructor
  · intro h
    have := val_lt (ok_digs n)
    rw [val_digs] at this
    exact Nat.lt_of_lt_of_le this (Nat.pow_le_pow_right (by decide) h)
  · intro h
    rcases Nat.lt_or_ge k (digs n).length with hk | hk
    · exfalso
      have hn : n ≠ 0 := fun e => by subst e; simp [digs_zero] at hk
      have hr := nrm_digs n
      rcases hr with h0 | h0
      · exact digs_ne_nil hn h0
      · have hs := val_split (digs n) ((digs n).length - 1) (by omega)
        rw [val_digs, val_drop _ _ (by omega)] at hs
        have hp : 4294967296 ^ k ≤ 4294967296 ^ ((digs n).length - 1) := Nat.pow_le_pow_right (by decide) (by omega)
        have h1 : 4294967296 ^ ((digs n).length - 1) * 1 ≤ 4294967296 ^ ((digs n).length - 1) * ((digs n).getD ((digs n).length - 1) 0 + 4294967296 * val ((digs n).drop ((digs n).length - 1 + 1))) := Nat.mul_le_mul_left _ (by omega)
        omega
    · exact hk

theorem len_mono {m n : Nat} (h : m ≤ n) : (digs m).length ≤ (digs n).length := by
  rw [lt_len_iff]
  have := val_lt (ok_digs n)
  rw [val_digs] at this
  omega

theorem pow_pos' (k : Nat) : 0 < 4294967296 ^ k := Nat.pow_pos (by decide)

theorem digs_one_word {x : Nat} (h : x < 4294967296) (h0 : x ≠ 0) : digs x = [x] := by
  rw [digs_step h0, Nat.mod_eq_of_lt h, Nat.div_eq_of_lt h, digs_zero]

theorem val_eq_digs_len {l : List Nat} (h : ok l) : (digs (val l)).length ≤ l.length := (lt_len_iff _ _).2 (val_lt h)
end Go.Proofs.YtfnfnagdecpobaaDoor.fm
