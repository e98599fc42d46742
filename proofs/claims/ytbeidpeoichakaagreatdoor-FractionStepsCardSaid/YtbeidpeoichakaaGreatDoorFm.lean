/- Plain mathematics for layer 1: natural numbers as lists of words of 32 bits, the least one first. No program here. -/
namespace Go.Proofs.YtbeidpeoichakaaGreatDoor.fm

def val : List Nat → Nat
  | [] => 0
  | x :: l => x + 4294967296 * val l

def ok (l : List Nat) : Prop := ∀ x ∈ l, x < 4294967296

def digsF : Nat → Nat → List Nat
  | 0, _ => []
  | f + 1, n => if n = 0 then [] else n % 4294967296 :: digsF f (n / 4294967296)

/-- the words of a number, without leading zeros -/
def digs (n : Nat) : List Nat := digsF n n

theorem digsF_same : ∀ (f g n : Nat), n ≤ f → n ≤ g → digsF f n = digsF g n := by
  intro f
  induction f with
  | zero => intro g n h _; obtain rfl : n = 0 := by omega
            cases g <;> simp [digsF]
  | succ f ih =>
    intro g n hf hg
    by_cases h0 : n = 0
    · subst h0; cases g <;> simp [digsF]
    · cases g with
      | zero => omega
      | succ g =>
        have : n / 4294967296 < n := Nat.div_lt_self (by omega) (by decide)
        simp only [digsF, if_neg h0]
        rw [ih g (n / 4294967296) (by omega) (by omega)]

theorem digs_zero : digs 0 = [] := rfl
theorem digs_step {n : Nat} (h : n ≠ 0) : digs n = n % 4294967296 :: digs (n / 4294967296) := by
  have hlt : n / 4294967296 < n := Nat.div_lt_self (by omega) (by decide)
  unfold digs
  obtain ⟨m, rfl⟩ : ∃ m, n = m + 1 := ⟨n - 1, by omega⟩
  simp only [digsF, if_neg h]
  rw [digsF_same m ((m + 1) / 4294967296) ((m + 1) / 4294967296) (by omega) (by omega)]

theorem digs_ind {P : Nat → Prop} (h0 : P 0) (hs : ∀ n, n ≠ 0 → P (n / 4294967296) → P n) (n : Nat) : P n := by
  induction n using Nat.strongRecOn with
  | _ n ih =>
    by_cases h : n = 0
    · subst h; exact h0
    · exact hs n h (ih _ (Nat.div_lt_self (by omega) (by decide)))

theorem val_digs (n : Nat) : val (digs n) = n := by
  induction n using digs_ind with
  | h0 => rfl
  | hs n h ih => rw [digs_step h]; simp only [val, ih]; omega

theorem ok_nil : ok [] := fun _ h => by cases h
theorem ok_cons {x : Nat} {l : List Nat} : ok (x :: l) ↔ x < 4294967296 ∧ ok l := by simp [ok]
theorem ok_append {a b : List Nat} : ok (a ++ b) ↔ ok a ∧ ok b := by
  simp only [ok, List.mem_append]
  exact ⟨fun h => ⟨fun x hx => h x (.inl hx), fun x hx => h x (.inr hx)⟩, fun h x hx => hx.elim (h.1 x) (h.2 x)⟩
theorem ok_take {l : List Nat} (h : ok l) (k : Nat) : ok (l.take k) := fun x hx => h x (List.mem_of_mem_take hx)
theorem ok_drop {l : List Nat} (h : ok l) (k : Nat) : ok (l.drop k) := fun x hx => h x (List.mem_of_mem_drop hx)
theorem ok_get {l : List Nat} (h : ok l) {i : Nat} (hi : i < l.length) : l[i] < 4294967296 := h _ (List.getElem_mem hi)
theorem ok_getD {l : List Nat} (h : ok l) (i : Nat) : l.getD i 0 < 4294967296 := by
  rw [List.getD_eq_getElem?_getD]
  rcases Nat.lt_or_ge i l.length with hi | hi
  · rw [List.getElem?_eq_getElem hi]; exact ok_get h hi
  · rw [List.getElem?_eq_none hi]; decide

theorem ok_digs (n : Nat) : ok (digs n) := by
  induction n using digs_ind with
  | h0 => exact ok_nil
  | hs n h ih => rw [digs_step h, ok_cons]; exact ⟨Nat.mod_lt _ (by decide), ih⟩

theorem digs_ne_nil {n : Nat} (h : n ≠ 0) : digs n ≠ [] := by rw [digs_step h]; simp
theorem digs_eq_nil {n : Nat} : digs n = [] ↔ n = 0 := ⟨fun h => Classical.byContradiction fun hn => digs_ne_nil hn h, fun h => by subst h; rfl⟩
theorem digs_len_zero {n : Nat} : (digs n).length = 0 ↔ n = 0 := by rw [List.length_eq_zero_iff, digs_eq_nil]

/-- no leading zero -/
def nrm (l : List Nat) : Prop := l = [] ∨ l.getD (l.length - 1) 0 ≠ 0

theorem nrm_cons {x : Nat} {l : List Nat} (hl : l ≠ []) : nrm (x :: l) ↔ nrm l := by
  have : 0 < l.length := List.length_pos_iff.2 hl
  have e : l.length + 1 - 1 = (l.length - 1) + 1 := by omega
  simp only [nrm, List.length_cons, e, List.getD_cons_succ, hl, false_or, reduceCtorEq]
theorem nrm_one {x : Nat} : nrm [x] ↔ x ≠ 0 := by simp [nrm]

theorem nrm_digs (n : Nat) : nrm (digs n) := by
  induction n using digs_ind with
  | h0 => exact .inl rfl
  | hs n h ih =>
    rw [digs_step h]
    by_cases h2 : n / 4294967296 = 0
    · rw [h2, digs_zero, nrm_one]
      have : n < 4294967296 := by have := Nat.div_add_mod n 4294967296; have := Nat.mod_lt n (show 4294967296 > 0 by decide); omega
      rw [Nat.mod_eq_of_lt this]; exact h
    · rw [nrm_cons (digs_ne_nil h2)]; exact ih

theorem val_pos_of_nrm : ∀ {l : List Nat}, nrm l → l ≠ [] → 0 < val l
  | [], _, h => absurd rfl h
  | [x], h, _ => by rw [nrm_one] at h; simp [val]; omega
  | x :: y :: l, h, _ => by
    rw [nrm_cons (by simp)] at h
    have := val_pos_of_nrm h (by simp)
    simp only [val] at this ⊢
    omega

theorem digs_val : ∀ {l : List Nat}, ok l → nrm l → digs (val l) = l
  | [], _, _ => rfl
  | x :: l, h, hn => by
    rw [ok_cons] at h
    have hp := val_pos_of_nrm hn (by simp)
    have h1 : val (x :: l) % 4294967296 = x := by
      simp only [val]; rw [Nat.add_mul_mod_self_left]; exact Nat.mod_eq_of_lt h.1
    have h2 : val (x :: l) / 4294967296 = val l := by
      simp only [val]
      rw [Nat.add_mul_div_left _ _ (by decide), Nat.div_eq_of_lt h.1]; omega
    rw [digs_step (by omega), h1, h2]
    by_cases hl : l = []
    · subst hl; rfl
    · rw [digs_val h.2 ((nrm_cons hl).1 hn)]

theorem val_append : ∀ (a b : List Nat), val (a ++ b) = val a + 4294967296 ^ a.length * val b
  | [], b => by simp [val]
  | x :: a, b => by
    simp only [List.cons_append, val, val_append a b, List.length_cons, Nat.pow_succ']
    rw [Nat.mul_add, Nat.mul_assoc]
    omega

theorem val_snoc (a : List Nat) (x : Nat) : val (a ++ [x]) = val a + 4294967296 ^ a.length * x := by rw [val_append]; simp [val]

theorem val_lt : ∀ {l : List Nat}, ok l → val l < 4294967296 ^ l.length
  | [], _ => by simp [val]
  | x :: l, h => by
    rw [ok_cons] at h
    have := val_lt h.2
    have h1 : val l + 1 ≤ 4294967296 ^ l.length := this
    have h2 := Nat.mul_le_mul_left 4294967296 h1
    have h3 := h.1
    simp only [val, List.length_cons, Nat.pow_succ']
    rw [Nat.mul_add] at h2
    omega

theorem val_take_succ (l : List Nat) (k : Nat) (h : k < l.length) : val (l.take (k + 1)) = val (l.take k) + 4294967296 ^ k * l.getD k 0 := by
  rw [List.take_succ_eq_append_getElem h, val_snoc, List.length_take, Nat.min_eq_left (Nat.le_of_lt h), List.getD_eq_getElem?_getD, List.getElem?_eq_getElem h]
  rfl

theorem val_split (l : List Nat) (k : Nat) (h : k ≤ l.length) : val l = val (l.take k) + 4294967296 ^ k * val (l.drop k) := by
  conv => lhs; rw [← List.take_append_drop k l]
  rw [val_append, List.length_take, Nat.min_eq_left h]

theorem val_drop (l : List Nat) (k : Nat) (h : k < l.length) : val (l.drop k) = l.getD k 0 + 4294967296 * val (l.drop (k + 1)) := by
  rw [List.drop_eq_getElem_cons h, List.getD_eq_getElem?_getD, List.getElem?_eq_getElem h]; rfl

theorem take_digs {l : List Nat} (h : ok l) {k : Nat} (hk : k ≤ l.length) (hz : k = 0 ∨ l.getD (k - 1) 0 ≠ 0) : digs (val (l.take k)) = l.take k := by
  refine digs_val (ok_take h k) ?_
  by_cases h0 : k = 0
  · left; simp [h0]
  · right
    have hz' := hz.resolve_left h0
    rw [List.length_take, Nat.min_eq_left hk, List.getD_eq_getElem?_getD, List.getElem?_take, if_pos (by omega), ← List.getD_eq_getElem?_getD]
    exact hz'

theorem lt_len_iff (n k : Nat) : (digs n).length ≤ k ↔ n < 4294967296 ^ k := by
  constructor
  · intro h
    have := val_lt (ok_digs n)
    rw [val_digs] at this
    exact Nat.lt_of_lt_of_le this (Nat.pow_le_pow_right (by decide) h)
  · intro h
    rcases Nat.lt_or_ge k (digs n).length with hk | hk
    · exfalso
      have hn : n ≠ 0 := fun e => by subst e; simp [digs_zero] at hk
      have hr := nrm_digs n
      rcases hr with h0 | h0
      · exact digs_ne_nil hn h0
      · have hs := val_split (digs n) ((digs n).length - 1) (by omega)
        rw [val_digs, val_drop _ _ (by omega)] at hs
        have hp : 4294967296 ^ k ≤ 4294967296 ^ ((digs n).length - 1) := Nat.pow_le_pow_right (by decide) (by omega)
        have h1 : 4294967296 ^ ((digs n).length - 1) * 1 ≤ 4294967296 ^ ((digs n).length - 1) * ((digs n).getD ((digs n).length - 1) 0 + 4294967296 * val ((digs n).drop ((digs n).length - 1 + 1))) := Nat.mul_le_mul_left _ (by omega)
        omega
    · exact hk

theorem len_mono {m n : Nat} (h : m ≤ n) : (digs m).length ≤ (digs n).length := by
  rw [lt_len_iff]
  have := val_lt (ok_digs n)
  rw [val_digs] at this
  omega

theorem pow_pos' (k : Nat) : 0 < 4294967296 ^ k := Nat.pow_pos (by decide)

theorem digs_one_word {x : Nat} (h : x < 4294967296) (h0 : x ≠ 0) : digs x = [x] := by
  rw [digs_step h0, Nat.mod_eq_of_lt h, Nat.div_eq_of_lt h, digs_zero]

theorem val_eq_digs_len {l : List Nat} (h : ok l) : (digs (val l)).length ≤ l.length := (lt_len_iff _ _).2 (val_lt h)
end Go.Proofs.YtbeidpeoichakaaGreatDoor.fm

/- Plain mathematics for layer 1: what one step of addition, subtraction, multiplication and division by a word does. -/
namespace Go.Proofs.YtbeidpeoichakaaGreatDoor.fm

theorem getD_ge {l : List Nat} {i : Nat} (h : l.length ≤ i) : l.getD i 0 = 0 := by
  rw [List.getD_eq_getElem?_getD, List.getElem?_eq_none h]; rfl

/-- the value of a longer beginning, also beyond the end -/
theorem val_take_next (l : List Nat) (k : Nat) : val (l.take (k + 1)) = val (l.take k) + 4294967296 ^ k * l.getD k 0 := by
  rcases Nat.lt_or_ge k l.length with h | h
  · exact val_take_succ l k h
  · rw [getD_ge h, List.take_of_length_le h, List.take_of_length_le (by omega)]; omega

theorem take_set_same (S : List Nat) (i : Nat) (x : Nat) : (S.set i x).take i = S.take i := by
  rw [List.take_set_of_le (Nat.le_refl i)]

theorem getD_set_self (S : List Nat) (i : Nat) (x : Nat) (h : i < S.length) : (S.set i x).getD i 0 = x := by
  rw [List.getD_eq_getElem?_getD, List.getElem?_set_self h]; rfl

theorem getD_set_ne (S : List Nat) (i j : Nat) (x : Nat) (h : i ≠ j) : (S.set i x).getD j 0 = S.getD j 0 := by
  rw [List.getD_eq_getElem?_getD, List.getElem?_set_ne h, ← List.getD_eq_getElem?_getD]

theorem ok_set {S : List Nat} (h : ok S) (i : Nat) {x : Nat} (hx : x < 4294967296) : ok (S.set i x) := by
  intro y hy
  rcases List.mem_or_eq_of_mem_set hy with h1 | h1
  · exact h y h1
  · omega

theorem val_take_set (S : List Nat) (i x : Nat) (h : i < S.length) : val ((S.set i x).take (i + 1)) = val (S.take i) + 4294967296 ^ i * x := by
  rw [val_take_next, take_set_same, getD_set_self S i x h]

theorem val_set (S : List Nat) (i x : Nat) (h : i < S.length) : val (S.set i x) + 4294967296 ^ i * S.getD i 0 = val S + 4294967296 ^ i * x := by
  have h1 := val_split S i (by omega)
  have h2 := val_split (S.set i x) i (by simp; omega)
  have h3 := val_drop S i h
  have h4 := val_drop (S.set i x) i (by simpa using h)
  have h5 : (S.set i x).drop (i + 1) = S.drop (i + 1) := List.drop_set_of_lt (by omega)
  rw [take_set_same] at h2
  rw [h5, getD_set_self S i x h] at h4
  rw [h1, h2, h3, h4, Nat.mul_add, Nat.mul_add]
  omega

/-- addition: a longer carry -/
theorem add_step (a b S : List Nat) (i c : Nat) (hi : i < S.length)
    (E : val (S.take i) + 4294967296 ^ i * c = val (a.take i) + val (b.take i)) :
    val ((S.set i ((c + a.getD i 0 + b.getD i 0) % 4294967296)).take (i + 1)) + 4294967296 ^ (i + 1) * ((c + a.getD i 0 + b.getD i 0) / 4294967296) = val (a.take (i + 1)) + val (b.take (i + 1)) := by
  rw [val_take_set _ _ _ hi, val_take_next a, val_take_next b, Nat.pow_succ]
  generalize 4294967296 ^ i = p at *
  have h1 := Nat.div_add_mod (c + a.getD i 0 + b.getD i 0) 4294967296
  generalize (c + a.getD i 0 + b.getD i 0) / 4294967296 = q at *
  generalize (c + a.getD i 0 + b.getD i 0) % 4294967296 = r at *
  have h2 : p * (4294967296 * q + r) = p * (c + a.getD i 0 + b.getD i 0) := by rw [h1]
  rw [Nat.mul_add, Nat.mul_add, Nat.mul_add, ← Nat.mul_assoc] at h2
  omega

/-- subtraction: d is the digit, r the next borrow -/
theorem sub_step (a b S : List Nat) (i r d r' : Nat) (hi : i < S.length) (hd : d + b.getD i 0 + r = a.getD i 0 + 4294967296 * r')
    (E : val (S.take i) + val (b.take i) = val (a.take i) + 4294967296 ^ i * r) :
    val ((S.set i d).take (i + 1)) + val (b.take (i + 1)) = val (a.take (i + 1)) + 4294967296 ^ (i + 1) * r' := by
  rw [val_take_set _ _ _ hi, val_take_next a, val_take_next b, Nat.pow_succ]
  generalize 4294967296 ^ i = p at *
  have h2 : p * (d + b.getD i 0 + r) = p * (a.getD i 0 + 4294967296 * r') := by rw [hd]
  rw [Nat.mul_add, Nat.mul_add, Nat.mul_add, ← Nat.mul_assoc] at h2
  omega

/-- multiplication by a word: one more digit of b -/
theorem mul_step (b P : List Nat) (x i j c V : Nat) (hi : i + j < P.length)
    (E : val P + 4294967296 ^ (i + j) * c = V + 4294967296 ^ i * (x * val (b.take j))) :
    val (P.set (i + j) ((c + x * b.getD j 0 + P.getD (i + j) 0) % 4294967296)) + 4294967296 ^ (i + (j + 1)) * ((c + x * b.getD j 0 + P.getD (i + j) 0) / 4294967296)
      = V + 4294967296 ^ i * (x * val (b.take (j + 1))) := by
  have hs := val_set P (i + j) ((c + x * b.getD j 0 + P.getD (i + j) 0) % 4294967296) hi
  have h1 := Nat.div_add_mod (c + x * b.getD j 0 + P.getD (i + j) 0) 4294967296
  rw [val_take_next, ← Nat.add_assoc, Nat.pow_succ]
  have e1 : 4294967296 ^ i * (x * (val (b.take j) + 4294967296 ^ j * b.getD j 0)) = 4294967296 ^ i * (x * val (b.take j)) + 4294967296 ^ (i + j) * (x * b.getD j 0) := by
    rw [Nat.mul_add, Nat.mul_add, Nat.pow_add]
    congr 1
    rw [Nat.mul_left_comm x, Nat.mul_assoc]
  rw [e1]
  generalize 4294967296 ^ (i + j) = p at *
  generalize x * b.getD j 0 = y at *
  generalize P.getD (i + j) 0 = z at *
  generalize hq : (c + y + z) / 4294967296 = q at *
  generalize hr : (c + y + z) % 4294967296 = r at *
  have h2 : p * (4294967296 * q + r) = p * (c + y + z) := by rw [h1]
  rw [Nat.mul_add, Nat.mul_add, Nat.mul_add, ← Nat.mul_assoc] at h2
  omega

/-- long division by a word, from the top down -/
theorem div_step (a Q : List Nat) (i b rest q r : Nat) (hi : i < a.length) (hq : i < Q.length) (hd : rest * 4294967296 + a.getD i 0 = q * b + r)
    (E : val (a.drop (i + 1)) = val (Q.drop (i + 1)) * b + rest) :
    val (a.drop i) = val ((Q.set i q).drop i) * b + r := by
  have h4 := val_drop (Q.set i q) i (by simpa using hq)
  have h5 : (Q.set i q).drop (i + 1) = Q.drop (i + 1) := List.drop_set_of_lt (by omega)
  rw [h5, getD_set_self Q i q hq] at h4
  rw [val_drop a i hi, h4, E]
  rw [Nat.add_mul, Nat.mul_add, Nat.mul_assoc]
  omega

theorem ok_replicate (n : Nat) : ok (List.replicate n 0) := by
  intro x hx; rw [List.eq_of_mem_replicate hx]; decide
theorem val_replicate (n : Nat) : val (List.replicate n 0) = 0 := by
  induction n with
  | zero => rfl
  | succ n ih => rw [List.replicate_succ]; simp [val, ih]

end Go.Proofs.YtbeidpeoichakaaGreatDoor.fm

/- Plain mathematics for layer 1: long division, word by word of the quotient. -/
namespace Go.Proofs.YtbeidpeoichakaaGreatDoor.fm

/-- the guess is too great: by the second test -/
theorem guess_over (V U p v1 v2 vl u2 ul top d rest : Nat) (hV : V = v1 * 4294967296 * p + v2 * p + vl) (hU : U = top * 4294967296 * p + u2 * p + ul) (hul : ul < p)
    (hd : d * v1 + rest = top) (ht : rest * 4294967296 + u2 < d * v2) : U < d * V := by
  have e1 : d * V = d * v1 * 4294967296 * p + d * v2 * p + d * vl := by
    rw [hV, Nat.mul_add, Nat.mul_add]; simp only [Nat.mul_assoc]
  have e2 : (rest * 4294967296 + u2 + 1) * p ≤ d * v2 * p := Nat.mul_le_mul_right _ ht
  have e3 : top * 4294967296 * p = d * v1 * 4294967296 * p + rest * 4294967296 * p := by rw [← hd, Nat.add_mul, Nat.add_mul]
  rw [Nat.add_mul, Nat.add_mul, Nat.one_mul] at e2
  rw [hU, e1, e3]
  omega

/-- the guess is too great: it is no word -/
theorem guess_wide (V U d : Nat) (h : U < V * 4294967296) (hd : 4294967296 ≤ d) : U < d * V := by
  have := Nat.mul_le_mul_right V hd
  rw [Nat.mul_comm V] at h
  omega

/-- the guess is at most one too great -/
theorem guess_near (V U p v1 v2 vl u2 ul top d rest : Nat) (hV : V = v1 * 4294967296 * p + v2 * p + vl) (hU : U = top * 4294967296 * p + u2 * p + ul) (hvl : vl < p)
    (hd : d * v1 + rest = top) (hw : d < 4294967296) (h1 : 1 ≤ v1) (ht : d * v2 ≤ rest * 4294967296 + u2) : d * V ≤ U + V := by
  have e1 : d * V = d * v1 * 4294967296 * p + d * v2 * p + d * vl := by
    rw [hV, Nat.mul_add, Nat.mul_add]; simp only [Nat.mul_assoc]
  have e2 : d * v2 * p ≤ (rest * 4294967296 + u2) * p := Nat.mul_le_mul_right _ ht
  have e3 : top * 4294967296 * p = d * v1 * 4294967296 * p + rest * 4294967296 * p := by rw [← hd, Nat.add_mul, Nat.add_mul]
  have e4 : d * vl ≤ 4294967296 * p := Nat.mul_le_mul (Nat.le_of_lt hw) (Nat.le_of_lt hvl)
  have e5 : 1 * 4294967296 * p ≤ v1 * 4294967296 * p := Nat.mul_le_mul_right _ (Nat.mul_le_mul_right _ h1)
  rw [Nat.add_mul] at e2
  rw [Nat.one_mul] at e5
  rw [e1]
  omega

/-- the loop of the guess was left because the rest is no word -/
theorem guess_break (v1 v2 u2 top d rest : Nat) (hd : d * v1 + rest = top) (hr : 4294967296 ≤ rest) (ht : top < v1 * 4294967296 + 4294967296) (hv2 : v2 < 4294967296) :
    d < 4294967296 ∧ d * v2 ≤ rest * 4294967296 + u2 := by
  have h1 : d < 4294967296 := by
    rcases Nat.lt_or_ge d 4294967296 with h | h
    · exact h
    · have := Nat.mul_le_mul_right v1 h
      rw [Nat.mul_comm v1] at ht
      omega
  refine ⟨h1, ?_⟩
  have := Nat.mul_le_mul (Nat.le_of_lt h1) (Nat.le_of_lt hv2)
  have := Nat.mul_le_mul_right 4294967296 hr
  omega

/-- the first guess is not too small -/
theorem guess_first (V U p v1 v2 vl u2 ul top d rest : Nat) (hV : V = v1 * 4294967296 * p + v2 * p + vl) (hU : U = top * 4294967296 * p + u2 * p + ul) (hul : ul < p) (hu2 : u2 < 4294967296)
    (hd : d * v1 + rest = top) (hr : rest < v1) : U < (d + 1) * V := by
  have e0 : top + 1 ≤ (d + 1) * v1 := by rw [Nat.add_mul]; omega
  have e1 : (top + 1) * 4294967296 * p ≤ (d + 1) * v1 * 4294967296 * p := Nat.mul_le_mul_right _ (Nat.mul_le_mul_right _ e0)
  have e2 : (d + 1) * V = (d + 1) * v1 * 4294967296 * p + (d + 1) * v2 * p + (d + 1) * vl := by
    rw [hV, Nat.mul_add, Nat.mul_add]; simp only [Nat.mul_assoc]
  have e3 : (u2 + 1) * p ≤ 4294967296 * p := Nat.mul_le_mul_right _ hu2
  rw [Nat.add_mul, Nat.one_mul] at e3
  rw [Nat.add_mul, Nat.add_mul, Nat.one_mul] at e1
  rw [hU, e2]
  omega

/-- the top word of the rest is not above the divisor's -/
theorem guess_top (V U p v1 v2 vl u2 ul un um : Nat) (hV : V = v1 * 4294967296 * p + v2 * p + vl) (hU : U = (un * 4294967296 + um) * 4294967296 * p + u2 * p + ul) (hvl : vl < p) (hv2 : v2 < 4294967296)
    (h : U < V * 4294967296) (hum : um < 4294967296) : un ≤ v1 ∧ un * 4294967296 + um < v1 * 4294967296 + 4294967296 := by
  have a : un ≤ v1 := by
    rcases Nat.lt_or_ge v1 un with hlt | hge
    · exfalso
      have e1 : (v1 + 1) * 4294967296 * 4294967296 * p ≤ un * 4294967296 * 4294967296 * p := Nat.mul_le_mul_right _ (Nat.mul_le_mul_right _ (Nat.mul_le_mul_right _ hlt))
      have e3 : (v2 + 1) * p ≤ 4294967296 * p := Nat.mul_le_mul_right _ hv2
      rw [Nat.add_mul, Nat.one_mul] at e3
      rw [Nat.add_mul, Nat.one_mul, Nat.add_mul, Nat.add_mul] at e1
      rw [Nat.add_mul, Nat.add_mul] at hU
      have e4 : V * 4294967296 = v1 * 4294967296 * 4294967296 * p + (v2 * p + vl) * 4294967296 := by
        rw [hV, Nat.add_assoc, Nat.add_mul]
        congr 1
        rw [Nat.mul_right_comm _ p]
      rw [e4] at h
      omega
    · exact hge
  exact ⟨a, by omega⟩

theorem first_digit (v1 top d rest : Nat) (hd : d * v1 + rest = top) (h1 : 2147483648 ≤ v1) (ht : top < v1 * 4294967296 + 4294967296) : d ≤ 4294967297 := by
  apply Nat.le_of_not_lt
  intro h
  have h2 : 4294967298 ≤ d := by omega
  have h3 : 4294967298 * v1 ≤ d * v1 := Nat.mul_le_mul_right v1 h2
  generalize d * v1 = x at *
  omega

theorem div_of_bounds (U V d : Nat) (hV : 0 < V) (h1 : d * V ≤ U) (h2 : U < (d + 1) * V) : U / V = d ∧ U % V = U - d * V := by
  have e : U / V = d := by
    rw [Nat.div_eq_iff hV]
    rw [Nat.add_mul, Nat.one_mul] at h2
    omega
  have := Nat.div_add_mod U V
  rw [e, Nat.mul_comm] at this
  exact ⟨e, by omega⟩

/-- one word of subtracting a product -/
theorem subprod_step (u v S : List Nat) (i dg c r d r' : Nat) (hi : i < S.length)
    (hd : d + (c + dg * v.getD i 0) % 4294967296 + r = u.getD i 0 + 4294967296 * r')
    (E : val (S.take i) + dg * val (v.take i) = val (u.take i) + 4294967296 ^ i * (c + r)) :
    val ((S.set i d).take (i + 1)) + dg * val (v.take (i + 1)) = val (u.take (i + 1)) + 4294967296 ^ (i + 1) * ((c + dg * v.getD i 0) / 4294967296 + r') := by
  rw [val_take_set _ _ _ hi, val_take_next v, val_take_next u, Nat.pow_succ, Nat.mul_add dg, Nat.mul_left_comm dg]
  have h1 := Nat.div_add_mod (c + dg * v.getD i 0) 4294967296
  generalize 4294967296 ^ i = p at *
  generalize dg * v.getD i 0 = y at *
  generalize (c + y) / 4294967296 = q at *
  generalize (c + y) % 4294967296 = l at *
  have h2 : p * (d + l + r) = p * (u.getD i 0 + 4294967296 * r') := by rw [hd]
  have h3 : p * (4294967296 * q + l) = p * (c + y) := by rw [h1]
  simp only [Nat.mul_add, ← Nat.mul_assoc] at h2 h3 E ⊢
  omega

end Go.Proofs.YtbeidpeoichakaaGreatDoor.fm

/- Plain mathematics for layer 1: greatest common divisors by shifting and subtracting. -/
namespace Go.Proofs.YtbeidpeoichakaaGreatDoor.fm

theorem two_coprime {n : Nat} (h : n % 2 = 1) : Nat.Coprime 2 n := by
  rw [Nat.Coprime, Nat.gcd_rec, h]; rfl
theorem pow_coprime {n : Nat} (h : n % 2 = 1) (t : Nat) : Nat.Coprime (2 ^ t) n := Nat.Coprime.pow_left t (two_coprime h)

theorem gcd_odd_left {x y : Nat} (t : Nat) (hy : y % 2 = 1) : Nat.gcd (2 ^ t * x) y = Nat.gcd x y := Nat.Coprime.gcd_mul_left_cancel x (pow_coprime hy t)

/-- one step of the subtracting -/
theorem gcd_step {x y z t : Nat} (hlt : y ≤ x) (hy : y % 2 = 1) (hz : x - y = 2 ^ t * z) : Nat.gcd z y = Nat.gcd x y := by
  rw [← gcd_odd_left t hy, ← hz, Nat.gcd_sub_self_left hlt]

/-- twos on both sides -/
theorem gcd_twos {x y i j : Nat} (hx : x % 2 = 1) (hy : y % 2 = 1) : Nat.gcd (2 ^ i * x) (2 ^ j * y) = 2 ^ (min i j) * Nat.gcd x y := by
  rcases Nat.le_total i j with h | h
  · rw [Nat.min_eq_left h]
    obtain ⟨k, rfl⟩ := Nat.exists_eq_add_of_le h
    rw [Nat.pow_add, Nat.mul_assoc, Nat.gcd_mul_left]
    congr 1
    exact Nat.Coprime.gcd_mul_left_cancel_right y (pow_coprime hx k)
  · rw [Nat.min_eq_right h]
    obtain ⟨k, rfl⟩ := Nat.exists_eq_add_of_le h
    rw [Nat.pow_add, Nat.mul_assoc, Nat.gcd_mul_left]
    congr 1
    exact gcd_odd_left k hy

theorem odd_sub {x y : Nat} (hx : x % 2 = 1) (hy : y % 2 = 1) (h : y < x) : x - y ≠ 0 ∧ (x - y) % 2 = 0 := by omega

def tzF : Nat → Nat → Nat
  | 0, _ => 0
  | f + 1, x => if x % 2 = 1 then 0 else if x = 0 then 0 else 1 + tzF f (x / 2)

/-- how often 2 divides a number -/
def tz (n : Nat) : Nat := tzF n n

theorem tzF_spec : ∀ (f x : Nat), 0 < x → x ≤ f → ∃ m, x = 2 ^ tzF f x * (2 * m + 1)
  | 0, x, h0, h => by omega
  | f + 1, x, h0, h => by
    unfold tzF
    by_cases h1 : x % 2 = 1
    · rw [if_pos h1]
      exact ⟨x / 2, by simp; omega⟩
    · rw [if_neg h1, if_neg (by omega)]
      obtain ⟨m, hm⟩ := tzF_spec f (x / 2) (by omega) (by omega)
      refine ⟨m, ?_⟩
      rw [Nat.add_comm 1, Nat.pow_succ, Nat.mul_assoc, Nat.mul_comm 2, ← Nat.mul_assoc, ← hm]
      omega

theorem tz_spec {n : Nat} (h : n ≠ 0) : ∃ m, n = 2 ^ tz n * (2 * m + 1) := tzF_spec n n (by omega) (Nat.le_refl _)

theorem tz_unique_aux : ∀ (s t a b : Nat), 2 ^ s * (2 * a + 1) = 2 ^ t * (2 * b + 1) → s = t
  | 0, 0, _, _, _ => rfl
  | 0, t + 1, a, b, h => by
    rw [Nat.pow_succ, Nat.mul_comm (2 ^ t), Nat.mul_assoc] at h
    simp at h; omega
  | s + 1, 0, a, b, h => by
    rw [Nat.pow_succ, Nat.mul_comm (2 ^ s), Nat.mul_assoc] at h
    simp at h; omega
  | s + 1, t + 1, a, b, h => by
    rw [Nat.pow_succ, Nat.pow_succ, Nat.mul_comm (2 ^ s), Nat.mul_comm (2 ^ t), Nat.mul_assoc, Nat.mul_assoc] at h
    rw [tz_unique_aux s t a b (Nat.eq_of_mul_eq_mul_left (by decide) h)]

theorem tz_eq {n t m : Nat} (h : n = 2 ^ t * (2 * m + 1)) : tz n = t := by
  have h0 : n ≠ 0 := by
    have : 0 < 2 ^ t * (2 * m + 1) := Nat.mul_pos (Nat.pow_pos (by decide)) (by omega)
    omega
  obtain ⟨k, hk⟩ := tz_spec h0
  exact tz_unique_aux _ _ k m (hk.symm.trans h)

theorem tz_zero : tz 0 = 0 := rfl

/-- the number without its twos -/
theorem tz_div {n : Nat} (h : n ≠ 0) : n = 2 ^ tz n * (n / 2 ^ tz n) ∧ (n / 2 ^ tz n) % 2 = 1 := by
  obtain ⟨m, hm⟩ := tz_spec h
  have hp : 0 < 2 ^ tz n := Nat.pow_pos (by decide)
  have e : n / 2 ^ tz n = 2 * m + 1 := by
    generalize tz n = t at *
    subst hm
    exact Nat.mul_div_cancel_left _ hp
  rw [e]
  exact ⟨hm, by omega⟩

theorem tz_odd {n : Nat} (h : n % 2 = 1) : tz n = 0 := by
  refine tz_eq (m := n / 2) ?_
  rw [Nat.pow_zero]; omega

theorem tz_lt {n k : Nat} (h0 : n ≠ 0) (h : n < 2 ^ k) : tz n < k := by
  obtain ⟨m, hm⟩ := tz_spec h0
  apply Nat.lt_of_not_le
  intro hle
  have h1 : 2 ^ k ≤ 2 ^ tz n := Nat.pow_le_pow_right (by decide) hle
  have h2 : 2 ^ tz n * 1 ≤ 2 ^ tz n * (2 * m + 1) := Nat.mul_le_mul_left _ (by omega)
  omega

/-- the first word that is not 0 -/
theorem tz_word {x k c m d : Nat} (hx : x = 2 ^ c * (2 * m + 1)) (hc : c < 32) : tz (4294967296 ^ k * (x + 4294967296 * d)) = 32 * k + c := by
  refine tz_eq (m := m + 2 ^ (31 - c) * d) ?_
  have e1 : (4294967296 : Nat) ^ k = 2 ^ (32 * k) := by rw [Nat.pow_mul]
  have e2 : (4294967296 : Nat) = 2 ^ c * (2 * 2 ^ (31 - c)) := by
    rw [Nat.mul_left_comm, ← Nat.pow_add, show c + (31 - c) = 31 by omega]
  have e3 : x + 4294967296 * d = 2 ^ c * (2 * (m + 2 ^ (31 - c) * d) + 1) := by
    rw [hx]
    conv => lhs; rw [e2]
    rw [Nat.mul_assoc, ← Nat.mul_add, Nat.mul_assoc]
    congr 1
    rw [Nat.mul_add]
    omega
  rw [e3, e1, Nat.pow_add, Nat.mul_assoc]

end Go.Proofs.YtbeidpeoichakaaGreatDoor.fm
