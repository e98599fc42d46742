/- Plain mathematics for layer 1: what one step of addition, subtraction, multiplication and division by a word does. -/
import Derived.Test.YtfnfnagdecpobaaDoorFm
namespace Go.Proofs.YtfnfnagdecpobaaDoor.fm

theorem getD_ge {l : List Nat} {i : Nat} (h : l.length ≤ i) : l.getD i 0 = 0 := by
  rw [List.getD_eq_getElem?_getD, List.getElem?_eq_none h]; rfl

/-- the value of a longer beginning, also beyond the end -/
theorem val_take_next (l : List Nat) (k : Nat) : val (l.take (k + 1)) = val (l.take k) + 4294967296 ^ k * l.getD k 0 := by
  rcases Nat.lt_or_ge k l.length with h | h
  · exact val_take_succ l k h
  · rw [getD_ge h, List.take_of_length_le h, List.take_of_length_le (by omega)]; omega

theorem take_set_same (S : List Nat) (i : Nat) (x : Nat) : (S.set i x).take i = S.take i := by
  rw [List.take_set_of_le (Nat.le_refl i)]

theorem getD_set_self (S : List Nat) (i : Nat) (x : Nat) (h : i < S.length) : (S.set i x).getD i 0 = x := by
  rw [List.getD_eq_getElem?_getD, List.getElem?_set_self h]; rfl

theorem getD_set_ne (S : List Nat) (i j : Nat) (x : Nat) (h : i ≠ j) : (S.set i x).getD j 0 = S.getD j 0 := by
  rw [List.getD_eq_getElem?_getD, List.getElem?_set_ne h, ← List.getD_eq_getElem?_getD]

theorem ok_set {S : List Nat} (h : ok S) (i : Nat) {x : Nat} (hx : x < 4294967296) : ok (S.set i x) := by
  intro y hy
  rcases List.mem_or_eq_of_mem_set hy with h1 | h1
  · exact h y h1
  · omega

theorem val_take_set (S : List Nat) (i x : Nat) (h : i < S.length) : val ((S.set i x).take (i + 1)) = val (S.take i) + 4294967296 ^ i * x := by
  rw [val_take_next, take_set_same, getD_set_self S i x h]

theorem val_set (S : List Nat) (i x : Nat) (h : i < S.length) : val (S.set i x) + 4294967296 ^ i * S.getD i 0 = val S + 4294967296 ^ i * x := by
  have h1 := val_split S i (by omega)
  have h2 := val_split (S.set i x) i (by simp; omega)
  have h3 := val_drop S i h
  have h4 := val_drop (S.set i x) i (by simpa using h)
  have h5 : (S.set i x).drop (i + 1) = S.drop (i + 1) := List.drop_set_of_lt (by omega)
  rw [take_set_same] at h2
  rw [h5, getD_set_self S i x h] at h4
  rw [h1, h2, h3, h4, Nat.mul_add, Nat.mul_add]
  omega

/-- addition: a longer carry -/
theorem add_step (a b S : List Nat) (i c : Nat) (hi : i < S.length)
    (E : val (S.take i) + 4294967296 ^ i * c = val (a.take i) + val (b.take i)) :
    val ((S.set i ((c + a.getD i 0 + b.getD i 0) % 4294967296)).take (i + 1)) + 4294967296 ^ (i + 1) * ((c + a.getD i 0 + b.getD i 0) / 4294967296) = val (a.take (i + 1)) + val (b.take (i + 1)) := by
  rw [val_take_set _ _ _ hi, val_take_next a, val_take_next b, Nat.pow_succ]
  generalize 4294967296 ^ i = p at *
  have h1 := Nat.div_add_mod (c + a.getD i 0 + b.getD i 0) 4294967296
  generalize (c + a.getD i 0 + b.getD i 0) / 4294967296 = q at *
  generalize (c + a.getD i 0 + b.getD i 0) % 4294967296 = r at *
  have h2 : p * (4294967296 * q + r) = p * (c + a.getD i 0 + b.getD i 0) := by rw [h1]
  rw [Nat.mul_add, Nat.mul_add, Nat.mul_add, ← Nat.mul_assoc] at h2
  omega

/-- subtraction: d is the digit, r the next borrow -/
theorem sub_step (a b S : List Nat) (i r d r' : Nat) (hi : i < S.length) (hd : d + b.getD i 0 + r = a.getD i 0 + 4294967296 * r')
    (E : val (S.take i) + val (b.take i) = val (a.take i) + 4294967296 ^ i * r) :
    val ((S.set i d).take (i + 1)) + val (b.take (i + 1)) = val (a.take (i + 1)) + 4294967296 ^ (i + 1) * r' := by
  rw [val_take_set _ _ _ hi, val_take_next a, val_take_next b, Nat.pow_succ]
  generalize 4294967296 ^ i = p at *
  have h2 : p * (d + b.getD i 0 + r) = p * (a.getD i 0 + 4294967296 * r') := by rw [hd]
  rw [Nat.mul_add, Nat.mul_add, Nat.mul_add, ← Nat.mul_assoc] at h2
  omega

/-- multiplication by a word: one more digit of b -/
theorem mul_step (b P : List Nat) (x i j c V : Nat) (hi : i + j < P.length)
    (E : val P + 4294967296 ^ (i + j) * c = V + 4294967296 ^ i * (x * val (b.take j))) :
    val (P.set (i + j) ((c + x * b.getD j 0 + P.getD (i + j) 0) % 4294967296)) + 4294967296 ^ (i + (j + 1)) * ((c + x * b.getD j 0 + P.getD (i + j) 0) / 4294967296)
      = V + 4294967296 ^ i * (x * val (b.take (j + 1))) := by
  have hs := val_set P (i + j) ((c + x * b.getD j 0 + P.getD (i + j) 0) % 4294967296) hi
  have h1 := Nat.div_add_mod (c + x * b.getD j 0 + P.getD (i + j) 0) 4294967296
  rw [val_take_next, ← Nat.add_assoc, Nat.pow_succ]
  have e1 : 4294967296 ^ i * (x * (val (b.take j) + 4294967296 ^ j * b.getD j 0)) = 4294967296 ^ i * (x * val (b.take j)) + 4294967296 ^ (i + j) * (x * b.getD j 0) := by
    rw [Nat.mul_add, Nat.mul_add, Nat.pow_add]
    congr 1
    rw [Nat.mul_left_comm x, Nat.mul_assoc]
  rw [e1]
  generalize 4294967296 ^ (i + j) = p at *
  generalize x * b.getD j 0 = y at *
  generalize P.getD (i + j) 0 = z at *
  generalize hq : (c + y + z) / 4294967296 = q at *
  generalize hr : (c + y + z) % 4294967296 = r at *
  have h2 : p * (4294967296 * q + r) = p * (c + y + z) := by rw [h1]
  rw [Nat.mul_add, Nat.mul_add, Nat.mul_add, ← Nat.mul_assoc] at h2
  omega

/-- long division by a word, from the top down -/
theorem div_step (a Q : List Nat) (i b rest q r : Nat) (hi : i < a.length) (hq : i < Q.length) (hd : rest * 4294967296 + a.getD i 0 = q * b + r)
    (E : val (a.drop (i + 1)) = val (Q.drop (i + 1)) * b + rest) :
    val (a.drop i) = val ((Q.set i q).drop i) * b + r := by
  have h4 := val_drop (Q.set i q) i (by simpa using hq)
  have h5 : (Q.set i q).drop (i + 1) = Q.drop (i + 1) := List.drop_set_of_lt (by omega)
  rw [h5, getD_set_self Q i q hq] at h4
  rw [val_drop a i hi, h4, E]
  rw [Nat.add_mul, Nat.mul_add, Nat.mul_assoc]
  omega

theorem ok_replicate (n : Nat) : ok (List.replicate n 0) := by
  intro x hx; rw [List.eq_of_mem_replicate hx]; decide
theorem val_replicate (n : Nat) : val (List.replicate n 0) = 0 := by
  induction n with
  | zero => rfl
  | succ n ih => rw [List.replicate_succ]; simp [val, ih]

end Go.Proofs.YtfnfnagdecpobaaDoor.fm
