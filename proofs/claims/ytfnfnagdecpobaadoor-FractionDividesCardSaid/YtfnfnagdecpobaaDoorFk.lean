/- Plain mathematics for layer 1: long division, word by word of the quotient. -/
import Derived.Test.YtfnfnagdecpobaaDoorFn
namespace Go.Proofs.YtfnfnagdecpobaaDoor.fm

/-- the guess is too great: by the second test -/
theorem guess_over (V U p v1 v2 vl u2 ul top d rest : Nat) (hV : V = v1 * 4294967296 * p + v2 * p + vl) (hU : U = top * 4294967296 * p + u2 * p + ul) (hul : ul < p)
    (hd : d * v1 + rest = top) (ht : rest * 4294967296 + u2 < d * v2) : U < d * V := by
  have e1 : d * V = d * v1 * 4294967296 * p + d * v2 * p + d * vl := by
    rw [hV, Nat.mul_add, Nat.mul_add]; simp only [Nat.mul_assoc]
  have e2 : (rest * 4294967296 + u2 + 1) * p ≤ d * v2 * p := Nat.mul_le_mul_right _ ht
  have e3 : top * 4294967296 * p = d * v1 * 4294967296 * p + rest * 4294967296 * p := by rw [← hd, Nat.add_mul, Nat.add_mul]
  rw [Nat.add_mul, Nat.add_mul, Nat.one_mul] at e2
  rw [hU, e1, e3]
  omega

/-- the guess is too great: it is no word -/
theorem guess_wide (V U d : Nat) (h : U < V * 4294967296) (hd : 4294967296 ≤ d) : U < d * V := by
  have := Nat.mul_le_mul_right V hd
  rw [Nat.mul_comm V] at h
  omega

/-- the guess is at most one too great -/
theorem guess_near (V U p v1 v2 vl u2 ul top d rest : Nat) (hV : V = v1 * 4294967296 * p + v2 * p + vl) (hU : U = top * 4294967296 * p + u2 * p + ul) (hvl : vl < p)
    (hd : d * v1 + rest = top) (hw : d < 4294967296) (h1 : 1 ≤ v1) (ht : d * v2 ≤ rest * 4294967296 + u2) : d * V ≤ U + V := by
  have e1 : d * V = d * v1 * 4294967296 * p + d * v2 * p + d * vl := by
    rw [hV, Nat.mul_add, Nat.mul_add]; simp only [Nat.mul_assoc]
  have e2 : d * v2 * p ≤ (rest * 4294967296 + u2) * p := Nat.mul_le_mul_right _ ht
  have e3 : top * 4294967296 * p = d * v1 * 4294967296 * p + rest * 4294967296 * p := by rw [← hd, Nat.add_mul, Nat.add_mul]
  have e4 : d * vl ≤ 4294967296 * p := Nat.mul_le_mul (Nat.le_of_lt hw) (Nat.le_of_lt hvl)
  have e5 : 1 * 4294967296 * p ≤ v1 * 4294967296 * p := Nat.mul_le_mul_right _ (Nat.mul_le_mul_right _ h1)
  rw [Nat.add_mul] at e2
  rw [Nat.one_mul] at e5
  rw [e1]
  omega

/-- the loop of the guess was left because the rest is no word -/
theorem guess_break (v1 v2 u2 top d rest : Nat) (hd : d * v1 + rest = top) (hr : 4294967296 ≤ rest) (ht : top < v1 * 4294967296 + 4294967296) (hv2 : v2 < 4294967296) :
    d < 4294967296 ∧ d * v2 ≤ rest * 4294967296 + u2 := by
  have h1 : d < 4294967296 := by
    rcases Nat.lt_or_ge d 4294967296 with h | h
    · exact h
    · have := Nat.mul_le_mul_right v1 h
      rw [Nat.mul_comm v1] at ht
      omega
  refine ⟨h1, ?_⟩
  have := Nat.mul_le_mul (Nat.le_of_lt h1) (Nat.le_of_lt hv2)
  have := Nat.mul_le_mul_right 4294967296 hr
  omega

/-- the first guess is not too small -/
theorem guess_first (V U p v1 v2 vl u2 ul top d rest : Nat) (hV : V = v1 * 4294967296 * p + v2 * p + vl) (hU : U = top * 4294967296 * p + u2 * p + ul) (hul : ul < p) (hu2 : u2 < 4294967296)
    (hd : d * v1 + rest = top) (hr : rest < v1) : U < (d + 1) * V := by
  have e0 : top + 1 ≤ (d + 1) * v1 := by rw [Nat.add_mul]; omega
  have e1 : (top + 1) * 4294967296 * p ≤ (d + 1) * v1 * 4294967296 * p := Nat.mul_le_mul_right _ (Nat.mul_le_mul_right _ e0)
  have e2 : (d + 1) * V = (d + 1) * v1 * 4294967296 * p + (d + 1) * v2 * p + (d + 1) * vl := by
    rw [hV, Nat.mul_add, Nat.mul_add]; simp only [Nat.mul_assoc]
  have e3 : (u2 + 1) * p ≤ 4294967296 * p := Nat.mul_le_mul_right _ hu2
  rw [Nat.add_mul, Nat.one_mul] at e3
  rw [Nat.add_mul, Nat.add_mul, Nat.one_mul] at e1
  rw [hU, e2]
  omega

/-- the top word of the rest is not above the divisor's -/
theorem guess_top (V U p v1 v2 vl u2 ul un um : Nat) (hV : V = v1 * 4294967296 * p + v2 * p + vl) (hU : U = (un * 4294967296 + um) * 4294967296 * p + u2 * p + ul) (hvl : vl < p) (hv2 : v2 < 4294967296)
    (h : U < V * 4294967296) (hum : um < 4294967296) : un ≤ v1 ∧ un * 4294967296 + um < v1 * 4294967296 + 4294967296 := by
  have a : un ≤ v1 := by
    rcases Nat.lt_or_ge v1 un with hlt | hge
    · exfalso
      have e1 : (v1 + 1) * 4294967296 * 4294967296 * p ≤ un * 4294967296 * 4294967296 * p := Nat.mul_le_mul_right _ (Nat.mul_le_mul_right _ (Nat.mul_le_mul_right _ hlt))
      have e3 : (v2 + 1) * p ≤ 4294967296 * p := Nat.mul_le_mul_right _ hv2
      rw [Nat.add_mul, Nat.one_mul] at e3
      rw [Nat.add_mul, Nat.one_mul, Nat.add_mul, Nat.add_mul] at e1
      rw [Nat.add_mul, Nat.add_mul] at hU
      have e4 : V * 4294967296 = v1 * 4294967296 * 4294967296 * p + (v2 * p + vl) * 4294967296 := by
        rw [hV, Nat.add_assoc, Nat.add_mul]
        congr 1
        rw [Nat.mul_right_comm _ p]
      rw [e4] at h
      omega
    · exact hge
  exact ⟨a, by omega⟩

theorem first_digit (v1 top d rest : Nat) (hd : d * v1 + rest = top) (h1 : 2147483648 ≤ v1) (ht : top < v1 * 4294967296 + 4294967296) : d ≤ 4294967297 := by
  apply Nat.le_of_not_lt
  intro h
  have h2 : 4294967298 ≤ d := by omega
  have h3 : 4294967298 * v1 ≤ d * v1 := Nat.mul_le_mul_right v1 h2
  generalize d * v1 = x at *
  omega

theorem div_of_bounds (U V d : Nat) (hV : 0 < V) (h1 : d * V ≤ U) (h2 : U < (d + 1) * V) : U / V = d ∧ U % V = U - d * V := by
  have e : U / V = d := by
    rw [Nat.div_eq_iff hV]
    rw [Nat.add_mul, Nat.one_mul] at h2
    omega
  have := Nat.div_add_mod U V
  rw [e, Nat.mul_comm] at this
  exact ⟨e, by omega⟩

/-- one word of subtracting a product -/
theorem subprod_step (u v S : List Nat) (i dg c r d r' : Nat) (hi : i < S.length)
    (hd : d + (c + dg * v.getD i 0) % 4294967296 + r = u.getD i 0 + 4294967296 * r')
    (E : val (S.take i) + dg * val (v.take i) = val (u.take i) + 4294967296 ^ i * (c + r)) :
    val ((S.set i d).take (i + 1)) + dg * val (v.take (i + 1)) = val (u.take (i + 1)) + 4294967296 ^ (i + 1) * ((c + dg * v.getD i 0) / 4294967296 + r') := by
  rw [val_take_set _ _ _ hi, val_take_next v, val_take_next u, Nat.pow_succ, Nat.mul_add dg, Nat.mul_left_comm dg]
  have h1 := Nat.div_add_mod (c + dg * v.getD i 0) 4294967296
  generalize 4294967296 ^ i = p at *
  generalize dg * v.getD i 0 = y at *
  generalize (c + y) / 4294967296 = q at *
  generalize (c + y) % 4294967296 = l at *
  have h2 : p * (d + l + r) = p * (u.getD i 0 + 4294967296 * r') := by rw [hd]
  have h3 : p * (4294967296 * q + l) = p * (c + y) := by rw [h1]
  simp only [Nat.mul_add, ← Nat.mul_assoc] at h2 h3 E ⊢
  omega

end Go.Proofs.YtfnfnagdecpobaaDoor.fm
