/- Plain mathematics for layer 1: greatest common divisors by shifting and subtracting. -/
import Derived.Test.YtfnfnagdecpobaaDoorFk
namespace Go.Proofs.YtfnfnagdecpobaaDoor.fm

theorem two_coprime {n : Nat} (h : n % 2 = 1) : Nat.Coprime 2 n := by
  rw [Nat.Coprime, Nat.gcd_rec, h]; rfl
theorem pow_coprime {n : Nat} (h : n % 2 = 1) (t : Nat) : Nat.Coprime (2 ^ t) n := Nat.Coprime.pow_left t (two_coprime h)

theorem gcd_odd_left {x y : Nat} (t : Nat) (hy : y % 2 = 1) : Nat.gcd (2 ^ t * x) y = Nat.gcd x y := Nat.Coprime.gcd_mul_left_cancel x (pow_coprime hy t)

/-- one step of the subtracting -/
theorem gcd_step {x y z t : Nat} (hlt : y ≤ x) (hy : y % 2 = 1) (hz : x - y = 2 ^ t * z) : Nat.gcd z y = Nat.gcd x y := by
  rw [← gcd_odd_left t hy, ← hz, Nat.gcd_sub_self_left hlt]

/-- twos on both sides -/
theorem gcd_twos {x y i j : Nat} (hx : x % 2 = 1) (hy : y % 2 = 1) : Nat.gcd (2 ^ i * x) (2 ^ j * y) = 2 ^ (min i j) * Nat.gcd x y := by
  rcases Nat.le_total i j with h | h
  · rw [Nat.min_eq_left h]
    obtain ⟨k, rfl⟩ := Nat.exists_eq_add_of_le h
    rw [Nat.pow_add, Nat.mul_assoc, Nat.gcd_mul_left]
    congr 1
    exact Nat.Coprime.gcd_mul_left_cancel_right y (pow_coprime hx k)
  · rw [Nat.min_eq_right h]
    obtain ⟨k, rfl⟩ := Nat.exists_eq_add_of_le h
    rw [Nat.pow_add, Nat.mul_assoc, Nat.gcd_mul_left]
    congr 1
    exact gcd_odd_left k hy

theorem odd_sub {x y : Nat} (hx : x % 2 = 1) (hy : y % 2 = 1) (h : y < x) : x - y ≠ 0 ∧ (x - y) % 2 = 0 := by omega

def tzF : Nat → Nat → Nat
  | 0, _ => 0
  | f + 1, x => if x % 2 = 1 then 0 else if x = 0 then 0 else 1 + tzF f (x / 2)

/-- how often 2 divides a number -/
def tz (n : Nat) : Nat := tzF n n

theorem tzF_spec : ∀ (f x : Nat), 0 < x → x ≤ f → ∃ m, x = 2 ^ tzF f x * (2 * m + 1)
  | 0, x, h0, h => by omega
  | f + 1, x, h0, h => by
    unfold tzF
    by_cases h1 : x % 2 = 1
    · rw [if_pos h1]
      exact ⟨x / 2, by simp; omega⟩
    · rw [if_neg h1, if_neg (by omega)]
      obtain ⟨m, hm⟩ := tzF_spec f (x / 2) (by omega) (by omega)
      refine ⟨m, ?_⟩
      rw [Nat.add_comm 1, Nat.pow_succ, Nat.mul_assoc, Nat.mul_comm 2, ← Nat.mul_assoc, ← hm]
      omega

theorem tz_spec {n : Nat} (h : n ≠ 0) : ∃ m, n = 2 ^ tz n * (2 * m + 1) := tzF_spec n n (by omega) (Nat.le_refl _)

theorem tz_unique_aux : ∀ (s t a b : Nat), 2 ^ s * (2 * a + 1) = 2 ^ t * (2 * b + 1) → s = t
  | 0, 0, _, _, _ => rfl
  | 0, t + 1, a, b, h => by
    rw [Nat.pow_succ, Nat.mul_comm (2 ^ t), Nat.mul_assoc] at h
    simp at h; omega
  | s + 1, 0, a, b, h => by
    rw [Nat.pow_succ, Nat.mul_comm (2 ^ s), Nat.mul_assoc] at h
    simp at h; omega
  | s + 1, t + 1, a, b, h => by
    rw [Nat.pow_succ, Nat.pow_succ, Nat.mul_comm (2 ^ s), Nat.mul_comm (2 ^ t), Nat.mul_assoc, Nat.mul_assoc] at h
    rw [tz_unique_aux s t a b (Nat.eq_of_mul_eq_mul_left (by decide) h)]

theorem tz_eq {n t m : Nat} (h : n = 2 ^ t * (2 * m + 1)) : tz n = t := by
  have h0 : n ≠ 0 := by
    have : 0 < 2 ^ t * (2 * m + 1) := Nat.mul_pos (Nat.pow_pos (by decide)) (by omega)
    omega
  obtain ⟨k, hk⟩ := tz_spec h0
  exact tz_unique_aux _ _ k m (hk.symm.trans h)

theorem tz_zero : tz 0 = 0 := rfl

/-- the number without its twos -/
theorem tz_div {n : Nat} (h : n ≠ 0) : n = 2 ^ tz n * (n / 2 ^ tz n) ∧ (n / 2 ^ tz n) % 2 = 1 := by
  obtain ⟨m, hm⟩ := tz_spec h
  have hp : 0 < 2 ^ tz n := Nat.pow_pos (by decide)
  have e : n / 2 ^ tz n = 2 * m + 1 := by
    generalize tz n = t at *
    subst hm
    exact Nat.mul_div_cancel_left _ hp
  rw [e]
  exact ⟨hm, by omega⟩

theorem tz_odd {n : Nat} (h : n % 2 = 1) : tz n = 0 := by
  refine tz_eq (m := n / 2) ?_
  rw [Nat.pow_zero]; omega

theorem tz_lt {n k : Nat} (h0 : n ≠ 0) (h : n < 2 ^ k) : tz n < k := by
  obtain ⟨m, hm⟩ := tz_spec h0
  apply Nat.lt_of_not_le
  intro hle
  have h1 : 2 ^ k ≤ 2 ^ tz n := Nat.pow_le_pow_right (by decide) hle
  have h2 : 2 ^ tz n * 1 ≤ 2 ^ tz n * (2 * m + 1) := Nat.mul_le_mul_left _ (by omega)
  omega

/-- the first word that is not 0 -/
theorem tz_word {x k c m d : Nat} (hx : x = 2 ^ c * (2 * m + 1)) (hc : c < 32) : tz (4294967296 ^ k * (x + 4294967296 * d)) = 32 * k + c := by
  refine tz_eq (m := m + 2 ^ (31 - c) * d) ?_
  have e1 : (4294967296 : Nat) ^ k = 2 ^ (32 * k) := by rw [Nat.pow_mul]
  have e2 : (4294967296 : Nat) = 2 ^ c * (2 * 2 ^ (31 - c)) := by
    rw [Nat.mul_left_comm, ← Nat.pow_add, show c + (31 - c) = 31 by omega]
  have e3 : x + 4294967296 * d = 2 ^ c * (2 * (m + 2 ^ (31 - c) * d) + 1) := by
    rw [hx]
    conv => lhs; rw [e2]
    rw [Nat.mul_assoc, ← Nat.mul_add, Nat.mul_assoc]
    congr 1
    rw [Nat.mul_add]
    omega
  rw [e3, e1, Nat.pow_add, Nat.mul_assoc]

end Go.Proofs.YtfnfnagdecpobaaDoor.fm
