/- The decimal digits of a number, nine at a time. -/
import Derived.Test.YtfnfnagdecpobaaDoorFm
import Derived.Lib.ItoaNum
import Derived.Lib.ItoaLen
namespace Go.Proofs.YtfnfnagdecpobaaDoor.ha
open Go.Lib

/-- the last k digits of p -/
def pad : Nat → Nat → List UInt8
  | 0, _ => []
  | k + 1, p => pad k (p / 10) ++ [UInt8.ofNat (48 + p % 10)]

theorem pad_zero : ∀ k, pad k 0 = List.replicate k 48
  | 0 => rfl
  | k + 1 => by
    rw [pad, Nat.zero_div, pad_zero k, List.replicate_succ']
    rfl

theorem dec_pad : ∀ (k q p : Nat), q ≠ 0 → p < 10 ^ k → decDigits (q * 10 ^ k + p) = decDigits q ++ pad k p
  | 0, q, p, _, hp => by
    have : p = 0 := by simpa using hp
    subst this
    simp [pad]
  | k + 1, q, p, hq, hp => by
    rw [Nat.pow_succ] at hp ⊢
    have hk : 1 ≤ 10 ^ k := Nat.one_le_pow _ _ (by decide)
    have h1 : 10 ≤ q * (10 ^ k * 10) + p := by
      have : 1 * (1 * 10) ≤ q * (10 ^ k * 10) := Nat.mul_le_mul (by omega) (Nat.mul_le_mul hk (Nat.le_refl _))
      omega
    rw [decDigits, dif_neg (by omega), pad, ← List.append_assoc]
    have e1 : (q * (10 ^ k * 10) + p) / 10 = q * 10 ^ k + p / 10 := by
      rw [show q * (10 ^ k * 10) = q * 10 ^ k * 10 by rw [Nat.mul_assoc]]
      generalize q * 10 ^ k = a
      omega
    have e2 : (q * (10 ^ k * 10) + p) % 10 = p % 10 := by
      rw [show q * (10 ^ k * 10) = q * 10 ^ k * 10 by rw [Nat.mul_assoc]]
      generalize q * 10 ^ k = a
      omega
    rw [e1, e2, dec_pad k q (p / 10) hq (by omega)]

theorem pad_dec : ∀ (k p : Nat), p < 10 ^ (k + 1) → pad (k + 1) p = List.replicate (k + 1 - (decDigits p).length) 48 ++ decDigits p
  | 0, p, hp => by
    have hp' : p < 10 := by simpa using hp
    rw [decDigits, dif_pos hp', pad, pad]
    simp [Nat.mod_eq_of_lt hp']
  | k + 1, p, hp => by
    rw [Nat.pow_succ] at hp
    by_cases h : p < 10
    · rw [decDigits, dif_pos h, pad, show p / 10 = 0 by omega, pad_zero]
      simp [Nat.mod_eq_of_lt h]
    · have e : decDigits p = decDigits (p / 10) ++ [UInt8.ofNat (48 + p % 10)] := by
        conv => lhs; rw [decDigits, dif_neg h]
      rw [pad, pad_dec k (p / 10) (by omega), e, List.append_assoc, List.length_append, List.length_singleton]
      rw [show k + 1 + 1 - ((decDigits (p / 10)).length + 1) = k + 1 - (decDigits (p / 10)).length by omega]

theorem dec_nine (q p : Nat) (hq : q ≠ 0) (hp : p < 1000000000) : decDigits (q * 1000000000 + p) = decDigits q ++ (List.replicate (9 - (decDigits p).length) 48 ++ decDigits p) := by
  have h := dec_pad 9 q p hq (by simpa using hp)
  rw [pad_dec 8 p (by simpa using hp)] at h
  simpa using h

theorem nDigits_le : ∀ (k u : Nat), 1 ≤ k → u < 10 ^ k → nDigits u ≤ k
  | 0, _, h, _ => absurd h (by decide)
  | k + 1, u, _, h => by
    by_cases hs : u < 10
    · rw [nDigits_small hs]; omega
    · rw [nDigits_big hs]
      rw [Nat.pow_succ] at h
      have hk : 1 ≤ k := by
        rcases Nat.eq_zero_or_pos k with e | e
        · subst e; simp at h; omega
        · exact e
      have := nDigits_le k (u / 10) hk (by omega)
      omega

theorem dec_len {p : Nat} (hp : p < 1000000000) : (decDigits p).length ≤ 9 := by
  rw [decDigits_length]
  exact nDigits_le 9 p (by decide) (by simpa using hp)

theorem dec_long {n k : Nat} (hk : 1 ≤ k) (h : n < 4294967296 ^ k) : (decDigits n).length ≤ 10 * k := by
  rw [decDigits_length]
  refine nDigits_le _ _ (by omega) (Nat.lt_of_lt_of_le h ?_)
  rw [Nat.pow_mul]
  exact Nat.pow_le_pow_left (by decide) k

theorem dec_ne (n : Nat) : decDigits n ≠ [] := by
  rw [decDigits]
  split <;> simp

end Go.Proofs.YtfnfnagdecpobaaDoor.ha
