/- Plain mathematics for layer 1: the divisor with its top bit set, and one word of the quotient. -/
import Derived.Test.YtfnfnagdecpobaaDoorFo
import Derived.Test.YtfnfnagdecpobaaDoorShelf
namespace Go.Proofs.YtfnfnagdecpobaaDoor.fp
open Go.RowKit Go.Proofs.YtfnfnagdecpobaaDoor.fm Go.Proofs.YtfnfnagdecpobaaDoor.mem

theorem bitLen_spec (x : Nat) (h0 : x ≠ 0) (h : x < 18446744073709551616) : ∃ k, Lib.bitLen x = k + 1 ∧ 2 ^ k ≤ x ∧ x < 2 ^ (k + 1) := by
  induction x using Nat.strongRecOn with
  | _ x ih =>
    have e := Lib.bitLen_half x h0 h
    by_cases h1 : x = 1
    · subst h1
      exact ⟨0, by decide +kernel, by decide, by decide⟩
    · obtain ⟨k, hk, h2, h3⟩ := ih (x / 2) (by omega) (by omega) (by omega)
      refine ⟨k + 1, by rw [e, hk]; omega, ?_, ?_⟩
      · rw [Nat.pow_succ]; omega
      · rw [Nat.pow_succ]; omega

theorem lz32 (x : Nat) (hx : x < 4294967296) (h0 : x ≠ 0) (w : World) :
    Calls Tryd.prog 90 #[.int .u32 (x : Int)] w fun e w' => ∃ s : Nat, e = .returned (.int .i64 (s : Int)) ∧ (s < 32 ∧ 2147483648 ≤ x * 2 ^ s ∧ x * 2 ^ s < 4294967296) ∧ w = w' := by
  obtain ⟨k, hk, h1, h2⟩ := bitLen_spec x h0 (by omega)
  have hk32 : k < 32 := by
    apply Nat.lt_of_not_le
    intro hle
    have : 2 ^ 32 ≤ 2 ^ k := Nat.pow_le_pow_right (by decide) hle
    omega
  refine (Any.bits_LeadingZeros32 Tryd.lays133 (x : Int) w (by omega) (by omega)).mono fun e w' ⟨he, hw⟩ => ⟨31 - k, ?_, ⟨by omega, ?_, ?_⟩, hw.symm⟩
  · rw [he, Int.toNat_natCast, hk]
    congr 2
    omega
  · have : 2 ^ k * 2 ^ (31 - k) ≤ x * 2 ^ (31 - k) := Nat.mul_le_mul_right _ h1
    rw [← Nat.pow_add, show k + (31 - k) = 31 by omega] at this
    exact this
  · have : x * 2 ^ (31 - k) < 2 ^ (k + 1) * 2 ^ (31 - k) := Nat.mul_lt_mul_of_pos_right h2 (Nat.pow_pos (by decide))
    rw [← Nat.pow_add, show k + 1 + (31 - k) = 32 by omega] at this
    exact this

/-- the divisor, shifted so that its top bit is set -/
theorem shifted (n m s : Nat) (hm : (digs n).length = m + 2) (hs : s < 32) (h1 : 2147483648 ≤ (digs n).getD (m + 1) 0 * 2 ^ s) (h2 : (digs n).getD (m + 1) 0 * 2 ^ s < 4294967296) :
    (digs (n * 2 ^ s)).length = m + 2 ∧ 2147483648 ≤ (digs (n * 2 ^ s)).getD (m + 1) 0 ∧ 0 < n * 2 ^ s ∧ n * 2 ^ s < 4294967296 ^ (m + 2) := by
  have e1 := val_split (digs n) (m + 1) (by omega)
  have e2 := val_drop (digs n) (m + 1) (by omega)
  rw [List.drop_of_length_le (show (digs n).length ≤ m + 1 + 1 by omega), show val [] = 0 from rfl] at e2
  simp only [Nat.mul_zero, Nat.add_zero] at e2
  rw [val_digs, e2] at e1
  have e3 := val_lt (ok_take (ok_digs n) (m + 1))
  rw [List.length_take, Nat.min_eq_left (by omega)] at e3
  generalize (digs n).getD (m + 1) 0 = t at *
  generalize val ((digs n).take (m + 1)) = lo at *
  have hp : 0 < 2 ^ s := Nat.pow_pos (by decide)
  have ht : t + 1 ≤ 2 ^ (32 - s) := by
    have : 2 ^ s * 2 ^ (32 - s) = 4294967296 := by rw [← Nat.pow_add, show s + (32 - s) = 32 by omega]
    rw [← this, Nat.mul_comm] at h2
    exact Nat.lt_of_mul_lt_mul_left h2
  have hq2 : (4294967296 : Nat) ^ (m + 2) = 4294967296 ^ (m + 1) * 4294967296 := by rw [Nat.pow_succ]
  have key : n * 2 ^ s < 4294967296 ^ (m + 1) * 4294967296 ∧ 4294967296 ^ (m + 1) * 2147483648 ≤ n * 2 ^ s := by
    generalize (4294967296 : Nat) ^ (m + 1) = q at *
    have h5 : 2 ^ (32 - s) * 2 ^ s = 4294967296 := by rw [← Nat.pow_add, show 32 - s + s = 32 by omega]
    generalize 2 ^ s = p at *
    constructor
    · have a1 : n + 1 ≤ q * (t + 1) := by rw [Nat.mul_add]; omega
      have a2 : n * p + p ≤ q * (t + 1) * p := by
        have := Nat.mul_le_mul_right p a1; rw [Nat.add_mul, Nat.one_mul] at this; exact this
      have a3 : q * (t + 1) * p ≤ q * 4294967296 := by
        rw [Nat.mul_assoc]
        apply Nat.mul_le_mul_left
        have := Nat.mul_le_mul_right p ht
        omega
      omega
    · have a1 : q * t ≤ n := by omega
      have a2 := Nat.mul_le_mul_right p a1
      have a3 : q * 2147483648 ≤ q * (t * p) := Nat.mul_le_mul_left _ h1
      rw [← Nat.mul_assoc] at a3
      omega
  obtain ⟨hb, hl⟩ := key
  have hpp := pow_pos' (m + 1)
  have hlen : (digs (n * 2 ^ s)).length = m + 2 := by
    have l1 := (lt_len_iff (n * 2 ^ s) (m + 2)).2 (by rw [hq2]; exact hb)
    have l2 : ¬ (digs (n * 2 ^ s)).length ≤ m + 1 := fun hle => by
      have := (lt_len_iff (n * 2 ^ s) (m + 1)).1 hle
      generalize (4294967296 : Nat) ^ (m + 1) = q at *
      omega
    omega
  refine ⟨hlen, ?_, ?_, by rw [hq2]; exact hb⟩
  · generalize n * 2 ^ s = V at *
    have f1 := val_split (digs V) (m + 1) (by omega)
    have f2 := val_drop (digs V) (m + 1) (by omega)
    rw [List.drop_of_length_le (show (digs V).length ≤ m + 1 + 1 by omega), show val [] = 0 from rfl] at f2
    simp only [Nat.mul_zero, Nat.add_zero] at f2
    rw [val_digs, f2] at f1
    have f3 := val_lt (ok_take (ok_digs V) (m + 1))
    rw [List.length_take, Nat.min_eq_left (by omega)] at f3
    apply Nat.le_of_not_lt
    intro hlt
    have h6 : 4294967296 ^ (m + 1) * ((digs V).getD (m + 1) 0 + 1) ≤ 4294967296 ^ (m + 1) * 2147483648 := Nat.mul_le_mul_left _ hlt
    rw [Nat.mul_add] at h6
    generalize (4294967296 : Nat) ^ (m + 1) = q at *
    omega
  · generalize (4294967296 : Nat) ^ (m + 1) = q at *
    omega

/-- The rest behind a place, and the part that a divisor of m + 2 words can change. -/
theorem part_val (X : List Nat) (j m V : Nat) (ho : ok X) (hj : j + (m + 3) ≤ X.length) (hV : V < 4294967296 ^ (m + 2)) (hr : val (X.drop (j + 1)) < V) :
    val ((X.drop j).take (m + 3)) = val (X.drop j) ∧ val (X.drop j) < V * 4294967296 ∧ val (X.drop (j + (m + 3))) = 0 := by
  have e1 := val_drop X j (by omega)
  have e2 := val_split (X.drop (j + 1)) (m + 2) (by simp; omega)
  rw [List.drop_drop, show j + 1 + (m + 2) = j + (m + 3) by omega] at e2
  have hz : val (X.drop (j + (m + 3))) = 0 := by
    rcases Nat.eq_zero_or_pos (val (X.drop (j + (m + 3)))) with h | h
    · exact h
    · have : 4294967296 ^ (m + 2) * 1 ≤ 4294967296 ^ (m + 2) * val (X.drop (j + (m + 3))) := Nat.mul_le_mul_left _ h
      generalize (4294967296 : Nat) ^ (m + 2) = q at *
      omega
  have e3 := val_split (X.drop j) (m + 3) (by simp; omega)
  rw [List.drop_drop, hz, Nat.mul_zero, Nat.add_zero] at e3
  have hx := ok_getD ho j
  refine ⟨e3.symm, ?_, hz⟩
  rw [e1]
  have : 4294967296 * (val (X.drop (j + 1)) + 1) ≤ 4294967296 * V := Nat.mul_le_mul_left _ hr
  rw [Nat.mul_add] at this
  rw [Nat.mul_comm V]
  omega

/-- The rest after one word of the quotient. -/
theorem part_done (X X' Q : List Nat) (j m V A q r : Nat) (hX' : X'.take j = X.take j) (hj : j + (m + 3) ≤ X.length) (hl : X'.length = X.length) (hd : X'.drop (j + (m + 3)) = X.drop (j + (m + 3)))
    (hz : val (X.drop (j + (m + 3))) = 0) (hr : val ((X'.drop j).take (m + 3)) = r) (hP : val (X.drop j) = q * V + r) (hjQ : j < Q.length)
    (hA : A = 4294967296 ^ (j + 1) * (val (Q.drop (j + 1)) * V) + val X) :
    val (X'.drop j) = r ∧ A = 4294967296 ^ j * (val ((Q.set j q).drop j) * V) + val X' := by
  have e3 := val_split (X'.drop j) (m + 3) (by simp; omega)
  rw [List.drop_drop, hd, hz, Nat.mul_zero, Nat.add_zero, hr] at e3
  refine ⟨e3, ?_⟩
  have e4 := val_split X j (by omega)
  have e5 := val_split X' j (by omega)
  rw [hX', e3] at e5
  have e6 := val_drop (Q.set j q) j (by simpa using hjQ)
  have e7 : (Q.set j q).drop (j + 1) = Q.drop (j + 1) := List.drop_set_of_lt (by omega)
  rw [e7, fm.getD_set_self Q j q hjQ] at e6
  rw [hA, e6, e5, e4, hP, Nat.pow_succ]
  generalize 4294967296 ^ j = p
  generalize val (Q.drop (j + 1)) = t
  simp only [Nat.add_mul, Nat.mul_add]
  have : p * 4294967296 * (t * V) = p * (4294967296 * t * V) := by simp only [Nat.mul_assoc]
  omega

end Go.Proofs.YtfnfnagdecpobaaDoor.fp
