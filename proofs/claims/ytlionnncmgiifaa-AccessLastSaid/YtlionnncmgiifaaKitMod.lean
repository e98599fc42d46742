/- The contract of tablefinderkit.Mod for a positive divisor that is not too large: the remainder from 0 on. -/
import Derived.Test.YtlionnncmgiifaaRows
import Derived.WalkKit
import Derived.ProofKit
import Derived.OpenShut
import Derived.Lib.Hide
namespace Go.Proofs.Ytlionnncmgiifaa.kitMod
open Go.RowKit

theorem mod_bounds (n m : Int) (h1 : 1 ≤ m) : -m < n.tmod m ∧ n.tmod m < m := by
  constructor
  · have := Int.lt_tmod_of_pos n (show 0 < m by omega); omega
  · exact Int.tmod_lt_of_pos n (by omega)

theorem mod_form (n m : Int) (h1 : 1 ≤ m) : (n.tmod m + m) % m = n % m := by
  rw [Int.add_emod_right, Int.tmod_eq_emod]
  split
  · simp
  · rw [show ((m.natAbs : Nat) : Int) = m by omega]; simp

theorem ret_int {k : IntKind} {a b : Int} (h : a = b) : Ending.returned (.int k a) = .returned (.int k b) := by rw [h]

set_option maxHeartbeats 400000 in
theorem mod_any (n m : Int) (w : World) (h1 : 1 ≤ m) (h2 : m ≤ 4611686018427387904) :
    Calls Try.prog 20 #[.int .i64 n, .int .i64 m] w fun e w' => e = .returned (.int .i64 (n % m)) ∧ w = w' := by
  have hb := mod_bounds n m h1
  have hf := mod_form n m h1
  have hlo := hb.1
  have hhi := hb.2
  have hp : 0 ≤ n.tmod m + m := by omega
  have H := Lib.hid hf
  clear hf hb
  go_enter Try.func20, Try.ntmps20
  go_wp2
  go_ret
  exact ⟨ret_int H.out, rfl⟩

theorem mod_some (n m : Int) (w : World) (h1 : 1 ≤ m) (h2 : m ≤ 4611686018427387904) :
    Calls Try.prog 20 #[.int .i64 n, .int .i64 m] w fun e w' => ∃ r : Int, e = .returned (.int .i64 r) ∧ (0 ≤ r ∧ r < m) ∧ w = w' :=
  (mod_any n m w h1 h2).mono fun _ _ ⟨he, hw⟩ => ⟨n % m, he, ⟨Int.emod_nonneg _ (by omega), Int.emod_lt_of_pos _ (by omega)⟩, hw⟩

end Go.Proofs.Ytlionnncmgiifaa.kitMod
