/- text.Valid at "é"; text.Trim at " a ". -/
import Derived.Test.YthfkkpkfkobnpaaDoorProg
import Derived.WalkKit
import Derived.WalkSmall
import Derived.ProofKit
import Derived.OpenShut
import Derived.Lib.Hide
import Derived.Handy
import Derived.LoopN
import Derived.Deep.QuietTactic
import Derived.BigQuiet
import Derived.Deep.RegionHeld3
set_option linter.unusedSimpArgs false
set_option linter.unusedVariables false
namespace Go.Proofs.YthfkkpkfkobnpaaDoor.sane
open Go.RowKit

/-- the places of utf8's tables that the example reads -/
structure Utf (w : World) : Prop where
  f : w.cell? ⟨0, 195, none⟩ = some (.int .u8 2)
  a : w.cell? ⟨1, 0, none⟩ = some (.int .u8 128)
  b : w.cell? ⟨1, 1, none⟩ = some (.int .u8 191)

theorem below_q {B : Nat} {w w' : World} (h : Below B w w') (k : Nat) : Below B w (w'.drewN k) := ⟨h.os, h.tape, h.output, h.size, h.block⟩

theorem cell_alloc_sane {W : World} {a : Addr} {v : Value} (o : Obj) (h : W.cell? a = some v) : (W.alloc o).cell? a = some v := by
  rw [World.cell?_alloc_lt _ _ _ (World.block_lt_of_cell? W _ h)]
  exact h

set_option maxRecDepth 100000 in
set_option maxHeartbeats 1000000 in
theorem valid_e (w : World) (hU : Utf w) :
    Calls Tryd.prog 36 #[.string ⟨#[195, 169]⟩] w fun e w' => e = .returned (.bool true) ∧ Below w.heap.size w w' := by
  obtain ⟨h1, h2, h3⟩ := hU
  have e0 : (({ data := #[195, 169] } : ByteArray)[0]'(by decide)).toNat = 195 := rfl
  have e1 : (({ data := #[195, 169] } : ByteArray)[1]'(by decide)).toNat = 169 := rfl
  have g2 := cell_alloc_sane (.cells #[.int .u8 128, .int .u8 191] 69) h2
  go_enter Tryd.func36, Tryd.ntmps36
  go_wp2_with fail
  refine wp_loop_rounds 2 ?_
  rw [rounds_succ]
  go_wp2_with fail
  go_quiet (fail)
  go_wp2_with fail
  rw [rounds_succ]
  go_wp2_with fail
  go_ret
  exact ⟨rfl, below_q ((Below.refl _ w).alloc (Nat.le_refl _) _) _⟩

set_option maxRecDepth 100000 in
set_option maxHeartbeats 1000000 in
theorem trimR (w : World) : Calls Tryd.prog 54 #[.string ⟨#[32, 97, 32]⟩, .int .u8 32] w fun e w' => e = .returned (.string ⟨#[32, 97]⟩) ∧ w' = w := by
  have e1 : (({ data := #[32, 97, 32] } : ByteArray)[1]'(by decide)).toNat = 97 := rfl
  have e2 : (({ data := #[32, 97, 32] } : ByteArray)[2]'(by decide)).toNat = 32 := rfl
  go_enter Tryd.func54, Tryd.ntmps54
  go_wp2
  have x1 : ({ data := #[32, 97, 32] } : ByteArray).extract 0 2 = ⟨#[32, 97]⟩ := by kernel_rfl
  have y1 : (({ data := #[32, 97] } : ByteArray)[1]'(by decide)).toNat = 97 := rfl
  refine wp_loop_rounds 3 ?_
  rw [rounds_succ]
  go_wp2
  rw [rounds_succ]
  go_wp2
  go_ret
  exact ⟨rfl, rfl⟩

set_option maxRecDepth 100000 in
set_option maxHeartbeats 1000000 in
theorem trimL (w : World) : Calls Tryd.prog 53 #[.string ⟨#[32, 97]⟩, .int .u8 32] w fun e w' => e = .returned (.string ⟨#[97]⟩) ∧ w' = w := by
  have e1 : (({ data := #[32, 97] } : ByteArray)[0]'(by decide)).toNat = 32 := rfl
  have x1 : ({ data := #[32, 97] } : ByteArray).extract 1 2 = ⟨#[97]⟩ := by kernel_rfl
  have y1 : (({ data := #[97] } : ByteArray)[0]'(by decide)).toNat = 97 := rfl
  go_enter Tryd.func53, Tryd.ntmps53
  go_wp2
  refine wp_loop_rounds 3 ?_
  rw [rounds_succ]
  go_wp2
  rw [rounds_succ]
  go_wp2
  go_ret
  exact ⟨rfl, rfl⟩

set_option maxRecDepth 100000 in
set_option maxHeartbeats 1000000 in
theorem trim_a (w : World) :
    Calls Tryd.prog 18 #[.string ⟨#[32, 97, 32]⟩] w fun e w' => e = .returned (.string ⟨#[97]⟩) ∧ Below w.heap.size w w' := by
  have e0 : (({ data := #[32, 97, 32] } : ByteArray)[0]'(by decide)).toNat = 32 := rfl
  have e1 : (({ data := #[32, 97, 32] } : ByteArray)[1]'(by decide)).toNat = 97 := rfl
  have e2 : (({ data := #[32, 97, 32] } : ByteArray)[2]'(by decide)).toNat = 32 := rfl
  have s0 : (({ data := #[32] } : ByteArray)[0]'(by decide)).toNat = 32 := rfl
  go_enter Tryd.func18, Tryd.ntmps18
  go_wp2
  go_quiet (first | (go_at_call 54; exact Calls.quiet_of_same (trimR _)) | (go_at_call 53; exact Calls.quiet_of_same (trimL _)))
  go_wp2
  go_ret
  exact ⟨rfl, below_q (Below.refl _ w) _⟩
end Go.Proofs.YthfkkpkfkobnpaaDoor.sane
