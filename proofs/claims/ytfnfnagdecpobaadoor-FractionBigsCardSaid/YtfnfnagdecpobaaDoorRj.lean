/- law 01: FractionBigs: a region by its number. -/
import Derived.Test.YtfnfnagdecpobaaDoorRh
set_option linter.unusedVariables false
namespace Go.Proofs.YtfnfnagdecpobaaDoor.rj
open Go.RowKit

def regionOf (n : Nat) : Code → Option Code
  | .region k ops b => if k = n then some (.region k ops b) else none
  | .loop c => regionOf n c
  | .seq a b => match regionOf n a with
    | some c => some c
    | none => regionOf n b
  | .block _ c => regionOf n c
  | .scope c => regionOf n c
  | .cond _ a b => match regionOf n a with
    | some c => some c
    | none => regionOf n b
  | _ => none

noncomputable def reg (n : Nat) : Code := (Tryd.f3.body.bind (regionOf n)).getD .skip

theorem oddly_open {w : World} {e : Ending} {w' : World} (h : rf.Oddly w e w') : ∃ n A c x, e = .returned (.agg #[.bool n, .slice A x.length c]) ∧ mem.Rd w' w'.heap.size A c x ∧ x.length ≤ 257 ∧ Below w.heap.size w w' := h

end Go.Proofs.YtfnfnagdecpobaaDoor.rj
