/-
  DERIVED. GIVEN WITH THE SEED: THE CARDS: each row of YtbeidpeoichakaaGreatDoorRows.lean that lists a variable, with what it lists TIED to the program's text (the seventh form; the later family's looks); each row that meets fmt, with fmt's text TOLD by the authors' own Lean function (tested against real Go, not proved from fmt's source: count such statements apart). THE CARD IS WHAT COUNTS. Prove the row's statement (the work); the ties are given (YtbeidpeoichakaaGreatDoorTie.lean); close each card by the builder's one call (the guide's Derived/Test/ToyasCard.lean, 'card_holds'). Laid BY PROGRAM, IN A SANDBOX (cutbox-door.mjs). By AI agents, Wed Nov 11 2026. No macro, syntax, notation, axiom, sorry.
-/
import Derived.Test.YtbeidpeoichakaaGreatDoorRows
import GoSem.ClaimSeven
namespace Go.Proofs.YtbeidpeoichakaaGreatDoor
namespace Rows

/-- THE TIED CARD OF 'tablefinderlaw01.FractionSteps'. -/
def fractionStepsCard : Claim7 := { stood := { row := fractionStepsRow, standIns := [], harness := (true, "8a5672fecc7ecc2304ed22e4ef4906ed26b40ad2fbcebff7932b7bb54f657b4c"), looks := false }, kinds := [], alts := [], laidByText := true, laidKinds := [.data, .data, .data], laidTests := true, laidLooks := .later }
def FractionStepsCardSaid : Prop := Claim7.holds Tryz.pinned (.plain (OpenSpec.ofChange fractionStepsSpec)) fractionStepsCard

/-- THE SECOND FORM's CARD OF 'tablefinderlaw01.FractionSteps'. -/
def fractionStepsUptoCard : Claim7 := { stood := { row := fractionStepsUptoRow, standIns := [], harness := (true, "8a5672fecc7ecc2304ed22e4ef4906ed26b40ad2fbcebff7932b7bb54f657b4c"), looks := false }, kinds := [], alts := [], laidByText := true, laidKinds := [.data, .data, .data], laidTests := true, laidLooks := .later }
def FractionStepsUptoCardSaid : Prop := Claim7.holds Tryz.pinned (.plain (OpenSpec.upto fractionStepsSpec)) fractionStepsUptoCard
end Rows
end Go.Proofs.YtbeidpeoichakaaGreatDoor
