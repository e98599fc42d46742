/-
  DERIVED. GIVEN WITH THE SEED: THE CARDS: each row of YtbeidpeoichakaaDoorRows.lean that lists a variable, with what it lists TIED to the program's text (the seventh form; the later family's looks); each row that meets fmt, with fmt's text TOLD by the authors' own Lean function (tested against real Go, not proved from fmt's source: count such statements apart). THE CARD IS WHAT COUNTS. Prove the row's statement (the work); the ties are given (YtbeidpeoichakaaDoorTie.lean); close each card by the builder's one call (the guide's Derived/Test/ToyasCard.lean, 'card_holds'). Laid BY PROGRAM, IN A SANDBOX (cutbox-door.mjs). By AI agents, Wed Nov 11 2026. No macro, syntax, notation, axiom, sorry.
-/
import Derived.Test.YtbeidpeoichakaaDoorRows
import GoSem.ClaimSeven
namespace Go.Proofs.YtbeidpeoichakaaDoor
namespace Rows

/-- THE TIED CARD OF 'tablefinderlaw20.ContainmentKinds'. -/
def containmentKindsCard : Claim7 := { stood := { row := containmentKindsRow, standIns := [], harness := (true, "9f5c699af6ad5d434d32d0dfafdd2887c4d34a9010df0c7ac0b143a71443d0ee"), looks := false }, kinds := [], alts := [], laidByText := true, laidKinds := [.data, .data], laidTests := true, laidLooks := .later }
def ContainmentKindsCardSaid : Prop := Claim7.holds Tryd.pinned (.plain (OpenSpec.ofChange containmentKindsSpec)) containmentKindsCard

/-- THE TIED CARD OF 'tablefinderlaw25.CorrelationParts'. -/
def correlationPartsCard : Claim7 := { stood := { row := correlationPartsRow, standIns := [], harness := (true, "9f5c699af6ad5d434d32d0dfafdd2887c4d34a9010df0c7ac0b143a71443d0ee"), looks := false }, kinds := [], alts := [], laidByText := true, laidKinds := [.data, .data], laidTests := true, laidLooks := .later }
def CorrelationPartsCardSaid : Prop := Claim7.holds Tryd.pinned (.plain (OpenSpec.ofChange correlationPartsSpec)) correlationPartsCard

/-- THE TIED CARD OF 'tablefinderlaw29.RelationKinds'. -/
def relationKindsCard : Claim7 := { stood := { row := relationKindsRow, standIns := [], harness := (true, "9f5c699af6ad5d434d32d0dfafdd2887c4d34a9010df0c7ac0b143a71443d0ee"), looks := false }, kinds := [], alts := [], laidByText := true, laidKinds := [.data, .data, .data, .pinned], laidTests := true, laidLooks := .later }
def RelationKindsCardSaid : Prop := Claim7.holds Tryd.pinned (.plain (OpenSpec.ofChange relationKindsSpec)) relationKindsCard

/-- THE SECOND FORM's CARD OF 'tablefinderlaw20.ContainmentKinds'. -/
def containmentKindsUptoCard : Claim7 := { stood := { row := containmentKindsUptoRow, standIns := [], harness := (true, "9f5c699af6ad5d434d32d0dfafdd2887c4d34a9010df0c7ac0b143a71443d0ee"), looks := false }, kinds := [], alts := [], laidByText := true, laidKinds := [.data, .data], laidTests := true, laidLooks := .later }
def ContainmentKindsUptoCardSaid : Prop := Claim7.holds Tryd.pinned (.plain (OpenSpec.upto containmentKindsSpec)) containmentKindsUptoCard

/-- THE SECOND FORM's CARD OF 'tablefinderlaw25.CorrelationParts'. -/
def correlationPartsUptoCard : Claim7 := { stood := { row := correlationPartsUptoRow, standIns := [], harness := (true, "9f5c699af6ad5d434d32d0dfafdd2887c4d34a9010df0c7ac0b143a71443d0ee"), looks := false }, kinds := [], alts := [], laidByText := true, laidKinds := [.data, .data], laidTests := true, laidLooks := .later }
def CorrelationPartsUptoCardSaid : Prop := Claim7.holds Tryd.pinned (.plain (OpenSpec.upto correlationPartsSpec)) correlationPartsUptoCard

/-- THE SECOND FORM's CARD OF 'tablefinderlaw29.RelationKinds'. -/
def relationKindsUptoCard : Claim7 := { stood := { row := relationKindsUptoRow, standIns := [], harness := (true, "9f5c699af6ad5d434d32d0dfafdd2887c4d34a9010df0c7ac0b143a71443d0ee"), looks := false }, kinds := [], alts := [], laidByText := true, laidKinds := [.data, .data, .data, .pinned], laidTests := true, laidLooks := .later }
def RelationKindsUptoCardSaid : Prop := Claim7.holds Tryd.pinned (.plain (OpenSpec.upto relationKindsSpec)) relationKindsUptoCard
end Rows
end Go.Proofs.YtbeidpeoichakaaDoor
