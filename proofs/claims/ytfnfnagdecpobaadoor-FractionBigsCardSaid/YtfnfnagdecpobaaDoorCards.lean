/-
  DERIVED. GIVEN WITH THE SEED: THE CARDS: each row of YtfnfnagdecpobaaDoorRows.lean that lists a variable, with what it lists TIED to the program's text (the seventh form; the later family's looks); each row that meets fmt, with fmt's text TOLD by the authors' own Lean function (tested against real Go, not proved from fmt's source: count such statements apart). THE CARD IS WHAT COUNTS. Prove the row's statement (the work); the ties are given (YtfnfnagdecpobaaDoorTie.lean); close each card by the builder's one call (the guide's Derived/Test/ToyasCard.lean, 'card_holds'). Laid BY PROGRAM, IN A SANDBOX (cutbox-door.mjs). By AI agents, Wed Nov 11 2026. No macro, syntax, notation, axiom, sorry.
-/
import Derived.Test.YtfnfnagdecpobaaDoorRows
import GoSem.ClaimSeven
namespace Go.Proofs.YtfnfnagdecpobaaDoor
namespace Rows

/-- THE TIED CARD OF 'tablefinderlaw01.FractionBigs'. -/
def fractionBigsCard : Claim7 := { stood := { row := fractionBigsRow, standIns := [], harness := (true, "460a326f2ec9178b52ccbcd2148323e75ef3761ac0e85266996c82170e1ce184"), looks := false }, kinds := [], alts := [], laidByText := true, laidKinds := [.data, .data, .data], laidTests := true, laidLooks := .later }
def FractionBigsCardSaid : Prop := Claim7.holds Tryd.pinned (.plain (OpenSpec.ofChange fractionBigsSpec)) fractionBigsCard

/-- THE TIED CARD OF 'tablefinderlaw01.FractionDecimals'. -/
def fractionDecimalsCard : Claim7 := { stood := { row := fractionDecimalsRow, standIns := [], harness := (true, "460a326f2ec9178b52ccbcd2148323e75ef3761ac0e85266996c82170e1ce184"), looks := false }, kinds := [], alts := [], laidByText := true, laidKinds := [.data, .data, .data], laidTests := true, laidLooks := .later }
def FractionDecimalsCardSaid : Prop := Claim7.holds Tryd.pinned (.plain (OpenSpec.ofChange fractionDecimalsSpec)) fractionDecimalsCard

/-- THE TIED CARD OF 'tablefinderlaw01.FractionRules'. -/
def fractionRulesCard : Claim7 := { stood := { row := fractionRulesRow, standIns := [], harness := (true, "460a326f2ec9178b52ccbcd2148323e75ef3761ac0e85266996c82170e1ce184"), looks := false }, kinds := [], alts := [], laidByText := true, laidKinds := [.data, .data, .data], laidTests := true, laidLooks := .later }
def FractionRulesCardSaid : Prop := Claim7.holds Tryd.pinned (.plain (OpenSpec.ofChange fractionRulesSpec)) fractionRulesCard

/-- THE TIED CARD OF 'tablefinderlaw01.FractionDivides'. -/
def fractionDividesCard : Claim7 := { stood := { row := fractionDividesRow, standIns := [], harness := (true, "460a326f2ec9178b52ccbcd2148323e75ef3761ac0e85266996c82170e1ce184"), looks := false }, kinds := [], alts := [], laidByText := true, laidKinds := [.data, .data, .data], laidTests := true, laidLooks := .later }
def FractionDividesCardSaid : Prop := Claim7.holds Tryd.pinned (.plain (OpenSpec.ofChange fractionDividesSpec)) fractionDividesCard

/-- THE TIED CARD OF 'tablefinderlaw01.FractionOrder'. -/
def fractionOrderCard : Claim7 := { stood := { row := fractionOrderRow, standIns := [], harness := (true, "460a326f2ec9178b52ccbcd2148323e75ef3761ac0e85266996c82170e1ce184"), looks := false }, kinds := [], alts := [], laidByText := true, laidKinds := [.data, .data, .data], laidTests := true, laidLooks := .later }
def FractionOrderCardSaid : Prop := Claim7.holds Tryd.pinned (.plain (OpenSpec.ofChange fractionOrderSpec)) fractionOrderCard

/-- THE SECOND FORM's CARD OF 'tablefinderlaw01.FractionBigs'. -/
def fractionBigsUptoCard : Claim7 := { stood := { row := fractionBigsUptoRow, standIns := [], harness := (true, "460a326f2ec9178b52ccbcd2148323e75ef3761ac0e85266996c82170e1ce184"), looks := false }, kinds := [], alts := [], laidByText := true, laidKinds := [.data, .data, .data], laidTests := true, laidLooks := .later }
def FractionBigsUptoCardSaid : Prop := Claim7.holds Tryd.pinned (.plain (OpenSpec.upto fractionBigsSpec)) fractionBigsUptoCard

/-- THE SECOND FORM's CARD OF 'tablefinderlaw01.FractionDecimals'. -/
def fractionDecimalsUptoCard : Claim7 := { stood := { row := fractionDecimalsUptoRow, standIns := [], harness := (true, "460a326f2ec9178b52ccbcd2148323e75ef3761ac0e85266996c82170e1ce184"), looks := false }, kinds := [], alts := [], laidByText := true, laidKinds := [.data, .data, .data], laidTests := true, laidLooks := .later }
def FractionDecimalsUptoCardSaid : Prop := Claim7.holds Tryd.pinned (.plain (OpenSpec.upto fractionDecimalsSpec)) fractionDecimalsUptoCard

/-- THE SECOND FORM's CARD OF 'tablefinderlaw01.FractionRules'. -/
def fractionRulesUptoCard : Claim7 := { stood := { row := fractionRulesUptoRow, standIns := [], harness := (true, "460a326f2ec9178b52ccbcd2148323e75ef3761ac0e85266996c82170e1ce184"), looks := false }, kinds := [], alts := [], laidByText := true, laidKinds := [.data, .data, .data], laidTests := true, laidLooks := .later }
def FractionRulesUptoCardSaid : Prop := Claim7.holds Tryd.pinned (.plain (OpenSpec.upto fractionRulesSpec)) fractionRulesUptoCard

/-- THE SECOND FORM's CARD OF 'tablefinderlaw01.FractionDivides'. -/
def fractionDividesUptoCard : Claim7 := { stood := { row := fractionDividesUptoRow, standIns := [], harness := (true, "460a326f2ec9178b52ccbcd2148323e75ef3761ac0e85266996c82170e1ce184"), looks := false }, kinds := [], alts := [], laidByText := true, laidKinds := [.data, .data, .data], laidTests := true, laidLooks := .later }
def FractionDividesUptoCardSaid : Prop := Claim7.holds Tryd.pinned (.plain (OpenSpec.upto fractionDividesSpec)) fractionDividesUptoCard

/-- THE SECOND FORM's CARD OF 'tablefinderlaw01.FractionOrder'. -/
def fractionOrderUptoCard : Claim7 := { stood := { row := fractionOrderUptoRow, standIns := [], harness := (true, "460a326f2ec9178b52ccbcd2148323e75ef3761ac0e85266996c82170e1ce184"), looks := false }, kinds := [], alts := [], laidByText := true, laidKinds := [.data, .data, .data], laidTests := true, laidLooks := .later }
def FractionOrderUptoCardSaid : Prop := Claim7.holds Tryd.pinned (.plain (OpenSpec.upto fractionOrderSpec)) fractionOrderUptoCard
end Rows
end Go.Proofs.YtfnfnagdecpobaaDoor
