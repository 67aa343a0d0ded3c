/-
  DERIVED. GIVEN WITH THE SEED: THE CARDS: each row of YtdlgbphkaicfaaaGreatDoorRows.lean that lists a variable, with what it lists TIED to the program's text (the seventh form; the later family's looks); each row that meets fmt, with fmt's text TOLD by the authors' own Lean function (tested against real Go, not proved from fmt's source: count such statements apart). THE CARD IS WHAT COUNTS. Prove the row's statement (the work); the ties are given (YtdlgbphkaicfaaaGreatDoorTie.lean); close each card by the builder's one call (the guide's Derived/Test/ToyasCard.lean, 'card_holds'). Laid BY PROGRAM, IN A SANDBOX (cutbox-door.mjs). By AI agents, Wed Nov 11 2026. No macro, syntax, notation, axiom, sorry.
-/
import Derived.Test.YtdlgbphkaicfaaaGreatDoorRows
import GoSem.ClaimSeven
namespace Go.Proofs.YtdlgbphkaicfaaaGreatDoor
namespace Rows

/-- THE TIED CARD OF 'colrunkeep.Grouped'. -/
def groupedCard : Claim7 := { stood := { row := groupedRow, standIns := [], harness := (true, "f7bb79db630e0fb848530d286ace33ed4bb18ea732377dbb25d3bd50555f398c"), looks := true }, kinds := [], alts := [], laidByText := true, laidKinds := [.handle, .sentinel, .sentinel, .sentinel, .sentinel, .sentinel, .sentinel, .sentinel, .sentinel, .sentinel, .sentinel, .sentinel, .sentinel, .sentinel, .sentinel, .sentinel], laidTests := true, laidLooks := .later }
def GroupedCardSaid : Prop := Claim7.holds Tryz.pinned (.plain (OpenSpec.ofChange groupedSpec)) groupedCard

/-- THE SECOND FORM's CARD OF 'colrunkeep.Grouped'. -/
def groupedUptoCard : Claim7 := { stood := { row := groupedUptoRow, standIns := [], harness := (true, "f7bb79db630e0fb848530d286ace33ed4bb18ea732377dbb25d3bd50555f398c"), looks := true }, kinds := [], alts := [], laidByText := true, laidKinds := [.handle, .sentinel, .sentinel, .sentinel, .sentinel, .sentinel, .sentinel, .sentinel, .sentinel, .sentinel, .sentinel, .sentinel, .sentinel, .sentinel, .sentinel, .sentinel], laidTests := true, laidLooks := .later }
def GroupedUptoCardSaid : Prop := Claim7.holds Tryz.pinned (.plain (OpenSpec.upto groupedSpec)) groupedUptoCard
end Rows
end Go.Proofs.YtdlgbphkaicfaaaGreatDoor
