/-
  DERIVED. GIVEN WITH THE SEED: THE CARDS: each row of YtjbenncelbpbnaaGreatDoorRows.lean that lists a variable, with what it lists TIED to the program's text (the seventh form; the later family's looks); each row that meets fmt, with fmt's text TOLD by the authors' own Lean function (tested against real Go, not proved from fmt's source: count such statements apart). THE CARD IS WHAT COUNTS. Prove the row's statement (the work); the ties are given (YtjbenncelbpbnaaGreatDoorTie.lean); close each card by the builder's one call (the guide's Derived/Test/ToyasCard.lean, 'card_holds'). Laid BY PROGRAM, IN A SANDBOX (cutbox-door.mjs). By AI agents, Wed Nov 11 2026. No macro, syntax, notation, axiom, sorry.
-/
import Derived.Test.YtjbenncelbpbnaaGreatDoorRows
import GoSem.ClaimSeven
namespace Go.Proofs.YtjbenncelbpbnaaGreatDoor
namespace Rows

/-- THE TIED CARD OF 'colrunkeep.Strained'. -/
def strainedCard : Claim7 := { stood := { row := strainedRow, standIns := [], harness := (true, "be8f5b35427bc228279066f63518c386dd218b99308d82608de2d882fcf1bbac"), looks := true }, kinds := [], alts := [], laidByText := true, laidKinds := [.handle, .sentinel, .sentinel, .sentinel, .sentinel, .sentinel, .sentinel, .sentinel, .sentinel, .sentinel, .sentinel, .sentinel, .sentinel, .sentinel, .sentinel, .sentinel], laidTests := true, laidLooks := .later }
def StrainedCardSaid : Prop := Claim7.holds Tryz.pinned (.plain (OpenSpec.ofChange strainedSpec)) strainedCard

/-- THE SECOND FORM's CARD OF 'colrunkeep.Strained'. -/
def strainedUptoCard : Claim7 := { stood := { row := strainedUptoRow, standIns := [], harness := (true, "be8f5b35427bc228279066f63518c386dd218b99308d82608de2d882fcf1bbac"), looks := true }, kinds := [], alts := [], laidByText := true, laidKinds := [.handle, .sentinel, .sentinel, .sentinel, .sentinel, .sentinel, .sentinel, .sentinel, .sentinel, .sentinel, .sentinel, .sentinel, .sentinel, .sentinel, .sentinel, .sentinel], laidTests := true, laidLooks := .later }
def StrainedUptoCardSaid : Prop := Claim7.holds Tryz.pinned (.plain (OpenSpec.upto strainedSpec)) strainedUptoCard
end Rows
end Go.Proofs.YtjbenncelbpbnaaGreatDoor
