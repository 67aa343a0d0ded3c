/-
  DERIVED. GIVEN WITH THE SEED: THE CARDS: each row of YtpchafocmlhmbaaGreatDoorRows.lean that lists a variable, with what it lists TIED to the program's text (the seventh form; the later family's looks); each row that meets fmt, with fmt's text TOLD by the authors' own Lean function (tested against real Go, not proved from fmt's source: count such statements apart). THE CARD IS WHAT COUNTS. Prove the row's statement (the work); the ties are given (YtpchafocmlhmbaaGreatDoorTie.lean); close each card by the builder's one call (the guide's Derived/Test/ToyasCard.lean, 'card_holds'). Laid BY PROGRAM, IN A SANDBOX (cutbox-door.mjs). By AI agents, Wed Nov 11 2026. No macro, syntax, notation, axiom, sorry.
-/
import Derived.Test.YtpchafocmlhmbaaGreatDoorRows
import GoSem.ClaimSeven
namespace Go.Proofs.YtpchafocmlhmbaaGreatDoor
namespace Rows

/-- THE TIED CARD OF 'colrunkeep.Fitted'. -/
def fittedCard : Claim7 := { stood := { row := fittedRow, standIns := [], harness := (true, "63bb1816f53441105041c4dee6deae04fa7a76a19af81be15f8417e22d62b11d"), looks := true }, kinds := [], alts := [], laidByText := true, laidKinds := [.handle, .sentinel, .sentinel, .sentinel, .sentinel, .sentinel, .sentinel, .sentinel, .sentinel, .sentinel, .sentinel, .sentinel, .sentinel, .sentinel, .sentinel, .sentinel], laidTests := true, laidLooks := .later }
def FittedCardSaid : Prop := Claim7.holds Tryz.pinned (.plain (OpenSpec.ofChange fittedSpec)) fittedCard

/-- THE SECOND FORM's CARD OF 'colrunkeep.Fitted'. -/
def fittedUptoCard : Claim7 := { stood := { row := fittedUptoRow, standIns := [], harness := (true, "63bb1816f53441105041c4dee6deae04fa7a76a19af81be15f8417e22d62b11d"), looks := true }, kinds := [], alts := [], laidByText := true, laidKinds := [.handle, .sentinel, .sentinel, .sentinel, .sentinel, .sentinel, .sentinel, .sentinel, .sentinel, .sentinel, .sentinel, .sentinel, .sentinel, .sentinel, .sentinel, .sentinel], laidTests := true, laidLooks := .later }
def FittedUptoCardSaid : Prop := Claim7.holds Tryz.pinned (.plain (OpenSpec.upto fittedSpec)) fittedUptoCard
end Rows
end Go.Proofs.YtpchafocmlhmbaaGreatDoor
