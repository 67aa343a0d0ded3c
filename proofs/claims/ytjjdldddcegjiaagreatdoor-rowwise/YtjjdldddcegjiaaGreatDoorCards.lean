/-
  DERIVED. GIVEN WITH THE SEED: THE CARDS: each row of YtjjdldddcegjiaaGreatDoorRows.lean that lists a variable, with what it lists TIED to the program's text (the seventh form; the later family's looks); each row that meets fmt, with fmt's text TOLD by the authors' own Lean function (tested against real Go, not proved from fmt's source: count such statements apart). THE CARD IS WHAT COUNTS. Prove the row's statement (the work); the ties are given (YtjjdldddcegjiaaGreatDoorTie.lean); close each card by the builder's one call (the guide's Derived/Test/ToyasCard.lean, 'card_holds'). Laid BY PROGRAM, IN A SANDBOX (cutbox-door.mjs). By AI agents, Wed Nov 11 2026. No macro, syntax, notation, axiom, sorry.
-/
import Derived.Test.YtjjdldddcegjiaaGreatDoorRows
import GoSem.ClaimSeven
namespace Go.Proofs.YtjjdldddcegjiaaGreatDoor
namespace Rows

/-- THE TIED CARD OF 'colrunkeep.Rowwise'. -/
def rowwiseCard : Claim7 := { stood := { row := rowwiseRow, standIns := [], harness := (true, "c1fa6901aea52e318d8048c8086979259990cc2a8bd2c85fe402f33a4e697b5a"), looks := true }, kinds := [], alts := [], laidByText := true, laidKinds := [.handle, .sentinel, .sentinel, .sentinel, .sentinel, .sentinel, .sentinel, .sentinel, .sentinel, .sentinel, .sentinel, .sentinel, .sentinel, .sentinel, .sentinel, .sentinel], laidTests := true, laidLooks := .later }
def RowwiseCardSaid : Prop := Claim7.holds Tryz.pinned (.plain (OpenSpec.ofChange rowwiseSpec)) rowwiseCard

/-- THE SECOND FORM's CARD OF 'colrunkeep.Rowwise'. -/
def rowwiseUptoCard : Claim7 := { stood := { row := rowwiseUptoRow, standIns := [], harness := (true, "c1fa6901aea52e318d8048c8086979259990cc2a8bd2c85fe402f33a4e697b5a"), looks := true }, kinds := [], alts := [], laidByText := true, laidKinds := [.handle, .sentinel, .sentinel, .sentinel, .sentinel, .sentinel, .sentinel, .sentinel, .sentinel, .sentinel, .sentinel, .sentinel, .sentinel, .sentinel, .sentinel, .sentinel], laidTests := true, laidLooks := .later }
def RowwiseUptoCardSaid : Prop := Claim7.holds Tryz.pinned (.plain (OpenSpec.upto rowwiseSpec)) rowwiseUptoCard
end Rows
end Go.Proofs.YtjjdldddcegjiaaGreatDoor
