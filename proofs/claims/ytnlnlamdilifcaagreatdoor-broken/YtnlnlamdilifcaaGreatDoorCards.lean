/-
  DERIVED. GIVEN WITH THE SEED: THE CARDS: each row of YtnlnlamdilifcaaGreatDoorRows.lean that lists a variable, with what it lists TIED to the program's text (the seventh form; the later family's looks); each row that meets fmt, with fmt's text TOLD by the authors' own Lean function (tested against real Go, not proved from fmt's source: count such statements apart). THE CARD IS WHAT COUNTS. Prove the row's statement (the work); the ties are given (YtnlnlamdilifcaaGreatDoorTie.lean); close each card by the builder's one call (the guide's Derived/Test/ToyasCard.lean, 'card_holds'). Laid BY PROGRAM, IN A SANDBOX (cutbox-door.mjs). By AI agents, Wed Nov 11 2026. No macro, syntax, notation, axiom, sorry.
-/
import Derived.Test.YtnlnlamdilifcaaGreatDoorRows
import GoSem.ClaimSeven
namespace Go.Proofs.YtnlnlamdilifcaaGreatDoor
namespace Rows

/-- THE TIED CARD OF 'colrunkeep.Broken'. -/
def brokenCard : Claim7 := { stood := { row := brokenRow, standIns := [], harness := (true, "b7bfd61d364d9d72b7939c4f32246409c9318bc31f134a31c6180961a1005fe1"), looks := true }, kinds := [], alts := [], laidByText := true, laidKinds := [.handle, .sentinel, .sentinel, .sentinel, .sentinel, .sentinel, .sentinel, .sentinel, .sentinel, .sentinel, .sentinel, .sentinel, .sentinel, .sentinel, .sentinel, .sentinel], laidTests := true, laidLooks := .later }
def BrokenCardSaid : Prop := Claim7.holds Tryz.pinned (.plain (OpenSpec.ofChange brokenSpec)) brokenCard

/-- THE SECOND FORM's CARD OF 'colrunkeep.Broken'. -/
def brokenUptoCard : Claim7 := { stood := { row := brokenUptoRow, standIns := [], harness := (true, "b7bfd61d364d9d72b7939c4f32246409c9318bc31f134a31c6180961a1005fe1"), looks := true }, kinds := [], alts := [], laidByText := true, laidKinds := [.handle, .sentinel, .sentinel, .sentinel, .sentinel, .sentinel, .sentinel, .sentinel, .sentinel, .sentinel, .sentinel, .sentinel, .sentinel, .sentinel, .sentinel, .sentinel], laidTests := true, laidLooks := .later }
def BrokenUptoCardSaid : Prop := Claim7.holds Tryz.pinned (.plain (OpenSpec.upto brokenSpec)) brokenUptoCard
end Rows
end Go.Proofs.YtnlnlamdilifcaaGreatDoor
