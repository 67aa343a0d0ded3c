/-
  DERIVED. GIVEN WITH THE SEED: THE CARDS: each row of YtiicoehcjoocbaaGreatDoorRows.lean that lists a variable, with what it lists TIED to the program's text (the seventh form; the later family's looks); each row that meets fmt, with fmt's text TOLD by the authors' own Lean function (tested against real Go, not proved from fmt's source: count such statements apart). THE CARD IS WHAT COUNTS. Prove the row's statement (the work); the ties are given (YtiicoehcjoocbaaGreatDoorTie.lean); close each card by the builder's one call (the guide's Derived/Test/ToyasCard.lean, 'card_holds'). Laid BY PROGRAM, IN A SANDBOX (cutbox-door.mjs). By AI agents, Wed Nov 11 2026. No macro, syntax, notation, axiom, sorry.
-/
import Derived.Test.YtiicoehcjoocbaaGreatDoorRows
import GoSem.ClaimSeven
namespace Go.Proofs.YtiicoehcjoocbaaGreatDoor
namespace Rows

/-- THE TIED CARD OF 'colrunlaw.Unpacks'. -/
def unpacksCard : Claim7 := { stood := { row := unpacksRow, standIns := [], harness := (true, "b866810ea918c9801fb54c41445d6d46773c7ac0badd07ee2c4ec0d4e767fc3f"), looks := true }, kinds := [], alts := [], laidByText := true, laidKinds := [.handle, .sentinel, .sentinel, .sentinel, .sentinel, .sentinel, .sentinel, .sentinel, .sentinel, .sentinel], laidTests := true, laidLooks := .later }
def UnpacksCardSaid : Prop := Claim7.holds Tryz.pinned (.plain (OpenSpec.ofChange unpacksSpec)) unpacksCard

/-- THE TIED CARD OF 'colrunlaw.Stores'. -/
def storesCard : Claim7 := { stood := { row := storesRow, standIns := [], harness := (true, "b866810ea918c9801fb54c41445d6d46773c7ac0badd07ee2c4ec0d4e767fc3f"), looks := true }, kinds := [], alts := [], laidByText := true, laidKinds := [.handle, .sentinel, .sentinel, .sentinel, .sentinel, .sentinel, .sentinel, .sentinel, .sentinel, .sentinel, .sentinel], laidTests := true, laidLooks := .later }
def StoresCardSaid : Prop := Claim7.holds Tryz.pinned (.plain (OpenSpec.ofChange storesSpec)) storesCard

/-- THE TIED CARD OF 'colrunkeep.Kept'. -/
def keptCard : Claim7 := { stood := { row := keptRow, standIns := [], harness := (true, "b866810ea918c9801fb54c41445d6d46773c7ac0badd07ee2c4ec0d4e767fc3f"), looks := true }, kinds := [], alts := [], laidByText := true, laidKinds := [.handle, .sentinel, .sentinel, .sentinel, .sentinel, .sentinel, .sentinel, .sentinel, .sentinel, .sentinel, .sentinel], laidTests := true, laidLooks := .later }
def KeptCardSaid : Prop := Claim7.holds Tryz.pinned (.plain (OpenSpec.ofChange keptSpec)) keptCard

/-- THE TIED CARD OF 'colrunkeep.Spoilt'. -/
def spoiltCard : Claim7 := { stood := { row := spoiltRow, standIns := [], harness := (true, "b866810ea918c9801fb54c41445d6d46773c7ac0badd07ee2c4ec0d4e767fc3f"), looks := true }, kinds := [], alts := [], laidByText := true, laidKinds := [.handle, .sentinel, .sentinel, .sentinel, .sentinel, .sentinel, .sentinel, .sentinel, .sentinel, .sentinel, .sentinel], laidTests := true, laidLooks := .later }
def SpoiltCardSaid : Prop := Claim7.holds Tryz.pinned (.plain (OpenSpec.ofChange spoiltSpec)) spoiltCard

/-- THE TIED CARD OF 'colrunkeep.Filled'. -/
def filledCard : Claim7 := { stood := { row := filledRow, standIns := [], harness := (true, "b866810ea918c9801fb54c41445d6d46773c7ac0badd07ee2c4ec0d4e767fc3f"), looks := true }, kinds := [], alts := [], laidByText := true, laidKinds := [.handle, .sentinel, .sentinel, .sentinel, .sentinel, .sentinel, .sentinel, .sentinel, .sentinel, .sentinel, .sentinel], laidTests := true, laidLooks := .later }
def FilledCardSaid : Prop := Claim7.holds Tryz.pinned (.plain (OpenSpec.ofChange filledSpec)) filledCard

/-- THE TIED CARD OF 'colrunlaw.Checks'. -/
def checksCard : Claim7 := { stood := { row := checksRow, standIns := [], harness := (true, "b866810ea918c9801fb54c41445d6d46773c7ac0badd07ee2c4ec0d4e767fc3f"), looks := true }, kinds := [], alts := [], laidByText := true, laidKinds := [.handle, .sentinel, .sentinel, .sentinel, .sentinel, .sentinel, .sentinel, .sentinel, .sentinel, .sentinel, .sentinel], laidTests := true, laidLooks := .later }
def ChecksCardSaid : Prop := Claim7.holds Tryz.pinned (.plain (OpenSpec.ofChange checksSpec)) checksCard

/-- THE SECOND FORM's CARD OF 'colrunlaw.Unpacks'. -/
def unpacksUptoCard : Claim7 := { stood := { row := unpacksUptoRow, standIns := [], harness := (true, "b866810ea918c9801fb54c41445d6d46773c7ac0badd07ee2c4ec0d4e767fc3f"), looks := true }, kinds := [], alts := [], laidByText := true, laidKinds := [.handle, .sentinel, .sentinel, .sentinel, .sentinel, .sentinel, .sentinel, .sentinel, .sentinel, .sentinel], laidTests := true, laidLooks := .later }
def UnpacksUptoCardSaid : Prop := Claim7.holds Tryz.pinned (.plain (OpenSpec.upto unpacksSpec)) unpacksUptoCard

/-- THE SECOND FORM's CARD OF 'colrunlaw.Stores'. -/
def storesUptoCard : Claim7 := { stood := { row := storesUptoRow, standIns := [], harness := (true, "b866810ea918c9801fb54c41445d6d46773c7ac0badd07ee2c4ec0d4e767fc3f"), looks := true }, kinds := [], alts := [], laidByText := true, laidKinds := [.handle, .sentinel, .sentinel, .sentinel, .sentinel, .sentinel, .sentinel, .sentinel, .sentinel, .sentinel, .sentinel], laidTests := true, laidLooks := .later }
def StoresUptoCardSaid : Prop := Claim7.holds Tryz.pinned (.plain (OpenSpec.upto storesSpec)) storesUptoCard

/-- THE SECOND FORM's CARD OF 'colrunkeep.Kept'. -/
def keptUptoCard : Claim7 := { stood := { row := keptUptoRow, standIns := [], harness := (true, "b866810ea918c9801fb54c41445d6d46773c7ac0badd07ee2c4ec0d4e767fc3f"), looks := true }, kinds := [], alts := [], laidByText := true, laidKinds := [.handle, .sentinel, .sentinel, .sentinel, .sentinel, .sentinel, .sentinel, .sentinel, .sentinel, .sentinel, .sentinel], laidTests := true, laidLooks := .later }
def KeptUptoCardSaid : Prop := Claim7.holds Tryz.pinned (.plain (OpenSpec.upto keptSpec)) keptUptoCard

/-- THE SECOND FORM's CARD OF 'colrunkeep.Spoilt'. -/
def spoiltUptoCard : Claim7 := { stood := { row := spoiltUptoRow, standIns := [], harness := (true, "b866810ea918c9801fb54c41445d6d46773c7ac0badd07ee2c4ec0d4e767fc3f"), looks := true }, kinds := [], alts := [], laidByText := true, laidKinds := [.handle, .sentinel, .sentinel, .sentinel, .sentinel, .sentinel, .sentinel, .sentinel, .sentinel, .sentinel, .sentinel], laidTests := true, laidLooks := .later }
def SpoiltUptoCardSaid : Prop := Claim7.holds Tryz.pinned (.plain (OpenSpec.upto spoiltSpec)) spoiltUptoCard

/-- THE SECOND FORM's CARD OF 'colrunkeep.Filled'. -/
def filledUptoCard : Claim7 := { stood := { row := filledUptoRow, standIns := [], harness := (true, "b866810ea918c9801fb54c41445d6d46773c7ac0badd07ee2c4ec0d4e767fc3f"), looks := true }, kinds := [], alts := [], laidByText := true, laidKinds := [.handle, .sentinel, .sentinel, .sentinel, .sentinel, .sentinel, .sentinel, .sentinel, .sentinel, .sentinel, .sentinel], laidTests := true, laidLooks := .later }
def FilledUptoCardSaid : Prop := Claim7.holds Tryz.pinned (.plain (OpenSpec.upto filledSpec)) filledUptoCard

/-- THE SECOND FORM's CARD OF 'colrunlaw.Checks'. -/
def checksUptoCard : Claim7 := { stood := { row := checksUptoRow, standIns := [], harness := (true, "b866810ea918c9801fb54c41445d6d46773c7ac0badd07ee2c4ec0d4e767fc3f"), looks := true }, kinds := [], alts := [], laidByText := true, laidKinds := [.handle, .sentinel, .sentinel, .sentinel, .sentinel, .sentinel, .sentinel, .sentinel, .sentinel, .sentinel, .sentinel], laidTests := true, laidLooks := .later }
def ChecksUptoCardSaid : Prop := Claim7.holds Tryz.pinned (.plain (OpenSpec.upto checksSpec)) checksUptoCard
end Rows
end Go.Proofs.YtiicoehcjoocbaaGreatDoor
