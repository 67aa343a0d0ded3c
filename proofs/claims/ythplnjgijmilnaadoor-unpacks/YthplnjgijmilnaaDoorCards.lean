/-
  DERIVED. GIVEN WITH THE SEED: THE CARDS: each row of YthplnjgijmilnaaDoorRows.lean that lists a variable, with what it lists TIED to the program's text (the seventh form; the later family's looks); each row that meets fmt, with fmt's text TOLD by the authors' own Lean function (tested against real Go, not proved from fmt's source: count such statements apart). THE CARD IS WHAT COUNTS. Prove the row's statement (the work); the ties are given (YthplnjgijmilnaaDoorTie.lean); close each card by the builder's one call (the guide's Derived/Test/ToyasCard.lean, 'card_holds'). Laid BY PROGRAM, IN A SANDBOX (cutbox-door.mjs). By AI agents, Wed Nov 11 2026. No macro, syntax, notation, axiom, sorry.
-/
import Derived.Test.YthplnjgijmilnaaDoorRows
import GoSem.ClaimSeven
namespace Go.Proofs.YthplnjgijmilnaaDoor
namespace Rows

/-- THE TIED CARD OF 'colrunlaw.Packs'. -/
def packsCard : Claim7 := { stood := { row := packsRow, standIns := [], harness := (true, "fb543c53776d1120e3ea43a91a02f9d64985a0acd4fb18bea7453b1381f01ce3"), looks := true }, kinds := [], alts := [], laidByText := true, laidKinds := [.sentinel, .sentinel, .sentinel], laidTests := true, laidLooks := .later }
def PacksCardSaid : Prop := Claim7.holds Tryd.pinned (.plain (OpenSpec.ofChange packsSpec)) packsCard

/-- THE TIED CARD OF 'colrunlaw.Unpacks'. -/
def unpacksCard : Claim7 := { stood := { row := unpacksRow, standIns := [], harness := (true, "fb543c53776d1120e3ea43a91a02f9d64985a0acd4fb18bea7453b1381f01ce3"), looks := true }, kinds := [], alts := [], laidByText := true, laidKinds := [.sentinel, .sentinel, .sentinel], laidTests := true, laidLooks := .later }
def UnpacksCardSaid : Prop := Claim7.holds Tryd.pinned (.plain (OpenSpec.ofChange unpacksSpec)) unpacksCard

/-- THE TIED CARD OF 'colrunkeep.Segmented'. -/
def segmentedCard : Claim7 := { stood := { row := segmentedRow, standIns := [], harness := (true, "fb543c53776d1120e3ea43a91a02f9d64985a0acd4fb18bea7453b1381f01ce3"), looks := true }, kinds := [], alts := [], laidByText := true, laidKinds := [.sentinel, .sentinel, .sentinel], laidTests := true, laidLooks := .later }
def SegmentedCardSaid : Prop := Claim7.holds Tryd.pinned (.plain (OpenSpec.ofChange segmentedSpec)) segmentedCard

/-- THE SECOND FORM's CARD OF 'colrunlaw.Packs'. -/
def packsUptoCard : Claim7 := { stood := { row := packsUptoRow, standIns := [], harness := (true, "fb543c53776d1120e3ea43a91a02f9d64985a0acd4fb18bea7453b1381f01ce3"), looks := true }, kinds := [], alts := [], laidByText := true, laidKinds := [.sentinel, .sentinel, .sentinel], laidTests := true, laidLooks := .later }
def PacksUptoCardSaid : Prop := Claim7.holds Tryd.pinned (.plain (OpenSpec.upto packsSpec)) packsUptoCard

/-- THE SECOND FORM's CARD OF 'colrunlaw.Unpacks'. -/
def unpacksUptoCard : Claim7 := { stood := { row := unpacksUptoRow, standIns := [], harness := (true, "fb543c53776d1120e3ea43a91a02f9d64985a0acd4fb18bea7453b1381f01ce3"), looks := true }, kinds := [], alts := [], laidByText := true, laidKinds := [.sentinel, .sentinel, .sentinel], laidTests := true, laidLooks := .later }
def UnpacksUptoCardSaid : Prop := Claim7.holds Tryd.pinned (.plain (OpenSpec.upto unpacksSpec)) unpacksUptoCard

/-- THE SECOND FORM's CARD OF 'colrunkeep.Segmented'. -/
def segmentedUptoCard : Claim7 := { stood := { row := segmentedUptoRow, standIns := [], harness := (true, "fb543c53776d1120e3ea43a91a02f9d64985a0acd4fb18bea7453b1381f01ce3"), looks := true }, kinds := [], alts := [], laidByText := true, laidKinds := [.sentinel, .sentinel, .sentinel], laidTests := true, laidLooks := .later }
def SegmentedUptoCardSaid : Prop := Claim7.holds Tryd.pinned (.plain (OpenSpec.upto segmentedSpec)) segmentedUptoCard
end Rows
end Go.Proofs.YthplnjgijmilnaaDoor
