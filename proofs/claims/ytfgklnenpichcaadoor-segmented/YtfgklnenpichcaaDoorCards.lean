/-
  DERIVED. GIVEN WITH THE SEED: THE CARDS: each row of YtfgklnenpichcaaDoorRows.lean that lists a variable, with what it lists TIED to the program's text (the seventh form; the later family's looks); each row that meets fmt, with fmt's text TOLD by the authors' own Lean function (tested against real Go, not proved from fmt's source: count such statements apart). THE CARD IS WHAT COUNTS. Prove the row's statement (the work); the ties are given (YtfgklnenpichcaaDoorTie.lean); close each card by the builder's one call (the guide's Derived/Test/ToyasCard.lean, 'card_holds'). Laid BY PROGRAM, IN A SANDBOX (cutbox-door.mjs). By AI agents, Wed Nov 11 2026. No macro, syntax, notation, axiom, sorry.
-/
import Derived.Test.YtfgklnenpichcaaDoorRows
import GoSem.ClaimSeven
namespace Go.Proofs.YtfgklnenpichcaaDoor
namespace Rows

/-- THE TIED CARD OF 'colrunlaw.Packs'. -/
def packsCard : Claim7 := { stood := { row := packsRow, standIns := [], harness := (true, "7037395c5f985a002b6fd6b413fffad8fae01c894a276fccd872a3c121910bdf"), looks := true }, kinds := [], alts := [], laidByText := true, laidKinds := [.handle, .sentinel, .sentinel, .sentinel, .sentinel, .sentinel, .sentinel, .sentinel, .sentinel, .sentinel, .sentinel, .sentinel, .sentinel, .sentinel], laidTests := true, laidLooks := .later }
def PacksCardSaid : Prop := Claim7.holds Tryd.pinned (.plain (OpenSpec.ofChange packsSpec)) packsCard

/-- THE TIED CARD OF 'colrunkeep.Segmented'. -/
def segmentedCard : Claim7 := { stood := { row := segmentedRow, standIns := [], harness := (true, "7037395c5f985a002b6fd6b413fffad8fae01c894a276fccd872a3c121910bdf"), looks := true }, kinds := [], alts := [], laidByText := true, laidKinds := [.handle, .sentinel, .sentinel, .sentinel, .sentinel, .sentinel, .sentinel, .sentinel, .sentinel, .sentinel, .sentinel, .sentinel, .sentinel, .sentinel], laidTests := true, laidLooks := .later }
def SegmentedCardSaid : Prop := Claim7.holds Tryd.pinned (.plain (OpenSpec.ofChange segmentedSpec)) segmentedCard

/-- THE SECOND FORM's CARD OF 'colrunlaw.Packs'. -/
def packsUptoCard : Claim7 := { stood := { row := packsUptoRow, standIns := [], harness := (true, "7037395c5f985a002b6fd6b413fffad8fae01c894a276fccd872a3c121910bdf"), looks := true }, kinds := [], alts := [], laidByText := true, laidKinds := [.handle, .sentinel, .sentinel, .sentinel, .sentinel, .sentinel, .sentinel, .sentinel, .sentinel, .sentinel, .sentinel, .sentinel, .sentinel, .sentinel], laidTests := true, laidLooks := .later }
def PacksUptoCardSaid : Prop := Claim7.holds Tryd.pinned (.plain (OpenSpec.upto packsSpec)) packsUptoCard

/-- THE SECOND FORM's CARD OF 'colrunkeep.Segmented'. -/
def segmentedUptoCard : Claim7 := { stood := { row := segmentedUptoRow, standIns := [], harness := (true, "7037395c5f985a002b6fd6b413fffad8fae01c894a276fccd872a3c121910bdf"), looks := true }, kinds := [], alts := [], laidByText := true, laidKinds := [.handle, .sentinel, .sentinel, .sentinel, .sentinel, .sentinel, .sentinel, .sentinel, .sentinel, .sentinel, .sentinel, .sentinel, .sentinel, .sentinel], laidTests := true, laidLooks := .later }
def SegmentedUptoCardSaid : Prop := Claim7.holds Tryd.pinned (.plain (OpenSpec.upto segmentedSpec)) segmentedUptoCard
end Rows
end Go.Proofs.YtfgklnenpichcaaDoor
