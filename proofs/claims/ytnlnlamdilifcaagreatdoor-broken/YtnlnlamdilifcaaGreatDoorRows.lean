/-
  NARROWER THAN 'FOR EVERY INPUT', by the rows' own cells (each row's printed sentence says how): Broken: laid.
  DERIVED. THE GIVEN ROWS OF THIS SEAT. 1 by the template 'for every input the law returns true; each argument reads behind the call as it read before'; 0 by the template 'total and deterministic' (their statements: YtnlnlamdilifcaaGreatDoorTotals.lean).
  GIVEN WITH THE SEED: the statements are not yours to turn. If you find one false, say at which input.
  Laid BY PROGRAM, IN A SANDBOX (cutbox-rows.mjs): the forced cells as the released guide's own fill.sh prints them over the translation 7039d24c923aa3f5… (all of the seat's roots in one cut). By AI agents, Wed Nov 11 2026. No macro, syntax, notation, axiom, sorry.
-/
import Derived.Test.YtnlnlamdilifcaaGreatDoorChecked
import GoSem.Claim
import GoSem.ClaimJoined
import GoSem.ClaimMapViews
import Derived.JoinedTies
import Derived.KernelRfl
namespace Go.Proofs.YtnlnlamdilifcaaGreatDoor
/- THE CELL 'sum', in the pinned program and in every row, IS THE sha256 OF THE DUMP (.gsa) THAT YtnlnlamdilifcaaGreatDoorProg.lean LOADS. Nothing in Lean hashes anything: it is a label: what it is worth is what the hold of that sum in a sandbox is worth. -/
noncomputable def Tryz.pinned : Pinned := { name := "ytnlnlamdilifcaagreatdoor", sum := "7039d24c923aa3f59dfd487f9788ced1d10ea1e02449b4bebc828bd3193dbd91", checked := Tryz.checked }
namespace Rows
def none {H : Type} : Left H := { results := [], args := [] }

/- WHAT THE LISTED PACKAGE-LEVEL VARIABLES READ AS WHEN THE CALL BEGINS. Each datum BY PROGRAM (the guide's laid-datum.mjs) off the statement by which the dump's own 'gosem.cut.vars' lays the variable. In a bare row this is a premise. The card (YtnlnlamdilifcaaGreatDoorCards.lean) ties it to the program's text. -/
def laid_errors_errorType {H : Type} : DataW H := .iface "internal/reflectlite.rtype" (.agg [.ptr (.lit (.string [101, 114, 114, 111, 114]))])
def laid_colrun_columns_ErrMany {H : Type} : DataW H := .iface "*errors.errorString" (.ptr (.agg [.lit (.string [99, 111, 108, 117, 109, 110, 115, 58, 32, 109, 111, 114, 101, 32, 114, 111, 119, 115, 32, 116, 104, 97, 110, 32, 109, 97, 121, 32, 98, 101])]))
def laid_colrun_disk_ErrQuota {H : Type} : DataW H := .iface "*errors.errorString" (.ptr (.agg [.lit (.string [100, 105, 115, 107, 58, 32, 97, 115, 32, 109, 97, 110, 121, 32, 112, 97, 103, 101, 115, 32, 105, 110, 32, 117, 115, 101, 32, 97, 115, 32, 109, 97, 121, 32, 98, 101])]))
def laid_colrun_disk_ErrWrite {H : Type} : DataW H := .iface "*errors.errorString" (.ptr (.agg [.lit (.string [100, 105, 115, 107, 58, 32, 97, 32, 112, 97, 103, 101, 32, 99, 111, 117, 108, 100, 32, 110, 111, 116, 32, 98, 101, 32, 119, 114, 105, 116, 116, 101, 110])]))
def laid_colrun_disk_ErrPage {H : Type} : DataW H := .iface "*errors.errorString" (.ptr (.agg [.lit (.string [100, 105, 115, 107, 58, 32, 97, 32, 112, 97, 103, 101, 32, 105, 115, 32, 115, 112, 111, 105, 108, 116])]))
def laid_colrun_exprs_ErrExpr {H : Type} : DataW H := .iface "*errors.errorString" (.ptr (.agg [.lit (.string [101, 120, 112, 114, 115, 58, 32, 110, 111, 32, 101, 120, 112, 114, 101, 115, 115, 105, 111, 110])]))
def laid_colrun_exprs_ErrDivide {H : Type} : DataW H := .iface "*errors.errorString" (.ptr (.agg [.lit (.string [101, 120, 112, 114, 115, 58, 32, 97, 32, 100, 105, 118, 105, 115, 105, 111, 110, 32, 98, 121, 32, 122, 101, 114, 111])]))
def laid_colrun_exprs_ErrOverflow {H : Type} : DataW H := .iface "*errors.errorString" (.ptr (.agg [.lit (.string [101, 120, 112, 114, 115, 58, 32, 97, 32, 110, 117, 109, 98, 101, 114, 32, 97, 98, 111, 118, 101, 32, 54, 52, 32, 98, 105, 116, 115])]))
def laid_colrun_groups_ErrOverflow {H : Type} : DataW H := .iface "*errors.errorString" (.ptr (.agg [.lit (.string [103, 114, 111, 117, 112, 115, 58, 32, 97, 32, 115, 117, 109, 32, 97, 98, 111, 118, 101, 32, 54, 52, 32, 98, 105, 116, 115])]))
def laid_colrun_plans_ErrPlan {H : Type} : DataW H := .iface "*errors.errorString" (.ptr (.agg [.lit (.string [112, 108, 97, 110, 115, 58, 32, 110, 111, 32, 112, 108, 97, 110])]))
def laid_colrun_segments_ErrArg {H : Type} : DataW H := .iface "*errors.errorString" (.ptr (.agg [.lit (.string [115, 101, 103, 109, 101, 110, 116, 115, 58, 32, 110, 111, 116, 32, 118, 97, 108, 117, 101, 115, 32, 111, 102, 32, 111, 110, 101, 32, 116, 121, 112, 101, 44, 32, 111, 114, 32, 110, 111, 32, 119, 97, 121, 32, 116, 111, 32, 119, 114, 105, 116, 101, 32, 116, 104, 101, 109])]))
def laid_colrun_segments_ErrDict {H : Type} : DataW H := .iface "*errors.errorString" (.ptr (.agg [.lit (.string [115, 101, 103, 109, 101, 110, 116, 115, 58, 32, 109, 111, 114, 101, 32, 100, 105, 102, 102, 101, 114, 101, 110, 116, 32, 118, 97, 108, 117, 101, 115, 32, 116, 104, 97, 110, 32, 97, 32, 100, 105, 99, 116, 105, 111, 110, 97, 114, 121, 32, 104, 111, 108, 100, 115])]))
def laid_colrun_segments_ErrForm {H : Type} : DataW H := .iface "*errors.errorString" (.ptr (.agg [.lit (.string [115, 101, 103, 109, 101, 110, 116, 115, 58, 32, 98, 121, 116, 101, 115, 32, 116, 104, 97, 116, 32, 97, 114, 101, 32, 110, 111, 32, 115, 101, 103, 109, 101, 110, 116])]))
def laid_colrun_tables_ErrArg {H : Type} : DataW H := .iface "*errors.errorString" (.ptr (.agg [.lit (.string [116, 97, 98, 108, 101, 115, 58, 32, 110, 111, 32, 116, 97, 98, 108, 101, 44, 32, 111, 114, 32, 110, 111, 32, 119, 97, 121, 32, 116, 111, 32, 119, 114, 105, 116, 101, 32, 105, 116])]))
def laid_colrun_tables_ErrTable {H : Type} : DataW H := .iface "*errors.errorString" (.ptr (.agg [.lit (.string [116, 97, 98, 108, 101, 115, 58, 32, 97, 32, 116, 97, 98, 108, 101, 32, 116, 104, 97, 116, 32, 105, 115, 32, 110, 111, 116, 32, 116, 104, 101, 114, 101, 44, 32, 111, 114, 32, 105, 115, 32, 116, 104, 101, 114, 101, 32, 97, 108, 114, 101, 97, 100, 121, 44, 32, 111, 114, 32, 104, 97, 115, 32, 110, 111, 32, 112, 108, 97, 99, 101])]))
def laid_colrun_work_ErrArg {H : Type} : DataW H := .iface "*errors.errorString" (.ptr (.agg [.lit (.string [119, 111, 114, 107, 58, 32, 111, 112, 116, 105, 111, 110, 115, 32, 116, 104, 97, 116, 32, 109, 97, 121, 32, 110, 111, 116, 32, 98, 101])]))

/-- 'colrunkeep.Broken': WHATEVER THE INPUT: true; the input reads as it did. -/
def brokenSpec : ChangeSpec := { name := "broken", fn := fun _ => fun
  | [d1, d2, d3, d4] => { results := [.lit (.bool true)], args := [d1, d2, d3, d4] }
  | _ => none }
def brokenRow : OpenClaim := { program := "ytnlnlamdilifcaagreatdoor", sum := "7039d24c923aa3f59dfd487f9788ced1d10ea1e02449b4bebc828bd3193dbd91", func := "colrun/colrunkeep.Broken", spec := "broken", inPlace := ["internal/reflectlite.TypeOf", "internal/reflectlite.ValueOf", "(internal/reflectlite.Value).Type", "(internal/reflectlite.Value).IsNil", "(internal/reflectlite.Value).Elem", "(internal/reflectlite.Value).Set", "internal/abi.NoEscape", "internal/bytealg.abigen_runtime_cmpstring", "math/bits.Add64"], unfollowed := true, recurses := true, named := ["colrun/tables.ErrArg", "colrun/tables.ErrTable", "colrun/segments.ErrArg", "colrun/segments.ErrDict", "colrun/disk.ErrQuota", "colrun/disk.ErrWrite", "colrun/segments.ErrForm", "colrun/disk.ErrPage", "colrun/plans.ErrPlan", "colrun/exprs.ErrExpr", "colrun/exprs.ErrDivide", "colrun/exprs.ErrOverflow", "colrun/groups.ErrOverflow", "colrun/columns.ErrMany", "errors.errorType", "colrun/work.ErrArg"], plainKeys := false, apart := false, laid := [("errors.errorType", laid_errors_errorType), ("colrun/columns.ErrMany", laid_colrun_columns_ErrMany), ("colrun/disk.ErrQuota", laid_colrun_disk_ErrQuota), ("colrun/disk.ErrWrite", laid_colrun_disk_ErrWrite), ("colrun/disk.ErrPage", laid_colrun_disk_ErrPage), ("colrun/exprs.ErrExpr", laid_colrun_exprs_ErrExpr), ("colrun/exprs.ErrDivide", laid_colrun_exprs_ErrDivide), ("colrun/exprs.ErrOverflow", laid_colrun_exprs_ErrOverflow), ("colrun/groups.ErrOverflow", laid_colrun_groups_ErrOverflow), ("colrun/plans.ErrPlan", laid_colrun_plans_ErrPlan), ("colrun/segments.ErrArg", laid_colrun_segments_ErrArg), ("colrun/segments.ErrDict", laid_colrun_segments_ErrDict), ("colrun/segments.ErrForm", laid_colrun_segments_ErrForm), ("colrun/tables.ErrArg", laid_colrun_tables_ErrArg), ("colrun/tables.ErrTable", laid_colrun_tables_ErrTable), ("colrun/work.ErrArg", laid_colrun_work_ErrArg)] }
def BrokenSaid : Prop := brokenRow.holds Tryz.pinned (OpenSpec.ofChange brokenSpec)

/-- ITS FALSE NEIGHBOUR: 'it returns false'. Refute it at one input. -/
def brokenWrong : ChangeSpec := { name := "broken", fn := fun _ => fun
  | [d1, d2, d3, d4] => { results := [.lit (.bool false)], args := [d1, d2, d3, d4] }
  | _ => none }
def BrokenWrongFalsely : Prop := brokenRow.holds Tryz.pinned (OpenSpec.ofChange brokenWrong)

/- THE SECOND FORM. 'bulk': how many values and letters a reading holds, each counted each time it is reached (what is shared counts as often as it is met; a slice's spare places count too). A statement '..UptoSaid' is the law's where the arguments, and the package variables that the reading takes, are together of bulk at most 1048576: NARROWER than '..Said'. Prove '..Said' where nothing that the law and all that it calls make is longer than what came in: it says more and counts as full. Else prove '..UptoSaid'. A law counts once. -/
mutual
def uptoBulk {H : Type} : DataW H → Nat
  | .lit (.string bytes) => bytes.length + 1
  | .lit _ => 1
  | .nil => 1
  | .ptr d => uptoBulk d + 1
  | .slice elems spare => uptoBulkAll elems + uptoBulkAll spare + 1
  | .agg parts => uptoBulkAll parts + 1
  | .iface _ d => uptoBulk d + 1
  | .map entries => uptoBulkEntries entries + 1
  | .held _ => 1
def uptoBulkAll {H : Type} : List (DataW H) → Nat
  | [] => 0
  | d :: r => uptoBulk d + uptoBulkAll r
def uptoBulkEntries {H : Type} : List (Lit × DataW H) → Nat
  | [] => 0
  | x :: r => uptoBulkEntry x + uptoBulkEntries r
def uptoBulkEntry {H : Type} : Lit × DataW H → Nat
  | (.string bytes, d) => bytes.length + uptoBulk d + 1
  | (_, d) => uptoBulk d + 1
 end
def uptoSmall : (H : Type) → List (DataW H) → Bool := fun _ ds => decide (uptoBulkAll ds ≤ 1048576)
def OpenSpec.upto (s : _root_.Go.ChangeSpec) : _root_.Go.OpenSpec := { _root_.Go.OpenSpec.ofChange s with cond := some uptoSmall }

/-- 'colrunkeep.Broken', WHERE WHAT IT READS IS OF BULK AT MOST 1048576: true; the input reads as it did. -/
def brokenUptoRow : OpenClaim := { program := "ytnlnlamdilifcaagreatdoor", sum := "7039d24c923aa3f59dfd487f9788ced1d10ea1e02449b4bebc828bd3193dbd91", func := "colrun/colrunkeep.Broken", spec := "broken", inPlace := ["internal/reflectlite.TypeOf", "internal/reflectlite.ValueOf", "(internal/reflectlite.Value).Type", "(internal/reflectlite.Value).IsNil", "(internal/reflectlite.Value).Elem", "(internal/reflectlite.Value).Set", "internal/abi.NoEscape", "internal/bytealg.abigen_runtime_cmpstring", "math/bits.Add64"], unfollowed := true, recurses := true, named := ["colrun/tables.ErrArg", "colrun/tables.ErrTable", "colrun/segments.ErrArg", "colrun/segments.ErrDict", "colrun/disk.ErrQuota", "colrun/disk.ErrWrite", "colrun/segments.ErrForm", "colrun/disk.ErrPage", "colrun/plans.ErrPlan", "colrun/exprs.ErrExpr", "colrun/exprs.ErrDivide", "colrun/exprs.ErrOverflow", "colrun/groups.ErrOverflow", "colrun/columns.ErrMany", "errors.errorType", "colrun/work.ErrArg"], plainKeys := false, apart := false, laid := [("errors.errorType", laid_errors_errorType), ("colrun/columns.ErrMany", laid_colrun_columns_ErrMany), ("colrun/disk.ErrQuota", laid_colrun_disk_ErrQuota), ("colrun/disk.ErrWrite", laid_colrun_disk_ErrWrite), ("colrun/disk.ErrPage", laid_colrun_disk_ErrPage), ("colrun/exprs.ErrExpr", laid_colrun_exprs_ErrExpr), ("colrun/exprs.ErrDivide", laid_colrun_exprs_ErrDivide), ("colrun/exprs.ErrOverflow", laid_colrun_exprs_ErrOverflow), ("colrun/groups.ErrOverflow", laid_colrun_groups_ErrOverflow), ("colrun/plans.ErrPlan", laid_colrun_plans_ErrPlan), ("colrun/segments.ErrArg", laid_colrun_segments_ErrArg), ("colrun/segments.ErrDict", laid_colrun_segments_ErrDict), ("colrun/segments.ErrForm", laid_colrun_segments_ErrForm), ("colrun/tables.ErrArg", laid_colrun_tables_ErrArg), ("colrun/tables.ErrTable", laid_colrun_tables_ErrTable), ("colrun/work.ErrArg", laid_colrun_work_ErrArg)], narrowed := true }
def BrokenUptoSaid : Prop := brokenUptoRow.holds Tryz.pinned (OpenSpec.upto brokenSpec)

end Rows
end Go.Proofs.YtnlnlamdilifcaaGreatDoor
