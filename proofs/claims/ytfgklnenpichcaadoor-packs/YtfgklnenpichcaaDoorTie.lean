/-
  DERIVED. GIVEN WITH THE SEED: THE PROGRAM's TIES (one call each: nine closed facts by the kernel) AND EACH ROW's TIE, after the 31st guide's Derived/Test/Toyas{Tie, Card}.lean. No idea stands in it: it is a product of the set-up. Laid BY PROGRAM, IN A SANDBOX (cutbox-door.mjs). By AI agents, Wed Nov 11 2026. No macro, syntax, notation, axiom, sorry.
-/
import Derived.Test.YtfgklnenpichcaaDoorRows
import Derived.LaidByTextLater
import Derived.SevenTiedAt
import Derived.LaidSub
import Derived.LaidOnce
namespace Go.Proofs.YtfgklnenpichcaaDoor
open Go
set_option maxRecDepth 100000
theorem seatTie1 : Tryd.prog.laidByTextLater [("errors.errorType", Rows.laid_errors_errorType), ("colrun/columns.ErrMany", Rows.laid_colrun_columns_ErrMany), ("colrun/disk.ErrQuota", Rows.laid_colrun_disk_ErrQuota), ("colrun/disk.ErrWrite", Rows.laid_colrun_disk_ErrWrite), ("colrun/disk.ErrPage", Rows.laid_colrun_disk_ErrPage), ("colrun/exprs.ErrExpr", Rows.laid_colrun_exprs_ErrExpr), ("colrun/exprs.ErrDivide", Rows.laid_colrun_exprs_ErrDivide), ("colrun/exprs.ErrOverflow", Rows.laid_colrun_exprs_ErrOverflow), ("colrun/groups.ErrOverflow", Rows.laid_colrun_groups_ErrOverflow), ("colrun/plans.ErrPlan", Rows.laid_colrun_plans_ErrPlan), ("colrun/segments.ErrArg", Rows.laid_colrun_segments_ErrArg), ("colrun/segments.ErrDict", Rows.laid_colrun_segments_ErrDict), ("colrun/segments.ErrForm", Rows.laid_colrun_segments_ErrForm), ("colrun/tables.ErrTable", Rows.laid_colrun_tables_ErrTable)] [.handle, .sentinel, .sentinel, .sentinel, .sentinel, .sentinel, .sentinel, .sentinel, .sentinel, .sentinel, .sentinel, .sentinel, .sentinel, .sentinel] true :=
  Program.laidByTextLater_by_one 263 8 2 (by kernel_rfl) (by kernel_rfl) (by kernel_rfl) (by kernel_rfl) (by kernel_rfl) (by kernel_rfl) (fun _ _ => by kernel_rfl)
theorem noOwnUnsafe : Tryd.pinned.checked.prog.headLifts.contains "ownunsafe" = false := by kernel_rfl
theorem tie : Tryd.prog.laidByTextLater [("errors.errorType", Rows.laid_errors_errorType), ("colrun/columns.ErrMany", Rows.laid_colrun_columns_ErrMany), ("colrun/disk.ErrQuota", Rows.laid_colrun_disk_ErrQuota), ("colrun/disk.ErrWrite", Rows.laid_colrun_disk_ErrWrite), ("colrun/disk.ErrPage", Rows.laid_colrun_disk_ErrPage), ("colrun/exprs.ErrExpr", Rows.laid_colrun_exprs_ErrExpr), ("colrun/exprs.ErrDivide", Rows.laid_colrun_exprs_ErrDivide), ("colrun/exprs.ErrOverflow", Rows.laid_colrun_exprs_ErrOverflow), ("colrun/groups.ErrOverflow", Rows.laid_colrun_groups_ErrOverflow), ("colrun/plans.ErrPlan", Rows.laid_colrun_plans_ErrPlan), ("colrun/segments.ErrArg", Rows.laid_colrun_segments_ErrArg), ("colrun/segments.ErrDict", Rows.laid_colrun_segments_ErrDict), ("colrun/segments.ErrForm", Rows.laid_colrun_segments_ErrForm), ("colrun/tables.ErrTable", Rows.laid_colrun_tables_ErrTable)] [.handle, .sentinel, .sentinel, .sentinel, .sentinel, .sentinel, .sentinel, .sentinel, .sentinel, .sentinel, .sentinel, .sentinel, .sentinel, .sentinel] true :=
  Program.laidByTextLater.sub seatTie1 ["errors.errorType", "colrun/columns.ErrMany", "colrun/disk.ErrQuota", "colrun/disk.ErrWrite", "colrun/disk.ErrPage", "colrun/exprs.ErrExpr", "colrun/exprs.ErrDivide", "colrun/exprs.ErrOverflow", "colrun/groups.ErrOverflow", "colrun/plans.ErrPlan", "colrun/segments.ErrArg", "colrun/segments.ErrDict", "colrun/segments.ErrForm", "colrun/tables.ErrTable"] (by kernel_rfl) (by kernel_rfl)
theorem packs_row_tie : Rows.packsRow.laidByTextAt .later Tryd.pinned [.handle, .sentinel, .sentinel, .sentinel, .sentinel, .sentinel, .sentinel, .sentinel, .sentinel, .sentinel, .sentinel, .sentinel, .sentinel, .sentinel] true :=
  OpenClaim.laidByTextAt_later rfl rfl tie noOwnUnsafe
theorem segmented_row_tie : Rows.segmentedRow.laidByTextAt .later Tryd.pinned [.handle, .sentinel, .sentinel, .sentinel, .sentinel, .sentinel, .sentinel, .sentinel, .sentinel, .sentinel, .sentinel, .sentinel, .sentinel, .sentinel] true :=
  OpenClaim.laidByTextAt_later rfl rfl tie noOwnUnsafe
theorem packsUpto_row_tie : Rows.packsUptoRow.laidByTextAt .later Tryd.pinned [.handle, .sentinel, .sentinel, .sentinel, .sentinel, .sentinel, .sentinel, .sentinel, .sentinel, .sentinel, .sentinel, .sentinel, .sentinel, .sentinel] true :=
  OpenClaim.laidByTextAt_later rfl rfl tie noOwnUnsafe
theorem segmentedUpto_row_tie : Rows.segmentedUptoRow.laidByTextAt .later Tryd.pinned [.handle, .sentinel, .sentinel, .sentinel, .sentinel, .sentinel, .sentinel, .sentinel, .sentinel, .sentinel, .sentinel, .sentinel, .sentinel, .sentinel] true :=
  OpenClaim.laidByTextAt_later rfl rfl tie noOwnUnsafe
end Go.Proofs.YtfgklnenpichcaaDoor
