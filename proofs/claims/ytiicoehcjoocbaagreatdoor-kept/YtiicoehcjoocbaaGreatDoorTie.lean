/-
  DERIVED. GIVEN WITH THE SEED: THE PROGRAM's TIES (one call each: nine closed facts by the kernel) AND EACH ROW's TIE, after the 31st guide's Derived/Test/Toyas{Tie, Card}.lean. No idea stands in it: it is a product of the set-up. Laid BY PROGRAM, IN A SANDBOX (cutbox-door.mjs). By AI agents, Wed Nov 11 2026. No macro, syntax, notation, axiom, sorry.
-/
import Derived.Test.YtiicoehcjoocbaaGreatDoorRows
import Derived.LaidByTextLater
import Derived.SevenTiedAt
import Derived.LaidSub
import Derived.LaidOnce
namespace Go.Proofs.YtiicoehcjoocbaaGreatDoor
open Go
set_option maxRecDepth 100000
theorem seatTie1 : Tryz.prog.laidByTextLater [("errors.errorType", Rows.laid_errors_errorType), ("colrun/exprs.ErrExpr", Rows.laid_colrun_exprs_ErrExpr), ("colrun/plans.ErrPlan", Rows.laid_colrun_plans_ErrPlan), ("colrun/disk.ErrQuota", Rows.laid_colrun_disk_ErrQuota), ("colrun/disk.ErrWrite", Rows.laid_colrun_disk_ErrWrite), ("colrun/disk.ErrPage", Rows.laid_colrun_disk_ErrPage), ("colrun/segments.ErrArg", Rows.laid_colrun_segments_ErrArg), ("colrun/segments.ErrDict", Rows.laid_colrun_segments_ErrDict), ("colrun/segments.ErrForm", Rows.laid_colrun_segments_ErrForm), ("colrun/tables.ErrArg", Rows.laid_colrun_tables_ErrArg), ("colrun/tables.ErrTable", Rows.laid_colrun_tables_ErrTable)] [.handle, .sentinel, .sentinel, .sentinel, .sentinel, .sentinel, .sentinel, .sentinel, .sentinel, .sentinel, .sentinel] true :=
  Program.laidByTextLater_by_one 206 8 2 (by kernel_rfl) (by kernel_rfl) (by kernel_rfl) (by kernel_rfl) (by kernel_rfl) (by kernel_rfl) (fun _ _ => by kernel_rfl)
theorem noOwnUnsafe : Tryz.pinned.checked.prog.headLifts.contains "ownunsafe" = false := by kernel_rfl
theorem tie : Tryz.prog.laidByTextLater [("errors.errorType", Rows.laid_errors_errorType), ("colrun/exprs.ErrExpr", Rows.laid_colrun_exprs_ErrExpr), ("colrun/plans.ErrPlan", Rows.laid_colrun_plans_ErrPlan), ("colrun/disk.ErrQuota", Rows.laid_colrun_disk_ErrQuota), ("colrun/disk.ErrWrite", Rows.laid_colrun_disk_ErrWrite), ("colrun/disk.ErrPage", Rows.laid_colrun_disk_ErrPage), ("colrun/segments.ErrArg", Rows.laid_colrun_segments_ErrArg), ("colrun/segments.ErrDict", Rows.laid_colrun_segments_ErrDict), ("colrun/segments.ErrForm", Rows.laid_colrun_segments_ErrForm), ("colrun/tables.ErrTable", Rows.laid_colrun_tables_ErrTable)] [.handle, .sentinel, .sentinel, .sentinel, .sentinel, .sentinel, .sentinel, .sentinel, .sentinel, .sentinel] true :=
  Program.laidByTextLater.sub seatTie1 ["errors.errorType", "colrun/exprs.ErrExpr", "colrun/plans.ErrPlan", "colrun/disk.ErrQuota", "colrun/disk.ErrWrite", "colrun/disk.ErrPage", "colrun/segments.ErrArg", "colrun/segments.ErrDict", "colrun/segments.ErrForm", "colrun/tables.ErrTable"] (by kernel_rfl) (by kernel_rfl)
theorem unpacks_row_tie : Rows.unpacksRow.laidByTextAt .later Tryz.pinned [.handle, .sentinel, .sentinel, .sentinel, .sentinel, .sentinel, .sentinel, .sentinel, .sentinel, .sentinel] true :=
  OpenClaim.laidByTextAt_later rfl rfl tie noOwnUnsafe
theorem tie2 : Tryz.prog.laidByTextLater [("errors.errorType", Rows.laid_errors_errorType), ("colrun/exprs.ErrExpr", Rows.laid_colrun_exprs_ErrExpr), ("colrun/plans.ErrPlan", Rows.laid_colrun_plans_ErrPlan), ("colrun/disk.ErrQuota", Rows.laid_colrun_disk_ErrQuota), ("colrun/disk.ErrWrite", Rows.laid_colrun_disk_ErrWrite), ("colrun/disk.ErrPage", Rows.laid_colrun_disk_ErrPage), ("colrun/segments.ErrArg", Rows.laid_colrun_segments_ErrArg), ("colrun/segments.ErrDict", Rows.laid_colrun_segments_ErrDict), ("colrun/segments.ErrForm", Rows.laid_colrun_segments_ErrForm), ("colrun/tables.ErrArg", Rows.laid_colrun_tables_ErrArg), ("colrun/tables.ErrTable", Rows.laid_colrun_tables_ErrTable)] [.handle, .sentinel, .sentinel, .sentinel, .sentinel, .sentinel, .sentinel, .sentinel, .sentinel, .sentinel, .sentinel] true :=
  Program.laidByTextLater.sub seatTie1 ["errors.errorType", "colrun/exprs.ErrExpr", "colrun/plans.ErrPlan", "colrun/disk.ErrQuota", "colrun/disk.ErrWrite", "colrun/disk.ErrPage", "colrun/segments.ErrArg", "colrun/segments.ErrDict", "colrun/segments.ErrForm", "colrun/tables.ErrArg", "colrun/tables.ErrTable"] (by kernel_rfl) (by kernel_rfl)
theorem stores_row_tie : Rows.storesRow.laidByTextAt .later Tryz.pinned [.handle, .sentinel, .sentinel, .sentinel, .sentinel, .sentinel, .sentinel, .sentinel, .sentinel, .sentinel, .sentinel] true :=
  OpenClaim.laidByTextAt_later rfl rfl tie2 noOwnUnsafe
theorem kept_row_tie : Rows.keptRow.laidByTextAt .later Tryz.pinned [.handle, .sentinel, .sentinel, .sentinel, .sentinel, .sentinel, .sentinel, .sentinel, .sentinel, .sentinel, .sentinel] true :=
  OpenClaim.laidByTextAt_later rfl rfl tie2 noOwnUnsafe
theorem spoilt_row_tie : Rows.spoiltRow.laidByTextAt .later Tryz.pinned [.handle, .sentinel, .sentinel, .sentinel, .sentinel, .sentinel, .sentinel, .sentinel, .sentinel, .sentinel, .sentinel] true :=
  OpenClaim.laidByTextAt_later rfl rfl tie2 noOwnUnsafe
theorem filled_row_tie : Rows.filledRow.laidByTextAt .later Tryz.pinned [.handle, .sentinel, .sentinel, .sentinel, .sentinel, .sentinel, .sentinel, .sentinel, .sentinel, .sentinel, .sentinel] true :=
  OpenClaim.laidByTextAt_later rfl rfl tie2 noOwnUnsafe
theorem checks_row_tie : Rows.checksRow.laidByTextAt .later Tryz.pinned [.handle, .sentinel, .sentinel, .sentinel, .sentinel, .sentinel, .sentinel, .sentinel, .sentinel, .sentinel, .sentinel] true :=
  OpenClaim.laidByTextAt_later rfl rfl tie2 noOwnUnsafe
theorem unpacksUpto_row_tie : Rows.unpacksUptoRow.laidByTextAt .later Tryz.pinned [.handle, .sentinel, .sentinel, .sentinel, .sentinel, .sentinel, .sentinel, .sentinel, .sentinel, .sentinel] true :=
  OpenClaim.laidByTextAt_later rfl rfl tie noOwnUnsafe
theorem storesUpto_row_tie : Rows.storesUptoRow.laidByTextAt .later Tryz.pinned [.handle, .sentinel, .sentinel, .sentinel, .sentinel, .sentinel, .sentinel, .sentinel, .sentinel, .sentinel, .sentinel] true :=
  OpenClaim.laidByTextAt_later rfl rfl tie2 noOwnUnsafe
theorem keptUpto_row_tie : Rows.keptUptoRow.laidByTextAt .later Tryz.pinned [.handle, .sentinel, .sentinel, .sentinel, .sentinel, .sentinel, .sentinel, .sentinel, .sentinel, .sentinel, .sentinel] true :=
  OpenClaim.laidByTextAt_later rfl rfl tie2 noOwnUnsafe
theorem spoiltUpto_row_tie : Rows.spoiltUptoRow.laidByTextAt .later Tryz.pinned [.handle, .sentinel, .sentinel, .sentinel, .sentinel, .sentinel, .sentinel, .sentinel, .sentinel, .sentinel, .sentinel] true :=
  OpenClaim.laidByTextAt_later rfl rfl tie2 noOwnUnsafe
theorem filledUpto_row_tie : Rows.filledUptoRow.laidByTextAt .later Tryz.pinned [.handle, .sentinel, .sentinel, .sentinel, .sentinel, .sentinel, .sentinel, .sentinel, .sentinel, .sentinel, .sentinel] true :=
  OpenClaim.laidByTextAt_later rfl rfl tie2 noOwnUnsafe
theorem checksUpto_row_tie : Rows.checksUptoRow.laidByTextAt .later Tryz.pinned [.handle, .sentinel, .sentinel, .sentinel, .sentinel, .sentinel, .sentinel, .sentinel, .sentinel, .sentinel, .sentinel] true :=
  OpenClaim.laidByTextAt_later rfl rfl tie2 noOwnUnsafe
end Go.Proofs.YtiicoehcjoocbaaGreatDoor
