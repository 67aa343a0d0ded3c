/- The node, the column and the page of an error that the program makes. -/
import Derived.Test.YtiicoehcjoocbaaGreatDoorEu
namespace Go.Proofs.YtiicoehcjoocbaaGreatDoor
open Go.RowKit Go.Extern.Stop Go.Stop Go.Extern

set_option maxHeartbeats 1000000 in
theorem nodeOf_nil (w : World) : Calls Tryz.prog 80 #[.nilIface] w fun e w' => e = .returned (.int .i64 (-1)) ∧ Below w.heap.size w w' := by
  go_enter Tryz.func80, Tryz.ntmps80
  go_wp2_with fail
  refine (as_nil _ _).mono ?_
  rintro e w' ⟨rfl, rfl⟩
  go_wp2_with fail
  go_ret
  exact ⟨rfl, (Below.refl _ _).alloc (Nat.le_refl _) _⟩
set_option maxHeartbeats 1000000 in
theorem nodeOf_any (v : Value) (x : Option Int) (w : World) (h : ∃ k, ChainT w 220 0 k v x) (hg : w.cell? ⟨10, 0, none⟩ = some (.iface 315 (.agg #[.pointer (some ⟨11, 100, none⟩)]))) :
    Calls Tryz.prog 80 #[v] w fun e w' => e = .returned (.int .i64 (x.getD (-1))) ∧ Below w.heap.size w w' := by
  have hba : Below w.heap.size w (w.alloc (.cells #[.pointer none] 220)) := (Below.refl _ w).alloc (Nat.le_refl _) _
  have hc := asT_any _ _ 0 isT_plan v x w.heap.size (w.alloc (.cells #[.pointer none] 220)) w.heap.size (by obtain ⟨k, hh⟩ := h; exact ⟨k, hh.stay hba⟩) (cell_below hba hg) (heap_alloc_new _ _) (Nat.le_refl _)
  clear h
  go_enter Tryz.func80, Tryz.ntmps80
  go_wp2_with fail
  refine hc.mono ?_
  rintro e w' ⟨hbw, ⟨rfl, rfl⟩ | ⟨b, y, rfl, rfl, q1, q2⟩⟩
  · go_wp2_with fail
    go_ret
    exact ⟨rfl, hba.trans hbw⟩
  · go_wp2_with fail
    go_ret
    exact ⟨rfl, hba.trans hbw⟩

set_option maxHeartbeats 1000000 in
theorem columnOf_nil (w : World) : Calls Tryz.prog 81 #[.nilIface] w fun e w' => e = .returned (.int .i64 (-1)) ∧ Below w.heap.size w w' := by
  go_enter Tryz.func81, Tryz.ntmps81
  go_wp2_with fail
  refine (as_nil _ _).mono ?_
  rintro e w' ⟨rfl, rfl⟩
  go_wp2_with fail
  go_ret
  exact ⟨rfl, (Below.refl _ _).alloc (Nat.le_refl _) _⟩
set_option maxHeartbeats 1000000 in
theorem columnOf_any (v : Value) (x : Option Int) (w : World) (h : ∃ k, ChainT w 174 1 k v x) (hg : w.cell? ⟨10, 0, none⟩ = some (.iface 315 (.agg #[.pointer (some ⟨11, 100, none⟩)]))) :
    Calls Tryz.prog 81 #[v] w fun e w' => e = .returned (.int .i64 (x.getD (-1))) ∧ Below w.heap.size w w' := by
  have hba : Below w.heap.size w (w.alloc (.cells #[.pointer none] 174)) := (Below.refl _ w).alloc (Nat.le_refl _) _
  have hc := asT_any _ _ 1 isT_tab v x w.heap.size (w.alloc (.cells #[.pointer none] 174)) w.heap.size (by obtain ⟨k, hh⟩ := h; exact ⟨k, hh.stay hba⟩) (cell_below hba hg) (heap_alloc_new _ _) (Nat.le_refl _)
  clear h
  go_enter Tryz.func81, Tryz.ntmps81
  go_wp2_with fail
  refine hc.mono ?_
  rintro e w' ⟨hbw, ⟨rfl, rfl⟩ | ⟨b, y, rfl, rfl, q1, q2⟩⟩
  · go_wp2_with fail
    go_ret
    exact ⟨rfl, hba.trans hbw⟩
  · go_wp2_with fail
    go_ret
    exact ⟨rfl, hba.trans hbw⟩

set_option maxHeartbeats 1000000 in
theorem pageOf_nil (w : World) : Calls Tryz.prog 82 #[.nilIface] w fun e w' => e = .returned (.int .i64 (-1)) ∧ Below w.heap.size w w' := by
  go_enter Tryz.func82, Tryz.ntmps82
  go_wp2_with fail
  refine (as_nil _ _).mono ?_
  rintro e w' ⟨rfl, rfl⟩
  go_wp2_with fail
  go_ret
  exact ⟨rfl, (Below.refl _ _).alloc (Nat.le_refl _) _⟩
set_option maxHeartbeats 1000000 in
theorem pageOf_any (v : Value) (x : Option Int) (w : World) (h : ∃ k, ChainT w 226 1 k v x) (hg : w.cell? ⟨10, 0, none⟩ = some (.iface 315 (.agg #[.pointer (some ⟨11, 100, none⟩)]))) :
    Calls Tryz.prog 82 #[v] w fun e w' => e = .returned (.int .i64 (x.getD (-1))) ∧ Below w.heap.size w w' := by
  have hba : Below w.heap.size w (w.alloc (.cells #[.pointer none] 226)) := (Below.refl _ w).alloc (Nat.le_refl _) _
  have hc := asT_any _ _ 1 isT_disk v x w.heap.size (w.alloc (.cells #[.pointer none] 226)) w.heap.size (by obtain ⟨k, hh⟩ := h; exact ⟨k, hh.stay hba⟩) (cell_below hba hg) (heap_alloc_new _ _) (Nat.le_refl _)
  clear h
  go_enter Tryz.func82, Tryz.ntmps82
  go_wp2_with fail
  refine hc.mono ?_
  rintro e w' ⟨hbw, ⟨rfl, rfl⟩ | ⟨b, y, rfl, rfl, q1, q2⟩⟩
  · go_wp2_with fail
    go_ret
    exact ⟨rfl, hba.trans hbw⟩
  · go_wp2_with fail
    go_ret
    exact ⟨rfl, hba.trans hbw⟩
end Go.Proofs.YtiicoehcjoocbaaGreatDoor
