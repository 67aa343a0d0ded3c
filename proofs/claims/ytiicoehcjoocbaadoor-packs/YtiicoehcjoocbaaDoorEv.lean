/- The node, the column and the page of an error that the program makes. -/
import Derived.Test.YtiicoehcjoocbaaDoorEu
namespace Go.Proofs.YtiicoehcjoocbaaDoor
open Go.RowKit Go.Extern.Stop Go.Stop Go.Extern

set_option maxHeartbeats 1000000 in
theorem nodeOf_nil (w : World) : Calls Tryd.prog 35 #[.nilIface] w fun e w' => e = .returned (.int .i64 (-1)) ∧ Below w.heap.size w w' := by
  go_enter Tryd.func35, Tryd.ntmps35
  go_wp2_with fail
  refine (as_nil _ _).mono ?_
  rintro e w' ⟨rfl, rfl⟩
  go_wp2_with fail
  go_ret
  exact ⟨rfl, (Below.refl _ _).alloc (Nat.le_refl _) _⟩
set_option maxHeartbeats 1000000 in
theorem nodeOf_any (v : Value) (x : Option Int) (w : World) (h : ∃ k, ChainT w 82 0 k v x) (hg : w.cell? ⟨9, 0, none⟩ = some (.iface 129 (.agg #[.pointer (some ⟨10, 42, none⟩)]))) :
    Calls Tryd.prog 35 #[v] w fun e w' => e = .returned (.int .i64 (x.getD (-1))) ∧ Below w.heap.size w w' := by
  have hba : Below w.heap.size w (w.alloc (.cells #[.pointer none] 82)) := (Below.refl _ w).alloc (Nat.le_refl _) _
  have hc := asT_any _ _ 0 isT_plan v x w.heap.size (w.alloc (.cells #[.pointer none] 82)) w.heap.size (by obtain ⟨k, hh⟩ := h; exact ⟨k, hh.stay hba⟩) (cell_below hba hg) (heap_alloc_new _ _) (Nat.le_refl _)
  clear h
  go_enter Tryd.func35, Tryd.ntmps35
  go_wp2_with fail
  refine hc.mono ?_
  rintro e w' ⟨hbw, ⟨rfl, rfl⟩ | ⟨b, y, rfl, rfl, q1, q2⟩⟩
  · go_wp2_with fail
    go_ret
    exact ⟨rfl, hba.trans hbw⟩
  · go_wp2_with fail
    go_ret
    exact ⟨rfl, hba.trans hbw⟩

set_option maxHeartbeats 1000000 in
theorem columnOf_nil (w : World) : Calls Tryd.prog 36 #[.nilIface] w fun e w' => e = .returned (.int .i64 (-1)) ∧ Below w.heap.size w w' := by
  go_enter Tryd.func36, Tryd.ntmps36
  go_wp2_with fail
  refine (as_nil _ _).mono ?_
  rintro e w' ⟨rfl, rfl⟩
  go_wp2_with fail
  go_ret
  exact ⟨rfl, (Below.refl _ _).alloc (Nat.le_refl _) _⟩
set_option maxHeartbeats 1000000 in
theorem columnOf_any (v : Value) (x : Option Int) (w : World) (h : ∃ k, ChainT w 87 1 k v x) (hg : w.cell? ⟨9, 0, none⟩ = some (.iface 129 (.agg #[.pointer (some ⟨10, 42, none⟩)]))) :
    Calls Tryd.prog 36 #[v] w fun e w' => e = .returned (.int .i64 (x.getD (-1))) ∧ Below w.heap.size w w' := by
  have hba : Below w.heap.size w (w.alloc (.cells #[.pointer none] 87)) := (Below.refl _ w).alloc (Nat.le_refl _) _
  have hc := asT_any _ _ 1 isT_tab v x w.heap.size (w.alloc (.cells #[.pointer none] 87)) w.heap.size (by obtain ⟨k, hh⟩ := h; exact ⟨k, hh.stay hba⟩) (cell_below hba hg) (heap_alloc_new _ _) (Nat.le_refl _)
  clear h
  go_enter Tryd.func36, Tryd.ntmps36
  go_wp2_with fail
  refine hc.mono ?_
  rintro e w' ⟨hbw, ⟨rfl, rfl⟩ | ⟨b, y, rfl, rfl, q1, q2⟩⟩
  · go_wp2_with fail
    go_ret
    exact ⟨rfl, hba.trans hbw⟩
  · go_wp2_with fail
    go_ret
    exact ⟨rfl, hba.trans hbw⟩

set_option maxHeartbeats 1000000 in
theorem pageOf_nil (w : World) : Calls Tryd.prog 37 #[.nilIface] w fun e w' => e = .returned (.int .i64 (-1)) ∧ Below w.heap.size w w' := by
  go_enter Tryd.func37, Tryd.ntmps37
  go_wp2_with fail
  refine (as_nil _ _).mono ?_
  rintro e w' ⟨rfl, rfl⟩
  go_wp2_with fail
  go_ret
  exact ⟨rfl, (Below.refl _ _).alloc (Nat.le_refl _) _⟩
set_option maxHeartbeats 1000000 in
theorem pageOf_any (v : Value) (x : Option Int) (w : World) (h : ∃ k, ChainT w 91 1 k v x) (hg : w.cell? ⟨9, 0, none⟩ = some (.iface 129 (.agg #[.pointer (some ⟨10, 42, none⟩)]))) :
    Calls Tryd.prog 37 #[v] w fun e w' => e = .returned (.int .i64 (x.getD (-1))) ∧ Below w.heap.size w w' := by
  have hba : Below w.heap.size w (w.alloc (.cells #[.pointer none] 91)) := (Below.refl _ w).alloc (Nat.le_refl _) _
  have hc := asT_any _ _ 1 isT_disk v x w.heap.size (w.alloc (.cells #[.pointer none] 91)) w.heap.size (by obtain ⟨k, hh⟩ := h; exact ⟨k, hh.stay hba⟩) (cell_below hba hg) (heap_alloc_new _ _) (Nat.le_refl _)
  clear h
  go_enter Tryd.func37, Tryd.ntmps37
  go_wp2_with fail
  refine hc.mono ?_
  rintro e w' ⟨hbw, ⟨rfl, rfl⟩ | ⟨b, y, rfl, rfl, q1, q2⟩⟩
  · go_wp2_with fail
    go_ret
    exact ⟨rfl, hba.trans hbw⟩
  · go_wp2_with fail
    go_ret
    exact ⟨rfl, hba.trans hbw⟩
end Go.Proofs.YtiicoehcjoocbaaDoor
