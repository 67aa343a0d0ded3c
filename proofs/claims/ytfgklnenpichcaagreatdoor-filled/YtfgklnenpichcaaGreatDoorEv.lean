/- The node, the row, the column and the page of an error that the program makes. -/
import Derived.Test.YtfgklnenpichcaaGreatDoorEu
namespace Go.Proofs.YtfgklnenpichcaaGreatDoor
open Go.RowKit Go.Extern.Stop Go.Stop Go.Extern

set_option maxHeartbeats 1000000 in
theorem nodeOf_nil (w : World) : Calls Tryz.prog 49 #[.nilIface] w fun e w' => e = .returned (.int .i64 (-1)) ∧ Below w.heap.size w w' := by
  go_enter Tryz.func49, Tryz.ntmps49
  go_wp2_with fail
  refine (as_nil _ _).mono ?_
  rintro e w' ⟨rfl, rfl⟩
  go_wp2_with fail
  go_ret
  exact ⟨rfl, (Below.refl _ _).alloc (Nat.le_refl _) _⟩
set_option maxHeartbeats 1000000 in
theorem nodeOf_any (v : Value) (x : Option Int) (w : World) (h : ∃ k, ChainT w 138 0 k v x) (hg : w.cell? ⟨14, 0, none⟩ = some (.iface 217 (.agg #[.pointer (some ⟨15, 70, none⟩)]))) :
    Calls Tryz.prog 49 #[v] w fun e w' => e = .returned (.int .i64 (x.getD (-1))) ∧ Below w.heap.size w w' := by
  have hba : Below w.heap.size w (w.alloc (.cells #[.pointer none] 138)) := (Below.refl _ w).alloc (Nat.le_refl _) _
  have hc := asT_any _ _ 0 isT_plan v x w.heap.size (w.alloc (.cells #[.pointer none] 138)) w.heap.size (by obtain ⟨k, hh⟩ := h; exact ⟨k, hh.stay hba⟩) (cell_below hba hg) (heap_alloc_new _ _) (Nat.le_refl _)
  clear h
  go_enter Tryz.func49, Tryz.ntmps49
  go_wp2_with fail
  refine hc.mono ?_
  rintro e w' ⟨hbw, ⟨rfl, rfl, _⟩ | ⟨b, y, rfl, rfl, q1, q2⟩⟩
  · go_wp2_with fail
    go_ret
    exact ⟨rfl, hba.trans hbw⟩
  · go_wp2_with fail
    go_ret
    exact ⟨rfl, hba.trans hbw⟩

set_option maxHeartbeats 1000000 in
theorem rowOf_nil (w : World) : Calls Tryz.prog 50 #[.nilIface] w fun e w' => e = .returned (.int .i64 (-1)) ∧ Below w.heap.size w w' := by
  go_enter Tryz.func50, Tryz.ntmps50
  go_wp2_with fail
  refine (as_nil _ _).mono ?_
  rintro e w' ⟨rfl, rfl⟩
  go_wp2_with fail
  refine (as_nil _ _).mono ?_
  rintro e w' ⟨rfl, rfl⟩
  go_wp2_with fail
  go_ret
  exact ⟨rfl, ((Below.refl _ _).alloc (Nat.le_refl _) _).alloc (by simp) _⟩
set_option maxHeartbeats 2000000 in
theorem rowOf_any (v : Value) (x y : Option Int) (w : World) (h : ∃ k, ChainT w 143 0 k v x) (h2 : ∃ k, ChainT w 144 0 k v y) (hg : w.cell? ⟨14, 0, none⟩ = some (.iface 217 (.agg #[.pointer (some ⟨15, 70, none⟩)]))) :
    Calls Tryz.prog 50 #[v] w fun e w' => e = .returned (.int .i64 ((x.or y).getD (-1))) ∧ Below w.heap.size w w' := by
  have hba : Below w.heap.size w ((w.alloc (.cells #[.pointer none] 143)).alloc (.cells #[.pointer none] 144)) := ((Below.refl _ w).alloc (Nat.le_refl _) _).alloc (by simp) _
  have k1 : ((w.alloc (.cells #[.pointer none] 143)).alloc (.cells #[.pointer none] 144)).heap[w.heap.size]? = some (.cells #[.pointer none] 143 (0, 0)) := by
    rw [((Below.refl _ (w.alloc (.cells #[.pointer none] 143))).alloc (Nat.le_refl _) (.cells #[.pointer none] 144)).block _ (by simp)]; exact heap_alloc_new _ _
  have k2 : ((w.alloc (.cells #[.pointer none] 143)).alloc (.cells #[.pointer none] 144)).heap[w.heap.size + 1]? = some (.cells #[.pointer none] 144 (0, 0)) := by
    have := heap_alloc_new (w.alloc (.cells #[.pointer none] 143)) (.cells #[.pointer none] 144)
    simpa using this
  have hc := asT_any _ _ 0 isT_expr v x w.heap.size ((w.alloc (.cells #[.pointer none] 143)).alloc (.cells #[.pointer none] 144)) w.heap.size (by obtain ⟨k, hh⟩ := h; exact ⟨k, hh.stay hba⟩) (cell_below hba hg) k1 (Nat.le_refl _)
  have HD : Hid (∀ W, Below ((w.alloc (.cells #[.pointer none] 143)).alloc (.cells #[.pointer none] 144)).heap.size ((w.alloc (.cells #[.pointer none] 143)).alloc (.cells #[.pointer none] 144)) W → Below w.heap.size w W ∧ Calls Tryz.prog 78 #[v, .iface 148 (.pointer (some ⟨w.heap.size + 1, 0, none⟩))] W fun e w' => Below w.heap.size W w' ∧ ((y = none ∧ e = .returned (.bool false) ∧ Below W.heap.size W w') ∨ ∃ b z, y = some z ∧ e = .returned (.bool true) ∧ w'.cell? ⟨w.heap.size + 1, 0, none⟩ = some (.pointer (some ⟨b, 0, none⟩)) ∧ w'.cell? ⟨b, 0, none⟩ = some (.int .i64 z))) := fun W hW => by
    have hbW := below_then hba hW
    exact ⟨hbW, asT_any _ _ 0 isT_grp v y (w.heap.size + 1) W w.heap.size (by obtain ⟨k, hh⟩ := h2; exact ⟨k, hh.stay hbW⟩) (cell_below hbW hg) (by rw [hW.block _ (by simp)]; exact k2) (by omega)⟩
  clear h h2 k1 k2 hg
  go_enter Tryz.func50, Tryz.ntmps50
  go_wp2_with fail
  refine hc.mono ?_
  rintro e w' ⟨hbw, ⟨rfl, rfl, hm⟩ | ⟨b, z, rfl, rfl, q1, q2⟩⟩
  · obtain ⟨hb1, hc2⟩ := HD.out _ hm
    have HB : Hid (Below w.heap.size w w') := hb1
    clear hb1 hm hbw hc HD
    go_wp2_with fail
    refine hc2.mono ?_
    rintro e w2 ⟨hbw, ⟨rfl, rfl, hm⟩ | ⟨b, z, rfl, rfl, q1, q2⟩⟩
    · clear hm
      go_wp2_with fail
      go_ret
      exact ⟨rfl, HB.out.trans hbw⟩
    · go_wp2_with fail
      go_ret
      exact ⟨rfl, HB.out.trans hbw⟩
  · clear HD
    go_wp2_with fail
    go_ret
    exact ⟨rfl, hba.trans hbw⟩

set_option maxHeartbeats 1000000 in
theorem columnOf_nil (w : World) : Calls Tryz.prog 51 #[.nilIface] w fun e w' => e = .returned (.int .i64 (-1)) ∧ Below w.heap.size w w' := by
  go_enter Tryz.func51, Tryz.ntmps51
  go_wp2_with fail
  refine (as_nil _ _).mono ?_
  rintro e w' ⟨rfl, rfl⟩
  go_wp2_with fail
  refine (as_nil _ _).mono ?_
  rintro e w' ⟨rfl, rfl⟩
  go_wp2_with fail
  go_ret
  exact ⟨rfl, ((Below.refl _ _).alloc (Nat.le_refl _) _).alloc (by simp) _⟩
set_option maxHeartbeats 2000000 in
theorem columnOf_any (v : Value) (x y : Option Int) (w : World) (h : ∃ k, ChainT w 109 1 k v x) (h2 : ∃ k, ChainT w 144 1 k v y) (hg : w.cell? ⟨14, 0, none⟩ = some (.iface 217 (.agg #[.pointer (some ⟨15, 70, none⟩)]))) :
    Calls Tryz.prog 51 #[v] w fun e w' => e = .returned (.int .i64 ((x.or y).getD (-1))) ∧ Below w.heap.size w w' := by
  have hba : Below w.heap.size w ((w.alloc (.cells #[.pointer none] 109)).alloc (.cells #[.pointer none] 144)) := ((Below.refl _ w).alloc (Nat.le_refl _) _).alloc (by simp) _
  have k1 : ((w.alloc (.cells #[.pointer none] 109)).alloc (.cells #[.pointer none] 144)).heap[w.heap.size]? = some (.cells #[.pointer none] 109 (0, 0)) := by
    rw [((Below.refl _ (w.alloc (.cells #[.pointer none] 109))).alloc (Nat.le_refl _) (.cells #[.pointer none] 144)).block _ (by simp)]; exact heap_alloc_new _ _
  have k2 : ((w.alloc (.cells #[.pointer none] 109)).alloc (.cells #[.pointer none] 144)).heap[w.heap.size + 1]? = some (.cells #[.pointer none] 144 (0, 0)) := by
    have := heap_alloc_new (w.alloc (.cells #[.pointer none] 109)) (.cells #[.pointer none] 144)
    simpa using this
  have hc := asT_any _ _ 1 isT_tab v x w.heap.size ((w.alloc (.cells #[.pointer none] 109)).alloc (.cells #[.pointer none] 144)) w.heap.size (by obtain ⟨k, hh⟩ := h; exact ⟨k, hh.stay hba⟩) (cell_below hba hg) k1 (Nat.le_refl _)
  have HD : Hid (∀ W, Below ((w.alloc (.cells #[.pointer none] 109)).alloc (.cells #[.pointer none] 144)).heap.size ((w.alloc (.cells #[.pointer none] 109)).alloc (.cells #[.pointer none] 144)) W → Below w.heap.size w W ∧ Calls Tryz.prog 78 #[v, .iface 148 (.pointer (some ⟨w.heap.size + 1, 0, none⟩))] W fun e w' => Below w.heap.size W w' ∧ ((y = none ∧ e = .returned (.bool false) ∧ Below W.heap.size W w') ∨ ∃ b z, y = some z ∧ e = .returned (.bool true) ∧ w'.cell? ⟨w.heap.size + 1, 0, none⟩ = some (.pointer (some ⟨b, 0, none⟩)) ∧ w'.cell? ⟨b, 1, none⟩ = some (.int .i64 z))) := fun W hW => by
    have hbW := below_then hba hW
    exact ⟨hbW, asT_any _ _ 1 isT_grp v y (w.heap.size + 1) W w.heap.size (by obtain ⟨k, hh⟩ := h2; exact ⟨k, hh.stay hbW⟩) (cell_below hbW hg) (by rw [hW.block _ (by simp)]; exact k2) (by omega)⟩
  clear h h2 k1 k2 hg
  go_enter Tryz.func51, Tryz.ntmps51
  go_wp2_with fail
  refine hc.mono ?_
  rintro e w' ⟨hbw, ⟨rfl, rfl, hm⟩ | ⟨b, z, rfl, rfl, q1, q2⟩⟩
  · obtain ⟨hb1, hc2⟩ := HD.out _ hm
    have HB : Hid (Below w.heap.size w w') := hb1
    clear hb1 hm hbw hc HD
    go_wp2_with fail
    refine hc2.mono ?_
    rintro e w2 ⟨hbw, ⟨rfl, rfl, hm⟩ | ⟨b, z, rfl, rfl, q1, q2⟩⟩
    · clear hm
      go_wp2_with fail
      go_ret
      exact ⟨rfl, HB.out.trans hbw⟩
    · go_wp2_with fail
      go_ret
      exact ⟨rfl, HB.out.trans hbw⟩
  · clear HD
    go_wp2_with fail
    go_ret
    exact ⟨rfl, hba.trans hbw⟩

set_option maxHeartbeats 1000000 in
theorem pageOf_nil (w : World) : Calls Tryz.prog 52 #[.nilIface] w fun e w' => e = .returned (.int .i64 (-1)) ∧ Below w.heap.size w w' := by
  go_enter Tryz.func52, Tryz.ntmps52
  go_wp2_with fail
  refine (as_nil _ _).mono ?_
  rintro e w' ⟨rfl, rfl⟩
  go_wp2_with fail
  go_ret
  exact ⟨rfl, (Below.refl _ _).alloc (Nat.le_refl _) _⟩
set_option maxHeartbeats 1000000 in
theorem pageOf_any (v : Value) (x : Option Int) (w : World) (h : ∃ k, ChainT w 152 1 k v x) (hg : w.cell? ⟨14, 0, none⟩ = some (.iface 217 (.agg #[.pointer (some ⟨15, 70, none⟩)]))) :
    Calls Tryz.prog 52 #[v] w fun e w' => e = .returned (.int .i64 (x.getD (-1))) ∧ Below w.heap.size w w' := by
  have hba : Below w.heap.size w (w.alloc (.cells #[.pointer none] 152)) := (Below.refl _ w).alloc (Nat.le_refl _) _
  have hc := asT_any _ _ 1 isT_disk v x w.heap.size (w.alloc (.cells #[.pointer none] 152)) w.heap.size (by obtain ⟨k, hh⟩ := h; exact ⟨k, hh.stay hba⟩) (cell_below hba hg) (heap_alloc_new _ _) (Nat.le_refl _)
  clear h
  go_enter Tryz.func52, Tryz.ntmps52
  go_wp2_with fail
  refine hc.mono ?_
  rintro e w' ⟨hbw, ⟨rfl, rfl, _⟩ | ⟨b, y, rfl, rfl, q1, q2⟩⟩
  · go_wp2_with fail
    go_ret
    exact ⟨rfl, hba.trans hbw⟩
  · go_wp2_with fail
    go_ret
    exact ⟨rfl, hba.trans hbw⟩
end Go.Proofs.YtfgklnenpichcaaGreatDoor
