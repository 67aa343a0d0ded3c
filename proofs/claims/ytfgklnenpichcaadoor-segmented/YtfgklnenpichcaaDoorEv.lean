/- The node, the row, the column and the page of an error that the program makes. -/
import Derived.Test.YtfgklnenpichcaaDoorEu
namespace Go.Proofs.YtfgklnenpichcaaDoor
open Go.RowKit Go.Extern.Stop Go.Stop Go.Extern

set_option maxHeartbeats 1000000 in
theorem nodeOf_nil (w : World) : Calls Tryd.prog 35 #[.nilIface] w fun e w' => e = .returned (.int .i64 (-1)) ∧ Below w.heap.size w w' := by
  go_enter Tryd.func35, Tryd.ntmps35
  go_wp2_with fail
  refine (as_nil _ _).mono ?_
  rintro e w' ⟨rfl, rfl⟩
  go_wp2_with fail
  go_ret
  exact ⟨rfl, (Below.refl _ _).alloc (Nat.le_refl _) _⟩
set_option maxHeartbeats 1000000 in
theorem nodeOf_any (v : Value) (x : Option Int) (w : World) (h : ∃ k, ChainT w 82 0 k v x) (hg : w.cell? ⟨13, 0, none⟩ = some (.iface 137 (.agg #[.pointer (some ⟨14, 42, none⟩)]))) :
    Calls Tryd.prog 35 #[v] w fun e w' => e = .returned (.int .i64 (x.getD (-1))) ∧ Below w.heap.size w w' := by
  have hba : Below w.heap.size w (w.alloc (.cells #[.pointer none] 82)) := (Below.refl _ w).alloc (Nat.le_refl _) _
  have hc := asT_any _ _ 0 isT_plan v x w.heap.size (w.alloc (.cells #[.pointer none] 82)) w.heap.size (by obtain ⟨k, hh⟩ := h; exact ⟨k, hh.stay hba⟩) (cell_below hba hg) (heap_alloc_new _ _) (Nat.le_refl _)
  clear h
  go_enter Tryd.func35, Tryd.ntmps35
  go_wp2_with fail
  refine hc.mono ?_
  rintro e w' ⟨hbw, ⟨rfl, rfl, _⟩ | ⟨b, y, rfl, rfl, q1, q2⟩⟩
  · go_wp2_with fail
    go_ret
    exact ⟨rfl, hba.trans hbw⟩
  · go_wp2_with fail
    go_ret
    exact ⟨rfl, hba.trans hbw⟩

set_option maxHeartbeats 1000000 in
theorem rowOf_nil (w : World) : Calls Tryd.prog 36 #[.nilIface] w fun e w' => e = .returned (.int .i64 (-1)) ∧ Below w.heap.size w w' := by
  go_enter Tryd.func36, Tryd.ntmps36
  go_wp2_with fail
  refine (as_nil _ _).mono ?_
  rintro e w' ⟨rfl, rfl⟩
  go_wp2_with fail
  refine (as_nil _ _).mono ?_
  rintro e w' ⟨rfl, rfl⟩
  go_wp2_with fail
  go_ret
  exact ⟨rfl, ((Below.refl _ _).alloc (Nat.le_refl _) _).alloc (by simp) _⟩
set_option maxHeartbeats 2000000 in
theorem rowOf_any (v : Value) (x y : Option Int) (w : World) (h : ∃ k, ChainT w 87 0 k v x) (h2 : ∃ k, ChainT w 88 0 k v y) (hg : w.cell? ⟨13, 0, none⟩ = some (.iface 137 (.agg #[.pointer (some ⟨14, 42, none⟩)]))) :
    Calls Tryd.prog 36 #[v] w fun e w' => e = .returned (.int .i64 ((x.or y).getD (-1))) ∧ Below w.heap.size w w' := by
  have hba : Below w.heap.size w ((w.alloc (.cells #[.pointer none] 87)).alloc (.cells #[.pointer none] 88)) := ((Below.refl _ w).alloc (Nat.le_refl _) _).alloc (by simp) _
  have k1 : ((w.alloc (.cells #[.pointer none] 87)).alloc (.cells #[.pointer none] 88)).heap[w.heap.size]? = some (.cells #[.pointer none] 87 (0, 0)) := by
    rw [((Below.refl _ (w.alloc (.cells #[.pointer none] 87))).alloc (Nat.le_refl _) (.cells #[.pointer none] 88)).block _ (by simp)]; exact heap_alloc_new _ _
  have k2 : ((w.alloc (.cells #[.pointer none] 87)).alloc (.cells #[.pointer none] 88)).heap[w.heap.size + 1]? = some (.cells #[.pointer none] 88 (0, 0)) := by
    have := heap_alloc_new (w.alloc (.cells #[.pointer none] 87)) (.cells #[.pointer none] 88)
    simpa using this
  have hc := asT_any _ _ 0 isT_expr v x w.heap.size ((w.alloc (.cells #[.pointer none] 87)).alloc (.cells #[.pointer none] 88)) w.heap.size (by obtain ⟨k, hh⟩ := h; exact ⟨k, hh.stay hba⟩) (cell_below hba hg) k1 (Nat.le_refl _)
  have HD : Hid (∀ W, Below ((w.alloc (.cells #[.pointer none] 87)).alloc (.cells #[.pointer none] 88)).heap.size ((w.alloc (.cells #[.pointer none] 87)).alloc (.cells #[.pointer none] 88)) W → Below w.heap.size w W ∧ Calls Tryd.prog 55 #[v, .iface 92 (.pointer (some ⟨w.heap.size + 1, 0, none⟩))] W fun e w' => Below w.heap.size W w' ∧ ((y = none ∧ e = .returned (.bool false) ∧ Below W.heap.size W w') ∨ ∃ b z, y = some z ∧ e = .returned (.bool true) ∧ w'.cell? ⟨w.heap.size + 1, 0, none⟩ = some (.pointer (some ⟨b, 0, none⟩)) ∧ w'.cell? ⟨b, 0, none⟩ = some (.int .i64 z))) := fun W hW => by
    have hbW := below_then hba hW
    exact ⟨hbW, asT_any _ _ 0 isT_grp v y (w.heap.size + 1) W w.heap.size (by obtain ⟨k, hh⟩ := h2; exact ⟨k, hh.stay hbW⟩) (cell_below hbW hg) (by rw [hW.block _ (by simp)]; exact k2) (by omega)⟩
  clear h h2 k1 k2 hg
  go_enter Tryd.func36, Tryd.ntmps36
  go_wp2_with fail
  refine hc.mono ?_
  rintro e w' ⟨hbw, ⟨rfl, rfl, hm⟩ | ⟨b, z, rfl, rfl, q1, q2⟩⟩
  · obtain ⟨hb1, hc2⟩ := HD.out _ hm
    have HB : Hid (Below w.heap.size w w') := hb1
    clear hb1 hm hbw hc HD
    go_wp2_with fail
    refine hc2.mono ?_
    rintro e w2 ⟨hbw, ⟨rfl, rfl, hm⟩ | ⟨b, z, rfl, rfl, q1, q2⟩⟩
    · clear hm
      go_wp2_with fail
      go_ret
      exact ⟨rfl, HB.out.trans hbw⟩
    · go_wp2_with fail
      go_ret
      exact ⟨rfl, HB.out.trans hbw⟩
  · clear HD
    go_wp2_with fail
    go_ret
    exact ⟨rfl, hba.trans hbw⟩

set_option maxHeartbeats 1000000 in
theorem columnOf_nil (w : World) : Calls Tryd.prog 37 #[.nilIface] w fun e w' => e = .returned (.int .i64 (-1)) ∧ Below w.heap.size w w' := by
  go_enter Tryd.func37, Tryd.ntmps37
  go_wp2_with fail
  refine (as_nil _ _).mono ?_
  rintro e w' ⟨rfl, rfl⟩
  go_wp2_with fail
  refine (as_nil _ _).mono ?_
  rintro e w' ⟨rfl, rfl⟩
  go_wp2_with fail
  go_ret
  exact ⟨rfl, ((Below.refl _ _).alloc (Nat.le_refl _) _).alloc (by simp) _⟩
set_option maxHeartbeats 2000000 in
theorem columnOf_any (v : Value) (x y : Option Int) (w : World) (h : ∃ k, ChainT w 95 1 k v x) (h2 : ∃ k, ChainT w 88 1 k v y) (hg : w.cell? ⟨13, 0, none⟩ = some (.iface 137 (.agg #[.pointer (some ⟨14, 42, none⟩)]))) :
    Calls Tryd.prog 37 #[v] w fun e w' => e = .returned (.int .i64 ((x.or y).getD (-1))) ∧ Below w.heap.size w w' := by
  have hba : Below w.heap.size w ((w.alloc (.cells #[.pointer none] 95)).alloc (.cells #[.pointer none] 88)) := ((Below.refl _ w).alloc (Nat.le_refl _) _).alloc (by simp) _
  have k1 : ((w.alloc (.cells #[.pointer none] 95)).alloc (.cells #[.pointer none] 88)).heap[w.heap.size]? = some (.cells #[.pointer none] 95 (0, 0)) := by
    rw [((Below.refl _ (w.alloc (.cells #[.pointer none] 95))).alloc (Nat.le_refl _) (.cells #[.pointer none] 88)).block _ (by simp)]; exact heap_alloc_new _ _
  have k2 : ((w.alloc (.cells #[.pointer none] 95)).alloc (.cells #[.pointer none] 88)).heap[w.heap.size + 1]? = some (.cells #[.pointer none] 88 (0, 0)) := by
    have := heap_alloc_new (w.alloc (.cells #[.pointer none] 95)) (.cells #[.pointer none] 88)
    simpa using this
  have hc := asT_any _ _ 1 isT_tab v x w.heap.size ((w.alloc (.cells #[.pointer none] 95)).alloc (.cells #[.pointer none] 88)) w.heap.size (by obtain ⟨k, hh⟩ := h; exact ⟨k, hh.stay hba⟩) (cell_below hba hg) k1 (Nat.le_refl _)
  have HD : Hid (∀ W, Below ((w.alloc (.cells #[.pointer none] 95)).alloc (.cells #[.pointer none] 88)).heap.size ((w.alloc (.cells #[.pointer none] 95)).alloc (.cells #[.pointer none] 88)) W → Below w.heap.size w W ∧ Calls Tryd.prog 55 #[v, .iface 92 (.pointer (some ⟨w.heap.size + 1, 0, none⟩))] W fun e w' => Below w.heap.size W w' ∧ ((y = none ∧ e = .returned (.bool false) ∧ Below W.heap.size W w') ∨ ∃ b z, y = some z ∧ e = .returned (.bool true) ∧ w'.cell? ⟨w.heap.size + 1, 0, none⟩ = some (.pointer (some ⟨b, 0, none⟩)) ∧ w'.cell? ⟨b, 1, none⟩ = some (.int .i64 z))) := fun W hW => by
    have hbW := below_then hba hW
    exact ⟨hbW, asT_any _ _ 1 isT_grp v y (w.heap.size + 1) W w.heap.size (by obtain ⟨k, hh⟩ := h2; exact ⟨k, hh.stay hbW⟩) (cell_below hbW hg) (by rw [hW.block _ (by simp)]; exact k2) (by omega)⟩
  clear h h2 k1 k2 hg
  go_enter Tryd.func37, Tryd.ntmps37
  go_wp2_with fail
  refine hc.mono ?_
  rintro e w' ⟨hbw, ⟨rfl, rfl, hm⟩ | ⟨b, z, rfl, rfl, q1, q2⟩⟩
  · obtain ⟨hb1, hc2⟩ := HD.out _ hm
    have HB : Hid (Below w.heap.size w w') := hb1
    clear hb1 hm hbw hc HD
    go_wp2_with fail
    refine hc2.mono ?_
    rintro e w2 ⟨hbw, ⟨rfl, rfl, hm⟩ | ⟨b, z, rfl, rfl, q1, q2⟩⟩
    · clear hm
      go_wp2_with fail
      go_ret
      exact ⟨rfl, HB.out.trans hbw⟩
    · go_wp2_with fail
      go_ret
      exact ⟨rfl, HB.out.trans hbw⟩
  · clear HD
    go_wp2_with fail
    go_ret
    exact ⟨rfl, hba.trans hbw⟩

set_option maxHeartbeats 1000000 in
theorem pageOf_nil (w : World) : Calls Tryd.prog 38 #[.nilIface] w fun e w' => e = .returned (.int .i64 (-1)) ∧ Below w.heap.size w w' := by
  go_enter Tryd.func38, Tryd.ntmps38
  go_wp2_with fail
  refine (as_nil _ _).mono ?_
  rintro e w' ⟨rfl, rfl⟩
  go_wp2_with fail
  go_ret
  exact ⟨rfl, (Below.refl _ _).alloc (Nat.le_refl _) _⟩
set_option maxHeartbeats 1000000 in
theorem pageOf_any (v : Value) (x : Option Int) (w : World) (h : ∃ k, ChainT w 99 1 k v x) (hg : w.cell? ⟨13, 0, none⟩ = some (.iface 137 (.agg #[.pointer (some ⟨14, 42, none⟩)]))) :
    Calls Tryd.prog 38 #[v] w fun e w' => e = .returned (.int .i64 (x.getD (-1))) ∧ Below w.heap.size w w' := by
  have hba : Below w.heap.size w (w.alloc (.cells #[.pointer none] 99)) := (Below.refl _ w).alloc (Nat.le_refl _) _
  have hc := asT_any _ _ 1 isT_disk v x w.heap.size (w.alloc (.cells #[.pointer none] 99)) w.heap.size (by obtain ⟨k, hh⟩ := h; exact ⟨k, hh.stay hba⟩) (cell_below hba hg) (heap_alloc_new _ _) (Nat.le_refl _)
  clear h
  go_enter Tryd.func38, Tryd.ntmps38
  go_wp2_with fail
  refine hc.mono ?_
  rintro e w' ⟨hbw, ⟨rfl, rfl, _⟩ | ⟨b, y, rfl, rfl, q1, q2⟩⟩
  · go_wp2_with fail
    go_ret
    exact ⟨rfl, hba.trans hbw⟩
  · go_wp2_with fail
    go_ret
    exact ⟨rfl, hba.trans hbw⟩
end Go.Proofs.YtfgklnenpichcaaDoor
