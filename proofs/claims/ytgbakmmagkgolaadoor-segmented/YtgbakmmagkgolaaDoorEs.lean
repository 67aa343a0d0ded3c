/- What errors.Is answers at the errors that the program makes. -/
import Derived.Test.YtgbakmmagkgolaaDoorEr
namespace Go.Proofs.YtgbakmmagkgolaaDoor
open Go.RowKit Go.Extern.Stop Go.Stop Go.Extern

theorem eqlTab (v u : Value) (w : World) : (binOp .eql 42 (.iface 82 v) (.iface 145 u)).run Tryd.prog w = .ok (.bool false) w := run_eql_iface_types 82 145 v u Tryd.underlying42 (by decide) w
theorem eqlDisk (v u : Value) (w : World) : (binOp .eql 42 (.iface 87 v) (.iface 145 u)).run Tryd.prog w = .ok (.bool false) w := run_eql_iface_types 87 145 v u Tryd.underlying42 (by decide) w

set_option maxHeartbeats 400000 in
theorem tabUnwrap_any (b : Nat) (v : Value) (w : World) (h : w.cell? ⟨b, 2, none⟩ = some v) : Calls Tryd.prog 106 #[.pointer (some ⟨b, 0, none⟩)] w fun e w' => e = .returned v ∧ w' = w := by
  go_enter Tryd.func106, Tryd.ntmps106
  go_wp2
  go_ret
  exact ⟨rfl, rfl⟩
set_option maxHeartbeats 400000 in
theorem diskUnwrap_any (b : Nat) (v : Value) (w : World) (h : w.cell? ⟨b, 0, none⟩ = some v) : Calls Tryd.prog 108 #[.pointer (some ⟨b, 0, none⟩)] w fun e w' => e = .returned v ∧ w' = w := by
  go_enter Tryd.func108, Tryd.ntmps108
  go_wp2
  go_ret
  exact ⟨rfl, rfl⟩

set_option maxHeartbeats 1000000 in
theorem is_root_same (a : Addr) (w : World) :
    Calls Tryd.prog 71 #[(.iface 145 (.pointer (some a))), .iface 145 (.pointer (some a)), .bool true] w fun e w' => e = .returned (.bool true) ∧ w' = w := by
  obtain ⟨i, hi, hcmp⟩ := Option.map_eq_some_iff.1 isComp
  obtain ⟨j, hj, hjs⟩ := Option.map_eq_some_iff.1 isSize
  have nIRoot := noIsRoot
  have uURoot := unwrapRoot
  have vE := noUnwrapsRoot
  have heq := run_eql_iface_ptr_same (P := Tryd.prog) w a Tryd.underlying42 Tryd.underlying145 hi hcmp hj
  go_enter Tryd.func71, Tryd.ntmps71
  go_wp2_with fail
  refine wp_loop_rounds 1 ?_
  rw [rounds_succ]
  go_wp2_with fail
  go_ret
  exact ⟨rfl, rfl⟩

set_option maxHeartbeats 1000000 in
theorem is_root_other (a t : Addr) (ca ct : Array Value) (ta tt : TypeId) (w : World) (hne : a ≠ t) (ha : w.heap[a.block]? = some (.cells ca ta (0, 0))) (ht : w.heap[t.block]? = some (.cells ct tt (0, 0))) :
    Calls Tryd.prog 71 #[(.iface 145 (.pointer (some a))), .iface 145 (.pointer (some t)), .bool true] w fun e w' => e = .returned (.bool false) ∧ w' = w := by
  obtain ⟨i, hi, hcmp⟩ := Option.map_eq_some_iff.1 isComp
  obtain ⟨j, hj, hjs⟩ := Option.map_eq_some_iff.1 isSize
  have nIRoot := noIsRoot
  have uURoot := unwrapRoot
  have vE := noUnwrapsRoot
  have heq := run_eql_iface_ptr_other (P := Tryd.prog) w Tryd.underlying42 Tryd.underlying145 hi hcmp hj (by rw [hjs]; decide) hne ha ht
  go_enter Tryd.func71, Tryd.ntmps71
  go_wp2_with fail
  refine wp_loop_rounds 1 ?_
  rw [rounds_succ]
  go_wp2_with fail
  go_ret
  exact ⟨rfl, rfl⟩

set_option maxHeartbeats 1000000 in
theorem is_disk_same (a : Addr) (w : World) (b : Nat) (h0 : w.cell? ⟨b, 0, none⟩ = some (.iface 145 (.pointer (some a)))) :
    Calls Tryd.prog 71 #[(.iface 87 (.pointer (some ⟨b, 0, none⟩))), .iface 145 (.pointer (some a)), .bool true] w fun e w' => e = .returned (.bool true) ∧ w' = w := by
  obtain ⟨i, hi, hcmp⟩ := Option.map_eq_some_iff.1 isComp
  obtain ⟨j, hj, hjs⟩ := Option.map_eq_some_iff.1 isSize
  have nIDisk := noIsDisk
  have uUDisk := unwrapDisk
  have nIRoot := noIsRoot
  have uURoot := unwrapRoot
  have vE := noUnwrapsRoot
  have mD := mUnDisk
  have eD := eqlDisk
  have heq := run_eql_iface_ptr_same (P := Tryd.prog) w a Tryd.underlying42 Tryd.underlying145 hi hcmp hj
  go_enter Tryd.func71, Tryd.ntmps71
  go_wp2_with fail
  refine wp_loop_rounds 2 ?_
  rw [rounds_succ]
  go_wp2_with fail
  refine (diskUnwrap_any b (.iface 145 (.pointer (some a))) _ (by simpa using h0)).mono ?_
  rintro e w' ⟨rfl, hw'⟩
  subst w'
  go_wp2_with fail
  rw [rounds_succ]
  go_wp2_with fail
  go_ret
  exact ⟨rfl, rfl⟩

set_option maxHeartbeats 1000000 in
theorem is_disk_other (a t : Addr) (ca ct : Array Value) (ta tt : TypeId) (w : World) (b : Nat) (h0 : w.cell? ⟨b, 0, none⟩ = some (.iface 145 (.pointer (some a)))) (hne : a ≠ t) (ha : w.heap[a.block]? = some (.cells ca ta (0, 0))) (ht : w.heap[t.block]? = some (.cells ct tt (0, 0))) :
    Calls Tryd.prog 71 #[(.iface 87 (.pointer (some ⟨b, 0, none⟩))), .iface 145 (.pointer (some t)), .bool true] w fun e w' => e = .returned (.bool false) ∧ w' = w := by
  obtain ⟨i, hi, hcmp⟩ := Option.map_eq_some_iff.1 isComp
  obtain ⟨j, hj, hjs⟩ := Option.map_eq_some_iff.1 isSize
  have nIDisk := noIsDisk
  have uUDisk := unwrapDisk
  have nIRoot := noIsRoot
  have uURoot := unwrapRoot
  have vE := noUnwrapsRoot
  have mD := mUnDisk
  have eD := eqlDisk
  have heq := run_eql_iface_ptr_other (P := Tryd.prog) w Tryd.underlying42 Tryd.underlying145 hi hcmp hj (by rw [hjs]; decide) hne ha ht
  go_enter Tryd.func71, Tryd.ntmps71
  go_wp2_with fail
  refine wp_loop_rounds 2 ?_
  rw [rounds_succ]
  go_wp2_with fail
  refine (diskUnwrap_any b (.iface 145 (.pointer (some a))) _ (by simpa using h0)).mono ?_
  rintro e w' ⟨rfl, hw'⟩
  subst w'
  go_wp2_with fail
  rw [rounds_succ]
  go_wp2_with fail
  go_ret
  exact ⟨rfl, rfl⟩

set_option maxHeartbeats 1000000 in
theorem is_tab_same (a : Addr) (w : World) (b : Nat) (h0 : w.cell? ⟨b, 2, none⟩ = some (.iface 145 (.pointer (some a)))) :
    Calls Tryd.prog 71 #[(.iface 82 (.pointer (some ⟨b, 0, none⟩))), .iface 145 (.pointer (some a)), .bool true] w fun e w' => e = .returned (.bool true) ∧ w' = w := by
  obtain ⟨i, hi, hcmp⟩ := Option.map_eq_some_iff.1 isComp
  obtain ⟨j, hj, hjs⟩ := Option.map_eq_some_iff.1 isSize
  have nIRoot := noIsRoot
  have uURoot := unwrapRoot
  have nITab := noIsTab
  have uUTab := unwrapTab
  have vE := noUnwrapsRoot
  have mT := mUnTab
  have eT := eqlTab
  have heq := run_eql_iface_ptr_same (P := Tryd.prog) w a Tryd.underlying42 Tryd.underlying145 hi hcmp hj
  go_enter Tryd.func71, Tryd.ntmps71
  go_wp2_with fail
  refine wp_loop_rounds 2 ?_
  rw [rounds_succ]
  go_wp2_with fail
  refine (tabUnwrap_any b (.iface 145 (.pointer (some a))) _ (by simpa using h0)).mono ?_
  rintro e w' ⟨rfl, hw'⟩
  subst w'
  go_wp2_with fail
  rw [rounds_succ]
  go_wp2_with fail
  go_ret
  exact ⟨rfl, rfl⟩

set_option maxHeartbeats 1000000 in
theorem is_tab_other (a t : Addr) (ca ct : Array Value) (ta tt : TypeId) (w : World) (b : Nat) (h0 : w.cell? ⟨b, 2, none⟩ = some (.iface 145 (.pointer (some a)))) (hne : a ≠ t) (ha : w.heap[a.block]? = some (.cells ca ta (0, 0))) (ht : w.heap[t.block]? = some (.cells ct tt (0, 0))) :
    Calls Tryd.prog 71 #[(.iface 82 (.pointer (some ⟨b, 0, none⟩))), .iface 145 (.pointer (some t)), .bool true] w fun e w' => e = .returned (.bool false) ∧ w' = w := by
  obtain ⟨i, hi, hcmp⟩ := Option.map_eq_some_iff.1 isComp
  obtain ⟨j, hj, hjs⟩ := Option.map_eq_some_iff.1 isSize
  have nIRoot := noIsRoot
  have uURoot := unwrapRoot
  have nITab := noIsTab
  have uUTab := unwrapTab
  have vE := noUnwrapsRoot
  have mT := mUnTab
  have eT := eqlTab
  have heq := run_eql_iface_ptr_other (P := Tryd.prog) w Tryd.underlying42 Tryd.underlying145 hi hcmp hj (by rw [hjs]; decide) hne ha ht
  go_enter Tryd.func71, Tryd.ntmps71
  go_wp2_with fail
  refine wp_loop_rounds 2 ?_
  rw [rounds_succ]
  go_wp2_with fail
  refine (tabUnwrap_any b (.iface 145 (.pointer (some a))) _ (by simpa using h0)).mono ?_
  rintro e w' ⟨rfl, hw'⟩
  subst w'
  go_wp2_with fail
  rw [rounds_succ]
  go_wp2_with fail
  go_ret
  exact ⟨rfl, rfl⟩

set_option maxHeartbeats 1000000 in
theorem is_both_same (a : Addr) (w : World) (b d : Nat) (h0 : w.cell? ⟨b, 2, none⟩ = some (.iface 87 (.pointer (some ⟨d, 0, none⟩)))) (h1 : w.cell? ⟨d, 0, none⟩ = some (.iface 145 (.pointer (some a)))) :
    Calls Tryd.prog 71 #[(.iface 82 (.pointer (some ⟨b, 0, none⟩))), .iface 145 (.pointer (some a)), .bool true] w fun e w' => e = .returned (.bool true) ∧ w' = w := by
  obtain ⟨i, hi, hcmp⟩ := Option.map_eq_some_iff.1 isComp
  obtain ⟨j, hj, hjs⟩ := Option.map_eq_some_iff.1 isSize
  have nIDisk := noIsDisk
  have uUDisk := unwrapDisk
  have nIRoot := noIsRoot
  have uURoot := unwrapRoot
  have nITab := noIsTab
  have uUTab := unwrapTab
  have vE := noUnwrapsRoot
  have mT := mUnTab
  have eT := eqlTab
  have mD := mUnDisk
  have eD := eqlDisk
  have heq := run_eql_iface_ptr_same (P := Tryd.prog) w a Tryd.underlying42 Tryd.underlying145 hi hcmp hj
  go_enter Tryd.func71, Tryd.ntmps71
  go_wp2_with fail
  refine wp_loop_rounds 3 ?_
  rw [rounds_succ]
  go_wp2_with fail
  refine (tabUnwrap_any b (.iface 87 (.pointer (some ⟨d, 0, none⟩))) _ (by simpa using h0)).mono ?_
  rintro e w' ⟨rfl, hw'⟩
  subst w'
  go_wp2_with fail
  rw [rounds_succ]
  go_wp2_with fail
  refine (diskUnwrap_any d (.iface 145 (.pointer (some a))) _ (by simpa using h1)).mono ?_
  rintro e w' ⟨rfl, hw'⟩
  subst w'
  go_wp2_with fail
  rw [rounds_succ]
  go_wp2_with fail
  go_ret
  exact ⟨rfl, rfl⟩

set_option maxHeartbeats 1000000 in
theorem is_both_other (a t : Addr) (ca ct : Array Value) (ta tt : TypeId) (w : World) (b d : Nat) (h0 : w.cell? ⟨b, 2, none⟩ = some (.iface 87 (.pointer (some ⟨d, 0, none⟩)))) (h1 : w.cell? ⟨d, 0, none⟩ = some (.iface 145 (.pointer (some a)))) (hne : a ≠ t) (ha : w.heap[a.block]? = some (.cells ca ta (0, 0))) (ht : w.heap[t.block]? = some (.cells ct tt (0, 0))) :
    Calls Tryd.prog 71 #[(.iface 82 (.pointer (some ⟨b, 0, none⟩))), .iface 145 (.pointer (some t)), .bool true] w fun e w' => e = .returned (.bool false) ∧ w' = w := by
  obtain ⟨i, hi, hcmp⟩ := Option.map_eq_some_iff.1 isComp
  obtain ⟨j, hj, hjs⟩ := Option.map_eq_some_iff.1 isSize
  have nIDisk := noIsDisk
  have uUDisk := unwrapDisk
  have nIRoot := noIsRoot
  have uURoot := unwrapRoot
  have nITab := noIsTab
  have uUTab := unwrapTab
  have vE := noUnwrapsRoot
  have mT := mUnTab
  have eT := eqlTab
  have mD := mUnDisk
  have eD := eqlDisk
  have heq := run_eql_iface_ptr_other (P := Tryd.prog) w Tryd.underlying42 Tryd.underlying145 hi hcmp hj (by rw [hjs]; decide) hne ha ht
  go_enter Tryd.func71, Tryd.ntmps71
  go_wp2_with fail
  refine wp_loop_rounds 3 ?_
  rw [rounds_succ]
  go_wp2_with fail
  refine (tabUnwrap_any b (.iface 87 (.pointer (some ⟨d, 0, none⟩))) _ (by simpa using h0)).mono ?_
  rintro e w' ⟨rfl, hw'⟩
  subst w'
  go_wp2_with fail
  rw [rounds_succ]
  go_wp2_with fail
  refine (diskUnwrap_any d (.iface 145 (.pointer (some a))) _ (by simpa using h1)).mono ?_
  rintro e w' ⟨rfl, hw'⟩
  subst w'
  go_wp2_with fail
  rw [rounds_succ]
  go_wp2_with fail
  go_ret
  exact ⟨rfl, rfl⟩

/-- What errors.is answers, and so errors.Is. -/
theorem erris_any (v : Value) (a t : Addr) (c p : Option Int) (w : World) (h : Chain w v a c p) (ha : ∃ c t, w.heap[a.block]? = some (.cells c t (0, 0))) (ht : ∃ c u, w.heap[t.block]? = some (.cells c u (0, 0))) (r : Bool) (hr : r = true ↔ a = t) :
    Calls Tryd.prog 71 #[v, .iface 145 (.pointer (some t)), .bool true] w fun e w' => e = .returned (.bool r) ∧ w' = w := by
  obtain ⟨ca, ta, ha⟩ := ha
  obtain ⟨ct, tt, ht⟩ := ht
  by_cases he : a = t
  · have : r = true := hr.2 he
    subst this
    subst he
    cases h with
    | root => exact is_root_same a w
    | disk b a p h0 _ => exact is_disk_same a w b h0
    | tab b a c _ h0 => exact is_tab_same a w b h0
    | both b d a c p _ h0 h1 _ => exact is_both_same a w b d h0 h1
  · have : r = false := by cases r with
      | false => rfl
      | true => exact absurd (hr.1 rfl) he
    subst this
    cases h with
    | root => exact is_root_other a t ca ct ta tt w he ha ht
    | disk b a p h0 _ => exact is_disk_other a t ca ct ta tt w b h0 he ha ht
    | tab b a c _ h0 => exact is_tab_other a t ca ct ta tt w b h0 he ha ht
    | both b d a c p _ h0 h1 _ => exact is_both_other a t ca ct ta tt w b d h0 h1 he ha ht

set_option maxHeartbeats 400000 in
/-- errors.Is of an error of the program's and a named one. -/
theorem is_any (v : Value) (a t : Addr) (c p : Option Int) (w : World) (h : Chain w v a c p) (ha : ∃ c t, w.heap[a.block]? = some (.cells c t (0, 0))) (ht : ∃ c u, w.heap[t.block]? = some (.cells c u (0, 0))) (r : Bool) (hr : r = true ↔ a = t) :
    Calls Tryd.prog 52 #[v, .iface 145 (.pointer (some t))] w fun e w' => e = .returned (.bool r) ∧ w' = w := by
  have h8 := @run_callFunc_extern Tryd.prog 70 _ Extern.ReflectliteType.typeOf Tryd.func70 (by kernel_rfl) (by kernel_rfl) (by kernel_rfl) (by kernel_rfl)
  have h32 := run_cmpM
  have tT := typeOfRoot
  have cT := isComparable
  have mR := isMethodComparable
  have hc := erris_any v a t c p w h ha ht r hr
  obtain ⟨ty, x, rfl⟩ : ∃ ty x, v = .iface ty x := by cases h <;> exact ⟨_, _, rfl⟩
  have HC : Hid (Calls Tryd.prog 71 #[.iface ty x, .iface 145 (.pointer (some t)), .bool true] w fun e w' => e = .returned (.bool r) ∧ w' = w) := hc
  clear hc hr ha ht h
  go_enter Tryd.func52, Tryd.ntmps52
  go_wp2_with fail
  refine HC.out.mono ?_
  rintro e w' ⟨rfl, rfl⟩
  go_wp2_with fail
  go_ret
  exact ⟨rfl, rfl⟩
end Go.Proofs.YtgbakmmagkgolaaDoor
