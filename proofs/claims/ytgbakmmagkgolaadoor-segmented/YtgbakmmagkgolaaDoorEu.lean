/- errors.As, by Go's own text, at the errors that the program makes, at its two targets. -/
import Derived.Test.YtgbakmmagkgolaaDoorEt
import Derived.Test.YtgbakmmagkgolaaDoorEs
namespace Go.Proofs.YtgbakmmagkgolaaDoor
open Go.RowKit Go.Extern.Stop Go.Stop Go.Extern

set_option maxHeartbeats 400000 in
theorem as_nil (t : Value) (w : World) : Calls Tryd.prog 53 #[.nilIface, t] w fun e w' => e = .returned (.bool false) ∧ w' = w := by
  have hn := run_eql_nil_nil (P := Tryd.prog) w 42 (by kernel_rfl)
  go_enter Tryd.func53, Tryd.ntmps53
  go_wp2
  go_ret
  exact ⟨rfl, rfl⟩

set_option maxHeartbeats 2000000 in
theorem as_rootTab (a t av : Addr) (w : World) :
    Calls Tryd.prog 75 #[(.iface 145 (.pointer (some a))), .iface 84 (.pointer (some t)), .agg #[.pointer (some ⟨8, 84, none⟩), .pointer (some av), .int .u64 150], .iface 125 (.agg #[.pointer (some ⟨8, 82, none⟩)])] w fun e w' => e = .returned (.bool false) ∧ w' = w.alloc (.cells #[.pointer (some ⟨8, 84, none⟩), .pointer (some av), .int .u64 150] 116) := by
  have hTO := @run_callFunc_extern Tryd.prog 70 _ ReflectliteType.typeOf Tryd.func70 (by kernel_rfl) (by kernel_rfl) (by kernel_rfl) (by kernel_rfl)
  have hAS := @run_callFunc_extern Tryd.prog 113 _ (ReflectliteType.relation "AssignableTo" ReflectliteType.assignableTo) Tryd.func113 (by kernel_rfl) (by kernel_rfl) (by kernel_rfl) (by kernel_rfl)
  have hVO := @run_callFunc_extern Tryd.prog 72 _ (fun args => ReflectliteValue.unpack (args.getD 0 (.tuple #[]))) Tryd.func72 (by kernel_rfl) (by kernel_rfl) (by kernel_rfl) (by kernel_rfl)
  have hEL := @run_callFunc_extern Tryd.prog 81 _ (ReflectliteValue.method (ReflectliteValue.valueError "reflectlite.Value.Elem" 0) ReflectliteValue.elem) Tryd.func81 (by kernel_rfl) (by kernel_rfl) (by kernel_rfl) (by kernel_rfl)
  have hST := @run_callFunc_extern Tryd.prog 82 _ ReflectliteValue.set Tryd.func82 (by kernel_rfl) (by kernel_rfl) (by kernel_rfl) (by kernel_rfl)
  have mA := mAssignable
  have tORoot := typeOfRoot
  have aSRoot := assignRootTab
  have nARoot := noAsRoot
  have uURoot := unwrapRoot
  have nUs := noUnwrapsRoot
  go_enter Tryd.func75, Tryd.ntmps75
  go_wp2_with fail
  refine wp_loop_rounds 1 ?_
  rw [rounds_succ]
  go_wp2_with fail
  go_ret
  exact ⟨rfl, rfl⟩

set_option maxHeartbeats 2000000 in
theorem as_diskTab (a t av : Addr) (w : World) (b : Nat) (h0 : w.cell? ⟨b, 0, none⟩ = some (.iface 145 (.pointer (some a)))) :
    Calls Tryd.prog 75 #[(.iface 87 (.pointer (some ⟨b, 0, none⟩))), .iface 84 (.pointer (some t)), .agg #[.pointer (some ⟨8, 84, none⟩), .pointer (some av), .int .u64 150], .iface 125 (.agg #[.pointer (some ⟨8, 82, none⟩)])] w fun e w' => e = .returned (.bool false) ∧ w' = w.alloc (.cells #[.pointer (some ⟨8, 84, none⟩), .pointer (some av), .int .u64 150] 116) := by
  have hTO := @run_callFunc_extern Tryd.prog 70 _ ReflectliteType.typeOf Tryd.func70 (by kernel_rfl) (by kernel_rfl) (by kernel_rfl) (by kernel_rfl)
  have hAS := @run_callFunc_extern Tryd.prog 113 _ (ReflectliteType.relation "AssignableTo" ReflectliteType.assignableTo) Tryd.func113 (by kernel_rfl) (by kernel_rfl) (by kernel_rfl) (by kernel_rfl)
  have hVO := @run_callFunc_extern Tryd.prog 72 _ (fun args => ReflectliteValue.unpack (args.getD 0 (.tuple #[]))) Tryd.func72 (by kernel_rfl) (by kernel_rfl) (by kernel_rfl) (by kernel_rfl)
  have hEL := @run_callFunc_extern Tryd.prog 81 _ (ReflectliteValue.method (ReflectliteValue.valueError "reflectlite.Value.Elem" 0) ReflectliteValue.elem) Tryd.func81 (by kernel_rfl) (by kernel_rfl) (by kernel_rfl) (by kernel_rfl)
  have hST := @run_callFunc_extern Tryd.prog 82 _ ReflectliteValue.set Tryd.func82 (by kernel_rfl) (by kernel_rfl) (by kernel_rfl) (by kernel_rfl)
  have mA := mAssignable
  have tODisk := typeOfDisk
  have aSDisk := assignDiskTab
  have tORoot := typeOfRoot
  have aSRoot := assignRootTab
  have nADisk := noAsDisk
  have uUDisk := unwrapDisk
  have nARoot := noAsRoot
  have uURoot := unwrapRoot
  have nUs := noUnwrapsRoot
  have mD := mUnDisk
  go_enter Tryd.func75, Tryd.ntmps75
  go_wp2_with fail
  refine wp_loop_rounds 2 ?_
  rw [rounds_succ]
  go_wp2_with fail
  refine (diskUnwrap_any b (.iface 145 (.pointer (some a))) _ (by rw [World.cell?_alloc_lt _ _ ⟨b, 0, none⟩ (lt_of_cell h0)]; exact h0)).mono ?_
  rintro e w' ⟨rfl, hw'⟩
  subst w'
  go_wp2_with fail
  rw [rounds_succ]
  go_wp2_with fail
  go_ret
  exact ⟨rfl, rfl⟩

set_option maxHeartbeats 2000000 in
theorem as_tabTab (t av : Addr) (w : World) (old : Value) (b : Nat) (hv : w.cell? av = some (.pointer (some t))) (ht : w.cell? t = some old) (hf : w.frozen? t = false) :
    Calls Tryd.prog 75 #[(.iface 82 (.pointer (some ⟨b, 0, none⟩))), .iface 84 (.pointer (some t)), .agg #[.pointer (some ⟨8, 84, none⟩), .pointer (some av), .int .u64 150], .iface 125 (.agg #[.pointer (some ⟨8, 82, none⟩)])] w fun e w' => e = .returned (.bool true) ∧ w' = ((w.alloc (.cells #[.pointer (some ⟨8, 84, none⟩), .pointer (some av), .int .u64 150] 116)).alloc (.cells #[.pointer (some ⟨b, 0, none⟩)] 82)).setCell t (.pointer (some ⟨b, 0, none⟩)) := by
  have hTO := @run_callFunc_extern Tryd.prog 70 _ ReflectliteType.typeOf Tryd.func70 (by kernel_rfl) (by kernel_rfl) (by kernel_rfl) (by kernel_rfl)
  have hAS := @run_callFunc_extern Tryd.prog 113 _ (ReflectliteType.relation "AssignableTo" ReflectliteType.assignableTo) Tryd.func113 (by kernel_rfl) (by kernel_rfl) (by kernel_rfl) (by kernel_rfl)
  have hVO := @run_callFunc_extern Tryd.prog 72 _ (fun args => ReflectliteValue.unpack (args.getD 0 (.tuple #[]))) Tryd.func72 (by kernel_rfl) (by kernel_rfl) (by kernel_rfl) (by kernel_rfl)
  have hEL := @run_callFunc_extern Tryd.prog 81 _ (ReflectliteValue.method (ReflectliteValue.valueError "reflectlite.Value.Elem" 0) ReflectliteValue.elem) Tryd.func81 (by kernel_rfl) (by kernel_rfl) (by kernel_rfl) (by kernel_rfl)
  have hST := @run_callFunc_extern Tryd.prog 82 _ ReflectliteValue.set Tryd.func82 (by kernel_rfl) (by kernel_rfl) (by kernel_rfl) (by kernel_rfl)
  have mA := mAssignable
  have tOTab := typeOfTab
  have aSTab := assignTabTab
  have vO := valueOfTab
  have htl : t.block < w.heap.size := lt_of_cell ht
  have hvl : av.block < w.heap.size := lt_of_cell hv
  have eV := elemVTab av t (w.alloc (.cells #[.pointer (some ⟨8, 84, none⟩), .pointer (some av), .int .u64 150] 116)) (by rw [World.cell?_alloc_lt _ _ _ hvl]; exact hv)
  have sT := setTab t ⟨w.heap.size + 1, 0, none⟩ ⟨b, 0, none⟩ old ((w.alloc (.cells #[.pointer (some ⟨8, 84, none⟩), .pointer (some av), .int .u64 150] 116)).alloc (.cells #[.pointer (some ⟨b, 0, none⟩)] 82))
    (by rw [World.cell?_alloc_at _ _ _ _ (by simp)]; rfl)
    (by rw [World.cell?_alloc_lt _ _ t (by simp; omega), World.cell?_alloc_lt _ _ t htl]; exact ht)
    (by rw [World.frozen?_alloc_old _ _ t (by simp; omega), World.frozen?_alloc_old _ _ t (Nat.ne_of_lt htl)]; exact hf)
  go_enter Tryd.func75, Tryd.ntmps75
  go_wp2_with fail
  refine wp_loop_rounds 1 ?_
  rw [rounds_succ]
  go_wp2_with fail
  go_ret
  exact ⟨rfl, rfl⟩

set_option maxHeartbeats 2000000 in
theorem as_rootDisk (a t av : Addr) (w : World) :
    Calls Tryd.prog 75 #[(.iface 145 (.pointer (some a))), .iface 88 (.pointer (some t)), .agg #[.pointer (some ⟨8, 88, none⟩), .pointer (some av), .int .u64 150], .iface 125 (.agg #[.pointer (some ⟨8, 87, none⟩)])] w fun e w' => e = .returned (.bool false) ∧ w' = w.alloc (.cells #[.pointer (some ⟨8, 88, none⟩), .pointer (some av), .int .u64 150] 116) := by
  have hTO := @run_callFunc_extern Tryd.prog 70 _ ReflectliteType.typeOf Tryd.func70 (by kernel_rfl) (by kernel_rfl) (by kernel_rfl) (by kernel_rfl)
  have hAS := @run_callFunc_extern Tryd.prog 113 _ (ReflectliteType.relation "AssignableTo" ReflectliteType.assignableTo) Tryd.func113 (by kernel_rfl) (by kernel_rfl) (by kernel_rfl) (by kernel_rfl)
  have hVO := @run_callFunc_extern Tryd.prog 72 _ (fun args => ReflectliteValue.unpack (args.getD 0 (.tuple #[]))) Tryd.func72 (by kernel_rfl) (by kernel_rfl) (by kernel_rfl) (by kernel_rfl)
  have hEL := @run_callFunc_extern Tryd.prog 81 _ (ReflectliteValue.method (ReflectliteValue.valueError "reflectlite.Value.Elem" 0) ReflectliteValue.elem) Tryd.func81 (by kernel_rfl) (by kernel_rfl) (by kernel_rfl) (by kernel_rfl)
  have hST := @run_callFunc_extern Tryd.prog 82 _ ReflectliteValue.set Tryd.func82 (by kernel_rfl) (by kernel_rfl) (by kernel_rfl) (by kernel_rfl)
  have mA := mAssignable
  have tORoot := typeOfRoot
  have aSRoot := assignRootDisk
  have nARoot := noAsRoot
  have uURoot := unwrapRoot
  have nUs := noUnwrapsRoot
  go_enter Tryd.func75, Tryd.ntmps75
  go_wp2_with fail
  refine wp_loop_rounds 1 ?_
  rw [rounds_succ]
  go_wp2_with fail
  go_ret
  exact ⟨rfl, rfl⟩

set_option maxHeartbeats 2000000 in
theorem as_diskDisk (t av : Addr) (w : World) (old : Value) (b : Nat) (hv : w.cell? av = some (.pointer (some t))) (ht : w.cell? t = some old) (hf : w.frozen? t = false) :
    Calls Tryd.prog 75 #[(.iface 87 (.pointer (some ⟨b, 0, none⟩))), .iface 88 (.pointer (some t)), .agg #[.pointer (some ⟨8, 88, none⟩), .pointer (some av), .int .u64 150], .iface 125 (.agg #[.pointer (some ⟨8, 87, none⟩)])] w fun e w' => e = .returned (.bool true) ∧ w' = ((w.alloc (.cells #[.pointer (some ⟨8, 88, none⟩), .pointer (some av), .int .u64 150] 116)).alloc (.cells #[.pointer (some ⟨b, 0, none⟩)] 87)).setCell t (.pointer (some ⟨b, 0, none⟩)) := by
  have hTO := @run_callFunc_extern Tryd.prog 70 _ ReflectliteType.typeOf Tryd.func70 (by kernel_rfl) (by kernel_rfl) (by kernel_rfl) (by kernel_rfl)
  have hAS := @run_callFunc_extern Tryd.prog 113 _ (ReflectliteType.relation "AssignableTo" ReflectliteType.assignableTo) Tryd.func113 (by kernel_rfl) (by kernel_rfl) (by kernel_rfl) (by kernel_rfl)
  have hVO := @run_callFunc_extern Tryd.prog 72 _ (fun args => ReflectliteValue.unpack (args.getD 0 (.tuple #[]))) Tryd.func72 (by kernel_rfl) (by kernel_rfl) (by kernel_rfl) (by kernel_rfl)
  have hEL := @run_callFunc_extern Tryd.prog 81 _ (ReflectliteValue.method (ReflectliteValue.valueError "reflectlite.Value.Elem" 0) ReflectliteValue.elem) Tryd.func81 (by kernel_rfl) (by kernel_rfl) (by kernel_rfl) (by kernel_rfl)
  have hST := @run_callFunc_extern Tryd.prog 82 _ ReflectliteValue.set Tryd.func82 (by kernel_rfl) (by kernel_rfl) (by kernel_rfl) (by kernel_rfl)
  have mA := mAssignable
  have tODisk := typeOfDisk
  have aSDisk := assignDiskDisk
  have vO := valueOfDisk
  have htl : t.block < w.heap.size := lt_of_cell ht
  have hvl : av.block < w.heap.size := lt_of_cell hv
  have eV := elemVDisk av t (w.alloc (.cells #[.pointer (some ⟨8, 88, none⟩), .pointer (some av), .int .u64 150] 116)) (by rw [World.cell?_alloc_lt _ _ _ hvl]; exact hv)
  have sT := setDisk t ⟨w.heap.size + 1, 0, none⟩ ⟨b, 0, none⟩ old ((w.alloc (.cells #[.pointer (some ⟨8, 88, none⟩), .pointer (some av), .int .u64 150] 116)).alloc (.cells #[.pointer (some ⟨b, 0, none⟩)] 87))
    (by rw [World.cell?_alloc_at _ _ _ _ (by simp)]; rfl)
    (by rw [World.cell?_alloc_lt _ _ t (by simp; omega), World.cell?_alloc_lt _ _ t htl]; exact ht)
    (by rw [World.frozen?_alloc_old _ _ t (by simp; omega), World.frozen?_alloc_old _ _ t (Nat.ne_of_lt htl)]; exact hf)
  go_enter Tryd.func75, Tryd.ntmps75
  go_wp2_with fail
  refine wp_loop_rounds 1 ?_
  rw [rounds_succ]
  go_wp2_with fail
  go_ret
  exact ⟨rfl, rfl⟩

set_option maxHeartbeats 2000000 in
theorem as_tabDisk (a t av : Addr) (w : World) (b : Nat) (h0 : w.cell? ⟨b, 2, none⟩ = some (.iface 145 (.pointer (some a)))) :
    Calls Tryd.prog 75 #[(.iface 82 (.pointer (some ⟨b, 0, none⟩))), .iface 88 (.pointer (some t)), .agg #[.pointer (some ⟨8, 88, none⟩), .pointer (some av), .int .u64 150], .iface 125 (.agg #[.pointer (some ⟨8, 87, none⟩)])] w fun e w' => e = .returned (.bool false) ∧ w' = w.alloc (.cells #[.pointer (some ⟨8, 88, none⟩), .pointer (some av), .int .u64 150] 116) := by
  have hTO := @run_callFunc_extern Tryd.prog 70 _ ReflectliteType.typeOf Tryd.func70 (by kernel_rfl) (by kernel_rfl) (by kernel_rfl) (by kernel_rfl)
  have hAS := @run_callFunc_extern Tryd.prog 113 _ (ReflectliteType.relation "AssignableTo" ReflectliteType.assignableTo) Tryd.func113 (by kernel_rfl) (by kernel_rfl) (by kernel_rfl) (by kernel_rfl)
  have hVO := @run_callFunc_extern Tryd.prog 72 _ (fun args => ReflectliteValue.unpack (args.getD 0 (.tuple #[]))) Tryd.func72 (by kernel_rfl) (by kernel_rfl) (by kernel_rfl) (by kernel_rfl)
  have hEL := @run_callFunc_extern Tryd.prog 81 _ (ReflectliteValue.method (ReflectliteValue.valueError "reflectlite.Value.Elem" 0) ReflectliteValue.elem) Tryd.func81 (by kernel_rfl) (by kernel_rfl) (by kernel_rfl) (by kernel_rfl)
  have hST := @run_callFunc_extern Tryd.prog 82 _ ReflectliteValue.set Tryd.func82 (by kernel_rfl) (by kernel_rfl) (by kernel_rfl) (by kernel_rfl)
  have mA := mAssignable
  have tOTab := typeOfTab
  have aSTab := assignTabDisk
  have tORoot := typeOfRoot
  have aSRoot := assignRootDisk
  have nATab := noAsTab
  have uUTab := unwrapTab
  have nARoot := noAsRoot
  have uURoot := unwrapRoot
  have nUs := noUnwrapsRoot
  have mT := mUnTab
  go_enter Tryd.func75, Tryd.ntmps75
  go_wp2_with fail
  refine wp_loop_rounds 2 ?_
  rw [rounds_succ]
  go_wp2_with fail
  refine (tabUnwrap_any b (.iface 145 (.pointer (some a))) _ (by rw [World.cell?_alloc_lt _ _ ⟨b, 2, none⟩ (lt_of_cell h0)]; exact h0)).mono ?_
  rintro e w' ⟨rfl, hw'⟩
  subst w'
  go_wp2_with fail
  rw [rounds_succ]
  go_wp2_with fail
  go_ret
  exact ⟨rfl, rfl⟩

set_option maxHeartbeats 2000000 in
theorem as_bothDisk (t av : Addr) (w : World) (old : Value) (b d : Nat) (h0 : w.cell? ⟨b, 2, none⟩ = some (.iface 87 (.pointer (some ⟨d, 0, none⟩)))) (hv : w.cell? av = some (.pointer (some t))) (ht : w.cell? t = some old) (hf : w.frozen? t = false) :
    Calls Tryd.prog 75 #[(.iface 82 (.pointer (some ⟨b, 0, none⟩))), .iface 88 (.pointer (some t)), .agg #[.pointer (some ⟨8, 88, none⟩), .pointer (some av), .int .u64 150], .iface 125 (.agg #[.pointer (some ⟨8, 87, none⟩)])] w fun e w' => e = .returned (.bool true) ∧ w' = ((w.alloc (.cells #[.pointer (some ⟨8, 88, none⟩), .pointer (some av), .int .u64 150] 116)).alloc (.cells #[.pointer (some ⟨d, 0, none⟩)] 87)).setCell t (.pointer (some ⟨d, 0, none⟩)) := by
  have hTO := @run_callFunc_extern Tryd.prog 70 _ ReflectliteType.typeOf Tryd.func70 (by kernel_rfl) (by kernel_rfl) (by kernel_rfl) (by kernel_rfl)
  have hAS := @run_callFunc_extern Tryd.prog 113 _ (ReflectliteType.relation "AssignableTo" ReflectliteType.assignableTo) Tryd.func113 (by kernel_rfl) (by kernel_rfl) (by kernel_rfl) (by kernel_rfl)
  have hVO := @run_callFunc_extern Tryd.prog 72 _ (fun args => ReflectliteValue.unpack (args.getD 0 (.tuple #[]))) Tryd.func72 (by kernel_rfl) (by kernel_rfl) (by kernel_rfl) (by kernel_rfl)
  have hEL := @run_callFunc_extern Tryd.prog 81 _ (ReflectliteValue.method (ReflectliteValue.valueError "reflectlite.Value.Elem" 0) ReflectliteValue.elem) Tryd.func81 (by kernel_rfl) (by kernel_rfl) (by kernel_rfl) (by kernel_rfl)
  have hST := @run_callFunc_extern Tryd.prog 82 _ ReflectliteValue.set Tryd.func82 (by kernel_rfl) (by kernel_rfl) (by kernel_rfl) (by kernel_rfl)
  have mA := mAssignable
  have tOTab := typeOfTab
  have aSTab := assignTabDisk
  have tODisk := typeOfDisk
  have aSDisk := assignDiskDisk
  have nATab := noAsTab
  have uUTab := unwrapTab
  have mT := mUnTab
  have vO := valueOfDisk
  have htl : t.block < w.heap.size := lt_of_cell ht
  have hvl : av.block < w.heap.size := lt_of_cell hv
  have eV := elemVDisk av t (w.alloc (.cells #[.pointer (some ⟨8, 88, none⟩), .pointer (some av), .int .u64 150] 116)) (by rw [World.cell?_alloc_lt _ _ _ hvl]; exact hv)
  have sT := setDisk t ⟨w.heap.size + 1, 0, none⟩ ⟨d, 0, none⟩ old ((w.alloc (.cells #[.pointer (some ⟨8, 88, none⟩), .pointer (some av), .int .u64 150] 116)).alloc (.cells #[.pointer (some ⟨d, 0, none⟩)] 87))
    (by rw [World.cell?_alloc_at _ _ _ _ (by simp)]; rfl)
    (by rw [World.cell?_alloc_lt _ _ t (by simp; omega), World.cell?_alloc_lt _ _ t htl]; exact ht)
    (by rw [World.frozen?_alloc_old _ _ t (by simp; omega), World.frozen?_alloc_old _ _ t (Nat.ne_of_lt htl)]; exact hf)
  go_enter Tryd.func75, Tryd.ntmps75
  go_wp2_with fail
  refine wp_loop_rounds 2 ?_
  rw [rounds_succ]
  go_wp2_with fail
  refine (tabUnwrap_any b (.iface 87 (.pointer (some ⟨d, 0, none⟩))) _ (by rw [World.cell?_alloc_lt _ _ ⟨b, 2, none⟩ (lt_of_cell h0)]; exact h0)).mono ?_
  rintro e w' ⟨rfl, hw'⟩
  subst w'
  go_wp2_with fail
  rw [rounds_succ]
  go_wp2_with fail
  go_ret
  exact ⟨rfl, rfl⟩
end Go.Proofs.YtgbakmmagkgolaaDoor
