/- errors.Is at sentinels of errors.New's make, by Go's own text; what the program makes of its errors: faults. -/
import Derived.Test.YthplnjgijmilnaaDoorWalkK
import Derived.LaidEql
import Derived.Stop.Asserts
import Derived.RowKitTokens
namespace Go.Proofs.YthplnjgijmilnaaDoor
open Go.RowKit Go.Extern.Stop Go.Stop Go.Extern

theorem isTypeOf (v : Value) (w : World) : (Extern.ReflectliteType.typeOf #[.iface 126 v]).run Tryd.prog w = .ok (.iface 111 (.agg #[.pointer (some ⟨3, 126, none⟩)])) w := by kernel_rfl
def cmpM (args : Array Value) : Sem Value := Extern.ReflectliteType.method (fun t => do Go.Extern.Rtype.noPackHeld "Comparable" t; pure (.bool (← typeInfo t).comparable)) args
theorem isComparable (w : World) : (cmpM #[.agg #[.pointer (some ⟨3, 126, none⟩)]]).run Tryd.prog w = .ok (.bool true) w := by kernel_rfl
theorem run_cmpM (args : Array Value) (w : World) : (callFunc 106 args).run Tryd.prog w = ((cmpM args).run Tryd.prog w).andThen fun v w' => .ok (.value v) w' :=
  @run_callFunc_extern Tryd.prog 106 _ (Extern.ReflectliteType.method fun t => do Go.Extern.Rtype.noPackHeld "Comparable" t; pure (.bool (← typeInfo t).comparable)) Tryd.func106 (by kernel_rfl) (by kernel_rfl) (by kernel_rfl) (by kernel_rfl) args w
theorem isComp : (Tryd.prog.info? 126).map (·.comparable) = some true := by kernel_rfl
theorem isSize : (Tryd.prog.info? 150).map (·.size) = some 1 := by kernel_rfl
theorem noIsE (v : Value) (xT : TypeId) (w : World) : (Instr.typeAssert (.iface 126 v) xT 113 true).run Tryd.prog w = .ok (.tuple #[.nilIface, .bool false]) w := run_typeAssert_lacksB Tryd.underlying113 (by kernel_rfl) (by kernel_rfl) v xT w
theorem noUnwrapE (v : Value) (xT : TypeId) (w : World) : (Instr.typeAssert (.iface 126 v) xT 116 true).run Tryd.prog w = .ok (.tuple #[.nilIface, .bool false]) w := run_typeAssert_lacksB Tryd.underlying116 (by kernel_rfl) (by kernel_rfl) v xT w
theorem noUnwrapsE (v : Value) (xT : TypeId) (w : World) : (Instr.typeAssert (.iface 126 v) xT 118 true).run Tryd.prog w = .ok (.tuple #[.nilIface, .bool false]) w := run_typeAssert_lacksB Tryd.underlying118 (by kernel_rfl) (by kernel_rfl) v xT w
theorem isMethodComparable (v : Value) (w : World) : (Go.method 262 111 v "Comparable").run Tryd.prog w = .ok (106, v) w := by kernel_rfl

set_option maxHeartbeats 400000 in
theorem is_same (a : Addr) (w : World) :
    Calls Tryd.prog 59 #[.iface 126 (.pointer (some a)), .iface 126 (.pointer (some a))] w fun e w' => e = .returned (.bool true) ∧ w' = w := by
  obtain ⟨i, hi, hcmp⟩ := Option.map_eq_some_iff.1 isComp
  obtain ⟨j, hj, hjs⟩ := Option.map_eq_some_iff.1 isSize
  have h8 := @run_callFunc_extern Tryd.prog 76 _ Extern.ReflectliteType.typeOf Tryd.func76 (by kernel_rfl) (by kernel_rfl) (by kernel_rfl) (by kernel_rfl)
  have h32 := run_cmpM
  have tT := isTypeOf
  have cT := isComparable
  have mR := isMethodComparable
  have heq := run_eql_iface_ptr_same (P := Tryd.prog) w a Tryd.underlying43 Tryd.underlying126 hi hcmp hj
  go_enter Tryd.func59, Tryd.ntmps59
  go_wp2
  refine wp_loop_rounds 1 ?_
  rw [rounds_succ]
  go_wp2
  go_ret
  exact ⟨rfl, rfl⟩

set_option maxHeartbeats 400000 in
theorem is_other (a b : Addr) (ca cb : Array Value) (ta tb : TypeId) (w : World) (hne : a ≠ b) (ha : w.heap[a.block]? = some (.cells ca ta (0, 0))) (hb : w.heap[b.block]? = some (.cells cb tb (0, 0))) :
    Calls Tryd.prog 59 #[.iface 126 (.pointer (some a)), .iface 126 (.pointer (some b))] w fun e w' => e = .returned (.bool false) ∧ w' = w := by
  obtain ⟨i, hi, hcmp⟩ := Option.map_eq_some_iff.1 isComp
  obtain ⟨j, hj, hjs⟩ := Option.map_eq_some_iff.1 isSize
  have h8 := @run_callFunc_extern Tryd.prog 76 _ Extern.ReflectliteType.typeOf Tryd.func76 (by kernel_rfl) (by kernel_rfl) (by kernel_rfl) (by kernel_rfl)
  have h32 := run_cmpM
  have tT := isTypeOf
  have cT := isComparable
  have mR := isMethodComparable
  have nE := noIsE
  have uE := noUnwrapE
  have vE := noUnwrapsE
  have heq := run_eql_iface_ptr_other (P := Tryd.prog) w Tryd.underlying43 Tryd.underlying126 hi hcmp hj (by rw [hjs]; decide) hne ha hb
  go_enter Tryd.func59, Tryd.ntmps59
  go_wp2
  refine wp_loop_rounds 1 ?_
  rw [rounds_succ]
  go_wp2
  go_ret
  exact ⟨rfl, rfl⟩

/-- The three sentinels, as the program's text lays them: each a pointer of its own, to a block of its own that nothing has frozen. -/
structure Errs (w : World) (a0 a1 a2 : Addr) : Prop where
  c0 : w.cell? ⟨0, 0, none⟩ = some (.iface 126 (.pointer (some a0)))
  c1 : w.cell? ⟨1, 0, none⟩ = some (.iface 126 (.pointer (some a1)))
  c2 : w.cell? ⟨2, 0, none⟩ = some (.iface 126 (.pointer (some a2)))
  n01 : a0 ≠ a1
  n02 : a0 ≠ a2
  n12 : a1 ≠ a2
  b0 : ∃ c t, w.heap[a0.block]? = some (.cells c t (0, 0))
  b1 : ∃ c t, w.heap[a1.block]? = some (.cells c t (0, 0))
  b2 : ∃ c t, w.heap[a2.block]? = some (.cells c t (0, 0))

theorem lt_of_heap {w : World} {k : Nat} {o : Obj} (h : w.heap[k]? = some o) : k < w.heap.size := by
  rcases Nat.lt_or_ge k w.heap.size with h' | h'
  · exact h'
  · simp [Array.getElem?_eq_none h'] at h

theorem Errs.below {w w' : World} {a0 a1 a2 : Addr} (h : Errs w a0 a1 a2) (hb : Below w.heap.size w w') : Errs w' a0 a1 a2 := by
  have k0 := lt_of_cell h.c0
  have k1 := lt_of_cell h.c1
  have k2 := lt_of_cell h.c2
  obtain ⟨x0, y0, z0⟩ := h.b0
  obtain ⟨x1, y1, z1⟩ := h.b1
  obtain ⟨x2, y2, z2⟩ := h.b2
  exact ⟨by rw [(below_keep hb).1 0 0 k0]; exact h.c0, by rw [(below_keep hb).1 1 0 k1]; exact h.c1, by rw [(below_keep hb).1 2 0 k2]; exact h.c2, h.n01, h.n02, h.n12,
    ⟨x0, y0, by rw [hb.block _ (lt_of_heap z0)]; exact z0⟩, ⟨x1, y1, by rw [hb.block _ (lt_of_heap z1)]; exact z1⟩, ⟨x2, y2, by rw [hb.block _ (lt_of_heap z2)]; exact z2⟩⟩

set_option maxHeartbeats 400000 in
theorem codeOf_nil (w : World) : Calls Tryd.prog 40 #[.nilIface] w fun e w' => e = .returned (.int .i64 0) ∧ w' = w := by
  have hn := run_eql_nil_nil (P := Tryd.prog) w 43 (by kernel_rfl)
  go_enter Tryd.func40, Tryd.ntmps40
  go_wp2
  go_ret
  exact ⟨rfl, rfl⟩

set_option maxHeartbeats 400000 in
theorem codeOf_dict (a0 a1 a2 : Addr) (w : World) (h : Errs w a0 a1 a2) : Calls Tryd.prog 40 #[.iface 126 (.pointer (some a1))] w fun e w' => e = .returned (.int .i64 2) ∧ w' = w := by
  have hn := run_eql_held_nil (P := Tryd.prog) w 43 126 (.pointer (some a1)) (by kernel_rfl)
  have c1 := h.c1
  go_enter Tryd.func40, Tryd.ntmps40
  go_wp2_with fail
  refine (is_same a1 _).mono ?_
  rintro e w' ⟨rfl, rfl⟩
  go_wp2_with fail
  go_ret
  exact ⟨rfl, rfl⟩

set_option maxHeartbeats 400000 in
theorem codeOf_arg (a0 a1 a2 : Addr) (w : World) (h : Errs w a0 a1 a2) : Calls Tryd.prog 40 #[.iface 126 (.pointer (some a0))] w fun e w' => e = .returned (.int .i64 1) ∧ w' = w := by
  have hn := run_eql_held_nil (P := Tryd.prog) w 43 126 (.pointer (some a0)) (by kernel_rfl)
  have c1 := h.c1
  have c2 := h.c2
  obtain ⟨x0, y0, z0⟩ := h.b0
  obtain ⟨x1, y1, z1⟩ := h.b1
  obtain ⟨x2, y2, z2⟩ := h.b2
  go_enter Tryd.func40, Tryd.ntmps40
  go_wp2_with fail
  refine (is_other a0 a1 x0 x1 y0 y1 _ h.n01 z0 z1).mono ?_
  rintro e w' ⟨rfl, hw'⟩
  subst w'
  go_wp2_with fail
  refine (is_other a0 a2 x0 x2 y0 y2 _ h.n02 z0 z2).mono ?_
  rintro e w' ⟨rfl, hw'⟩
  subst w'
  go_wp2_with fail
  go_ret
  exact ⟨rfl, rfl⟩

theorem faultOf_of (x : Value) (c : Int) (w : World) (hc : ∀ W, Below w.heap.size w W → Calls Tryd.prog 40 #[x] W fun e w' => e = .returned (.int .i64 c) ∧ w' = W) :
    Calls Tryd.prog 21 #[x] w fun e w' => e = .returned (fault c) ∧ Below w.heap.size w w' := by
  have HC : Hid (∀ W, Below w.heap.size w W → Calls Tryd.prog 40 #[x] W fun e w' => e = .returned (.int .i64 c) ∧ w' = W) := hc
  clear hc
  go_enter Tryd.func21, Tryd.ntmps21
  go_wp2_with fail
  refine (HC.out _ ((Below.refl _ _).alloc (Nat.le_refl _) _)).mono ?_
  rintro e w' ⟨rfl, hw'⟩
  subst w'
  go_wp2
  exact bodyPost_ret (v := fault c) (by simp [results, Tryd.results21, go_sem]) rfl ⟨rfl, (Below.refl _ _).alloc (Nat.le_refl _) _⟩
end Go.Proofs.YthplnjgijmilnaaDoor
