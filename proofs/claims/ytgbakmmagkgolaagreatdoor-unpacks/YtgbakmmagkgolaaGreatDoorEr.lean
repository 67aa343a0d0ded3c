/- errors.Is and errors.As, by Go's own text, at the errors that the program makes: a named error, a disk's error round one, a table's error round either. What the program makes of its errors: faults. -/
import Derived.Test.YtgbakmmagkgolaaGreatDoorKa
import Derived.LaidEql
import Derived.Stop.Asserts
import Derived.RowKitTokens
namespace Go.Proofs.YtgbakmmagkgolaaGreatDoor
open Go.RowKit Go.Extern.Stop Go.Stop Go.Extern

/-- An error of the program: its named error's address; the column, the page that it bears. -/
inductive Chain (w : World) : Value → Addr → Option Int → Option Int → Prop
  | root (a : Addr) : Chain w (.iface 345 (.pointer (some a))) a none none
  | disk (b : Nat) (a : Addr) (p : Int) : w.cell? ⟨b, 0, none⟩ = some (.iface 345 (.pointer (some a))) → w.cell? ⟨b, 1, none⟩ = some (.int .i64 p) → Chain w (.iface 208 (.pointer (some ⟨b, 0, none⟩))) a none (some p)
  | tab (b : Nat) (a : Addr) (c : Int) : w.cell? ⟨b, 1, none⟩ = some (.int .i64 c) → w.cell? ⟨b, 2, none⟩ = some (.iface 345 (.pointer (some a))) → Chain w (.iface 158 (.pointer (some ⟨b, 0, none⟩))) a (some c) none
  | both (b d : Nat) (a : Addr) (c p : Int) : w.cell? ⟨b, 1, none⟩ = some (.int .i64 c) → w.cell? ⟨b, 2, none⟩ = some (.iface 208 (.pointer (some ⟨d, 0, none⟩))) → w.cell? ⟨d, 0, none⟩ = some (.iface 345 (.pointer (some a))) → w.cell? ⟨d, 1, none⟩ = some (.int .i64 p) →
      Chain w (.iface 158 (.pointer (some ⟨b, 0, none⟩))) a (some c) (some p)

theorem lt_of_heap {w : World} {k : Nat} {o : Obj} (h : w.heap[k]? = some o) : k < w.heap.size := by
  rcases Nat.lt_or_ge k w.heap.size with h' | h'
  · exact h'
  · simp [Array.getElem?_eq_none h'] at h
theorem cell_below {w w' : World} (hb : Below w.heap.size w w') {b o : Nat} {v : Value} (h : w.cell? ⟨b, o, none⟩ = some v) : w'.cell? ⟨b, o, none⟩ = some v := by
  rw [(below_keep hb).1 b o (lt_of_cell h)]; exact h
theorem Chain.below {w w' : World} {v : Value} {a : Addr} {c p : Option Int} (h : Chain w v a c p) (hb : Below w.heap.size w w') : Chain w' v a c p := by
  cases h with
  | root a => exact .root a
  | disk b a p h0 h1 => exact .disk b a p (cell_below hb h0) (cell_below hb h1)
  | tab b a c h1 h2 => exact .tab b a c (cell_below hb h1) (cell_below hb h2)
  | both b d a c p h1 h2 h3 h4 => exact .both b d a c p (cell_below hb h1) (cell_below hb h2) (cell_below hb h3) (cell_below hb h4)

def cmpM (args : Array Value) : Sem Value := Extern.ReflectliteType.method (fun t => do Go.Extern.Rtype.noPackHeld "Comparable" t; pure (.bool (← typeInfo t).comparable)) args
theorem isComparable (w : World) : (cmpM #[.agg #[.pointer (some ⟨9, 345, none⟩)]]).run Tryz.prog w = .ok (.bool true) w := by kernel_rfl
theorem run_cmpM (args : Array Value) (w : World) : (callFunc 252 args).run Tryz.prog w = ((cmpM args).run Tryz.prog w).andThen fun v w' => .ok (.value v) w' :=
  @run_callFunc_extern Tryz.prog 252 _ (Extern.ReflectliteType.method fun t => do Go.Extern.Rtype.noPackHeld "Comparable" t; pure (.bool (← typeInfo t).comparable)) Tryz.func252 (by kernel_rfl) (by kernel_rfl) (by kernel_rfl) (by kernel_rfl) args w
theorem isComp : (Tryz.prog.info? 345).map (·.comparable) = some true := by kernel_rfl
theorem isSize : (Tryz.prog.info? 364).map (·.size) = some 1 := by kernel_rfl
theorem isMethodComparable (v : Value) (w : World) : (Go.method 475 294 v "Comparable").run Tryz.prog w = .ok (252, v) w := by kernel_rfl
theorem mKind (h : Value) (w : World) : (Go.method 475 294 (.agg #[h]) "Kind").run Tryz.prog w = .ok (240, h) w := by kernel_rfl
theorem mElem (h : Value) (w : World) : (Go.method 475 294 (.agg #[h]) "Elem").run Tryz.prog w = .ok (253, .agg #[h]) w := by kernel_rfl
theorem mImplements (h : Value) (w : World) : (Go.method 475 294 (.agg #[h]) "Implements").run Tryz.prog w = .ok (254, .agg #[h]) w := by kernel_rfl
theorem mAssignable (h : Value) (w : World) : (Go.method 475 294 (.agg #[h]) "AssignableTo").run Tryz.prog w = .ok (251, .agg #[h]) w := by kernel_rfl
theorem mUnTab (v : Value) (w : World) : (Go.method 475 158 v "Unwrap").run Tryz.prog w = .ok (244, v) w := by kernel_rfl
theorem mUnDisk (v : Value) (w : World) : (Go.method 475 208 v "Unwrap").run Tryz.prog w = .ok (246, v) w := by kernel_rfl
theorem typeOfRoot (v : Value) (w : World) : (ReflectliteType.typeOf #[.iface 345 v]).run Tryz.prog w = .ok (.iface 294 (.agg #[.pointer (some ⟨9, 345, none⟩)])) w := by kernel_rfl
theorem noIsRoot (v : Value) (xT : TypeId) (w : World) : (Instr.typeAssert (.iface 345 v) xT 296 true).run Tryz.prog w = .ok (.tuple #[.nilIface, .bool false]) w := run_typeAssert_lacksB Tryz.underlying296 (by kernel_rfl) (by kernel_rfl) v xT w
theorem noAsRoot (v : Value) (xT : TypeId) (w : World) : (Instr.typeAssert (.iface 345 v) xT 306 true).run Tryz.prog w = .ok (.tuple #[.nilIface, .bool false]) w := run_typeAssert_lacksB Tryz.underlying306 (by kernel_rfl) (by kernel_rfl) v xT w
theorem noUnwrapsRoot (v : Value) (xT : TypeId) (w : World) : (Instr.typeAssert (.iface 345 v) xT 301 true).run Tryz.prog w = .ok (.tuple #[.nilIface, .bool false]) w := run_typeAssert_lacksB Tryz.underlying301 (by kernel_rfl) (by kernel_rfl) v xT w
theorem unwrapRoot (v : Value) (xT : TypeId) (w : World) : (Instr.typeAssert (.iface 345 v) xT 299 true).run Tryz.prog w = .ok (.tuple #[.nilIface, .bool false]) w := run_typeAssert_lacksB Tryz.underlying299 (by kernel_rfl) (by kernel_rfl) v xT w
theorem typeOfTab (v : Value) (w : World) : (ReflectliteType.typeOf #[.iface 158 v]).run Tryz.prog w = .ok (.iface 294 (.agg #[.pointer (some ⟨9, 158, none⟩)])) w := by kernel_rfl
theorem noIsTab (v : Value) (xT : TypeId) (w : World) : (Instr.typeAssert (.iface 158 v) xT 296 true).run Tryz.prog w = .ok (.tuple #[.nilIface, .bool false]) w := run_typeAssert_lacksB Tryz.underlying296 (by kernel_rfl) (by kernel_rfl) v xT w
theorem noAsTab (v : Value) (xT : TypeId) (w : World) : (Instr.typeAssert (.iface 158 v) xT 306 true).run Tryz.prog w = .ok (.tuple #[.nilIface, .bool false]) w := run_typeAssert_lacksB Tryz.underlying306 (by kernel_rfl) (by kernel_rfl) v xT w
theorem noUnwrapsTab (v : Value) (xT : TypeId) (w : World) : (Instr.typeAssert (.iface 158 v) xT 301 true).run Tryz.prog w = .ok (.tuple #[.nilIface, .bool false]) w := run_typeAssert_lacksB Tryz.underlying301 (by kernel_rfl) (by kernel_rfl) v xT w
theorem unwrapTab (v : Value) (xT : TypeId) (w : World) : (Instr.typeAssert (.iface 158 v) xT 299 true).run Tryz.prog w = .ok (.tuple #[.iface 158 v, .bool true]) w := run_typeAssert_hasB Tryz.underlying299 (by kernel_rfl) v xT w
theorem typeOfDisk (v : Value) (w : World) : (ReflectliteType.typeOf #[.iface 208 v]).run Tryz.prog w = .ok (.iface 294 (.agg #[.pointer (some ⟨9, 208, none⟩)])) w := by kernel_rfl
theorem noIsDisk (v : Value) (xT : TypeId) (w : World) : (Instr.typeAssert (.iface 208 v) xT 296 true).run Tryz.prog w = .ok (.tuple #[.nilIface, .bool false]) w := run_typeAssert_lacksB Tryz.underlying296 (by kernel_rfl) (by kernel_rfl) v xT w
theorem noAsDisk (v : Value) (xT : TypeId) (w : World) : (Instr.typeAssert (.iface 208 v) xT 306 true).run Tryz.prog w = .ok (.tuple #[.nilIface, .bool false]) w := run_typeAssert_lacksB Tryz.underlying306 (by kernel_rfl) (by kernel_rfl) v xT w
theorem noUnwrapsDisk (v : Value) (xT : TypeId) (w : World) : (Instr.typeAssert (.iface 208 v) xT 301 true).run Tryz.prog w = .ok (.tuple #[.nilIface, .bool false]) w := run_typeAssert_lacksB Tryz.underlying301 (by kernel_rfl) (by kernel_rfl) v xT w
theorem unwrapDisk (v : Value) (xT : TypeId) (w : World) : (Instr.typeAssert (.iface 208 v) xT 299 true).run Tryz.prog w = .ok (.tuple #[.iface 208 v, .bool true]) w := run_typeAssert_hasB Tryz.underlying299 (by kernel_rfl) v xT w
end Go.Proofs.YtgbakmmagkgolaaGreatDoor
