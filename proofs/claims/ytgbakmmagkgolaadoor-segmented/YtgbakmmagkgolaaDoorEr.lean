/- errors.Is and errors.As, by Go's own text, at the errors that the program makes: a named error, a disk's error round one, a table's error round either. What the program makes of its errors: faults. -/
import Derived.Test.YtgbakmmagkgolaaDoorKa
import Derived.LaidEql
import Derived.Stop.Asserts
import Derived.RowKitTokens
namespace Go.Proofs.YtgbakmmagkgolaaDoor
open Go.RowKit Go.Extern.Stop Go.Stop Go.Extern

/-- An error of the program: its named error's address; the column, the page that it bears. -/
inductive Chain (w : World) : Value → Addr → Option Int → Option Int → Prop
  | root (a : Addr) : Chain w (.iface 145 (.pointer (some a))) a none none
  | disk (b : Nat) (a : Addr) (p : Int) : w.cell? ⟨b, 0, none⟩ = some (.iface 145 (.pointer (some a))) → w.cell? ⟨b, 1, none⟩ = some (.int .i64 p) → Chain w (.iface 87 (.pointer (some ⟨b, 0, none⟩))) a none (some p)
  | tab (b : Nat) (a : Addr) (c : Int) : w.cell? ⟨b, 1, none⟩ = some (.int .i64 c) → w.cell? ⟨b, 2, none⟩ = some (.iface 145 (.pointer (some a))) → Chain w (.iface 82 (.pointer (some ⟨b, 0, none⟩))) a (some c) none
  | both (b d : Nat) (a : Addr) (c p : Int) : w.cell? ⟨b, 1, none⟩ = some (.int .i64 c) → w.cell? ⟨b, 2, none⟩ = some (.iface 87 (.pointer (some ⟨d, 0, none⟩))) → w.cell? ⟨d, 0, none⟩ = some (.iface 145 (.pointer (some a))) → w.cell? ⟨d, 1, none⟩ = some (.int .i64 p) →
      Chain w (.iface 82 (.pointer (some ⟨b, 0, none⟩))) a (some c) (some p)

theorem lt_of_heap {w : World} {k : Nat} {o : Obj} (h : w.heap[k]? = some o) : k < w.heap.size := by
  rcases Nat.lt_or_ge k w.heap.size with h' | h'
  · exact h'
  · simp [Array.getElem?_eq_none h'] at h
theorem cell_below {w w' : World} (hb : Below w.heap.size w w') {b o : Nat} {v : Value} (h : w.cell? ⟨b, o, none⟩ = some v) : w'.cell? ⟨b, o, none⟩ = some v := by
  rw [(below_keep hb).1 b o (lt_of_cell h)]; exact h
theorem Chain.below {w w' : World} {v : Value} {a : Addr} {c p : Option Int} (h : Chain w v a c p) (hb : Below w.heap.size w w') : Chain w' v a c p := by
  cases h with
  | root a => exact .root a
  | disk b a p h0 h1 => exact .disk b a p (cell_below hb h0) (cell_below hb h1)
  | tab b a c h1 h2 => exact .tab b a c (cell_below hb h1) (cell_below hb h2)
  | both b d a c p h1 h2 h3 h4 => exact .both b d a c p (cell_below hb h1) (cell_below hb h2) (cell_below hb h3) (cell_below hb h4)

def cmpM (args : Array Value) : Sem Value := Extern.ReflectliteType.method (fun t => do Go.Extern.Rtype.noPackHeld "Comparable" t; pure (.bool (← typeInfo t).comparable)) args
theorem isComparable (w : World) : (cmpM #[.agg #[.pointer (some ⟨8, 145, none⟩)]]).run Tryd.prog w = .ok (.bool true) w := by kernel_rfl
theorem run_cmpM (args : Array Value) (w : World) : (callFunc 114 args).run Tryd.prog w = ((cmpM args).run Tryd.prog w).andThen fun v w' => .ok (.value v) w' :=
  @run_callFunc_extern Tryd.prog 114 _ (Extern.ReflectliteType.method fun t => do Go.Extern.Rtype.noPackHeld "Comparable" t; pure (.bool (← typeInfo t).comparable)) Tryd.func114 (by kernel_rfl) (by kernel_rfl) (by kernel_rfl) (by kernel_rfl) args w
theorem isComp : (Tryd.prog.info? 145).map (·.comparable) = some true := by kernel_rfl
theorem isSize : (Tryd.prog.info? 165).map (·.size) = some 1 := by kernel_rfl
theorem isMethodComparable (v : Value) (w : World) : (Go.method 277 125 v "Comparable").run Tryd.prog w = .ok (114, v) w := by kernel_rfl
theorem mKind (h : Value) (w : World) : (Go.method 277 125 (.agg #[h]) "Kind").run Tryd.prog w = .ok (102, h) w := by kernel_rfl
theorem mElem (h : Value) (w : World) : (Go.method 277 125 (.agg #[h]) "Elem").run Tryd.prog w = .ok (115, .agg #[h]) w := by kernel_rfl
theorem mImplements (h : Value) (w : World) : (Go.method 277 125 (.agg #[h]) "Implements").run Tryd.prog w = .ok (116, .agg #[h]) w := by kernel_rfl
theorem mAssignable (h : Value) (w : World) : (Go.method 277 125 (.agg #[h]) "AssignableTo").run Tryd.prog w = .ok (113, .agg #[h]) w := by kernel_rfl
theorem mUnTab (v : Value) (w : World) : (Go.method 277 82 v "Unwrap").run Tryd.prog w = .ok (106, v) w := by kernel_rfl
theorem mUnDisk (v : Value) (w : World) : (Go.method 277 87 v "Unwrap").run Tryd.prog w = .ok (108, v) w := by kernel_rfl
theorem typeOfRoot (v : Value) (w : World) : (ReflectliteType.typeOf #[.iface 145 v]).run Tryd.prog w = .ok (.iface 125 (.agg #[.pointer (some ⟨8, 145, none⟩)])) w := by kernel_rfl
theorem noIsRoot (v : Value) (xT : TypeId) (w : World) : (Instr.typeAssert (.iface 145 v) xT 127 true).run Tryd.prog w = .ok (.tuple #[.nilIface, .bool false]) w := run_typeAssert_lacksB Tryd.underlying127 (by kernel_rfl) (by kernel_rfl) v xT w
theorem noAsRoot (v : Value) (xT : TypeId) (w : World) : (Instr.typeAssert (.iface 145 v) xT 137 true).run Tryd.prog w = .ok (.tuple #[.nilIface, .bool false]) w := run_typeAssert_lacksB Tryd.underlying137 (by kernel_rfl) (by kernel_rfl) v xT w
theorem noUnwrapsRoot (v : Value) (xT : TypeId) (w : World) : (Instr.typeAssert (.iface 145 v) xT 132 true).run Tryd.prog w = .ok (.tuple #[.nilIface, .bool false]) w := run_typeAssert_lacksB Tryd.underlying132 (by kernel_rfl) (by kernel_rfl) v xT w
theorem unwrapRoot (v : Value) (xT : TypeId) (w : World) : (Instr.typeAssert (.iface 145 v) xT 130 true).run Tryd.prog w = .ok (.tuple #[.nilIface, .bool false]) w := run_typeAssert_lacksB Tryd.underlying130 (by kernel_rfl) (by kernel_rfl) v xT w
theorem typeOfTab (v : Value) (w : World) : (ReflectliteType.typeOf #[.iface 82 v]).run Tryd.prog w = .ok (.iface 125 (.agg #[.pointer (some ⟨8, 82, none⟩)])) w := by kernel_rfl
theorem noIsTab (v : Value) (xT : TypeId) (w : World) : (Instr.typeAssert (.iface 82 v) xT 127 true).run Tryd.prog w = .ok (.tuple #[.nilIface, .bool false]) w := run_typeAssert_lacksB Tryd.underlying127 (by kernel_rfl) (by kernel_rfl) v xT w
theorem noAsTab (v : Value) (xT : TypeId) (w : World) : (Instr.typeAssert (.iface 82 v) xT 137 true).run Tryd.prog w = .ok (.tuple #[.nilIface, .bool false]) w := run_typeAssert_lacksB Tryd.underlying137 (by kernel_rfl) (by kernel_rfl) v xT w
theorem noUnwrapsTab (v : Value) (xT : TypeId) (w : World) : (Instr.typeAssert (.iface 82 v) xT 132 true).run Tryd.prog w = .ok (.tuple #[.nilIface, .bool false]) w := run_typeAssert_lacksB Tryd.underlying132 (by kernel_rfl) (by kernel_rfl) v xT w
theorem unwrapTab (v : Value) (xT : TypeId) (w : World) : (Instr.typeAssert (.iface 82 v) xT 130 true).run Tryd.prog w = .ok (.tuple #[.iface 82 v, .bool true]) w := run_typeAssert_hasB Tryd.underlying130 (by kernel_rfl) v xT w
theorem typeOfDisk (v : Value) (w : World) : (ReflectliteType.typeOf #[.iface 87 v]).run Tryd.prog w = .ok (.iface 125 (.agg #[.pointer (some ⟨8, 87, none⟩)])) w := by kernel_rfl
theorem noIsDisk (v : Value) (xT : TypeId) (w : World) : (Instr.typeAssert (.iface 87 v) xT 127 true).run Tryd.prog w = .ok (.tuple #[.nilIface, .bool false]) w := run_typeAssert_lacksB Tryd.underlying127 (by kernel_rfl) (by kernel_rfl) v xT w
theorem noAsDisk (v : Value) (xT : TypeId) (w : World) : (Instr.typeAssert (.iface 87 v) xT 137 true).run Tryd.prog w = .ok (.tuple #[.nilIface, .bool false]) w := run_typeAssert_lacksB Tryd.underlying137 (by kernel_rfl) (by kernel_rfl) v xT w
theorem noUnwrapsDisk (v : Value) (xT : TypeId) (w : World) : (Instr.typeAssert (.iface 87 v) xT 132 true).run Tryd.prog w = .ok (.tuple #[.nilIface, .bool false]) w := run_typeAssert_lacksB Tryd.underlying132 (by kernel_rfl) (by kernel_rfl) v xT w
theorem unwrapDisk (v : Value) (xT : TypeId) (w : World) : (Instr.typeAssert (.iface 87 v) xT 130 true).run Tryd.prog w = .ok (.tuple #[.iface 87 v, .bool true]) w := run_typeAssert_hasB Tryd.underlying130 (by kernel_rfl) v xT w
end Go.Proofs.YtgbakmmagkgolaaDoor
