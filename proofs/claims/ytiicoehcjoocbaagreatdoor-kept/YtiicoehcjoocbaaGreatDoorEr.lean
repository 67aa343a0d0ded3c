/- errors.Is and errors.As, by Go's own text, at the errors that the program makes: a named error, a disk's error round one, a table's error round either. What the program makes of its errors: faults. -/
import Derived.Test.YtiicoehcjoocbaaGreatDoorKa
import Derived.LaidEql
import Derived.Stop.Asserts
import Derived.RowKitTokens
namespace Go.Proofs.YtiicoehcjoocbaaGreatDoor
open Go.RowKit Go.Extern.Stop Go.Stop Go.Extern

/-- An error of the program: its named error's address; the column, the page that it bears. -/
inductive Chain (w : World) : Value → Addr → Option Int → Option Int → Prop
  | root (a : Addr) : Chain w (.iface 385 (.pointer (some a))) a none none
  | disk (b : Nat) (a : Addr) (p : Int) : w.cell? ⟨b, 0, none⟩ = some (.iface 385 (.pointer (some a))) → w.cell? ⟨b, 1, none⟩ = some (.int .i64 p) → Chain w (.iface 226 (.pointer (some ⟨b, 0, none⟩))) a none (some p)
  | tab (b : Nat) (a : Addr) (c : Int) : w.cell? ⟨b, 1, none⟩ = some (.int .i64 c) → w.cell? ⟨b, 2, none⟩ = some (.iface 385 (.pointer (some a))) → Chain w (.iface 174 (.pointer (some ⟨b, 0, none⟩))) a (some c) none
  | both (b d : Nat) (a : Addr) (c p : Int) : w.cell? ⟨b, 1, none⟩ = some (.int .i64 c) → w.cell? ⟨b, 2, none⟩ = some (.iface 226 (.pointer (some ⟨d, 0, none⟩))) → w.cell? ⟨d, 0, none⟩ = some (.iface 385 (.pointer (some a))) → w.cell? ⟨d, 1, none⟩ = some (.int .i64 p) →
      Chain w (.iface 174 (.pointer (some ⟨b, 0, none⟩))) a (some c) (some p)

theorem lt_of_heap {w : World} {k : Nat} {o : Obj} (h : w.heap[k]? = some o) : k < w.heap.size := by
  rcases Nat.lt_or_ge k w.heap.size with h' | h'
  · exact h'
  · simp [Array.getElem?_eq_none h'] at h
theorem cell_below {w w' : World} (hb : Below w.heap.size w w') {b o : Nat} {v : Value} (h : w.cell? ⟨b, o, none⟩ = some v) : w'.cell? ⟨b, o, none⟩ = some v := by
  rw [(below_keep hb).1 b o (lt_of_cell h)]; exact h
theorem Chain.below {w w' : World} {v : Value} {a : Addr} {c p : Option Int} (h : Chain w v a c p) (hb : Below w.heap.size w w') : Chain w' v a c p := by
  cases h with
  | root a => exact .root a
  | disk b a p h0 h1 => exact .disk b a p (cell_below hb h0) (cell_below hb h1)
  | tab b a c h1 h2 => exact .tab b a c (cell_below hb h1) (cell_below hb h2)
  | both b d a c p h1 h2 h3 h4 => exact .both b d a c p (cell_below hb h1) (cell_below hb h2) (cell_below hb h3) (cell_below hb h4)

def cmpM (args : Array Value) : Sem Value := Extern.ReflectliteType.method (fun t => do Go.Extern.Rtype.noPackHeld "Comparable" t; pure (.bool (← typeInfo t).comparable)) args
theorem isComparable (w : World) : (cmpM #[.agg #[.pointer (some ⟨11, 385, none⟩)]]).run Tryz.prog w = .ok (.bool true) w := by kernel_rfl
theorem run_cmpM (args : Array Value) (w : World) : (callFunc 293 args).run Tryz.prog w = ((cmpM args).run Tryz.prog w).andThen fun v w' => .ok (.value v) w' :=
  @run_callFunc_extern Tryz.prog 293 _ (Extern.ReflectliteType.method fun t => do Go.Extern.Rtype.noPackHeld "Comparable" t; pure (.bool (← typeInfo t).comparable)) Tryz.func293 (by kernel_rfl) (by kernel_rfl) (by kernel_rfl) (by kernel_rfl) args w
theorem isComp : (Tryz.prog.info? 385).map (·.comparable) = some true := by kernel_rfl
theorem isSize : (Tryz.prog.info? 404).map (·.size) = some 1 := by kernel_rfl
theorem isMethodComparable (v : Value) (w : World) : (Go.method 515 315 v "Comparable").run Tryz.prog w = .ok (293, v) w := by kernel_rfl
theorem mKind (h : Value) (w : World) : (Go.method 515 315 (.agg #[h]) "Kind").run Tryz.prog w = .ok (279, h) w := by kernel_rfl
theorem mElem (h : Value) (w : World) : (Go.method 515 315 (.agg #[h]) "Elem").run Tryz.prog w = .ok (294, .agg #[h]) w := by kernel_rfl
theorem mImplements (h : Value) (w : World) : (Go.method 515 315 (.agg #[h]) "Implements").run Tryz.prog w = .ok (295, .agg #[h]) w := by kernel_rfl
theorem mAssignable (h : Value) (w : World) : (Go.method 515 315 (.agg #[h]) "AssignableTo").run Tryz.prog w = .ok (292, .agg #[h]) w := by kernel_rfl
theorem typeOfRoot (v : Value) (w : World) : (ReflectliteType.typeOf #[.iface 385 v]).run Tryz.prog w = .ok (.iface 315 (.agg #[.pointer (some ⟨11, 385, none⟩)])) w := by kernel_rfl
theorem noIsRoot (v : Value) (xT : TypeId) (w : World) : (Instr.typeAssert (.iface 385 v) xT 317 true).run Tryz.prog w = .ok (.tuple #[.nilIface, .bool false]) w := run_typeAssert_lacksB Tryz.underlying317 (by kernel_rfl) (by kernel_rfl) v xT w
theorem noAsRoot (v : Value) (xT : TypeId) (w : World) : (Instr.typeAssert (.iface 385 v) xT 327 true).run Tryz.prog w = .ok (.tuple #[.nilIface, .bool false]) w := run_typeAssert_lacksB Tryz.underlying327 (by kernel_rfl) (by kernel_rfl) v xT w
theorem noUnwrapsRoot (v : Value) (xT : TypeId) (w : World) : (Instr.typeAssert (.iface 385 v) xT 322 true).run Tryz.prog w = .ok (.tuple #[.nilIface, .bool false]) w := run_typeAssert_lacksB Tryz.underlying322 (by kernel_rfl) (by kernel_rfl) v xT w
theorem unwrapRoot (v : Value) (xT : TypeId) (w : World) : (Instr.typeAssert (.iface 385 v) xT 320 true).run Tryz.prog w = .ok (.tuple #[.nilIface, .bool false]) w := run_typeAssert_lacksB Tryz.underlying320 (by kernel_rfl) (by kernel_rfl) v xT w

/-- What Go's own text asks of the type of an error that wraps another: no Is, no As; its Unwrap is the function un, which tells what lies at the place off. -/
structure IsW (ty off un : Nat) : Prop where
  ne : ty ≠ 385
  noIs : ∀ (v : Value) (xT : TypeId) (w : World), (Instr.typeAssert (.iface ty v) xT 317 true).run Tryz.prog w = .ok (.tuple #[.nilIface, .bool false]) w
  noAs : ∀ (v : Value) (xT : TypeId) (w : World), (Instr.typeAssert (.iface ty v) xT 327 true).run Tryz.prog w = .ok (.tuple #[.nilIface, .bool false]) w
  unwrap : ∀ (v : Value) (xT : TypeId) (w : World), (Instr.typeAssert (.iface ty v) xT 320 true).run Tryz.prog w = .ok (.tuple #[.iface ty v, .bool true]) w
  meth : ∀ (v : Value) (w : World), (Go.method 515 ty v "Unwrap").run Tryz.prog w = .ok (un, v) w
  enter : ∀ (args : Array Value) (w : World), (callFunc un args).run Tryz.prog w = .ok (.enter un args) w
  eql : ∀ (v u : Value) (w : World), (binOp .eql 100 (.iface ty v) (.iface 385 u)).run Tryz.prog w = .ok (.bool false) w
  typ : ∀ (v : Value) (w : World), (ReflectliteType.typeOf #[.iface ty v]).run Tryz.prog w = .ok (.iface 315 (.agg #[.pointer (some ⟨11, ty, none⟩)])) w
  walk : ∀ (b : Nat) (v : Value) (w : World), w.cell? ⟨b, off, none⟩ = some v → Calls Tryz.prog un #[.pointer (some ⟨b, 0, none⟩)] w fun e w' => e = .returned v ∧ w' = w

set_option maxHeartbeats 400000 in
theorem isW_tab : IsW 174 2 283 where
  ne := by decide
  noIs := fun v xT w => run_typeAssert_lacksB Tryz.underlying317 (by kernel_rfl) (by kernel_rfl) v xT w
  noAs := fun v xT w => run_typeAssert_lacksB Tryz.underlying327 (by kernel_rfl) (by kernel_rfl) v xT w
  unwrap := fun v xT w => run_typeAssert_hasB Tryz.underlying320 (by kernel_rfl) v xT w
  meth := fun v w => by kernel_rfl
  enter := fun args w => by kernel_rfl
  eql := fun v u w => run_eql_iface_types 174 385 v u Tryz.underlying100 (by decide) w
  typ := fun v w => by kernel_rfl
  walk := fun b v w h => by
    go_enter Tryz.func283, Tryz.ntmps283
    go_wp2
    go_ret
    exact ⟨rfl, rfl⟩

set_option maxHeartbeats 400000 in
theorem isW_disk : IsW 226 0 287 where
  ne := by decide
  noIs := fun v xT w => run_typeAssert_lacksB Tryz.underlying317 (by kernel_rfl) (by kernel_rfl) v xT w
  noAs := fun v xT w => run_typeAssert_lacksB Tryz.underlying327 (by kernel_rfl) (by kernel_rfl) v xT w
  unwrap := fun v xT w => run_typeAssert_hasB Tryz.underlying320 (by kernel_rfl) v xT w
  meth := fun v w => by kernel_rfl
  enter := fun args w => by kernel_rfl
  eql := fun v u w => run_eql_iface_types 226 385 v u Tryz.underlying100 (by decide) w
  typ := fun v w => by kernel_rfl
  walk := fun b v w h => by
    go_enter Tryz.func287, Tryz.ntmps287
    go_wp2
    go_ret
    exact ⟨rfl, rfl⟩

set_option maxHeartbeats 400000 in
theorem isW_plan : IsW 220 1 285 where
  ne := by decide
  noIs := fun v xT w => run_typeAssert_lacksB Tryz.underlying317 (by kernel_rfl) (by kernel_rfl) v xT w
  noAs := fun v xT w => run_typeAssert_lacksB Tryz.underlying327 (by kernel_rfl) (by kernel_rfl) v xT w
  unwrap := fun v xT w => run_typeAssert_hasB Tryz.underlying320 (by kernel_rfl) v xT w
  meth := fun v w => by kernel_rfl
  enter := fun args w => by kernel_rfl
  eql := fun v u w => run_eql_iface_types 220 385 v u Tryz.underlying100 (by decide) w
  typ := fun v w => by kernel_rfl
  walk := fun b v w h => by
    go_enter Tryz.func285, Tryz.ntmps285
    go_wp2
    go_ret
    exact ⟨rfl, rfl⟩

/-- An error of so many wrappings, with a named error at its root. -/
inductive ChainR (w : World) : Nat → Value → Addr → Prop
  | root (a : Addr) : ChainR w 0 (.iface 385 (.pointer (some a))) a
  | wrap (n ty off un b : Nat) (v : Value) (a : Addr) : IsW ty off un → w.cell? ⟨b, off, none⟩ = some v → ChainR w n v a → ChainR w (n + 1) (.iface ty (.pointer (some ⟨b, 0, none⟩))) a

/-- Whether one type of pointers can stand where another is asked for. -/
def Asg (ty tg : Nat) (r : Bool) : Prop := ∀ w : World, (ReflectliteType.relation "AssignableTo" ReflectliteType.assignableTo #[.agg #[.pointer (some ⟨11, ty, none⟩)], .iface 315 (.agg #[.pointer (some ⟨11, tg, none⟩)])]).run Tryz.prog w = .ok (.bool r) w

/-- An error of so many wrappings, and the number at the place off of the first one among them of the type tg, if there is one. -/
inductive ChainT (w : World) (tg off : Nat) : Nat → Value → Option Int → Prop
  | root (a : Addr) : ChainT w tg off 0 (.iface 385 (.pointer (some a))) none
  | hit (b : Nat) (y : Int) : w.cell? ⟨b, off, none⟩ = some (.int .i64 y) → ChainT w tg off 0 (.iface tg (.pointer (some ⟨b, 0, none⟩))) (some y)
  | miss (n ty o un b : Nat) (v : Value) (x : Option Int) : IsW ty o un → Asg ty tg false → w.cell? ⟨b, o, none⟩ = some v → ChainT w tg off n v x → ChainT w tg off (n + 1) (.iface ty (.pointer (some ⟨b, 0, none⟩))) x

theorem ChainR.stay {w w' : World} {n : Nat} {v : Value} {a : Addr} (h : ChainR w n v a) (hb : Below w.heap.size w w') : ChainR w' n v a := by
  induction h with
  | root a => exact .root a
  | wrap n ty off un b v a hw hc _ ih => exact .wrap n ty off un b v a hw (cell_below hb hc) ih
theorem ChainT.stay {w w' : World} {tg off n : Nat} {v : Value} {x : Option Int} (h : ChainT w tg off n v x) (hb : Below w.heap.size w w') : ChainT w' tg off n v x := by
  induction h with
  | root a => exact .root a
  | hit b y hc => exact .hit b y (cell_below hb hc)
  | miss n ty o un b v x hw ha hc _ ih => exact .miss n ty o un b v x hw ha (cell_below hb hc) ih
theorem ChainR.iface {w : World} {n : Nat} {v : Value} {a : Addr} (h : ChainR w n v a) : ∃ ty x, v = .iface ty x := by cases h <;> exact ⟨_, _, rfl⟩
theorem ChainT.iface {w : World} {tg off n : Nat} {v : Value} {x : Option Int} (h : ChainT w tg off n v x) : ∃ ty x, v = .iface ty x := by cases h <;> exact ⟨_, _, rfl⟩

theorem asgTabDisk : Asg 174 226 false := fun w => by kernel_rfl
theorem asgDiskTab : Asg 226 174 false := fun w => by kernel_rfl
theorem asgTabPlan : Asg 174 220 false := fun w => by kernel_rfl
theorem asgDiskPlan : Asg 226 220 false := fun w => by kernel_rfl
theorem asgPlanTab : Asg 220 174 false := fun w => by kernel_rfl
theorem asgPlanDisk : Asg 220 226 false := fun w => by kernel_rfl

/-- What a fault asks of an error: its named error, its node, its column, its page. -/
structure ErrV (w : World) (v : Value) (a : Addr) (n c p : Option Int) : Prop where
  r : ∃ k, k ≤ 4 ∧ ChainR w k v a
  n : ∃ k, k ≤ 4 ∧ ChainT w 220 0 k v n
  c : ∃ k, k ≤ 4 ∧ ChainT w 174 1 k v c
  p : ∃ k, k ≤ 4 ∧ ChainT w 226 1 k v p
theorem ErrV.below {w w' : World} {v : Value} {a : Addr} {n c p : Option Int} (h : ErrV w v a n c p) (hb : Below w.heap.size w w') : ErrV w' v a n c p := by
  obtain ⟨⟨k1, l1, h1⟩, ⟨k2, l2, h2⟩, ⟨k3, l3, h3⟩, ⟨k4, l4, h4⟩⟩ := h
  exact ⟨⟨k1, l1, h1.stay hb⟩, ⟨k2, l2, h2.stay hb⟩, ⟨k3, l3, h3.stay hb⟩, ⟨k4, l4, h4.stay hb⟩⟩
theorem ErrV.iface {w : World} {v : Value} {a : Addr} {n c p : Option Int} (h : ErrV w v a n c p) : ∃ ty x, v = .iface ty x := by
  obtain ⟨_, _, hr⟩ := h.r
  exact hr.iface
theorem Chain.errV {w : World} {v : Value} {a : Addr} {c p : Option Int} (h : Chain w v a c p) : ErrV w v a none c p := by
  cases h with
  | root a => exact ⟨⟨0, by omega, .root a⟩, ⟨0, by omega, .root a⟩, ⟨0, by omega, .root a⟩, ⟨0, by omega, .root a⟩⟩
  | disk b a p h0 h1 => exact ⟨⟨1, by omega, .wrap _ _ _ _ _ _ _ isW_disk h0 (.root a)⟩, ⟨1, by omega, .miss _ _ _ _ _ _ _ isW_disk asgDiskPlan h0 (.root a)⟩, ⟨1, by omega, .miss _ _ _ _ _ _ _ isW_disk asgDiskTab h0 (.root a)⟩, ⟨0, by omega, .hit _ _ h1⟩⟩
  | tab b a c h1 h2 => exact ⟨⟨1, by omega, .wrap _ _ _ _ _ _ _ isW_tab h2 (.root a)⟩, ⟨1, by omega, .miss _ _ _ _ _ _ _ isW_tab asgTabPlan h2 (.root a)⟩, ⟨0, by omega, .hit _ _ h1⟩, ⟨1, by omega, .miss _ _ _ _ _ _ _ isW_tab asgTabDisk h2 (.root a)⟩⟩
  | both b d a c p h1 h2 h3 h4 => exact ⟨⟨2, by omega, .wrap _ _ _ _ _ _ _ isW_tab h2 (.wrap _ _ _ _ _ _ _ isW_disk h3 (.root a))⟩, ⟨2, by omega, .miss _ _ _ _ _ _ _ isW_tab asgTabPlan h2 (.miss _ _ _ _ _ _ _ isW_disk asgDiskPlan h3 (.root a))⟩, ⟨0, by omega, .hit _ _ h1⟩, ⟨1, by omega, .miss _ _ _ _ _ _ _ isW_tab asgTabDisk h2 (.hit _ _ h4)⟩⟩

/-- The least number up to 4 that fits. -/
noncomputable def dep (P : Nat → Prop) : Nat := by
  classical
  exact if P 0 then 0 else if P 1 then 1 else if P 2 then 2 else if P 3 then 3 else 4
theorem dep_le {P : Nat → Prop} {n : Nat} (h : P n) (hn : n ≤ 4) : dep P ≤ n := by
  simp only [dep]
  match n, hn with
  | 0, _ => simp [h]
  | 1, _ => (repeat' split) <;> first | omega | (exfalso; contradiction)
  | 2, _ => (repeat' split) <;> first | omega | (exfalso; contradiction)
  | 3, _ => (repeat' split) <;> first | omega | (exfalso; contradiction)
  | 4, _ => (repeat' split) <;> omega
theorem dep_fits {P : Nat → Prop} (h : ∃ n, n ≤ 4 ∧ P n) : P (dep P) := by
  simp only [dep]
  (repeat' split) <;> try assumption
  obtain ⟨n, hn, h⟩ := h
  match n, hn with
  | 0, _ => contradiction
  | 1, _ => contradiction
  | 2, _ => contradiction
  | 3, _ => contradiction
  | 4, _ => exact h
theorem dep_at {P : Nat → Prop} (h : ∃ n, n ≤ 4 ∧ P n) : ∃ n, n ≤ 4 ∧ P n ∧ Hid (dep P = n) := by
  obtain ⟨n, hn, hp⟩ := h
  exact ⟨dep P, Nat.le_trans (dep_le hp hn) hn, dep_fits ⟨n, hn, hp⟩, rfl⟩
end Go.Proofs.YtiicoehcjoocbaaGreatDoor
