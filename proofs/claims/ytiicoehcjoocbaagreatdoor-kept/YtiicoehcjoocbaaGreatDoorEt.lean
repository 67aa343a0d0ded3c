/- errors.As at the errors that the program makes, at its targets: closed facts on what Go's own text asks of types. -/
import Derived.Test.YtiicoehcjoocbaaGreatDoorEr
namespace Go.Proofs.YtiicoehcjoocbaaGreatDoor
open Go.RowKit Go.Extern.Stop Go.Stop Go.Extern

theorem rlm (z : Sem Value) (f : TypeId → Addr → Nat → Nat → Sem Value) (v : Value) :
    ReflectliteValue.method z f #[v] = (do match ← ReflectliteValue.parts v with | none => z | some (t, a, fl) => f t a fl (fl % 32)) := rfl
theorem rls (v x : Value) : ReflectliteValue.set #[v, x] = (do
    let (some (dst, a, fl), some (src, b, _)) := (← ReflectliteValue.parts v, ← ReflectliteValue.parts x)
      | unsupported (.noEntry "extern/(internal/reflectlite.Value).Set.zeroValue")
    if fl / ReflectliteValue.flagAddr % 2 == 0 then unsupported (.noEntry "extern/(internal/reflectlite.Value).Set.unaddressable")
    let val ← loadVar src b
    if ← Rtype.directlyAssignable dst src then storeVar dst a val
    else if ← Rtype.implements dst src then
      if (← Rtype.kind src) == 20 then
        match val with
        | .nilIface => unsupported (.noEntry "extern/reflectlite: a nil value of one interface type handed on as a value of another")
        | _ => storeVar dst a val
      else storeVar dst a (.iface src val)
    else panicString ("reflectlite.Set: value of type " ++ (← Rtype.spelt src) ++ " is not assignable to type " ++ (← Rtype.spelt dst))
    pure (.tuple #[])) := rfl

theorem valueOfPTab (t : Addr) (w : World) : (ReflectliteValue.unpack (.iface 225 (.pointer (some t)))).run Tryz.prog w
    = .ok (.agg #[.pointer (some ⟨11, 225, none⟩), .pointer (some ⟨w.heap.size, 0, none⟩), .int .u64 150]) (w.alloc (.cells #[.pointer (some t)] 225)) := by kernel_rfl
theorem typePTab (a : Addr) (w : World) : (ReflectliteValue.methodAny (ReflectliteValue.valueError "reflectlite.Value.Type" 0) (fun t _ _ _ => ReflectliteType.toType t) #[.agg #[.pointer (some ⟨11, 225, none⟩), .pointer (some a), .int .u64 150]]).run Tryz.prog w
    = .ok (.iface 315 (.agg #[.pointer (some ⟨11, 225, none⟩)])) w := by kernel_rfl
theorem kindPTab (w : World) : ((ReflectliteType.abiMethod fun t => (fun a : Nat => Value.int IntKind.u8 (a : Int)) <$> Rtype.kind t) #[.pointer (some ⟨11, 225, none⟩)]).run Tryz.prog w = .ok (.int .u8 22) w := by kernel_rfl
theorem kindTab (w : World) : ((ReflectliteType.abiMethod fun t => (fun a : Nat => Value.int IntKind.u8 (a : Int)) <$> Rtype.kind t) #[.pointer (some ⟨11, 174, none⟩)]).run Tryz.prog w = .ok (.int .u8 22) w := by kernel_rfl
theorem partsPTab (a : Addr) (w : World) : (ReflectliteValue.parts (.agg #[.pointer (some ⟨11, 225, none⟩), .pointer (some a), .int .u64 150])).run Tryz.prog w = .ok (some (225, a, 150)) w := by kernel_rfl
theorem isNilPTab (a p : Addr) (W : World) (ha : W.cell? a = some (.pointer (some p))) :
    (ReflectliteValue.method (ReflectliteValue.valueError "reflectlite.Value.IsNil" 0) ReflectliteValue.isNil #[.agg #[.pointer (some ⟨11, 225, none⟩), .pointer (some a), .int .u64 150]]).run Tryz.prog W = .ok (.bool false) W := by
  rw [rlm]
  simp only [Sem.run_bind, partsPTab, Result.andThen]
  simp [ReflectliteValue.isNil, loadVar, isAgg, underlying, Tryz.underlying225, ha, Result.andThen]
theorem elemPTab (w : World) : (ReflectliteType.method ReflectliteType.elem #[.agg #[.pointer (some ⟨11, 225, none⟩)]]).run Tryz.prog w = .ok (.iface 315 (.agg #[.pointer (some ⟨11, 174, none⟩)])) w := by kernel_rfl
theorem implementsTab (w : World) : (ReflectliteType.relation "Implements" ReflectliteType.implements_ #[.agg #[.pointer (some ⟨11, 174, none⟩)], .iface 315 (.agg #[.pointer (some ⟨11, 100, none⟩)])]).run Tryz.prog w = .ok (.bool true) w := by kernel_rfl
theorem valueOfTab (e : Addr) (w : World) : (ReflectliteValue.unpack (.iface 174 (.pointer (some e)))).run Tryz.prog w
    = .ok (.agg #[.pointer (some ⟨11, 174, none⟩), .pointer (some ⟨w.heap.size, 0, none⟩), .int .u64 150]) (w.alloc (.cells #[.pointer (some e)] 174)) := by kernel_rfl
theorem elemOfTab (w : World) : (Rtype.elem? 225).run Tryz.prog w = .ok (some 174) w := by kernel_rfl
theorem mkTab (p : Addr) (w : World) : (ReflectliteValue.mk 174 p ReflectliteValue.flagAddr).run Tryz.prog w = .ok (.agg #[.pointer (some ⟨11, 174, none⟩), .pointer (some p), .int .u64 406]) w := by kernel_rfl
theorem elemVTab (a p : Addr) (W : World) (ha : W.cell? a = some (.pointer (some p))) :
    (ReflectliteValue.method (ReflectliteValue.valueError "reflectlite.Value.Elem" 0) ReflectliteValue.elem #[.agg #[.pointer (some ⟨11, 225, none⟩), .pointer (some a), .int .u64 150]]).run Tryz.prog W
      = .ok (.agg #[.pointer (some ⟨11, 174, none⟩), .pointer (some p), .int .u64 406]) W := by
  rw [rlm]
  simp only [Sem.run_bind, partsPTab, Result.andThen]
  simp [ReflectliteValue.elem, loadVar, isAgg, underlying, Tryz.underlying225, ha, Result.andThen, elemOfTab, mkTab]
theorem partsATab (a : Addr) (w : World) : (ReflectliteValue.parts (.agg #[.pointer (some ⟨11, 174, none⟩), .pointer (some a), .int .u64 406])).run Tryz.prog w = .ok (some (174, a, 406)) w := by kernel_rfl
theorem partsTab (a : Addr) (w : World) : (ReflectliteValue.parts (.agg #[.pointer (some ⟨11, 174, none⟩), .pointer (some a), .int .u64 150])).run Tryz.prog w = .ok (some (174, a, 150)) w := by kernel_rfl
theorem directTab (w : World) : (Rtype.directlyAssignable 174 174).run Tryz.prog w = .ok true w := by kernel_rfl
theorem setTab (ta b e : Addr) (old : Value) (W : World) (hb : W.cell? b = some (.pointer (some e))) (ht : W.cell? ta = some old) (hf : W.frozen? ta = false) :
    (ReflectliteValue.set #[.agg #[.pointer (some ⟨11, 174, none⟩), .pointer (some ta), .int .u64 406], .agg #[.pointer (some ⟨11, 174, none⟩), .pointer (some b), .int .u64 150]]).run Tryz.prog W
      = .ok (.tuple #[]) (W.setCell ta (.pointer (some e))) := by
  rw [rls]
  simp only [Sem.run_bind, partsATab, partsTab, Result.andThen]
  simp [ReflectliteValue.flagAddr, loadVar, isAgg, underlying, Tryz.underlying174, hb, Result.andThen, directTab, storeVar, Value.cells, storeCells, Addr.add]
  rw [run_store Tryz.prog W ta _ _ (by rfl)]
  simp [ht, hf]

theorem valueOfPDisk (t : Addr) (w : World) : (ReflectliteValue.unpack (.iface 227 (.pointer (some t)))).run Tryz.prog w
    = .ok (.agg #[.pointer (some ⟨11, 227, none⟩), .pointer (some ⟨w.heap.size, 0, none⟩), .int .u64 150]) (w.alloc (.cells #[.pointer (some t)] 227)) := by kernel_rfl
theorem typePDisk (a : Addr) (w : World) : (ReflectliteValue.methodAny (ReflectliteValue.valueError "reflectlite.Value.Type" 0) (fun t _ _ _ => ReflectliteType.toType t) #[.agg #[.pointer (some ⟨11, 227, none⟩), .pointer (some a), .int .u64 150]]).run Tryz.prog w
    = .ok (.iface 315 (.agg #[.pointer (some ⟨11, 227, none⟩)])) w := by kernel_rfl
theorem kindPDisk (w : World) : ((ReflectliteType.abiMethod fun t => (fun a : Nat => Value.int IntKind.u8 (a : Int)) <$> Rtype.kind t) #[.pointer (some ⟨11, 227, none⟩)]).run Tryz.prog w = .ok (.int .u8 22) w := by kernel_rfl
theorem kindDisk (w : World) : ((ReflectliteType.abiMethod fun t => (fun a : Nat => Value.int IntKind.u8 (a : Int)) <$> Rtype.kind t) #[.pointer (some ⟨11, 226, none⟩)]).run Tryz.prog w = .ok (.int .u8 22) w := by kernel_rfl
theorem partsPDisk (a : Addr) (w : World) : (ReflectliteValue.parts (.agg #[.pointer (some ⟨11, 227, none⟩), .pointer (some a), .int .u64 150])).run Tryz.prog w = .ok (some (227, a, 150)) w := by kernel_rfl
theorem isNilPDisk (a p : Addr) (W : World) (ha : W.cell? a = some (.pointer (some p))) :
    (ReflectliteValue.method (ReflectliteValue.valueError "reflectlite.Value.IsNil" 0) ReflectliteValue.isNil #[.agg #[.pointer (some ⟨11, 227, none⟩), .pointer (some a), .int .u64 150]]).run Tryz.prog W = .ok (.bool false) W := by
  rw [rlm]
  simp only [Sem.run_bind, partsPDisk, Result.andThen]
  simp [ReflectliteValue.isNil, loadVar, isAgg, underlying, Tryz.underlying227, ha, Result.andThen]
theorem elemPDisk (w : World) : (ReflectliteType.method ReflectliteType.elem #[.agg #[.pointer (some ⟨11, 227, none⟩)]]).run Tryz.prog w = .ok (.iface 315 (.agg #[.pointer (some ⟨11, 226, none⟩)])) w := by kernel_rfl
theorem implementsDisk (w : World) : (ReflectliteType.relation "Implements" ReflectliteType.implements_ #[.agg #[.pointer (some ⟨11, 226, none⟩)], .iface 315 (.agg #[.pointer (some ⟨11, 100, none⟩)])]).run Tryz.prog w = .ok (.bool true) w := by kernel_rfl
theorem valueOfDisk (e : Addr) (w : World) : (ReflectliteValue.unpack (.iface 226 (.pointer (some e)))).run Tryz.prog w
    = .ok (.agg #[.pointer (some ⟨11, 226, none⟩), .pointer (some ⟨w.heap.size, 0, none⟩), .int .u64 150]) (w.alloc (.cells #[.pointer (some e)] 226)) := by kernel_rfl
theorem elemOfDisk (w : World) : (Rtype.elem? 227).run Tryz.prog w = .ok (some 226) w := by kernel_rfl
theorem mkDisk (p : Addr) (w : World) : (ReflectliteValue.mk 226 p ReflectliteValue.flagAddr).run Tryz.prog w = .ok (.agg #[.pointer (some ⟨11, 226, none⟩), .pointer (some p), .int .u64 406]) w := by kernel_rfl
theorem elemVDisk (a p : Addr) (W : World) (ha : W.cell? a = some (.pointer (some p))) :
    (ReflectliteValue.method (ReflectliteValue.valueError "reflectlite.Value.Elem" 0) ReflectliteValue.elem #[.agg #[.pointer (some ⟨11, 227, none⟩), .pointer (some a), .int .u64 150]]).run Tryz.prog W
      = .ok (.agg #[.pointer (some ⟨11, 226, none⟩), .pointer (some p), .int .u64 406]) W := by
  rw [rlm]
  simp only [Sem.run_bind, partsPDisk, Result.andThen]
  simp [ReflectliteValue.elem, loadVar, isAgg, underlying, Tryz.underlying227, ha, Result.andThen, elemOfDisk, mkDisk]
theorem partsADisk (a : Addr) (w : World) : (ReflectliteValue.parts (.agg #[.pointer (some ⟨11, 226, none⟩), .pointer (some a), .int .u64 406])).run Tryz.prog w = .ok (some (226, a, 406)) w := by kernel_rfl
theorem partsDisk (a : Addr) (w : World) : (ReflectliteValue.parts (.agg #[.pointer (some ⟨11, 226, none⟩), .pointer (some a), .int .u64 150])).run Tryz.prog w = .ok (some (226, a, 150)) w := by kernel_rfl
theorem directDisk (w : World) : (Rtype.directlyAssignable 226 226).run Tryz.prog w = .ok true w := by kernel_rfl
theorem setDisk (ta b e : Addr) (old : Value) (W : World) (hb : W.cell? b = some (.pointer (some e))) (ht : W.cell? ta = some old) (hf : W.frozen? ta = false) :
    (ReflectliteValue.set #[.agg #[.pointer (some ⟨11, 226, none⟩), .pointer (some ta), .int .u64 406], .agg #[.pointer (some ⟨11, 226, none⟩), .pointer (some b), .int .u64 150]]).run Tryz.prog W
      = .ok (.tuple #[]) (W.setCell ta (.pointer (some e))) := by
  rw [rls]
  simp only [Sem.run_bind, partsADisk, partsDisk, Result.andThen]
  simp [ReflectliteValue.flagAddr, loadVar, isAgg, underlying, Tryz.underlying226, hb, Result.andThen, directDisk, storeVar, Value.cells, storeCells, Addr.add]
  rw [run_store Tryz.prog W ta _ _ (by rfl)]
  simp [ht, hf]

theorem valueOfPPlan (t : Addr) (w : World) : (ReflectliteValue.unpack (.iface 222 (.pointer (some t)))).run Tryz.prog w
    = .ok (.agg #[.pointer (some ⟨11, 222, none⟩), .pointer (some ⟨w.heap.size, 0, none⟩), .int .u64 150]) (w.alloc (.cells #[.pointer (some t)] 222)) := by kernel_rfl
theorem typePPlan (a : Addr) (w : World) : (ReflectliteValue.methodAny (ReflectliteValue.valueError "reflectlite.Value.Type" 0) (fun t _ _ _ => ReflectliteType.toType t) #[.agg #[.pointer (some ⟨11, 222, none⟩), .pointer (some a), .int .u64 150]]).run Tryz.prog w
    = .ok (.iface 315 (.agg #[.pointer (some ⟨11, 222, none⟩)])) w := by kernel_rfl
theorem kindPPlan (w : World) : ((ReflectliteType.abiMethod fun t => (fun a : Nat => Value.int IntKind.u8 (a : Int)) <$> Rtype.kind t) #[.pointer (some ⟨11, 222, none⟩)]).run Tryz.prog w = .ok (.int .u8 22) w := by kernel_rfl
theorem kindPlan (w : World) : ((ReflectliteType.abiMethod fun t => (fun a : Nat => Value.int IntKind.u8 (a : Int)) <$> Rtype.kind t) #[.pointer (some ⟨11, 220, none⟩)]).run Tryz.prog w = .ok (.int .u8 22) w := by kernel_rfl
theorem partsPPlan (a : Addr) (w : World) : (ReflectliteValue.parts (.agg #[.pointer (some ⟨11, 222, none⟩), .pointer (some a), .int .u64 150])).run Tryz.prog w = .ok (some (222, a, 150)) w := by kernel_rfl
theorem isNilPPlan (a p : Addr) (W : World) (ha : W.cell? a = some (.pointer (some p))) :
    (ReflectliteValue.method (ReflectliteValue.valueError "reflectlite.Value.IsNil" 0) ReflectliteValue.isNil #[.agg #[.pointer (some ⟨11, 222, none⟩), .pointer (some a), .int .u64 150]]).run Tryz.prog W = .ok (.bool false) W := by
  rw [rlm]
  simp only [Sem.run_bind, partsPPlan, Result.andThen]
  simp [ReflectliteValue.isNil, loadVar, isAgg, underlying, Tryz.underlying222, ha, Result.andThen]
theorem elemPPlan (w : World) : (ReflectliteType.method ReflectliteType.elem #[.agg #[.pointer (some ⟨11, 222, none⟩)]]).run Tryz.prog w = .ok (.iface 315 (.agg #[.pointer (some ⟨11, 220, none⟩)])) w := by kernel_rfl
theorem implementsPlan (w : World) : (ReflectliteType.relation "Implements" ReflectliteType.implements_ #[.agg #[.pointer (some ⟨11, 220, none⟩)], .iface 315 (.agg #[.pointer (some ⟨11, 100, none⟩)])]).run Tryz.prog w = .ok (.bool true) w := by kernel_rfl
theorem valueOfPlan (e : Addr) (w : World) : (ReflectliteValue.unpack (.iface 220 (.pointer (some e)))).run Tryz.prog w
    = .ok (.agg #[.pointer (some ⟨11, 220, none⟩), .pointer (some ⟨w.heap.size, 0, none⟩), .int .u64 150]) (w.alloc (.cells #[.pointer (some e)] 220)) := by kernel_rfl
theorem elemOfPlan (w : World) : (Rtype.elem? 222).run Tryz.prog w = .ok (some 220) w := by kernel_rfl
theorem mkPlan (p : Addr) (w : World) : (ReflectliteValue.mk 220 p ReflectliteValue.flagAddr).run Tryz.prog w = .ok (.agg #[.pointer (some ⟨11, 220, none⟩), .pointer (some p), .int .u64 406]) w := by kernel_rfl
theorem elemVPlan (a p : Addr) (W : World) (ha : W.cell? a = some (.pointer (some p))) :
    (ReflectliteValue.method (ReflectliteValue.valueError "reflectlite.Value.Elem" 0) ReflectliteValue.elem #[.agg #[.pointer (some ⟨11, 222, none⟩), .pointer (some a), .int .u64 150]]).run Tryz.prog W
      = .ok (.agg #[.pointer (some ⟨11, 220, none⟩), .pointer (some p), .int .u64 406]) W := by
  rw [rlm]
  simp only [Sem.run_bind, partsPPlan, Result.andThen]
  simp [ReflectliteValue.elem, loadVar, isAgg, underlying, Tryz.underlying222, ha, Result.andThen, elemOfPlan, mkPlan]
theorem partsAPlan (a : Addr) (w : World) : (ReflectliteValue.parts (.agg #[.pointer (some ⟨11, 220, none⟩), .pointer (some a), .int .u64 406])).run Tryz.prog w = .ok (some (220, a, 406)) w := by kernel_rfl
theorem partsPlan (a : Addr) (w : World) : (ReflectliteValue.parts (.agg #[.pointer (some ⟨11, 220, none⟩), .pointer (some a), .int .u64 150])).run Tryz.prog w = .ok (some (220, a, 150)) w := by kernel_rfl
theorem directPlan (w : World) : (Rtype.directlyAssignable 220 220).run Tryz.prog w = .ok true w := by kernel_rfl
theorem setPlan (ta b e : Addr) (old : Value) (W : World) (hb : W.cell? b = some (.pointer (some e))) (ht : W.cell? ta = some old) (hf : W.frozen? ta = false) :
    (ReflectliteValue.set #[.agg #[.pointer (some ⟨11, 220, none⟩), .pointer (some ta), .int .u64 406], .agg #[.pointer (some ⟨11, 220, none⟩), .pointer (some b), .int .u64 150]]).run Tryz.prog W
      = .ok (.tuple #[]) (W.setCell ta (.pointer (some e))) := by
  rw [rls]
  simp only [Sem.run_bind, partsAPlan, partsPlan, Result.andThen]
  simp [ReflectliteValue.flagAddr, loadVar, isAgg, underlying, Tryz.underlying220, hb, Result.andThen, directPlan, storeVar, Value.cells, storeCells, Addr.add]
  rw [run_store Tryz.prog W ta _ _ (by rfl)]
  simp [ht, hf]

/-- What Go's own text asks of the type that errors.As is asked for: a pointer to pointers of it is handed in. -/
structure IsT (tg pt : Nat) : Prop where
  vP : ∀ (t : Addr) (w : World), (ReflectliteValue.unpack (.iface pt (.pointer (some t)))).run Tryz.prog w = .ok (.agg #[.pointer (some ⟨11, pt, none⟩), .pointer (some ⟨w.heap.size, 0, none⟩), .int .u64 150]) (w.alloc (.cells #[.pointer (some t)] pt))
  tyP : ∀ (a : Addr) (w : World), (ReflectliteValue.methodAny (ReflectliteValue.valueError "reflectlite.Value.Type" 0) (fun t _ _ _ => ReflectliteType.toType t) #[.agg #[.pointer (some ⟨11, pt, none⟩), .pointer (some a), .int .u64 150]]).run Tryz.prog w = .ok (.iface 315 (.agg #[.pointer (some ⟨11, pt, none⟩)])) w
  kP : ∀ w : World, ((ReflectliteType.abiMethod fun t => (fun a : Nat => Value.int IntKind.u8 (a : Int)) <$> Rtype.kind t) #[.pointer (some ⟨11, pt, none⟩)]).run Tryz.prog w = .ok (.int .u8 22) w
  kT : ∀ w : World, ((ReflectliteType.abiMethod fun t => (fun a : Nat => Value.int IntKind.u8 (a : Int)) <$> Rtype.kind t) #[.pointer (some ⟨11, tg, none⟩)]).run Tryz.prog w = .ok (.int .u8 22) w
  nilP : ∀ (a p : Addr) (W : World), W.cell? a = some (.pointer (some p)) → (ReflectliteValue.method (ReflectliteValue.valueError "reflectlite.Value.IsNil" 0) ReflectliteValue.isNil #[.agg #[.pointer (some ⟨11, pt, none⟩), .pointer (some a), .int .u64 150]]).run Tryz.prog W = .ok (.bool false) W
  elP : ∀ w : World, (ReflectliteType.method ReflectliteType.elem #[.agg #[.pointer (some ⟨11, pt, none⟩)]]).run Tryz.prog w = .ok (.iface 315 (.agg #[.pointer (some ⟨11, tg, none⟩)])) w
  imp : ∀ w : World, (ReflectliteType.relation "Implements" ReflectliteType.implements_ #[.agg #[.pointer (some ⟨11, tg, none⟩)], .iface 315 (.agg #[.pointer (some ⟨11, 100, none⟩)])]).run Tryz.prog w = .ok (.bool true) w
  vT : ∀ (e : Addr) (w : World), (ReflectliteValue.unpack (.iface tg (.pointer (some e)))).run Tryz.prog w = .ok (.agg #[.pointer (some ⟨11, tg, none⟩), .pointer (some ⟨w.heap.size, 0, none⟩), .int .u64 150]) (w.alloc (.cells #[.pointer (some e)] tg))
  eV : ∀ (a p : Addr) (W : World), W.cell? a = some (.pointer (some p)) → (ReflectliteValue.method (ReflectliteValue.valueError "reflectlite.Value.Elem" 0) ReflectliteValue.elem #[.agg #[.pointer (some ⟨11, pt, none⟩), .pointer (some a), .int .u64 150]]).run Tryz.prog W = .ok (.agg #[.pointer (some ⟨11, tg, none⟩), .pointer (some p), .int .u64 406]) W
  st : ∀ (ta b e : Addr) (old : Value) (W : World), W.cell? b = some (.pointer (some e)) → W.cell? ta = some old → W.frozen? ta = false → (ReflectliteValue.set #[.agg #[.pointer (some ⟨11, tg, none⟩), .pointer (some ta), .int .u64 406], .agg #[.pointer (some ⟨11, tg, none⟩), .pointer (some b), .int .u64 150]]).run Tryz.prog W = .ok (.tuple #[]) (W.setCell ta (.pointer (some e)))
  typ : ∀ (v : Value) (w : World), (ReflectliteType.typeOf #[.iface tg v]).run Tryz.prog w = .ok (.iface 315 (.agg #[.pointer (some ⟨11, tg, none⟩)])) w
  self : Asg tg tg true
  root : Asg 385 tg false
theorem isT_tab : IsT 174 225 :=
  ⟨valueOfPTab, typePTab, kindPTab, kindTab, isNilPTab, elemPTab, implementsTab, valueOfTab, elemVTab, setTab, isW_tab.typ, fun w => by kernel_rfl, fun w => by kernel_rfl⟩
theorem isT_disk : IsT 226 227 :=
  ⟨valueOfPDisk, typePDisk, kindPDisk, kindDisk, isNilPDisk, elemPDisk, implementsDisk, valueOfDisk, elemVDisk, setDisk, isW_disk.typ, fun w => by kernel_rfl, fun w => by kernel_rfl⟩
theorem isT_plan : IsT 220 222 :=
  ⟨valueOfPPlan, typePPlan, kindPPlan, kindPlan, isNilPPlan, elemPPlan, implementsPlan, valueOfPlan, elemVPlan, setPlan, isW_plan.typ, fun w => by kernel_rfl, fun w => by kernel_rfl⟩
end Go.Proofs.YtiicoehcjoocbaaGreatDoor
