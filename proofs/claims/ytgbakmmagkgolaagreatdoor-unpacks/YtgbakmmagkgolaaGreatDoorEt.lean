/- errors.As at the errors that the program makes, at its two targets: closed facts on what Go's own text asks of types. -/
import Derived.Test.YtgbakmmagkgolaaGreatDoorEr
namespace Go.Proofs.YtgbakmmagkgolaaGreatDoor
open Go.RowKit Go.Extern.Stop Go.Stop Go.Extern

theorem rlm (z : Sem Value) (f : TypeId → Addr → Nat → Nat → Sem Value) (v : Value) :
    ReflectliteValue.method z f #[v] = (do match ← ReflectliteValue.parts v with | none => z | some (t, a, fl) => f t a fl (fl % 32)) := rfl
theorem rls (v x : Value) : ReflectliteValue.set #[v, x] = (do
    let (some (dst, a, fl), some (src, b, _)) := (← ReflectliteValue.parts v, ← ReflectliteValue.parts x)
      | unsupported (.noEntry "extern/(internal/reflectlite.Value).Set.zeroValue")
    if fl / ReflectliteValue.flagAddr % 2 == 0 then unsupported (.noEntry "extern/(internal/reflectlite.Value).Set.unaddressable")
    let val ← loadVar src b
    if ← Rtype.directlyAssignable dst src then storeVar dst a val
    else if ← Rtype.implements dst src then
      if (← Rtype.kind src) == 20 then
        match val with
        | .nilIface => unsupported (.noEntry "extern/reflectlite: a nil value of one interface type handed on as a value of another")
        | _ => storeVar dst a val
      else storeVar dst a (.iface src val)
    else panicString ("reflectlite.Set: value of type " ++ (← Rtype.spelt src) ++ " is not assignable to type " ++ (← Rtype.spelt dst))
    pure (.tuple #[])) := rfl

theorem valueOfPTab (t : Addr) (w : World) : (ReflectliteValue.unpack (.iface 207 (.pointer (some t)))).run Tryz.prog w
    = .ok (.agg #[.pointer (some ⟨9, 207, none⟩), .pointer (some ⟨w.heap.size, 0, none⟩), .int .u64 150]) (w.alloc (.cells #[.pointer (some t)] 207)) := by kernel_rfl
theorem typePTab (a : Addr) (w : World) : (ReflectliteValue.methodAny (ReflectliteValue.valueError "reflectlite.Value.Type" 0) (fun t _ _ _ => ReflectliteType.toType t) #[.agg #[.pointer (some ⟨9, 207, none⟩), .pointer (some a), .int .u64 150]]).run Tryz.prog w
    = .ok (.iface 294 (.agg #[.pointer (some ⟨9, 207, none⟩)])) w := by kernel_rfl
theorem kindPTab (w : World) : ((ReflectliteType.abiMethod fun t => (fun a : Nat => Value.int IntKind.u8 (a : Int)) <$> Rtype.kind t) #[.pointer (some ⟨9, 207, none⟩)]).run Tryz.prog w = .ok (.int .u8 22) w := by kernel_rfl
theorem kindTab (w : World) : ((ReflectliteType.abiMethod fun t => (fun a : Nat => Value.int IntKind.u8 (a : Int)) <$> Rtype.kind t) #[.pointer (some ⟨9, 158, none⟩)]).run Tryz.prog w = .ok (.int .u8 22) w := by kernel_rfl
theorem partsPTab (a : Addr) (w : World) : (ReflectliteValue.parts (.agg #[.pointer (some ⟨9, 207, none⟩), .pointer (some a), .int .u64 150])).run Tryz.prog w = .ok (some (207, a, 150)) w := by kernel_rfl
theorem isNilPTab (a p : Addr) (W : World) (ha : W.cell? a = some (.pointer (some p))) :
    (ReflectliteValue.method (ReflectliteValue.valueError "reflectlite.Value.IsNil" 0) ReflectliteValue.isNil #[.agg #[.pointer (some ⟨9, 207, none⟩), .pointer (some a), .int .u64 150]]).run Tryz.prog W = .ok (.bool false) W := by
  rw [rlm]
  simp only [Sem.run_bind, partsPTab, Result.andThen]
  simp [ReflectliteValue.isNil, loadVar, isAgg, underlying, Tryz.underlying207, ha, Result.andThen]
theorem elemPTab (w : World) : (ReflectliteType.method ReflectliteType.elem #[.agg #[.pointer (some ⟨9, 207, none⟩)]]).run Tryz.prog w = .ok (.iface 294 (.agg #[.pointer (some ⟨9, 158, none⟩)])) w := by kernel_rfl
theorem implementsTab (w : World) : (ReflectliteType.relation "Implements" ReflectliteType.implements_ #[.agg #[.pointer (some ⟨9, 158, none⟩)], .iface 294 (.agg #[.pointer (some ⟨9, 94, none⟩)])]).run Tryz.prog w = .ok (.bool true) w := by kernel_rfl
theorem valueOfTab (e : Addr) (w : World) : (ReflectliteValue.unpack (.iface 158 (.pointer (some e)))).run Tryz.prog w
    = .ok (.agg #[.pointer (some ⟨9, 158, none⟩), .pointer (some ⟨w.heap.size, 0, none⟩), .int .u64 150]) (w.alloc (.cells #[.pointer (some e)] 158)) := by kernel_rfl
theorem elemOfTab (w : World) : (Rtype.elem? 207).run Tryz.prog w = .ok (some 158) w := by kernel_rfl
theorem mkTab (p : Addr) (w : World) : (ReflectliteValue.mk 158 p ReflectliteValue.flagAddr).run Tryz.prog w = .ok (.agg #[.pointer (some ⟨9, 158, none⟩), .pointer (some p), .int .u64 406]) w := by kernel_rfl
theorem elemVTab (a p : Addr) (W : World) (ha : W.cell? a = some (.pointer (some p))) :
    (ReflectliteValue.method (ReflectliteValue.valueError "reflectlite.Value.Elem" 0) ReflectliteValue.elem #[.agg #[.pointer (some ⟨9, 207, none⟩), .pointer (some a), .int .u64 150]]).run Tryz.prog W
      = .ok (.agg #[.pointer (some ⟨9, 158, none⟩), .pointer (some p), .int .u64 406]) W := by
  rw [rlm]
  simp only [Sem.run_bind, partsPTab, Result.andThen]
  simp [ReflectliteValue.elem, loadVar, isAgg, underlying, Tryz.underlying207, ha, Result.andThen, elemOfTab, mkTab]
theorem partsATab (a : Addr) (w : World) : (ReflectliteValue.parts (.agg #[.pointer (some ⟨9, 158, none⟩), .pointer (some a), .int .u64 406])).run Tryz.prog w = .ok (some (158, a, 406)) w := by kernel_rfl
theorem partsTab (a : Addr) (w : World) : (ReflectliteValue.parts (.agg #[.pointer (some ⟨9, 158, none⟩), .pointer (some a), .int .u64 150])).run Tryz.prog w = .ok (some (158, a, 150)) w := by kernel_rfl
theorem directTab (w : World) : (Rtype.directlyAssignable 158 158).run Tryz.prog w = .ok true w := by kernel_rfl
theorem setTab (ta b e : Addr) (old : Value) (W : World) (hb : W.cell? b = some (.pointer (some e))) (ht : W.cell? ta = some old) (hf : W.frozen? ta = false) :
    (ReflectliteValue.set #[.agg #[.pointer (some ⟨9, 158, none⟩), .pointer (some ta), .int .u64 406], .agg #[.pointer (some ⟨9, 158, none⟩), .pointer (some b), .int .u64 150]]).run Tryz.prog W
      = .ok (.tuple #[]) (W.setCell ta (.pointer (some e))) := by
  rw [rls]
  simp only [Sem.run_bind, partsATab, partsTab, Result.andThen]
  simp [ReflectliteValue.flagAddr, loadVar, isAgg, underlying, Tryz.underlying158, hb, Result.andThen, directTab, storeVar, Value.cells, storeCells, Addr.add]
  rw [run_store Tryz.prog W ta _ _ (by rfl)]
  simp [ht, hf]
theorem assignRootTab (w : World) : (ReflectliteType.relation "AssignableTo" ReflectliteType.assignableTo #[.agg #[.pointer (some ⟨9, 345, none⟩)], .iface 294 (.agg #[.pointer (some ⟨9, 158, none⟩)])]).run Tryz.prog w = .ok (.bool false) w := by kernel_rfl
theorem assignTabTab (w : World) : (ReflectliteType.relation "AssignableTo" ReflectliteType.assignableTo #[.agg #[.pointer (some ⟨9, 158, none⟩)], .iface 294 (.agg #[.pointer (some ⟨9, 158, none⟩)])]).run Tryz.prog w = .ok (.bool true) w := by kernel_rfl
theorem assignDiskTab (w : World) : (ReflectliteType.relation "AssignableTo" ReflectliteType.assignableTo #[.agg #[.pointer (some ⟨9, 208, none⟩)], .iface 294 (.agg #[.pointer (some ⟨9, 158, none⟩)])]).run Tryz.prog w = .ok (.bool false) w := by kernel_rfl

theorem valueOfPDisk (t : Addr) (w : World) : (ReflectliteValue.unpack (.iface 209 (.pointer (some t)))).run Tryz.prog w
    = .ok (.agg #[.pointer (some ⟨9, 209, none⟩), .pointer (some ⟨w.heap.size, 0, none⟩), .int .u64 150]) (w.alloc (.cells #[.pointer (some t)] 209)) := by kernel_rfl
theorem typePDisk (a : Addr) (w : World) : (ReflectliteValue.methodAny (ReflectliteValue.valueError "reflectlite.Value.Type" 0) (fun t _ _ _ => ReflectliteType.toType t) #[.agg #[.pointer (some ⟨9, 209, none⟩), .pointer (some a), .int .u64 150]]).run Tryz.prog w
    = .ok (.iface 294 (.agg #[.pointer (some ⟨9, 209, none⟩)])) w := by kernel_rfl
theorem kindPDisk (w : World) : ((ReflectliteType.abiMethod fun t => (fun a : Nat => Value.int IntKind.u8 (a : Int)) <$> Rtype.kind t) #[.pointer (some ⟨9, 209, none⟩)]).run Tryz.prog w = .ok (.int .u8 22) w := by kernel_rfl
theorem kindDisk (w : World) : ((ReflectliteType.abiMethod fun t => (fun a : Nat => Value.int IntKind.u8 (a : Int)) <$> Rtype.kind t) #[.pointer (some ⟨9, 208, none⟩)]).run Tryz.prog w = .ok (.int .u8 22) w := by kernel_rfl
theorem partsPDisk (a : Addr) (w : World) : (ReflectliteValue.parts (.agg #[.pointer (some ⟨9, 209, none⟩), .pointer (some a), .int .u64 150])).run Tryz.prog w = .ok (some (209, a, 150)) w := by kernel_rfl
theorem isNilPDisk (a p : Addr) (W : World) (ha : W.cell? a = some (.pointer (some p))) :
    (ReflectliteValue.method (ReflectliteValue.valueError "reflectlite.Value.IsNil" 0) ReflectliteValue.isNil #[.agg #[.pointer (some ⟨9, 209, none⟩), .pointer (some a), .int .u64 150]]).run Tryz.prog W = .ok (.bool false) W := by
  rw [rlm]
  simp only [Sem.run_bind, partsPDisk, Result.andThen]
  simp [ReflectliteValue.isNil, loadVar, isAgg, underlying, Tryz.underlying209, ha, Result.andThen]
theorem elemPDisk (w : World) : (ReflectliteType.method ReflectliteType.elem #[.agg #[.pointer (some ⟨9, 209, none⟩)]]).run Tryz.prog w = .ok (.iface 294 (.agg #[.pointer (some ⟨9, 208, none⟩)])) w := by kernel_rfl
theorem implementsDisk (w : World) : (ReflectliteType.relation "Implements" ReflectliteType.implements_ #[.agg #[.pointer (some ⟨9, 208, none⟩)], .iface 294 (.agg #[.pointer (some ⟨9, 94, none⟩)])]).run Tryz.prog w = .ok (.bool true) w := by kernel_rfl
theorem valueOfDisk (e : Addr) (w : World) : (ReflectliteValue.unpack (.iface 208 (.pointer (some e)))).run Tryz.prog w
    = .ok (.agg #[.pointer (some ⟨9, 208, none⟩), .pointer (some ⟨w.heap.size, 0, none⟩), .int .u64 150]) (w.alloc (.cells #[.pointer (some e)] 208)) := by kernel_rfl
theorem elemOfDisk (w : World) : (Rtype.elem? 209).run Tryz.prog w = .ok (some 208) w := by kernel_rfl
theorem mkDisk (p : Addr) (w : World) : (ReflectliteValue.mk 208 p ReflectliteValue.flagAddr).run Tryz.prog w = .ok (.agg #[.pointer (some ⟨9, 208, none⟩), .pointer (some p), .int .u64 406]) w := by kernel_rfl
theorem elemVDisk (a p : Addr) (W : World) (ha : W.cell? a = some (.pointer (some p))) :
    (ReflectliteValue.method (ReflectliteValue.valueError "reflectlite.Value.Elem" 0) ReflectliteValue.elem #[.agg #[.pointer (some ⟨9, 209, none⟩), .pointer (some a), .int .u64 150]]).run Tryz.prog W
      = .ok (.agg #[.pointer (some ⟨9, 208, none⟩), .pointer (some p), .int .u64 406]) W := by
  rw [rlm]
  simp only [Sem.run_bind, partsPDisk, Result.andThen]
  simp [ReflectliteValue.elem, loadVar, isAgg, underlying, Tryz.underlying209, ha, Result.andThen, elemOfDisk, mkDisk]
theorem partsADisk (a : Addr) (w : World) : (ReflectliteValue.parts (.agg #[.pointer (some ⟨9, 208, none⟩), .pointer (some a), .int .u64 406])).run Tryz.prog w = .ok (some (208, a, 406)) w := by kernel_rfl
theorem partsDisk (a : Addr) (w : World) : (ReflectliteValue.parts (.agg #[.pointer (some ⟨9, 208, none⟩), .pointer (some a), .int .u64 150])).run Tryz.prog w = .ok (some (208, a, 150)) w := by kernel_rfl
theorem directDisk (w : World) : (Rtype.directlyAssignable 208 208).run Tryz.prog w = .ok true w := by kernel_rfl
theorem setDisk (ta b e : Addr) (old : Value) (W : World) (hb : W.cell? b = some (.pointer (some e))) (ht : W.cell? ta = some old) (hf : W.frozen? ta = false) :
    (ReflectliteValue.set #[.agg #[.pointer (some ⟨9, 208, none⟩), .pointer (some ta), .int .u64 406], .agg #[.pointer (some ⟨9, 208, none⟩), .pointer (some b), .int .u64 150]]).run Tryz.prog W
      = .ok (.tuple #[]) (W.setCell ta (.pointer (some e))) := by
  rw [rls]
  simp only [Sem.run_bind, partsADisk, partsDisk, Result.andThen]
  simp [ReflectliteValue.flagAddr, loadVar, isAgg, underlying, Tryz.underlying208, hb, Result.andThen, directDisk, storeVar, Value.cells, storeCells, Addr.add]
  rw [run_store Tryz.prog W ta _ _ (by rfl)]
  simp [ht, hf]
theorem assignRootDisk (w : World) : (ReflectliteType.relation "AssignableTo" ReflectliteType.assignableTo #[.agg #[.pointer (some ⟨9, 345, none⟩)], .iface 294 (.agg #[.pointer (some ⟨9, 208, none⟩)])]).run Tryz.prog w = .ok (.bool false) w := by kernel_rfl
theorem assignTabDisk (w : World) : (ReflectliteType.relation "AssignableTo" ReflectliteType.assignableTo #[.agg #[.pointer (some ⟨9, 158, none⟩)], .iface 294 (.agg #[.pointer (some ⟨9, 208, none⟩)])]).run Tryz.prog w = .ok (.bool false) w := by kernel_rfl
theorem assignDiskDisk (w : World) : (ReflectliteType.relation "AssignableTo" ReflectliteType.assignableTo #[.agg #[.pointer (some ⟨9, 208, none⟩)], .iface 294 (.agg #[.pointer (some ⟨9, 208, none⟩)])]).run Tryz.prog w = .ok (.bool true) w := by kernel_rfl
end Go.Proofs.YtgbakmmagkgolaaGreatDoor
