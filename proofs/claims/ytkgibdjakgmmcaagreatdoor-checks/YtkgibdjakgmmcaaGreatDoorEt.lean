/- errors.As at the errors that the program makes, at its targets: closed facts on what Go's own text asks of types. -/
import Derived.Test.YtkgibdjakgmmcaaGreatDoorEr
namespace Go.Proofs.YtkgibdjakgmmcaaGreatDoor
open Go.RowKit Go.Extern.Stop Go.Stop Go.Extern
theorem rlm (z:Sem Value)(f:TypeId→Addr→Nat→Nat→Sem Value)(v:Value) :
  ReflectliteValue.method z f #[v]=(do match ←ReflectliteValue.parts v with|none=>z|some (t,a,fl)=>f t a fl (fl % 32)):=rfl
theorem rls (v x:Value):ReflectliteValue.set #[v,x]=(do
  let (some (dst,a,fl),some (src,b,_)):=(←ReflectliteValue.parts v,←ReflectliteValue.parts x)
   | unsupported (.noEntry "extern/(internal/reflectlite.Value).Set.zeroValue")
  if fl / ReflectliteValue.flagAddr % 2 == 0 then unsupported (.noEntry "extern/(internal/reflectlite.Value).Set.unaddressable")
  let val ←loadVar src b
  if ←Rtype.directlyAssignable dst src then storeVar dst a val
  else if ←Rtype.implements dst src then
   if (←Rtype.kind src)==20 then
    match val with
    | .nilIface => unsupported (.noEntry "extern/reflectlite: a nil value of one interface type handed on as a value of another")
    |_=>storeVar dst a val
   else storeVar dst a (.iface src val)
  else panicString ("reflectlite.Set: value of type " ++ (← Rtype.spelt src) ++ " is not assignable to type " ++ (← Rtype.spelt dst))
  pure (.tuple #[])):=rfl
theorem valueOfPTab (t:Addr)(w:World):(ReflectliteValue.unpack (.iface 159 (.pointer (some t)))).run Tryz.prog w
  = .ok (.agg #[.pointer (some ⟨15,159,none⟩),.pointer (some ⟨w.heap.size,0,none⟩),.int .u64 150]) (w.alloc (.cells #[.pointer (some t)] 159)):=by kernel_rfl
theorem typePTab (a : Addr) (w : World) : (ReflectliteValue.methodAny (ReflectliteValue.valueError "reflectlite.Value.Type" 0) (fun t _ _ _ => ReflectliteType.toType t) #[.agg #[.pointer (some ⟨15, 159, none⟩), .pointer (some a), .int .u64 150]]).run Tryz.prog w
  = .ok (.iface 216 (.agg #[.pointer (some ⟨15,159,none⟩)])) w:=by kernel_rfl
theorem kindPTab (w:World):((ReflectliteType.abiMethod fun t=>(fun a:Nat=>Value.int IntKind.u8 (a:Int)) <$> Rtype.kind t) #[.pointer (some ⟨15,159,none⟩)]).run Tryz.prog w=.ok (.int .u8 22) w:=by kernel_rfl
theorem kindTab (w:World):((ReflectliteType.abiMethod fun t=>(fun a:Nat=>Value.int IntKind.u8 (a:Int)) <$> Rtype.kind t) #[.pointer (some ⟨15,158,none⟩)]).run Tryz.prog w=.ok (.int .u8 22) w:=by kernel_rfl
theorem partsPTab (a:Addr)(w:World):(ReflectliteValue.parts (.agg #[.pointer (some ⟨15,159,none⟩),.pointer (some a),.int .u64 150])).run Tryz.prog w=.ok (some (159,a,150)) w:=by kernel_rfl
theorem isNilPTab (a p:Addr)(W:World)(ha:W.cell? a=some (.pointer (some p))) :
  (ReflectliteValue.method (ReflectliteValue.valueError "reflectlite.Value.IsNil" 0) ReflectliteValue.isNil #[.agg #[.pointer (some ⟨15, 159, none⟩), .pointer (some a), .int .u64 150]]).run Tryz.prog W = .ok (.bool false) W := by
 rw[rlm]
 simp only[Sem.run_bind,partsPTab,Result.andThen]
 simp[ReflectliteValue.isNil,loadVar,isAgg,underlying,Tryz.underlying159,ha,Result.andThen]
theorem elemPTab (w:World):(ReflectliteType.method ReflectliteType.elem #[.agg #[.pointer (some ⟨15,159,none⟩)]]).run Tryz.prog w=.ok (.iface 216 (.agg #[.pointer (some ⟨15,158,none⟩)])) w:=by kernel_rfl
theorem implementsTab (w : World) : (ReflectliteType.relation "Implements" ReflectliteType.implements_ #[.agg #[.pointer (some ⟨15, 158, none⟩)], .iface 216 (.agg #[.pointer (some ⟨15, 81, none⟩)])]).run Tryz.prog w = .ok (.bool true) w := by kernel_rfl
theorem valueOfTab (e:Addr)(w:World):(ReflectliteValue.unpack (.iface 158 (.pointer (some e)))).run Tryz.prog w
  = .ok (.agg #[.pointer (some ⟨15,158,none⟩),.pointer (some ⟨w.heap.size,0,none⟩),.int .u64 150]) (w.alloc (.cells #[.pointer (some e)] 158)):=by kernel_rfl
theorem elemOfTab (w:World):(Rtype.elem? 159).run Tryz.prog w=.ok (some 158) w:=by kernel_rfl
theorem mkTab (p:Addr)(w:World):(ReflectliteValue.mk 158 p ReflectliteValue.flagAddr).run Tryz.prog w=.ok (.agg #[.pointer (some ⟨15,158,none⟩),.pointer (some p),.int .u64 406]) w:=by kernel_rfl
theorem elemVTab (a p:Addr)(W:World)(ha:W.cell? a=some (.pointer (some p))) :
  (ReflectliteValue.method (ReflectliteValue.valueError "reflectlite.Value.Elem" 0) ReflectliteValue.elem #[.agg #[.pointer (some ⟨15, 159, none⟩), .pointer (some a), .int .u64 150]]).run Tryz.prog W
   = .ok (.agg #[.pointer (some ⟨15,158,none⟩),.pointer (some p),.int .u64 406]) W:=by
 rw[rlm]
 simp only[Sem.run_bind,partsPTab,Result.andThen]
 simp[ReflectliteValue.elem,loadVar,isAgg,underlying,Tryz.underlying159,ha,Result.andThen,elemOfTab,mkTab]
theorem partsATab (a:Addr)(w:World):(ReflectliteValue.parts (.agg #[.pointer (some ⟨15,158,none⟩),.pointer (some a),.int .u64 406])).run Tryz.prog w=.ok (some (158,a,406)) w:=by kernel_rfl
theorem partsTab (a:Addr)(w:World):(ReflectliteValue.parts (.agg #[.pointer (some ⟨15,158,none⟩),.pointer (some a),.int .u64 150])).run Tryz.prog w=.ok (some (158,a,150)) w:=by kernel_rfl
theorem directTab (w:World):(Rtype.directlyAssignable 158 158).run Tryz.prog w=.ok true w:=by kernel_rfl
theorem setTab (ta b e:Addr)(old:Value)(W:World)(hb:W.cell? b=some (.pointer (some e)))(ht:W.cell? ta=some old)(hf:W.frozen? ta=false) :
  (ReflectliteValue.set #[.agg #[.pointer (some ⟨15,158,none⟩),.pointer (some ta),.int .u64 406],.agg #[.pointer (some ⟨15,158,none⟩),.pointer (some b),.int .u64 150]]).run Tryz.prog W
   = .ok (.tuple #[]) (W.setCell ta (.pointer (some e))):=by
 rw[rls]
 simp only[Sem.run_bind,partsATab,partsTab,Result.andThen]
 simp[ReflectliteValue.flagAddr,loadVar,isAgg,underlying,Tryz.underlying158,hb,Result.andThen,directTab,storeVar,Value.cells,storeCells,Addr.add]
 rw[run_store Tryz.prog W ta _ _ (by rfl)]
 simp[ht,hf]
theorem valueOfPDisk (t:Addr)(w:World):(ReflectliteValue.unpack (.iface 163 (.pointer (some t)))).run Tryz.prog w
  = .ok (.agg #[.pointer (some ⟨15,163,none⟩),.pointer (some ⟨w.heap.size,0,none⟩),.int .u64 150]) (w.alloc (.cells #[.pointer (some t)] 163)):=by kernel_rfl
theorem typePDisk (a : Addr) (w : World) : (ReflectliteValue.methodAny (ReflectliteValue.valueError "reflectlite.Value.Type" 0) (fun t _ _ _ => ReflectliteType.toType t) #[.agg #[.pointer (some ⟨15, 163, none⟩), .pointer (some a), .int .u64 150]]).run Tryz.prog w
  = .ok (.iface 216 (.agg #[.pointer (some ⟨15,163,none⟩)])) w:=by kernel_rfl
theorem kindPDisk (w:World):((ReflectliteType.abiMethod fun t=>(fun a:Nat=>Value.int IntKind.u8 (a:Int)) <$> Rtype.kind t) #[.pointer (some ⟨15,163,none⟩)]).run Tryz.prog w=.ok (.int .u8 22) w:=by kernel_rfl
theorem kindDisk (w:World):((ReflectliteType.abiMethod fun t=>(fun a:Nat=>Value.int IntKind.u8 (a:Int)) <$> Rtype.kind t) #[.pointer (some ⟨15,162,none⟩)]).run Tryz.prog w=.ok (.int .u8 22) w:=by kernel_rfl
theorem partsPDisk (a:Addr)(w:World):(ReflectliteValue.parts (.agg #[.pointer (some ⟨15,163,none⟩),.pointer (some a),.int .u64 150])).run Tryz.prog w=.ok (some (163,a,150)) w:=by kernel_rfl
theorem isNilPDisk (a p:Addr)(W:World)(ha:W.cell? a=some (.pointer (some p))) :
  (ReflectliteValue.method (ReflectliteValue.valueError "reflectlite.Value.IsNil" 0) ReflectliteValue.isNil #[.agg #[.pointer (some ⟨15, 163, none⟩), .pointer (some a), .int .u64 150]]).run Tryz.prog W = .ok (.bool false) W := by
 rw[rlm]
 simp only[Sem.run_bind,partsPDisk,Result.andThen]
 simp[ReflectliteValue.isNil,loadVar,isAgg,underlying,Tryz.underlying163,ha,Result.andThen]
theorem elemPDisk (w:World):(ReflectliteType.method ReflectliteType.elem #[.agg #[.pointer (some ⟨15,163,none⟩)]]).run Tryz.prog w=.ok (.iface 216 (.agg #[.pointer (some ⟨15,162,none⟩)])) w:=by kernel_rfl
theorem implementsDisk (w : World) : (ReflectliteType.relation "Implements" ReflectliteType.implements_ #[.agg #[.pointer (some ⟨15, 162, none⟩)], .iface 216 (.agg #[.pointer (some ⟨15, 81, none⟩)])]).run Tryz.prog w = .ok (.bool true) w := by kernel_rfl
theorem valueOfDisk (e:Addr)(w:World):(ReflectliteValue.unpack (.iface 162 (.pointer (some e)))).run Tryz.prog w
  = .ok (.agg #[.pointer (some ⟨15,162,none⟩),.pointer (some ⟨w.heap.size,0,none⟩),.int .u64 150]) (w.alloc (.cells #[.pointer (some e)] 162)):=by kernel_rfl
theorem elemOfDisk (w:World):(Rtype.elem? 163).run Tryz.prog w=.ok (some 162) w:=by kernel_rfl
theorem mkDisk (p:Addr)(w:World):(ReflectliteValue.mk 162 p ReflectliteValue.flagAddr).run Tryz.prog w=.ok (.agg #[.pointer (some ⟨15,162,none⟩),.pointer (some p),.int .u64 406]) w:=by kernel_rfl
theorem elemVDisk (a p:Addr)(W:World)(ha:W.cell? a=some (.pointer (some p))) :
  (ReflectliteValue.method (ReflectliteValue.valueError "reflectlite.Value.Elem" 0) ReflectliteValue.elem #[.agg #[.pointer (some ⟨15, 163, none⟩), .pointer (some a), .int .u64 150]]).run Tryz.prog W
   = .ok (.agg #[.pointer (some ⟨15,162,none⟩),.pointer (some p),.int .u64 406]) W:=by
 rw[rlm]
 simp only[Sem.run_bind,partsPDisk,Result.andThen]
 simp[ReflectliteValue.elem,loadVar,isAgg,underlying,Tryz.underlying163,ha,Result.andThen,elemOfDisk,mkDisk]
theorem partsADisk (a:Addr)(w:World):(ReflectliteValue.parts (.agg #[.pointer (some ⟨15,162,none⟩),.pointer (some a),.int .u64 406])).run Tryz.prog w=.ok (some (162,a,406)) w:=by kernel_rfl
theorem partsDisk (a:Addr)(w:World):(ReflectliteValue.parts (.agg #[.pointer (some ⟨15,162,none⟩),.pointer (some a),.int .u64 150])).run Tryz.prog w=.ok (some (162,a,150)) w:=by kernel_rfl
theorem directDisk (w:World):(Rtype.directlyAssignable 162 162).run Tryz.prog w=.ok true w:=by kernel_rfl
theorem setDisk (ta b e:Addr)(old:Value)(W:World)(hb:W.cell? b=some (.pointer (some e)))(ht:W.cell? ta=some old)(hf:W.frozen? ta=false) :
  (ReflectliteValue.set #[.agg #[.pointer (some ⟨15,162,none⟩),.pointer (some ta),.int .u64 406],.agg #[.pointer (some ⟨15,162,none⟩),.pointer (some b),.int .u64 150]]).run Tryz.prog W
   = .ok (.tuple #[]) (W.setCell ta (.pointer (some e))):=by
 rw[rls]
 simp only[Sem.run_bind,partsADisk,partsDisk,Result.andThen]
 simp[ReflectliteValue.flagAddr,loadVar,isAgg,underlying,Tryz.underlying162,hb,Result.andThen,directDisk,storeVar,Value.cells,storeCells,Addr.add]
 rw[run_store Tryz.prog W ta _ _ (by rfl)]
 simp[ht,hf]
theorem valueOfPPlan (t:Addr)(w:World):(ReflectliteValue.unpack (.iface 149 (.pointer (some t)))).run Tryz.prog w
  = .ok (.agg #[.pointer (some ⟨15,149,none⟩),.pointer (some ⟨w.heap.size,0,none⟩),.int .u64 150]) (w.alloc (.cells #[.pointer (some t)] 149)):=by kernel_rfl
theorem typePPlan (a : Addr) (w : World) : (ReflectliteValue.methodAny (ReflectliteValue.valueError "reflectlite.Value.Type" 0) (fun t _ _ _ => ReflectliteType.toType t) #[.agg #[.pointer (some ⟨15, 149, none⟩), .pointer (some a), .int .u64 150]]).run Tryz.prog w
  = .ok (.iface 216 (.agg #[.pointer (some ⟨15,149,none⟩)])) w:=by kernel_rfl
theorem kindPPlan (w:World):((ReflectliteType.abiMethod fun t=>(fun a:Nat=>Value.int IntKind.u8 (a:Int)) <$> Rtype.kind t) #[.pointer (some ⟨15,149,none⟩)]).run Tryz.prog w=.ok (.int .u8 22) w:=by kernel_rfl
theorem kindPlan (w:World):((ReflectliteType.abiMethod fun t=>(fun a:Nat=>Value.int IntKind.u8 (a:Int)) <$> Rtype.kind t) #[.pointer (some ⟨15,133,none⟩)]).run Tryz.prog w=.ok (.int .u8 22) w:=by kernel_rfl
theorem partsPPlan (a:Addr)(w:World):(ReflectliteValue.parts (.agg #[.pointer (some ⟨15,149,none⟩),.pointer (some a),.int .u64 150])).run Tryz.prog w=.ok (some (149,a,150)) w:=by kernel_rfl
theorem isNilPPlan (a p:Addr)(W:World)(ha:W.cell? a=some (.pointer (some p))) :
  (ReflectliteValue.method (ReflectliteValue.valueError "reflectlite.Value.IsNil" 0) ReflectliteValue.isNil #[.agg #[.pointer (some ⟨15, 149, none⟩), .pointer (some a), .int .u64 150]]).run Tryz.prog W = .ok (.bool false) W := by
 rw[rlm]
 simp only[Sem.run_bind,partsPPlan,Result.andThen]
 simp[ReflectliteValue.isNil,loadVar,isAgg,underlying,Tryz.underlying149,ha,Result.andThen]
theorem elemPPlan (w:World):(ReflectliteType.method ReflectliteType.elem #[.agg #[.pointer (some ⟨15,149,none⟩)]]).run Tryz.prog w=.ok (.iface 216 (.agg #[.pointer (some ⟨15,133,none⟩)])) w:=by kernel_rfl
theorem implementsPlan (w : World) : (ReflectliteType.relation "Implements" ReflectliteType.implements_ #[.agg #[.pointer (some ⟨15, 133, none⟩)], .iface 216 (.agg #[.pointer (some ⟨15, 81, none⟩)])]).run Tryz.prog w = .ok (.bool true) w := by kernel_rfl
theorem valueOfPlan (e:Addr)(w:World):(ReflectliteValue.unpack (.iface 133 (.pointer (some e)))).run Tryz.prog w
  = .ok (.agg #[.pointer (some ⟨15,133,none⟩),.pointer (some ⟨w.heap.size,0,none⟩),.int .u64 150]) (w.alloc (.cells #[.pointer (some e)] 133)):=by kernel_rfl
theorem elemOfPlan (w:World):(Rtype.elem? 149).run Tryz.prog w=.ok (some 133) w:=by kernel_rfl
theorem mkPlan (p:Addr)(w:World):(ReflectliteValue.mk 133 p ReflectliteValue.flagAddr).run Tryz.prog w=.ok (.agg #[.pointer (some ⟨15,133,none⟩),.pointer (some p),.int .u64 406]) w:=by kernel_rfl
theorem elemVPlan (a p:Addr)(W:World)(ha:W.cell? a=some (.pointer (some p))) :
  (ReflectliteValue.method (ReflectliteValue.valueError "reflectlite.Value.Elem" 0) ReflectliteValue.elem #[.agg #[.pointer (some ⟨15, 149, none⟩), .pointer (some a), .int .u64 150]]).run Tryz.prog W
   = .ok (.agg #[.pointer (some ⟨15,133,none⟩),.pointer (some p),.int .u64 406]) W:=by
 rw[rlm]
 simp only[Sem.run_bind,partsPPlan,Result.andThen]
 simp[ReflectliteValue.elem,loadVar,isAgg,underlying,Tryz.underlying149,ha,Result.andThen,elemOfPlan,mkPlan]
theorem partsAPlan (a:Addr)(w:World):(ReflectliteValue.parts (.agg #[.pointer (some ⟨15,133,none⟩),.pointer (some a),.int .u64 406])).run Tryz.prog w=.ok (some (133,a,406)) w:=by kernel_rfl
theorem partsPlan (a:Addr)(w:World):(ReflectliteValue.parts (.agg #[.pointer (some ⟨15,133,none⟩),.pointer (some a),.int .u64 150])).run Tryz.prog w=.ok (some (133,a,150)) w:=by kernel_rfl
theorem directPlan (w:World):(Rtype.directlyAssignable 133 133).run Tryz.prog w=.ok true w:=by kernel_rfl
theorem setPlan (ta b e:Addr)(old:Value)(W:World)(hb:W.cell? b=some (.pointer (some e)))(ht:W.cell? ta=some old)(hf:W.frozen? ta=false) :
  (ReflectliteValue.set #[.agg #[.pointer (some ⟨15,133,none⟩),.pointer (some ta),.int .u64 406],.agg #[.pointer (some ⟨15,133,none⟩),.pointer (some b),.int .u64 150]]).run Tryz.prog W
   = .ok (.tuple #[]) (W.setCell ta (.pointer (some e))):=by
 rw[rls]
 simp only[Sem.run_bind,partsAPlan,partsPlan,Result.andThen]
 simp[ReflectliteValue.flagAddr,loadVar,isAgg,underlying,Tryz.underlying133,hb,Result.andThen,directPlan,storeVar,Value.cells,storeCells,Addr.add]
 rw[run_store Tryz.prog W ta _ _ (by rfl)]
 simp[ht,hf]
theorem valueOfPExpr (t:Addr)(w:World):(ReflectliteValue.unpack (.iface 152 (.pointer (some t)))).run Tryz.prog w
  = .ok (.agg #[.pointer (some ⟨15,152,none⟩),.pointer (some ⟨w.heap.size,0,none⟩),.int .u64 150]) (w.alloc (.cells #[.pointer (some t)] 152)):=by kernel_rfl
theorem typePExpr (a : Addr) (w : World) : (ReflectliteValue.methodAny (ReflectliteValue.valueError "reflectlite.Value.Type" 0) (fun t _ _ _ => ReflectliteType.toType t) #[.agg #[.pointer (some ⟨15, 152, none⟩), .pointer (some a), .int .u64 150]]).run Tryz.prog w
  = .ok (.iface 216 (.agg #[.pointer (some ⟨15,152,none⟩)])) w:=by kernel_rfl
theorem kindPExpr (w:World):((ReflectliteType.abiMethod fun t=>(fun a:Nat=>Value.int IntKind.u8 (a:Int)) <$> Rtype.kind t) #[.pointer (some ⟨15,152,none⟩)]).run Tryz.prog w=.ok (.int .u8 22) w:=by kernel_rfl
theorem kindExpr (w:World):((ReflectliteType.abiMethod fun t=>(fun a:Nat=>Value.int IntKind.u8 (a:Int)) <$> Rtype.kind t) #[.pointer (some ⟨15,150,none⟩)]).run Tryz.prog w=.ok (.int .u8 22) w:=by kernel_rfl
theorem partsPExpr (a:Addr)(w:World):(ReflectliteValue.parts (.agg #[.pointer (some ⟨15,152,none⟩),.pointer (some a),.int .u64 150])).run Tryz.prog w=.ok (some (152,a,150)) w:=by kernel_rfl
theorem isNilPExpr (a p:Addr)(W:World)(ha:W.cell? a=some (.pointer (some p))) :
  (ReflectliteValue.method (ReflectliteValue.valueError "reflectlite.Value.IsNil" 0) ReflectliteValue.isNil #[.agg #[.pointer (some ⟨15, 152, none⟩), .pointer (some a), .int .u64 150]]).run Tryz.prog W = .ok (.bool false) W := by
 rw[rlm]
 simp only[Sem.run_bind,partsPExpr,Result.andThen]
 simp[ReflectliteValue.isNil,loadVar,isAgg,underlying,Tryz.underlying152,ha,Result.andThen]
theorem elemPExpr (w:World):(ReflectliteType.method ReflectliteType.elem #[.agg #[.pointer (some ⟨15,152,none⟩)]]).run Tryz.prog w=.ok (.iface 216 (.agg #[.pointer (some ⟨15,150,none⟩)])) w:=by kernel_rfl
theorem implementsExpr (w : World) : (ReflectliteType.relation "Implements" ReflectliteType.implements_ #[.agg #[.pointer (some ⟨15, 150, none⟩)], .iface 216 (.agg #[.pointer (some ⟨15, 81, none⟩)])]).run Tryz.prog w = .ok (.bool true) w := by kernel_rfl
theorem valueOfExpr (e:Addr)(w:World):(ReflectliteValue.unpack (.iface 150 (.pointer (some e)))).run Tryz.prog w
  = .ok (.agg #[.pointer (some ⟨15,150,none⟩),.pointer (some ⟨w.heap.size,0,none⟩),.int .u64 150]) (w.alloc (.cells #[.pointer (some e)] 150)):=by kernel_rfl
theorem elemOfExpr (w:World):(Rtype.elem? 152).run Tryz.prog w=.ok (some 150) w:=by kernel_rfl
theorem mkExpr (p:Addr)(w:World):(ReflectliteValue.mk 150 p ReflectliteValue.flagAddr).run Tryz.prog w=.ok (.agg #[.pointer (some ⟨15,150,none⟩),.pointer (some p),.int .u64 406]) w:=by kernel_rfl
theorem elemVExpr (a p:Addr)(W:World)(ha:W.cell? a=some (.pointer (some p))) :
  (ReflectliteValue.method (ReflectliteValue.valueError "reflectlite.Value.Elem" 0) ReflectliteValue.elem #[.agg #[.pointer (some ⟨15, 152, none⟩), .pointer (some a), .int .u64 150]]).run Tryz.prog W
   = .ok (.agg #[.pointer (some ⟨15,150,none⟩),.pointer (some p),.int .u64 406]) W:=by
 rw[rlm]
 simp only[Sem.run_bind,partsPExpr,Result.andThen]
 simp[ReflectliteValue.elem,loadVar,isAgg,underlying,Tryz.underlying152,ha,Result.andThen,elemOfExpr,mkExpr]
theorem partsAExpr (a:Addr)(w:World):(ReflectliteValue.parts (.agg #[.pointer (some ⟨15,150,none⟩),.pointer (some a),.int .u64 406])).run Tryz.prog w=.ok (some (150,a,406)) w:=by kernel_rfl
theorem partsExpr (a:Addr)(w:World):(ReflectliteValue.parts (.agg #[.pointer (some ⟨15,150,none⟩),.pointer (some a),.int .u64 150])).run Tryz.prog w=.ok (some (150,a,150)) w:=by kernel_rfl
theorem directExpr (w:World):(Rtype.directlyAssignable 150 150).run Tryz.prog w=.ok true w:=by kernel_rfl
theorem setExpr (ta b e:Addr)(old:Value)(W:World)(hb:W.cell? b=some (.pointer (some e)))(ht:W.cell? ta=some old)(hf:W.frozen? ta=false) :
  (ReflectliteValue.set #[.agg #[.pointer (some ⟨15,150,none⟩),.pointer (some ta),.int .u64 406],.agg #[.pointer (some ⟨15,150,none⟩),.pointer (some b),.int .u64 150]]).run Tryz.prog W
   = .ok (.tuple #[]) (W.setCell ta (.pointer (some e))):=by
 rw[rls]
 simp only[Sem.run_bind,partsAExpr,partsExpr,Result.andThen]
 simp[ReflectliteValue.flagAddr,loadVar,isAgg,underlying,Tryz.underlying150,hb,Result.andThen,directExpr,storeVar,Value.cells,storeCells,Addr.add]
 rw[run_store Tryz.prog W ta _ _ (by rfl)]
 simp[ht,hf]
theorem valueOfPGrp (t:Addr)(w:World):(ReflectliteValue.unpack (.iface 155 (.pointer (some t)))).run Tryz.prog w
  = .ok (.agg #[.pointer (some ⟨15,155,none⟩),.pointer (some ⟨w.heap.size,0,none⟩),.int .u64 150]) (w.alloc (.cells #[.pointer (some t)] 155)):=by kernel_rfl
theorem typePGrp (a : Addr) (w : World) : (ReflectliteValue.methodAny (ReflectliteValue.valueError "reflectlite.Value.Type" 0) (fun t _ _ _ => ReflectliteType.toType t) #[.agg #[.pointer (some ⟨15, 155, none⟩), .pointer (some a), .int .u64 150]]).run Tryz.prog w
  = .ok (.iface 216 (.agg #[.pointer (some ⟨15,155,none⟩)])) w:=by kernel_rfl
theorem kindPGrp (w:World):((ReflectliteType.abiMethod fun t=>(fun a:Nat=>Value.int IntKind.u8 (a:Int)) <$> Rtype.kind t) #[.pointer (some ⟨15,155,none⟩)]).run Tryz.prog w=.ok (.int .u8 22) w:=by kernel_rfl
theorem kindGrp (w:World):((ReflectliteType.abiMethod fun t=>(fun a:Nat=>Value.int IntKind.u8 (a:Int)) <$> Rtype.kind t) #[.pointer (some ⟨15,151,none⟩)]).run Tryz.prog w=.ok (.int .u8 22) w:=by kernel_rfl
theorem partsPGrp (a:Addr)(w:World):(ReflectliteValue.parts (.agg #[.pointer (some ⟨15,155,none⟩),.pointer (some a),.int .u64 150])).run Tryz.prog w=.ok (some (155,a,150)) w:=by kernel_rfl
theorem isNilPGrp (a p:Addr)(W:World)(ha:W.cell? a=some (.pointer (some p))) :
  (ReflectliteValue.method (ReflectliteValue.valueError "reflectlite.Value.IsNil" 0) ReflectliteValue.isNil #[.agg #[.pointer (some ⟨15, 155, none⟩), .pointer (some a), .int .u64 150]]).run Tryz.prog W = .ok (.bool false) W := by
 rw[rlm]
 simp only[Sem.run_bind,partsPGrp,Result.andThen]
 simp[ReflectliteValue.isNil,loadVar,isAgg,underlying,Tryz.underlying155,ha,Result.andThen]
theorem elemPGrp (w:World):(ReflectliteType.method ReflectliteType.elem #[.agg #[.pointer (some ⟨15,155,none⟩)]]).run Tryz.prog w=.ok (.iface 216 (.agg #[.pointer (some ⟨15,151,none⟩)])) w:=by kernel_rfl
theorem implementsGrp (w : World) : (ReflectliteType.relation "Implements" ReflectliteType.implements_ #[.agg #[.pointer (some ⟨15, 151, none⟩)], .iface 216 (.agg #[.pointer (some ⟨15, 81, none⟩)])]).run Tryz.prog w = .ok (.bool true) w := by kernel_rfl
theorem valueOfGrp (e:Addr)(w:World):(ReflectliteValue.unpack (.iface 151 (.pointer (some e)))).run Tryz.prog w
  = .ok (.agg #[.pointer (some ⟨15,151,none⟩),.pointer (some ⟨w.heap.size,0,none⟩),.int .u64 150]) (w.alloc (.cells #[.pointer (some e)] 151)):=by kernel_rfl
theorem elemOfGrp (w:World):(Rtype.elem? 155).run Tryz.prog w=.ok (some 151) w:=by kernel_rfl
theorem mkGrp (p:Addr)(w:World):(ReflectliteValue.mk 151 p ReflectliteValue.flagAddr).run Tryz.prog w=.ok (.agg #[.pointer (some ⟨15,151,none⟩),.pointer (some p),.int .u64 406]) w:=by kernel_rfl
theorem elemVGrp (a p:Addr)(W:World)(ha:W.cell? a=some (.pointer (some p))) :
  (ReflectliteValue.method (ReflectliteValue.valueError "reflectlite.Value.Elem" 0) ReflectliteValue.elem #[.agg #[.pointer (some ⟨15, 155, none⟩), .pointer (some a), .int .u64 150]]).run Tryz.prog W
   = .ok (.agg #[.pointer (some ⟨15,151,none⟩),.pointer (some p),.int .u64 406]) W:=by
 rw[rlm]
 simp only[Sem.run_bind,partsPGrp,Result.andThen]
 simp[ReflectliteValue.elem,loadVar,isAgg,underlying,Tryz.underlying155,ha,Result.andThen,elemOfGrp,mkGrp]
theorem partsAGrp (a:Addr)(w:World):(ReflectliteValue.parts (.agg #[.pointer (some ⟨15,151,none⟩),.pointer (some a),.int .u64 406])).run Tryz.prog w=.ok (some (151,a,406)) w:=by kernel_rfl
theorem partsGrp (a:Addr)(w:World):(ReflectliteValue.parts (.agg #[.pointer (some ⟨15,151,none⟩),.pointer (some a),.int .u64 150])).run Tryz.prog w=.ok (some (151,a,150)) w:=by kernel_rfl
theorem directGrp (w:World):(Rtype.directlyAssignable 151 151).run Tryz.prog w=.ok true w:=by kernel_rfl
theorem setGrp (ta b e:Addr)(old:Value)(W:World)(hb:W.cell? b=some (.pointer (some e)))(ht:W.cell? ta=some old)(hf:W.frozen? ta=false) :
  (ReflectliteValue.set #[.agg #[.pointer (some ⟨15,151,none⟩),.pointer (some ta),.int .u64 406],.agg #[.pointer (some ⟨15,151,none⟩),.pointer (some b),.int .u64 150]]).run Tryz.prog W
   = .ok (.tuple #[]) (W.setCell ta (.pointer (some e))):=by
 rw[rls]
 simp only[Sem.run_bind,partsAGrp,partsGrp,Result.andThen]
 simp[ReflectliteValue.flagAddr,loadVar,isAgg,underlying,Tryz.underlying151,hb,Result.andThen,directGrp,storeVar,Value.cells,storeCells,Addr.add]
 rw[run_store Tryz.prog W ta _ _ (by rfl)]
 simp[ht,hf]
structure IsT (tg pt:Nat):Prop where
 vP:∀ (t:Addr) (w:World),(ReflectliteValue.unpack (.iface pt (.pointer (some t)))).run Tryz.prog w=.ok (.agg #[.pointer (some ⟨15,pt,none⟩),.pointer (some ⟨w.heap.size,0,none⟩),.int .u64 150]) (w.alloc (.cells #[.pointer (some t)] pt))
 tyP : ∀ (a : Addr) (w : World), (ReflectliteValue.methodAny (ReflectliteValue.valueError "reflectlite.Value.Type" 0) (fun t _ _ _ => ReflectliteType.toType t) #[.agg #[.pointer (some ⟨15, pt, none⟩), .pointer (some a), .int .u64 150]]).run Tryz.prog w = .ok (.iface 216 (.agg #[.pointer (some ⟨15, pt, none⟩)])) w
 kP:∀ w:World,((ReflectliteType.abiMethod fun t=>(fun a:Nat=>Value.int IntKind.u8 (a:Int)) <$> Rtype.kind t) #[.pointer (some ⟨15,pt,none⟩)]).run Tryz.prog w=.ok (.int .u8 22) w
 kT:∀ w:World,((ReflectliteType.abiMethod fun t=>(fun a:Nat=>Value.int IntKind.u8 (a:Int)) <$> Rtype.kind t) #[.pointer (some ⟨15,tg,none⟩)]).run Tryz.prog w=.ok (.int .u8 22) w
 nilP : ∀ (a p : Addr) (W : World), W.cell? a = some (.pointer (some p)) → (ReflectliteValue.method (ReflectliteValue.valueError "reflectlite.Value.IsNil" 0) ReflectliteValue.isNil #[.agg #[.pointer (some ⟨15, pt, none⟩), .pointer (some a), .int .u64 150]]).run Tryz.prog W = .ok (.bool false) W
 elP:∀ w:World,(ReflectliteType.method ReflectliteType.elem #[.agg #[.pointer (some ⟨15,pt,none⟩)]]).run Tryz.prog w=.ok (.iface 216 (.agg #[.pointer (some ⟨15,tg,none⟩)])) w
 imp : ∀ w : World, (ReflectliteType.relation "Implements" ReflectliteType.implements_ #[.agg #[.pointer (some ⟨15, tg, none⟩)], .iface 216 (.agg #[.pointer (some ⟨15, 81, none⟩)])]).run Tryz.prog w = .ok (.bool true) w
 vT:∀ (e:Addr) (w:World),(ReflectliteValue.unpack (.iface tg (.pointer (some e)))).run Tryz.prog w=.ok (.agg #[.pointer (some ⟨15,tg,none⟩),.pointer (some ⟨w.heap.size,0,none⟩),.int .u64 150]) (w.alloc (.cells #[.pointer (some e)] tg))
 eV : ∀ (a p : Addr) (W : World), W.cell? a = some (.pointer (some p)) → (ReflectliteValue.method (ReflectliteValue.valueError "reflectlite.Value.Elem" 0) ReflectliteValue.elem #[.agg #[.pointer (some ⟨15, pt, none⟩), .pointer (some a), .int .u64 150]]).run Tryz.prog W = .ok (.agg #[.pointer (some ⟨15, tg, none⟩), .pointer (some p), .int .u64 406]) W
 st:∀ (ta b e:Addr) (old:Value) (W:World),W.cell? b=some (.pointer (some e))→W.cell? ta=some old→W.frozen? ta=false→(ReflectliteValue.set #[.agg #[.pointer (some ⟨15,tg,none⟩),.pointer (some ta),.int .u64 406],.agg #[.pointer (some ⟨15,tg,none⟩),.pointer (some b),.int .u64 150]]).run Tryz.prog W=.ok (.tuple #[]) (W.setCell ta (.pointer (some e)))
 typ:∀ (v:Value) (w:World),(ReflectliteType.typeOf #[.iface tg v]).run Tryz.prog w=.ok (.iface 216 (.agg #[.pointer (some ⟨15,tg,none⟩)])) w
 self:Asg tg tg true
 root:Asg 284 tg false
theorem isT_tab:IsT 158 159:=
 ⟨valueOfPTab,typePTab,kindPTab,kindTab,isNilPTab,elemPTab,implementsTab,valueOfTab,elemVTab,setTab,isW_tab.typ,fun w=>by kernel_rfl,fun w=>by kernel_rfl⟩
theorem isT_disk:IsT 162 163:=
 ⟨valueOfPDisk,typePDisk,kindPDisk,kindDisk,isNilPDisk,elemPDisk,implementsDisk,valueOfDisk,elemVDisk,setDisk,isW_disk.typ,fun w=>by kernel_rfl,fun w=>by kernel_rfl⟩
theorem isT_plan:IsT 133 149:=
 ⟨valueOfPPlan,typePPlan,kindPPlan,kindPlan,isNilPPlan,elemPPlan,implementsPlan,valueOfPlan,elemVPlan,setPlan,isW_plan.typ,fun w=>by kernel_rfl,fun w=>by kernel_rfl⟩
theorem isT_expr:IsT 150 152:=
 ⟨valueOfPExpr,typePExpr,kindPExpr,kindExpr,isNilPExpr,elemPExpr,implementsExpr,valueOfExpr,elemVExpr,setExpr,isW_expr.typ,fun w=>by kernel_rfl,fun w=>by kernel_rfl⟩
theorem isT_grp:IsT 151 155:=
 ⟨valueOfPGrp,typePGrp,kindPGrp,kindGrp,isNilPGrp,elemPGrp,implementsGrp,valueOfGrp,elemVGrp,setGrp,isW_grp.typ,fun w=>by kernel_rfl,fun w=>by kernel_rfl⟩
end Go.Proofs.YtkgibdjakgmmcaaGreatDoor
