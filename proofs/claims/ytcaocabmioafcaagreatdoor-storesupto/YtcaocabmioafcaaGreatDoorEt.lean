/- errors.As at the errors that the program makes, at its targets: closed facts on what Go's own text asks of types. -/
import Derived.Test.YtcaocabmioafcaaGreatDoorEr
namespace Go.Proofs.YtcaocabmioafcaaGreatDoor
open Go.RowKit Go.Extern.Stop Go.Stop Go.Extern
theorem rlm (z:Sem Value)(f:TypeId→Addr→Nat→Nat→Sem Value)(v:Value) :
  ReflectliteValue.method z f #[v]=(do match ←ReflectliteValue.parts v with|none=>z|some (t,a,fl)=>f t a fl (fl % 32)):=rfl
theorem rls (v x:Value):ReflectliteValue.set #[v,x]=(do
  let (some (dst,a,fl),some (src,b,_)):=(←ReflectliteValue.parts v,←ReflectliteValue.parts x)
   | unsupported (.noEntry "extern/(internal/reflectlite.Value).Set.zeroValue")
  if fl / ReflectliteValue.flagAddr % 2 == 0 then unsupported (.noEntry "extern/(internal/reflectlite.Value).Set.unaddressable")
  let val ←loadVar src b
  if ←Rtype.directlyAssignable dst src then storeVar dst a val
  else if ←Rtype.implements dst src then
   if (←Rtype.kind src)==20 then
    match val with
    | .nilIface => unsupported (.noEntry "extern/reflectlite: a nil value of one interface type handed on as a value of another")
    |_=>storeVar dst a val
   else storeVar dst a (.iface src val)
  else panicString ("reflectlite.Set: value of type " ++ (← Rtype.spelt src) ++ " is not assignable to type " ++ (← Rtype.spelt dst))
  pure (.tuple #[])):=rfl
theorem Jti (t:Addr)(w:World):(ReflectliteValue.unpack (.iface 210 (.pointer (some t)))).run Tryz.prog w
  = .ok (.agg #[.pointer (some ⟨17,210,none⟩),.pointer (some ⟨w.heap.size,0,none⟩),.int .u64 150]) (w.alloc (.cells #[.pointer (some t)] 210)):=by kernel_rfl
theorem Kb5 (a : Addr) (w : World) : (ReflectliteValue.methodAny (ReflectliteValue.valueError "reflectlite.Value.Type" 0) (fun t _ _ _ => ReflectliteType.toType t) #[.agg #[.pointer (some ⟨17, 210, none⟩), .pointer (some a), .int .u64 150]]).run Tryz.prog w
  = .ok (.iface 302 (.agg #[.pointer (some ⟨17,210,none⟩)])) w:=by kernel_rfl
theorem Kdm (w:World):((ReflectliteType.abiMethod fun t=>(fun a:Nat=>Value.int IntKind.u8 (a:Int)) <$> Rtype.kind t) #[.pointer (some ⟨17,210,none⟩)]).run Tryz.prog w=.ok (.int .u8 22) w:=by kernel_rfl
theorem Kfr (w:World):((ReflectliteType.abiMethod fun t=>(fun a:Nat=>Value.int IntKind.u8 (a:Int)) <$> Rtype.kind t) #[.pointer (some ⟨17,187,none⟩)]).run Tryz.prog w=.ok (.int .u8 22) w:=by kernel_rfl
theorem Jo1 (a:Addr)(w:World):(ReflectliteValue.parts (.agg #[.pointer (some ⟨17,210,none⟩),.pointer (some a),.int .u64 150])).run Tryz.prog w=.ok (some (210,a,150)) w:=by kernel_rfl
theorem Jyr (a p:Addr)(W:World)(ha:W.cell? a=some (.pointer (some p))) :
  (ReflectliteValue.method (ReflectliteValue.valueError "reflectlite.Value.IsNil" 0) ReflectliteValue.isNil #[.agg #[.pointer (some ⟨17, 210, none⟩), .pointer (some a), .int .u64 150]]).run Tryz.prog W = .ok (.bool false) W := by
 rw[rlm]
 simp only[Og8,Jo1,Result.andThen]
 simp[ReflectliteValue.isNil,loadVar,isAgg,underlying,Tryz.underlying210,ha,Result.andThen]
theorem Kd1 (w:World):(ReflectliteType.method ReflectliteType.elem #[.agg #[.pointer (some ⟨17,210,none⟩)]]).run Tryz.prog w=.ok (.iface 302 (.agg #[.pointer (some ⟨17,187,none⟩)])) w:=by kernel_rfl
theorem Jnl (w : World) : (ReflectliteType.relation "Implements" ReflectliteType.implements_ #[.agg #[.pointer (some ⟨17, 187, none⟩)], .iface 302 (.agg #[.pointer (some ⟨17, 108, none⟩)])]).run Tryz.prog w = .ok (.bool true) w := by kernel_rfl
theorem Jus (e:Addr)(w:World):(ReflectliteValue.unpack (.iface 187 (.pointer (some e)))).run Tryz.prog w
  = .ok (.agg #[.pointer (some ⟨17,187,none⟩),.pointer (some ⟨w.heap.size,0,none⟩),.int .u64 150]) (w.alloc (.cells #[.pointer (some e)] 187)):=by kernel_rfl
theorem Jz9 (w:World):(Rtype.elem? 210).run Tryz.prog w=.ok (some 187) w:=by kernel_rfl
theorem Kif (p:Addr)(w:World):(ReflectliteValue.mk 187 p ReflectliteValue.flagAddr).run Tryz.prog w=.ok (.agg #[.pointer (some ⟨17,187,none⟩),.pointer (some p),.int .u64 406]) w:=by kernel_rfl
theorem Kdi (a p:Addr)(W:World)(ha:W.cell? a=some (.pointer (some p))) :
  (ReflectliteValue.method (ReflectliteValue.valueError "reflectlite.Value.Elem" 0) ReflectliteValue.elem #[.agg #[.pointer (some ⟨17, 210, none⟩), .pointer (some a), .int .u64 150]]).run Tryz.prog W
   = .ok (.agg #[.pointer (some ⟨17,187,none⟩),.pointer (some p),.int .u64 406]) W:=by
 rw[rlm]
 simp only[Og8,Jo1,Result.andThen]
 simp[ReflectliteValue.elem,loadVar,isAgg,underlying,Tryz.underlying210,ha,Result.andThen,Jz9,Kif]
theorem Ka5 (a:Addr)(w:World):(ReflectliteValue.parts (.agg #[.pointer (some ⟨17,187,none⟩),.pointer (some a),.int .u64 406])).run Tryz.prog w=.ok (some (187,a,406)) w:=by kernel_rfl
theorem Ker (a:Addr)(w:World):(ReflectliteValue.parts (.agg #[.pointer (some ⟨17,187,none⟩),.pointer (some a),.int .u64 150])).run Tryz.prog w=.ok (some (187,a,150)) w:=by kernel_rfl
theorem Kbn (w:World):(Rtype.directlyAssignable 187 187).run Tryz.prog w=.ok true w:=by kernel_rfl
theorem Khg (A b e:Addr)(old:Value)(W:World)(H:W.cell? b=some (.pointer (some e)))(J:W.cell? A=some old)(I:W.frozen? A=false) :
  (ReflectliteValue.set #[.agg #[.pointer (some ⟨17,187,none⟩),.pointer (some A),.int .u64 406],.agg #[.pointer (some ⟨17,187,none⟩),.pointer (some b),.int .u64 150]]).run Tryz.prog W
   = .ok (.tuple #[]) (W.setCell A (.pointer (some e))):=by
 rw[rls]
 simp only[Og8,Ka5,Ker,Result.andThen]
 simp[ReflectliteValue.flagAddr,loadVar,isAgg,underlying,Tryz.underlying187,H,Result.andThen,Kbn,storeVar,Value.cells,storeCells,Addr.add]
 rw[run_store Tryz.prog W A _ _ (by rfl)]
 simp[J,I]
theorem Jpp (t:Addr)(w:World):(ReflectliteValue.unpack (.iface 212 (.pointer (some t)))).run Tryz.prog w
  = .ok (.agg #[.pointer (some ⟨17,212,none⟩),.pointer (some ⟨w.heap.size,0,none⟩),.int .u64 150]) (w.alloc (.cells #[.pointer (some t)] 212)):=by kernel_rfl
theorem Kbm (a : Addr) (w : World) : (ReflectliteValue.methodAny (ReflectliteValue.valueError "reflectlite.Value.Type" 0) (fun t _ _ _ => ReflectliteType.toType t) #[.agg #[.pointer (some ⟨17, 212, none⟩), .pointer (some a), .int .u64 150]]).run Tryz.prog w
  = .ok (.iface 302 (.agg #[.pointer (some ⟨17,212,none⟩)])) w:=by kernel_rfl
theorem Jz1 (w:World):((ReflectliteType.abiMethod fun t=>(fun a:Nat=>Value.int IntKind.u8 (a:Int)) <$> Rtype.kind t) #[.pointer (some ⟨17,212,none⟩)]).run Tryz.prog w=.ok (.int .u8 22) w:=by kernel_rfl
theorem Kd9 (w:World):((ReflectliteType.abiMethod fun t=>(fun a:Nat=>Value.int IntKind.u8 (a:Int)) <$> Rtype.kind t) #[.pointer (some ⟨17,211,none⟩)]).run Tryz.prog w=.ok (.int .u8 22) w:=by kernel_rfl
theorem Jm0 (a:Addr)(w:World):(ReflectliteValue.parts (.agg #[.pointer (some ⟨17,212,none⟩),.pointer (some a),.int .u64 150])).run Tryz.prog w=.ok (some (212,a,150)) w:=by kernel_rfl
theorem Jt6 (a p:Addr)(W:World)(ha:W.cell? a=some (.pointer (some p))) :
  (ReflectliteValue.method (ReflectliteValue.valueError "reflectlite.Value.IsNil" 0) ReflectliteValue.isNil #[.agg #[.pointer (some ⟨17, 212, none⟩), .pointer (some a), .int .u64 150]]).run Tryz.prog W = .ok (.bool false) W := by
 rw[rlm]
 simp only[Og8,Jm0,Result.andThen]
 simp[ReflectliteValue.isNil,loadVar,isAgg,underlying,Tryz.underlying212,ha,Result.andThen]
theorem Kab (w:World):(ReflectliteType.method ReflectliteType.elem #[.agg #[.pointer (some ⟨17,212,none⟩)]]).run Tryz.prog w=.ok (.iface 302 (.agg #[.pointer (some ⟨17,211,none⟩)])) w:=by kernel_rfl
theorem Jmj (w : World) : (ReflectliteType.relation "Implements" ReflectliteType.implements_ #[.agg #[.pointer (some ⟨17, 211, none⟩)], .iface 302 (.agg #[.pointer (some ⟨17, 108, none⟩)])]).run Tryz.prog w = .ok (.bool true) w := by kernel_rfl
theorem Jst (e:Addr)(w:World):(ReflectliteValue.unpack (.iface 211 (.pointer (some e)))).run Tryz.prog w
  = .ok (.agg #[.pointer (some ⟨17,211,none⟩),.pointer (some ⟨w.heap.size,0,none⟩),.int .u64 150]) (w.alloc (.cells #[.pointer (some e)] 211)):=by kernel_rfl
theorem Jub (w:World):(Rtype.elem? 212).run Tryz.prog w=.ok (some 211) w:=by kernel_rfl
theorem Kg6 (p:Addr)(w:World):(ReflectliteValue.mk 211 p ReflectliteValue.flagAddr).run Tryz.prog w=.ok (.agg #[.pointer (some ⟨17,211,none⟩),.pointer (some p),.int .u64 406]) w:=by kernel_rfl
theorem Jyy (a p:Addr)(W:World)(ha:W.cell? a=some (.pointer (some p))) :
  (ReflectliteValue.method (ReflectliteValue.valueError "reflectlite.Value.Elem" 0) ReflectliteValue.elem #[.agg #[.pointer (some ⟨17, 212, none⟩), .pointer (some a), .int .u64 150]]).run Tryz.prog W
   = .ok (.agg #[.pointer (some ⟨17,211,none⟩),.pointer (some p),.int .u64 406]) W:=by
 rw[rlm]
 simp only[Og8,Jm0,Result.andThen]
 simp[ReflectliteValue.elem,loadVar,isAgg,underlying,Tryz.underlying212,ha,Result.andThen,Jub,Kg6]
theorem Jun (a:Addr)(w:World):(ReflectliteValue.parts (.agg #[.pointer (some ⟨17,211,none⟩),.pointer (some a),.int .u64 406])).run Tryz.prog w=.ok (some (211,a,406)) w:=by kernel_rfl
theorem Kbd (a:Addr)(w:World):(ReflectliteValue.parts (.agg #[.pointer (some ⟨17,211,none⟩),.pointer (some a),.int .u64 150])).run Tryz.prog w=.ok (some (211,a,150)) w:=by kernel_rfl
theorem Jva (w:World):(Rtype.directlyAssignable 211 211).run Tryz.prog w=.ok true w:=by kernel_rfl
theorem Kfw (A b e:Addr)(old:Value)(W:World)(H:W.cell? b=some (.pointer (some e)))(J:W.cell? A=some old)(I:W.frozen? A=false) :
  (ReflectliteValue.set #[.agg #[.pointer (some ⟨17,211,none⟩),.pointer (some A),.int .u64 406],.agg #[.pointer (some ⟨17,211,none⟩),.pointer (some b),.int .u64 150]]).run Tryz.prog W
   = .ok (.tuple #[]) (W.setCell A (.pointer (some e))):=by
 rw[rls]
 simp only[Og8,Jun,Kbd,Result.andThen]
 simp[ReflectliteValue.flagAddr,loadVar,isAgg,underlying,Tryz.underlying211,H,Result.andThen,Jva,storeVar,Value.cells,storeCells,Addr.add]
 rw[run_store Tryz.prog W A _ _ (by rfl)]
 simp[J,I]
theorem Jqp (t:Addr)(w:World):(ReflectliteValue.unpack (.iface 199 (.pointer (some t)))).run Tryz.prog w
  = .ok (.agg #[.pointer (some ⟨17,199,none⟩),.pointer (some ⟨w.heap.size,0,none⟩),.int .u64 150]) (w.alloc (.cells #[.pointer (some t)] 199)):=by kernel_rfl
theorem Kax (a : Addr) (w : World) : (ReflectliteValue.methodAny (ReflectliteValue.valueError "reflectlite.Value.Type" 0) (fun t _ _ _ => ReflectliteType.toType t) #[.agg #[.pointer (some ⟨17, 199, none⟩), .pointer (some a), .int .u64 150]]).run Tryz.prog w
  = .ok (.iface 302 (.agg #[.pointer (some ⟨17,199,none⟩)])) w:=by kernel_rfl
theorem Jzd (w:World):((ReflectliteType.abiMethod fun t=>(fun a:Nat=>Value.int IntKind.u8 (a:Int)) <$> Rtype.kind t) #[.pointer (some ⟨17,199,none⟩)]).run Tryz.prog w=.ok (.int .u8 22) w:=by kernel_rfl
theorem Kb3 (w:World):((ReflectliteType.abiMethod fun t=>(fun a:Nat=>Value.int IntKind.u8 (a:Int)) <$> Rtype.kind t) #[.pointer (some ⟨17,197,none⟩)]).run Tryz.prog w=.ok (.int .u8 22) w:=by kernel_rfl
theorem Jlu (a:Addr)(w:World):(ReflectliteValue.parts (.agg #[.pointer (some ⟨17,199,none⟩),.pointer (some a),.int .u64 150])).run Tryz.prog w=.ok (some (199,a,150)) w:=by kernel_rfl
theorem Jul (a p:Addr)(W:World)(ha:W.cell? a=some (.pointer (some p))) :
  (ReflectliteValue.method (ReflectliteValue.valueError "reflectlite.Value.IsNil" 0) ReflectliteValue.isNil #[.agg #[.pointer (some ⟨17, 199, none⟩), .pointer (some a), .int .u64 150]]).run Tryz.prog W = .ok (.bool false) W := by
 rw[rlm]
 simp only[Og8,Jlu,Result.andThen]
 simp[ReflectliteValue.isNil,loadVar,isAgg,underlying,Tryz.underlying199,ha,Result.andThen]
theorem Kav (w:World):(ReflectliteType.method ReflectliteType.elem #[.agg #[.pointer (some ⟨17,199,none⟩)]]).run Tryz.prog w=.ok (.iface 302 (.agg #[.pointer (some ⟨17,197,none⟩)])) w:=by kernel_rfl
theorem Jnh (w : World) : (ReflectliteType.relation "Implements" ReflectliteType.implements_ #[.agg #[.pointer (some ⟨17, 197, none⟩)], .iface 302 (.agg #[.pointer (some ⟨17, 108, none⟩)])]).run Tryz.prog w = .ok (.bool true) w := by kernel_rfl
theorem Jri (e:Addr)(w:World):(ReflectliteValue.unpack (.iface 197 (.pointer (some e)))).run Tryz.prog w
  = .ok (.agg #[.pointer (some ⟨17,197,none⟩),.pointer (some ⟨w.heap.size,0,none⟩),.int .u64 150]) (w.alloc (.cells #[.pointer (some e)] 197)):=by kernel_rfl
theorem Jwy (w:World):(Rtype.elem? 199).run Tryz.prog w=.ok (some 197) w:=by kernel_rfl
theorem Kg7 (p:Addr)(w:World):(ReflectliteValue.mk 197 p ReflectliteValue.flagAddr).run Tryz.prog w=.ok (.agg #[.pointer (some ⟨17,197,none⟩),.pointer (some p),.int .u64 406]) w:=by kernel_rfl
theorem Jz4 (a p:Addr)(W:World)(ha:W.cell? a=some (.pointer (some p))) :
  (ReflectliteValue.method (ReflectliteValue.valueError "reflectlite.Value.Elem" 0) ReflectliteValue.elem #[.agg #[.pointer (some ⟨17, 199, none⟩), .pointer (some a), .int .u64 150]]).run Tryz.prog W
   = .ok (.agg #[.pointer (some ⟨17,197,none⟩),.pointer (some p),.int .u64 406]) W:=by
 rw[rlm]
 simp only[Og8,Jlu,Result.andThen]
 simp[ReflectliteValue.elem,loadVar,isAgg,underlying,Tryz.underlying199,ha,Result.andThen,Jwy,Kg7]
theorem Juk (a:Addr)(w:World):(ReflectliteValue.parts (.agg #[.pointer (some ⟨17,197,none⟩),.pointer (some a),.int .u64 406])).run Tryz.prog w=.ok (some (197,a,406)) w:=by kernel_rfl
theorem Kaa (a:Addr)(w:World):(ReflectliteValue.parts (.agg #[.pointer (some ⟨17,197,none⟩),.pointer (some a),.int .u64 150])).run Tryz.prog w=.ok (some (197,a,150)) w:=by kernel_rfl
theorem Jxa (w:World):(Rtype.directlyAssignable 197 197).run Tryz.prog w=.ok true w:=by kernel_rfl
theorem Kf9 (A b e:Addr)(old:Value)(W:World)(H:W.cell? b=some (.pointer (some e)))(J:W.cell? A=some old)(I:W.frozen? A=false) :
  (ReflectliteValue.set #[.agg #[.pointer (some ⟨17,197,none⟩),.pointer (some A),.int .u64 406],.agg #[.pointer (some ⟨17,197,none⟩),.pointer (some b),.int .u64 150]]).run Tryz.prog W
   = .ok (.tuple #[]) (W.setCell A (.pointer (some e))):=by
 rw[rls]
 simp only[Og8,Juk,Kaa,Result.andThen]
 simp[ReflectliteValue.flagAddr,loadVar,isAgg,underlying,Tryz.underlying197,H,Result.andThen,Jxa,storeVar,Value.cells,storeCells,Addr.add]
 rw[run_store Tryz.prog W A _ _ (by rfl)]
 simp[J,I]
theorem Jp4 (t:Addr)(w:World):(ReflectliteValue.unpack (.iface 204 (.pointer (some t)))).run Tryz.prog w
  = .ok (.agg #[.pointer (some ⟨17,204,none⟩),.pointer (some ⟨w.heap.size,0,none⟩),.int .u64 150]) (w.alloc (.cells #[.pointer (some t)] 204)):=by kernel_rfl
theorem Kbp (a : Addr) (w : World) : (ReflectliteValue.methodAny (ReflectliteValue.valueError "reflectlite.Value.Type" 0) (fun t _ _ _ => ReflectliteType.toType t) #[.agg #[.pointer (some ⟨17, 204, none⟩), .pointer (some a), .int .u64 150]]).run Tryz.prog w
  = .ok (.iface 302 (.agg #[.pointer (some ⟨17,204,none⟩)])) w:=by kernel_rfl
theorem Kbc (w:World):((ReflectliteType.abiMethod fun t=>(fun a:Nat=>Value.int IntKind.u8 (a:Int)) <$> Rtype.kind t) #[.pointer (some ⟨17,204,none⟩)]).run Tryz.prog w=.ok (.int .u8 22) w:=by kernel_rfl
theorem Kez (w:World):((ReflectliteType.abiMethod fun t=>(fun a:Nat=>Value.int IntKind.u8 (a:Int)) <$> Rtype.kind t) #[.pointer (some ⟨17,202,none⟩)]).run Tryz.prog w=.ok (.int .u8 22) w:=by kernel_rfl
theorem Jlt (a:Addr)(w:World):(ReflectliteValue.parts (.agg #[.pointer (some ⟨17,204,none⟩),.pointer (some a),.int .u64 150])).run Tryz.prog w=.ok (some (204,a,150)) w:=by kernel_rfl
theorem Jvk (a p:Addr)(W:World)(ha:W.cell? a=some (.pointer (some p))) :
  (ReflectliteValue.method (ReflectliteValue.valueError "reflectlite.Value.IsNil" 0) ReflectliteValue.isNil #[.agg #[.pointer (some ⟨17, 204, none⟩), .pointer (some a), .int .u64 150]]).run Tryz.prog W = .ok (.bool false) W := by
 rw[rlm]
 simp only[Og8,Jlt,Result.andThen]
 simp[ReflectliteValue.isNil,loadVar,isAgg,underlying,Tryz.underlying204,ha,Result.andThen]
theorem Jyz (w:World):(ReflectliteType.method ReflectliteType.elem #[.agg #[.pointer (some ⟨17,204,none⟩)]]).run Tryz.prog w=.ok (.iface 302 (.agg #[.pointer (some ⟨17,202,none⟩)])) w:=by kernel_rfl
theorem Jmk (w : World) : (ReflectliteType.relation "Implements" ReflectliteType.implements_ #[.agg #[.pointer (some ⟨17, 202, none⟩)], .iface 302 (.agg #[.pointer (some ⟨17, 108, none⟩)])]).run Tryz.prog w = .ok (.bool true) w := by kernel_rfl
theorem Jrw (e:Addr)(w:World):(ReflectliteValue.unpack (.iface 202 (.pointer (some e)))).run Tryz.prog w
  = .ok (.agg #[.pointer (some ⟨17,202,none⟩),.pointer (some ⟨w.heap.size,0,none⟩),.int .u64 150]) (w.alloc (.cells #[.pointer (some e)] 202)):=by kernel_rfl
theorem Jw3 (w:World):(Rtype.elem? 204).run Tryz.prog w=.ok (some 202) w:=by kernel_rfl
theorem Kg1 (p:Addr)(w:World):(ReflectliteValue.mk 202 p ReflectliteValue.flagAddr).run Tryz.prog w=.ok (.agg #[.pointer (some ⟨17,202,none⟩),.pointer (some p),.int .u64 406]) w:=by kernel_rfl
theorem Jzp (a p:Addr)(W:World)(ha:W.cell? a=some (.pointer (some p))) :
  (ReflectliteValue.method (ReflectliteValue.valueError "reflectlite.Value.Elem" 0) ReflectliteValue.elem #[.agg #[.pointer (some ⟨17, 204, none⟩), .pointer (some a), .int .u64 150]]).run Tryz.prog W
   = .ok (.agg #[.pointer (some ⟨17,202,none⟩),.pointer (some p),.int .u64 406]) W:=by
 rw[rlm]
 simp only[Og8,Jlt,Result.andThen]
 simp[ReflectliteValue.elem,loadVar,isAgg,underlying,Tryz.underlying204,ha,Result.andThen,Jw3,Kg1]
theorem Jw4 (a:Addr)(w:World):(ReflectliteValue.parts (.agg #[.pointer (some ⟨17,202,none⟩),.pointer (some a),.int .u64 406])).run Tryz.prog w=.ok (some (202,a,406)) w:=by kernel_rfl
theorem Jys (a:Addr)(w:World):(ReflectliteValue.parts (.agg #[.pointer (some ⟨17,202,none⟩),.pointer (some a),.int .u64 150])).run Tryz.prog w=.ok (some (202,a,150)) w:=by kernel_rfl
theorem Juf (w:World):(Rtype.directlyAssignable 202 202).run Tryz.prog w=.ok true w:=by kernel_rfl
theorem Kfj (A b e:Addr)(old:Value)(W:World)(H:W.cell? b=some (.pointer (some e)))(J:W.cell? A=some old)(I:W.frozen? A=false) :
  (ReflectliteValue.set #[.agg #[.pointer (some ⟨17,202,none⟩),.pointer (some A),.int .u64 406],.agg #[.pointer (some ⟨17,202,none⟩),.pointer (some b),.int .u64 150]]).run Tryz.prog W
   = .ok (.tuple #[]) (W.setCell A (.pointer (some e))):=by
 rw[rls]
 simp only[Og8,Jw4,Jys,Result.andThen]
 simp[ReflectliteValue.flagAddr,loadVar,isAgg,underlying,Tryz.underlying202,H,Result.andThen,Juf,storeVar,Value.cells,storeCells,Addr.add]
 rw[run_store Tryz.prog W A _ _ (by rfl)]
 simp[J,I]
theorem Jtd (t:Addr)(w:World):(ReflectliteValue.unpack (.iface 207 (.pointer (some t)))).run Tryz.prog w
  = .ok (.agg #[.pointer (some ⟨17,207,none⟩),.pointer (some ⟨w.heap.size,0,none⟩),.int .u64 150]) (w.alloc (.cells #[.pointer (some t)] 207)):=by kernel_rfl
theorem Kby (a : Addr) (w : World) : (ReflectliteValue.methodAny (ReflectliteValue.valueError "reflectlite.Value.Type" 0) (fun t _ _ _ => ReflectliteType.toType t) #[.agg #[.pointer (some ⟨17, 207, none⟩), .pointer (some a), .int .u64 150]]).run Tryz.prog w
  = .ok (.iface 302 (.agg #[.pointer (some ⟨17,207,none⟩)])) w:=by kernel_rfl
theorem Kc8 (w:World):((ReflectliteType.abiMethod fun t=>(fun a:Nat=>Value.int IntKind.u8 (a:Int)) <$> Rtype.kind t) #[.pointer (some ⟨17,207,none⟩)]).run Tryz.prog w=.ok (.int .u8 22) w:=by kernel_rfl
theorem Kga (w:World):((ReflectliteType.abiMethod fun t=>(fun a:Nat=>Value.int IntKind.u8 (a:Int)) <$> Rtype.kind t) #[.pointer (some ⟨17,203,none⟩)]).run Tryz.prog w=.ok (.int .u8 22) w:=by kernel_rfl
theorem Jn5 (a:Addr)(w:World):(ReflectliteValue.parts (.agg #[.pointer (some ⟨17,207,none⟩),.pointer (some a),.int .u64 150])).run Tryz.prog w=.ok (some (207,a,150)) w:=by kernel_rfl
theorem Kaw (a p:Addr)(W:World)(ha:W.cell? a=some (.pointer (some p))) :
  (ReflectliteValue.method (ReflectliteValue.valueError "reflectlite.Value.IsNil" 0) ReflectliteValue.isNil #[.agg #[.pointer (some ⟨17, 207, none⟩), .pointer (some a), .int .u64 150]]).run Tryz.prog W = .ok (.bool false) W := by
 rw[rlm]
 simp only[Og8,Jn5,Result.andThen]
 simp[ReflectliteValue.isNil,loadVar,isAgg,underlying,Tryz.underlying207,ha,Result.andThen]
theorem Kcj (w:World):(ReflectliteType.method ReflectliteType.elem #[.agg #[.pointer (some ⟨17,207,none⟩)]]).run Tryz.prog w=.ok (.iface 302 (.agg #[.pointer (some ⟨17,203,none⟩)])) w:=by kernel_rfl
theorem Jn1 (w : World) : (ReflectliteType.relation "Implements" ReflectliteType.implements_ #[.agg #[.pointer (some ⟨17, 203, none⟩)], .iface 302 (.agg #[.pointer (some ⟨17, 108, none⟩)])]).run Tryz.prog w = .ok (.bool true) w := by kernel_rfl
theorem Jw9 (e:Addr)(w:World):(ReflectliteValue.unpack (.iface 203 (.pointer (some e)))).run Tryz.prog w
  = .ok (.agg #[.pointer (some ⟨17,203,none⟩),.pointer (some ⟨w.heap.size,0,none⟩),.int .u64 150]) (w.alloc (.cells #[.pointer (some e)] 203)):=by kernel_rfl
theorem Kbl (w:World):(Rtype.elem? 207).run Tryz.prog w=.ok (some 203) w:=by kernel_rfl
theorem Kh0 (p:Addr)(w:World):(ReflectliteValue.mk 203 p ReflectliteValue.flagAddr).run Tryz.prog w=.ok (.agg #[.pointer (some ⟨17,203,none⟩),.pointer (some p),.int .u64 406]) w:=by kernel_rfl
theorem Kes (a p:Addr)(W:World)(ha:W.cell? a=some (.pointer (some p))) :
  (ReflectliteValue.method (ReflectliteValue.valueError "reflectlite.Value.Elem" 0) ReflectliteValue.elem #[.agg #[.pointer (some ⟨17, 207, none⟩), .pointer (some a), .int .u64 150]]).run Tryz.prog W
   = .ok (.agg #[.pointer (some ⟨17,203,none⟩),.pointer (some p),.int .u64 406]) W:=by
 rw[rlm]
 simp only[Og8,Jn5,Result.andThen]
 simp[ReflectliteValue.elem,loadVar,isAgg,underlying,Tryz.underlying207,ha,Result.andThen,Kbl,Kh0]
theorem Kao (a:Addr)(w:World):(ReflectliteValue.parts (.agg #[.pointer (some ⟨17,203,none⟩),.pointer (some a),.int .u64 406])).run Tryz.prog w=.ok (some (203,a,406)) w:=by kernel_rfl
theorem Kcg (a:Addr)(w:World):(ReflectliteValue.parts (.agg #[.pointer (some ⟨17,203,none⟩),.pointer (some a),.int .u64 150])).run Tryz.prog w=.ok (some (203,a,150)) w:=by kernel_rfl
theorem Kba (w:World):(Rtype.directlyAssignable 203 203).run Tryz.prog w=.ok true w:=by kernel_rfl
theorem Khd (A b e:Addr)(old:Value)(W:World)(H:W.cell? b=some (.pointer (some e)))(J:W.cell? A=some old)(I:W.frozen? A=false) :
  (ReflectliteValue.set #[.agg #[.pointer (some ⟨17,203,none⟩),.pointer (some A),.int .u64 406],.agg #[.pointer (some ⟨17,203,none⟩),.pointer (some b),.int .u64 150]]).run Tryz.prog W
   = .ok (.tuple #[]) (W.setCell A (.pointer (some e))):=by
 rw[rls]
 simp only[Og8,Kao,Kcg,Result.andThen]
 simp[ReflectliteValue.flagAddr,loadVar,isAgg,underlying,Tryz.underlying203,H,Result.andThen,Kba,storeVar,Value.cells,storeCells,Addr.add]
 rw[run_store Tryz.prog W A _ _ (by rfl)]
 simp[J,I]
structure IsT (tg pt:Nat):Prop where
 vP:∀ (t:Addr) (w:World),(ReflectliteValue.unpack (.iface pt (.pointer (some t)))).run Tryz.prog w=.ok (.agg #[.pointer (some ⟨17,pt,none⟩),.pointer (some ⟨w.heap.size,0,none⟩),.int .u64 150]) (w.alloc (.cells #[.pointer (some t)] pt))
 tyP : ∀ (a : Addr) (w : World), (ReflectliteValue.methodAny (ReflectliteValue.valueError "reflectlite.Value.Type" 0) (fun t _ _ _ => ReflectliteType.toType t) #[.agg #[.pointer (some ⟨17, pt, none⟩), .pointer (some a), .int .u64 150]]).run Tryz.prog w = .ok (.iface 302 (.agg #[.pointer (some ⟨17, pt, none⟩)])) w
 kP:∀ w:World,((ReflectliteType.abiMethod fun t=>(fun a:Nat=>Value.int IntKind.u8 (a:Int)) <$> Rtype.kind t) #[.pointer (some ⟨17,pt,none⟩)]).run Tryz.prog w=.ok (.int .u8 22) w
 kT:∀ w:World,((ReflectliteType.abiMethod fun t=>(fun a:Nat=>Value.int IntKind.u8 (a:Int)) <$> Rtype.kind t) #[.pointer (some ⟨17,tg,none⟩)]).run Tryz.prog w=.ok (.int .u8 22) w
 nilP : ∀ (a p : Addr) (W : World), W.cell? a = some (.pointer (some p)) → (ReflectliteValue.method (ReflectliteValue.valueError "reflectlite.Value.IsNil" 0) ReflectliteValue.isNil #[.agg #[.pointer (some ⟨17, pt, none⟩), .pointer (some a), .int .u64 150]]).run Tryz.prog W = .ok (.bool false) W
 elP:∀ w:World,(ReflectliteType.method ReflectliteType.elem #[.agg #[.pointer (some ⟨17,pt,none⟩)]]).run Tryz.prog w=.ok (.iface 302 (.agg #[.pointer (some ⟨17,tg,none⟩)])) w
 imp : ∀ w : World, (ReflectliteType.relation "Implements" ReflectliteType.implements_ #[.agg #[.pointer (some ⟨17, tg, none⟩)], .iface 302 (.agg #[.pointer (some ⟨17, 108, none⟩)])]).run Tryz.prog w = .ok (.bool true) w
 vT:∀ (e:Addr) (w:World),(ReflectliteValue.unpack (.iface tg (.pointer (some e)))).run Tryz.prog w=.ok (.agg #[.pointer (some ⟨17,tg,none⟩),.pointer (some ⟨w.heap.size,0,none⟩),.int .u64 150]) (w.alloc (.cells #[.pointer (some e)] tg))
 eV : ∀ (a p : Addr) (W : World), W.cell? a = some (.pointer (some p)) → (ReflectliteValue.method (ReflectliteValue.valueError "reflectlite.Value.Elem" 0) ReflectliteValue.elem #[.agg #[.pointer (some ⟨17, pt, none⟩), .pointer (some a), .int .u64 150]]).run Tryz.prog W = .ok (.agg #[.pointer (some ⟨17, tg, none⟩), .pointer (some p), .int .u64 406]) W
 st:∀ (ta b e:Addr) (old:Value) (W:World),W.cell? b=some (.pointer (some e))→W.cell? ta=some old→W.frozen? ta=false→(ReflectliteValue.set #[.agg #[.pointer (some ⟨17,tg,none⟩),.pointer (some ta),.int .u64 406],.agg #[.pointer (some ⟨17,tg,none⟩),.pointer (some b),.int .u64 150]]).run Tryz.prog W=.ok (.tuple #[]) (W.setCell ta (.pointer (some e)))
 typ:∀ (v:Value) (w:World),(ReflectliteType.typeOf #[.iface tg v]).run Tryz.prog w=.ok (.iface 302 (.agg #[.pointer (some ⟨17,tg,none⟩)])) w
 self:Asg tg tg true
 root:Asg 528 tg false
theorem Kf1:IsT 187 210:=
 ⟨Jti,Kb5,Kdm,Kfr,Jyr,Kd1,Jnl,Jus,Kdi,Khg,Jab.typ,fun w=>by kernel_rfl,fun w=>by kernel_rfl⟩
theorem Kco:IsT 211 212:=
 ⟨Jpp,Kbm,Jz1,Kd9,Jt6,Kab,Jmj,Jst,Jyy,Kfw,Zi.typ,fun w=>by kernel_rfl,fun w=>by kernel_rfl⟩
theorem Kdd:IsT 197 199:=
 ⟨Jqp,Kax,Jzd,Kb3,Jul,Kav,Jnh,Jri,Jz4,Kf9,Jdg.typ,fun w=>by kernel_rfl,fun w=>by kernel_rfl⟩
theorem Kea:IsT 202 204:=
 ⟨Jp4,Kbp,Kbc,Kez,Jvk,Jyz,Jmk,Jrw,Jzp,Kfj,Jc8.typ,fun w=>by kernel_rfl,fun w=>by kernel_rfl⟩
theorem Jx1:IsT 203 207:=
 ⟨Jtd,Kby,Kc8,Kga,Kaw,Kcj,Jn1,Jw9,Kes,Khd,Ke7.typ,fun w=>by kernel_rfl,fun w=>by kernel_rfl⟩
end Go.Proofs.YtcaocabmioafcaaGreatDoor
