/- errors.As at the errors that the program makes, at its targets: closed facts on what Go's own text asks of types. -/
import Derived.Test.YtjbenncelbpbnaaGreatDoorEr
namespace Go.Proofs.YtjbenncelbpbnaaGreatDoor
open Go.RowKit Go.Extern.Stop Go.Stop Go.Extern
theorem rlm (z:Sem Value)(f:TypeId->Addr->Nat->Nat->Sem Value)v:
  ReflectliteValue.method z f #[v]=(do match <-ReflectliteValue.parts v with|none=>z|some (t,a,fl)=>f t a fl (fl % 32)):=rfl
theorem rls v x:ReflectliteValue.set #[v,x]=(do
  let (some (dst,a,fl),some (src,b,_)):=(<-ReflectliteValue.parts v,<-ReflectliteValue.parts x)
   | unsupported (.noEntry "extern/(internal/reflectlite.Value).Set.zeroValue")
  if fl / ReflectliteValue.flagAddr % 2 == 0 then unsupported (.noEntry "extern/(internal/reflectlite.Value).Set.unaddressable")
  let val <-loadVar src b
  if <-Rtype.directlyAssignable dst src then storeVar dst a val
  else if <-Rtype.implements dst src then
   if (<-Rtype.kind src)==20 then
    match val with
    | .nilIface => unsupported (.noEntry "extern/reflectlite: a nil value of one interface type handed on as a value of another")
    |_=>storeVar dst a val
   else storeVar dst a (.iface src val)
  else panicString ("reflectlite.Set: value of type " ++ (<- Rtype.spelt src) ++ " is not assignable to type " ++ (<- Rtype.spelt dst))
  pure (.tuple #[])):=rfl
theorem Jti t w:(ReflectliteValue.unpack (.iface 155 (.pointer (some t)))).run Tryz.prog w
  = .ok (.agg #[.pointer (some ⟨17,155,none⟩),.pointer (some ⟨w.heap.size,0,none⟩),.int .u64 150]) (w.alloc (.cells #[.pointer (some t)] 155)):=zK
theorem Kb5 a w: (ReflectliteValue.methodAny (ReflectliteValue.valueError "reflectlite.Value.Type" 0) (fun t _ _ _ => ReflectliteType.toType t) #[.agg #[.pointer (some ⟨17, 155, none⟩), .pointer (some a), .int .u64 150]]).run Tryz.prog w
  = .ok (.iface 224 (.agg #[.pointer (some ⟨17,155,none⟩)])) w:=zK
theorem Kdm w:((ReflectliteType.abiMethod fun t=>(fun a:Nat=>Value.int IntKind.u8 (a:Int)) <$> Rtype.kind t) #[.pointer (some ⟨17,155,none⟩)]).run Tryz.prog w=.ok (.int .u8 22) w:=zK
theorem Kfr w:((ReflectliteType.abiMethod fun t=>(fun a:Nat=>Value.int IntKind.u8 (a:Int)) <$> Rtype.kind t) #[.pointer (some ⟨17,123,none⟩)]).run Tryz.prog w=.ok (.int .u8 22) w:=zK
theorem Jo1 a w:(ReflectliteValue.parts (.agg #[.pointer (some ⟨17,155,none⟩),.pointer (some a),.int .u64 150])).run Tryz.prog w=.ok (some (155,a,150)) w:=zK
theorem Jyr a p W(ha:W.cell? a=some (.pointer (some p))):
  (ReflectliteValue.method (ReflectliteValue.valueError "reflectlite.Value.IsNil" 0) ReflectliteValue.isNil #[.agg #[.pointer (some ⟨17, 155, none⟩), .pointer (some a), .int .u64 150]]).run Tryz.prog W = .ok (.bool false) W := by
 rw[rlm];simp only[Og8,Jo1,Result.andThen];simp[ReflectliteValue.isNil,loadVar,isAgg,underlying,Tryz.underlying155,ha,Result.andThen]
theorem Kd1 w:(ReflectliteType.method ReflectliteType.elem #[.agg #[.pointer (some ⟨17,155,none⟩)]]).run Tryz.prog w=.ok (.iface 224 (.agg #[.pointer (some ⟨17,123,none⟩)])) w:=zK
theorem Jnl w: (ReflectliteType.relation "Implements" ReflectliteType.implements_ #[.agg #[.pointer (some ⟨17, 123, none⟩)], .iface 224 (.agg #[.pointer (some ⟨17, 78, none⟩)])]).run Tryz.prog w = .ok (.bool true) w := by kernel_rfl
theorem Jus e w:(ReflectliteValue.unpack (.iface 123 (.pointer (some e)))).run Tryz.prog w
  = .ok (.agg #[.pointer (some ⟨17,123,none⟩),.pointer (some ⟨w.heap.size,0,none⟩),.int .u64 150]) (w.alloc (.cells #[.pointer (some e)] 123)):=zK
theorem Jz9 w:(Rtype.elem? 155).run Tryz.prog w=.ok (some 123) w:=zK
theorem Kif p w:(ReflectliteValue.mk 123 p ReflectliteValue.flagAddr).run Tryz.prog w=.ok (.agg #[.pointer (some ⟨17,123,none⟩),.pointer (some p),.int .u64 406]) w:=zK
theorem Kdi a p W(ha:W.cell? a=some (.pointer (some p))):
  (ReflectliteValue.method (ReflectliteValue.valueError "reflectlite.Value.Elem" 0) ReflectliteValue.elem #[.agg #[.pointer (some ⟨17, 155, none⟩), .pointer (some a), .int .u64 150]]).run Tryz.prog W
   = .ok (.agg #[.pointer (some ⟨17,123,none⟩),.pointer (some p),.int .u64 406]) W:=by
 rw[rlm];simp only[Og8,Jo1,Result.andThen];simp[ReflectliteValue.elem,loadVar,isAgg,underlying,Tryz.underlying155,ha,Result.andThen,Jz9,Kif]
theorem Ka5 a w:(ReflectliteValue.parts (.agg #[.pointer (some ⟨17,123,none⟩),.pointer (some a),.int .u64 406])).run Tryz.prog w=.ok (some (123,a,406)) w:=zK
theorem Ker a w:(ReflectliteValue.parts (.agg #[.pointer (some ⟨17,123,none⟩),.pointer (some a),.int .u64 150])).run Tryz.prog w=.ok (some (123,a,150)) w:=zK
theorem Kbn w:(Rtype.directlyAssignable 123 123).run Tryz.prog w=.ok true w:=zK
theorem zas {p:Prop}(h:p:=by rw[run_store Tryz.prog W y _ _ zR];simp[ht,hf]):p:=h
theorem Khg y b e old W(hb:W.cell? b=some (.pointer (some e)))(ht:W.cell? y=some old)(hf:W.frozen? y=false):
  (ReflectliteValue.set #[.agg #[.pointer (some ⟨17,123,none⟩),.pointer (some y),.int .u64 406],.agg #[.pointer (some ⟨17,123,none⟩),.pointer (some b),.int .u64 150]]).run Tryz.prog W
   = .ok (.tuple #[]) (W.setCell y (.pointer (some e))):=by
 rw[rls];simp only[Og8,Ka5,Ker,Result.andThen];simp[ReflectliteValue.flagAddr,loadVar,isAgg,underlying,Tryz.underlying123,hb,Result.andThen,Kbn,storeVar,Value.cells,storeCells,Addr.add];exact zas
theorem Jpp t w:(ReflectliteValue.unpack (.iface 157 (.pointer (some t)))).run Tryz.prog w
  = .ok (.agg #[.pointer (some ⟨17,157,none⟩),.pointer (some ⟨w.heap.size,0,none⟩),.int .u64 150]) (w.alloc (.cells #[.pointer (some t)] 157)):=zK
theorem Kbm a w: (ReflectliteValue.methodAny (ReflectliteValue.valueError "reflectlite.Value.Type" 0) (fun t _ _ _ => ReflectliteType.toType t) #[.agg #[.pointer (some ⟨17, 157, none⟩), .pointer (some a), .int .u64 150]]).run Tryz.prog w
  = .ok (.iface 224 (.agg #[.pointer (some ⟨17,157,none⟩)])) w:=zK
theorem Jz1 w:((ReflectliteType.abiMethod fun t=>(fun a:Nat=>Value.int IntKind.u8 (a:Int)) <$> Rtype.kind t) #[.pointer (some ⟨17,157,none⟩)]).run Tryz.prog w=.ok (.int .u8 22) w:=zK
theorem Kd9 w:((ReflectliteType.abiMethod fun t=>(fun a:Nat=>Value.int IntKind.u8 (a:Int)) <$> Rtype.kind t) #[.pointer (some ⟨17,156,none⟩)]).run Tryz.prog w=.ok (.int .u8 22) w:=zK
theorem Jm0 a w:(ReflectliteValue.parts (.agg #[.pointer (some ⟨17,157,none⟩),.pointer (some a),.int .u64 150])).run Tryz.prog w=.ok (some (157,a,150)) w:=zK
theorem Jt6 a p W(ha:W.cell? a=some (.pointer (some p))):
  (ReflectliteValue.method (ReflectliteValue.valueError "reflectlite.Value.IsNil" 0) ReflectliteValue.isNil #[.agg #[.pointer (some ⟨17, 157, none⟩), .pointer (some a), .int .u64 150]]).run Tryz.prog W = .ok (.bool false) W := by
 rw[rlm];simp only[Og8,Jm0,Result.andThen];simp[ReflectliteValue.isNil,loadVar,isAgg,underlying,Tryz.underlying157,ha,Result.andThen]
theorem Kab w:(ReflectliteType.method ReflectliteType.elem #[.agg #[.pointer (some ⟨17,157,none⟩)]]).run Tryz.prog w=.ok (.iface 224 (.agg #[.pointer (some ⟨17,156,none⟩)])) w:=zK
theorem Jmj w: (ReflectliteType.relation "Implements" ReflectliteType.implements_ #[.agg #[.pointer (some ⟨17, 156, none⟩)], .iface 224 (.agg #[.pointer (some ⟨17, 78, none⟩)])]).run Tryz.prog w = .ok (.bool true) w := by kernel_rfl
theorem Jst e w:(ReflectliteValue.unpack (.iface 156 (.pointer (some e)))).run Tryz.prog w
  = .ok (.agg #[.pointer (some ⟨17,156,none⟩),.pointer (some ⟨w.heap.size,0,none⟩),.int .u64 150]) (w.alloc (.cells #[.pointer (some e)] 156)):=zK
theorem Jub w:(Rtype.elem? 157).run Tryz.prog w=.ok (some 156) w:=zK
theorem Kg6 p w:(ReflectliteValue.mk 156 p ReflectliteValue.flagAddr).run Tryz.prog w=.ok (.agg #[.pointer (some ⟨17,156,none⟩),.pointer (some p),.int .u64 406]) w:=zK
theorem Jyy a p W(ha:W.cell? a=some (.pointer (some p))):
  (ReflectliteValue.method (ReflectliteValue.valueError "reflectlite.Value.Elem" 0) ReflectliteValue.elem #[.agg #[.pointer (some ⟨17, 157, none⟩), .pointer (some a), .int .u64 150]]).run Tryz.prog W
   = .ok (.agg #[.pointer (some ⟨17,156,none⟩),.pointer (some p),.int .u64 406]) W:=by
 rw[rlm];simp only[Og8,Jm0,Result.andThen];simp[ReflectliteValue.elem,loadVar,isAgg,underlying,Tryz.underlying157,ha,Result.andThen,Jub,Kg6]
theorem Jun a w:(ReflectliteValue.parts (.agg #[.pointer (some ⟨17,156,none⟩),.pointer (some a),.int .u64 406])).run Tryz.prog w=.ok (some (156,a,406)) w:=zK
theorem Kbd a w:(ReflectliteValue.parts (.agg #[.pointer (some ⟨17,156,none⟩),.pointer (some a),.int .u64 150])).run Tryz.prog w=.ok (some (156,a,150)) w:=zK
theorem Jva w:(Rtype.directlyAssignable 156 156).run Tryz.prog w=.ok true w:=zK
theorem Kfw y b e old W(hb:W.cell? b=some (.pointer (some e)))(ht:W.cell? y=some old)(hf:W.frozen? y=false):
  (ReflectliteValue.set #[.agg #[.pointer (some ⟨17,156,none⟩),.pointer (some y),.int .u64 406],.agg #[.pointer (some ⟨17,156,none⟩),.pointer (some b),.int .u64 150]]).run Tryz.prog W
   = .ok (.tuple #[]) (W.setCell y (.pointer (some e))):=by
 rw[rls];simp only[Og8,Jun,Kbd,Result.andThen];simp[ReflectliteValue.flagAddr,loadVar,isAgg,underlying,Tryz.underlying156,hb,Result.andThen,Jva,storeVar,Value.cells,storeCells,Addr.add];exact zas
theorem Jqp t w:(ReflectliteValue.unpack (.iface 146 (.pointer (some t)))).run Tryz.prog w
  = .ok (.agg #[.pointer (some ⟨17,146,none⟩),.pointer (some ⟨w.heap.size,0,none⟩),.int .u64 150]) (w.alloc (.cells #[.pointer (some t)] 146)):=zK
theorem Kax a w: (ReflectliteValue.methodAny (ReflectliteValue.valueError "reflectlite.Value.Type" 0) (fun t _ _ _ => ReflectliteType.toType t) #[.agg #[.pointer (some ⟨17, 146, none⟩), .pointer (some a), .int .u64 150]]).run Tryz.prog w
  = .ok (.iface 224 (.agg #[.pointer (some ⟨17,146,none⟩)])) w:=zK
theorem Jzd w:((ReflectliteType.abiMethod fun t=>(fun a:Nat=>Value.int IntKind.u8 (a:Int)) <$> Rtype.kind t) #[.pointer (some ⟨17,146,none⟩)]).run Tryz.prog w=.ok (.int .u8 22) w:=zK
theorem Kb3 w:((ReflectliteType.abiMethod fun t=>(fun a:Nat=>Value.int IntKind.u8 (a:Int)) <$> Rtype.kind t) #[.pointer (some ⟨17,105,none⟩)]).run Tryz.prog w=.ok (.int .u8 22) w:=zK
theorem Jlu a w:(ReflectliteValue.parts (.agg #[.pointer (some ⟨17,146,none⟩),.pointer (some a),.int .u64 150])).run Tryz.prog w=.ok (some (146,a,150)) w:=zK
theorem Jul a p W(ha:W.cell? a=some (.pointer (some p))):
  (ReflectliteValue.method (ReflectliteValue.valueError "reflectlite.Value.IsNil" 0) ReflectliteValue.isNil #[.agg #[.pointer (some ⟨17, 146, none⟩), .pointer (some a), .int .u64 150]]).run Tryz.prog W = .ok (.bool false) W := by
 rw[rlm];simp only[Og8,Jlu,Result.andThen];simp[ReflectliteValue.isNil,loadVar,isAgg,underlying,Tryz.underlying146,ha,Result.andThen]
theorem Kav w:(ReflectliteType.method ReflectliteType.elem #[.agg #[.pointer (some ⟨17,146,none⟩)]]).run Tryz.prog w=.ok (.iface 224 (.agg #[.pointer (some ⟨17,105,none⟩)])) w:=zK
theorem Jnh w: (ReflectliteType.relation "Implements" ReflectliteType.implements_ #[.agg #[.pointer (some ⟨17, 105, none⟩)], .iface 224 (.agg #[.pointer (some ⟨17, 78, none⟩)])]).run Tryz.prog w = .ok (.bool true) w := by kernel_rfl
theorem Jri e w:(ReflectliteValue.unpack (.iface 105 (.pointer (some e)))).run Tryz.prog w
  = .ok (.agg #[.pointer (some ⟨17,105,none⟩),.pointer (some ⟨w.heap.size,0,none⟩),.int .u64 150]) (w.alloc (.cells #[.pointer (some e)] 105)):=zK
theorem Jwy w:(Rtype.elem? 146).run Tryz.prog w=.ok (some 105) w:=zK
theorem Kg7 p w:(ReflectliteValue.mk 105 p ReflectliteValue.flagAddr).run Tryz.prog w=.ok (.agg #[.pointer (some ⟨17,105,none⟩),.pointer (some p),.int .u64 406]) w:=zK
theorem Jz4 a p W(ha:W.cell? a=some (.pointer (some p))):
  (ReflectliteValue.method (ReflectliteValue.valueError "reflectlite.Value.Elem" 0) ReflectliteValue.elem #[.agg #[.pointer (some ⟨17, 146, none⟩), .pointer (some a), .int .u64 150]]).run Tryz.prog W
   = .ok (.agg #[.pointer (some ⟨17,105,none⟩),.pointer (some p),.int .u64 406]) W:=by
 rw[rlm];simp only[Og8,Jlu,Result.andThen];simp[ReflectliteValue.elem,loadVar,isAgg,underlying,Tryz.underlying146,ha,Result.andThen,Jwy,Kg7]
theorem Juk a w:(ReflectliteValue.parts (.agg #[.pointer (some ⟨17,105,none⟩),.pointer (some a),.int .u64 406])).run Tryz.prog w=.ok (some (105,a,406)) w:=zK
theorem Kaa a w:(ReflectliteValue.parts (.agg #[.pointer (some ⟨17,105,none⟩),.pointer (some a),.int .u64 150])).run Tryz.prog w=.ok (some (105,a,150)) w:=zK
theorem Jxa w:(Rtype.directlyAssignable 105 105).run Tryz.prog w=.ok true w:=zK
theorem Kf9 y b e old W(hb:W.cell? b=some (.pointer (some e)))(ht:W.cell? y=some old)(hf:W.frozen? y=false):
  (ReflectliteValue.set #[.agg #[.pointer (some ⟨17,105,none⟩),.pointer (some y),.int .u64 406],.agg #[.pointer (some ⟨17,105,none⟩),.pointer (some b),.int .u64 150]]).run Tryz.prog W
   = .ok (.tuple #[]) (W.setCell y (.pointer (some e))):=by
 rw[rls];simp only[Og8,Juk,Kaa,Result.andThen];simp[ReflectliteValue.flagAddr,loadVar,isAgg,underlying,Tryz.underlying105,hb,Result.andThen,Jxa,storeVar,Value.cells,storeCells,Addr.add];exact zas
theorem Jp4 t w:(ReflectliteValue.unpack (.iface 149 (.pointer (some t)))).run Tryz.prog w
  = .ok (.agg #[.pointer (some ⟨17,149,none⟩),.pointer (some ⟨w.heap.size,0,none⟩),.int .u64 150]) (w.alloc (.cells #[.pointer (some t)] 149)):=zK
theorem Kbp a w: (ReflectliteValue.methodAny (ReflectliteValue.valueError "reflectlite.Value.Type" 0) (fun t _ _ _ => ReflectliteType.toType t) #[.agg #[.pointer (some ⟨17, 149, none⟩), .pointer (some a), .int .u64 150]]).run Tryz.prog w
  = .ok (.iface 224 (.agg #[.pointer (some ⟨17,149,none⟩)])) w:=zK
theorem Kbc w:((ReflectliteType.abiMethod fun t=>(fun a:Nat=>Value.int IntKind.u8 (a:Int)) <$> Rtype.kind t) #[.pointer (some ⟨17,149,none⟩)]).run Tryz.prog w=.ok (.int .u8 22) w:=zK
theorem Kez w:((ReflectliteType.abiMethod fun t=>(fun a:Nat=>Value.int IntKind.u8 (a:Int)) <$> Rtype.kind t) #[.pointer (some ⟨17,147,none⟩)]).run Tryz.prog w=.ok (.int .u8 22) w:=zK
theorem Jlt a w:(ReflectliteValue.parts (.agg #[.pointer (some ⟨17,149,none⟩),.pointer (some a),.int .u64 150])).run Tryz.prog w=.ok (some (149,a,150)) w:=zK
theorem Jvk a p W(ha:W.cell? a=some (.pointer (some p))):
  (ReflectliteValue.method (ReflectliteValue.valueError "reflectlite.Value.IsNil" 0) ReflectliteValue.isNil #[.agg #[.pointer (some ⟨17, 149, none⟩), .pointer (some a), .int .u64 150]]).run Tryz.prog W = .ok (.bool false) W := by
 rw[rlm];simp only[Og8,Jlt,Result.andThen];simp[ReflectliteValue.isNil,loadVar,isAgg,underlying,Tryz.underlying149,ha,Result.andThen]
theorem Jyz w:(ReflectliteType.method ReflectliteType.elem #[.agg #[.pointer (some ⟨17,149,none⟩)]]).run Tryz.prog w=.ok (.iface 224 (.agg #[.pointer (some ⟨17,147,none⟩)])) w:=zK
theorem Jmk w: (ReflectliteType.relation "Implements" ReflectliteType.implements_ #[.agg #[.pointer (some ⟨17, 147, none⟩)], .iface 224 (.agg #[.pointer (some ⟨17, 78, none⟩)])]).run Tryz.prog w = .ok (.bool true) w := by kernel_rfl
theorem Jrw e w:(ReflectliteValue.unpack (.iface 147 (.pointer (some e)))).run Tryz.prog w
  = .ok (.agg #[.pointer (some ⟨17,147,none⟩),.pointer (some ⟨w.heap.size,0,none⟩),.int .u64 150]) (w.alloc (.cells #[.pointer (some e)] 147)):=zK
theorem Jw3 w:(Rtype.elem? 149).run Tryz.prog w=.ok (some 147) w:=zK
theorem Kg1 p w:(ReflectliteValue.mk 147 p ReflectliteValue.flagAddr).run Tryz.prog w=.ok (.agg #[.pointer (some ⟨17,147,none⟩),.pointer (some p),.int .u64 406]) w:=zK
theorem Jzp a p W(ha:W.cell? a=some (.pointer (some p))):
  (ReflectliteValue.method (ReflectliteValue.valueError "reflectlite.Value.Elem" 0) ReflectliteValue.elem #[.agg #[.pointer (some ⟨17, 149, none⟩), .pointer (some a), .int .u64 150]]).run Tryz.prog W
   = .ok (.agg #[.pointer (some ⟨17,147,none⟩),.pointer (some p),.int .u64 406]) W:=by
 rw[rlm];simp only[Og8,Jlt,Result.andThen];simp[ReflectliteValue.elem,loadVar,isAgg,underlying,Tryz.underlying149,ha,Result.andThen,Jw3,Kg1]
theorem Jw4 a w:(ReflectliteValue.parts (.agg #[.pointer (some ⟨17,147,none⟩),.pointer (some a),.int .u64 406])).run Tryz.prog w=.ok (some (147,a,406)) w:=zK
theorem Jys a w:(ReflectliteValue.parts (.agg #[.pointer (some ⟨17,147,none⟩),.pointer (some a),.int .u64 150])).run Tryz.prog w=.ok (some (147,a,150)) w:=zK
theorem Juf w:(Rtype.directlyAssignable 147 147).run Tryz.prog w=.ok true w:=zK
theorem Kfj y b e old W(hb:W.cell? b=some (.pointer (some e)))(ht:W.cell? y=some old)(hf:W.frozen? y=false):
  (ReflectliteValue.set #[.agg #[.pointer (some ⟨17,147,none⟩),.pointer (some y),.int .u64 406],.agg #[.pointer (some ⟨17,147,none⟩),.pointer (some b),.int .u64 150]]).run Tryz.prog W
   = .ok (.tuple #[]) (W.setCell y (.pointer (some e))):=by
 rw[rls];simp only[Og8,Jw4,Jys,Result.andThen];simp[ReflectliteValue.flagAddr,loadVar,isAgg,underlying,Tryz.underlying147,hb,Result.andThen,Juf,storeVar,Value.cells,storeCells,Addr.add];exact zas
theorem Jtd t w:(ReflectliteValue.unpack (.iface 152 (.pointer (some t)))).run Tryz.prog w
  = .ok (.agg #[.pointer (some ⟨17,152,none⟩),.pointer (some ⟨w.heap.size,0,none⟩),.int .u64 150]) (w.alloc (.cells #[.pointer (some t)] 152)):=zK
theorem Kby a w: (ReflectliteValue.methodAny (ReflectliteValue.valueError "reflectlite.Value.Type" 0) (fun t _ _ _ => ReflectliteType.toType t) #[.agg #[.pointer (some ⟨17, 152, none⟩), .pointer (some a), .int .u64 150]]).run Tryz.prog w
  = .ok (.iface 224 (.agg #[.pointer (some ⟨17,152,none⟩)])) w:=zK
theorem Kc8 w:((ReflectliteType.abiMethod fun t=>(fun a:Nat=>Value.int IntKind.u8 (a:Int)) <$> Rtype.kind t) #[.pointer (some ⟨17,152,none⟩)]).run Tryz.prog w=.ok (.int .u8 22) w:=zK
theorem Kga w:((ReflectliteType.abiMethod fun t=>(fun a:Nat=>Value.int IntKind.u8 (a:Int)) <$> Rtype.kind t) #[.pointer (some ⟨17,148,none⟩)]).run Tryz.prog w=.ok (.int .u8 22) w:=zK
theorem Jn5 a w:(ReflectliteValue.parts (.agg #[.pointer (some ⟨17,152,none⟩),.pointer (some a),.int .u64 150])).run Tryz.prog w=.ok (some (152,a,150)) w:=zK
theorem Kaw a p W(ha:W.cell? a=some (.pointer (some p))):
  (ReflectliteValue.method (ReflectliteValue.valueError "reflectlite.Value.IsNil" 0) ReflectliteValue.isNil #[.agg #[.pointer (some ⟨17, 152, none⟩), .pointer (some a), .int .u64 150]]).run Tryz.prog W = .ok (.bool false) W := by
 rw[rlm];simp only[Og8,Jn5,Result.andThen];simp[ReflectliteValue.isNil,loadVar,isAgg,underlying,Tryz.underlying152,ha,Result.andThen]
theorem Kcj w:(ReflectliteType.method ReflectliteType.elem #[.agg #[.pointer (some ⟨17,152,none⟩)]]).run Tryz.prog w=.ok (.iface 224 (.agg #[.pointer (some ⟨17,148,none⟩)])) w:=zK
theorem Jn1 w: (ReflectliteType.relation "Implements" ReflectliteType.implements_ #[.agg #[.pointer (some ⟨17, 148, none⟩)], .iface 224 (.agg #[.pointer (some ⟨17, 78, none⟩)])]).run Tryz.prog w = .ok (.bool true) w := by kernel_rfl
theorem Jw9 e w:(ReflectliteValue.unpack (.iface 148 (.pointer (some e)))).run Tryz.prog w
  = .ok (.agg #[.pointer (some ⟨17,148,none⟩),.pointer (some ⟨w.heap.size,0,none⟩),.int .u64 150]) (w.alloc (.cells #[.pointer (some e)] 148)):=zK
theorem Kbl w:(Rtype.elem? 152).run Tryz.prog w=.ok (some 148) w:=zK
theorem Kh0 p w:(ReflectliteValue.mk 148 p ReflectliteValue.flagAddr).run Tryz.prog w=.ok (.agg #[.pointer (some ⟨17,148,none⟩),.pointer (some p),.int .u64 406]) w:=zK
theorem Kes a p W(ha:W.cell? a=some (.pointer (some p))):
  (ReflectliteValue.method (ReflectliteValue.valueError "reflectlite.Value.Elem" 0) ReflectliteValue.elem #[.agg #[.pointer (some ⟨17, 152, none⟩), .pointer (some a), .int .u64 150]]).run Tryz.prog W
   = .ok (.agg #[.pointer (some ⟨17,148,none⟩),.pointer (some p),.int .u64 406]) W:=by
 rw[rlm];simp only[Og8,Jn5,Result.andThen];simp[ReflectliteValue.elem,loadVar,isAgg,underlying,Tryz.underlying152,ha,Result.andThen,Kbl,Kh0]
theorem Kao a w:(ReflectliteValue.parts (.agg #[.pointer (some ⟨17,148,none⟩),.pointer (some a),.int .u64 406])).run Tryz.prog w=.ok (some (148,a,406)) w:=zK
theorem Kcg a w:(ReflectliteValue.parts (.agg #[.pointer (some ⟨17,148,none⟩),.pointer (some a),.int .u64 150])).run Tryz.prog w=.ok (some (148,a,150)) w:=zK
theorem Kba w:(Rtype.directlyAssignable 148 148).run Tryz.prog w=.ok true w:=zK
theorem Khd y b e old W(hb:W.cell? b=some (.pointer (some e)))(ht:W.cell? y=some old)(hf:W.frozen? y=false):
  (ReflectliteValue.set #[.agg #[.pointer (some ⟨17,148,none⟩),.pointer (some y),.int .u64 406],.agg #[.pointer (some ⟨17,148,none⟩),.pointer (some b),.int .u64 150]]).run Tryz.prog W
   = .ok (.tuple #[]) (W.setCell y (.pointer (some e))):=by
 rw[rls];simp only[Og8,Kao,Kcg,Result.andThen];simp[ReflectliteValue.flagAddr,loadVar,isAgg,underlying,Tryz.underlying148,hb,Result.andThen,Kba,storeVar,Value.cells,storeCells,Addr.add];exact zas
structure IsT (tg pt:Nat):Prop where
 vP:∀ (t:Addr) (w:World),(ReflectliteValue.unpack (.iface pt (.pointer (some t)))).run Tryz.prog w=.ok (.agg #[.pointer (some ⟨17,pt,none⟩),.pointer (some ⟨w.heap.size,0,none⟩),.int .u64 150]) (w.alloc (.cells #[.pointer (some t)] pt))
 tyP : ∀ (a : Addr) (w : World), (ReflectliteValue.methodAny (ReflectliteValue.valueError "reflectlite.Value.Type" 0) (fun t _ _ _ => ReflectliteType.toType t) #[.agg #[.pointer (some ⟨17, pt, none⟩), .pointer (some a), .int .u64 150]]).run Tryz.prog w = .ok (.iface 224 (.agg #[.pointer (some ⟨17, pt, none⟩)])) w
 kP:∀ w:World,((ReflectliteType.abiMethod fun t=>(fun a:Nat=>Value.int IntKind.u8 (a:Int)) <$> Rtype.kind t) #[.pointer (some ⟨17,pt,none⟩)]).run Tryz.prog w=.ok (.int .u8 22) w
 kT:∀ w:World,((ReflectliteType.abiMethod fun t=>(fun a:Nat=>Value.int IntKind.u8 (a:Int)) <$> Rtype.kind t) #[.pointer (some ⟨17,tg,none⟩)]).run Tryz.prog w=.ok (.int .u8 22) w
 nilP : ∀ (a p : Addr) (W : World), W.cell? a = some (.pointer (some p)) -> (ReflectliteValue.method (ReflectliteValue.valueError "reflectlite.Value.IsNil" 0) ReflectliteValue.isNil #[.agg #[.pointer (some ⟨17, pt, none⟩), .pointer (some a), .int .u64 150]]).run Tryz.prog W = .ok (.bool false) W
 elP:∀ w:World,(ReflectliteType.method ReflectliteType.elem #[.agg #[.pointer (some ⟨17,pt,none⟩)]]).run Tryz.prog w=.ok (.iface 224 (.agg #[.pointer (some ⟨17,tg,none⟩)])) w
 imp : ∀ w : World, (ReflectliteType.relation "Implements" ReflectliteType.implements_ #[.agg #[.pointer (some ⟨17, tg, none⟩)], .iface 224 (.agg #[.pointer (some ⟨17, 78, none⟩)])]).run Tryz.prog w = .ok (.bool true) w
 vT:∀ (e:Addr) (w:World),(ReflectliteValue.unpack (.iface tg (.pointer (some e)))).run Tryz.prog w=.ok (.agg #[.pointer (some ⟨17,tg,none⟩),.pointer (some ⟨w.heap.size,0,none⟩),.int .u64 150]) (w.alloc (.cells #[.pointer (some e)] tg))
 eV : ∀ (a p : Addr) (W : World), W.cell? a = some (.pointer (some p)) -> (ReflectliteValue.method (ReflectliteValue.valueError "reflectlite.Value.Elem" 0) ReflectliteValue.elem #[.agg #[.pointer (some ⟨17, pt, none⟩), .pointer (some a), .int .u64 150]]).run Tryz.prog W = .ok (.agg #[.pointer (some ⟨17, tg, none⟩), .pointer (some p), .int .u64 406]) W
 st:∀ (ta b e:Addr) (old:Value) (W:World),W.cell? b=some (.pointer (some e))->W.cell? ta=some old->W.frozen? ta=false->(ReflectliteValue.set #[.agg #[.pointer (some ⟨17,tg,none⟩),.pointer (some ta),.int .u64 406],.agg #[.pointer (some ⟨17,tg,none⟩),.pointer (some b),.int .u64 150]]).run Tryz.prog W=.ok (.tuple #[]) (W.setCell ta (.pointer (some e)))
 typ:∀ (v:Value) (w:World),(ReflectliteType.typeOf #[.iface tg v]).run Tryz.prog w=.ok (.iface 224 (.agg #[.pointer (some ⟨17,tg,none⟩)])) w
 self:Asg tg tg true
 root:Asg 432 tg false
theorem Kf1:IsT 123 155:=
 ⟨Jti,Kb5,Kdm,Kfr,Jyr,Kd1,Jnl,Jus,Kdi,Khg,Jab.typ,fun w=>zK,fun w=>zK⟩
theorem Kco:IsT 156 157:=
 ⟨Jpp,Kbm,Jz1,Kd9,Jt6,Kab,Jmj,Jst,Jyy,Kfw,Zi.typ,fun w=>zK,fun w=>zK⟩
theorem Kdd:IsT 105 146:=
 ⟨Jqp,Kax,Jzd,Kb3,Jul,Kav,Jnh,Jri,Jz4,Kf9,Jdg.typ,fun w=>zK,fun w=>zK⟩
theorem Kea:IsT 147 149:=
 ⟨Jp4,Kbp,Kbc,Kez,Jvk,Jyz,Jmk,Jrw,Jzp,Kfj,Jc8.typ,fun w=>zK,fun w=>zK⟩
theorem Jx1:IsT 148 152:=
 ⟨Jtd,Kby,Kc8,Kga,Kaw,Kcj,Jn1,Jw9,Kes,Khd,Ke7.typ,fun w=>zK,fun w=>zK⟩
