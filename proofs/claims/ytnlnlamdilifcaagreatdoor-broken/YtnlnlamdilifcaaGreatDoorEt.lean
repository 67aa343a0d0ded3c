/- errors.As at the errors that the program makes, at its targets: closed facts on what Go's own text asks of types. -/
import Derived.Test.YtnlnlamdilifcaaGreatDoorEr
namespace Go.Proofs.YtnlnlamdilifcaaGreatDoor
open Go.RowKit Go.Extern.Stop Go.Stop Go.Extern
theorem rlm (z:Sem Value)(f:TypeId->Addr->Nat->Nat->Sem Value)v:
  ReflectliteValue.method z f #[v]=(do match <-ReflectliteValue.parts v with|none=>z|some (t,a,fl)=>f t a fl (fl % 32)):=rfl
theorem rls v x:ReflectliteValue.set #[v,x]=(do
  let (some (dst,a,fl),some (src,b,_)):=(<-ReflectliteValue.parts v,<-ReflectliteValue.parts x)
   | unsupported (.noEntry "extern/(internal/reflectlite.Value).Set.zeroValue")
  if fl / ReflectliteValue.flagAddr % 2 == 0 then unsupported (.noEntry "extern/(internal/reflectlite.Value).Set.unaddressable")
  let val <-loadVar src b
  if <-Rtype.directlyAssignable dst src then storeVar dst a val
  else if <-Rtype.implements dst src then
   if (<-Rtype.kind src)==20 then
    match val with
    | .nilIface => unsupported (.noEntry "extern/reflectlite: a nil value of one interface type handed on as a value of another")
    |_=>storeVar dst a val
   else storeVar dst a (.iface src val)
  else panicString ("reflectlite.Set: value of type " ++ (<- Rtype.spelt src) ++ " is not assignable to type " ++ (<- Rtype.spelt dst))
  pure (.tuple #[])):=rfl
theorem Jti t w:(ReflectliteValue.unpack (Ie 148 t)).run Tryz.prog w
  = .ok (.agg #[Pr 17 148,Pq w.heap.size,.int .u64 150]) (w.alloc (.cells #[Po t] 148)):=zK
theorem Kb5 a w: (ReflectliteValue.methodAny (ReflectliteValue.valueError "reflectlite.Value.Type" 0) (fun t _ _ _ => ReflectliteType.toType t) #[.agg #[.pointer (some ⟨17, 148, none⟩), .pointer (some a), .int .u64 150]]).run Tryz.prog w
  = .ok (.iface 216 (.agg #[Pr 17 148])) w:=zK
theorem Kdm w:((ReflectliteType.abiMethod fun t=>(fun a:Nat=>Value.int IntKind.u8 (a:Int)) <$> Rtype.kind t) #[Pr 17 148]).run Tryz.prog w=.ok (.int .u8 22) w:=zK
theorem Kfr w:((ReflectliteType.abiMethod fun t=>(fun a:Nat=>Value.int IntKind.u8 (a:Int)) <$> Rtype.kind t) #[Pr 17 106]).run Tryz.prog w=.ok (.int .u8 22) w:=zK
theorem Jo1 a w:(ReflectliteValue.parts (.agg #[Pr 17 148,Po a,.int .u64 150])).run Tryz.prog w=.ok (some (148,a,150)) w:=zK
theorem Jyr a p W(ha:W.cell? a=some (Po p)):
  (ReflectliteValue.method (ReflectliteValue.valueError "reflectlite.Value.IsNil" 0) ReflectliteValue.isNil #[.agg #[.pointer (some ⟨17, 148, none⟩), .pointer (some a), .int .u64 150]]).run Tryz.prog W = .ok (.bool false) W := by
 rw[rlm];simp only[Og8,Jo1,Result.andThen];simp[ReflectliteValue.isNil,loadVar,isAgg,underlying,Tryz.underlying148,ha,Result.andThen]
theorem Kd1 w:(ReflectliteType.method ReflectliteType.elem #[.agg #[Pr 17 148]]).run Tryz.prog w=.ok (.iface 216 (.agg #[Pr 17 106])) w:=zK
theorem Jnl w: (ReflectliteType.relation "Implements" ReflectliteType.implements_ #[.agg #[.pointer (some ⟨17, 106, none⟩)], .iface 216 (.agg #[.pointer (some ⟨17, 77, none⟩)])]).run Tryz.prog w = .ok (.bool true) w := by kernel_rfl
theorem Jus e w:(ReflectliteValue.unpack (Ie 106 e)).run Tryz.prog w
  = .ok (.agg #[Pr 17 106,Pq w.heap.size,.int .u64 150]) (w.alloc (.cells #[Po e] 106)):=zK
theorem Jz9 w:(Rtype.elem? 148).run Tryz.prog w=.ok (some 106) w:=zK
theorem Kif p w:(ReflectliteValue.mk 106 p ReflectliteValue.flagAddr).run Tryz.prog w=.ok (.agg #[Pr 17 106,Po p,.int .u64 406]) w:=zK
theorem Kdi a p W(ha:W.cell? a=some (Po p)):
  (ReflectliteValue.method (ReflectliteValue.valueError "reflectlite.Value.Elem" 0) ReflectliteValue.elem #[.agg #[.pointer (some ⟨17, 148, none⟩), .pointer (some a), .int .u64 150]]).run Tryz.prog W
   = .ok (.agg #[Pr 17 106,Po p,.int .u64 406]) W:=by
 rw[rlm];simp only[Og8,Jo1,Result.andThen];simp[ReflectliteValue.elem,loadVar,isAgg,underlying,Tryz.underlying148,ha,Result.andThen,Jz9,Kif]
theorem Ka5 a w:(ReflectliteValue.parts (.agg #[Pr 17 106,Po a,.int .u64 406])).run Tryz.prog w=.ok (some (106,a,406)) w:=zK
theorem Ker a w:(ReflectliteValue.parts (.agg #[Pr 17 106,Po a,.int .u64 150])).run Tryz.prog w=.ok (some (106,a,150)) w:=zK
theorem Kbn w:(Rtype.directlyAssignable 106 106).run Tryz.prog w=.ok true w:=zK
theorem zay {p:Prop}(h:p:=by rw[run_store Tryz.prog W ta _ _ zR];simp[ht,y]):p:=h
theorem Khg ta b e old W(hb:W.cell? b=some (Po e))(ht:W.cell? ta=some old)(y:W.frozen? ta=false):
  (ReflectliteValue.set #[.agg #[Pr 17 106,Po ta,.int .u64 406],.agg #[Pr 17 106,Po b,.int .u64 150]]).run Tryz.prog W
   = .ok (.tuple #[]) (W.setCell ta (Po e)):=by
 rw[rls];simp only[Og8,Ka5,Ker,Result.andThen];simp[ReflectliteValue.flagAddr,loadVar,isAgg,underlying,Tryz.underlying106,hb,Result.andThen,Kbn,storeVar,Value.cells,storeCells,Addr.add];exact zay
theorem Jpp t w:(ReflectliteValue.unpack (Ie 150 t)).run Tryz.prog w
  = .ok (.agg #[Pr 17 150,Pq w.heap.size,.int .u64 150]) (w.alloc (.cells #[Po t] 150)):=zK
theorem Kbm a w: (ReflectliteValue.methodAny (ReflectliteValue.valueError "reflectlite.Value.Type" 0) (fun t _ _ _ => ReflectliteType.toType t) #[.agg #[.pointer (some ⟨17, 150, none⟩), .pointer (some a), .int .u64 150]]).run Tryz.prog w
  = .ok (.iface 216 (.agg #[Pr 17 150])) w:=zK
theorem Jz1 w:((ReflectliteType.abiMethod fun t=>(fun a:Nat=>Value.int IntKind.u8 (a:Int)) <$> Rtype.kind t) #[Pr 17 150]).run Tryz.prog w=.ok (.int .u8 22) w:=zK
theorem Kd9 w:((ReflectliteType.abiMethod fun t=>(fun a:Nat=>Value.int IntKind.u8 (a:Int)) <$> Rtype.kind t) #[Pr 17 149]).run Tryz.prog w=.ok (.int .u8 22) w:=zK
theorem Jm0 a w:(ReflectliteValue.parts (.agg #[Pr 17 150,Po a,.int .u64 150])).run Tryz.prog w=.ok (some (150,a,150)) w:=zK
theorem Jt6 a p W(ha:W.cell? a=some (Po p)):
  (ReflectliteValue.method (ReflectliteValue.valueError "reflectlite.Value.IsNil" 0) ReflectliteValue.isNil #[.agg #[.pointer (some ⟨17, 150, none⟩), .pointer (some a), .int .u64 150]]).run Tryz.prog W = .ok (.bool false) W := by
 rw[rlm];simp only[Og8,Jm0,Result.andThen];simp[ReflectliteValue.isNil,loadVar,isAgg,underlying,Tryz.underlying150,ha,Result.andThen]
theorem Kab w:(ReflectliteType.method ReflectliteType.elem #[.agg #[Pr 17 150]]).run Tryz.prog w=.ok (.iface 216 (.agg #[Pr 17 149])) w:=zK
theorem Jmj w: (ReflectliteType.relation "Implements" ReflectliteType.implements_ #[.agg #[.pointer (some ⟨17, 149, none⟩)], .iface 216 (.agg #[.pointer (some ⟨17, 77, none⟩)])]).run Tryz.prog w = .ok (.bool true) w := by kernel_rfl
theorem Jst e w:(ReflectliteValue.unpack (Ie 149 e)).run Tryz.prog w
  = .ok (.agg #[Pr 17 149,Pq w.heap.size,.int .u64 150]) (w.alloc (.cells #[Po e] 149)):=zK
theorem Jub w:(Rtype.elem? 150).run Tryz.prog w=.ok (some 149) w:=zK
theorem Kg6 p w:(ReflectliteValue.mk 149 p ReflectliteValue.flagAddr).run Tryz.prog w=.ok (.agg #[Pr 17 149,Po p,.int .u64 406]) w:=zK
theorem Jyy a p W(ha:W.cell? a=some (Po p)):
  (ReflectliteValue.method (ReflectliteValue.valueError "reflectlite.Value.Elem" 0) ReflectliteValue.elem #[.agg #[.pointer (some ⟨17, 150, none⟩), .pointer (some a), .int .u64 150]]).run Tryz.prog W
   = .ok (.agg #[Pr 17 149,Po p,.int .u64 406]) W:=by
 rw[rlm];simp only[Og8,Jm0,Result.andThen];simp[ReflectliteValue.elem,loadVar,isAgg,underlying,Tryz.underlying150,ha,Result.andThen,Jub,Kg6]
theorem Jun a w:(ReflectliteValue.parts (.agg #[Pr 17 149,Po a,.int .u64 406])).run Tryz.prog w=.ok (some (149,a,406)) w:=zK
theorem Kbd a w:(ReflectliteValue.parts (.agg #[Pr 17 149,Po a,.int .u64 150])).run Tryz.prog w=.ok (some (149,a,150)) w:=zK
theorem Jva w:(Rtype.directlyAssignable 149 149).run Tryz.prog w=.ok true w:=zK
theorem Kfw ta b e old W(hb:W.cell? b=some (Po e))(ht:W.cell? ta=some old)(y:W.frozen? ta=false):
  (ReflectliteValue.set #[.agg #[Pr 17 149,Po ta,.int .u64 406],.agg #[Pr 17 149,Po b,.int .u64 150]]).run Tryz.prog W
   = .ok (.tuple #[]) (W.setCell ta (Po e)):=by
 rw[rls];simp only[Og8,Jun,Kbd,Result.andThen];simp[ReflectliteValue.flagAddr,loadVar,isAgg,underlying,Tryz.underlying149,hb,Result.andThen,Jva,storeVar,Value.cells,storeCells,Addr.add];exact zay
theorem Jqp t w:(ReflectliteValue.unpack (Ie 139 t)).run Tryz.prog w
  = .ok (.agg #[Pr 17 139,Pq w.heap.size,.int .u64 150]) (w.alloc (.cells #[Po t] 139)):=zK
theorem Kax a w: (ReflectliteValue.methodAny (ReflectliteValue.valueError "reflectlite.Value.Type" 0) (fun t _ _ _ => ReflectliteType.toType t) #[.agg #[.pointer (some ⟨17, 139, none⟩), .pointer (some a), .int .u64 150]]).run Tryz.prog w
  = .ok (.iface 216 (.agg #[Pr 17 139])) w:=zK
theorem Jzd w:((ReflectliteType.abiMethod fun t=>(fun a:Nat=>Value.int IntKind.u8 (a:Int)) <$> Rtype.kind t) #[Pr 17 139]).run Tryz.prog w=.ok (.int .u8 22) w:=zK
theorem Kb3 w:((ReflectliteType.abiMethod fun t=>(fun a:Nat=>Value.int IntKind.u8 (a:Int)) <$> Rtype.kind t) #[Pr 17 131]).run Tryz.prog w=.ok (.int .u8 22) w:=zK
theorem Jlu a w:(ReflectliteValue.parts (.agg #[Pr 17 139,Po a,.int .u64 150])).run Tryz.prog w=.ok (some (139,a,150)) w:=zK
theorem Jul a p W(ha:W.cell? a=some (Po p)):
  (ReflectliteValue.method (ReflectliteValue.valueError "reflectlite.Value.IsNil" 0) ReflectliteValue.isNil #[.agg #[.pointer (some ⟨17, 139, none⟩), .pointer (some a), .int .u64 150]]).run Tryz.prog W = .ok (.bool false) W := by
 rw[rlm];simp only[Og8,Jlu,Result.andThen];simp[ReflectliteValue.isNil,loadVar,isAgg,underlying,Tryz.underlying139,ha,Result.andThen]
theorem Kav w:(ReflectliteType.method ReflectliteType.elem #[.agg #[Pr 17 139]]).run Tryz.prog w=.ok (.iface 216 (.agg #[Pr 17 131])) w:=zK
theorem Jnh w: (ReflectliteType.relation "Implements" ReflectliteType.implements_ #[.agg #[.pointer (some ⟨17, 131, none⟩)], .iface 216 (.agg #[.pointer (some ⟨17, 77, none⟩)])]).run Tryz.prog w = .ok (.bool true) w := by kernel_rfl
theorem Jri e w:(ReflectliteValue.unpack (Ie 131 e)).run Tryz.prog w
  = .ok (.agg #[Pr 17 131,Pq w.heap.size,.int .u64 150]) (w.alloc (.cells #[Po e] 131)):=zK
theorem Jwy w:(Rtype.elem? 139).run Tryz.prog w=.ok (some 131) w:=zK
theorem Kg7 p w:(ReflectliteValue.mk 131 p ReflectliteValue.flagAddr).run Tryz.prog w=.ok (.agg #[Pr 17 131,Po p,.int .u64 406]) w:=zK
theorem Jz4 a p W(ha:W.cell? a=some (Po p)):
  (ReflectliteValue.method (ReflectliteValue.valueError "reflectlite.Value.Elem" 0) ReflectliteValue.elem #[.agg #[.pointer (some ⟨17, 139, none⟩), .pointer (some a), .int .u64 150]]).run Tryz.prog W
   = .ok (.agg #[Pr 17 131,Po p,.int .u64 406]) W:=by
 rw[rlm];simp only[Og8,Jlu,Result.andThen];simp[ReflectliteValue.elem,loadVar,isAgg,underlying,Tryz.underlying139,ha,Result.andThen,Jwy,Kg7]
theorem Juk a w:(ReflectliteValue.parts (.agg #[Pr 17 131,Po a,.int .u64 406])).run Tryz.prog w=.ok (some (131,a,406)) w:=zK
theorem Kaa a w:(ReflectliteValue.parts (.agg #[Pr 17 131,Po a,.int .u64 150])).run Tryz.prog w=.ok (some (131,a,150)) w:=zK
theorem Jxa w:(Rtype.directlyAssignable 131 131).run Tryz.prog w=.ok true w:=zK
theorem Kf9 ta b e old W(hb:W.cell? b=some (Po e))(ht:W.cell? ta=some old)(y:W.frozen? ta=false):
  (ReflectliteValue.set #[.agg #[Pr 17 131,Po ta,.int .u64 406],.agg #[Pr 17 131,Po b,.int .u64 150]]).run Tryz.prog W
   = .ok (.tuple #[]) (W.setCell ta (Po e)):=by
 rw[rls];simp only[Og8,Juk,Kaa,Result.andThen];simp[ReflectliteValue.flagAddr,loadVar,isAgg,underlying,Tryz.underlying131,hb,Result.andThen,Jxa,storeVar,Value.cells,storeCells,Addr.add];exact zay
theorem Jp4 t w:(ReflectliteValue.unpack (Ie 142 t)).run Tryz.prog w
  = .ok (.agg #[Pr 17 142,Pq w.heap.size,.int .u64 150]) (w.alloc (.cells #[Po t] 142)):=zK
theorem Kbp a w: (ReflectliteValue.methodAny (ReflectliteValue.valueError "reflectlite.Value.Type" 0) (fun t _ _ _ => ReflectliteType.toType t) #[.agg #[.pointer (some ⟨17, 142, none⟩), .pointer (some a), .int .u64 150]]).run Tryz.prog w
  = .ok (.iface 216 (.agg #[Pr 17 142])) w:=zK
theorem Kbc w:((ReflectliteType.abiMethod fun t=>(fun a:Nat=>Value.int IntKind.u8 (a:Int)) <$> Rtype.kind t) #[Pr 17 142]).run Tryz.prog w=.ok (.int .u8 22) w:=zK
theorem Kez w:((ReflectliteType.abiMethod fun t=>(fun a:Nat=>Value.int IntKind.u8 (a:Int)) <$> Rtype.kind t) #[Pr 17 140]).run Tryz.prog w=.ok (.int .u8 22) w:=zK
theorem Jlt a w:(ReflectliteValue.parts (.agg #[Pr 17 142,Po a,.int .u64 150])).run Tryz.prog w=.ok (some (142,a,150)) w:=zK
theorem Jvk a p W(ha:W.cell? a=some (Po p)):
  (ReflectliteValue.method (ReflectliteValue.valueError "reflectlite.Value.IsNil" 0) ReflectliteValue.isNil #[.agg #[.pointer (some ⟨17, 142, none⟩), .pointer (some a), .int .u64 150]]).run Tryz.prog W = .ok (.bool false) W := by
 rw[rlm];simp only[Og8,Jlt,Result.andThen];simp[ReflectliteValue.isNil,loadVar,isAgg,underlying,Tryz.underlying142,ha,Result.andThen]
theorem Jyz w:(ReflectliteType.method ReflectliteType.elem #[.agg #[Pr 17 142]]).run Tryz.prog w=.ok (.iface 216 (.agg #[Pr 17 140])) w:=zK
theorem Jmk w: (ReflectliteType.relation "Implements" ReflectliteType.implements_ #[.agg #[.pointer (some ⟨17, 140, none⟩)], .iface 216 (.agg #[.pointer (some ⟨17, 77, none⟩)])]).run Tryz.prog w = .ok (.bool true) w := by kernel_rfl
theorem Jrw e w:(ReflectliteValue.unpack (Ie 140 e)).run Tryz.prog w
  = .ok (.agg #[Pr 17 140,Pq w.heap.size,.int .u64 150]) (w.alloc (.cells #[Po e] 140)):=zK
theorem Jw3 w:(Rtype.elem? 142).run Tryz.prog w=.ok (some 140) w:=zK
theorem Kg1 p w:(ReflectliteValue.mk 140 p ReflectliteValue.flagAddr).run Tryz.prog w=.ok (.agg #[Pr 17 140,Po p,.int .u64 406]) w:=zK
theorem Jzp a p W(ha:W.cell? a=some (Po p)):
  (ReflectliteValue.method (ReflectliteValue.valueError "reflectlite.Value.Elem" 0) ReflectliteValue.elem #[.agg #[.pointer (some ⟨17, 142, none⟩), .pointer (some a), .int .u64 150]]).run Tryz.prog W
   = .ok (.agg #[Pr 17 140,Po p,.int .u64 406]) W:=by
 rw[rlm];simp only[Og8,Jlt,Result.andThen];simp[ReflectliteValue.elem,loadVar,isAgg,underlying,Tryz.underlying142,ha,Result.andThen,Jw3,Kg1]
theorem Jw4 a w:(ReflectliteValue.parts (.agg #[Pr 17 140,Po a,.int .u64 406])).run Tryz.prog w=.ok (some (140,a,406)) w:=zK
theorem Jys a w:(ReflectliteValue.parts (.agg #[Pr 17 140,Po a,.int .u64 150])).run Tryz.prog w=.ok (some (140,a,150)) w:=zK
theorem Juf w:(Rtype.directlyAssignable 140 140).run Tryz.prog w=.ok true w:=zK
theorem Kfj ta b e old W(hb:W.cell? b=some (Po e))(ht:W.cell? ta=some old)(y:W.frozen? ta=false):
  (ReflectliteValue.set #[.agg #[Pr 17 140,Po ta,.int .u64 406],.agg #[Pr 17 140,Po b,.int .u64 150]]).run Tryz.prog W
   = .ok (.tuple #[]) (W.setCell ta (Po e)):=by
 rw[rls];simp only[Og8,Jw4,Jys,Result.andThen];simp[ReflectliteValue.flagAddr,loadVar,isAgg,underlying,Tryz.underlying140,hb,Result.andThen,Juf,storeVar,Value.cells,storeCells,Addr.add];exact zay
theorem Jtd t w:(ReflectliteValue.unpack (Ie 145 t)).run Tryz.prog w
  = .ok (.agg #[Pr 17 145,Pq w.heap.size,.int .u64 150]) (w.alloc (.cells #[Po t] 145)):=zK
theorem Kby a w: (ReflectliteValue.methodAny (ReflectliteValue.valueError "reflectlite.Value.Type" 0) (fun t _ _ _ => ReflectliteType.toType t) #[.agg #[.pointer (some ⟨17, 145, none⟩), .pointer (some a), .int .u64 150]]).run Tryz.prog w
  = .ok (.iface 216 (.agg #[Pr 17 145])) w:=zK
theorem Kc8 w:((ReflectliteType.abiMethod fun t=>(fun a:Nat=>Value.int IntKind.u8 (a:Int)) <$> Rtype.kind t) #[Pr 17 145]).run Tryz.prog w=.ok (.int .u8 22) w:=zK
theorem Kga w:((ReflectliteType.abiMethod fun t=>(fun a:Nat=>Value.int IntKind.u8 (a:Int)) <$> Rtype.kind t) #[Pr 17 141]).run Tryz.prog w=.ok (.int .u8 22) w:=zK
theorem Jn5 a w:(ReflectliteValue.parts (.agg #[Pr 17 145,Po a,.int .u64 150])).run Tryz.prog w=.ok (some (145,a,150)) w:=zK
theorem Kaw a p W(ha:W.cell? a=some (Po p)):
  (ReflectliteValue.method (ReflectliteValue.valueError "reflectlite.Value.IsNil" 0) ReflectliteValue.isNil #[.agg #[.pointer (some ⟨17, 145, none⟩), .pointer (some a), .int .u64 150]]).run Tryz.prog W = .ok (.bool false) W := by
 rw[rlm];simp only[Og8,Jn5,Result.andThen];simp[ReflectliteValue.isNil,loadVar,isAgg,underlying,Tryz.underlying145,ha,Result.andThen]
theorem Kcj w:(ReflectliteType.method ReflectliteType.elem #[.agg #[Pr 17 145]]).run Tryz.prog w=.ok (.iface 216 (.agg #[Pr 17 141])) w:=zK
theorem Jn1 w: (ReflectliteType.relation "Implements" ReflectliteType.implements_ #[.agg #[.pointer (some ⟨17, 141, none⟩)], .iface 216 (.agg #[.pointer (some ⟨17, 77, none⟩)])]).run Tryz.prog w = .ok (.bool true) w := by kernel_rfl
theorem Jw9 e w:(ReflectliteValue.unpack (Ie 141 e)).run Tryz.prog w
  = .ok (.agg #[Pr 17 141,Pq w.heap.size,.int .u64 150]) (w.alloc (.cells #[Po e] 141)):=zK
theorem Kbl w:(Rtype.elem? 145).run Tryz.prog w=.ok (some 141) w:=zK
theorem Kh0 p w:(ReflectliteValue.mk 141 p ReflectliteValue.flagAddr).run Tryz.prog w=.ok (.agg #[Pr 17 141,Po p,.int .u64 406]) w:=zK
theorem Kes a p W(ha:W.cell? a=some (Po p)):
  (ReflectliteValue.method (ReflectliteValue.valueError "reflectlite.Value.Elem" 0) ReflectliteValue.elem #[.agg #[.pointer (some ⟨17, 145, none⟩), .pointer (some a), .int .u64 150]]).run Tryz.prog W
   = .ok (.agg #[Pr 17 141,Po p,.int .u64 406]) W:=by
 rw[rlm];simp only[Og8,Jn5,Result.andThen];simp[ReflectliteValue.elem,loadVar,isAgg,underlying,Tryz.underlying145,ha,Result.andThen,Kbl,Kh0]
theorem Kao a w:(ReflectliteValue.parts (.agg #[Pr 17 141,Po a,.int .u64 406])).run Tryz.prog w=.ok (some (141,a,406)) w:=zK
theorem Kcg a w:(ReflectliteValue.parts (.agg #[Pr 17 141,Po a,.int .u64 150])).run Tryz.prog w=.ok (some (141,a,150)) w:=zK
theorem Kba w:(Rtype.directlyAssignable 141 141).run Tryz.prog w=.ok true w:=zK
theorem Khd ta b e old W(hb:W.cell? b=some (Po e))(ht:W.cell? ta=some old)(y:W.frozen? ta=false):
  (ReflectliteValue.set #[.agg #[Pr 17 141,Po ta,.int .u64 406],.agg #[Pr 17 141,Po b,.int .u64 150]]).run Tryz.prog W
   = .ok (.tuple #[]) (W.setCell ta (Po e)):=by
 rw[rls];simp only[Og8,Kao,Kcg,Result.andThen];simp[ReflectliteValue.flagAddr,loadVar,isAgg,underlying,Tryz.underlying141,hb,Result.andThen,Kba,storeVar,Value.cells,storeCells,Addr.add];exact zay
structure IsT (tg pt:Nat):Prop where
 vP:∀ (t:Addr) (w:World),(ReflectliteValue.unpack (.iface pt (Po t))).run Tryz.prog w=.ok (.agg #[Pr 17 pt,Pq w.heap.size,.int .u64 150]) (w.alloc (.cells #[Po t] pt))
 tyP : ∀ (a : Addr) (w : World), (ReflectliteValue.methodAny (ReflectliteValue.valueError "reflectlite.Value.Type" 0) (fun t _ _ _ => ReflectliteType.toType t) #[.agg #[.pointer (some ⟨17, pt, none⟩), .pointer (some a), .int .u64 150]]).run Tryz.prog w = .ok (.iface 216 (.agg #[.pointer (some ⟨17, pt, none⟩)])) w
 kP:∀ w:World,((ReflectliteType.abiMethod fun t=>(fun a:Nat=>Value.int IntKind.u8 (a:Int)) <$> Rtype.kind t) #[Pr 17 pt]).run Tryz.prog w=.ok (.int .u8 22) w
 kT:∀ w:World,((ReflectliteType.abiMethod fun t=>(fun a:Nat=>Value.int IntKind.u8 (a:Int)) <$> Rtype.kind t) #[Pr 17 tg]).run Tryz.prog w=.ok (.int .u8 22) w
 nilP : ∀ (a p : Addr) (W : World), W.cell? a = some (.pointer (some p)) -> (ReflectliteValue.method (ReflectliteValue.valueError "reflectlite.Value.IsNil" 0) ReflectliteValue.isNil #[.agg #[.pointer (some ⟨17, pt, none⟩), .pointer (some a), .int .u64 150]]).run Tryz.prog W = .ok (.bool false) W
 elP:∀ w:World,(ReflectliteType.method ReflectliteType.elem #[.agg #[Pr 17 pt]]).run Tryz.prog w=.ok (.iface 216 (.agg #[Pr 17 tg])) w
 imp : ∀ w : World, (ReflectliteType.relation "Implements" ReflectliteType.implements_ #[.agg #[.pointer (some ⟨17, tg, none⟩)], .iface 216 (.agg #[.pointer (some ⟨17, 77, none⟩)])]).run Tryz.prog w = .ok (.bool true) w
 vT:∀ (e:Addr) (w:World),(ReflectliteValue.unpack (.iface tg (Po e))).run Tryz.prog w=.ok (.agg #[Pr 17 tg,Pq w.heap.size,.int .u64 150]) (w.alloc (.cells #[Po e] tg))
 eV : ∀ (a p : Addr) (W : World), W.cell? a = some (.pointer (some p)) -> (ReflectliteValue.method (ReflectliteValue.valueError "reflectlite.Value.Elem" 0) ReflectliteValue.elem #[.agg #[.pointer (some ⟨17, pt, none⟩), .pointer (some a), .int .u64 150]]).run Tryz.prog W = .ok (.agg #[.pointer (some ⟨17, tg, none⟩), .pointer (some p), .int .u64 406]) W
 st:∀ (ta b e:Addr) (old:Value) (W:World),W.cell? b=some (Po e)->W.cell? ta=some old->W.frozen? ta=false->(ReflectliteValue.set #[.agg #[Pr 17 tg,Po ta,.int .u64 406],.agg #[Pr 17 tg,Po b,.int .u64 150]]).run Tryz.prog W=.ok (.tuple #[]) (W.setCell ta (Po e))
 typ:∀ (v:Value) (w:World),(ReflectliteType.typeOf #[.iface tg v]).run Tryz.prog w=.ok (.iface 216 (.agg #[Pr 17 tg])) w
 self:Asg tg tg true
 root:Asg 435 tg false
theorem Kf1:IsT 106 148:=
 ⟨Jti,Kb5,Kdm,Kfr,Jyr,Kd1,Jnl,Jus,Kdi,Khg,Jab.typ,fun w=>zK,fun w=>zK⟩
theorem Kco:IsT 149 150:=
 ⟨Jpp,Kbm,Jz1,Kd9,Jt6,Kab,Jmj,Jst,Jyy,Kfw,Zi.typ,fun w=>zK,fun w=>zK⟩
theorem Kdd:IsT 131 139:=
 ⟨Jqp,Kax,Jzd,Kb3,Jul,Kav,Jnh,Jri,Jz4,Kf9,Jdg.typ,fun w=>zK,fun w=>zK⟩
theorem Kea:IsT 140 142:=
 ⟨Jp4,Kbp,Kbc,Kez,Jvk,Jyz,Jmk,Jrw,Jzp,Kfj,Jc8.typ,fun w=>zK,fun w=>zK⟩
theorem Jx1:IsT 141 145:=
 ⟨Jtd,Kby,Kc8,Kga,Kaw,Kcj,Jn1,Jw9,Kes,Khd,Ke7.typ,fun w=>zK,fun w=>zK⟩
