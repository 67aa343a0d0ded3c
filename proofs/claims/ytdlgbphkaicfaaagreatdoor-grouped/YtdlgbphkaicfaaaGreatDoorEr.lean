/- errors.Is and errors.As, by Go's own text, at the errors that the program makes: a named error, a disk's error round one, a table's error round either. What the program makes of its errors: faults. -/
import Derived.Test.YtdlgbphkaicfaaaGreatDoorKa
import Derived.LaidEql
import Derived.Stop.Asserts
import Derived.RowKitTokens
set_option maxHeartbeats 400000
namespace Go.Proofs.YtdlgbphkaicfaaaGreatDoor
open Go.RowKit Go.Extern.Stop Go.Stop Go.Extern
def Yu (w:World)(v:Value)(a:Addr)(c p:Option Int):Prop:=
 (v=.iface 435 (.pointer (some a))∧c=none∧p=none) ∨
 (∃ (b:Nat) (y:Int),v=.iface 160 (.pointer (some ⟨b,0,none⟩))∧c=none∧p=some y∧w.cell? ⟨b,0,none⟩=some (.iface 435 (.pointer (some a)))∧w.cell? ⟨b,1,none⟩=some (.int .i64 y)) ∨
 (∃ (b:Nat) (x:Int),v=.iface 126 (.pointer (some ⟨b,0,none⟩))∧c=some x∧p=none∧w.cell? ⟨b,1,none⟩=some (.int .i64 x)∧w.cell? ⟨b,2,none⟩=some (.iface 435 (.pointer (some a)))) ∨
 (∃ (b d:Nat) (x y:Int),v=.iface 126 (.pointer (some ⟨b,0,none⟩))∧c=some x∧p=some y∧w.cell? ⟨b,1,none⟩=some (.int .i64 x)∧w.cell? ⟨b,2,none⟩=some (.iface 160 (.pointer (some ⟨d,0,none⟩)))∧w.cell? ⟨d,0,none⟩=some (.iface 435 (.pointer (some a)))∧w.cell? ⟨d,1,none⟩=some (.int .i64 y))
theorem Yu.root {w:World}(a:Addr):Yu w (.iface 435 (.pointer (some a))) a none none:=.inl ⟨rfl,rfl,rfl⟩
theorem Yu.disk {w:World}(b:Nat)(a:Addr)(p:Int)(h0:w.cell? ⟨b,0,none⟩=some (.iface 435 (.pointer (some a))))(h1:w.cell? ⟨b,1,none⟩=some (.int .i64 p)):Yu w (.iface 160 (.pointer (some ⟨b,0,none⟩))) a none (some p):=.inr (.inl ⟨b,p,rfl,rfl,rfl,h0,h1⟩)
theorem Yu.tab {w:World}(b:Nat)(a:Addr)(c:Int)(h1:w.cell? ⟨b,1,none⟩=some (.int .i64 c))(h2:w.cell? ⟨b,2,none⟩=some (.iface 435 (.pointer (some a)))):Yu w (.iface 126 (.pointer (some ⟨b,0,none⟩))) a (some c) none:=.inr (.inr (.inl ⟨b,c,rfl,rfl,rfl,h1,h2⟩))
theorem Yu.both {w:World}(b d:Nat)(a:Addr)(c p:Int)(h1:w.cell? ⟨b,1,none⟩=some (.int .i64 c))(h2:w.cell? ⟨b,2,none⟩=some (.iface 160 (.pointer (some ⟨d,0,none⟩))))(y:w.cell? ⟨d,0,none⟩=some (.iface 435 (.pointer (some a))))(A:w.cell? ⟨d,1,none⟩=some (.int .i64 p)):Yu w (.iface 126 (.pointer (some ⟨b,0,none⟩))) a (some c) (some p):=.inr (.inr (.inr ⟨b,d,c,p,rfl,rfl,rfl,h1,h2,y,A⟩))
theorem Yu.disk_at {w:World}{b:Nat}{a:Addr}{c:Option Int}{p:Int}(h:Yu w (.iface 160 (.pointer (some ⟨b,0,none⟩))) a c (some p)):w.cell? ⟨b,0,none⟩=some (.iface 435 (.pointer (some a)))∧w.cell? ⟨b,1,none⟩=some (.int .i64 p):=by
 rcases h with⟨_,_,A⟩|⟨D,E,y,_,A,h0,h1⟩|⟨D,x,y,_⟩|⟨D,d,x,E,y,_⟩
 ·simp at A
 ·simp at y A
  subst y A
  exact⟨h0,h1⟩
 ·simp at y
 simp at y
theorem Jd {w:World}{k:Nat}{o:Obj}(h:w.heap[k]?=some o):k<w.heap.size:=by
 rcases Oc1 k w.heap.size with y|y
 ·exact y
 simp[Array.getElem?_eq_none y]at h
theorem Ja {w w':World}(y:Below w.heap.size w w'){b o:Nat}{v:Value}(h:w.cell? ⟨b,o,none⟩=some v):w'.cell? ⟨b,o,none⟩=some v:=by
 rw[(Kx y).1 b o (Jm h)];exact h
theorem Yu.below {w w':World}{v:Value}{a:Addr}{c p:Option Int}(h:Yu w v a c p)(y:Below w.heap.size w w'):Yu w' v a c p:=by
 rcases h with⟨rfl,rfl,rfl⟩|⟨b,A,rfl,rfl,rfl,h0,h1⟩|⟨b,x,rfl,rfl,rfl,h0,h1⟩|⟨b,d,x,A,rfl,rfl,rfl,h0,h1,h2,D⟩
 ·exact .root a
 ·exact .disk b a A (Ja y h0) (Ja y h1)
 ·exact .tab b a x (Ja y h0) (Ja y h1)
 exact .both b d a x A (Ja y h0) (Ja y h1) (Ja y h2) (Ja y D)
def Kh2 (args : Array Value) : Sem Value := Extern.ReflectliteType.method (fun t => do Go.Extern.Rtype.noPackHeld "Comparable" t; pure (.bool (← typeInfo t).comparable)) args
theorem Jpv (w:World):(Kh2 #[.agg #[.pointer (some ⟨17,435,none⟩)]]).run Tryz.prog w=.ok (.bool true) w:=by kernel_rfl
theorem Kcb (args:Array Value)(w:World):(callFunc 331 args).run Tryz.prog w=((Kh2 args).run Tryz.prog w).andThen fun v w'=>.ok (.value v) w':=
 @run_callFunc_extern Tryz.prog 331 _ (Extern.ReflectliteType.method fun t => do Go.Extern.Rtype.noPackHeld "Comparable" t; pure (.bool (← typeInfo t).comparable)) Tryz.func331 (by kernel_rfl) (by kernel_rfl) (by kernel_rfl) (by kernel_rfl) args w
theorem Khh:(Tryz.prog.info? 435).map (·.comparable)=some true:=by kernel_rfl
theorem Kha:(Tryz.prog.info? 453).map (·.size)=some 1:=by kernel_rfl
theorem Jhv (v : Value) (w : World) : (Go.method 565 228 v "Comparable").run Tryz.prog w = .ok (331, v) w := by kernel_rfl
theorem Kh9 (h : Value) (w : World) : (Go.method 565 228 (.agg #[h]) "Kind").run Tryz.prog w = .ok (311, h) w := by kernel_rfl
theorem Kii (h : Value) (w : World) : (Go.method 565 228 (.agg #[h]) "Elem").run Tryz.prog w = .ok (332, .agg #[h]) w := by kernel_rfl
theorem Jr3 (h : Value) (w : World) : (Go.method 565 228 (.agg #[h]) "Implements").run Tryz.prog w = .ok (333, .agg #[h]) w := by kernel_rfl
theorem Jsu (h : Value) (w : World) : (Go.method 565 228 (.agg #[h]) "AssignableTo").run Tryz.prog w = .ok (330, .agg #[h]) w := by kernel_rfl
theorem Jld (v:Value)(w:World):(ReflectliteType.typeOf #[.iface 435 v]).run Tryz.prog w=.ok (.iface 228 (.agg #[.pointer (some ⟨17,435,none⟩)])) w:=by kernel_rfl
theorem Kcw (v:Value)(y:TypeId)(w:World):(Instr.typeAssert (.iface 435 v) y 230 true).run Tryz.prog w=.ok (.tuple #[.nilIface,.bool false]) w:=run_typeAssert_lacksB Tryz.underlying230 (by kernel_rfl) (by kernel_rfl) v y w
theorem Kb9 (v:Value)(y:TypeId)(w:World):(Instr.typeAssert (.iface 435 v) y 240 true).run Tryz.prog w=.ok (.tuple #[.nilIface,.bool false]) w:=run_typeAssert_lacksB Tryz.underlying240 (by kernel_rfl) (by kernel_rfl) v y w
theorem Jhb (v:Value)(y:TypeId)(w:World):(Instr.typeAssert (.iface 435 v) y 235 true).run Tryz.prog w=.ok (.tuple #[.nilIface,.bool false]) w:=run_typeAssert_lacksB Tryz.underlying235 (by kernel_rfl) (by kernel_rfl) v y w
theorem Jmp (v:Value)(y:TypeId)(w:World):(Instr.typeAssert (.iface 435 v) y 233 true).run Tryz.prog w=.ok (.tuple #[.nilIface,.bool false]) w:=run_typeAssert_lacksB Tryz.underlying233 (by kernel_rfl) (by kernel_rfl) v y w
structure IsW (ty off un:Nat):Prop where
 ne:ty≠435
 noIs:∀ (v:Value) (xT:TypeId) (w:World),(Instr.typeAssert (.iface ty v) xT 230 true).run Tryz.prog w=.ok (.tuple #[.nilIface,.bool false]) w
 noAs:∀ (v:Value) (xT:TypeId) (w:World),(Instr.typeAssert (.iface ty v) xT 240 true).run Tryz.prog w=.ok (.tuple #[.nilIface,.bool false]) w
 unwrap:∀ (v:Value) (xT:TypeId) (w:World),(Instr.typeAssert (.iface ty v) xT 233 true).run Tryz.prog w=.ok (.tuple #[.iface ty v,.bool true]) w
 meth : ∀ (v : Value) (w : World), (Go.method 565 ty v "Unwrap").run Tryz.prog w = .ok (un, v) w
 enter:∀ (args:Array Value) (w:World),(callFunc un args).run Tryz.prog w=.ok (.enter un args) w
 eql:∀ (v u:Value) (w:World),(binOp .eql 76 (.iface ty v) (.iface 435 u)).run Tryz.prog w=.ok (.bool false) w
 typ:∀ (v:Value) (w:World),(ReflectliteType.typeOf #[.iface ty v]).run Tryz.prog w=.ok (.iface 228 (.agg #[.pointer (some ⟨17,ty,none⟩)])) w
 walk:∀ (b:Nat) (v:Value) (w:World),w.cell? ⟨b,off,none⟩=some v→Calls Tryz.prog un #[.pointer (some ⟨b,0,none⟩)] w fun e w'=>e=.returned v∧w'=w
theorem Jab:IsW 126 2 319 where
 ne:=by decide
 noIs:=fun v y w=>run_typeAssert_lacksB Tryz.underlying230 (by kernel_rfl) (by kernel_rfl) v y w
 noAs:=fun v y w=>run_typeAssert_lacksB Tryz.underlying240 (by kernel_rfl) (by kernel_rfl) v y w
 unwrap:=fun v y w=>run_typeAssert_hasB Tryz.underlying233 (by kernel_rfl) v y w
 meth:=fun v w=>by kernel_rfl
 enter:=fun args w=>by kernel_rfl
 eql:=fun v u w=>run_eql_iface_types 126 435 v u Tryz.underlying76 (by decide) w
 typ:=fun v w=>by kernel_rfl
 walk:=fun b v w h=>by
  go_enter Tryz.func319,Tryz.ntmps319
  go_wp2
  go_ret
  exact⟨rfl,rfl⟩
theorem Zi:IsW 160 0 325 where
 ne:=by decide
 noIs:=fun v y w=>run_typeAssert_lacksB Tryz.underlying230 (by kernel_rfl) (by kernel_rfl) v y w
 noAs:=fun v y w=>run_typeAssert_lacksB Tryz.underlying240 (by kernel_rfl) (by kernel_rfl) v y w
 unwrap:=fun v y w=>run_typeAssert_hasB Tryz.underlying233 (by kernel_rfl) v y w
 meth:=fun v w=>by kernel_rfl
 enter:=fun args w=>by kernel_rfl
 eql:=fun v u w=>run_eql_iface_types 160 435 v u Tryz.underlying76 (by decide) w
 typ:=fun v w=>by kernel_rfl
 walk:=fun b v w h=>by
  go_enter Tryz.func325,Tryz.ntmps325
  go_wp2
  go_ret
  exact⟨rfl,rfl⟩
theorem Jdg:IsW 105 1 317 where
 ne:=by decide
 noIs:=fun v y w=>run_typeAssert_lacksB Tryz.underlying230 (by kernel_rfl) (by kernel_rfl) v y w
 noAs:=fun v y w=>run_typeAssert_lacksB Tryz.underlying240 (by kernel_rfl) (by kernel_rfl) v y w
 unwrap:=fun v y w=>run_typeAssert_hasB Tryz.underlying233 (by kernel_rfl) v y w
 meth:=fun v w=>by kernel_rfl
 enter:=fun args w=>by kernel_rfl
 eql:=fun v u w=>run_eql_iface_types 105 435 v u Tryz.underlying76 (by decide) w
 typ:=fun v w=>by kernel_rfl
 walk:=fun b v w h=>by
  go_enter Tryz.func317,Tryz.ntmps317
  go_wp2
  go_ret
  exact⟨rfl,rfl⟩
theorem Jc8:IsW 151 2 321 where
 ne:=by decide
 noIs:=fun v y w=>run_typeAssert_lacksB Tryz.underlying230 (by kernel_rfl) (by kernel_rfl) v y w
 noAs:=fun v y w=>run_typeAssert_lacksB Tryz.underlying240 (by kernel_rfl) (by kernel_rfl) v y w
 unwrap:=fun v y w=>run_typeAssert_hasB Tryz.underlying233 (by kernel_rfl) v y w
 meth:=fun v w=>by kernel_rfl
 enter:=fun args w=>by kernel_rfl
 eql:=fun v u w=>run_eql_iface_types 151 435 v u Tryz.underlying76 (by decide) w
 typ:=fun v w=>by kernel_rfl
 walk:=fun b v w h=>by
  go_enter Tryz.func321,Tryz.ntmps321
  go_wp2
  go_ret
  exact⟨rfl,rfl⟩
theorem Ke7:IsW 152 2 323 where
 ne:=by decide
 noIs:=fun v y w=>run_typeAssert_lacksB Tryz.underlying230 (by kernel_rfl) (by kernel_rfl) v y w
 noAs:=fun v y w=>run_typeAssert_lacksB Tryz.underlying240 (by kernel_rfl) (by kernel_rfl) v y w
 unwrap:=fun v y w=>run_typeAssert_hasB Tryz.underlying233 (by kernel_rfl) v y w
 meth:=fun v w=>by kernel_rfl
 enter:=fun args w=>by kernel_rfl
 eql:=fun v u w=>run_eql_iface_types 152 435 v u Tryz.underlying76 (by decide) w
 typ:=fun v w=>by kernel_rfl
 walk:=fun b v w h=>by
  go_enter Tryz.func323,Tryz.ntmps323
  go_wp2
  go_ret
  exact⟨rfl,rfl⟩
def Zg (w:World):Nat→Value→Addr→Prop
 |0,v,a=>v=.iface 435 (.pointer (some a))
 |n+1,v,a=>∃ (ty off y b:Nat) (u:Value),IsW ty off y∧v=.iface ty (.pointer (some ⟨b,0,none⟩))∧w.cell? ⟨b,off,none⟩=some u∧Zg w n u a
def Asg (ty tg : Nat) (r : Bool) : Prop := ∀ w : World, (ReflectliteType.relation "AssignableTo" ReflectliteType.assignableTo #[.agg #[.pointer (some ⟨17, ty, none⟩)], .iface 228 (.agg #[.pointer (some ⟨17, tg, none⟩)])]).run Tryz.prog w = .ok (.bool r) w
def Qn (w:World)(y off:Nat):Nat→Value→Option Int→Prop
 |0,v,x=>(∃ a,v=.iface 435 (.pointer (some a))∧x=none)∨∃ (b:Nat) (A:Int),v=.iface y (.pointer (some ⟨b,0,none⟩))∧x=some A∧w.cell? ⟨b,off,none⟩=some (.int .i64 A)
 |n+1,v,x=>∃ (ty o D b:Nat) (u:Value),IsW ty o D∧Asg ty y false∧v=.iface ty (.pointer (some ⟨b,0,none⟩))∧w.cell? ⟨b,o,none⟩=some u∧Qn w y off n u x
theorem Zg.root {w:World}(a:Addr):Zg w 0 (.iface 435 (.pointer (some a))) a:=rfl
theorem Zg.wrap {w:World}(n ty off y b:Nat)(v:Value)(a:Addr)(D:IsW ty off y)(A:w.cell? ⟨b,off,none⟩=some v)(h:Zg w n v a):Zg w (n+1) (.iface ty (.pointer (some ⟨b,0,none⟩))) a:=⟨ty,off,y,b,v,D,rfl,A,h⟩
theorem Qn.root {w:World}{y off:Nat}(a:Addr):Qn w y off 0 (.iface 435 (.pointer (some a))) none:=.inl ⟨a,rfl,rfl⟩
theorem Qn.hit {w:World}{A off:Nat}(b:Nat)(y:Int)(h:w.cell? ⟨b,off,none⟩=some (.int .i64 y)):Qn w A off 0 (.iface A (.pointer (some ⟨b,0,none⟩))) (some y):=.inr ⟨b,y,rfl,rfl,h⟩
theorem Qn.miss {w:World}{y off:Nat}(n ty o A b:Nat)(v:Value)(x:Option Int)(H:IsW ty o A)(D:Asg ty y false)(E:w.cell? ⟨b,o,none⟩=some v)(h:Qn w y off n v x):Qn w y off (n+1) (.iface ty (.pointer (some ⟨b,0,none⟩))) x:=⟨ty,o,A,b,v,H,D,rfl,E,h⟩
theorem Zg.stay {w w':World}:∀ {n:Nat} {v:Value} {a:Addr},Zg w n v a→Below w.heap.size w w'→Zg w' n v a
 |0,_,_,h,_=>h
 |_+1,_,_,⟨ty,off,H,b,u,E,D,A,h⟩,y=>⟨ty,off,H,b,u,E,D,Ja y A,Zg.stay h y⟩
theorem Qn.stay {w w':World}{E off:Nat}:∀ {n:Nat} {v:Value} {x:Option Int},Qn w E off n v x→Below w.heap.size w w'→Qn w' E off n v x
 |0,_,_,.inl h,_=>.inl h
 |0,_,_,.inr ⟨b,R,D,M,A⟩,y=>.inr ⟨b,R,D,M,Ja y A⟩
 |_+1,_,_,⟨ty,o,O,b,u,K,H,D,A,h⟩,y=>⟨ty,o,O,b,u,K,H,D,Ja y A,Qn.stay h y⟩
theorem Zg.iface {w:World}:∀ {n:Nat} {v:Value} {a:Addr},Zg w n v a→∃ ty x,v=.iface ty x
 |0,_,_,h=>⟨_,_,h⟩
 |_+1,_,_,⟨_,_,_,_,_,_,y,_⟩=>⟨_,_,y⟩
theorem Qn.iface {w:World}{A off:Nat}:∀ {n:Nat} {v:Value} {x:Option Int},Qn w A off n v x→∃ ty x,v=.iface ty x
 |0,_,_,.inl ⟨_,y,_⟩=>⟨_,_,y⟩
 |0,_,_,.inr ⟨_,_,y,_⟩=>⟨_,_,y⟩
 |_+1,_,_,⟨_,_,_,_,_,_,_,y,_⟩=>⟨_,_,y⟩
theorem Jlq:Asg 126 160 false:=fun w=>by kernel_rfl
theorem Jnc:Asg 126 105 false:=fun w=>by kernel_rfl
theorem Jm4:Asg 126 151 false:=fun w=>by kernel_rfl
theorem Jgm:Asg 126 152 false:=fun w=>by kernel_rfl
theorem Jtw:Asg 160 126 false:=fun w=>by kernel_rfl
theorem Jkg:Asg 160 105 false:=fun w=>by kernel_rfl
theorem Jj6:Asg 160 151 false:=fun w=>by kernel_rfl
theorem Jfb:Asg 160 152 false:=fun w=>by kernel_rfl
theorem Jv1:Asg 105 126 false:=fun w=>by kernel_rfl
theorem Jsi:Asg 105 160 false:=fun w=>by kernel_rfl
theorem Jro:Asg 105 151 false:=fun w=>by kernel_rfl
theorem Jlp:Asg 105 152 false:=fun w=>by kernel_rfl
theorem Jwk:Asg 151 126 false:=fun w=>by kernel_rfl
theorem Js6:Asg 151 160 false:=fun w=>by kernel_rfl
theorem Jsq:Asg 151 105 false:=fun w=>by kernel_rfl
theorem Jnb:Asg 151 152 false:=fun w=>by kernel_rfl
theorem Kp2:Asg 152 126 false:=fun w=>by kernel_rfl
theorem Kpe:Asg 152 160 false:=fun w=>by kernel_rfl
theorem Koz:Asg 152 105 false:=fun w=>by kernel_rfl
theorem Ko9:Asg 152 151 false:=fun w=>by kernel_rfl
structure Jny (w:World) (v:Value) (a:Addr) (xn xr xc xp xg xk:Option Int):Prop where
 r:∃ k,Zg w k v a
 n:∃ k,Qn w 105 0 k v xn
 x:∃ k,Qn w 151 0 k v xr
 g:∃ k,Qn w 152 0 k v xg
 c:∃ k,Qn w 126 1 k v xc
 gc:∃ k,Qn w 152 1 k v xk
 p:∃ k,Qn w 160 1 k v xp
abbrev Kip (w:World)(v:Value)(a:Addr)(n c p:Option Int):Prop:=Jny w v a n none c p none none
theorem Jny.below {w w':World}{v:Value}{a:Addr}{n r c p g gc:Option Int}(h:Jny w v a n r c p g gc)(y:Below w.heap.size w w'):Jny w' v a n r c p g gc:=by
 obtain⟨⟨M,h1⟩,⟨O,h2⟩,⟨R,A⟩,⟨U,D⟩,⟨X,E⟩,⟨Z,H⟩,⟨ba,K⟩⟩:=h
 exact⟨⟨M,h1.stay y⟩,⟨O,h2.stay y⟩,⟨R,A.stay y⟩,⟨U,D.stay y⟩,⟨X,E.stay y⟩,⟨Z,H.stay y⟩,⟨ba,K.stay y⟩⟩
theorem Yu.errV {w:World}{v:Value}{a:Addr}{c p:Option Int}(h:Yu w v a c p):Kip w v a none c p:=by
 rcases h with⟨rfl,rfl,rfl⟩|⟨b,p,rfl,rfl,rfl,h0,h1⟩|⟨b,c,rfl,rfl,rfl,h1,h2⟩|⟨b,d,c,p,rfl,rfl,rfl,h1,h2,y,A⟩
 ·exact⟨⟨0,.root a⟩,⟨0,.root a⟩,⟨0,.root a⟩,⟨0,.root a⟩,⟨0,.root a⟩,⟨0,.root a⟩,⟨0,.root a⟩⟩
 ·exact⟨⟨1,.wrap _ _ _ _ _ _ _ Zi h0 (.root a)⟩,⟨1,.miss _ _ _ _ _ _ _ Zi Jkg h0 (.root a)⟩,⟨1,.miss _ _ _ _ _ _ _ Zi Jj6 h0 (.root a)⟩,⟨1,.miss _ _ _ _ _ _ _ Zi Jfb h0 (.root a)⟩,⟨1,.miss _ _ _ _ _ _ _ Zi Jtw h0 (.root a)⟩,⟨1,.miss _ _ _ _ _ _ _ Zi Jfb h0 (.root a)⟩,⟨0,.hit _ _ h1⟩⟩
 ·exact⟨⟨1,.wrap _ _ _ _ _ _ _ Jab h2 (.root a)⟩,⟨1,.miss _ _ _ _ _ _ _ Jab Jnc h2 (.root a)⟩,⟨1,.miss _ _ _ _ _ _ _ Jab Jm4 h2 (.root a)⟩,⟨1,.miss _ _ _ _ _ _ _ Jab Jgm h2 (.root a)⟩,⟨0,.hit _ _ h1⟩,⟨1,.miss _ _ _ _ _ _ _ Jab Jgm h2 (.root a)⟩,⟨1,.miss _ _ _ _ _ _ _ Jab Jlq h2 (.root a)⟩⟩
 exact⟨⟨2,.wrap _ _ _ _ _ _ _ Jab h2 (.wrap _ _ _ _ _ _ _ Zi y (.root a))⟩,⟨2,.miss _ _ _ _ _ _ _ Jab Jnc h2 (.miss _ _ _ _ _ _ _ Zi Jkg y (.root a))⟩,⟨2,.miss _ _ _ _ _ _ _ Jab Jm4 h2 (.miss _ _ _ _ _ _ _ Zi Jj6 y (.root a))⟩,⟨2,.miss _ _ _ _ _ _ _ Jab Jgm h2 (.miss _ _ _ _ _ _ _ Zi Jfb y (.root a))⟩,⟨0,.hit _ _ h1⟩,⟨2,.miss _ _ _ _ _ _ _ Jab Jgm h2 (.miss _ _ _ _ _ _ _ Zi Jfb y (.root a))⟩,⟨1,.miss _ _ _ _ _ _ _ Jab Jlq h2 (.hit _ _ A)⟩⟩
end Go.Proofs.YtdlgbphkaicfaaaGreatDoor
