/- errors.Is and errors.As, by Go's own text, at the errors that the program makes: a named error, a disk's error round one, a table's error round either. What the program makes of its errors: faults. -/
import Derived.Test.YtjjdldddcegjiaaGreatDoorKa
import Derived.LaidEql
import Derived.Stop.Asserts
import Derived.RowKitTokens
set_option maxHeartbeats 400000
namespace Go.Proofs.YtjjdldddcegjiaaGreatDoor
open Go.RowKit Go.Extern.Stop Go.Stop Go.Extern
def Yu (w:World)(v:Value)(a:Addr)(c p:Option Int):Prop:=
 (v=.iface 443 (.pointer (some a))∧c=none∧p=none) ∨
 (∃ (b:Nat) (y:Int),v=.iface 168 (.pointer (some ⟨b,0,none⟩))∧c=none∧p=some y∧w.cell? ⟨b,0,none⟩=some (.iface 443 (.pointer (some a)))∧w.cell? ⟨b,1,none⟩=some (.int .i64 y)) ∨
 (∃ (b:Nat) (x:Int),v=.iface 133 (.pointer (some ⟨b,0,none⟩))∧c=some x∧p=none∧w.cell? ⟨b,1,none⟩=some (.int .i64 x)∧w.cell? ⟨b,2,none⟩=some (.iface 443 (.pointer (some a)))) ∨
 (∃ (b d:Nat) (x y:Int),v=.iface 133 (.pointer (some ⟨b,0,none⟩))∧c=some x∧p=some y∧w.cell? ⟨b,1,none⟩=some (.int .i64 x)∧w.cell? ⟨b,2,none⟩=some (.iface 168 (.pointer (some ⟨d,0,none⟩)))∧w.cell? ⟨d,0,none⟩=some (.iface 443 (.pointer (some a)))∧w.cell? ⟨d,1,none⟩=some (.int .i64 y))
theorem Yu.root {w:World}(a:Addr):Yu w (.iface 443 (.pointer (some a))) a none none:=.inl ⟨rfl,rfl,rfl⟩
theorem Yu.disk {w:World}(b:Nat)(a:Addr)(p:Int)(h0:w.cell? ⟨b,0,none⟩=some (.iface 443 (.pointer (some a))))(y:w.cell? ⟨b,1,none⟩=some (.int .i64 p)):Yu w (.iface 168 (.pointer (some ⟨b,0,none⟩))) a none (some p):=.inr (.inl ⟨b,p,rfl,rfl,rfl,h0,y⟩)
theorem Yu.tab {w:World}(b:Nat)(a:Addr)(c:Int)(y:w.cell? ⟨b,1,none⟩=some (.int .i64 c))(z:w.cell? ⟨b,2,none⟩=some (.iface 443 (.pointer (some a)))):Yu w (.iface 133 (.pointer (some ⟨b,0,none⟩))) a (some c) none:=.inr (.inr (.inl ⟨b,c,rfl,rfl,rfl,y,z⟩))
theorem Yu.both {w:World}(b d:Nat)(a:Addr)(c p:Int)(y:w.cell? ⟨b,1,none⟩=some (.int .i64 c))(z:w.cell? ⟨b,2,none⟩=some (.iface 168 (.pointer (some ⟨d,0,none⟩))))(A:w.cell? ⟨d,0,none⟩=some (.iface 443 (.pointer (some a))))(C:w.cell? ⟨d,1,none⟩=some (.int .i64 p)):Yu w (.iface 133 (.pointer (some ⟨b,0,none⟩))) a (some c) (some p):=.inr (.inr (.inr ⟨b,d,c,p,rfl,rfl,rfl,y,z,A,C⟩))
theorem Yu.disk_at {w:World}{b:Nat}{a:Addr}{c:Option Int}{p:Int}(h:Yu w (.iface 168 (.pointer (some ⟨b,0,none⟩))) a c (some p)):w.cell? ⟨b,0,none⟩=some (.iface 443 (.pointer (some a)))∧w.cell? ⟨b,1,none⟩=some (.int .i64 p):=by
 rcases h with⟨_,_,z⟩|⟨A,D,y,_,z,h0,C⟩|⟨A,x,y,_⟩|⟨A,d,x,D,y,_⟩
 ·simp at z
 ·simp at y z
  subst y z
  exact⟨h0,C⟩
 ·simp at y
 simp at y
theorem Jd {w:World}{k:Nat}{o:Obj}(h:w.heap[k]?=some o):k<w.heap.size:=by
 rcases Oc1 k w.heap.size with y|y
 ·exact y
 simp[Og9 y]at h
theorem Ja {w w':World}(y:Below w.heap.size w w'){b o:Nat}{v:Value}(h:w.cell? ⟨b,o,none⟩=some v):w'.cell? ⟨b,o,none⟩=some v:=by
 rw[(Kx y).1 b o (Jm h)];exact h
theorem Yu.below {w w':World}{v:Value}{a:Addr}{c p:Option Int}(h:Yu w v a c p)(y:Below w.heap.size w w'):Yu w' v a c p:=by
 rcases h with⟨rfl,rfl,rfl⟩|⟨b,A,rfl,rfl,rfl,h0,z⟩|⟨b,x,rfl,rfl,rfl,h0,z⟩|⟨b,d,x,A,rfl,rfl,rfl,h0,z,C,D⟩
 ·exact .root a
 ·exact .disk b a A (Ja y h0) (Ja y z)
 ·exact .tab b a x (Ja y h0) (Ja y z)
 exact .both b d a x A (Ja y h0) (Ja y z) (Ja y C) (Ja y D)
def Kh2 (args : Array Value) : Sem Value := Extern.ReflectliteType.method (fun t => do Go.Extern.Rtype.noPackHeld "Comparable" t; pure (.bool (← typeInfo t).comparable)) args
theorem Jpv (w:World):(Kh2 #[.agg #[.pointer (some ⟨17,443,none⟩)]]).run Tryz.prog w=.ok (.bool true) w:=by kernel_rfl
theorem Kcb (args:Array Value)(w:World):(callFunc 342 args).run Tryz.prog w=((Kh2 args).run Tryz.prog w).andThen fun v w'=>.ok (.value v) w':=
 @run_callFunc_extern Tryz.prog 342 _ (Extern.ReflectliteType.method fun t => do Go.Extern.Rtype.noPackHeld "Comparable" t; pure (.bool (← typeInfo t).comparable)) Tryz.func342 (by kernel_rfl) (by kernel_rfl) (by kernel_rfl) (by kernel_rfl) args w
theorem Khh:(Tryz.prog.info? 443).map (·.comparable)=some true:=by kernel_rfl
theorem Kha:(Tryz.prog.info? 461).map (·.size)=some 1:=by kernel_rfl
theorem Jhv (v : Value) (w : World) : (Go.method 573 236 v "Comparable").run Tryz.prog w = .ok (342, v) w := by kernel_rfl
theorem Kh9 (h : Value) (w : World) : (Go.method 573 236 (.agg #[h]) "Kind").run Tryz.prog w = .ok (322, h) w := by kernel_rfl
theorem Kii (h : Value) (w : World) : (Go.method 573 236 (.agg #[h]) "Elem").run Tryz.prog w = .ok (343, .agg #[h]) w := by kernel_rfl
theorem Jr3 (h : Value) (w : World) : (Go.method 573 236 (.agg #[h]) "Implements").run Tryz.prog w = .ok (344, .agg #[h]) w := by kernel_rfl
theorem Jsu (h : Value) (w : World) : (Go.method 573 236 (.agg #[h]) "AssignableTo").run Tryz.prog w = .ok (341, .agg #[h]) w := by kernel_rfl
theorem Jld (v:Value)(w:World):(ReflectliteType.typeOf #[.iface 443 v]).run Tryz.prog w=.ok (.iface 236 (.agg #[.pointer (some ⟨17,443,none⟩)])) w:=by kernel_rfl
theorem Kcw (v:Value)(y:TypeId)(w:World):(Instr.typeAssert (.iface 443 v) y 238 true).run Tryz.prog w=.ok (.tuple #[.nilIface,.bool false]) w:=run_typeAssert_lacksB Tryz.underlying238 (by kernel_rfl) (by kernel_rfl) v y w
theorem Kb9 (v:Value)(y:TypeId)(w:World):(Instr.typeAssert (.iface 443 v) y 248 true).run Tryz.prog w=.ok (.tuple #[.nilIface,.bool false]) w:=run_typeAssert_lacksB Tryz.underlying248 (by kernel_rfl) (by kernel_rfl) v y w
theorem Jhb (v:Value)(y:TypeId)(w:World):(Instr.typeAssert (.iface 443 v) y 243 true).run Tryz.prog w=.ok (.tuple #[.nilIface,.bool false]) w:=run_typeAssert_lacksB Tryz.underlying243 (by kernel_rfl) (by kernel_rfl) v y w
theorem Jmp (v:Value)(y:TypeId)(w:World):(Instr.typeAssert (.iface 443 v) y 241 true).run Tryz.prog w=.ok (.tuple #[.nilIface,.bool false]) w:=run_typeAssert_lacksB Tryz.underlying241 (by kernel_rfl) (by kernel_rfl) v y w
structure IsW (ty off un:Nat):Prop where
 ne:ty≠443
 noIs:∀ (v:Value) (xT:TypeId) (w:World),(Instr.typeAssert (.iface ty v) xT 238 true).run Tryz.prog w=.ok (.tuple #[.nilIface,.bool false]) w
 noAs:∀ (v:Value) (xT:TypeId) (w:World),(Instr.typeAssert (.iface ty v) xT 248 true).run Tryz.prog w=.ok (.tuple #[.nilIface,.bool false]) w
 unwrap:∀ (v:Value) (xT:TypeId) (w:World),(Instr.typeAssert (.iface ty v) xT 241 true).run Tryz.prog w=.ok (.tuple #[.iface ty v,.bool true]) w
 meth : ∀ (v : Value) (w : World), (Go.method 573 ty v "Unwrap").run Tryz.prog w = .ok (un, v) w
 enter:∀ (args:Array Value) (w:World),(callFunc un args).run Tryz.prog w=.ok (.enter un args) w
 eql:∀ (v u:Value) (w:World),(binOp .eql 77 (.iface ty v) (.iface 443 u)).run Tryz.prog w=.ok (.bool false) w
 typ:∀ (v:Value) (w:World),(ReflectliteType.typeOf #[.iface ty v]).run Tryz.prog w=.ok (.iface 236 (.agg #[.pointer (some ⟨17,ty,none⟩)])) w
 walk:∀ (b:Nat) (v:Value) (w:World),w.cell? ⟨b,off,none⟩=some v→Calls Tryz.prog un #[.pointer (some ⟨b,0,none⟩)] w fun e w'=>e=.returned v∧w'=w
theorem Jab:IsW 133 2 330 where
 ne:=by decide
 noIs:=fun v y w=>run_typeAssert_lacksB Tryz.underlying238 (by kernel_rfl) (by kernel_rfl) v y w
 noAs:=fun v y w=>run_typeAssert_lacksB Tryz.underlying248 (by kernel_rfl) (by kernel_rfl) v y w
 unwrap:=fun v y w=>run_typeAssert_hasB Tryz.underlying241 (by kernel_rfl) v y w
 meth:=fun v w=>by kernel_rfl
 enter:=fun args w=>by kernel_rfl
 eql:=fun v u w=>run_eql_iface_types 133 443 v u Tryz.underlying77 (by decide) w
 typ:=fun v w=>by kernel_rfl
 walk:=fun b v w h=>by
  go_enter Tryz.func330,Tryz.ntmps330
  go_wp2
  go_ret
  exact⟨rfl,rfl⟩
theorem Zi:IsW 168 0 336 where
 ne:=by decide
 noIs:=fun v y w=>run_typeAssert_lacksB Tryz.underlying238 (by kernel_rfl) (by kernel_rfl) v y w
 noAs:=fun v y w=>run_typeAssert_lacksB Tryz.underlying248 (by kernel_rfl) (by kernel_rfl) v y w
 unwrap:=fun v y w=>run_typeAssert_hasB Tryz.underlying241 (by kernel_rfl) v y w
 meth:=fun v w=>by kernel_rfl
 enter:=fun args w=>by kernel_rfl
 eql:=fun v u w=>run_eql_iface_types 168 443 v u Tryz.underlying77 (by decide) w
 typ:=fun v w=>by kernel_rfl
 walk:=fun b v w h=>by
  go_enter Tryz.func336,Tryz.ntmps336
  go_wp2
  go_ret
  exact⟨rfl,rfl⟩
theorem Jdg:IsW 111 1 328 where
 ne:=by decide
 noIs:=fun v y w=>run_typeAssert_lacksB Tryz.underlying238 (by kernel_rfl) (by kernel_rfl) v y w
 noAs:=fun v y w=>run_typeAssert_lacksB Tryz.underlying248 (by kernel_rfl) (by kernel_rfl) v y w
 unwrap:=fun v y w=>run_typeAssert_hasB Tryz.underlying241 (by kernel_rfl) v y w
 meth:=fun v w=>by kernel_rfl
 enter:=fun args w=>by kernel_rfl
 eql:=fun v u w=>run_eql_iface_types 111 443 v u Tryz.underlying77 (by decide) w
 typ:=fun v w=>by kernel_rfl
 walk:=fun b v w h=>by
  go_enter Tryz.func328,Tryz.ntmps328
  go_wp2
  go_ret
  exact⟨rfl,rfl⟩
theorem Jc8:IsW 159 2 332 where
 ne:=by decide
 noIs:=fun v y w=>run_typeAssert_lacksB Tryz.underlying238 (by kernel_rfl) (by kernel_rfl) v y w
 noAs:=fun v y w=>run_typeAssert_lacksB Tryz.underlying248 (by kernel_rfl) (by kernel_rfl) v y w
 unwrap:=fun v y w=>run_typeAssert_hasB Tryz.underlying241 (by kernel_rfl) v y w
 meth:=fun v w=>by kernel_rfl
 enter:=fun args w=>by kernel_rfl
 eql:=fun v u w=>run_eql_iface_types 159 443 v u Tryz.underlying77 (by decide) w
 typ:=fun v w=>by kernel_rfl
 walk:=fun b v w h=>by
  go_enter Tryz.func332,Tryz.ntmps332
  go_wp2
  go_ret
  exact⟨rfl,rfl⟩
theorem Ke7:IsW 160 2 334 where
 ne:=by decide
 noIs:=fun v y w=>run_typeAssert_lacksB Tryz.underlying238 (by kernel_rfl) (by kernel_rfl) v y w
 noAs:=fun v y w=>run_typeAssert_lacksB Tryz.underlying248 (by kernel_rfl) (by kernel_rfl) v y w
 unwrap:=fun v y w=>run_typeAssert_hasB Tryz.underlying241 (by kernel_rfl) v y w
 meth:=fun v w=>by kernel_rfl
 enter:=fun args w=>by kernel_rfl
 eql:=fun v u w=>run_eql_iface_types 160 443 v u Tryz.underlying77 (by decide) w
 typ:=fun v w=>by kernel_rfl
 walk:=fun b v w h=>by
  go_enter Tryz.func334,Tryz.ntmps334
  go_wp2
  go_ret
  exact⟨rfl,rfl⟩
def Zg (w:World):Nat→Value→Addr→Prop
 |0,v,a=>v=.iface 443 (.pointer (some a))
 |n+1,v,a=>∃ (ty off y b:Nat) (u:Value),IsW ty off y∧v=.iface ty (.pointer (some ⟨b,0,none⟩))∧w.cell? ⟨b,off,none⟩=some u∧Zg w n u a
def Asg (ty tg : Nat) (r : Bool) : Prop := ∀ w : World, (ReflectliteType.relation "AssignableTo" ReflectliteType.assignableTo #[.agg #[.pointer (some ⟨17, ty, none⟩)], .iface 236 (.agg #[.pointer (some ⟨17, tg, none⟩)])]).run Tryz.prog w = .ok (.bool r) w
def Qn (w:World)(y off:Nat):Nat→Value→Option Int→Prop
 |0,v,x=>(∃ a,v=.iface 443 (.pointer (some a))∧x=none)∨∃ (b:Nat) (z:Int),v=.iface y (.pointer (some ⟨b,0,none⟩))∧x=some z∧w.cell? ⟨b,off,none⟩=some (.int .i64 z)
 |n+1,v,x=>∃ (ty o A b:Nat) (u:Value),IsW ty o A∧Asg ty y false∧v=.iface ty (.pointer (some ⟨b,0,none⟩))∧w.cell? ⟨b,o,none⟩=some u∧Qn w y off n u x
theorem Zg.root {w:World}(a:Addr):Zg w 0 (.iface 443 (.pointer (some a))) a:=rfl
theorem Zg.wrap {w:World}(n ty off y b:Nat)(v:Value)(a:Addr)(A:IsW ty off y)(z:w.cell? ⟨b,off,none⟩=some v)(h:Zg w n v a):Zg w (n+1) (.iface ty (.pointer (some ⟨b,0,none⟩))) a:=⟨ty,off,y,b,v,A,rfl,z,h⟩
theorem Qn.root {w:World}{y off:Nat}(a:Addr):Qn w y off 0 (.iface 443 (.pointer (some a))) none:=.inl ⟨a,rfl,rfl⟩
theorem Qn.hit {w:World}{z off:Nat}(b:Nat)(y:Int)(h:w.cell? ⟨b,off,none⟩=some (.int .i64 y)):Qn w z off 0 (.iface z (.pointer (some ⟨b,0,none⟩))) (some y):=.inr ⟨b,y,rfl,rfl,h⟩
theorem Qn.miss {w:World}{y off:Nat}(n ty o z b:Nat)(v:Value)(x:Option Int)(D:IsW ty o z)(A:Asg ty y false)(C:w.cell? ⟨b,o,none⟩=some v)(h:Qn w y off n v x):Qn w y off (n+1) (.iface ty (.pointer (some ⟨b,0,none⟩))) x:=⟨ty,o,z,b,v,D,A,rfl,C,h⟩
theorem Zg.stay {w w':World}:∀ {n:Nat} {v:Value} {a:Addr},Zg w n v a→Below w.heap.size w w'→Zg w' n v a
 |0,_,_,h,_=>h
 |_+1,_,_,⟨ty,off,D,b,u,C,A,z,h⟩,y=>⟨ty,off,D,b,u,C,A,Ja y z,Zg.stay h y⟩
theorem Qn.stay {w w':World}{C off:Nat}:∀ {n:Nat} {v:Value} {x:Option Int},Qn w C off n v x→Below w.heap.size w w'→Qn w' C off n v x
 |0,_,_,.inl h,_=>.inl h
 |0,_,_,.inr ⟨b,M,A,H,z⟩,y=>.inr ⟨b,M,A,H,Ja y z⟩
 |_+1,_,_,⟨ty,o,K,b,u,E,D,A,z,h⟩,y=>⟨ty,o,K,b,u,E,D,A,Ja y z,Qn.stay h y⟩
theorem Zg.iface {w:World}:∀ {n:Nat} {v:Value} {a:Addr},Zg w n v a→∃ ty x,v=.iface ty x
 |0,_,_,h=>⟨_,_,h⟩
 |_+1,_,_,⟨_,_,_,_,_,_,y,_⟩=>⟨_,_,y⟩
theorem Qn.iface {w:World}{z off:Nat}:∀ {n:Nat} {v:Value} {x:Option Int},Qn w z off n v x→∃ ty x,v=.iface ty x
 |0,_,_,.inl ⟨_,y,_⟩=>⟨_,_,y⟩
 |0,_,_,.inr ⟨_,_,y,_⟩=>⟨_,_,y⟩
 |_+1,_,_,⟨_,_,_,_,_,_,_,y,_⟩=>⟨_,_,y⟩
theorem Jlq:Asg 133 168 false:=fun w=>by kernel_rfl
theorem Jnc:Asg 133 111 false:=fun w=>by kernel_rfl
theorem Jm4:Asg 133 159 false:=fun w=>by kernel_rfl
theorem Jgm:Asg 133 160 false:=fun w=>by kernel_rfl
theorem Jtw:Asg 168 133 false:=fun w=>by kernel_rfl
theorem Jkg:Asg 168 111 false:=fun w=>by kernel_rfl
theorem Jj6:Asg 168 159 false:=fun w=>by kernel_rfl
theorem Jfb:Asg 168 160 false:=fun w=>by kernel_rfl
theorem Jv1:Asg 111 133 false:=fun w=>by kernel_rfl
theorem Jsi:Asg 111 168 false:=fun w=>by kernel_rfl
theorem Jro:Asg 111 159 false:=fun w=>by kernel_rfl
theorem Jlp:Asg 111 160 false:=fun w=>by kernel_rfl
theorem Jwk:Asg 159 133 false:=fun w=>by kernel_rfl
theorem Js6:Asg 159 168 false:=fun w=>by kernel_rfl
theorem Jsq:Asg 159 111 false:=fun w=>by kernel_rfl
theorem Jnb:Asg 159 160 false:=fun w=>by kernel_rfl
structure Jny (w:World) (v:Value) (a:Addr) (xn xr xc xp xg xk:Option Int):Prop where
 r:∃ k,Zg w k v a
 n:∃ k,Qn w 111 0 k v xn
 x:∃ k,Qn w 159 0 k v xr
 g:∃ k,Qn w 160 0 k v xg
 c:∃ k,Qn w 133 1 k v xc
 gc:∃ k,Qn w 160 1 k v xk
 p:∃ k,Qn w 168 1 k v xp
abbrev Kip (w:World)(v:Value)(a:Addr)(n c p:Option Int):Prop:=Jny w v a n none c p none none
theorem Jny.below {w w':World}{v:Value}{a:Addr}{n r c p g gc:Option Int}(h:Jny w v a n r c p g gc)(y:Below w.heap.size w w'):Jny w' v a n r c p g gc:=by
 obtain⟨⟨M,z⟩,⟨O,A⟩,⟨R,C⟩,⟨U,D⟩,⟨X,E⟩,⟨Z,H⟩,⟨bc,K⟩⟩:=h
 exact⟨⟨M,z.stay y⟩,⟨O,A.stay y⟩,⟨R,C.stay y⟩,⟨U,D.stay y⟩,⟨X,E.stay y⟩,⟨Z,H.stay y⟩,⟨bc,K.stay y⟩⟩
theorem Yu.errV {w:World}{v:Value}{a:Addr}{c p:Option Int}(h:Yu w v a c p):Kip w v a none c p:=by
 rcases h with⟨rfl,rfl,rfl⟩|⟨b,p,rfl,rfl,rfl,h0,z⟩|⟨b,c,rfl,rfl,rfl,z,y⟩|⟨b,d,c,p,rfl,rfl,rfl,z,y,A,C⟩
 ·exact⟨⟨0,.root a⟩,⟨0,.root a⟩,⟨0,.root a⟩,⟨0,.root a⟩,⟨0,.root a⟩,⟨0,.root a⟩,⟨0,.root a⟩⟩
 ·exact⟨⟨1,.wrap _ _ _ _ _ _ _ Zi h0 (.root a)⟩,⟨1,.miss _ _ _ _ _ _ _ Zi Jkg h0 (.root a)⟩,⟨1,.miss _ _ _ _ _ _ _ Zi Jj6 h0 (.root a)⟩,⟨1,.miss _ _ _ _ _ _ _ Zi Jfb h0 (.root a)⟩,⟨1,.miss _ _ _ _ _ _ _ Zi Jtw h0 (.root a)⟩,⟨1,.miss _ _ _ _ _ _ _ Zi Jfb h0 (.root a)⟩,⟨0,.hit _ _ z⟩⟩
 ·exact⟨⟨1,.wrap _ _ _ _ _ _ _ Jab y (.root a)⟩,⟨1,.miss _ _ _ _ _ _ _ Jab Jnc y (.root a)⟩,⟨1,.miss _ _ _ _ _ _ _ Jab Jm4 y (.root a)⟩,⟨1,.miss _ _ _ _ _ _ _ Jab Jgm y (.root a)⟩,⟨0,.hit _ _ z⟩,⟨1,.miss _ _ _ _ _ _ _ Jab Jgm y (.root a)⟩,⟨1,.miss _ _ _ _ _ _ _ Jab Jlq y (.root a)⟩⟩
 exact⟨⟨2,.wrap _ _ _ _ _ _ _ Jab y (.wrap _ _ _ _ _ _ _ Zi A (.root a))⟩,⟨2,.miss _ _ _ _ _ _ _ Jab Jnc y (.miss _ _ _ _ _ _ _ Zi Jkg A (.root a))⟩,⟨2,.miss _ _ _ _ _ _ _ Jab Jm4 y (.miss _ _ _ _ _ _ _ Zi Jj6 A (.root a))⟩,⟨2,.miss _ _ _ _ _ _ _ Jab Jgm y (.miss _ _ _ _ _ _ _ Zi Jfb A (.root a))⟩,⟨0,.hit _ _ z⟩,⟨2,.miss _ _ _ _ _ _ _ Jab Jgm y (.miss _ _ _ _ _ _ _ Zi Jfb A (.root a))⟩,⟨1,.miss _ _ _ _ _ _ _ Jab Jlq y (.hit _ _ C)⟩⟩
end Go.Proofs.YtjjdldddcegjiaaGreatDoor
