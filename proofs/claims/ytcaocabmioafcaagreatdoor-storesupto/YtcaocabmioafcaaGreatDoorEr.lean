/- errors.Is and errors.As, by Go's own text, at the errors that the program makes: a named error, a disk's error round one, a table's error round either. What the program makes of its errors: faults. -/
import Derived.Test.YtcaocabmioafcaaGreatDoorKa
import Derived.LaidEql
import Derived.Stop.Asserts
import Derived.RowKitTokens
set_option maxHeartbeats 400000
namespace Go.Proofs.YtcaocabmioafcaaGreatDoor
open Go.RowKit Go.Extern.Stop Go.Stop Go.Extern
def Yu (w:World)(v:Value)(a:Addr)(c p:Option Int):Prop:=
 (v=.iface 528 (.pointer (some a))∧c=none∧p=none) ∨
 (∃ (b:Nat) (y:Int),v=.iface 211 (.pointer (some ⟨b,0,none⟩))∧c=none∧p=some y∧w.cell? ⟨b,0,none⟩=some (.iface 528 (.pointer (some a)))∧w.cell? ⟨b,1,none⟩=some (.int .i64 y)) ∨
 (∃ (b:Nat) (x:Int),v=.iface 187 (.pointer (some ⟨b,0,none⟩))∧c=some x∧p=none∧w.cell? ⟨b,1,none⟩=some (.int .i64 x)∧w.cell? ⟨b,2,none⟩=some (.iface 528 (.pointer (some a)))) ∨
 (∃ (b d:Nat) (x y:Int),v=.iface 187 (.pointer (some ⟨b,0,none⟩))∧c=some x∧p=some y∧w.cell? ⟨b,1,none⟩=some (.int .i64 x)∧w.cell? ⟨b,2,none⟩=some (.iface 211 (.pointer (some ⟨d,0,none⟩)))∧w.cell? ⟨d,0,none⟩=some (.iface 528 (.pointer (some a)))∧w.cell? ⟨d,1,none⟩=some (.int .i64 y))
theorem Yu.root {w:World}(a:Addr):Yu w (.iface 528 (.pointer (some a))) a none none:=.inl ⟨rfl,rfl,rfl⟩
theorem Yu.disk {w:World}(b:Nat)(a:Addr)(p:Int)(h0:w.cell? ⟨b,0,none⟩=some (.iface 528 (.pointer (some a))))(A:w.cell? ⟨b,1,none⟩=some (.int .i64 p)):Yu w (.iface 211 (.pointer (some ⟨b,0,none⟩))) a none (some p):=.inr (.inl ⟨b,p,rfl,rfl,rfl,h0,A⟩)
theorem Yu.tab {w:World}(b:Nat)(a:Addr)(c:Int)(A:w.cell? ⟨b,1,none⟩=some (.int .i64 c))(H:w.cell? ⟨b,2,none⟩=some (.iface 528 (.pointer (some a)))):Yu w (.iface 187 (.pointer (some ⟨b,0,none⟩))) a (some c) none:=.inr (.inr (.inl ⟨b,c,rfl,rfl,rfl,A,H⟩))
theorem Yu.both {w:World}(b d:Nat)(a:Addr)(c p:Int)(A:w.cell? ⟨b,1,none⟩=some (.int .i64 c))(H:w.cell? ⟨b,2,none⟩=some (.iface 211 (.pointer (some ⟨d,0,none⟩))))(I:w.cell? ⟨d,0,none⟩=some (.iface 528 (.pointer (some a))))(J:w.cell? ⟨d,1,none⟩=some (.int .i64 p)):Yu w (.iface 187 (.pointer (some ⟨b,0,none⟩))) a (some c) (some p):=.inr (.inr (.inr ⟨b,d,c,p,rfl,rfl,rfl,A,H,I,J⟩))
theorem Yu.disk_at {w:World}{b:Nat}{a:Addr}{c:Option Int}{p:Int}(h:Yu w (.iface 211 (.pointer (some ⟨b,0,none⟩))) a c (some p)):w.cell? ⟨b,0,none⟩=some (.iface 528 (.pointer (some a)))∧w.cell? ⟨b,1,none⟩=some (.int .i64 p):=by
 rcases h with⟨_,_,H⟩|⟨I,y,A,_,H,h0,J⟩|⟨I,x,A,_⟩|⟨I,d,x,y,A,_⟩
 ·simp at H
 ·simp at A H
  subst A H
  exact⟨h0,J⟩
 ·simp at A
 simp at A
theorem Jd {w:World}{k:Nat}{o:Obj}(h:w.heap[k]?=some o):k<w.heap.size:=by
 rcases Oc1 k w.heap.size with A|A
 ·exact A
 simp[Array.getElem?_eq_none A]at h
theorem Ja {w w':World}(A:Below w.heap.size w w'){b o:Nat}{v:Value}(h:w.cell? ⟨b,o,none⟩=some v):w'.cell? ⟨b,o,none⟩=some v:=by
 rw[(Kx A).1 b o (Jm h)];exact h
theorem Yu.below {w w':World}{v:Value}{a:Addr}{c p:Option Int}(h:Yu w v a c p)(A:Below w.heap.size w w'):Yu w' v a c p:=by
 rcases h with⟨rfl,rfl,rfl⟩|⟨b,y,rfl,rfl,rfl,h0,H⟩|⟨b,x,rfl,rfl,rfl,h0,H⟩|⟨b,d,x,y,rfl,rfl,rfl,h0,H,I,J⟩
 ·exact .root a
 ·exact .disk b a y (Ja A h0) (Ja A H)
 ·exact .tab b a x (Ja A h0) (Ja A H)
 exact .both b d a x y (Ja A h0) (Ja A H) (Ja A I) (Ja A J)
def Kh2 (args : Array Value) : Sem Value := Extern.ReflectliteType.method (fun t => do Go.Extern.Rtype.noPackHeld "Comparable" t; pure (.bool (← typeInfo t).comparable)) args
theorem Jpv (w:World):(Kh2 #[.agg #[.pointer (some ⟨17,528,none⟩)]]).run Tryz.prog w=.ok (.bool true) w:=by kernel_rfl
theorem Kcb (args:Array Value)(w:World):(callFunc 413 args).run Tryz.prog w=((Kh2 args).run Tryz.prog w).andThen fun v w'=>.ok (.value v) w':=
 @run_callFunc_extern Tryz.prog 413 _ (Extern.ReflectliteType.method fun t => do Go.Extern.Rtype.noPackHeld "Comparable" t; pure (.bool (← typeInfo t).comparable)) Tryz.func413 (by kernel_rfl) (by kernel_rfl) (by kernel_rfl) (by kernel_rfl) args w
theorem Khh:(Tryz.prog.info? 528).map (·.comparable)=some true:=by kernel_rfl
theorem Kha:(Tryz.prog.info? 546).map (·.size)=some 1:=by kernel_rfl
theorem Jhv (v : Value) (w : World) : (Go.method 657 302 v "Comparable").run Tryz.prog w = .ok (413, v) w := by kernel_rfl
theorem Kh9 (h : Value) (w : World) : (Go.method 657 302 (.agg #[h]) "Kind").run Tryz.prog w = .ok (395, h) w := by kernel_rfl
theorem Kii (h : Value) (w : World) : (Go.method 657 302 (.agg #[h]) "Elem").run Tryz.prog w = .ok (414, .agg #[h]) w := by kernel_rfl
theorem Jr3 (h : Value) (w : World) : (Go.method 657 302 (.agg #[h]) "Implements").run Tryz.prog w = .ok (415, .agg #[h]) w := by kernel_rfl
theorem Jsu (h : Value) (w : World) : (Go.method 657 302 (.agg #[h]) "AssignableTo").run Tryz.prog w = .ok (412, .agg #[h]) w := by kernel_rfl
theorem Jld (v:Value)(w:World):(ReflectliteType.typeOf #[.iface 528 v]).run Tryz.prog w=.ok (.iface 302 (.agg #[.pointer (some ⟨17,528,none⟩)])) w:=by kernel_rfl
theorem Kcw (v:Value)(A:TypeId)(w:World):(Instr.typeAssert (.iface 528 v) A 304 true).run Tryz.prog w=.ok (.tuple #[.nilIface,.bool false]) w:=run_typeAssert_lacksB Tryz.underlying304 (by kernel_rfl) (by kernel_rfl) v A w
theorem Kb9 (v:Value)(A:TypeId)(w:World):(Instr.typeAssert (.iface 528 v) A 314 true).run Tryz.prog w=.ok (.tuple #[.nilIface,.bool false]) w:=run_typeAssert_lacksB Tryz.underlying314 (by kernel_rfl) (by kernel_rfl) v A w
theorem Jhb (v:Value)(A:TypeId)(w:World):(Instr.typeAssert (.iface 528 v) A 309 true).run Tryz.prog w=.ok (.tuple #[.nilIface,.bool false]) w:=run_typeAssert_lacksB Tryz.underlying309 (by kernel_rfl) (by kernel_rfl) v A w
theorem Jmp (v:Value)(A:TypeId)(w:World):(Instr.typeAssert (.iface 528 v) A 307 true).run Tryz.prog w=.ok (.tuple #[.nilIface,.bool false]) w:=run_typeAssert_lacksB Tryz.underlying307 (by kernel_rfl) (by kernel_rfl) v A w
structure IsW (ty off un:Nat):Prop where
 ne:ty≠528
 noIs:∀ (v:Value) (xT:TypeId) (w:World),(Instr.typeAssert (.iface ty v) xT 304 true).run Tryz.prog w=.ok (.tuple #[.nilIface,.bool false]) w
 noAs:∀ (v:Value) (xT:TypeId) (w:World),(Instr.typeAssert (.iface ty v) xT 314 true).run Tryz.prog w=.ok (.tuple #[.nilIface,.bool false]) w
 unwrap:∀ (v:Value) (xT:TypeId) (w:World),(Instr.typeAssert (.iface ty v) xT 307 true).run Tryz.prog w=.ok (.tuple #[.iface ty v,.bool true]) w
 meth : ∀ (v : Value) (w : World), (Go.method 657 ty v "Unwrap").run Tryz.prog w = .ok (un, v) w
 enter:∀ (args:Array Value) (w:World),(callFunc un args).run Tryz.prog w=.ok (.enter un args) w
 eql:∀ (v u:Value) (w:World),(binOp .eql 108 (.iface ty v) (.iface 528 u)).run Tryz.prog w=.ok (.bool false) w
 typ:∀ (v:Value) (w:World),(ReflectliteType.typeOf #[.iface ty v]).run Tryz.prog w=.ok (.iface 302 (.agg #[.pointer (some ⟨17,ty,none⟩)])) w
 walk:∀ (b:Nat) (v:Value) (w:World),w.cell? ⟨b,off,none⟩=some v→Calls Tryz.prog un #[.pointer (some ⟨b,0,none⟩)] w fun e w'=>e=.returned v∧w'=w
theorem Jab:IsW 187 2 399 where
 ne:=by decide
 noIs:=fun v A w=>run_typeAssert_lacksB Tryz.underlying304 (by kernel_rfl) (by kernel_rfl) v A w
 noAs:=fun v A w=>run_typeAssert_lacksB Tryz.underlying314 (by kernel_rfl) (by kernel_rfl) v A w
 unwrap:=fun v A w=>run_typeAssert_hasB Tryz.underlying307 (by kernel_rfl) v A w
 meth:=fun v w=>by kernel_rfl
 enter:=fun args w=>by kernel_rfl
 eql:=fun v u w=>run_eql_iface_types 187 528 v u Tryz.underlying108 (by decide) w
 typ:=fun v w=>by kernel_rfl
 walk:=fun b v w h=>by
  go_enter Tryz.func399,Tryz.ntmps399
  go_wp2
  go_ret
  exact⟨rfl,rfl⟩
theorem Zi:IsW 211 0 407 where
 ne:=by decide
 noIs:=fun v A w=>run_typeAssert_lacksB Tryz.underlying304 (by kernel_rfl) (by kernel_rfl) v A w
 noAs:=fun v A w=>run_typeAssert_lacksB Tryz.underlying314 (by kernel_rfl) (by kernel_rfl) v A w
 unwrap:=fun v A w=>run_typeAssert_hasB Tryz.underlying307 (by kernel_rfl) v A w
 meth:=fun v w=>by kernel_rfl
 enter:=fun args w=>by kernel_rfl
 eql:=fun v u w=>run_eql_iface_types 211 528 v u Tryz.underlying108 (by decide) w
 typ:=fun v w=>by kernel_rfl
 walk:=fun b v w h=>by
  go_enter Tryz.func407,Tryz.ntmps407
  go_wp2
  go_ret
  exact⟨rfl,rfl⟩
theorem Jdg:IsW 197 1 401 where
 ne:=by decide
 noIs:=fun v A w=>run_typeAssert_lacksB Tryz.underlying304 (by kernel_rfl) (by kernel_rfl) v A w
 noAs:=fun v A w=>run_typeAssert_lacksB Tryz.underlying314 (by kernel_rfl) (by kernel_rfl) v A w
 unwrap:=fun v A w=>run_typeAssert_hasB Tryz.underlying307 (by kernel_rfl) v A w
 meth:=fun v w=>by kernel_rfl
 enter:=fun args w=>by kernel_rfl
 eql:=fun v u w=>run_eql_iface_types 197 528 v u Tryz.underlying108 (by decide) w
 typ:=fun v w=>by kernel_rfl
 walk:=fun b v w h=>by
  go_enter Tryz.func401,Tryz.ntmps401
  go_wp2
  go_ret
  exact⟨rfl,rfl⟩
theorem Jc8:IsW 202 2 403 where
 ne:=by decide
 noIs:=fun v A w=>run_typeAssert_lacksB Tryz.underlying304 (by kernel_rfl) (by kernel_rfl) v A w
 noAs:=fun v A w=>run_typeAssert_lacksB Tryz.underlying314 (by kernel_rfl) (by kernel_rfl) v A w
 unwrap:=fun v A w=>run_typeAssert_hasB Tryz.underlying307 (by kernel_rfl) v A w
 meth:=fun v w=>by kernel_rfl
 enter:=fun args w=>by kernel_rfl
 eql:=fun v u w=>run_eql_iface_types 202 528 v u Tryz.underlying108 (by decide) w
 typ:=fun v w=>by kernel_rfl
 walk:=fun b v w h=>by
  go_enter Tryz.func403,Tryz.ntmps403
  go_wp2
  go_ret
  exact⟨rfl,rfl⟩
theorem Ke7:IsW 203 2 405 where
 ne:=by decide
 noIs:=fun v A w=>run_typeAssert_lacksB Tryz.underlying304 (by kernel_rfl) (by kernel_rfl) v A w
 noAs:=fun v A w=>run_typeAssert_lacksB Tryz.underlying314 (by kernel_rfl) (by kernel_rfl) v A w
 unwrap:=fun v A w=>run_typeAssert_hasB Tryz.underlying307 (by kernel_rfl) v A w
 meth:=fun v w=>by kernel_rfl
 enter:=fun args w=>by kernel_rfl
 eql:=fun v u w=>run_eql_iface_types 203 528 v u Tryz.underlying108 (by decide) w
 typ:=fun v w=>by kernel_rfl
 walk:=fun b v w h=>by
  go_enter Tryz.func405,Tryz.ntmps405
  go_wp2
  go_ret
  exact⟨rfl,rfl⟩
def Zg (w:World):Nat→Value→Addr→Prop
 |0,v,a=>v=.iface 528 (.pointer (some a))
 |n+1,v,a=>∃ (ty A H b:Nat) (u:Value),IsW ty A H∧v=.iface ty (.pointer (some ⟨b,0,none⟩))∧w.cell? ⟨b,A,none⟩=some u∧Zg w n u a
def Asg (ty tg : Nat) (r : Bool) : Prop := ∀ w : World, (ReflectliteType.relation "AssignableTo" ReflectliteType.assignableTo #[.agg #[.pointer (some ⟨17, ty, none⟩)], .iface 302 (.agg #[.pointer (some ⟨17, tg, none⟩)])]).run Tryz.prog w = .ok (.bool r) w
def Qn (w:World)(A H:Nat):Nat→Value→Option Int→Prop
 |0,v,x=>(∃ a,v=.iface 528 (.pointer (some a))∧x=none)∨∃ (b:Nat) (y:Int),v=.iface A (.pointer (some ⟨b,0,none⟩))∧x=some y∧w.cell? ⟨b,H,none⟩=some (.int .i64 y)
 |n+1,v,x=>∃ (ty o I b:Nat) (u:Value),IsW ty o I∧Asg ty A false∧v=.iface ty (.pointer (some ⟨b,0,none⟩))∧w.cell? ⟨b,o,none⟩=some u∧Qn w A H n u x
theorem Zg.root {w:World}(a:Addr):Zg w 0 (.iface 528 (.pointer (some a))) a:=rfl
theorem Zg.wrap {w:World}(n ty A H b:Nat)(v:Value)(a:Addr)(hw:IsW ty A H)(I:w.cell? ⟨b,A,none⟩=some v)(h:Zg w n v a):Zg w (n+1) (.iface ty (.pointer (some ⟨b,0,none⟩))) a:=⟨ty,A,H,b,v,hw,rfl,I,h⟩
theorem Qn.root {w:World}{H A:Nat}(a:Addr):Qn w H A 0 (.iface 528 (.pointer (some a))) none:=.inl ⟨a,rfl,rfl⟩
theorem Qn.hit {w:World}{H A:Nat}(b:Nat)(y:Int)(h:w.cell? ⟨b,A,none⟩=some (.int .i64 y)):Qn w H A 0 (.iface H (.pointer (some ⟨b,0,none⟩))) (some y):=.inr ⟨b,y,rfl,rfl,h⟩
theorem Qn.miss {w:World}{A H:Nat}(n ty o I b:Nat)(v:Value)(x:Option Int)(hw:IsW ty o I)(J:Asg ty A false)(K:w.cell? ⟨b,o,none⟩=some v)(h:Qn w A H n v x):Qn w A H (n+1) (.iface ty (.pointer (some ⟨b,0,none⟩))) x:=⟨ty,o,I,b,v,hw,J,rfl,K,h⟩
theorem Zg.stay {w w':World}:∀ {n:Nat} {v:Value} {a:Addr},Zg w n v a→Below w.heap.size w w'→Zg w' n v a
 |0,_,_,h,_=>h
 |_+1,_,_,⟨ty,J,K,b,u,hw,I,H,h⟩,A=>⟨ty,J,K,b,u,hw,I,Ja A H,Zg.stay h A⟩
theorem Qn.stay {w w':World}{K J:Nat}:∀ {n:Nat} {v:Value} {x:Option Int},Qn w K J n v x→Below w.heap.size w w'→Qn w' K J n v x
 |0,_,_,.inl h,_=>.inl h
 |0,_,_,.inr ⟨b,y,I,M,H⟩,A=>.inr ⟨b,y,I,M,Ja A H⟩
 |_+1,_,_,⟨ty,o,N,b,u,hw,L,I,H,h⟩,A=>⟨ty,o,N,b,u,hw,L,I,Ja A H,Qn.stay h A⟩
theorem Zg.iface {w:World}:∀ {n:Nat} {v:Value} {a:Addr},Zg w n v a→∃ ty x,v=.iface ty x
 |0,_,_,h=>⟨_,_,h⟩
 |_+1,_,_,⟨_,_,_,_,_,_,A,_⟩=>⟨_,_,A⟩
theorem Qn.iface {w:World}{I H:Nat}:∀ {n:Nat} {v:Value} {x:Option Int},Qn w I H n v x→∃ ty x,v=.iface ty x
 |0,_,_,.inl ⟨_,A,_⟩=>⟨_,_,A⟩
 |0,_,_,.inr ⟨_,_,A,_⟩=>⟨_,_,A⟩
 |_+1,_,_,⟨_,_,_,_,_,_,_,A,_⟩=>⟨_,_,A⟩
theorem Jlq:Asg 187 211 false:=fun w=>by kernel_rfl
theorem Jnc:Asg 187 197 false:=fun w=>by kernel_rfl
theorem Jm4:Asg 187 202 false:=fun w=>by kernel_rfl
theorem Jgm:Asg 187 203 false:=fun w=>by kernel_rfl
theorem Jtw:Asg 211 187 false:=fun w=>by kernel_rfl
theorem Jkg:Asg 211 197 false:=fun w=>by kernel_rfl
theorem Jj6:Asg 211 202 false:=fun w=>by kernel_rfl
theorem Jfb:Asg 211 203 false:=fun w=>by kernel_rfl
structure Jny (w:World) (v:Value) (a:Addr) (xn xr xc xp xg xk:Option Int):Prop where
 r:∃ k,Zg w k v a
 n:∃ k,Qn w 197 0 k v xn
 x:∃ k,Qn w 202 0 k v xr
 g:∃ k,Qn w 203 0 k v xg
 c:∃ k,Qn w 187 1 k v xc
 gc:∃ k,Qn w 203 1 k v xk
 p:∃ k,Qn w 211 1 k v xp
abbrev Kip (w:World)(v:Value)(a:Addr)(n c p:Option Int):Prop:=Jny w v a n none c p none none
theorem Jny.below {w w':World}{v:Value}{a:Addr}{n r c p g gc:Option Int}(h:Jny w v a n r c p g gc)(A:Below w.heap.size w w'):Jny w' v a n r c p g gc:=by
 obtain⟨⟨k1,H⟩,⟨O,I⟩,⟨R,J⟩,⟨U,K⟩,⟨X,L⟩,⟨Y,M⟩,⟨Z,N⟩⟩:=h
 exact⟨⟨k1,H.stay A⟩,⟨O,I.stay A⟩,⟨R,J.stay A⟩,⟨U,K.stay A⟩,⟨X,L.stay A⟩,⟨Y,M.stay A⟩,⟨Z,N.stay A⟩⟩
theorem Yu.errV {w:World}{v:Value}{a:Addr}{c p:Option Int}(h:Yu w v a c p):Kip w v a none c p:=by
 rcases h with⟨rfl,rfl,rfl⟩|⟨b,p,rfl,rfl,rfl,h0,H⟩|⟨b,c,rfl,rfl,rfl,H,A⟩|⟨b,d,c,p,rfl,rfl,rfl,H,A,I,J⟩
 ·exact⟨⟨0,.root a⟩,⟨0,.root a⟩,⟨0,.root a⟩,⟨0,.root a⟩,⟨0,.root a⟩,⟨0,.root a⟩,⟨0,.root a⟩⟩
 ·exact⟨⟨1,.wrap _ _ _ _ _ _ _ Zi h0 (.root a)⟩,⟨1,.miss _ _ _ _ _ _ _ Zi Jkg h0 (.root a)⟩,⟨1,.miss _ _ _ _ _ _ _ Zi Jj6 h0 (.root a)⟩,⟨1,.miss _ _ _ _ _ _ _ Zi Jfb h0 (.root a)⟩,⟨1,.miss _ _ _ _ _ _ _ Zi Jtw h0 (.root a)⟩,⟨1,.miss _ _ _ _ _ _ _ Zi Jfb h0 (.root a)⟩,⟨0,.hit _ _ H⟩⟩
 ·exact⟨⟨1,.wrap _ _ _ _ _ _ _ Jab A (.root a)⟩,⟨1,.miss _ _ _ _ _ _ _ Jab Jnc A (.root a)⟩,⟨1,.miss _ _ _ _ _ _ _ Jab Jm4 A (.root a)⟩,⟨1,.miss _ _ _ _ _ _ _ Jab Jgm A (.root a)⟩,⟨0,.hit _ _ H⟩,⟨1,.miss _ _ _ _ _ _ _ Jab Jgm A (.root a)⟩,⟨1,.miss _ _ _ _ _ _ _ Jab Jlq A (.root a)⟩⟩
 exact⟨⟨2,.wrap _ _ _ _ _ _ _ Jab A (.wrap _ _ _ _ _ _ _ Zi I (.root a))⟩,⟨2,.miss _ _ _ _ _ _ _ Jab Jnc A (.miss _ _ _ _ _ _ _ Zi Jkg I (.root a))⟩,⟨2,.miss _ _ _ _ _ _ _ Jab Jm4 A (.miss _ _ _ _ _ _ _ Zi Jj6 I (.root a))⟩,⟨2,.miss _ _ _ _ _ _ _ Jab Jgm A (.miss _ _ _ _ _ _ _ Zi Jfb I (.root a))⟩,⟨0,.hit _ _ H⟩,⟨2,.miss _ _ _ _ _ _ _ Jab Jgm A (.miss _ _ _ _ _ _ _ Zi Jfb I (.root a))⟩,⟨1,.miss _ _ _ _ _ _ _ Jab Jlq A (.hit _ _ J)⟩⟩
end Go.Proofs.YtcaocabmioafcaaGreatDoor
