/- errors.Is and errors.As, by Go's own text, at the errors that the program makes: a named error, a disk's error round one, a table's error round either. What the program makes of its errors: faults. -/
import Derived.Test.YtkgibdjakgmmcaaGreatDoorKa
import Derived.LaidEql
import Derived.Stop.Asserts
import Derived.RowKitTokens
set_option maxHeartbeats 400000
namespace Go.Proofs.YtkgibdjakgmmcaaGreatDoor
open Go.RowKit Go.Extern.Stop Go.Stop Go.Extern
def Chain (w:World)(v:Value)(a:Addr)(c p:Option Int):Prop:=
 (v=.iface 284 (.pointer (some a))∧c=none∧p=none) ∨
 (∃ (b:Nat) (y:Int),v=.iface 162 (.pointer (some ⟨b,0,none⟩))∧c=none∧p=some y∧w.cell? ⟨b,0,none⟩=some (.iface 284 (.pointer (some a)))∧w.cell? ⟨b,1,none⟩=some (.int .i64 y)) ∨
 (∃ (b:Nat) (x:Int),v=.iface 158 (.pointer (some ⟨b,0,none⟩))∧c=some x∧p=none∧w.cell? ⟨b,1,none⟩=some (.int .i64 x)∧w.cell? ⟨b,2,none⟩=some (.iface 284 (.pointer (some a)))) ∨
 (∃ (b d:Nat) (x y:Int),v=.iface 158 (.pointer (some ⟨b,0,none⟩))∧c=some x∧p=some y∧w.cell? ⟨b,1,none⟩=some (.int .i64 x)∧w.cell? ⟨b,2,none⟩=some (.iface 162 (.pointer (some ⟨d,0,none⟩)))∧w.cell? ⟨d,0,none⟩=some (.iface 284 (.pointer (some a)))∧w.cell? ⟨d,1,none⟩=some (.int .i64 y))
theorem Chain.root {w:World}(a:Addr):Chain w (.iface 284 (.pointer (some a))) a none none:=.inl ⟨rfl,rfl,rfl⟩
theorem Chain.disk {w:World}(b:Nat)(a:Addr)(p:Int)(h0:w.cell? ⟨b,0,none⟩=some (.iface 284 (.pointer (some a))))(h1:w.cell? ⟨b,1,none⟩=some (.int .i64 p)):Chain w (.iface 162 (.pointer (some ⟨b,0,none⟩))) a none (some p):=.inr (.inl ⟨b,p,rfl,rfl,rfl,h0,h1⟩)
theorem Chain.tab {w:World}(b:Nat)(a:Addr)(c:Int)(h1:w.cell? ⟨b,1,none⟩=some (.int .i64 c))(h2:w.cell? ⟨b,2,none⟩=some (.iface 284 (.pointer (some a)))):Chain w (.iface 158 (.pointer (some ⟨b,0,none⟩))) a (some c) none:=.inr (.inr (.inl ⟨b,c,rfl,rfl,rfl,h1,h2⟩))
theorem Chain.both {w:World}(b d:Nat)(a:Addr)(c p:Int)(h1:w.cell? ⟨b,1,none⟩=some (.int .i64 c))(h2:w.cell? ⟨b,2,none⟩=some (.iface 162 (.pointer (some ⟨d,0,none⟩))))(h3:w.cell? ⟨d,0,none⟩=some (.iface 284 (.pointer (some a))))(h4:w.cell? ⟨d,1,none⟩=some (.int .i64 p)):Chain w (.iface 158 (.pointer (some ⟨b,0,none⟩))) a (some c) (some p):=.inr (.inr (.inr ⟨b,d,c,p,rfl,rfl,rfl,h1,h2,h3,h4⟩))
theorem Chain.disk_at {w:World}{b:Nat}{a:Addr}{c:Option Int}{p:Int}(h:Chain w (.iface 162 (.pointer (some ⟨b,0,none⟩))) a c (some p)):w.cell? ⟨b,0,none⟩=some (.iface 284 (.pointer (some a)))∧w.cell? ⟨b,1,none⟩=some (.int .i64 p):=by
 rcases h with⟨_,_,hp⟩|⟨b',y,hv,_,hp,h0,h1⟩|⟨b',x,hv,_⟩|⟨b',d,x,y,hv,_⟩
 ·simp at hp
 ·simp at hv hp
  subst hv hp
  exact⟨h0,h1⟩
 ·simp at hv
 simp at hv
theorem lt_of_heap {w:World}{k:Nat}{o:Obj}(h:w.heap[k]?=some o):k<w.heap.size:=by
 rcases Nat.lt_or_ge k w.heap.size with h'|h'
 ·exact h'
 simp[Array.getElem?_eq_none h']at h
theorem cell_below {w w':World}(hb:Below w.heap.size w w'){b o:Nat}{v:Value}(h:w.cell? ⟨b,o,none⟩=some v):w'.cell? ⟨b,o,none⟩=some v:=by
 rw[(below_keep hb).1 b o (lt_of_cell h)];exact h
def cmpM (args : Array Value) : Sem Value := Extern.ReflectliteType.method (fun t => do Go.Extern.Rtype.noPackHeld "Comparable" t; pure (.bool (← typeInfo t).comparable)) args
theorem isComparable (w:World):(cmpM #[.agg #[.pointer (some ⟨15,284,none⟩)]]).run Tryz.prog w=.ok (.bool true) w:=by kernel_rfl
theorem run_cmpM (args:Array Value)(w:World):(callFunc 198 args).run Tryz.prog w=((cmpM args).run Tryz.prog w).andThen fun v w'=>.ok (.value v) w':=
 @run_callFunc_extern Tryz.prog 198 _ (Extern.ReflectliteType.method fun t => do Go.Extern.Rtype.noPackHeld "Comparable" t; pure (.bool (← typeInfo t).comparable)) Tryz.func198 (by kernel_rfl) (by kernel_rfl) (by kernel_rfl) (by kernel_rfl) args w
theorem isComp:(Tryz.prog.info? 284).map (·.comparable)=some true:=by kernel_rfl
theorem isSize:(Tryz.prog.info? 303).map (·.size)=some 1:=by kernel_rfl
theorem isMethodComparable (v : Value) (w : World) : (Go.method 415 216 v "Comparable").run Tryz.prog w = .ok (198, v) w := by kernel_rfl
theorem mKind (h : Value) (w : World) : (Go.method 415 216 (.agg #[h]) "Kind").run Tryz.prog w = .ok (179, h) w := by kernel_rfl
theorem mElem (h : Value) (w : World) : (Go.method 415 216 (.agg #[h]) "Elem").run Tryz.prog w = .ok (199, .agg #[h]) w := by kernel_rfl
theorem mImplements (h : Value) (w : World) : (Go.method 415 216 (.agg #[h]) "Implements").run Tryz.prog w = .ok (200, .agg #[h]) w := by kernel_rfl
theorem mAssignable (h : Value) (w : World) : (Go.method 415 216 (.agg #[h]) "AssignableTo").run Tryz.prog w = .ok (197, .agg #[h]) w := by kernel_rfl
theorem typeOfRoot (v:Value)(w:World):(ReflectliteType.typeOf #[.iface 284 v]).run Tryz.prog w=.ok (.iface 216 (.agg #[.pointer (some ⟨15,284,none⟩)])) w:=by kernel_rfl
theorem noIsRoot (v:Value)(xT:TypeId)(w:World):(Instr.typeAssert (.iface 284 v) xT 218 true).run Tryz.prog w=.ok (.tuple #[.nilIface,.bool false]) w:=run_typeAssert_lacksB Tryz.underlying218 (by kernel_rfl) (by kernel_rfl) v xT w
theorem noAsRoot (v:Value)(xT:TypeId)(w:World):(Instr.typeAssert (.iface 284 v) xT 228 true).run Tryz.prog w=.ok (.tuple #[.nilIface,.bool false]) w:=run_typeAssert_lacksB Tryz.underlying228 (by kernel_rfl) (by kernel_rfl) v xT w
theorem noUnwrapsRoot (v:Value)(xT:TypeId)(w:World):(Instr.typeAssert (.iface 284 v) xT 223 true).run Tryz.prog w=.ok (.tuple #[.nilIface,.bool false]) w:=run_typeAssert_lacksB Tryz.underlying223 (by kernel_rfl) (by kernel_rfl) v xT w
theorem unwrapRoot (v:Value)(xT:TypeId)(w:World):(Instr.typeAssert (.iface 284 v) xT 221 true).run Tryz.prog w=.ok (.tuple #[.nilIface,.bool false]) w:=run_typeAssert_lacksB Tryz.underlying221 (by kernel_rfl) (by kernel_rfl) v xT w
structure IsW (ty off un:Nat):Prop where
 ne:ty≠284
 noIs:∀ (v:Value) (xT:TypeId) (w:World),(Instr.typeAssert (.iface ty v) xT 218 true).run Tryz.prog w=.ok (.tuple #[.nilIface,.bool false]) w
 noAs:∀ (v:Value) (xT:TypeId) (w:World),(Instr.typeAssert (.iface ty v) xT 228 true).run Tryz.prog w=.ok (.tuple #[.nilIface,.bool false]) w
 unwrap:∀ (v:Value) (xT:TypeId) (w:World),(Instr.typeAssert (.iface ty v) xT 221 true).run Tryz.prog w=.ok (.tuple #[.iface ty v,.bool true]) w
 meth : ∀ (v : Value) (w : World), (Go.method 415 ty v "Unwrap").run Tryz.prog w = .ok (un, v) w
 enter:∀ (args:Array Value) (w:World),(callFunc un args).run Tryz.prog w=.ok (.enter un args) w
 eql:∀ (v u:Value) (w:World),(binOp .eql 81 (.iface ty v) (.iface 284 u)).run Tryz.prog w=.ok (.bool false) w
 typ:∀ (v:Value) (w:World),(ReflectliteType.typeOf #[.iface ty v]).run Tryz.prog w=.ok (.iface 216 (.agg #[.pointer (some ⟨15,ty,none⟩)])) w
 walk:∀ (b:Nat) (v:Value) (w:World),w.cell? ⟨b,off,none⟩=some v→Calls Tryz.prog un #[.pointer (some ⟨b,0,none⟩)] w fun e w'=>e=.returned v∧w'=w
theorem isW_tab:IsW 158 2 190 where
 ne:=by decide
 noIs:=fun v xT w=>run_typeAssert_lacksB Tryz.underlying218 (by kernel_rfl) (by kernel_rfl) v xT w
 noAs:=fun v xT w=>run_typeAssert_lacksB Tryz.underlying228 (by kernel_rfl) (by kernel_rfl) v xT w
 unwrap:=fun v xT w=>run_typeAssert_hasB Tryz.underlying221 (by kernel_rfl) v xT w
 meth:=fun v w=>by kernel_rfl
 enter:=fun args w=>by kernel_rfl
 eql:=fun v u w=>run_eql_iface_types 158 284 v u Tryz.underlying81 (by decide) w
 typ:=fun v w=>by kernel_rfl
 walk:=fun b v w h=>by
  go_enter Tryz.func190,Tryz.ntmps190
  go_wp2
  go_ret
  exact⟨rfl,rfl⟩
theorem isW_disk:IsW 162 0 192 where
 ne:=by decide
 noIs:=fun v xT w=>run_typeAssert_lacksB Tryz.underlying218 (by kernel_rfl) (by kernel_rfl) v xT w
 noAs:=fun v xT w=>run_typeAssert_lacksB Tryz.underlying228 (by kernel_rfl) (by kernel_rfl) v xT w
 unwrap:=fun v xT w=>run_typeAssert_hasB Tryz.underlying221 (by kernel_rfl) v xT w
 meth:=fun v w=>by kernel_rfl
 enter:=fun args w=>by kernel_rfl
 eql:=fun v u w=>run_eql_iface_types 162 284 v u Tryz.underlying81 (by decide) w
 typ:=fun v w=>by kernel_rfl
 walk:=fun b v w h=>by
  go_enter Tryz.func192,Tryz.ntmps192
  go_wp2
  go_ret
  exact⟨rfl,rfl⟩
theorem isW_plan:IsW 133 1 184 where
 ne:=by decide
 noIs:=fun v xT w=>run_typeAssert_lacksB Tryz.underlying218 (by kernel_rfl) (by kernel_rfl) v xT w
 noAs:=fun v xT w=>run_typeAssert_lacksB Tryz.underlying228 (by kernel_rfl) (by kernel_rfl) v xT w
 unwrap:=fun v xT w=>run_typeAssert_hasB Tryz.underlying221 (by kernel_rfl) v xT w
 meth:=fun v w=>by kernel_rfl
 enter:=fun args w=>by kernel_rfl
 eql:=fun v u w=>run_eql_iface_types 133 284 v u Tryz.underlying81 (by decide) w
 typ:=fun v w=>by kernel_rfl
 walk:=fun b v w h=>by
  go_enter Tryz.func184,Tryz.ntmps184
  go_wp2
  go_ret
  exact⟨rfl,rfl⟩
theorem isW_expr:IsW 150 2 186 where
 ne:=by decide
 noIs:=fun v xT w=>run_typeAssert_lacksB Tryz.underlying218 (by kernel_rfl) (by kernel_rfl) v xT w
 noAs:=fun v xT w=>run_typeAssert_lacksB Tryz.underlying228 (by kernel_rfl) (by kernel_rfl) v xT w
 unwrap:=fun v xT w=>run_typeAssert_hasB Tryz.underlying221 (by kernel_rfl) v xT w
 meth:=fun v w=>by kernel_rfl
 enter:=fun args w=>by kernel_rfl
 eql:=fun v u w=>run_eql_iface_types 150 284 v u Tryz.underlying81 (by decide) w
 typ:=fun v w=>by kernel_rfl
 walk:=fun b v w h=>by
  go_enter Tryz.func186,Tryz.ntmps186
  go_wp2
  go_ret
  exact⟨rfl,rfl⟩
theorem isW_grp:IsW 151 2 188 where
 ne:=by decide
 noIs:=fun v xT w=>run_typeAssert_lacksB Tryz.underlying218 (by kernel_rfl) (by kernel_rfl) v xT w
 noAs:=fun v xT w=>run_typeAssert_lacksB Tryz.underlying228 (by kernel_rfl) (by kernel_rfl) v xT w
 unwrap:=fun v xT w=>run_typeAssert_hasB Tryz.underlying221 (by kernel_rfl) v xT w
 meth:=fun v w=>by kernel_rfl
 enter:=fun args w=>by kernel_rfl
 eql:=fun v u w=>run_eql_iface_types 151 284 v u Tryz.underlying81 (by decide) w
 typ:=fun v w=>by kernel_rfl
 walk:=fun b v w h=>by
  go_enter Tryz.func188,Tryz.ntmps188
  go_wp2
  go_ret
  exact⟨rfl,rfl⟩
def ChainR (w:World):Nat→Value→Addr→Prop
 |0,v,a=>v=.iface 284 (.pointer (some a))
 |n+1,v,a=>∃ (ty off un b:Nat) (u:Value),IsW ty off un∧v=.iface ty (.pointer (some ⟨b,0,none⟩))∧w.cell? ⟨b,off,none⟩=some u∧ChainR w n u a
def Asg (ty tg : Nat) (r : Bool) : Prop := ∀ w : World, (ReflectliteType.relation "AssignableTo" ReflectliteType.assignableTo #[.agg #[.pointer (some ⟨15, ty, none⟩)], .iface 216 (.agg #[.pointer (some ⟨15, tg, none⟩)])]).run Tryz.prog w = .ok (.bool r) w
def ChainT (w:World)(tg off:Nat):Nat→Value→Option Int→Prop
 |0,v,x=>(∃ a,v=.iface 284 (.pointer (some a))∧x=none)∨∃ (b:Nat) (y:Int),v=.iface tg (.pointer (some ⟨b,0,none⟩))∧x=some y∧w.cell? ⟨b,off,none⟩=some (.int .i64 y)
 |n+1,v,x=>∃ (ty o un b:Nat) (u:Value),IsW ty o un∧Asg ty tg false∧v=.iface ty (.pointer (some ⟨b,0,none⟩))∧w.cell? ⟨b,o,none⟩=some u∧ChainT w tg off n u x
theorem ChainR.root {w:World}(a:Addr):ChainR w 0 (.iface 284 (.pointer (some a))) a:=rfl
theorem ChainR.wrap {w:World}(n ty off un b:Nat)(v:Value)(a:Addr)(hw:IsW ty off un)(hc:w.cell? ⟨b,off,none⟩=some v)(h:ChainR w n v a):ChainR w (n+1) (.iface ty (.pointer (some ⟨b,0,none⟩))) a:=⟨ty,off,un,b,v,hw,rfl,hc,h⟩
theorem ChainT.root {w:World}{tg off:Nat}(a:Addr):ChainT w tg off 0 (.iface 284 (.pointer (some a))) none:=.inl ⟨a,rfl,rfl⟩
theorem ChainT.hit {w:World}{tg off:Nat}(b:Nat)(y:Int)(h:w.cell? ⟨b,off,none⟩=some (.int .i64 y)):ChainT w tg off 0 (.iface tg (.pointer (some ⟨b,0,none⟩))) (some y):=.inr ⟨b,y,rfl,rfl,h⟩
theorem ChainT.miss {w:World}{tg off:Nat}(n ty o un b:Nat)(v:Value)(x:Option Int)(hw:IsW ty o un)(ha:Asg ty tg false)(hc:w.cell? ⟨b,o,none⟩=some v)(h:ChainT w tg off n v x):ChainT w tg off (n+1) (.iface ty (.pointer (some ⟨b,0,none⟩))) x:=⟨ty,o,un,b,v,hw,ha,rfl,hc,h⟩
theorem ChainR.stay {w w':World}:∀ {n:Nat} {v:Value} {a:Addr},ChainR w n v a→Below w.heap.size w w'→ChainR w' n v a
 |0,_,_,h,_=>h
 |_+1,_,_,⟨ty,off,un,b,u,hw,hv,hc,h⟩,hb=>⟨ty,off,un,b,u,hw,hv,cell_below hb hc,ChainR.stay h hb⟩
theorem ChainT.stay {w w':World}{tg off:Nat}:∀ {n:Nat} {v:Value} {x:Option Int},ChainT w tg off n v x→Below w.heap.size w w'→ChainT w' tg off n v x
 |0,_,_,.inl h,_=>.inl h
 |0,_,_,.inr ⟨b,y,hv,hx,hc⟩,hb=>.inr ⟨b,y,hv,hx,cell_below hb hc⟩
 |_+1,_,_,⟨ty,o,un,b,u,hw,ha,hv,hc,h⟩,hb=>⟨ty,o,un,b,u,hw,ha,hv,cell_below hb hc,ChainT.stay h hb⟩
theorem ChainR.iface {w:World}:∀ {n:Nat} {v:Value} {a:Addr},ChainR w n v a→∃ ty x,v=.iface ty x
 |0,_,_,h=>⟨_,_,h⟩
 |_+1,_,_,⟨_,_,_,_,_,_,hv,_⟩=>⟨_,_,hv⟩
theorem ChainT.iface {w:World}{tg off:Nat}:∀ {n:Nat} {v:Value} {x:Option Int},ChainT w tg off n v x→∃ ty x,v=.iface ty x
 |0,_,_,.inl ⟨_,hv,_⟩=>⟨_,_,hv⟩
 |0,_,_,.inr ⟨_,_,hv,_⟩=>⟨_,_,hv⟩
 |_+1,_,_,⟨_,_,_,_,_,_,_,hv,_⟩=>⟨_,_,hv⟩
theorem asgTabDisk:Asg 158 162 false:=fun w=>by kernel_rfl
theorem asgTabPlan:Asg 158 133 false:=fun w=>by kernel_rfl
theorem asgTabExpr:Asg 158 150 false:=fun w=>by kernel_rfl
theorem asgTabGrp:Asg 158 151 false:=fun w=>by kernel_rfl
theorem asgDiskTab:Asg 162 158 false:=fun w=>by kernel_rfl
theorem asgDiskPlan:Asg 162 133 false:=fun w=>by kernel_rfl
theorem asgDiskExpr:Asg 162 150 false:=fun w=>by kernel_rfl
theorem asgDiskGrp:Asg 162 151 false:=fun w=>by kernel_rfl
theorem asgPlanTab:Asg 133 158 false:=fun w=>by kernel_rfl
theorem asgPlanDisk:Asg 133 162 false:=fun w=>by kernel_rfl
theorem asgPlanExpr:Asg 133 150 false:=fun w=>by kernel_rfl
theorem asgPlanGrp:Asg 133 151 false:=fun w=>by kernel_rfl
theorem asgExprTab:Asg 150 158 false:=fun w=>by kernel_rfl
theorem asgExprDisk:Asg 150 162 false:=fun w=>by kernel_rfl
theorem asgExprPlan:Asg 150 133 false:=fun w=>by kernel_rfl
theorem asgExprGrp:Asg 150 151 false:=fun w=>by kernel_rfl
structure ErrX (w:World) (v:Value) (a:Addr) (xn xr xc xp xg xk:Option Int):Prop where
 r:∃ k,ChainR w k v a
 n:∃ k,ChainT w 133 0 k v xn
 x:∃ k,ChainT w 150 0 k v xr
 g:∃ k,ChainT w 151 0 k v xg
 c:∃ k,ChainT w 158 1 k v xc
 gc:∃ k,ChainT w 151 1 k v xk
 p:∃ k,ChainT w 162 1 k v xp
abbrev ErrV (w:World)(v:Value)(a:Addr)(n c p:Option Int):Prop:=ErrX w v a n none c p none none
theorem ErrX.below {w w':World}{v:Value}{a:Addr}{n r c p g gc:Option Int}(h:ErrX w v a n r c p g gc)(hb:Below w.heap.size w w'):ErrX w' v a n r c p g gc:=by
 obtain⟨⟨k1,h1⟩,⟨k2,h2⟩,⟨k3,h3⟩,⟨k4,h4⟩,⟨k5,h5⟩,⟨k6,h6⟩,⟨k7,h7⟩⟩:=h
 exact⟨⟨k1,h1.stay hb⟩,⟨k2,h2.stay hb⟩,⟨k3,h3.stay hb⟩,⟨k4,h4.stay hb⟩,⟨k5,h5.stay hb⟩,⟨k6,h6.stay hb⟩,⟨k7,h7.stay hb⟩⟩
theorem ErrX.iface {w:World}{v:Value}{a:Addr}{n r c p g gc:Option Int}(h:ErrX w v a n r c p g gc):∃ ty x,v=.iface ty x:=by
 obtain⟨_,hr⟩:=h.r
 exact hr.iface
theorem Chain.errV {w:World}{v:Value}{a:Addr}{c p:Option Int}(h:Chain w v a c p):ErrV w v a none c p:=by
 rcases h with⟨rfl,rfl,rfl⟩|⟨b,p,rfl,rfl,rfl,h0,h1⟩|⟨b,c,rfl,rfl,rfl,h1,h2⟩|⟨b,d,c,p,rfl,rfl,rfl,h1,h2,h3,h4⟩
 ·exact⟨⟨0,.root a⟩,⟨0,.root a⟩,⟨0,.root a⟩,⟨0,.root a⟩,⟨0,.root a⟩,⟨0,.root a⟩,⟨0,.root a⟩⟩
 ·exact⟨⟨1,.wrap _ _ _ _ _ _ _ isW_disk h0 (.root a)⟩,⟨1,.miss _ _ _ _ _ _ _ isW_disk asgDiskPlan h0 (.root a)⟩,⟨1,.miss _ _ _ _ _ _ _ isW_disk asgDiskExpr h0 (.root a)⟩,⟨1,.miss _ _ _ _ _ _ _ isW_disk asgDiskGrp h0 (.root a)⟩,⟨1,.miss _ _ _ _ _ _ _ isW_disk asgDiskTab h0 (.root a)⟩,⟨1,.miss _ _ _ _ _ _ _ isW_disk asgDiskGrp h0 (.root a)⟩,⟨0,.hit _ _ h1⟩⟩
 ·exact⟨⟨1,.wrap _ _ _ _ _ _ _ isW_tab h2 (.root a)⟩,⟨1,.miss _ _ _ _ _ _ _ isW_tab asgTabPlan h2 (.root a)⟩,⟨1,.miss _ _ _ _ _ _ _ isW_tab asgTabExpr h2 (.root a)⟩,⟨1,.miss _ _ _ _ _ _ _ isW_tab asgTabGrp h2 (.root a)⟩,⟨0,.hit _ _ h1⟩,⟨1,.miss _ _ _ _ _ _ _ isW_tab asgTabGrp h2 (.root a)⟩,⟨1,.miss _ _ _ _ _ _ _ isW_tab asgTabDisk h2 (.root a)⟩⟩
 exact⟨⟨2,.wrap _ _ _ _ _ _ _ isW_tab h2 (.wrap _ _ _ _ _ _ _ isW_disk h3 (.root a))⟩,⟨2,.miss _ _ _ _ _ _ _ isW_tab asgTabPlan h2 (.miss _ _ _ _ _ _ _ isW_disk asgDiskPlan h3 (.root a))⟩,⟨2,.miss _ _ _ _ _ _ _ isW_tab asgTabExpr h2 (.miss _ _ _ _ _ _ _ isW_disk asgDiskExpr h3 (.root a))⟩,⟨2,.miss _ _ _ _ _ _ _ isW_tab asgTabGrp h2 (.miss _ _ _ _ _ _ _ isW_disk asgDiskGrp h3 (.root a))⟩,⟨0,.hit _ _ h1⟩,⟨2,.miss _ _ _ _ _ _ _ isW_tab asgTabGrp h2 (.miss _ _ _ _ _ _ _ isW_disk asgDiskGrp h3 (.root a))⟩,⟨1,.miss _ _ _ _ _ _ _ isW_tab asgTabDisk h2 (.hit _ _ h4)⟩⟩
end Go.Proofs.YtkgibdjakgmmcaaGreatDoor
