/- errors.Is and errors.As, by Go's own text, at the errors that the program makes: a named error, a disk's error round one, a table's error round either. What the program makes of its errors: faults. -/
import Derived.Test.YtkdojacdolidfaaGreatDoorKa
import Derived.Stop.Asserts
import Derived.RowKitTokens
namespace Go.Proofs.YtkdojacdolidfaaGreatDoor
open Go.RowKit Go.Extern.Stop Go.Stop Go.Extern
def Yu (w:World)(v:Value)(a:Addr)(c p:Option Int):Prop:=
 (v=.iface 434 (.pointer (some a))/\c=none/\p=none) \/
 (∃ (b:Nat) (y:Int),v=.iface 158 (.pointer (some ⟨b,0,none⟩))/\c=none/\p=some y/\w.cell? ⟨b,0,none⟩=some (.iface 434 (.pointer (some a)))/\w.cell? ⟨b,1,none⟩=some (.int .i64 y)) \/
 (∃ (b:Nat) (x:Int),v=.iface 125 (.pointer (some ⟨b,0,none⟩))/\c=some x/\p=none/\w.cell? ⟨b,1,none⟩=some (.int .i64 x)/\w.cell? ⟨b,2,none⟩=some (.iface 434 (.pointer (some a)))) \/
 (∃ (b d:Nat) (x y:Int),v=.iface 125 (.pointer (some ⟨b,0,none⟩))/\c=some x/\p=some y/\w.cell? ⟨b,1,none⟩=some (.int .i64 x)/\w.cell? ⟨b,2,none⟩=some (.iface 158 (.pointer (some ⟨d,0,none⟩)))/\w.cell? ⟨d,0,none⟩=some (.iface 434 (.pointer (some a)))/\w.cell? ⟨d,1,none⟩=some (.int .i64 y))
theorem Yu.root {w}a:Yu w (.iface 434 (.pointer (some a))) a none none:=.inl ⟨rfl,rfl,rfl⟩
theorem Yu.disk {w}b a p(h0:w.cell? ⟨b,0,none⟩=some (.iface 434 (.pointer (some a))))(y:w.cell? ⟨b,1,none⟩=some (.int .i64 p)):Yu w (.iface 158 (.pointer (some ⟨b,0,none⟩))) a none (some p):=.inr (.inl ⟨b,p,rfl,rfl,rfl,h0,y⟩)
theorem Yu.tab {w}b a c(y:w.cell? ⟨b,1,none⟩=some (.int .i64 c))(H:w.cell? ⟨b,2,none⟩=some (.iface 434 (.pointer (some a)))):Yu w (.iface 125 (.pointer (some ⟨b,0,none⟩))) a (some c) none:=.inr (.inr (.inl ⟨b,c,rfl,rfl,rfl,y,H⟩))
theorem Yu.both {w}b d a c p(y:w.cell? ⟨b,1,none⟩=some (.int .i64 c))(H:w.cell? ⟨b,2,none⟩=some (.iface 158 (.pointer (some ⟨d,0,none⟩))))(I:w.cell? ⟨d,0,none⟩=some (.iface 434 (.pointer (some a))))(K:w.cell? ⟨d,1,none⟩=some (.int .i64 p)):Yu w (.iface 125 (.pointer (some ⟨b,0,none⟩))) a (some c) (some p):=.inr (.inr (.inr ⟨b,d,c,p,rfl,rfl,rfl,y,H,I,K⟩))
theorem Yu.disk_at {w b a}{c:Option Int}{p}(h:Yu w (.iface 158 (.pointer (some ⟨b,0,none⟩))) a c (some p)):w.cell? ⟨b,0,none⟩=some (.iface 434 (.pointer (some a)))/\w.cell? ⟨b,1,none⟩=some (.int .i64 p):=by
 rcases h with⟨_,_,hp⟩|⟨y,I,hv,_,hp,h0,H⟩|⟨y,x,hv,_⟩|⟨y,d,x,I,hv,_⟩
 ·simp at hp
 ·simp at hv hp;subst hv hp;exact⟨h0,H⟩
 ·simp at hv
 simp at hv
theorem Jd {w:World}{k:Nat}{o:Obj}(h:w.heap[k]?=some o):k<w.heap.size:=by
 rcases Oc1 k w.heap.size with y|y
 ·exact y
 simp[Array.getElem?_eq_none y]at h
theorem Ja {w w'}(hb:Below w.heap.size w w'){b o v}(h:w.cell? ⟨b,o,none⟩=some v):w'.cell? ⟨b,o,none⟩=some v:=by
 rw[(Kx hb).1 b o (Jm h)];exact h
theorem Yu.below {w w' v a}{c p:Option Int}(h:Yu w v a c p)(hb:Below w.heap.size w w'):Yu w' v a c p:=by
 rcases h with⟨rfl,rfl,rfl⟩|⟨b,H,rfl,rfl,rfl,h0,y⟩|⟨b,x,rfl,rfl,rfl,h0,y⟩|⟨b,d,x,H,rfl,rfl,rfl,h0,y,I,K⟩
 ·exact .root a
 ·exact .disk b a H (Ja hb h0) (Ja hb y)
 ·exact .tab b a x (Ja hb h0) (Ja hb y)
 exact .both b d a x H (Ja hb h0) (Ja hb y) (Ja hb I) (Ja hb K)
structure IsW (ty off un:Nat):Prop where
 ne:ty≠434
 noIs:∀ (v:Value) (xT:TypeId) (w:World),(Instr.typeAssert (.iface ty v) xT 228 true).run Tryz.prog w=.ok (.tuple #[.nilIface,.bool false]) w
 noAs:∀ (v:Value) (xT:TypeId) (w:World),(Instr.typeAssert (.iface ty v) xT 238 true).run Tryz.prog w=.ok (.tuple #[.nilIface,.bool false]) w
 unwrap:∀ (v:Value) (xT:TypeId) (w:World),(Instr.typeAssert (.iface ty v) xT 231 true).run Tryz.prog w=.ok (.tuple #[.iface ty v,.bool true]) w
 meth : ∀ (v : Value) (w : World), (Go.method 564 ty v "Unwrap").run Tryz.prog w = .ok (un, v) w
 enter:∀ (args:Array Value) (w:World),(callFunc un args).run Tryz.prog w=.ok (.enter un args) w
 eql:∀ (v u:Value) (w:World),(binOp .eql 80 (.iface ty v) (.iface 434 u)).run Tryz.prog w=.ok (.bool false) w
 typ:∀ (v:Value) (w:World),(ReflectliteType.typeOf #[.iface ty v]).run Tryz.prog w=.ok (.iface 226 (.agg #[.pointer (some ⟨17,ty,none⟩)])) w
 walk:∀ (b:Nat) (v:Value) (w:World),w.cell? ⟨b,off,none⟩=some v->Calls Tryz.prog un #[.pointer (some ⟨b,0,none⟩)] w fun e w'=>e=.returned v/\w'=w
def Zg (w:World):Nat->Value->Addr->Prop
 |0,v,a=>v=.iface 434 (.pointer (some a))
 |n+1,v,a=>∃ (ty off y b:Nat) (u:Value),IsW ty off y/\v=.iface ty (.pointer (some ⟨b,0,none⟩))/\w.cell? ⟨b,off,none⟩=some u/\Zg w n u a
def Asg (ty tg : Nat) (r : Bool) : Prop := ∀ w : World, (ReflectliteType.relation "AssignableTo" ReflectliteType.assignableTo #[.agg #[.pointer (some ⟨17, ty, none⟩)], .iface 226 (.agg #[.pointer (some ⟨17, tg, none⟩)])]).run Tryz.prog w = .ok (.bool r) w
def Qn (w:World)(y off:Nat):Nat->Value->Option Int->Prop
 |0,v,x=>(∃ a,v=.iface 434 (.pointer (some a))/\x=none)\/∃ (b:Nat) (H:Int),v=.iface y (.pointer (some ⟨b,0,none⟩))/\x=some H/\w.cell? ⟨b,off,none⟩=some (.int .i64 H)
 |n+1,v,x=>∃ (ty o I b:Nat) (u:Value),IsW ty o I/\Asg ty y false/\v=.iface ty (.pointer (some ⟨b,0,none⟩))/\w.cell? ⟨b,o,none⟩=some u/\Qn w y off n u x
theorem Zg.root {w}a:Zg w 0 (.iface 434 (.pointer (some a))) a:=rfl
theorem Qn.root {w y off}a:Qn w y off 0 (.iface 434 (.pointer (some a))) none:=.inl ⟨a,rfl,rfl⟩
structure Jny (w:World) (v:Value) (a:Addr) (xn xr xc xp xg xk:Option Int):Prop where
 r:∃ k,Zg w k v a
 n:∃ k,Qn w 107 0 k v xn
 x:∃ k,Qn w 149 0 k v xr
 g:∃ k,Qn w 150 0 k v xg
 c:∃ k,Qn w 125 1 k v xc
 gc:∃ k,Qn w 150 1 k v xk
 p:∃ k,Qn w 158 1 k v xp
