/- errors.Is and errors.As, by Go's own text, at the errors that the program makes: a named error, a disk's error round one, a table's error round either. What the program makes of its errors: faults. -/
import Derived.Test.YtpchafocmlhmbaaGreatDoorKa
import Derived.Stop.Asserts
import Derived.RowKitTokens
namespace Go.Proofs.YtpchafocmlhmbaaGreatDoor
open Go.RowKit Go.Extern.Stop Go.Stop Go.Extern
def Yu (w:World)(v:Value)(a:Addr)(c p:Option Int):Prop:=
 (v=.iface 433 (.pointer (some a))∧c=none∧p=none) ∨
 (∃ (b:Nat) (y:Int),v=.iface 157 (.pointer (some ⟨b,0,none⟩))∧c=none∧p=some y∧w.cell? ⟨b,0,none⟩=some (.iface 433 (.pointer (some a)))∧w.cell? ⟨b,1,none⟩=some (.int .i64 y)) ∨
 (∃ (b:Nat) (x:Int),v=.iface 123 (.pointer (some ⟨b,0,none⟩))∧c=some x∧p=none∧w.cell? ⟨b,1,none⟩=some (.int .i64 x)∧w.cell? ⟨b,2,none⟩=some (.iface 433 (.pointer (some a)))) ∨
 (∃ (b d:Nat) (x y:Int),v=.iface 123 (.pointer (some ⟨b,0,none⟩))∧c=some x∧p=some y∧w.cell? ⟨b,1,none⟩=some (.int .i64 x)∧w.cell? ⟨b,2,none⟩=some (.iface 157 (.pointer (some ⟨d,0,none⟩)))∧w.cell? ⟨d,0,none⟩=some (.iface 433 (.pointer (some a)))∧w.cell? ⟨d,1,none⟩=some (.int .i64 y))
theorem Yu.root {w:World}(a:Addr):Yu w (.iface 433 (.pointer (some a))) a none none:=.inl ⟨rfl,rfl,rfl⟩
theorem Yu.disk {w:World}(b:Nat)(a:Addr)(p:Int)(h0:w.cell? ⟨b,0,none⟩=some (.iface 433 (.pointer (some a))))(y:w.cell? ⟨b,1,none⟩=some (.int .i64 p)):Yu w (.iface 157 (.pointer (some ⟨b,0,none⟩))) a none (some p):=.inr (.inl ⟨b,p,rfl,rfl,rfl,h0,y⟩)
theorem Yu.tab {w:World}(b:Nat)(a:Addr)(c:Int)(y:w.cell? ⟨b,1,none⟩=some (.int .i64 c))(D:w.cell? ⟨b,2,none⟩=some (.iface 433 (.pointer (some a)))):Yu w (.iface 123 (.pointer (some ⟨b,0,none⟩))) a (some c) none:=.inr (.inr (.inl ⟨b,c,rfl,rfl,rfl,y,D⟩))
theorem Yu.both {w:World}(b d:Nat)(a:Addr)(c p:Int)(y:w.cell? ⟨b,1,none⟩=some (.int .i64 c))(D:w.cell? ⟨b,2,none⟩=some (.iface 157 (.pointer (some ⟨d,0,none⟩))))(E:w.cell? ⟨d,0,none⟩=some (.iface 433 (.pointer (some a))))(H:w.cell? ⟨d,1,none⟩=some (.int .i64 p)):Yu w (.iface 123 (.pointer (some ⟨b,0,none⟩))) a (some c) (some p):=.inr (.inr (.inr ⟨b,d,c,p,rfl,rfl,rfl,y,D,E,H⟩))
theorem Yu.disk_at {w:World}{b:Nat}{a:Addr}{c:Option Int}{p:Int}(h:Yu w (.iface 157 (.pointer (some ⟨b,0,none⟩))) a c (some p)):w.cell? ⟨b,0,none⟩=some (.iface 433 (.pointer (some a)))∧w.cell? ⟨b,1,none⟩=some (.int .i64 p):=by
 rcases h with⟨_,_,hp⟩|⟨D,H,y,_,hp,h0,E⟩|⟨D,x,y,_⟩|⟨D,d,x,H,y,_⟩
 ·simp at hp
 ·simp at y hp;subst y hp;exact⟨h0,E⟩
 ·simp at y
 simp at y
theorem Jd {w:World}{k:Nat}{o:Obj}(h:w.heap[k]?=some o):k<w.heap.size:=by
 rcases Oc1 k w.heap.size with y|y
 ·exact y
 simp[Array.getElem?_eq_none y]at h
theorem Ja {w w':World}(y:Below w.heap.size w w'){b o:Nat}{v:Value}(h:w.cell? ⟨b,o,none⟩=some v):w'.cell? ⟨b,o,none⟩=some v:=by
 rw[(Kx y).1 b o (Jm h)];exact h
theorem Yu.below {w w':World}{v:Value}{a:Addr}{c p:Option Int}(h:Yu w v a c p)(y:Below w.heap.size w w'):Yu w' v a c p:=by
 rcases h with⟨rfl,rfl,rfl⟩|⟨b,E,rfl,rfl,rfl,h0,D⟩|⟨b,x,rfl,rfl,rfl,h0,D⟩|⟨b,d,x,E,rfl,rfl,rfl,h0,D,H,K⟩
 ·exact .root a
 ·exact .disk b a E (Ja y h0) (Ja y D)
 ·exact .tab b a x (Ja y h0) (Ja y D)
 exact .both b d a x E (Ja y h0) (Ja y D) (Ja y H) (Ja y K)
end Go.Proofs.YtpchafocmlhmbaaGreatDoor
