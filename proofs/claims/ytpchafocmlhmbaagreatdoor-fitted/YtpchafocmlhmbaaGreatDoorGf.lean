/- What is told of a group. -/
import Derived.Test.YtpchafocmlhmbaaGreatDoorGa
import Derived.DeepKeys5
import Derived.Test.YtpchafocmlhmbaaGreatDoorHc
namespace Go.Proofs.YtpchafocmlhmbaaGreatDoor
section
open Go.RowKit Go.Shelf
def Kk8 (t:Tly)(fn:Nat):V×Bool:=if fn=1 then (Jbg (t.rows:Nat),true)else if fn=2 then (Jbg (t.held:Nat),true)else if fn=3 then (if t.held=0 then (Jf,true)else if -9223372036854775808≤t.sum∧t.sum≤9223372036854775807 then (Jbg t.sum,true)else (Jf,false))else if fn=4 then (t.least,true)else (t.most,true)
def Km5 (m:List V)(ts:List Tly)(k fn:Nat):V×Bool:=if fn=0 then (m.getD k Jf,true)else Kk8 (ts.getD k Klg) fn
end
section
open Go.RowKit Go.Shelf Go.Maps
def Km9 (v:V):Prop:=Jg v.k∧Jg v.n∧v.s.size≤maxLen
def eqV (a b:V):Bool:=decide (a.k=b.k)&&decide (a.n=b.n)&&decide (a.s=b.s)
def eqM:List V→List V→Bool
 |[],[]=>true
 |a::m,b::u=>eqV a b&&eqM m u
 |_,_=>false
def Knh (y:List (List V))(m:List V):Bool:=y.any (eqM m)
def Klm (y:List (List V))(m:List V):List (List V):=if Knh y m=true then y else y++[m]
end
section
open Go.RowKit Go.Shelf Go.Maps Tryz
structure Krv where
 c:Nat
 o:Int
 d:Bool
 f:Nat
def kyC (k:Krv):List Value:=[.int .i64 (k.c:Nat),.int .i64 k.o,.bool k.d,.int .i64 (k.f:Nat)]
def Klj (w:World)(kb ko:Nat)(ks:List Krv):Prop:=∀ (j:Nat) k,ks[j]?=some k→w.cell? ⟨kb,ko+j*4,none⟩=some (.int .i64 (k.c:Nat))∧w.cell? ⟨kb,ko+j*4+1,none⟩=some (.int .i64 k.o)∧w.cell? ⟨kb,ko+j*4+2,none⟩=some (.bool k.d)∧w.cell? ⟨kb,ko+j*4+3,none⟩=some (.int .i64 (k.f:Nat))
theorem Klj.below {w w':World}{kb ko:Nat}{ks:List Krv}(h:Klj w kb ko ks)(y:Below w.heap.size w w'):Klj w' kb ko ks:=fun j k O=>by
 obtain⟨D,E,H,K⟩:=h j k O;exact⟨Ja y D,Ja y E,Ja y H,Ja y K⟩
def Klo (ks:List Krv)(cols:List (List V))(r j:Nat):V:=match ks[j]? with|some k=>if k.f=0 then (cols.getD k.c []).getD r Jf else Jf|none=>Jf
theorem Kn2 {l:List V}{x:Nat}(h:x<l.length):l[x]=l.getD x Jf:=by simp[h]
def mkL (ks:List Krv)(cols:List (List V))(r:Nat):List V:=[Klo ks cols r 0,Klo ks cols r 1,Klo ks cols r 2,Klo ks cols r 3]
theorem Kp4:(prog.info? 3).map (fun i=>(i.zero,i.size,i.bytes))=some (some (.int .i64 0),1,8):=by kernel_rfl
end
end Go.Proofs.YtpchafocmlhmbaaGreatDoor
