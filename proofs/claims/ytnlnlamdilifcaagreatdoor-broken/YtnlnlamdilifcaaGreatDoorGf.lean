/- Tallies: what is counted of a column in a group, plainly and in memory. -/
import Derived.Test.YtnlnlamdilifcaaGreatDoorXc
import Derived.Shelf.Spec.BitsCarry
import Derived.DeepKeys5
namespace Go.Proofs.YtnlnlamdilifcaaGreatDoor
section
open Go.RowKit Go.Shelf Tryz
structure Tly where
 rows:Nat
 held:Nat
 sum:Int
 least:V
 most:V
def Klg:Tly:=⟨0,0,0,Jf,Jf⟩
def Tly.add (t:Tly)(v:V):Tly:=if v.k=0 then ⟨t.rows+1,t.held,t.sum,t.least,t.most⟩else ⟨t.rows+1,t.held+1,t.sum+v.n,if t.held=0\/Jxt v t.least<0 then v else t.least,if t.held=0\/0<Jxt v t.most then v else t.most⟩
theorem Kl5 a b w:Cq 243 #[a.val,b.val] w fun e w'=>e=.returned (Iq (Jxt a b))/\Bq w w':=
 (Jqx a b w).mono fun e w' ⟨y,x,I,H⟩=>⟨y,by rw[H];exact Jj (Jc (Jc (Jc (Oa5 _ _) _) _) _)⟩
end
section
open Go.RowKit Go.Shelf
def Kk8 (t:Tly)(fn:Nat):V×Bool:=if fn=1 then (Jbg (t.rows:Nat),true)else if fn=2 then (Jbg (t.held:Nat),true)else if fn=3 then (if t.held=0 then (Jf,true)else if -9223372036854775808<=t.sum/\t.sum<=9223372036854775807 then (Jbg t.sum,true)else (Jf,false))else if fn=4 then (t.least,true)else (t.most,true)
def Km5 (m:List V)(ts:List Tly)(k fn:Nat):V×Bool:=if fn=0 then (m.getD k Jf,true)else Kk8 (ts.getD k Klg) fn
end
open Go.RowKit Go.Shelf Go.Maps
def eqV (a b:V):Bool:=decide (a.k=b.k)&&decide (a.n=b.n)&&decide (a.s=b.s)
def eqM:List V->List V->Bool
 |[],[]=>true
 |a::m,b::u=>eqV a b&&eqM m u
 |_,_=>false
def Knh (ms:List (List V))(m:List V):Bool:=ms.any (eqM m)
def Klm (ms:List (List V))(m:List V):List (List V):=if Knh ms m=true then ms else ms++[m]
structure Krv where
 c:Nat
 o:Int
 d:Bool
 f:Nat
def Klj (w:World)(kb ko:Nat)(ks:List Krv):Prop:=∀ (j:Nat) k,ks[j]?=some k->w.cell? (Ar kb (ko+j*4))=some (Iq (k.c:Nat))/\w.cell? (Ar kb (ko+j*4+1))=some (Iq k.o)/\w.cell? (Ar kb (ko+j*4+2))=some (.bool k.d)/\w.cell? (Ar kb (ko+j*4+3))=some (Iq (k.f:Nat))
theorem Klj.below {w w' kb ko ks}(h:Klj w kb ko ks)(hb:Bq w w'):Klj w' kb ko ks:=fun j k M=>by
 obtain⟨y,H,I,K⟩:=h j k M;exact⟨Ja hb y,Ja hb H,Ja hb I,Ja hb K⟩
def Klo (ks:List Krv)(cols:List (List V))(r j:Nat):V:=match ks[j]? with|some k=>if k.f=0 then (cols.getD k.c []).getD r Jf else Jf|none=>Jf
def mkL (ks:List Krv)(cols:List (List V))(r:Nat):List V:=[Klo ks cols r 0,Klo ks cols r 1,Klo ks cols r 2,Klo ks cols r 3]
