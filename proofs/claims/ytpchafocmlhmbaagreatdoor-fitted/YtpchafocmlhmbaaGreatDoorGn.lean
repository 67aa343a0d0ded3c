/- A batch's rows counted in their groups. -/
import Derived.Test.YtpchafocmlhmbaaGreatDoorGf
import Derived.Test.YtpchafocmlhmbaaGreatDoorXl
namespace Go.Proofs.YtpchafocmlhmbaaGreatDoor
open Go.RowKit Go.Shelf Go.Maps
def kyV (cols:List (List V))(ky:Krv)(r:Nat):V:=(cols.getD (if ky.f=1 then 0 else ky.c) []).getD r Jf
def kyF (ks:List Krv)(j:Nat):Nat:=match ks[j]? with|some k=>k.f|none=>0
def tdV (ks:List Krv)(y:List V→List Tly)(m:List V)(j:Nat):V×Bool:=Km5 m (y m) j (kyF ks j)
def tcI (ks:List Krv)(y:List (List V))(D:List V→List Tly)(x k:Nat):List (List V):=(List.range ks.length).map fun j=>(y.take (if j<k then x+1 else x)).map fun m=>(tdV ks D m j).1
def Klz (ks:List Krv)(D:List (List V))(E:List V→List Tly)(x k:Nat):Prop:=∀ (y:Nat) m j,D[y]?=some m→j<ks.length→(y<x∨y=x∧j<k)→(tdV ks E m j).2=true
theorem Kpq (f m:Nat)(c:List V){r:Nat}(hr:r<m):(Jbx f (f+m) c).getD r Jf=c.getD (f+r) Jf:=by
 unfold Jbx;rw[Oa0,Oa0,Oh9,Oe7,if_pos (by omega)]
theorem Kn6 (f t:Nat)(cols:List (List V))(c:Nat):(cols.map (Jbx f t)).getD c []=Jbx f t (cols.getD c []):=by
 rw[Oa0,Oa0,Ob1];cases cols[c]? with
 |none=>simp[Jbx]
 |some x=>rfl
def Kma (ps:List (Nat×Nat)):List Nat:=ps.flatMap fun x=>(List.range x.2).map fun i=>x.1+i
theorem Knn (ps:List (Nat×Nat))(f m:Nat):Kma (ps++[(f,m)])=Kma ps++(List.range m).map fun i=>f+i:=by simp[Kma]
theorem Kqk (N z:Nat)(y:1≤z):Kma (cks N z (ckN N z))=List.range N:=by
 have:=Jm9 N z (fun i=>i) (ckN N z);rw[Ol4 (Jcy y),List.map_id']at this;exact this
theorem Kqe (z:Nat):∀ ps:List (Nat×Nat),(∀ x∈ps,x.2≤z)→(Kma ps).length≤ps.length*z:=fun ps h=>Jsd (fun x=>(List.range x.2).map fun i=>x.1+i) z (fun x=>by simp) ps h
def Klt (y:List (List V))(F:Nat→List V)(l:List Nat):List (List V):=l.foldl (fun a r=>Klm a (F r)) y
def tlL (t:Tly)(F:Nat→List V)(mk:List V)(val:Nat→V)(l:List Nat):Tly:=l.foldl (fun a r=>if eqM (F r) mk=true then a.add (val r)else a) t
def tlB (ks:List Krv)(cols:List (List V))(l:List Nat)(mk:List V)(j:Nat):Tly:=match ks[j]? with|some ky=>tlL Klg (mkL ks cols) mk (kyV cols ky) l|none=>Klg
def tfB (ks:List Krv)(cols:List (List V))(l:List Nat)(mk:List V):List Tly:=[tlB ks cols l mk 0,tlB ks cols l mk 1,tlB ks cols l mk 2,tlB ks cols l mk 3]
attribute [local go_sem] Oc0
end Go.Proofs.YtpchafocmlhmbaaGreatDoor
