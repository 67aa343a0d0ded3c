/- A batch's rows counted in their groups. -/
import Derived.Test.YtnlnlamdilifcaaGreatDoorGf
namespace Go.Proofs.YtnlnlamdilifcaaGreatDoor
open Go.RowKit Go.Shelf Go.Maps
def kyV (cols:List (List V))(ky:Krv)(r:Nat):V:=(cols.getD (if ky.f=1 then 0 else ky.c) []).getD r Jf
def kyF (ks:List Krv)(j:Nat):Nat:=match ks[j]? with|some k=>k.f|none=>0
def tdV (ks:List Krv)(y:List V->List Tly)(m:List V)(j:Nat):V×Bool:=Km5 m (y m) j (kyF ks j)
def tcI (ks:List Krv)(ms:List (List V))(y:List V->List Tly)(x k:Nat):List (List V):=(List.range ks.length).map fun j=>(ms.take (if j<k then x+1 else x)).map fun m=>(tdV ks y m j).1
def Klz (ks:List Krv)(ms:List (List V))(H:List V->List Tly)(x k:Nat):Prop:=∀ (y:Nat) m j,ms[y]?=some m->j<ks.length->(y<x\/y=x/\j<k)->(tdV ks H m j).2=true
