/- Groups over all batches, plainly. -/
import Derived.Test.YtnlnlamdilifcaaGreatDoorGh
import Derived.Test.YtnlnlamdilifcaaGreatDoorXp
import Derived.Test.YtnlnlamdilifcaaGreatDoorJd
namespace Go.Proofs.YtnlnlamdilifcaaGreatDoor
section
open Go.RowKit Go.Shelf Go.Maps
def Klt (ms:List (List V))(F:Nat->List V)(l:List Nat):List (List V):=l.foldl (fun a r=>Klm a (F r)) ms
def tlL (t:Tly)(F:Nat->List V)(mk:List V)(val:Nat->V)(l:List Nat):Tly:=l.foldl (fun a r=>if eqM (F r) mk=true then a.add (val r)else a) t
def tlB (ks:List Krv)(cols:List (List V))(l:List Nat)(mk:List V)(j:Nat):Tly:=match ks[j]? with|some ky=>tlL Klg (mkL ks cols) mk (kyV cols ky) l|none=>Klg
def tfB (ks:List Krv)(cols:List (List V))(l:List Nat)(mk:List V):List Tly:=[tlB ks cols l mk 0,tlB ks cols l mk 1,tlB ks cols l mk 2,tlB ks cols l mk 3]
attribute [local go_sem] Oc0
end
open Go.RowKit Go.Shelf
attribute [local go_sem] Oc0
