/- A Join: the rows of the right side by their hashes. -/
import Derived.Test.YtnlnlamdilifcaaGreatDoorJe
import Derived.Laws.EntriesVeiled
import Derived.Lib.AppendZeros
namespace Go.Proofs.YtnlnlamdilifcaaGreatDoor
open Go.RowKit Go.Shelf Go.Maps
attribute [local go_sem] Oc0
attribute [local go_sem] Oc0
structure JnE where
 jb:Nat
 lb:Nat
 rb:Nat
 kb:Nat
 ko:Nat
 kc:Nat
 cl:Nat
 cr:Nat
 fb:Nat
 bb:Nat
 mb:Nat
 s:Nat
 z:Nat
 bu:Int
 bl:Int
 sd:Int
 hl:List (Option Addr×Nat)
 hr:List (Option Addr×Nat)
 lc:List (List V)
 rc:List (List V)
 ks:List Krv
attribute [local go_sem] Oc0
section
variable {j:JnE} {M:Nat->Prop} {base:Nat} {L R:List Int} {lv rv:Value} {W:World}
end
attribute [local go_sem] Oc0
def tkL (k:Nat)(row:Nat)(f:List Nat):List Int:=match k with
 |0=>f.map fun _=>(row:Int)
 |1=>if f=[]then [(row:Int)]else f.map fun _=>(row:Int)
 |2=>if f=[]then []else [(row:Int)]
 |_=>if f=[]then [(row:Int)]else []
def tkR (k:Nat)(f:List Nat):List Int:=match k with
 |0=>f.map fun (x:Nat)=>(x:Int)
 |1=>if f=[]then [-1]else f.map fun (x:Nat)=>(x:Int)
 |_=>[]
section
variable {j:JnE} {MB M:Nat->Prop} {l:List (Nat×(Int×Bool))} {nl nr row kyb pjb rwb:Nat} {bs:List Nat} {h:Int} {nul:Bool} {w:World}
end
attribute [local go_sem] Oc0
attribute [local go_sem] Oc0
section
variable {j:JnE} {M:Nat->Prop} {base:Nat} {L R:List Int} {lv rv:Value} {W Y X:World}
end
attribute [local go_sem] Oc0
section
variable {base:Nat} {L R:List Int} {lv rv sv:Value} {W Y X:World} {x:Int}
end
attribute [local go_sem] Oc0
