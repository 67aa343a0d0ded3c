/- Plans with a Join that are right. -/
import Derived.Test.YtnlnlamdilifcaaGreatDoorGp
import Derived.Test.YtnlnlamdilifcaaGreatDoorJn
namespace Go.Proofs.YtnlnlamdilifcaaGreatDoor
open Go.RowKit Go.Shelf Go.Maps
attribute [local go_sem] Oc0
structure Qd3 (l r:List Int) (k:Krv):Prop where
 c:k.c<l.length
 o:0<=k.o/\k.o.toNat<r.length
 t:l.getD k.c 0=r.getD k.o.toNat 0
