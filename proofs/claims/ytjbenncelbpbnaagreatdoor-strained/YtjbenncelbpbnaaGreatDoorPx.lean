/- The law Sorted: its second loop, plainly. -/
import Derived.Test.YtjbenncelbpbnaaGreatDoorPq
namespace Go.Proofs.YtjbenncelbpbnaaGreatDoor
open Go.RowKit Go.Shelf
attribute [local go_sem] Oc0
theorem Qck {y p:Act->World->Prop}{a:Act}{w}(h:p a w)(hK:∀ a w,p a w->y a w):y a w:=hK a w h
def Kxo:Code->Code
 |.seq _ b=>b
 |c=>c
def Ksl:Nat->Code->Code
 |0,c=>c
 |n+1,c=>Ksl n (Kxo c)
def Kxs:Code->Code
 |.seq a _=>a
 |c=>c
