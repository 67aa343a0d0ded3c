/- The type of an expression, as the program tells it. -/
import Derived.Test.YtkdojacdolidfaaGreatDoorXr
import Derived.Test.YtkdojacdolidfaaGreatDoorXp
namespace Go.Proofs.YtkdojacdolidfaaGreatDoor
open Go.RowKit Go.Shelf
attribute [local go_sem] Oc0
def Jbk (sch:List Int)(es:List Pt):Int:=(es.map (tyP sch)).getD (es.length-1) 0
