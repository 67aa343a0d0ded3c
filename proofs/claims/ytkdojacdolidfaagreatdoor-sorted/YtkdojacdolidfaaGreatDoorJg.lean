/- Group, walked. -/
import Derived.Test.YtkdojacdolidfaaGreatDoorGl
import Derived.Test.YtkdojacdolidfaaGreatDoorJd
namespace Go.Proofs.YtkdojacdolidfaaGreatDoor
section
open Go.RowKit Go.Shelf Go.Maps
attribute [local go_sem] Oc0
end
section
open Go.RowKit Go.Shelf
attribute [local go_sem] Oc0
end
open Go.RowKit Go.Shelf Go.Maps
attribute [local go_sem] Oc0
