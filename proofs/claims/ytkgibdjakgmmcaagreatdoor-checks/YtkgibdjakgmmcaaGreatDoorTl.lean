/- A table read from the disk. -/
import Derived.Test.YtkgibdjakgmmcaaGreatDoorTj
import Derived.Test.YtkgibdjakgmmcaaGreatDoorYa
namespace Go.Proofs.YtkgibdjakgmmcaaGreatDoor
open Go.RowKit Go.Shelf
attribute [local go_sem] Oper.semAt_some
attribute [local go_sem] Oper.semAt_some
section
variable {w w':World} {b:Nat} {t:TypeId} {n:Nat} {f g:Nat→Value}
end
end Go.Proofs.YtkgibdjakgmmcaaGreatDoor
