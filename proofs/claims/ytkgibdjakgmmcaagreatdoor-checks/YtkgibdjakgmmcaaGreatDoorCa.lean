/- Rows held column by column, as the program's package columns hands them about: what is cut out of them. -/
import Derived.Test.YtkgibdjakgmmcaaGreatDoorTl
namespace Go.Proofs.YtkgibdjakgmmcaaGreatDoor
open Go.RowKit Go.Shelf
attribute [local go_sem] Oper.semAt_some
end Go.Proofs.YtkgibdjakgmmcaaGreatDoor
