/- What errors.Is answers at the errors that the program makes. -/
import Derived.Test.YtkdojacdolidfaaGreatDoorEr
namespace Go.Proofs.YtkdojacdolidfaaGreatDoor
open Go.RowKit Go.Extern.Stop Go.Stop Go.Extern
