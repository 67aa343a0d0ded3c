/- errors.As at the errors that the program makes, at its targets: closed facts on what Go's own text asks of types. -/
import Derived.Test.YtkdojacdolidfaaGreatDoorEr
namespace Go.Proofs.YtkdojacdolidfaaGreatDoor
open Go.RowKit Go.Extern.Stop Go.Stop Go.Extern
