/- errors.As at the errors that the program makes, at its targets: closed facts on what Go's own text asks of types. -/
import Derived.Test.YtpchafocmlhmbaaGreatDoorEr
namespace Go.Proofs.YtpchafocmlhmbaaGreatDoor
open Go.RowKit Go.Extern.Stop Go.Stop Go.Extern
end Go.Proofs.YtpchafocmlhmbaaGreatDoor
