/- Closed facts on the model's entries for reflectlite at this program's types, and on the assertions that errors.As and errors.Is make there. Conditions -/
import Derived.Test.YtmenllnokgjdlaaGreatDoorProg
import Derived.WalkKit
import Derived.Stop.Asserts
import Derived.RowKitTokens
namespace Go.Proofs.YtmenllnokgjdlaaGreatDoor.E
open Go.RowKit Go.Extern.Stop Go.Stop Go.Extern
end Go.Proofs.YtmenllnokgjdlaaGreatDoor.E
