/- What code.unpack lays: the first bytes of a group's bits behind others. Conditions: none. -/
import Derived.Test.YtmenllnokgjdlaaGreatDoorCAdd
namespace Go.Proofs.YtmenllnokgjdlaaGreatDoor.C
open Go Go.RowKit Cd
theorem cells_append (a b : List UInt8) : cells (a ++ b) = cells a ++ cells b := by simp [cells]
end Go.Proofs.YtmenllnokgjdlaaGreatDoor.C
