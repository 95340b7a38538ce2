/- What code.coder.told answers: the bits of a group of signs. Conditions: the package-level variables hold what the program's text lays ('Glob'). -/
import Derived.Test.YtmenllnokgjdlaaGreatDoorCUnpack
namespace Go.Proofs.YtmenllnokgjdlaaGreatDoor.C
open Go Go.RowKit Cd
attribute [local go_sem] Oper.semAt_some
end Go.Proofs.YtmenllnokgjdlaaGreatDoor.C
