/- What errors.As answers where package utf asks for a fault, and what utf.placeOf answers. Conditions: the package-level variables hold what the program -/
import Derived.Test.YtmenllnokgjdlaaGreatDoorG19
namespace Go.Proofs.YtmenllnokgjdlaaGreatDoor.U
open Go.RowKit Go.Extern.Stop Go.Stop Go.Extern
def pv : Option Nat -> Int
 | none => -1
 | some p => p
end Go.Proofs.YtmenllnokgjdlaaGreatDoor.U
