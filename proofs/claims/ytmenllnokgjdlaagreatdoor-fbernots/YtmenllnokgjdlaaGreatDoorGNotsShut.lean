/- FberNots: what the row says of the program's text, alone (the kernel's memory). -/
import Derived.Test.YtmenllnokgjdlaaGreatDoorCards
import Derived.JoinedCond
namespace Go.Proofs.YtmenllnokgjdlaaGreatDoor.G.Nots
open Go
theorem closed : joinedFacts Tryz.pinned.checked.prog 9 Tryz.f9 (OpenSpec.ofChange Rows.fberNotsSpec).bare Rows.fberNotsRow = true := by kernel_rfl
end Go.Proofs.YtmenllnokgjdlaaGreatDoor.G.Nots
