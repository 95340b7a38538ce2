/-
  What errors.As and errors.Is answer where package utf asks them: at a fault that wraps a noSign or a sentinel, and at a bare noSign. Conditions: the three package-level variables hold what the program's text lays.
-/
import Derived.Test.YtgapoofalnakmaaDoorUErrFacts
namespace Go.Proofs.YtgapoofalnakmaaDoor.U
open Go.RowKit Go.Extern.Stop Go.Stop Go.Extern

theorem lt_of_cell {w : World} {a : Addr} {v : Value} (h : w.cell? a = some v) : a.block < w.heap.size := by
  rcases Nat.lt_or_ge a.block w.heap.size with h' | h'
  · exact h'
  · simp [World.cell?, Array.getElem?_eq_none h'] at h

end Go.Proofs.YtgapoofalnakmaaDoor.U
