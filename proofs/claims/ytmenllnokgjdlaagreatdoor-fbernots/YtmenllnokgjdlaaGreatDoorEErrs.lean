/- What errors.As and errors.Is answer where package esc asks them: at a fault that wraps a bare or a sentinel, and at a bare bare. Conditions: the three -/
import Derived.Test.YtmenllnokgjdlaaGreatDoorEErrFacts
namespace Go.Proofs.YtmenllnokgjdlaaGreatDoor.E
open Go.RowKit Go.Extern.Stop Go.Stop Go.Extern
theorem lt_of_cell {w : World} {a : Addr} {v : Value} (h : w.cell? a = some v) : a.block < w.heap.size := by
 rcases Nat.lt_or_ge a.block w.heap.size with h' | h'
 ·exact h'
 ·simp [World.cell?, Array.getElem?_eq_none h'] at h
end Go.Proofs.YtmenllnokgjdlaaGreatDoor.E
