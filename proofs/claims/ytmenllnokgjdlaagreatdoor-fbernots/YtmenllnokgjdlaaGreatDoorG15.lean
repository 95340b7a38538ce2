/- Several texts in one: UCheck, UFollow. Each says what it proves, and its conditions. -/
import Derived.Test.YtmenllnokgjdlaaGreatDoorG14
/-
 What utf.checker.check answers: the first fault of a text by its rules. Conditions: the package-level variables hold what the program's text lays ('Glob').
-/
namespace Go.Proofs.YtmenllnokgjdlaaGreatDoor.U
open Go Go.RowKit Go.Shelf
attribute [local go_sem] Oper.semAt_some
abbrev flt (p : Nat) (a : Addr) : Value := .iface 323 (.agg #[.int .i64 p, .iface 350 (.pointer (some a))])
def first {s : ByteArray} (ok : Nat -> Nat -> Bool) : List (Sg s) -> Option Nat
 | [] => none
 | x :: l => if ok x.p x.n then first ok l else some x.p
structure St (s : ByteArray) (rs err : Value) (w W : World) : Prop where
 box : W.heap[w.heap.size]? = some (.cells #[.string s, rs] 331)
 er : W.heap[w.heap.size + 1]? = some (.cells #[err] 52)
 bel : Below w.heap.size w W
 size : w.heap.size + 3 <= W.heap.size
theorem St.cells {s : ByteArray} {rs err : Value} {w W : World} (h : St s rs err w W) : W.cell? ⟨w.heap.size, 0, none⟩ = some (.string s) /\ W.cell? ⟨w.heap.size, 1, none⟩ = some rs /\ W.cell? ⟨w.heap.size + 1, 0, none⟩ = some err /\ W.frozen? ⟨w.heap.size + 1, 0, none⟩ = false := by
 have h1 := h.box
 have h2 := h.er
 simp [World.cell?, World.frozen?, h1, h2]
theorem fin {w V : World} {D : Nat} {tmps : Array Value} {v : Value} {R : Ending -> World -> Prop} (hV : V.heap[D]? = some (.deferred (some []))) (hD : w.heap.size <= D) (hb : Below w.heap.size w V) (t2 : tmps.getD 2 undef = v)
  (hp : ∀ V', Below w.heap.size w V' -> R (.returned v) V') :
  Exit.noGoto (bodyPostM Fence.wide 3 Tryz.prog Tryz.f236 R) Exit.ret { tmps, defers := [{ target := .collected D, args := #[] }] } V := by
 have hb' : Below w.heap.size w (V.putObj D (.deferred none)) :=
  ⟨hb.os, hb.tape, hb.output, by simpa using hb.size, fun k hk => (World.putObj_heap_other (by omega)).trans (hb.block k hk)⟩
 refine ⟨by simp, .inl ⟨_, _, rfl, run_takeDeferred hV, ?_⟩⟩
 refine ⟨v, ?_, hp _ hb'⟩
 subst t2
 simp [results, Tryz.results236, go_sem]
def inv (ok : Nat -> Nat -> Bool) (s : ByteArray) (rs : Value) (w : World) (pre : List (Sg s)) (W : World) : Prop := (∀ x ∈ pre, ok x.p x.n = true) /\ St s rs .nilIface w W
end Go.Proofs.YtmenllnokgjdlaaGreatDoor.U
/-
 What utf.checkRight, Right and IsSafe answer. Conditions: the package-level variables hold what the program's text lays ('Glob').
-/
namespace Go.Proofs.YtmenllnokgjdlaaGreatDoor.U
open Go Go.RowKit
def bad (s : ByteArray) : Option Nat := first (st s) (all s)
end Go.Proofs.YtmenllnokgjdlaaGreatDoor.U
