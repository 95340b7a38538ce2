/- Several texts in one: UIter, UCheck, UFollow. Each says what it proves, and its conditions. -/
import Derived.RangeFuncBound
import Derived.Shelf.RegionOpen
import Derived.OwnWalkIn
import Derived.LoopNIn
import Derived.LoopIn
import Derived.Test.YtmenllnokgjdlaaGreatDoorG08
import Derived.Deep.Light
/-
 The iterator of package utf: 'text.signs' hands over what a range over the text gives, each with its place. Conditions: none.
-/
namespace Go.Proofs.YtmenllnokgjdlaaGreatDoor.U
open Go Go.RowKit Go.Shelf
attribute [local go_sem] Oper.semAt_some
theorem dec_pos (s : ByteArray) (p : Nat) (h : p < s.size) : 1 <= (Utf8.decode s p).2 := by
 rw [Ut.decode_eq s p h]
 cases Ut.dc (s.data.toList.drop p) with
 | none => exact Nat.le_refl _
 | some c => exact Ut.enc_pos c
theorem dec_le (s : ByteArray) (p : Nat) (h : p < s.size) : (Utf8.decode s p).1 <= 1114111 := by
 rw [Ut.decode_eq s p h]
 cases hd : Ut.dc (s.data.toList.drop p) with
 | none => show 65533 <= 1114111; omega
 | some c => exact (Ut.dc_some hd).1.1
structure Sg (s : ByteArray) where
 p : Nat
 n : Nat
 hp : p < s.size
 hn : n <= 1114111
def al (s : ByteArray) : Nat -> Nat -> List (Sg s)
 | 0, _ => []
 | f + 1, p => if h : p < s.size then ⟨p, (Utf8.decode s p).1, h, dec_le s p h⟩ :: al s f (p + (Utf8.decode s p).2) else []
def all (s : ByteArray) : List (Sg s) := al s s.size 0
theorem al_cons (s : ByteArray) (f p : Nat) (h : p < s.size) (hf : s.size <= p + f) : ∃ f', f = f' + 1 /\ al s f p = ⟨p, (Utf8.decode s p).1, h, dec_le s p h⟩ :: al s f' (p + (Utf8.decode s p).2) /\ s.size <= p + (Utf8.decode s p).2 + f' := by
 cases f with
 | zero => omega
 | succ f => exact ⟨f, rfl, by rw [al, dif_pos h], by have := dec_pos s p h; omega⟩
theorem al_end (s : ByteArray) (f p : Nat) (h : ¬ p < s.size) : al s f p = [] := by
 cases f with
 | zero => rfl
 | succ f => rw [al, dif_neg h]
end Go.Proofs.YtmenllnokgjdlaaGreatDoor.U
/-
 What utf.checker.check answers: the first fault of a text by its rules. Conditions: the package-level variables hold what the program's text lays ('Glob').
-/
namespace Go.Proofs.YtmenllnokgjdlaaGreatDoor.U
open Go Go.RowKit Go.Shelf
attribute [local go_sem] Oper.semAt_some
abbrev flt (p : Nat) (a : Addr) : Value := .iface 323 (.agg #[.int .i64 p, .iface 350 (.pointer (some a))])
def first {s : ByteArray} (ok : Nat -> Nat -> Bool) : List (Sg s) -> Option Nat
 | [] => none
 | x :: l => if ok x.p x.n then first ok l else some x.p
structure St (s : ByteArray) (rs err : Value) (w W : World) : Prop where
 box : W.heap[w.heap.size]? = some (.cells #[.string s, rs] 331)
 er : W.heap[w.heap.size + 1]? = some (.cells #[err] 52)
 bel : Below w.heap.size w W
 size : w.heap.size + 3 <= W.heap.size
theorem St.cells {s : ByteArray} {rs err : Value} {w W : World} (h : St s rs err w W) : W.cell? ⟨w.heap.size, 0, none⟩ = some (.string s) /\ W.cell? ⟨w.heap.size, 1, none⟩ = some rs /\ W.cell? ⟨w.heap.size + 1, 0, none⟩ = some err /\ W.frozen? ⟨w.heap.size + 1, 0, none⟩ = false := by
 have h1 := h.box
 have h2 := h.er
 simp [World.cell?, World.frozen?, h1, h2]
theorem fin {w V : World} {D : Nat} {tmps : Array Value} {v : Value} {R : Ending -> World -> Prop} (hV : V.heap[D]? = some (.deferred (some []))) (hD : w.heap.size <= D) (hb : Below w.heap.size w V) (t2 : tmps.getD 2 undef = v)
  (hp : ∀ V', Below w.heap.size w V' -> R (.returned v) V') :
  Exit.noGoto (bodyPostM Fence.wide 3 Tryz.prog Tryz.f236 R) Exit.ret { tmps, defers := [{ target := .collected D, args := #[] }] } V := by
 have hb' : Below w.heap.size w (V.putObj D (.deferred none)) :=
  ⟨hb.os, hb.tape, hb.output, by simpa using hb.size, fun k hk => (World.putObj_heap_other (by omega)).trans (hb.block k hk)⟩
 refine ⟨by simp, .inl ⟨_, _, rfl, run_takeDeferred hV, ?_⟩⟩
 refine ⟨v, ?_, hp _ hb'⟩
 subst t2
 simp [results, Tryz.results236, go_sem]
def inv (ok : Nat -> Nat -> Bool) (s : ByteArray) (rs : Value) (w : World) (pre : List (Sg s)) (W : World) : Prop := (∀ x ∈ pre, ok x.p x.n = true) /\ St s rs .nilIface w W
end Go.Proofs.YtmenllnokgjdlaaGreatDoor.U
/-
 What utf.checkRight, Right and IsSafe answer. Conditions: the package-level variables hold what the program's text lays ('Glob').
-/
namespace Go.Proofs.YtmenllnokgjdlaaGreatDoor.U
open Go Go.RowKit
def bad (s : ByteArray) : Option Nat := first (st s) (all s)
end Go.Proofs.YtmenllnokgjdlaaGreatDoor.U
