/- What esc.reader's closure 'lay' lays, and what reader.escaped and reader.step answer. Conditions: the package-level variables hold what the program's  -/
import Derived.Test.YtmenllnokgjdlaaGreatDoorEPrint
namespace Go.Proofs.YtmenllnokgjdlaaGreatDoor.E
open Go Go.RowKit Ec
attribute [local go_sem] Oper.semAt_some
structure Lr (B base : Nat) (out : List UInt8) (v : Value) (W : World) : Prop where
 box : W.heap[B]? = some (.cells #[v] 152)
 own : W.ownsRow base 5 1 v out.length (C.cells out)
 lt : B < base
 le : base <= W.heap.size
structure Mv (B base : Nat) (W W' : World) : Prop where
 os : W'.os = W.os
 tape : W'.tape = W.tape
 output : W'.output = W.output
 size : W.heap.size <= W'.heap.size
 block : ∀ k, k < base -> k ≠ B -> W'.heap[k]? = W.heap[k]?
 keeps : KeepsOthers W W'
theorem Mv.trans {B base : Nat} {A C D : World} (h : Mv B base A C) (k : Mv B base C D) : Mv B base A D :=
 ⟨k.os.trans h.os, k.tape.trans h.tape, k.output.trans h.output, Nat.le_trans h.size k.size, fun i hi hn => (k.block i hi hn).trans (h.block i hi hn), h.keeps.trans k.keeps⟩
def SPost (a : Ad) (B base : Nat) (out : List UInt8) (q : Nat) (r : Option (List UInt8 × Nat)) (w : World) (e : Ending) (w' : World) : Prop :=
 Mv B base w w' /\ match r with
 | some (t, k) => e = .returned (.tuple #[.int .i64 ((q + k : Nat) : Int), .nilIface]) /\ ∃ v, Lr B base (out ++ t) v w'
 | none => ∃ x, e = .returned (.tuple #[.int .i64 0, .iface 313 x]) /\ IsErr a (.iface 313 x) /\ ∃ v, Lr B base out v w'
theorem drop_at {s : ByteArray} {q : Nat} (h : q < s.size) : s.data.toList.drop q = s[q] :: s.data.toList.drop (q + 1) := by
 have hl : q < s.data.toList.length := by simpa using h
 rw [List.drop_eq_getElem_cons hl]
 rfl
theorem drop_out {s : ByteArray} {q : Nat} (h : ¬ q < s.size) : s.data.toList.drop q = [] := List.drop_of_length_le (by have e : s.data.toList.length = s.size := Array.length_toList; omega)
theorem SPost.from {a : Ad} {B base : Nat} {out : List UInt8} {q : Nat} {r : Option (List UInt8 × Nat)} {w w1 w' : World} {e : Ending} (hm : Mv B base w w1) (h : SPost a B base out q r w1 e w') : SPost a B base out q r w e w' := ⟨hm.trans h.1, h.2⟩
end Go.Proofs.YtmenllnokgjdlaaGreatDoor.E
