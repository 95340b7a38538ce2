/- Several texts in one: ERead1, UIter. Each says what it proves, and its conditions. -/
import Derived.Test.YtmenllnokgjdlaaGreatDoorEPrint
/-
 What esc.reader's closure 'lay' lays, and what reader.escaped and reader.step answer. Conditions: the package-level variables hold what the program's text lays ('Glob').
-/
namespace Go.Proofs.YtmenllnokgjdlaaGreatDoor.E
open Go Go.RowKit Ec
attribute [local go_sem] Oper.semAt_some
structure Lr (B base : Nat) (out : List UInt8) (v : Value) (W : World) : Prop where
 box : W.heap[B]? = some (.cells #[v] 152)
 own : W.ownsRow base 5 1 v out.length (C.cells out)
 lt : B < base
 le : base <= W.heap.size
structure Mv (B base : Nat) (W W' : World) : Prop where
 os : W'.os = W.os
 tape : W'.tape = W.tape
 output : W'.output = W.output
 size : W.heap.size <= W'.heap.size
 block : ∀ k, k < base -> k ≠ B -> W'.heap[k]? = W.heap[k]?
 keeps : KeepsOthers W W'
theorem Mv.trans {B base : Nat} {A C D : World} (h : Mv B base A C) (k : Mv B base C D) : Mv B base A D :=
 ⟨k.os.trans h.os, k.tape.trans h.tape, k.output.trans h.output, Nat.le_trans h.size k.size, fun i hi hn => (k.block i hi hn).trans (h.block i hi hn), h.keeps.trans k.keeps⟩
def SPost (a : Ad) (B base : Nat) (out : List UInt8) (q : Nat) (r : Option (List UInt8 × Nat)) (w : World) (e : Ending) (w' : World) : Prop :=
 Mv B base w w' /\ match r with
 | some (t, k) => e = .returned (.tuple #[.int .i64 ((q + k : Nat) : Int), .nilIface]) /\ ∃ v, Lr B base (out ++ t) v w'
 | none => ∃ x, e = .returned (.tuple #[.int .i64 0, .iface 313 x]) /\ IsErr a (.iface 313 x) /\ ∃ v, Lr B base out v w'
theorem drop_at {s : ByteArray} {q : Nat} (h : q < s.size) : s.data.toList.drop q = s[q] :: s.data.toList.drop (q + 1) := by
 have hl : q < s.data.toList.length := by simpa using h
 rw [List.drop_eq_getElem_cons hl]
 rfl
theorem drop_out {s : ByteArray} {q : Nat} (h : ¬ q < s.size) : s.data.toList.drop q = [] := List.drop_of_length_le (by have e : s.data.toList.length = s.size := Array.length_toList; omega)
theorem SPost.from {a : Ad} {B base : Nat} {out : List UInt8} {q : Nat} {r : Option (List UInt8 × Nat)} {w w1 w' : World} {e : Ending} (hm : Mv B base w w1) (h : SPost a B base out q r w1 e w') : SPost a B base out q r w e w' := ⟨hm.trans h.1, h.2⟩
end Go.Proofs.YtmenllnokgjdlaaGreatDoor.E
/-
 The iterator of package utf: 'text.signs' hands over what a range over the text gives, each with its place. Conditions: none.
-/
namespace Go.Proofs.YtmenllnokgjdlaaGreatDoor.U
open Go Go.RowKit Go.Shelf
attribute [local go_sem] Oper.semAt_some
theorem dec_pos (s : ByteArray) (p : Nat) (h : p < s.size) : 1 <= (Utf8.decode s p).2 := by
 rw [Ut.decode_eq s p h]
 cases Ut.dc (s.data.toList.drop p) with
 | none => exact Nat.le_refl _
 | some c => exact Ut.enc_pos c
theorem dec_le (s : ByteArray) (p : Nat) (h : p < s.size) : (Utf8.decode s p).1 <= 1114111 := by
 rw [Ut.decode_eq s p h]
 cases hd : Ut.dc (s.data.toList.drop p) with
 | none => show 65533 <= 1114111; omega
 | some c => exact (Ut.dc_some hd).1.1
structure Sg (s : ByteArray) where
 p : Nat
 n : Nat
 hp : p < s.size
 hn : n <= 1114111
def al (s : ByteArray) : Nat -> Nat -> List (Sg s)
 | 0, _ => []
 | f + 1, p => if h : p < s.size then ⟨p, (Utf8.decode s p).1, h, dec_le s p h⟩ :: al s f (p + (Utf8.decode s p).2) else []
def all (s : ByteArray) : List (Sg s) := al s s.size 0
theorem al_cons (s : ByteArray) (f p : Nat) (h : p < s.size) (hf : s.size <= p + f) : ∃ f', f = f' + 1 /\ al s f p = ⟨p, (Utf8.decode s p).1, h, dec_le s p h⟩ :: al s f' (p + (Utf8.decode s p).2) /\ s.size <= p + (Utf8.decode s p).2 + f' := by
 cases f with
 | zero => omega
 | succ f => exact ⟨f, rfl, by rw [al, dif_pos h], by have := dec_pos s p h; omega⟩
theorem al_end (s : ByteArray) (f p : Nat) (h : ¬ p < s.size) : al s f p = [] := by
 cases f with
 | zero => rfl
 | succ f => rw [al, dif_neg h]
end Go.Proofs.YtmenllnokgjdlaaGreatDoor.U
