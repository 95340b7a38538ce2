/- Several texts in one: UStand2, URules, EErrno. Each says what it proves, and its conditions. -/
import Derived.Test.YtmenllnokgjdlaaGreatDoorG07
import Derived.Deep.RegionHeld
import Derived.Test.YtmenllnokgjdlaaGreatDoorEErrs
import Derived.Test.YtmenllnokgjdlaaGreatDoorG03
/-
 What utf.text.stands answers where the text is long enough. Conditions: none.
-/
namespace Go.Proofs.YtmenllnokgjdlaaGreatDoor.U
open Go Go.RowKit
end Go.Proofs.YtmenllnokgjdlaaGreatDoor.U
/-
 What the rules of package utf answer: isTold, isPlain, mayBegin, mayEnd. Conditions: the package-level variables hold what the program's text lays ('Glob').
-/
namespace Go.Proofs.YtmenllnokgjdlaaGreatDoor.U
open Go Go.RowKit
structure Glob (aU aS : Addr) (w : World) : Prop where
 ty : w.cell? ⟨15, 0, none⟩ = some (.iface 180 (.agg #[.pointer (some ⟨29, 52, none⟩)]))
 ut : w.cell? ⟨25, 0, none⟩ = some (.iface 350 (.pointer (some aU)))
def er (b : Bool) (a : Addr) : Value := if b then .nilIface else .iface 350 (.pointer (some a))
def begins (p n : Nat) : Bool := !(p == 0 && (n == 32 || n == 58 || n == 60))
def ends (s : ByteArray) (p n : Nat) : Bool := !(decide ((p : Int) = (s.size : Int) - 1) && n == 32)
end Go.Proofs.YtmenllnokgjdlaaGreatDoor.U
/-
 What esc.errnoOf answers at each error that package esc makes. Conditions: the package-level variables hold what the program's text lays ('Glob').
-/
namespace Go.Proofs.YtmenllnokgjdlaaGreatDoor.E
open Go.RowKit Go.Extern.Stop Go.Stop Go.Extern
theorem H_ {p : Prop} (h : p) : Hid p := h
theorem un {p : Prop} (h : Hid p) : p := h
structure Ad where
 cd : C.Ad
 ut : Addr
 us : Addr
 t : Addr
 m : Addr
structure Glob (a : Ad) (w : World) : Prop where
 gc : C.Glob a.cd w
 gu : U.Glob a.ut a.us w
 tx : w.cell? ⟨23, 0, none⟩ = some (.iface 350 (.pointer (some a.t)))
 mr : w.cell? ⟨24, 0, none⟩ = some (.iface 350 (.pointer (some a.m)))
 mt : a.m ≠ a.t
 hT : ∃ c t, w.heap[a.t.block]? = some (.cells c t (0, 0))
 hM : ∃ c t, w.heap[a.m.block]? = some (.cells c t (0, 0))
theorem Glob.ty {a : Ad} {w : World} (g : Glob a w) : w.cell? ⟨15, 0, none⟩ = some (.iface 180 (.agg #[.pointer (some ⟨29, 52, none⟩)])) := g.gc.ty
abbrev flt (k : Int) (a : Addr) : Value := .iface 313 (.agg #[.int .i64 k, .iface 350 (.pointer (some a))])
abbrev nos (k n : Int) : Value := .iface 313 (.agg #[.int .i64 k, .iface 317 (.agg #[.int .u8 n])])
def IsErr (a : Ad) (v : Value) : Prop := (∃ k, v = flt k a.t) \/ (∃ k, v = flt k a.m) \/ (∃ k n, v = nos k n)
end Go.Proofs.YtmenllnokgjdlaaGreatDoor.E
