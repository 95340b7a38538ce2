/- Several texts in one: FRd1, FRd2, FRd3, FRd4. Each says what it proves, and its conditions. -/
import Derived.Test.YtmenllnokgjdlaaGreatDoorG32
import Derived.Lib.SliceRun
/-
 The small functions of filt's text: end, piece, has, upTo, and reader.take. Conditions: the bounds that each names.
-/
namespace Go.Proofs.YtmenllnokgjdlaaGreatDoor.F
open Go Go.RowKit Go.Shelf Fp
open D (H_ un ext_list)
attribute [local go_sem] Oper.semAt_some
structure RAt (W : World) (R : Nat) (s : ByteArray) (kb p : Nat) : Prop where
 blk : W.heap[R]? = some (.cells #[.string s, .int .i64 (p : Int), .map (some kb)] 120 (0, 0))
theorem RAt.cells {W : World} {R kb p : Nat} {s : ByteArray} (h : RAt W R s kb p) : (W.cell? ⟨R, 0, none⟩ = some (.string s) /\ W.cell? ⟨R, 1, none⟩ = some (.int .i64 (p : Int)) /\ W.cell? ⟨R, 2, none⟩ = some (.map (some kb))) /\ W.frozen? ⟨R, 1, none⟩ = false := by
 obtain ⟨h⟩ := h
 refine ⟨⟨?_, ?_, ?_⟩, ?_⟩ <;> simp [World.cell?, World.frozen?, h]
theorem RAt.lt {W : World} {R kb p : Nat} {s : ByteArray} (h : RAt W R s kb p) : R < W.heap.size := (Array.getElem?_eq_some_iff.1 h.blk).1
end Go.Proofs.YtmenllnokgjdlaaGreatDoor.F
/-
 readValue, strings.Count at one byte, slices.Clone of texts, readPieces. Conditions: the package-level variables hold what the program's text lays; the bounds that each names.
-/
namespace Go.Proofs.YtmenllnokgjdlaaGreatDoor.F
open Go Go.RowKit Go.Shelf Fp
open D (H_ un ext_list)
attribute [local go_sem] Oper.semAt_some
abbrev set6 (W : World) (b : Nat) (d : Fd) : World := (((((W.setCell ⟨b, 0, none⟩ (.int .i64 d.k)).setCell ⟨b, 1, none⟩ (.string d.a)).setCell ⟨b, 2, none⟩ (.string d.v)).setCell ⟨b, 3, none⟩ (.slice d.sa d.sn d.sc)).setCell ⟨b, 4, none⟩ (.string d.f)).setCell ⟨b, 5, none⟩ (.slice d.la d.ln d.lc)
theorem set6_blk {W : World} {b : Nat} {c : Fd} {T : TypeId} (h : W.heap[b]? = some (.cells c.cs T (0, 0))) (d : Fd) : (set6 W b d).heap[b]? = some (.cells d.cs T (0, 0)) :=
 heap_set _ b 5 _ _ _ (heap_set _ b 4 _ _ _ (heap_set _ b 3 _ _ _ (heap_set _ b 2 _ _ _ (heap_set _ b 1 _ _ _ (heap_set W b 0 _ _ _ h)))))
theorem set6_but (W : World) (b : Nat) (d : Fd) : But b W (set6 W b d) := ((((((But.refl b W).setCell 0 _).setCell 1 _).setCell 2 _).setCell 3 _).setCell 4 _).setCell 5 _
theorem box6 {W : World} {b : Nat} {d : Fd} {T : TypeId} (h : W.heap[b]? = some (.cells d.cs T (0, 0))) :
  (W.cell? ⟨b, 0, none⟩ = some (.int .i64 d.k) /\ W.cell? ⟨b, 1, none⟩ = some (.string d.a) /\ W.cell? ⟨b, 2, none⟩ = some (.string d.v) /\ W.cell? ⟨b, 3, none⟩ = some (.slice d.sa d.sn d.sc) /\ W.cell? ⟨b, 4, none⟩ = some (.string d.f) /\ W.cell? ⟨b, 5, none⟩ = some (.slice d.la d.ln d.lc)) /\
  (W.frozen? ⟨b, 0, none⟩ = false /\ W.frozen? ⟨b, 1, none⟩ = false /\ W.frozen? ⟨b, 2, none⟩ = false /\ W.frozen? ⟨b, 3, none⟩ = false /\ W.frozen? ⟨b, 4, none⟩ = false /\ W.frozen? ⟨b, 5, none⟩ = false) := by
 refine ⟨⟨?_, ?_, ?_, ?_, ?_, ?_⟩, ?_, ?_, ?_, ?_, ?_, ?_⟩ <;> simp [World.cell?, World.frozen?, h]
theorem box1 {W : World} {b : Nat} {v : Value} {T : TypeId} (h : W.heap[b]? = some (.cells #[v] T (0, 0))) : W.cell? ⟨b, 0, none⟩ = some v /\ W.frozen? ⟨b, 0, none⟩ = false := by
 constructor <;> simp [World.cell?, World.frozen?, h]
end Go.Proofs.YtmenllnokgjdlaaGreatDoor.F
/-
 readPieces. Conditions: the package-level variables hold what the program's text lays; each piece has at most 1000 bytes, and there are 2 to 100.
-/
namespace Go.Proofs.YtmenllnokgjdlaaGreatDoor.F
open Go Go.RowKit Go.Shelf Fp
open Dp (mp)
open D (H_ un ext_list)
attribute [local go_sem] Oper.semAt_some
def Kq (n : Nat) (A B : World) : Prop := Kpt (fun k => n + 3 <= k /\ k < n + 6) A B /\ Two (n + 6) (n + 6 + 1) A B
theorem Kq.trans {n : Nat} {A B C : World} (h : Kq n A B) (k : Kq n B C) : Kq n A C := ⟨h.1.trans k.1, h.2.trans k.2⟩
end Go.Proofs.YtmenllnokgjdlaaGreatDoor.F
/-
 readValues, and condition. Conditions: the package-level variables hold what the program's text lays; what is read of values at a time has at most 1000 bytes.
-/
namespace Go.Proofs.YtmenllnokgjdlaaGreatDoor.F
open Go Go.RowKit Go.Shelf Fp
open Dp (mp)
open D (H_ un ext_list)
attribute [local go_sem] Oper.semAt_some
end Go.Proofs.YtmenllnokgjdlaaGreatDoor.F
