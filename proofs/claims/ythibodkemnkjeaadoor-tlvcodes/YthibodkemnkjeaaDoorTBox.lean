/-
  A law's own boxes that hold trees. Conditions: none.
-/
import Derived.Test.YthibodkemnkjeaaDoorTOpen
import Derived.Test.YthibodkemnkjeaaDoorTvCuts
namespace Go.Proofs.YthibodkemnkjeaaDoor
open Go.RowKit Tv T Go.Shelf

/-- block b is a box that holds the tree X; its lists lie from block B on. -/
structure BX (B : Nat) (W : World) (b : Nat) (vt : Int) (vd : ByteArray) (va : Option Addr) (vl vc : Nat) (X : Tr 13) : Prop where
  q : W.heap[b]? = some (.cells #[.int .i64 vt, .string vd, .slice va vl vc] 24 (0, 0))
  n : Node 13 W (fun k => B ≤ k) (.agg #[.int .i64 vt, .string vd, .slice va vl vc]) X
variable {B b : Nat} {W V : World} {vt : Int} {vd : ByteArray} {va : Option Addr} {vl vc : Nat} {X : Tr 13}
theorem BX.lt (h : BX B W b vt vd va vl vc X) : b < W.heap.size := (Array.getElem?_eq_some_iff.1 h.q).1
theorem BX.below (h : BX B W b vt vd va vl vc X) (hb : Below W.heap.size W V) : BX B V b vt vd va vl vc X := ⟨(hb.block _ h.lt).trans h.q, h.n.below hb⟩
theorem BX.cells (h : BX B W b vt vd va vl vc X) : (W.cell? ⟨b, 0, none⟩ = some (.int .i64 vt) ∧ W.cell? ⟨b, 1, none⟩ = some (.string vd) ∧ W.cell? ⟨b, 2, none⟩ = some (.slice va vl vc)) ∧ W.frozen? ⟨b, 0, none⟩ = false ∧ W.frozen? ⟨b, 1, none⟩ = false ∧ W.frozen? ⟨b, 2, none⟩ = false := cells3 h.q
/-- another box is written. -/
theorem BX.other (h : BX B W b vt vd va vl vc X) {b' : Nat} (hne : b ≠ b') (hB : b' < B) (x y z : Value) : BX B (((W.setCell ⟨b', 0, none⟩ x).setCell ⟨b', 1, none⟩ y).setCell ⟨b', 2, none⟩ z) b vt vd va vl vc X :=
  ⟨by rw [Below.heap_setCell _ _ _ _ hne, Below.heap_setCell _ _ _ _ hne, Below.heap_setCell _ _ _ _ hne]; exact h.q, set3_node h.n (by omega) x y z⟩
/-- the box is written. -/
theorem BX.mk' {A : Array Value} {p : Nat → Prop} (hq : W.heap[b]? = some (.cells #[A[0]!, A[1]!, A[2]!] 24 (0, 0))) (hn : Node 13 W p (.agg #[.int .i64 vt, .string vd, .slice va vl vc]) X) (hp : ∀ k, p k → B ≤ k) (hB : b < B) :
    BX B (((W.setCell ⟨b, 0, none⟩ (.int .i64 vt)).setCell ⟨b, 1, none⟩ (.string vd)).setCell ⟨b, 2, none⟩ (.slice va vl vc)) b vt vd va vl vc X :=
  ⟨by
    have h1 := heap_setCell_same W b 0 _ _ (.int .i64 vt) hq
    have h2 := heap_setCell_same _ b 1 _ _ (.string vd) h1
    have h3 := heap_setCell_same _ b 2 _ _ (.slice va vl vc) h2
    exact h3, set3_node (hn.imp fun k hk _ => hp k hk) (by omega) _ _ _⟩
/-- a new box. -/
theorem BX.new {p : Nat → Prop} (hn : Node 13 W p (.agg #[.int .i64 vt, .string vd, .slice va vl vc]) X) : BX 0 (W.alloc (.cells #[.int .i64 vt, .string vd, .slice va vl vc] 24)) W.heap.size vt vd va vl vc X :=
  ⟨World.alloc_heap_new _ _, (hn.below ((Below.refl _ _).alloc (Nat.le_refl _) _)).imp fun k _ _ => Nat.zero_le k⟩
theorem BX.alloc (h : BX B W b vt vd va vl vc X) (o : Obj) : BX B (W.alloc o) b vt vd va vl vc X := h.below ((Below.refl _ _).alloc (Nat.le_refl _) _)
theorem size_set3 (W : World) (b : Nat) (x y z : Value) : (((W.setCell ⟨b, 0, none⟩ x).setCell ⟨b, 1, none⟩ y).setCell ⟨b, 2, none⟩ z).heap.size = W.heap.size := by rw [size_setCell, size_setCell, size_setCell]

theorem encT_no {n : Nat} {T : Tr n} (h : right T = false) : encT T = .tuple #[.string ⟨#[]⟩, .int .i64 21] := by unfold encT; rw [h]; rfl
theorem encT_yes {n : Nat} {T : Tr n} (h : right T = true) : encT T = .tuple #[.string ⟨(enc n T).toArray⟩, .int .i64 0] := by unfold encT; rw [if_pos h]
end Go.Proofs.YthibodkemnkjeaaDoor
