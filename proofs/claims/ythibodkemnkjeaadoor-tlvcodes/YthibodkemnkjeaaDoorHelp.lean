/-
  Small laws on worlds: what is kept while one block of the call's own is written. Conditions: none.
-/
import Derived.Test.YthibodkemnkjeaaDoorErrno
import Derived.BigQuiet
namespace Go.Proofs.YthibodkemnkjeaaDoor
open Go.RowKit

/-- Of what lies in w nothing but block b has turned. -/
structure But (b : Nat) (w w' : World) : Prop where
  os : w'.os = w.os
  tape : w'.tape = w.tape
  output : w'.output = w.output
  size : w.heap.size ≤ w'.heap.size
  block : ∀ k, k < w.heap.size → k ≠ b → w'.heap[k]? = w.heap[k]?

theorem But.refl (b : Nat) (w : World) : But b w w := ⟨rfl, rfl, rfl, Nat.le_refl _, fun _ _ _ => rfl⟩
theorem But.trans {b : Nat} {u v w : World} (h : But b u v) (k : But b v w) : But b u w :=
  ⟨k.os.trans h.os, k.tape.trans h.tape, k.output.trans h.output, Nat.le_trans h.size k.size, fun i hi hn => (k.block i (Nat.lt_of_lt_of_le hi h.size) hn).trans (h.block i hi hn)⟩
theorem But.of_below {b : Nat} {w w' : World} (h : Below w.heap.size w w') : But b w w' := ⟨h.os, h.tape, h.output, h.size, fun k hk _ => h.block k hk⟩
theorem But.alloc {b : Nat} {u w : World} (h : But b u w) (o : Obj) : But b u (w.alloc o) := h.trans (But.of_below ((Below.refl _ _).alloc (Nat.le_refl _) _))
theorem But.drew {b : Nat} {u w : World} (h : But b u w) : But b u w.drew := ⟨h.os, h.tape, h.output, h.size, h.block⟩
theorem But.drewN {b : Nat} {u w : World} (h : But b u w) (n : Nat) : But b u (w.drewN n) := ⟨h.os, h.tape, h.output, h.size, h.block⟩
theorem But.setCell {b : Nat} {u w : World} (h : But b u w) (o : Nat) (v : Value) : But b u (w.setCell ⟨b, o, none⟩ v) :=
  h.trans ⟨rfl, rfl, rfl, by simp [World.setCell], fun k _ hn => Below.heap_setCell _ _ _ _ hn⟩
theorem But.cell {b : Nat} {w w' : World} (h : But b w w') {p : Addr} {v : Value} (hv : w.cell? p = some v) (hn : p.block ≠ b) : w'.cell? p = some v :=
  (World.cell?_of_block (w := w) (h.block p.block (lt_of_cell hv) hn)).trans hv
theorem But.frozen {b : Nat} {w w' : World} (h : But b w w') {p : Addr} (hp : p.block < w.heap.size) (hn : p.block ≠ b) : w'.frozen? p = w.frozen? p :=
  World.frozen?_of_block (w := w) (h.block p.block hp hn)
theorem But.below {b B : Nat} {w w' : World} (h : But b w w') (hB : B ≤ b) (hs : b < w.heap.size) : Below B w w' :=
  ⟨h.os, h.tape, h.output, h.size, fun k hk => h.block k (by omega) (by omega)⟩
/-- all that 'Glob' speaks of lies below block b. -/
structure GB (aS aF : Addr) (b : Nat) : Prop where
  ty : 7 < b
  sh : 9 < b
  fo : 6 < b
  aS : aS.block < b
  aF : aF.block < b
theorem Glob.gb {aS aF : Addr} {w : World} (g : Glob aS aF w) : GB aS aF w.heap.size := by
  obtain ⟨ty, sh, fo, _, ⟨_, _, hS⟩, ⟨_, _, hF⟩⟩ := g
  exact ⟨lt_of_cell ty, lt_of_cell sh, lt_of_cell fo, (Array.getElem?_eq_some_iff.1 hS).1, (Array.getElem?_eq_some_iff.1 hF).1⟩
theorem Glob.but {aS aF : Addr} {w w' : World} {b : Nat} (g : Glob aS aF w) (h : But b w w') (hb : GB aS aF b) : Glob aS aF w' := by
  obtain ⟨ty, sh, fo, ne, ⟨c, t, hS'⟩, ⟨c', t', hF'⟩⟩ := g
  obtain ⟨b1, b2, b3, b4, b5⟩ := hb
  refine ⟨h.cell ty ?_, h.cell sh ?_, h.cell fo ?_, ne, ⟨c, t, ?_⟩, ⟨c', t', ?_⟩⟩
  · exact Nat.ne_of_lt b1
  · exact Nat.ne_of_lt b2
  · exact Nat.ne_of_lt b3
  · rw [h.block _ (Array.getElem?_eq_some_iff.1 hS').1 (Nat.ne_of_lt b4)]; exact hS'
  · rw [h.block _ (Array.getElem?_eq_some_iff.1 hF').1 (Nat.ne_of_lt b5)]; exact hF'

/-- the reader lies in block b: its text, its place, how many follow, what was told. -/
structure Rd (b : Nat) (s : ByteArray) (a c n : Int) (w : World) : Prop where
  h0 : w.cell? ⟨b, 0, none⟩ = some (.string s)
  h1 : w.cell? ⟨b, 1, none⟩ = some (.int .i64 a)
  h2 : w.cell? ⟨b, 2, none⟩ = some (.int .i64 c)
  h3 : w.cell? ⟨b, 3, none⟩ = some (.int .u32 n)
  f2 : w.frozen? ⟨b, 2, none⟩ = false
  f3 : w.frozen? ⟨b, 3, none⟩ = false
theorem Rd.lt {b : Nat} {s : ByteArray} {a c n : Int} {w : World} (h : Rd b s a c n w) : b < w.heap.size := lt_of_cell h.h0
theorem Rd.of {b : Nat} {s : ByteArray} {a c n : Int} {w w' : World} (h : Rd b s a c n w) (e : w'.heap[b]? = w.heap[b]?) : Rd b s a c n w' :=
  ⟨(World.cell?_of_block (w := w) e).trans h.h0, (World.cell?_of_block (w := w) e).trans h.h1, (World.cell?_of_block (w := w) e).trans h.h2, (World.cell?_of_block (w := w) e).trans h.h3,
    (World.frozen?_of_block (w := w) e).trans h.f2, (World.frozen?_of_block (w := w) e).trans h.f3⟩
theorem Rd.drewN {b : Nat} {s : ByteArray} {a c n : Int} {w : World} (h : Rd b s a c n w) (k : Nat) : Rd b s a c n (w.drewN k) := ⟨h.h0, h.h1, h.h2, h.h3, h.f2, h.f3⟩
theorem Rd.drew {b : Nat} {s : ByteArray} {a c n : Int} {w : World} (h : Rd b s a c n w) : Rd b s a c n w.drew := ⟨h.h0, h.h1, h.h2, h.h3, h.f2, h.f3⟩
theorem Rd.alloc {b : Nat} {s : ByteArray} {a c n : Int} {w : World} (h : Rd b s a c n w) (o : Obj) : Rd b s a c n (w.alloc o) := h.of (Below.heap_alloc _ _ _ h.lt)
theorem Rd.but {b b' : Nat} {s : ByteArray} {a c n : Int} {w w' : World} (h : Rd b s a c n w) (k : But b' w w') (hn : b ≠ b') : Rd b s a c n w' := h.of (k.block _ h.lt hn)
theorem Rd.below {b B : Nat} {s : ByteArray} {a c n : Int} {w w' : World} (h : Rd b s a c n w) (k : Below B w w') (hB : b < B) : Rd b s a c n w' := h.of (k.block _ hB)
theorem Rd.set3 {b : Nat} {s : ByteArray} {a c n : Int} {w : World} (h : Rd b s a c n w) (m : Int) : Rd b s a c m (w.setCell ⟨b, 3, none⟩ (.int .u32 m)) :=
  ⟨by rw [World.cell?_setCell_other (h := by simp)]; exact h.h0, by rw [World.cell?_setCell_other (h := by simp)]; exact h.h1, by rw [World.cell?_setCell_other (h := by simp)]; exact h.h2,
    World.cell?_setCell_same' _ _ _ (by rw [h.h3]; rfl), by rw [World.frozen?_setCell]; exact h.f2, by rw [World.frozen?_setCell]; exact h.f3⟩
theorem Rd.set2 {b : Nat} {s : ByteArray} {a c n : Int} {w : World} (h : Rd b s a c n w) (m : Int) : Rd b s a m n (w.setCell ⟨b, 2, none⟩ (.int .i64 m)) :=
  ⟨by rw [World.cell?_setCell_other (h := by simp)]; exact h.h0, by rw [World.cell?_setCell_other (h := by simp)]; exact h.h1,
    World.cell?_setCell_same' _ _ _ (by rw [h.h2]; rfl), by rw [World.cell?_setCell_other (h := by simp)]; exact h.h3, by rw [World.frozen?_setCell]; exact h.f2, by rw [World.frozen?_setCell]; exact h.f3⟩
end Go.Proofs.YthibodkemnkjeaaDoor
