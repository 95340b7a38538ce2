/-
  What reader.tree of package tlv does where no trees stand in the one that is read. Conditions: the package-level variables hold what the program's text lays.
-/
import Derived.Test.YthibodkemnkjeaaDoorTHead
import Derived.StillTailTactics
namespace Go.Proofs.YthibodkemnkjeaaDoor
open Go.RowKit Tv T

abbrev zeroN : Value := .agg #[.int .i64 0, .string ⟨#[]⟩, .slice none 0 0]
/-- what tree leaves. -/
def TreePost (R : Nat) (s : ByteArray) (A : Ads) (w : World) (k : Nat) (r : Except Int (Tr (k + 1) × Nat × Nat)) (e : Ending) (w' : World) : Prop :=
  But R w w' ∧ match r with
    | .error E => ∃ v, e = .returned (.tuple #[zeroN, .int .i64 0, v]) ∧ IsErr A v E
    | .ok (T, nx, c') => ∃ v, e = .returned (.tuple #[v, .int .i64 nx, .nilIface]) ∧ Node (k + 1) w' (fun b => w.heap.size ≤ b) v T ∧ TRd R s c' w'

/-- the three boxes of tree's answers. -/
abbrev ans (w : World) : World := ((w.alloc (.cells #[.int .i64 0, .string ⟨#[]⟩, .slice none 0 0] 24)).alloc (.cells #[.int .i64 0] 3)).alloc (.cells #[.nilIface] 48)
theorem ans_size (w : World) : (ans w).heap.size = w.heap.size + 1 + 1 + 1 := by simp
theorem ans_below (w : World) : Below w.heap.size w (ans w) := (((Below.refl _ _).alloc (Nat.le_refl _) _).alloc (by simp) _).alloc (by simp; omega) _
theorem ans_0 (w : World) : (ans w).heap[w.heap.size]? = some (.cells #[.int .i64 0, .string ⟨#[]⟩, .slice none 0 0] 24 (0, 0)) := by
  rw [Below.heap_alloc _ _ _ (by simp; omega), Below.heap_alloc _ _ _ (by simp)]; exact World.alloc_heap_new w _
theorem ans_1 (w : World) : (ans w).heap[w.heap.size + 1]? = some (.cells #[.int .i64 0] 3 (0, 0)) := by
  rw [Below.heap_alloc _ _ _ (by simp)]; have := World.alloc_heap_new (w.alloc (.cells #[.int .i64 0, .string ⟨#[]⟩, .slice none 0 0] 24)) (.cells #[.int .i64 0] 3); rwa [World.size_alloc] at this
theorem ans_2 (w : World) : (ans w).heap[w.heap.size + 1 + 1]? = some (.cells #[.nilIface] 48 (0, 0)) := by
  have := World.alloc_heap_new ((w.alloc (.cells #[.int .i64 0, .string ⟨#[]⟩, .slice none 0 0] 24)).alloc (.cells #[.int .i64 0] 3)) (.cells #[.nilIface] 48); rwa [World.size_alloc, World.size_alloc] at this

/-- the answers' cells, behind what has turned no block of theirs. -/
structure Ans (n : Nat) (w' : World) : Prop where
  b0 : w'.heap[n]? = some (.cells #[.int .i64 0, .string ⟨#[]⟩, .slice none 0 0] 24 (0, 0))
  b1 : w'.heap[n + 1]? = some (.cells #[.int .i64 0] 3 (0, 0))
  b2 : w'.heap[n + 1 + 1]? = some (.cells #[.nilIface] 48 (0, 0))
theorem Ans.but {R : Nat} {w w' : World} (hR : R < w.heap.size) (h : But R (ans w) w') : Ans w.heap.size w' :=
  ⟨(h.block _ (by simp; omega) (by omega)).trans (ans_0 w), (h.block _ (by simp) (by omega)).trans (ans_1 w), (h.block _ (by simp) (by omega)).trans (ans_2 w)⟩
theorem Ans.cells {n : Nat} {w : World} (h : Ans n w) : (w.cell? ⟨n, 0, none⟩ = some (.int .i64 0) ∧ w.cell? ⟨n, 1, none⟩ = some (.string ⟨#[]⟩) ∧ w.cell? ⟨n, 2, none⟩ = some (.slice none 0 0) ∧ w.cell? ⟨n + 1, 0, none⟩ = some (.int .i64 0) ∧ w.cell? ⟨n + 1 + 1, 0, none⟩ = some .nilIface) ∧
    (w.frozen? ⟨n, 0, none⟩ = false ∧ w.frozen? ⟨n, 1, none⟩ = false ∧ w.frozen? ⟨n, 2, none⟩ = false ∧ w.frozen? ⟨n + 1, 0, none⟩ = false ∧ w.frozen? ⟨n + 1 + 1, 0, none⟩ = false) := by
  refine ⟨⟨?_, ?_, ?_, ?_, ?_⟩, ?_, ?_, ?_, ?_, ?_⟩ <;> simp [World.cell?, World.frozen?, h.b0, h.b1, h.b2]
theorem Ans.of {n : Nat} {w w' : World} (h : Ans n w) (hb : ∀ k, k < w.heap.size → w'.heap[k]? = w.heap[k]?) : Ans n w' :=
  ⟨(hb _ (Array.getElem?_eq_some_iff.1 h.b0).1).trans h.b0, (hb _ (Array.getElem?_eq_some_iff.1 h.b1).1).trans h.b1, (hb _ (Array.getElem?_eq_some_iff.1 h.b2).1).trans h.b2⟩

theorem But.setNew {R : Nat} {w V : World} (h : But R w V) {b : Nat} (hb : w.heap.size ≤ b) (o : Nat) (v : Value) : But R w (V.setCell ⟨b, o, none⟩ v) :=
  ⟨h.os, h.tape, h.output, by rw [size_setCell]; exact h.size, fun k hk hn => (Below.heap_setCell V ⟨b, o, none⟩ v k (by show k ≠ b; omega)).trans (h.block k hk hn)⟩
theorem But.toBut {R : Nat} {w w' V : World} (h : Below w.heap.size w w') (k : But R w' V) : But R w V := (But.of_below h).trans k
theorem Ans.alloc {n : Nat} {w : World} (h : Ans n w) : ((∀ o, (w.alloc o).cell? ⟨n, 0, none⟩ = some (.int .i64 0)) ∧ (∀ o, (w.alloc o).cell? ⟨n, 1, none⟩ = some (.string ⟨#[]⟩)) ∧ (∀ o, (w.alloc o).cell? ⟨n, 2, none⟩ = some (.slice none 0 0)) ∧ (∀ o, (w.alloc o).cell? ⟨n + 1, 0, none⟩ = some (.int .i64 0)) ∧ (∀ o, (w.alloc o).cell? ⟨n + 1 + 1, 0, none⟩ = some .nilIface)) ∧
    ((∀ o, (w.alloc o).frozen? ⟨n, 0, none⟩ = false) ∧ (∀ o, (w.alloc o).frozen? ⟨n, 1, none⟩ = false) ∧ (∀ o, (w.alloc o).frozen? ⟨n, 2, none⟩ = false) ∧ (∀ o, (w.alloc o).frozen? ⟨n + 1, 0, none⟩ = false) ∧ (∀ o, (w.alloc o).frozen? ⟨n + 1 + 1, 0, none⟩ = false)) := by
  have H := fun o => (h.of (fun k hk => Below.heap_alloc w o k hk)).cells
  exact ⟨⟨fun o => (H o).1.1, fun o => (H o).1.2.1, fun o => (H o).1.2.2.1, fun o => (H o).1.2.2.2.1, fun o => (H o).1.2.2.2.2⟩, fun o => (H o).2.1, fun o => (H o).2.2.1, fun o => (H o).2.2.2.1, fun o => (H o).2.2.2.2.1, fun o => (H o).2.2.2.2.2⟩

theorem _root_.Go.Proofs.YthibodkemnkjeaaDoor.T.IsWhy.iface {A : Ads} {u : Value} {E : Int} (h : IsWhy A u E) : ∃ t v, u = .iface t v := by
  rcases h with h | ⟨a, h, _⟩
  · exact ⟨_, _, h⟩
  · exact ⟨_, _, h⟩

set_option maxHeartbeats 2000000 in
theorem tree_err (R : Nat) (A : Ads) (w : World) (p stop deep E : Int) (hR : R < w.heap.size)
    (H : Calls Tryd.prog 64 #[.pointer (some ⟨R, 0, none⟩), .int .i64 p, .int .i64 stop, .int .i64 deep] (ans w) fun e w' => But R (ans w) w' ∧ ∃ u, e = .returned (.tuple #[headV 0 0 0, u]) ∧ u ≠ .nilIface ∧ IsWhy A u E) :
    Calls Tryd.prog 51 #[.pointer (some ⟨R, 0, none⟩), .int .i64 p, .int .i64 stop, .int .i64 deep] w fun e w' => But R w w' ∧ ∃ v, e = .returned (.tuple #[zeroN, .int .i64 0, v]) ∧ IsErr A v E := by
  go_enter Tryd.func51, Tryd.ntmps51
  go_wp2_with fail
  refine H.mono ?_
  rintro e w1 ⟨hb, u, rfl, _, hw⟩
  obtain ⟨T0, v0, rfl⟩ := hw.iface
  obtain ⟨⟨c0, c1, c2, c3, c4⟩, r0, r1, r2, r3, r4⟩ := (Ans.but hR hb).alloc
  have hlt : w.heap.size + 1 + 1 < w1.heap.size := by have := hb.size; simp at this; omega
  have Hb := hide hb
  clear hb H
  go_wp2_with fail
  have HB : But R w (w1.alloc (.cells #[.int .i64 0, .int .i64 0, .int .i64 0] 107)) := (But.toBut (ans_below w) (unhide Hb)).alloc _
  clear Hb
  refine bodyPost_ret (v := .tuple #[zeroN, .int .i64 0, .iface 60 (.agg #[.int .i64 p, .iface T0 v0])]) (by simp [results, Tryd.results51, go_sem, c0, c1, c2, c3, c4]) rfl ⟨?_, _, rfl, p, _, rfl, hw⟩
  exact ((((HB.setNew (by omega) _ _).setNew (by omega) _ _).setNew (by omega) _ _).setNew (by omega) _ _).setNew (by omega) _ _
end Go.Proofs.YthibodkemnkjeaaDoor
