/-
  What reader.tree of package tlv does at a tree with data. Conditions: the package-level variables hold what the program's text lays.
-/
import Derived.Test.YthibodkemnkjeaaDoorTTree0
namespace Go.Proofs.YthibodkemnkjeaaDoor
open Go.RowKit Tv T

/-- two boxes more. -/
theorem two_boxes (w : World) (x y z x' y' z' : Value) (t t' : TypeId) :
    ((w.alloc (.cells #[x, y, z] t)).alloc (.cells #[x', y', z'] t')).heap[w.heap.size]? = some (.cells #[x, y, z] t (0, 0)) ∧ ((w.alloc (.cells #[x, y, z] t)).alloc (.cells #[x', y', z'] t')).heap[w.heap.size + 1]? = some (.cells #[x', y', z'] t' (0, 0)) := by
  constructor
  · rw [Below.heap_alloc _ _ _ (by simp)]; exact World.alloc_heap_new w _
  · have := World.alloc_heap_new (w.alloc (.cells #[x, y, z] t)) (.cells #[x', y', z'] t'); rwa [World.size_alloc] at this
theorem cells3 {w : World} {n : Nat} {x y z : Value} {t : TypeId} (h : w.heap[n]? = some (.cells #[x, y, z] t (0, 0))) : (w.cell? ⟨n, 0, none⟩ = some x ∧ w.cell? ⟨n, 1, none⟩ = some y ∧ w.cell? ⟨n, 2, none⟩ = some z) ∧ w.frozen? ⟨n, 0, none⟩ = false ∧ w.frozen? ⟨n, 1, none⟩ = false ∧ w.frozen? ⟨n, 2, none⟩ = false := by
  refine ⟨⟨?_, ?_, ?_⟩, ?_, ?_, ?_⟩ <;> simp [World.cell?, World.frozen?, h]

theorem TRd.drew {R : Nat} {s : ByteArray} {c : Int} {V : World} (h : TRd R s c V) : TRd R s c V.drew := ⟨h.h0, h.h1, h.f1⟩
theorem TRd.setNew {R : Nat} {s : ByteArray} {c : Int} {V : World} (h : TRd R s c V) {b : Nat} (hb : R ≠ b) (o : Nat) (v : Value) : TRd R s c (V.setCell ⟨b, o, none⟩ v) := h.of (Below.heap_setCell V ⟨b, o, none⟩ v R hb)

set_option maxRecDepth 100000 in
set_option maxHeartbeats 2000000 in
theorem tree_leaf (R : Nat) (s : ByteArray) (c a b t : Nat) (w : World) (p stop deep : Int) (hR : R < w.heap.size) (hs : s.size ≤ 10000) (hab : a ≤ b) (hb : b ≤ s.size) (ht : t < 256) (hi : isIn t = false)
    (H : Calls Tryd.prog 64 #[.pointer (some ⟨R, 0, none⟩), .int .i64 p, .int .i64 stop, .int .i64 deep] (ans w) fun e w' => But R (ans w) w' ∧ TRd R s c w' ∧ e = .returned (.tuple #[headV t a b, .nilIface])) :
    Calls Tryd.prog 51 #[.pointer (some ⟨R, 0, none⟩), .int .i64 p, .int .i64 stop, .int .i64 deep] w fun e w' => But R w w' ∧ e = .returned (.tuple #[.agg #[.int .i64 t, .string (s.extract a b), .slice none 0 0], .int .i64 b, .nilIface]) ∧ TRd R s c w' := by
  have hmx : Tryd.prog.follows .mixedOrders = true := by kernel_rfl
  have hI : inB t = false := (inB_eq t (by omega) (by omega)).trans hi
  go_enter Tryd.func51, Tryd.ntmps51
  go_wp2_with fail
  refine H.mono ?_
  rintro e w1 ⟨hb1, htr, rfl⟩
  clear H
  go_wp2_with (go_at_call 47; refine (isInner_any _ _).mono ?_; rintro e w' ⟨rfl, rfl⟩)
  obtain ⟨W2, hW2⟩ : ∃ W2, W2 = (w1.alloc (.cells #[.int .i64 t, .int .i64 a, .int .i64 b] 107)).alloc (.cells #[.int .i64 t, .string ⟨#[]⟩, .slice none 0 0] 24) := ⟨_, rfl⟩
  rw [← hW2]
  have hold : ∀ k, k < w1.heap.size → W2.heap[k]? = w1.heap[k]? := fun k hk => by rw [hW2, Below.heap_alloc _ _ _ (by simp; omega), Below.heap_alloc _ _ _ hk]
  have hz : W2.heap.size = w1.heap.size + 2 := by rw [hW2]; simp
  have hH := (two_boxes w1 (.int .i64 t) (.int .i64 a) (.int .i64 b) (.int .i64 t) (.string ⟨#[]⟩) (.slice none 0 0) 107 24)
  rw [← hW2] at hH
  have hA : Ans w.heap.size W2 := (Ans.but hR hb1).of hold
  have hT : TRd R s c W2 := htr.of (hold _ htr.lt)
  have hB : But R w W2 := by rw [hW2]; exact ((But.toBut (ans_below w) hb1).alloc _).alloc _
  have hlt : w.heap.size + 1 + 1 < w1.heap.size := by have := hb1.size; simp at this; omega
  clear hb1 htr hold hW2
  generalize w1.heap.size = n1 at *
  obtain ⟨⟨h0, h1, h2⟩, _⟩ := cells3 hH.1
  have r0 := hT.h0
  have P := piece_any s a b W2.drew hs hab hb
  go_still_tail 8, hmx
  clear r0 h0 h1 h2
  have hH' := hide hH
  have hA' := hide hA
  have hT' := hide hT
  have hB' := hide hB
  clear hH hA hT hB
  go_wp2_with fail
  refine P.mono ?_
  rintro e w3 ⟨rfl, hb3⟩
  clear P
  have hk : ∀ k, k < W2.heap.size → w3.heap[k]? = W2.heap[k]? := fun k hk => hb3.block k hk
  have hz3 : W2.heap.size ≤ w3.heap.size := hb3.size
  have hH3 : w3.heap[n1]? = _ ∧ w3.heap[n1 + 1]? = _ := ⟨(hk _ (by omega)).trans (unhide hH').1, (hk _ (by omega)).trans (unhide hH').2⟩
  obtain ⟨⟨a0, a1, a2⟩, _⟩ := cells3 hH3.1
  obtain ⟨⟨d0, d1, d2⟩, e0, e1, e2⟩ := cells3 hH3.2
  obtain ⟨⟨c0, c1, c2, c3, c4⟩, r0, r1, r2, r3, r4⟩ := ((unhide hA').of hk).cells
  have hT3 := hide ((unhide hT').of (hk R (unhide hT').lt))
  have hB3 := hide ((unhide hB').trans (But.of_below (show Below W2.heap.size W2 w3 from ⟨hb3.os, hb3.tape, hb3.output, hb3.size, hb3.block⟩)))
  clear hb3 hk hH3 hH' hA' hT' hB'
  go_wp2
  go_region
  all_goals go_wp2
  all_goals go_light
  have HB := unhide hB3
  have HT := unhide hT3
  clear hB3 hT3
  refine bodyPost_ret (v := .tuple #[.agg #[.int .i64 t, .string (s.extract a b), .slice none 0 0], .int .i64 b, .nilIface]) (by simp [results, Tryd.results51, go_sem, c0, c1, c2, c3, c4]) rfl ⟨?_, rfl, ?_⟩
  · exact ((((((HB.setNew (by omega) _ _).setNew (by omega) _ _).setNew (by omega) _ _).setNew (by omega) _ _).setNew (by omega) _ _).setNew (by omega) _ _).drew
  · exact ((((((HT.setNew (by omega) _ _).setNew (by omega) _ _).setNew (by omega) _ _).setNew (by omega) _ _).setNew (by omega) _ _).setNew (by omega) _ _).drew
end Go.Proofs.YthibodkemnkjeaaDoor
