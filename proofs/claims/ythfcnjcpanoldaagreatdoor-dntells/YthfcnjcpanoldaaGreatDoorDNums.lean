/-
  What dn.isNumbers and dn.IsType answer. Conditions: none.
-/
import Derived.Test.YthfcnjcpanoldaaGreatDoorDIter
import Derived.Test.YthfcnjcpanoldaaGreatDoorEB
namespace Go.Proofs.YthfcnjcpanoldaaGreatDoor.D
open Go Go.RowKit Go.Shelf Dp
attribute [local go_sem] Oper.semAt_some

/-- what lies in memory while the pieces are gone through: the answer's cell, the cutter's two boxes, the count. -/
structure Nin (s : ByteArray) (n : Nat) (w W : World) : Prop where
  br : W.heap[w.heap.size]? = some (.cells #[.bool false] 4)
  bn : W.heap[w.heap.size + 2]? = some (.cells #[.int .i64 (n : Int)] 3)
  bel : Below w.heap.size w W
  size : w.heap.size + 4 ≤ W.heap.size
theorem Nin.cl {s : ByteArray} {n : Nat} {w W : World} (h : Nin s n w W) : W.cell? ⟨w.heap.size, 0, none⟩ = some (.bool false) ∧ W.cell? ⟨w.heap.size + 2, 0, none⟩ = some (.int .i64 (n : Int)) ∧ W.frozen? ⟨w.heap.size, 0, none⟩ = false ∧ W.frozen? ⟨w.heap.size + 2, 0, none⟩ = false := by
  have h1 := h.br
  have h2 := h.bn
  simp [World.cell?, World.frozen?, h1, h2]
theorem Nin.grown {s : ByteArray} {n : Nat} {w W W' : World} {row : Option Nat} (h : Nin s n w W) (hg : W.grownBy W' row) (hr : ∀ r, row = some r → w.heap.size + 4 ≤ r) : Nin s n w W' := by
  have hz := h.size
  have hk : ∀ k, k < w.heap.size + 4 → W'.heap[k]? = W.heap[k]? := fun k hk => hg.block k (by omega) (fun e => by have := hr k e.symm; omega)
  exact ⟨(hk _ (by omega)).trans h.br, (hk _ (by omega)).trans h.bn, ⟨hg.os.trans h.bel.os, hg.tape.trans h.bel.tape, hg.output.trans h.bel.output, Nat.le_trans h.bel.size hg.size, fun k hk' => (hk k (by omega)).trans (h.bel.block k hk')⟩, Nat.le_trans hz hg.size⟩
theorem Nin.set {s : ByteArray} {n : Nat} {w W : World} (h : Nin s n w W) (m : Nat) : Nin s m w (W.setCell ⟨w.heap.size + 2, 0, none⟩ (.int .i64 (m : Int))) := by
  have o : ∀ k, k ≠ w.heap.size + 2 → (W.setCell ⟨w.heap.size + 2, 0, none⟩ (.int .i64 (m : Int))).heap[k]? = W.heap[k]? := fun k hk => Below.heap_setCell _ _ _ _ hk
  exact ⟨(o _ (by omega)).trans h.br, heap_setCell_same W _ 0 _ _ _ h.bn, h.bel.setCell (by show w.heap.size ≤ w.heap.size + 2; omega) _, by simp; exact h.size⟩
theorem Nin.setR {s : ByteArray} {n : Nat} {w W : World} (h : Nin s n w W) : Nin s n w (W.setCell ⟨w.heap.size, 0, none⟩ (.bool false)) := by
  have o : ∀ k, k ≠ w.heap.size → (W.setCell ⟨w.heap.size, 0, none⟩ (.bool false)).heap[k]? = W.heap[k]? := fun k hk => Below.heap_setCell _ _ _ _ hk
  exact ⟨heap_setCell_same W _ 0 _ _ _ h.br, (o _ (by omega)).trans h.bn, h.bel.setCell (Nat.le_refl _) _, by simp; exact h.size⟩
/-- what a round keeps for others. -/
def Kn (w W W' : World) : Prop := KeepsOthers W W' ∧ C.Two (w.heap.size + 3) (w.heap.size + 3) W W'
theorem Kn.set (w W : World) (v : Value) (i : Nat) (hi : i ≠ 3) : Kn w W (W.setCell ⟨w.heap.size + i, 0, none⟩ v) :=
  ⟨KeepsOthers.setCell _ _ _, Below.heap_setCell _ _ _ _ (by show w.heap.size + 3 ≠ w.heap.size + i; omega), Below.heap_setCell _ _ _ _ (by show w.heap.size + 3 ≠ w.heap.size + i; omega)⟩
def ninv (s : ByteArray) (w : World) (pre : List (It fun _ => True)) (W : World) : Prop := (∀ x ∈ pre, num (x.1.g s).data.toList = true) ∧ Nin s pre.length w W
def nout (s : ByteArray) (w : World) (cd : Code) (pre : List (It fun _ => True)) (W : World) : Prop := cd = .ret ∧ (∃ x ∈ pre, num (x.1.g s).data.toList = false) ∧ ∃ n, Nin s n w W
theorem ext_small (s : ByteArray) (a b : Nat) : (s.extract a b).size ≤ s.size := by rw [ByteArray.size_extract]; omega

theorem finN {w V : World} {D : Nat} {tmps : Array Value} {b : Bool} {R : Ending → World → Prop} (hV : V.heap[D]? = some (.deferred (some []))) (hD : w.heap.size + 4 ≤ D) (hb : Below w.heap.size w V) (t2 : tmps.getD 2 undef = .pointer (some ⟨w.heap.size, 0, none⟩)) (hc : V.cell? ⟨w.heap.size, 0, none⟩ = some (.bool b))
    (hp : ∀ V', Below w.heap.size w V' → R (.returned (.bool b)) V') :
    bodyPostM Fence.wide 3 Tryz.prog Tryz.f40 R Exit.ret { tmps, defers := [{ target := .collected D, args := #[] }] } V := by
  refine ⟨by simp, .inl ⟨_, _, rfl, run_takeDeferred hV, ?_⟩⟩
  refine ⟨.bool b, ?_, hp _ (C.putObj_below hb (by omega))⟩
  have hc' : (V.putObj D (.deferred none)).cell? ⟨w.heap.size, 0, none⟩ = some (.bool b) := by
    rw [World.cell?_of_block (w := V) (a := ⟨w.heap.size, 0, none⟩) (World.putObj_heap_other (by show w.heap.size ≠ D; omega))]
    exact hc
  have t2' : tmps[2]?.getD undef = .pointer (some ⟨w.heap.size, 0, none⟩) := by simpa using t2
  simp [results, Tryz.results40, go_sem, t2', hc']

set_option maxRecDepth 100000 in
set_option maxHeartbeats 2000000 in
theorem isNumbers_any (s : ByteArray) (w : World) (hs : s.size ≤ 1000) :
    Calls Tryz.prog 40 #[.string s] w fun e w' => e = .returned (.bool (nums s.data.toList)) ∧ Below w.heap.size w w' := by
  refine (callsIn_wide (n := 3)).1 ?_
  refine callsIn_of_wp_marks Tryz.func40 rfl trivial ?_ rfl
  simp only [Tryz.ntmps40, List.size_toArray, List.length_cons, List.length_nil, Nat.reduceAdd, Nat.reduceSub, Array.replicate_succ, Array.replicate_zero, List.push_toArray, List.append_toArray, List.nil_append, List.cons_append]
  refine wpIn_wide.2 ?_
  go_wp2_with fail
  refine (pieces_any s 46 _).mono ?_
  rintro e w' ⟨rfl, rfl⟩
  go_wp2
  obtain ⟨W0, hW0⟩ : ∃ W0, W0 = (((w.alloc (.cells #[.bool false] 4)).alloc (.cells #[.string s, .int .u8 46] 76)).alloc (.cells #[.int .i64 0] 3)).alloc (cb s 46) := ⟨_, rfl⟩
  have hz : W0.heap.size = w.heap.size + 4 := by rw [hW0]; simp
  have hSt : Nin s 0 w W0 := by
    rw [hW0]
    refine ⟨?_, ?_, ?_, by simp⟩
    · rw [Below.heap_alloc _ _ _ (by simp <;> omega), Below.heap_alloc _ _ _ (by simp <;> omega), Below.heap_alloc _ _ _ (by simp)]; exact World.alloc_heap_new _ _
    · rw [Below.heap_alloc _ _ _ (by simp <;> omega)]; have := World.alloc_heap_new ((w.alloc (.cells #[.bool false] 4)).alloc (.cells #[.string s, .int .u8 46] 76)) (.cells #[.int .i64 0] 3); rwa [World.size_alloc, World.size_alloc] at this
    · repeat (refine Below.alloc ?_ (by simp <;> omega) _)
      exact Below.refl _ _
  have hBs : W0.cell? ⟨w.heap.size + 3, 0, none⟩ = some (.string s) ∧ W0.cell? ⟨w.heap.size + 3, 1, none⟩ = some (.int .u8 ((46 : UInt8).toNat : Int)) := by
    rw [hW0, World.cell?_alloc_at _ _ _ _ (by simp), World.cell?_alloc_at _ _ _ _ (by simp)]
    exact ⟨rfl, rfl⟩
  rw [← hW0]
  clear hW0
  refine (wpIn_wide (n := 3)).1 ?_
  refine wpIn_rangeFunc_ownF rfl (by omega) (gf := 82) (lb := #[.pointer (some ⟨w.heap.size + 3, 0, none⟩)]) rfl trivial (enters_of Tryz.func82 (by kernel_rfl) rfl)
    (pieces1_stops (fun _ => True) (3 - 1) (by omega) (w.heap.size + 3) s 46 W0 (by omega) (fun _ _ => trivial) hBs.1 hBs.2) C.Two.trans (fun W l o o' hl h1 h2 h3 => C.Two.book (w := W0) (by omega) (by omega) W l o o' hl h1 h2 h3) (Below.refl _ _) (fun _ => rfl)
    (ninv s w) (nout s w)
    (fun pre A B' row hs hg hr => ⟨hs.1, hs.2.grown hg (fun r e => by have := (hr r e).1; omega)⟩)
    (fun cd pre A B' row hs hg hr => ⟨hs.1, hs.2.1, let ⟨n, h⟩ := hs.2.2; ⟨n, h.grown hg (fun r e => by have := (hr r e).1; omega)⟩⟩)
    ⟨by simp, hSt⟩
    (fun x => { tmps := #[.string s, undef, .pointer (some ⟨w.heap.size, 0, none⟩), .pointer (some ⟨w.heap.size + 1, 0, none⟩), .pointer (some ⟨w.heap.size + 1 + 1, 0, none⟩), undef, .string (x.1.g s), .string s, .agg #[.string s], .agg #[.string s, .int .u8 46], .agg #[.string s, .int .u8 46], .func (.func 82) #[] #[.pointer (some ⟨w.heap.size + 1 + 1 + 1, 0, none⟩)], .int .i64 x.1.i, .string (x.1.g s), undef, undef, undef, undef, undef, undef, undef], defers := [] }) ?assign ?body ?done ?stop
  case assign =>
    intro l x W K hK
    gi_wp2
    exact hK
  case body =>
    rintro l pre x W ⟨hall, hin⟩ hN
    go_light
    have hsm := ext_small s x.1.fr x.1.to
    have H := isNumber_any (x.1.g s) W (by show (s.extract x.1.fr x.1.to).size ≤ 1000; omega)
    obtain ⟨c0, c1, f0, f1⟩ := hin.cl
    have hpl : (pre.length : Int) ≤ 2000 := by omega
    cases hb : num (x.1.g s).data.toList
    · rw [hb] at H
      have H' := hide H
      have Hin := hide hin
      have Hb := hide hb
      clear H hin hb hN hSt hBs hz hsm hall
      gi_wp2_with fail
      refine ⟨trivial, (E.inR (unhide H')).mono ?_⟩
      rintro e w' ⟨rfl, rfl⟩
      gi_wp2
      exact ⟨KeepsOthers.setCell _ _ _, rfl, ⟨x, by simp, unhide Hb⟩, _, (unhide Hin).setR⟩
    · rw [hb] at H
      have H' := hide H
      have Hin := hide hin
      have Hall : Hid (∀ y ∈ pre ++ [x], num (y.1.g s).data.toList = true) := hide (fun y hy => by
        rcases List.mem_append.1 hy with h | h
        · exact hall y h
        · rw [List.mem_singleton.1 h]; exact hb)
      clear H hin hb hN hSt hBs hz hsm hall
      gi_wp2_with fail
      refine ⟨trivial, (E.inR (unhide H')).mono ?_⟩
      rintro e w' ⟨rfl, rfl⟩
      gi_wp2
      refine ⟨KeepsOthers.setCell _ _ _, ⟨Below.heap_setCell _ _ _ _ (by show w.heap.size + 3 ≠ w.heap.size + 1 + 1; omega), Below.heap_setCell _ _ _ _ (by show w.heap.size + 3 ≠ w.heap.size + 1 + 1; omega)⟩, unhide Hall, ?_⟩
      have := (unhide Hin).set (pre.length + 1)
      rw [List.length_append]
      exact this
  case done =>
    rintro D ys W hD hys ⟨hall, hin⟩ hK
    have hys : vals ys = pks s 46 := hys
    obtain ⟨c0, c1, f0, f1⟩ := hin.cl
    have HK := hide hK
    have Hin := hide hin
    clear hK hin hSt hBs
    go_wp2
    have hbb : decide ((1 : Int) < ys.length) = nums s.data.toList := by
      have he := pks_pcs s 46 (by decide)
      unfold nums
      rw [← he, ← hys, vals, List.length_map, List.length_map, Bool.eq_iff_iff, Bool.and_eq_true, List.all_eq_true]
      simp only [decide_eq_true_eq]
      constructor
      · intro h
        refine ⟨by omega, fun l hl => ?_⟩
        obtain ⟨x, hx, rfl⟩ := List.mem_map.1 hl
        obtain ⟨y, hy, rfl⟩ := List.mem_map.1 hx
        exact hall y hy
      · intro h
        have := h.1
        omega
    rw [hbb]
    refine finN (b := nums s.data.toList) ((Below.heap_setCell _ _ _ _ (by show D ≠ w.heap.size; omega)).trans (unhide HK)) (by omega) ((unhide Hin).bel.setCell (Nat.le_refl _) _) rfl ?_ fun V' hb => ⟨rfl, hb⟩
    have := heap_setCell_same W _ 0 _ _ (.bool (nums s.data.toList)) (unhide Hin).br
    simp [World.cell?, this]
  case stop =>
    rintro D cd pre W hD hpre ⟨rfl, hno, n, hin⟩ hK
    have hbb : nums s.data.toList = false := by
      have he := pks_pcs s 46 (by decide)
      obtain ⟨x, hx, hn⟩ := hno
      unfold nums
      rw [← he, Bool.and_eq_false_iff]
      right
      rw [List.all_eq_false]
      obtain ⟨t, ht⟩ := hpre
      exact ⟨_, List.mem_map.2 ⟨x.1, by rw [← ht]; exact List.mem_append_left _ (List.mem_map_of_mem hx), rfl⟩, by rw [hn]; simp⟩
    obtain ⟨c0, c1, f0, f1⟩ := hin.cl
    have HK := hide hK
    have Hin := hide hin
    clear hK hin hSt hBs hno hpre
    gi_wp2
    rw [hbb]
    exact finN (b := false) (unhide HK) (by omega) (unhide Hin).bel rfl c0 fun V' hb => ⟨rfl, hb⟩
theorem isType_any (s : ByteArray) (w : World) (hs : s.size ≤ 1000) :
    Calls Tryz.prog 25 #[.string s] w fun e w' => e = .returned (.bool (isTy s)) ∧ Below w.heap.size w w' := by
  have H1 := hide fun W => isWord_any s W hs
  have H2 := hide fun W => isNumbers_any s W hs
  have hl : s.data.toList.length = s.size := Array.length_toList
  unfold isTy tyL
  rw [hl]
  clear hl
  by_cases h : s.size ≤ 20
  · have h' : (s.size : Int) ≤ 20 := by omega
    rw [decide_eq_true h, Bool.true_and]
    generalize nums s.data.toList = b2 at *
    generalize word s.data.toList = b1 at *
    cases b1
    · go_enter Tryz.func25, Tryz.ntmps25
      go_wp2_with fail
      refine ((unhide H1) _).mono ?_
      rintro e w1 ⟨rfl, rfl⟩
      go_wp2_with fail
      refine ((unhide H2) _).mono ?_
      rintro e w2 ⟨rfl, hb⟩
      have HB := hide hb
      clear hb
      go_wp2
      go_ret
      exact ⟨rfl, unhide HB⟩
    · go_enter Tryz.func25, Tryz.ntmps25
      go_wp2_with fail
      refine ((unhide H1) _).mono ?_
      rintro e w1 ⟨rfl, rfl⟩
      go_wp2
      go_ret
      exact ⟨rfl, Below.refl _ _⟩
  · have h' : ¬ (s.size : Int) ≤ 20 := by omega
    rw [decide_eq_false h, Bool.false_and]
    go_enter Tryz.func25, Tryz.ntmps25
    go_wp2
    go_ret
    exact ⟨rfl, Below.refl _ _⟩
end Go.Proofs.YthfcnjcpanoldaaGreatDoor.D
