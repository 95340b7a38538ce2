/-
  What the law file's Cut gives of a name that lies in memory. Conditions: none.
-/
import Derived.Test.YthfcnjcpanoldaaGreatDoorDOpen
namespace Go.Proofs.YthfcnjcpanoldaaGreatDoor.D
open Go Go.RowKit Go.Shelf Dp
attribute [local go_sem] Oper.semAt_some

/-- what Cut leaves. -/
def CutPost (d : Nm) (W : World) (e : Ending) (V : World) : Prop := Below W.heap.size W V ∧ ∃ v, e = .returned v ∧ NOwn V v (cutN d)
theorem Owns.row {V V2 : World} {o : Obj} {ws us : List Value} {d : Nm} {base n : Nat} {sl : Value} (hO : Owns (V.alloc o) ws d) (h : V.ownsRow base 42 1 sl n us) (hg : (V.alloc o).grownBy V2 sl.ownBlock) : Owns V2 ws d := by
  refine hO.of fun b c hb => hg.block b (Array.getElem?_eq_some_iff.1 hb).1 (fun e => ?_)
  rcases h.2 with ⟨rfl, _⟩ | ⟨g, cap, cur, rfl, _, hgb, _⟩
  · cases e
  · cases e
    have := (Below.heap_alloc V o _ (Array.getElem?_eq_some_iff.1 hgb).1).trans hgb
    rw [hb] at this
    cases this
/-- what the inner loop keeps: the box of the parts, and they. -/
structure Kin (V : World) (sl : Value) (r : Rd) (W : World) : Prop where
  box : W.heap[V.heap.size]? = some (.cells #[sl] 42)
  own : W.ownsRow (V.heap.size + 1) 39 2 sl r.length (flatA r)
  bel : Below V.heap.size V W
theorem Kin.first (V : World) : Kin V (.slice none 0 0) [] (V.alloc (.cells #[.slice none 0 0] 42)) := ⟨World.alloc_heap_new _ _, World.ownsRow_nil _ _ _ _, (Below.refl _ _).alloc (Nat.le_refl _) _⟩
theorem Kin.lt {V W : World} {sl : Value} {r : Rd} (h : Kin V sl r W) : V.heap.size < W.heap.size := (Array.getElem?_eq_some_iff.1 h.box).1
theorem Kin.cl {V W : World} {sl : Value} {r : Rd} (h : Kin V sl r W) : W.cell? ⟨V.heap.size, 0, none⟩ = some sl ∧ W.frozen? ⟨V.heap.size, 0, none⟩ = false := by
  have h1 := h.box
  simp [World.cell?, World.frozen?, h1]
theorem Kin.below {V W W' : World} {sl : Value} {r : Rd} (h : Kin V sl r W) (hb : Below W.heap.size W W') : Kin V sl r W' := ⟨(hb.block _ h.lt).trans h.box, own_below h.own hb, h.bel.trans (hb.mono h.bel.size)⟩
theorem Kin.app {V W W' : World} {sl sl' : Value} {r r' : Rd} {o : Obj} (h : Kin V sl r W) (hg : (W.alloc o).grownBy W' sl.ownBlock) (ho : W'.ownsRow (V.heap.size + 1) 39 2 sl' r'.length (flatA r')) :
    Kin V sl' r' (W'.setCell ⟨V.heap.size, 0, none⟩ sl') ∧ W'.cell? ⟨V.heap.size, 0, none⟩ = some sl ∧ W'.frozen? ⟨V.heap.size, 0, none⟩ = false := by
  have hlt := h.lt
  have hgs := hg.size
  rw [World.size_alloc] at hgs
  have hk : ∀ j, j ≤ V.heap.size → W'.heap[j]? = W.heap[j]? := fun j hj => (hg.block j (by simp; omega) (fun e => by have := (h.own.lt j e.symm).1; omega)).trans (Below.heap_alloc _ _ _ (by omega))
  have hbx := (hk _ (Nat.le_refl _)).trans h.box
  refine ⟨⟨heap_setCell_same W' _ 0 _ _ _ hbx, ownsRow_setCell_below ho (by show V.heap.size < _; omega) _, ?_⟩, by simp [World.cell?, hbx], by simp [World.frozen?, hbx]⟩
  have hb : Below V.heap.size V W' := ⟨hg.os.trans h.bel.os, hg.tape.trans h.bel.tape, hg.output.trans h.bel.output, by have := h.bel.size; omega, fun j hj => (hk j (by omega)).trans (h.bel.block j hj)⟩
  exact hb.setCell (Nat.le_refl _) _

set_option linter.unusedSimpArgs false in
set_option maxRecDepth 100000 in
set_option maxHeartbeats 4000000 in
theorem cutN_any (d : Nm) (v : Value) (w : World) (hR : Nml w v d) (hB : Big d) :
    Calls Tryz.prog 11 #[v] w (CutPost d w) := by
  obtain ⟨ad, cap, rfl, hcap, hx⟩ := hR
  have HX := hide hx
  have HBg := hide hB
  have HO0 : Hid (w.ownsRow w.heap.size 42 1 (.slice none 0 0) 0 []) := hide (World.ownsRow_nil _ _ _ _)
  clear hx hB hcap
  go_enter Tryz.func11, Tryz.ntmps11
  go_wp2
  go_loopw [3, 4] (fun sl y wr => ∃ (i : Nat) (us : List Value), i ≤ d.length ∧ i ≤ 10 ∧ y = .int .i64 (i : Int) ∧ Hid (wr.ownsRow w.heap.size 42 1 sl i us) ∧ Hid (Owns wr us ((d.take i).map cutR)) ∧ Hid (Below w.heap.size w wr))
    (fun _ y _ => 10 - (intOf y).toNat)
  case atStart => exact ⟨0, [], Nat.zero_le _, by omega, rfl, HO0, hide (Owns.nil _), hide (Below.refl _ _)⟩
  case round =>
    obtain ⟨i, us, hi, hi10, rfl, ho, hus, hb⟩ := hrel
    clear HO0
    have hdone : Hid (∀ j : Nat, i = d.length ∨ i = 10 → (d.take i).map cutR = cutN d) := hide (fun _ h => by
      unfold cutN
      rcases h with h | h
      · rw [List.take_of_length_le (by omega)]
        by_cases h2 : d.length ≤ 10
        · rw [List.take_of_length_le h2]
        · omega
      · rw [h])
    by_cases hlt : i < d.length
    · have hlt' : (i : Int) < d.length := by omega
      by_cases hi2 : i < 10
      · have hi2' : (i : Int) < 10 := by omega
        obtain ⟨gg, off, rfl, hcells⟩ := (unhide HX).resolve_left (fun e => by rw [e] at hlt; cases hlt)
        obtain ⟨u, x0, hru⟩ := hcells i d[i] (List.getElem?_eq_getElem hlt)
        have y0 := below_cell (unhide hb) _ _ x0
        have hru' := hru.of (below_cell (unhide hb))
        have hbr := (unhide HBg).2 d[i] (List.getElem_mem hlt)
        have Hta : Hid ((d.take (i + 1)).map cutR = (d.take i).map cutR ++ [cutR d[i]]) := hide (by rw [List.take_succ_eq_append_getElem hlt, List.map_append]; rfl)
        clear x0 hcells hru hdone
        generalize d[i] = r at *
        generalize (d.take i).map cutR = ds at *
        obtain ⟨ua, uc, rfl, _, hrx⟩ := hru'
        have HRX := hide hrx
        have HBR := hide hbr
        have K0 := hide (Kin.first wr)
        have Y0 := hide y0
        clear hrx hbr y0
        go_wp2
        go_loopw [6] (fun y V => ∃ (k : Nat) (sl : Value), k ≤ r.length ∧ k ≤ 5 ∧ y = .int .i64 (k : Int) ∧ Hid (Kin wr sl ((r.take k).map cutA) V))
          (fun y _ => 5 - (intOf y).toNat)
        case atStart => exact ⟨0, .slice none 0 0, Nat.zero_le _, by omega, rfl, K0⟩
        case round =>
          obtain ⟨k, sl, hk, hk5, rfl, hK⟩ := hrel
          rename World => V
          clear K0
          have y1 := below_cell ((unhide hK).bel) _ _ (unhide Y0)
          by_cases hkl : k < r.length
          · have hkl' : (k : Int) < r.length := by omega
            by_cases hk2 : k < 5
            · have hk2' : (k : Int) < 5 := by omega
              obtain ⟨g2, off2, rfl, hc2⟩ := (unhide HRX).resolve_left (fun e => by rw [e] at hkl; cases hkl)
              obtain ⟨a0, a1⟩ := hc2 k r[k] (List.getElem?_eq_getElem hkl)
              have z0 := below_cell ((unhide hK).bel) _ _ a0
              have z1 := below_cell ((unhide hK).bel) _ _ a1
              have hbz := (unhide HBR).2 r[k] (List.getElem_mem hkl)
              have Htr : Hid ((r.take (k + 1)).map cutA = (r.take k).map cutA ++ [cutA r[k]]) := hide (by rw [List.take_succ_eq_append_getElem hkl, List.map_append]; rfl)
              have hpl : ((r.take k).map cutA).length = k := by rw [List.length_map, List.length_take]; omega
              clear a0 a1 hc2
              generalize r[k] = x at *
              generalize (r.take k).map cutA = rs at *
              obtain ⟨xt, xv⟩ := x
              dsimp only at z0 z1 hbz
              obtain ⟨hbt, hbv⟩ := hbz
              unfold maxLen at hbt hbv
              have et : xt.extract 0 (min (xt.size : Int) 21).toNat = xt.extract 0 21 := ext_min xt 21
              have ev : xv.extract 0 (min (xv.size : Int) 61).toNat = xv.extract 0 61 := ext_min xv 61
              have hca : cutA (xt, xv) = (xt.extract 0 21, xv.extract 0 61) := rfl
              rw [hca] at Htr
              generalize xt.extract 0 21 = ct at *
              generalize xv.extract 0 61 = cv at *
              obtain ⟨i0, hi0, hz0, hz1, hz2⟩ := infoA
              subst hpl
              obtain ⟨cB, fB⟩ := (unhide hK).cl
              have hltB := (unhide hK).lt
              clear hca HRX HBR
              go_wp2
              obtain ⟨X, hX⟩ : ∃ X, X = V.alloc (.cells #[.string xt, .string xv] 39) := ⟨_, rfl⟩
              rw [← hX]
              have hbx : Below V.heap.size V X := by rw [hX]; exact (Below.refl _ _).alloc (Nat.le_refl _) _
              have hcx : X.cell? ⟨V.heap.size, 0, none⟩ = some (.string xt) ∧ X.cell? ⟨V.heap.size, 1, none⟩ = some (.string xv) := by
                rw [hX, World.cell?_alloc_at _ _ _ _ rfl, World.cell?_alloc_at _ _ _ _ rfl]
                exact ⟨rfl, rfl⟩
              have hXh : X.heap[V.heap.size]? = some (.cells #[.string xt, .string xv] 39) := by rw [hX]; exact World.alloc_heap_new _ _
              refine wp_region_held (S := fun w' => w'.cell? ⟨V.heap.size, 0, none⟩ = some (.string xt) ∧ w'.cell? ⟨V.heap.size, 1, none⟩ = some (.string xv)) (by kernel_rfl) ?_
              change wpAnyH _ _ _ _ _ 21 #[false, false, false, false, false, false, false, false, false, false, false, false, false, false, false, false, false, false, false, false, false] _ X.drew
              obtain ⟨X0, hX0⟩ : ∃ X0, X0 = X.drew := ⟨_, rfl⟩
              have KX : Hid (Kin wr sl rs X0) := hide (by rw [hX0]; exact ((unhide hK).below hbx).below (Below.refl _ _).drew)
              have hS : X0.cell? ⟨V.heap.size, 0, none⟩ = some (.string xt) ∧ X0.cell? ⟨V.heap.size, 1, none⟩ = some (.string xv) := by rw [hX0]; exact hcx
              have hS2 : (X0.alloc (.cells #[.string ct, .string cv] 39)).cell? ⟨V.heap.size, 0, none⟩ = some (.string xt) ∧ (X0.alloc (.cells #[.string ct, .string cv] 39)).cell? ⟨V.heap.size, 1, none⟩ = some (.string xv) := ⟨below_cell ((Below.refl _ _).alloc (Nat.le_refl _) _) _ _ hS.1, below_cell ((Below.refl _ _).alloc (Nat.le_refl _) _) _ _ hS.2⟩
              have cX := (unhide KX).cl.1
              have cY : (X0.alloc (.cells #[.string ct, .string cv] 39)).cell? ⟨wr.heap.size, 0, none⟩ = some sl := below_cell ((Below.refl _ _).alloc (Nat.le_refl _) _) _ _ cX
              have HN := hide (C.news X0 [.string ct, .string cv] 39)
              have HO := hide ((unhide KX).own.alloc (.cells #[.string ct, .string cv] 39))
              have hzX := (unhide KX).lt
              have Hfar : Hid (∀ q, sl.ownBlock = some q → q < V.heap.size) := hide (fun q hq => ((unhide hK).own.lt q hq).2)
              rw [← hX0]
              clear hX0 hX hbx hcx hXh cB fB
              refine wpAnyH_take (i := 0) (v := .pointer (some ⟨wr.heap.size, 0, none⟩)) rfl (by kernel_rfl) (by kernel_rfl) (by kernel_rfl) (fun _ _ _ h => h) (Or.inl ⟨by kernel_rfl, by intro w1 hS1; obtain ⟨s0, s1⟩ := hS1; go_simp; try rfl⟩) hS ?_
              simp only [Act.put, List.setIfInBounds_toArray, List.set_cons_zero, List.set_cons_succ, List.getElem_toArray, List.getElem_cons_zero, List.getElem_cons_succ]
              refine wpAnyH_take (i := 2) (v := .pointer (some ⟨V.heap.size, 0, none⟩)) rfl (by kernel_rfl) (by kernel_rfl) (by kernel_rfl) (fun _ _ _ h => h) (Or.inl ⟨by kernel_rfl, by intro w1 hS1; obtain ⟨s0, s1⟩ := hS1; go_simp; try rfl⟩) hS ?_
              simp only [Act.put, List.setIfInBounds_toArray, List.set_cons_zero, List.set_cons_succ, List.getElem_toArray, List.getElem_cons_zero, List.getElem_cons_succ]
              refine wpAnyH_take (i := 3) (v := .string xt) rfl (by kernel_rfl) (by kernel_rfl) (by kernel_rfl) (fun _ _ _ h => h) (Or.inl ⟨by kernel_rfl, by intro w1 hS1; obtain ⟨s0, s1⟩ := hS1; go_simp; try rfl⟩) hS ?_
              simp only [Act.put, List.setIfInBounds_toArray, List.set_cons_zero, List.set_cons_succ, List.getElem_toArray, List.getElem_cons_zero, List.getElem_cons_succ]
              refine wpAnyH_take (i := 4) (v := .pointer (some ⟨V.heap.size, 0, none⟩)) rfl (by kernel_rfl) (by kernel_rfl) (by kernel_rfl) (fun _ _ _ h => h) (Or.inl ⟨by kernel_rfl, by intro w1 hS1; obtain ⟨s0, s1⟩ := hS1; go_simp; try rfl⟩) hS ?_
              simp only [Act.put, List.setIfInBounds_toArray, List.set_cons_zero, List.set_cons_succ, List.getElem_toArray, List.getElem_cons_zero, List.getElem_cons_succ]
              refine wpAnyH_take (i := 5) (v := .string xt) rfl (by kernel_rfl) (by kernel_rfl) (by kernel_rfl) (fun _ _ _ h => h) (Or.inl ⟨by kernel_rfl, by intro w1 hS1; obtain ⟨s0, s1⟩ := hS1; go_simp; try rfl⟩) hS ?_
              simp only [Act.put, List.setIfInBounds_toArray, List.set_cons_zero, List.set_cons_succ, List.getElem_toArray, List.getElem_cons_zero, List.getElem_cons_succ]
              refine wpAnyH_take (i := 6) (v := .int .i64 xt.size) rfl (by kernel_rfl) (by kernel_rfl) (by kernel_rfl) (fun _ _ _ h => h) (Or.inl ⟨by kernel_rfl, by intro w1 hS1; obtain ⟨s0, s1⟩ := hS1; go_simp; try rfl⟩) hS ?_
              simp only [Act.put, List.setIfInBounds_toArray, List.set_cons_zero, List.set_cons_succ, List.getElem_toArray, List.getElem_cons_zero, List.getElem_cons_succ]
              refine wpAnyH_take (i := 7) (v := .int .i64 (min (xt.size : Int) 21)) rfl (by kernel_rfl) (by kernel_rfl) (by kernel_rfl) (fun _ _ _ h => h) (Or.inl ⟨by kernel_rfl, by intro w1 hS1; obtain ⟨s0, s1⟩ := hS1; go_simp; try rfl⟩) hS ?_
              simp only [Act.put, List.setIfInBounds_toArray, List.set_cons_zero, List.set_cons_succ, List.getElem_toArray, List.getElem_cons_zero, List.getElem_cons_succ]
              refine wpAnyH_take (i := 8) (v := .string ct) rfl (by kernel_rfl) (by kernel_rfl) (by kernel_rfl) (fun _ _ _ h => h) (Or.inl ⟨by kernel_rfl, by intro w1 hS1; obtain ⟨s0, s1⟩ := hS1; go_simp; intro h; exact absurd (h (by omega)) (by omega)⟩) hS ?_
              simp only [Act.put, List.setIfInBounds_toArray, List.set_cons_zero, List.set_cons_succ, List.getElem_toArray, List.getElem_cons_zero, List.getElem_cons_succ]
              refine wpAnyH_take (i := 9) (v := .pointer (some ⟨V.heap.size, 1, none⟩)) rfl (by kernel_rfl) (by kernel_rfl) (by kernel_rfl) (fun _ _ _ h => h) (Or.inl ⟨by kernel_rfl, by intro w1 hS1; obtain ⟨s0, s1⟩ := hS1; go_simp; try rfl⟩) hS ?_
              simp only [Act.put, List.setIfInBounds_toArray, List.set_cons_zero, List.set_cons_succ, List.getElem_toArray, List.getElem_cons_zero, List.getElem_cons_succ]
              refine wpAnyH_take (i := 10) (v := .string xv) rfl (by kernel_rfl) (by kernel_rfl) (by kernel_rfl) (fun _ _ _ h => h) (Or.inl ⟨by kernel_rfl, by intro w1 hS1; obtain ⟨s0, s1⟩ := hS1; go_simp; try rfl⟩) hS ?_
              simp only [Act.put, List.setIfInBounds_toArray, List.set_cons_zero, List.set_cons_succ, List.getElem_toArray, List.getElem_cons_zero, List.getElem_cons_succ]
              refine wpAnyH_take (i := 11) (v := .pointer (some ⟨V.heap.size, 1, none⟩)) rfl (by kernel_rfl) (by kernel_rfl) (by kernel_rfl) (fun _ _ _ h => h) (Or.inl ⟨by kernel_rfl, by intro w1 hS1; obtain ⟨s0, s1⟩ := hS1; go_simp; try rfl⟩) hS ?_
              simp only [Act.put, List.setIfInBounds_toArray, List.set_cons_zero, List.set_cons_succ, List.getElem_toArray, List.getElem_cons_zero, List.getElem_cons_succ]
              refine wpAnyH_take (i := 12) (v := .string xv) rfl (by kernel_rfl) (by kernel_rfl) (by kernel_rfl) (fun _ _ _ h => h) (Or.inl ⟨by kernel_rfl, by intro w1 hS1; obtain ⟨s0, s1⟩ := hS1; go_simp; try rfl⟩) hS ?_
              simp only [Act.put, List.setIfInBounds_toArray, List.set_cons_zero, List.set_cons_succ, List.getElem_toArray, List.getElem_cons_zero, List.getElem_cons_succ]
              refine wpAnyH_take (i := 13) (v := .int .i64 xv.size) rfl (by kernel_rfl) (by kernel_rfl) (by kernel_rfl) (fun _ _ _ h => h) (Or.inl ⟨by kernel_rfl, by intro w1 hS1; obtain ⟨s0, s1⟩ := hS1; go_simp; try rfl⟩) hS ?_
              simp only [Act.put, List.setIfInBounds_toArray, List.set_cons_zero, List.set_cons_succ, List.getElem_toArray, List.getElem_cons_zero, List.getElem_cons_succ]
              refine wpAnyH_take (i := 14) (v := .int .i64 (min (xv.size : Int) 61)) rfl (by kernel_rfl) (by kernel_rfl) (by kernel_rfl) (fun _ _ _ h => h) (Or.inl ⟨by kernel_rfl, by intro w1 hS1; obtain ⟨s0, s1⟩ := hS1; go_simp; try rfl⟩) hS ?_
              simp only [Act.put, List.setIfInBounds_toArray, List.set_cons_zero, List.set_cons_succ, List.getElem_toArray, List.getElem_cons_zero, List.getElem_cons_succ]
              refine wpAnyH_take (i := 15) (v := .string cv) rfl (by kernel_rfl) (by kernel_rfl) (by kernel_rfl) (fun _ _ _ h => h) (Or.inl ⟨by kernel_rfl, by intro w1 hS1; obtain ⟨s0, s1⟩ := hS1; go_simp; intro h; exact absurd (h (by omega)) (by omega)⟩) hS ?_
              simp only [Act.put, List.setIfInBounds_toArray, List.set_cons_zero, List.set_cons_succ, List.getElem_toArray, List.getElem_cons_zero, List.getElem_cons_succ]
              refine wpAnyH_take (i := 16) (v := .agg #[.string ct, .string cv]) rfl (by kernel_rfl) (by kernel_rfl) (by kernel_rfl) (fun _ _ _ h => h) (Or.inl ⟨by kernel_rfl, by intro w1 hS1; obtain ⟨s0, s1⟩ := hS1; go_simp; try rfl⟩) hS ?_
              simp only [Act.put, List.setIfInBounds_toArray, List.set_cons_zero, List.set_cons_succ, List.getElem_toArray, List.getElem_cons_zero, List.getElem_cons_succ]
              refine wpAnyH_ready (rs := [1, 17]) (by kernel_rfl) (by simp) ?_
              refine AllReadyH.cons rfl (fun K hK => ?_) (AllReadyH.cons rfl (fun K hK => ?_) AllReadyH.nil)
              · rw [if_pos (by kernel_rfl)]
                go_simp
                refine hK.out _ _ hS (fun _ => ?_)
                clear hK K
                simp only [Act.put, List.setIfInBounds_toArray, List.set_cons_zero, List.set_cons_succ, List.getElem_toArray, List.getElem_cons_zero, List.getElem_cons_succ]
                refine wpAnyH_ready (rs := [17]) (by kernel_rfl) (by simp) ?_
                refine AllReadyH.cons rfl (fun K hK => ?_) AllReadyH.nil
                rw [if_pos (by kernel_rfl)]
                go_simp
                refine hK.out _ _ hS2 (fun _ => ?_)
                clear hK K
                simp only [Act.put, List.setIfInBounds_toArray, List.set_cons_zero, List.set_cons_succ, List.getElem_toArray, List.getElem_cons_zero, List.getElem_cons_succ]
                refine wpAnyH_ready (rs := [18]) (by kernel_rfl) (by simp) ?_
                refine AllReadyH.cons rfl (fun K hK => ?_) AllReadyH.nil
                rw [if_pos (by kernel_rfl)]
                refine wp_append_lies _ (.tmp 42) (.tmp 58) 40 rfl (wr.heap.size + 1) 39 i0 (.agg #[.string ⟨#[]⟩, .string ⟨#[]⟩]) 2 32 Tryz.underlying40 hi0 hz0 hz1 hz2 rfl (by omega) sl rs.length (flatA rs) rfl (unhide HO) ⟨X0.heap.size, 0, none⟩ 1 1 [.string ct, .string cv] rfl rfl (unhide HN) (by simp [Value.oneCell']) (by omega) (by unfold maxLen; omega) (by omega) (by simp; omega) (X0.heap.size + 1) (by simp) ?_
                intro g5 cp w4 hown hgrow hat hglt
                have hown' : w4.ownsRow (wr.heap.size + 1) 39 2 (.slice (some ⟨g5, 0, none⟩) (rs.length + 1) cp) (rs ++ [(ct, cv)]).length (flatA (rs ++ [(ct, cv)])) := by
                  rw [flatA_snoc, List.length_append]
                  exact hown
                obtain ⟨p1, d1, d2⟩ := (unhide KX).app hgrow hown'
                have P1 := hide p1
                have hf : ∀ j, w4.cell? ⟨V.heap.size, j, none⟩ = (X0.alloc (.cells #[.string ct, .string cv] 39)).cell? ⟨V.heap.size, j, none⟩ := fun j => hgrow.cell_far _ (by have := lt_cell hS2.1; exact this) (fun e => absurd ((unhide Hfar) V.heap.size e.symm) (Nat.lt_irrefl _))
                have hS4 : w4.cell? ⟨V.heap.size, 0, none⟩ = some (.string xt) ∧ w4.cell? ⟨V.heap.size, 1, none⟩ = some (.string xv) := ⟨(hf 0).trans hS2.1, (hf 1).trans hS2.2⟩
                have hS5 : (w4.setCell ⟨wr.heap.size, 0, none⟩ (.slice (some ⟨g5, 0, none⟩) (rs.length + 1) cp)).cell? ⟨V.heap.size, 0, none⟩ = some (.string xt) ∧ (w4.setCell ⟨wr.heap.size, 0, none⟩ (.slice (some ⟨g5, 0, none⟩) (rs.length + 1) cp)).cell? ⟨V.heap.size, 1, none⟩ = some (.string xv) := by
                  have h9 : ∀ j, (w4.setCell ⟨wr.heap.size, 0, none⟩ (.slice (some ⟨g5, 0, none⟩) (rs.length + 1) cp)).cell? ⟨V.heap.size, j, none⟩ = w4.cell? ⟨V.heap.size, j, none⟩ := fun j => World.cell?_setCell_far _ _ _ _ (by show wr.heap.size ≠ V.heap.size; omega)
                  exact ⟨(h9 0).trans hS4.1, (h9 1).trans hS4.2⟩
                clear hown hown' hgrow hat hglt p1 hf
                refine hK.out _ _ hS4 (fun _ => ?_)
                clear hK K
                simp only [Act.put, List.setIfInBounds_toArray, List.set_cons_zero, List.set_cons_succ, List.getElem_toArray, List.getElem_cons_zero, List.getElem_cons_succ]
                refine wpAnyH_take (i := 19) (v := .pointer (some ⟨wr.heap.size, 0, none⟩)) rfl (by kernel_rfl) (by kernel_rfl) (by kernel_rfl) (fun _ _ _ h => h) (Or.inl ⟨by kernel_rfl, by intro w1 hS1; obtain ⟨s0, s1⟩ := hS1; go_simp; try rfl⟩) hS4 ?_
                simp only [Act.put, List.setIfInBounds_toArray, List.set_cons_zero, List.set_cons_succ, List.getElem_toArray, List.getElem_cons_zero, List.getElem_cons_succ]
                refine wpAnyH_ready (rs := [20]) (by kernel_rfl) (by simp) ?_
                refine AllReadyH.cons rfl (fun K hK => ?_) AllReadyH.nil
                rw [if_pos (by kernel_rfl)]
                go_simp
                refine hK.out _ _ hS5 (fun _ => ?_)
                clear hK K
                simp only [Act.put, List.setIfInBounds_toArray, List.set_cons_zero, List.set_cons_succ, List.getElem_toArray, List.getElem_cons_zero, List.getElem_cons_succ]
                refine wpAnyH_done (by kernel_rfl) ?_ _
                go_wp2
                go_roundw
                case rel => exact ⟨rs.length + 1, _, by omega, by omega, by simp, by rw [unhide Htr]; exact P1⟩
                case measure => simp [intOf]; omega
              · rw [if_pos (by kernel_rfl)]
                go_simp
                refine hK.out _ _ hS2 (fun _ => ?_)
                clear hK K
                simp only [Act.put, List.setIfInBounds_toArray, List.set_cons_zero, List.set_cons_succ, List.getElem_toArray, List.getElem_cons_zero, List.getElem_cons_succ]
                refine wpAnyH_ready (rs := [1]) (by kernel_rfl) (by simp) ?_
                refine AllReadyH.cons rfl (fun K hK => ?_) AllReadyH.nil
                rw [if_pos (by kernel_rfl)]
                go_simp
                refine hK.out _ _ hS2 (fun _ => ?_)
                clear hK K
                simp only [Act.put, List.setIfInBounds_toArray, List.set_cons_zero, List.set_cons_succ, List.getElem_toArray, List.getElem_cons_zero, List.getElem_cons_succ]
                refine wpAnyH_ready (rs := [18]) (by kernel_rfl) (by simp) ?_
                refine AllReadyH.cons rfl (fun K hK => ?_) AllReadyH.nil
                rw [if_pos (by kernel_rfl)]
                refine wp_append_lies _ (.tmp 42) (.tmp 58) 40 rfl (wr.heap.size + 1) 39 i0 (.agg #[.string ⟨#[]⟩, .string ⟨#[]⟩]) 2 32 Tryz.underlying40 hi0 hz0 hz1 hz2 rfl (by omega) sl rs.length (flatA rs) rfl (unhide HO) ⟨X0.heap.size, 0, none⟩ 1 1 [.string ct, .string cv] rfl rfl (unhide HN) (by simp [Value.oneCell']) (by omega) (by unfold maxLen; omega) (by omega) (by simp; omega) (X0.heap.size + 1) (by simp) ?_
                intro g5 cp w4 hown hgrow hat hglt
                have hown' : w4.ownsRow (wr.heap.size + 1) 39 2 (.slice (some ⟨g5, 0, none⟩) (rs.length + 1) cp) (rs ++ [(ct, cv)]).length (flatA (rs ++ [(ct, cv)])) := by
                  rw [flatA_snoc, List.length_append]
                  exact hown
                obtain ⟨p1, d1, d2⟩ := (unhide KX).app hgrow hown'
                have P1 := hide p1
                have hf : ∀ j, w4.cell? ⟨V.heap.size, j, none⟩ = (X0.alloc (.cells #[.string ct, .string cv] 39)).cell? ⟨V.heap.size, j, none⟩ := fun j => hgrow.cell_far _ (by have := lt_cell hS2.1; exact this) (fun e => absurd ((unhide Hfar) V.heap.size e.symm) (Nat.lt_irrefl _))
                have hS4 : w4.cell? ⟨V.heap.size, 0, none⟩ = some (.string xt) ∧ w4.cell? ⟨V.heap.size, 1, none⟩ = some (.string xv) := ⟨(hf 0).trans hS2.1, (hf 1).trans hS2.2⟩
                have hS5 : (w4.setCell ⟨wr.heap.size, 0, none⟩ (.slice (some ⟨g5, 0, none⟩) (rs.length + 1) cp)).cell? ⟨V.heap.size, 0, none⟩ = some (.string xt) ∧ (w4.setCell ⟨wr.heap.size, 0, none⟩ (.slice (some ⟨g5, 0, none⟩) (rs.length + 1) cp)).cell? ⟨V.heap.size, 1, none⟩ = some (.string xv) := by
                  have h9 : ∀ j, (w4.setCell ⟨wr.heap.size, 0, none⟩ (.slice (some ⟨g5, 0, none⟩) (rs.length + 1) cp)).cell? ⟨V.heap.size, j, none⟩ = w4.cell? ⟨V.heap.size, j, none⟩ := fun j => World.cell?_setCell_far _ _ _ _ (by show wr.heap.size ≠ V.heap.size; omega)
                  exact ⟨(h9 0).trans hS4.1, (h9 1).trans hS4.2⟩
                clear hown hown' hgrow hat hglt p1 hf
                refine hK.out _ _ hS4 (fun _ => ?_)
                clear hK K
                simp only [Act.put, List.setIfInBounds_toArray, List.set_cons_zero, List.set_cons_succ, List.getElem_toArray, List.getElem_cons_zero, List.getElem_cons_succ]
                refine wpAnyH_take (i := 19) (v := .pointer (some ⟨wr.heap.size, 0, none⟩)) rfl (by kernel_rfl) (by kernel_rfl) (by kernel_rfl) (fun _ _ _ h => h) (Or.inl ⟨by kernel_rfl, by intro w1 hS1; obtain ⟨s0, s1⟩ := hS1; go_simp; try rfl⟩) hS4 ?_
                simp only [Act.put, List.setIfInBounds_toArray, List.set_cons_zero, List.set_cons_succ, List.getElem_toArray, List.getElem_cons_zero, List.getElem_cons_succ]
                refine wpAnyH_ready (rs := [20]) (by kernel_rfl) (by simp) ?_
                refine AllReadyH.cons rfl (fun K hK => ?_) AllReadyH.nil
                rw [if_pos (by kernel_rfl)]
                go_simp
                refine hK.out _ _ hS5 (fun _ => ?_)
                clear hK K
                simp only [Act.put, List.setIfInBounds_toArray, List.set_cons_zero, List.set_cons_succ, List.getElem_toArray, List.getElem_cons_zero, List.getElem_cons_succ]
                refine wpAnyH_done (by kernel_rfl) ?_ _
                go_wp2
                go_roundw
                case rel => exact ⟨rs.length + 1, _, by omega, by omega, by simp, by rw [unhide Htr]; exact P1⟩
                case measure => simp [intOf]; omega
            · have hk2' : ¬ (k : Int) < 5 := by omega
              have hrs : (r.take k).map cutA = cutR r := by
                unfold cutR
                rw [show k = 5 by omega]
              rw [hrs] at hK
              obtain ⟨i0, hi0, hz0, hz1, hz2⟩ := infoR
              obtain ⟨cB, fB⟩ := (unhide hK).cl
              have hOw : Own V sl (cutR r) := ⟨_, (unhide hK).own⟩
              obtain ⟨sa, sc, rfl⟩ := hOw.form
              generalize (cutR r).length = cl at *
              have HOw := hide (hOw.below ((Below.refl _ _).alloc (Nat.le_refl _) (.cells #[.slice sa cl sc] 42)))
              have Hws := hide (((unhide hus).below (unhide hK).bel).below ((Below.refl _ _).alloc (Nat.le_refl _) (.cells #[.slice sa cl sc] 42)))
              have HoV := hide (own_below (unhide ho) (unhide hK).bel)
              have HO := hide ((unhide HoV).alloc (.cells #[.slice sa cl sc] 42))
              have HN := hide (C.news V [.slice sa cl sc] 42)
              have hz1' := (unhide hb).size
              have hz2' := (unhide hK).bel.size
              clear hrs hOw HRX HBR
              go_wp2_with (at_builtin; refine wpList_append_lies _ rfl (.tmp 61) (.tmp 63) 22 rfl w.heap.size 42 i0 (.agg #[.slice none 0 0]) 1 24 Tryz.underlying22 hi0 hz0 hz1 hz2 rfl (by omega) u3 i us rfl (unhide HO) ⟨V.heap.size, 0, none⟩ 1 1 [.slice sa cl sc] rfl rfl (unhide HN) (by simp [Value.oneCell']) (by omega) (by unfold maxLen; omega) (by omega) (by simp; omega) (V.heap.size + 1) (by simp) ?_; intro g1 cp w4 hown hgrow hat hglt; have HBB := hide (grown_below (unhide hb) (Nat.le_refl _) (Nat.le_refl _) (unhide ho) (unhide hK).bel hgrow); have HOS := hide (Owns.row ((unhide Hws).snoc (unhide HOw)) (unhide HoV) hgrow); replace hown := hide hown; clear hgrow hat hglt)
              go_roundw
              case rel => exact ⟨i + 1, _, by omega, by omega, by simp, hown, by rw [unhide Hta]; exact HOS, HBB⟩
              case measure => simp [intOf]; omega
          · have hkl' : ¬ (k : Int) < r.length := by omega
            have hrs : (r.take k).map cutA = cutR r := by
              unfold cutR
              rw [List.take_of_length_le (by omega), List.take_of_length_le (by omega)]
            rw [hrs] at hK
            obtain ⟨i0, hi0, hz0, hz1, hz2⟩ := infoR
            obtain ⟨cB, fB⟩ := (unhide hK).cl
            have hOw : Own V sl (cutR r) := ⟨_, (unhide hK).own⟩
            obtain ⟨sa, sc, rfl⟩ := hOw.form
            generalize (cutR r).length = cl at *
            have HOw := hide (hOw.below ((Below.refl _ _).alloc (Nat.le_refl _) (.cells #[.slice sa cl sc] 42)))
            have Hws := hide (((unhide hus).below (unhide hK).bel).below ((Below.refl _ _).alloc (Nat.le_refl _) (.cells #[.slice sa cl sc] 42)))
            have HoV := hide (own_below (unhide ho) (unhide hK).bel)
            have HO := hide ((unhide HoV).alloc (.cells #[.slice sa cl sc] 42))
            have HN := hide (C.news V [.slice sa cl sc] 42)
            have hz1' := (unhide hb).size
            have hz2' := (unhide hK).bel.size
            clear hrs hOw HRX HBR
            go_wp2_with (at_builtin; refine wpList_append_lies _ rfl (.tmp 61) (.tmp 63) 22 rfl w.heap.size 42 i0 (.agg #[.slice none 0 0]) 1 24 Tryz.underlying22 hi0 hz0 hz1 hz2 rfl (by omega) u3 i us rfl (unhide HO) ⟨V.heap.size, 0, none⟩ 1 1 [.slice sa cl sc] rfl rfl (unhide HN) (by simp [Value.oneCell']) (by omega) (by unfold maxLen; omega) (by omega) (by simp; omega) (V.heap.size + 1) (by simp) ?_; intro g1 cp w4 hown hgrow hat hglt; have HBB := hide (grown_below (unhide hb) (Nat.le_refl _) (Nat.le_refl _) (unhide ho) (unhide hK).bel hgrow); have HOS := hide (Owns.row ((unhide Hws).snoc (unhide HOw)) (unhide HoV) hgrow); replace hown := hide hown; clear hgrow hat hglt)
            go_roundw
            case rel => exact ⟨i + 1, _, by omega, by omega, by simp, hown, by rw [unhide Hta]; exact HOS, HBB⟩
            case measure => simp [intOf]; omega
      · have hi2' : ¬ (i : Int) < 10 := by omega
        have e := (unhide hdone) 0 (.inr (by omega))
        have hus' := unhide hus
        rw [e] at hus'
        have Hus := hide hus'
        clear e hus' hus hdone HX HBg
        obtain ⟨oa, oc, hof⟩ : ∃ oa oc, u3 = .slice oa i oc := by
          rcases (unhide ho).2 with ⟨e, h0⟩ | ⟨g, cap, cur, e, _⟩
          · exact ⟨none, 0, by rw [e, h0]⟩
          · exact ⟨_, _, e⟩
        subst hof
        go_wp2
        go_ret
        exact ⟨unhide hb, _, rfl, us, _, by rw [cutN_len, show min d.length 10 = i by omega]; exact unhide ho, unhide Hus⟩
    · have hlt' : ¬ (i : Int) < d.length := by omega
      have e := (unhide hdone) 0 (.inl (by omega))
      have hus' := unhide hus
      rw [e] at hus'
      have Hus := hide hus'
      clear e hus' hus hdone HX HBg
      obtain ⟨oa, oc, hof⟩ : ∃ oa oc, u3 = .slice oa i oc := by
        rcases (unhide ho).2 with ⟨e, h0⟩ | ⟨g, cap, cur, e, _⟩
        · exact ⟨none, 0, by rw [e, h0]⟩
        · exact ⟨_, _, e⟩
      subst hof
      go_wp2
      go_ret
      exact ⟨unhide hb, _, rfl, us, _, by rw [cutN_len, show min d.length 10 = i by omega]; exact unhide ho, unhide Hus⟩
/-- whatever is handed in is cut to a name that is not large. -/
theorem cut_ex (d : Nm) (hB : Big d) : ∃ X : Nm, Sm X ∧ X.length ≤ 10 ∧ ∀ v W, Nml W v d → Calls Tryz.prog 11 #[v] W fun e V => Below W.heap.size W V ∧ ∃ v', e = .returned v' ∧ NOwn V v' X :=
  ⟨cutN d, (cutN_sm d).1, (cutN_sm d).2, fun v W h => cutN_any d v W h hB⟩
/-- nil, or where it lies. -/
theorem NOwn.cases {V : World} {v : Value} {X : Nm} (h : NOwn V v X) : (X = [] ∧ v = .slice none 0 0) ∨ ∃ g cap, v = .slice (some ⟨g, 0, none⟩) X.length cap ∧ X.length ≤ cap := by
  obtain ⟨us, base, ho, hu⟩ := h
  rcases ho.2 with ⟨e, h0⟩ | ⟨g, cap, cur, e, hg, hc, h1, h2, h3, h4⟩
  · exact .inl ⟨List.length_eq_zero_iff.1 h0, e⟩
  · exact .inr ⟨g, cap, e, h1⟩
theorem NOwn.below {V V' : World} {v : Value} {X : Nm} (h : NOwn V v X) (hb : Below V.heap.size V V') : NOwn V' v X := by
  obtain ⟨us, base, ho, hu⟩ := h
  exact ⟨us, base, own_below ho hb, hu.below hb⟩
end Go.Proofs.YthfcnjcpanoldaaGreatDoor.D
