/-
  What utf.text.stands answers where the text is long enough. Conditions: none.
-/
import Derived.Test.YtgapoofalnakmaaDoorUStands
import Derived.Deep.RegionHeld
namespace Go.Proofs.YtgapoofalnakmaaDoor.U
open Go Go.RowKit

/-- what the region leaves. -/
def OutS (v : Value) (V : World) : Exit → Act → World → Prop
  | .normal, a, w => a.tmps.getD 6 undef = v ∧ a.defers = [] ∧ w = V
  | _, _, _ => False
set_option maxRecDepth 100000 in
set_option maxHeartbeats 4000000 in
theorem stands_near (s : ByteArray) (p n : Nat) (w : World) (h : n ≤ 1114111) (hs : s.size ≤ 1000) (hf : p + wd n ≤ s.size) :
    Calls Tryd.prog 71 #[.agg #[.string s], .int .i64 p, .int .i32 n] w fun e w' => e = .returned (.bool ((s.extract p (p + wd n)).toList == (Ut.enc n))) ∧ Below w.heap.size w w' := by
  have hw := width_any n ((w.alloc (.cells #[.string s] 125)).alloc zero4) h
  have hR : ((w.alloc (.cells #[.string s] 125)).alloc zero4).drew.heap[w.heap.size + 1]? = some zero4 := by
    have := heap_new (w.alloc (.cells #[.string s] 125)) zero4
    rwa [World.size_alloc] at this
  have hA := room_any n ((w.alloc (.cells #[.string s] 125)).alloc zero4).drew (w.heap.size + 1) h hR
  have hC := conv_room ((w.alloc (.cells #[.string s] 125)).alloc zero4).drew (w.heap.size + 1) n hR _ rfl
  have hS : (Wr ((w.alloc (.cells #[.string s] 125)).alloc zero4).drew (w.heap.size + 1) n).cell? ⟨w.heap.size, 0, none⟩ = some (.string s) := by
    rw [(Wr_below ((w.alloc (.cells #[.string s] 125)).alloc zero4).drew (w.heap.size + 1) n (w.heap.size + 1) (by omega) (by simp)).cell (by simp)]
    simp
  have hS0 : ((w.alloc (.cells #[.string s] 125)).alloc zero4).drew.cell? ⟨w.heap.size, 0, none⟩ = some (.string s) := by
    show ((w.alloc (.cells #[.string s] 125)).alloc zero4).cell? ⟨w.heap.size, 0, none⟩ = _
    simp
  have hB := hide (Wr_below ((w.alloc (.cells #[.string s] 125)).alloc zero4).drew (w.heap.size + 1) n w.heap.size (by omega) (by simp; omega))
  have hle := Ut.enc_le n
  have hwd : (wd n : Int) ≤ 4 := by unfold wd; omega
  have he : wrap64 ((p : Int) + wd n) = p + wd n := by unfold wrap64; omega
  have hf' : decide ((p : Int) + wd n ≤ s.size) = true := decide_eq_true (by omega)
  have hsl := fun wx => run_slice_string (P := Tryd.prog) (w := wx) 9 s .i64 .i64 (p : Int) ((p : Int) + wd n) Tryd.underlying9 (by omega) (by omega) (by omega)
  rw [show ((p : Int)).toNat = p by omega, show ((p : Int) + wd n).toNat = p + wd n by omega] at hsl
  clear hle hR
  go_enter Tryd.func71, Tryd.ntmps71
  go_wp2_with fail
  refine hw.mono ?_
  rintro e w1 ⟨rfl, rfl⟩
  go_wp2
  refine wp_mono (Q := OutS (.bool ((s.extract p (p + wd n)).toList == (Ut.enc n))) (Wr ((w.alloc (.cells #[.string s] 125)).alloc zero4).drew (w.heap.size + 1) n)) ?_ ?_
  rotate_left
  · intro e a1 V hq
    cases e with
    | normal =>
      obtain ⟨tmps, defers⟩ := a1
      obtain ⟨h1, h2, h3⟩ := hq
      dsimp only at h1 h2
      subst h2
      subst h3
      go_wp2
      go_ret
      refine ⟨congrArg _ h1, ?_⟩
      refine Below.trans ?_ (unhide hB)
      refine Below.drew ?_
      repeat (refine Below.alloc ?_ (by simp <;> omega) _)
      exact Below.refl _ _
    | _ => exact hq.elim
  refine wp_region_held (S := fun w' => w'.cell? ⟨w.heap.size, 0, none⟩ = some (.string s)) (by kernel_rfl) ?_
  change wpAnyH _ _ _ _ _ 18 #[false, false, false, false, false, false, false, false, false, false, false, false, false, false, false, false, false, false] _ ((w.alloc (.cells #[.string s] 125)).alloc zero4).drew
  refine wpAnyH_take (i := 0) (v := .int .i64 ((p : Int) + wd n)) rfl (by kernel_rfl) (by kernel_rfl) (by kernel_rfl) (fun _ _ _ h => h) (Or.inl ⟨by kernel_rfl, by intro w1 hS1; go_simp⟩) hS0 ?_
  simp only [Act.put, List.setIfInBounds_toArray, List.set_cons_zero, List.set_cons_succ, List.getElem_toArray, List.getElem_cons_zero]
  refine wpAnyH_take (i := 1) (v := .pointer (some ⟨w.heap.size, 0, none⟩)) rfl (by kernel_rfl) (by kernel_rfl) (by kernel_rfl) (fun _ _ _ h => h) (Or.inl ⟨by kernel_rfl, by intro w1 hS1; go_simp⟩) hS0 ?_
  simp only [Act.put, List.setIfInBounds_toArray, List.set_cons_zero, List.set_cons_succ, List.getElem_toArray, List.getElem_cons_zero, List.getElem_cons_succ]
  refine wpAnyH_take (i := 2) (v := .string s) rfl (by kernel_rfl) (by kernel_rfl) (by kernel_rfl) (fun _ _ _ h => h) (Or.inl ⟨by kernel_rfl, by intro w1 hS1; go_simp⟩) hS0 ?_
  simp only [Act.put, List.setIfInBounds_toArray, List.set_cons_zero, List.set_cons_succ, List.getElem_toArray, List.getElem_cons_zero, List.getElem_cons_succ]
  refine wpAnyH_take (i := 3) (v := .int .i64 s.size) rfl (by kernel_rfl) (by kernel_rfl) (by kernel_rfl) (fun _ _ _ h => h) (Or.inl ⟨by kernel_rfl, by intro w1 hS1; go_simp⟩) hS0 ?_
  simp only [Act.put, List.setIfInBounds_toArray, List.set_cons_zero, List.set_cons_succ, List.getElem_toArray, List.getElem_cons_zero, List.getElem_cons_succ]
  refine wpAnyH_take (i := 4) (v := .bool true) rfl (by kernel_rfl) (by kernel_rfl) (by kernel_rfl) (fun _ _ _ h => h) (Or.inl ⟨by kernel_rfl, by intro w1 hS1; go_simp⟩) hS0 ?_
  simp only [Act.put, List.setIfInBounds_toArray, List.set_cons_zero, List.set_cons_succ, List.getElem_toArray, List.getElem_cons_zero, List.getElem_cons_succ]
  refine wpAnyH_take (i := 5) (v := .bool true) rfl (by kernel_rfl) (by kernel_rfl) (by kernel_rfl) (fun _ _ _ h => h) (Or.inl ⟨by kernel_rfl, by intro w1 hS1; go_simp⟩) hS0 ?_
  simp only [Act.put, List.setIfInBounds_toArray, List.set_cons_zero, List.set_cons_succ, List.getElem_toArray, List.getElem_cons_zero, List.getElem_cons_succ]
  refine wpAnyH_take (i := 6) (v := .pointer (some ⟨w.heap.size, 0, none⟩)) rfl (by kernel_rfl) (by kernel_rfl) (by kernel_rfl) (fun _ _ _ h => h) (Or.inl ⟨by kernel_rfl, by intro w1 hS1; go_simp⟩) hS0 ?_
  simp only [Act.put, List.setIfInBounds_toArray, List.set_cons_zero, List.set_cons_succ, List.getElem_toArray, List.getElem_cons_zero, List.getElem_cons_succ]
  refine wpAnyH_take (i := 7) (v := .string s) rfl (by kernel_rfl) (by kernel_rfl) (by kernel_rfl) (fun _ _ _ h => h) (Or.inl ⟨by kernel_rfl, by intro w1 hS1; go_simp⟩) hS0 ?_
  simp only [Act.put, List.setIfInBounds_toArray, List.set_cons_zero, List.set_cons_succ, List.getElem_toArray, List.getElem_cons_zero, List.getElem_cons_succ]
  refine wpAnyH_take (i := 8) (v := .int .i64 p) rfl (by kernel_rfl) (by kernel_rfl) (by kernel_rfl) (fun _ _ _ h => h) (Or.inl ⟨by kernel_rfl, by intro w1 hS1; go_simp⟩) hS0 ?_
  simp only [Act.put, List.setIfInBounds_toArray, List.set_cons_zero, List.set_cons_succ, List.getElem_toArray, List.getElem_cons_zero, List.getElem_cons_succ]
  refine wpAnyH_take (i := 9) (v := .int .i64 ((p : Int) + wd n)) rfl (by kernel_rfl) (by kernel_rfl) (by kernel_rfl) (fun _ _ _ h => h) (Or.inl ⟨by kernel_rfl, by intro w1 hS1; go_simp⟩) hS0 ?_
  simp only [Act.put, List.setIfInBounds_toArray, List.set_cons_zero, List.set_cons_succ, List.getElem_toArray, List.getElem_cons_zero, List.getElem_cons_succ]
  refine wpAnyH_take (i := 10) (v := .string (s.extract p (p + wd n))) rfl (by kernel_rfl) (by kernel_rfl) (by kernel_rfl) (fun _ _ _ h => h) (Or.inl ⟨by kernel_rfl, by intro w1 hS1; go_simp⟩) hS0 ?_
  simp only [Act.put, List.setIfInBounds_toArray, List.set_cons_zero, List.set_cons_succ, List.getElem_toArray, List.getElem_cons_zero, List.getElem_cons_succ]
  refine wpAnyH_take (i := 11) (v := .slice (some ⟨w.heap.size + 1, 0, none⟩) 0 4) rfl (by kernel_rfl) (by kernel_rfl) (by kernel_rfl) (fun _ _ _ h => h) (Or.inl ⟨by kernel_rfl, by intro w1 hS1; go_simp⟩) hS0 ?_
  simp only [Act.put, List.setIfInBounds_toArray, List.set_cons_zero, List.set_cons_succ, List.getElem_toArray, List.getElem_cons_zero, List.getElem_cons_succ]
  refine wpAnyH_take (i := 12) (v := .int .i32 n) rfl (by kernel_rfl) (by kernel_rfl) (by kernel_rfl) (fun _ _ _ h => h) (Or.inl ⟨by kernel_rfl, by intro w1 hS1; go_simp⟩) hS0 ?_
  simp only [Act.put, List.setIfInBounds_toArray, List.set_cons_zero, List.set_cons_succ, List.getElem_toArray, List.getElem_cons_zero, List.getElem_cons_succ]
  refine wpAnyH_ready (rs := [13]) (by kernel_rfl) (by simp) ?_
  refine AllReadyH.cons rfl (fun K hK => ?_) AllReadyH.nil
  rw [if_pos (by kernel_rfl)]
  go_wp2_with fail
  refine hA.mono ?_
  rintro e w' ⟨rfl, rfl⟩
  go_wp2
  refine hK.out _ _ hS (fun _ => ?_)
  clear hK K
  simp only [List.setIfInBounds_toArray, List.set_cons_zero, List.set_cons_succ]
  refine wpAnyH_ready (rs := [14]) (by kernel_rfl) (by simp) ?_
  refine AllReadyH.cons rfl (fun K hK => ?_) AllReadyH.nil
  rw [if_pos (by kernel_rfl)]
  go_simp
  refine hK.out _ _ hS (fun _ => ?_)
  clear hK K
  simp only [List.setIfInBounds_toArray, List.set_cons_zero, List.set_cons_succ]
  refine wpAnyH_take (i := 15) (v := .bool ((s.extract p (p + wd n)).toList == (Ut.enc n))) rfl (by kernel_rfl) (by kernel_rfl) (by kernel_rfl) (fun _ _ _ h => h) (Or.inl ⟨by kernel_rfl, by intro w1 hS1; go_simp⟩) hS ?_
  simp only [Act.put, List.setIfInBounds_toArray, List.set_cons_zero, List.set_cons_succ, List.getElem_toArray, List.getElem_cons_zero, List.getElem_cons_succ]
  refine wpAnyH_take (i := 16) (v := .bool ((s.extract p (p + wd n)).toList == (Ut.enc n))) rfl (by kernel_rfl) (by kernel_rfl) (by kernel_rfl) (fun _ _ _ h => h) (Or.inl ⟨by kernel_rfl, by intro w1 hS1; go_simp⟩) hS ?_
  simp only [Act.put, List.setIfInBounds_toArray, List.set_cons_zero, List.set_cons_succ, List.getElem_toArray, List.getElem_cons_zero, List.getElem_cons_succ]
  refine wpAnyH_take (i := 17) (v := .bool ((s.extract p (p + wd n)).toList == (Ut.enc n))) rfl (by kernel_rfl) (by kernel_rfl) (by kernel_rfl) (fun _ _ _ h => h) (Or.inl ⟨by kernel_rfl, by intro w1 hS1; go_simp⟩) hS ?_
  simp only [Act.put, List.setIfInBounds_toArray, List.set_cons_zero, List.set_cons_succ, List.getElem_toArray, List.getElem_cons_zero, List.getElem_cons_succ]
  refine wpAnyH_done (by kernel_rfl) ?_ _
  exact ⟨rfl, rfl, rfl⟩

theorem extract_toList (s : ByteArray) (p q : Nat) : (s.extract p q).toList = (s.data.toList.drop p).take (q - p) := by
  rw [ByteArray.toList_eq]
  simp [ByteArray.data_extract]
theorem st_near (s : ByteArray) (p n : Nat) : ((s.extract p (p + wd n)).toList == (Ut.enc n)) = st s p n := by
  rw [extract_toList, show p + wd n - p = (Ut.enc n).length by unfold wd; omega, Bool.eq_iff_iff, beq_iff_eq]
  unfold st
  rw [List.isPrefixOf_iff_prefix, List.prefix_iff_eq_take, eq_comm]
theorem st_far (s : ByteArray) (p n : Nat) (hp : p ≤ s.size) (h : s.size < p + wd n) : st s p n = false := by
  rw [Bool.eq_false_iff]
  unfold st
  rw [Ne, List.isPrefixOf_iff_prefix]
  intro hx
  have := hx.length_le
  have e : s.data.toList.length = s.size := by rw [Array.length_toList]; rfl
  rw [List.length_drop, e] at this
  unfold wd at h
  omega
theorem stands_any (s : ByteArray) (p n : Nat) (w : World) (h : n ≤ 1114111) (hp : p ≤ s.size) (hs : s.size ≤ 1000) :
    Calls Tryd.prog 71 #[.agg #[.string s], .int .i64 p, .int .i32 n] w fun e w' => e = .returned (.bool (st s p n)) ∧ Below w.heap.size w w' := by
  by_cases hf : p + wd n ≤ s.size
  · rw [← st_near]
    exact stands_near s p n w h hs hf
  · rw [st_far s p n hp (by omega)]
    exact stands_far s p n w h hp hs (by omega)
end Go.Proofs.YtgapoofalnakmaaDoor.U
