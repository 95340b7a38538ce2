/-
  What size.width and size.leastBytes answer at every length. Conditions: none but that the number is a length.
-/
import Derived.Test.YthibodkemnkjeaaDoorErrno
import Derived.Test.YthibodkemnkjeaaDoorPure
namespace Go.Proofs.YthibodkemnkjeaaDoor
open Go.RowKit

theorem width_any (n : Int) (w : World) (h0 : 0 < n) (h1 : n ≤ 16777215) :
    Calls Tryd.prog 41 #[.int .i64 n] w fun e w' => e = .returned (.int .i64 (Sz.wd n.toNat)) ∧ w' = w := by
  obtain ⟨m, rfl⟩ := Int.eq_ofNat_of_zero_le (Int.le_of_lt h0)
  by_cases h2 : m < 256
  · have e1 : Sz.wd m = 1 := by unfold Sz.wd; rw [if_neg (by omega), if_pos h2]
    go_enter Tryd.func41, Tryd.ntmps41
    go_wp2
    refine wp_loop_rounds 2 ?_
    rw [rounds_succ]
    go_wp2
    rw [rounds_succ]
    go_wp2
    go_ret
    exact ⟨by simp [e1], rfl⟩
  · by_cases h3 : m < 65536
    · have e1 : Sz.wd m = 2 := by unfold Sz.wd; rw [if_neg (by omega), if_neg h2, if_pos h3]
      have a1 : 0 < (m : Int) / 256 := by omega
      have a2 : ¬ 0 < (m : Int) / 256 / 256 := by omega
      clear h2 h3
      go_enter Tryd.func41, Tryd.ntmps41
      go_wp2
      refine wp_loop_rounds 3 ?_
      rw [rounds_succ]
      go_wp2
      rw [rounds_succ]
      go_wp2
      rw [rounds_succ]
      go_wp2
      go_ret
      exact ⟨by simp [e1], rfl⟩
    · have e1 : Sz.wd m = 3 := by unfold Sz.wd; rw [if_neg (by omega), if_neg h2, if_neg h3, if_pos (by omega)]
      have a1 : 0 < (m : Int) / 256 := by omega
      have a2 : 0 < (m : Int) / 256 / 256 := by omega
      have a3 : ¬ 0 < (m : Int) / 256 / 256 / 256 := by omega
      clear h2 h3
      go_enter Tryd.func41, Tryd.ntmps41
      go_wp2
      refine wp_loop_rounds 4 ?_
      rw [rounds_succ]
      go_wp2
      rw [rounds_succ]
      go_wp2
      rw [rounds_succ]
      go_wp2
      rw [rounds_succ]
      go_wp2
      go_ret
      exact ⟨by simp [e1], rfl⟩

theorem make5 (w : World) : (Instr.makeSlice 41 (.int .i64 0) (.int .i64 5)).run Tryd.prog w = .ok (.slice (some ⟨w.heap.size, 0, none⟩) 0 5) (w.alloc (.cells #[.int .u8 0, .int .u8 0, .int .u8 0, .int .u8 0, .int .u8 0] 5)) := by kernel_rfl

/-- the first block of the call's own, read behind more of them. -/
theorem cellOwn (w w' : World) (A : Array Value) (T : TypeId) (i : Nat) (h : Below (w.heap.size + 1) (w.alloc (.cells A T)) w') :
    w'.cell? ⟨w.heap.size, i, none⟩ = (A[i]?) := by
  rw [h.cell (p := ⟨w.heap.size, i, none⟩) (by simp), World.cell?_alloc_at _ _ _ _ rfl]

theorem conv (w w' : World) (A : Array Value) (k : Nat) (xs : List Int) (hk : xs.length = k) (h : Below (w.heap.size + 1) (w.alloc (.cells A 5)) w')
    (hA : ∀ i, i < xs.length → A[i]? = some (.int .u8 (xs.getD i 0))) :
    (convert 41 9 (.slice (some ⟨w.heap.size, 0, none⟩) k 5)).run Tryd.prog w' = .ok (.string (strOfNums xs)) w' :=
  run_convert_bytes_arg w' _ _ Tryd.underlying41 Tryd.underlying5 _ 0 _ _ xs hk (fun i hi => by rw [Nat.zero_add, cellOwn w w' A _ i h]; exact hA i (by omega)) _ Tryd.underlying9

theorem below2 (w : World) (o o0 o1 : Obj) : Below (w.heap.size + 1) (w.alloc o) (((w.alloc o).alloc o0).alloc o1) :=
  ((Below.refl _ _).alloc (by simp) _).alloc (by simp <;> omega) _
theorem below3 (w : World) (o o0 o1 o2 : Obj) : Below (w.heap.size + 1) (w.alloc o) ((((w.alloc o).alloc o0).alloc o1).alloc o2) :=
  (below2 w o o0 o1).alloc (by simp <;> omega) _
theorem below4 (w : World) (o o0 o1 o2 o3 : Obj) : Below (w.heap.size + 1) (w.alloc o) (((((w.alloc o).alloc o0).alloc o1).alloc o2).alloc o3) :=
  (below3 w o o0 o1 o2).alloc (by simp <;> omega) _
theorem below5 (w : World) (o o0 o1 o2 o3 o4 : Obj) : Below (w.heap.size + 1) (w.alloc o) ((((((w.alloc o).alloc o0).alloc o1).alloc o2).alloc o3).alloc o4) :=
  (below4 w o o0 o1 o2 o3).alloc (by simp <;> omega) _
theorem belowOwn {w w' : World} {o : Obj} (h : Below (w.heap.size + 1) (w.alloc o) w') : Below w.heap.size w w' :=
  ((Below.refl _ _).alloc (Nat.le_refl _) _).trans (h.mono (Nat.le_succ _))

set_option maxRecDepth 100000 in
theorem least1 (n : Int) (w : World) (h0 : 0 ≤ n) (h1 : n < 128) :
    Calls Tryd.prog 40 #[.int .i64 n] w fun e w' => e = .returned (.string ⟨(Sz.least n.toNat).toArray⟩) ∧ Below w.heap.size w w' := by
  have hmk := make5
  have hcv := fun o0 o1 => conv w _ #[.int .u8 n, .int .u8 0, .int .u8 0, .int .u8 0, .int .u8 0] 1 [n] rfl (below2 w _ o0 o1) (fun i hi => by obtain rfl : i = 0 := by { simp at hi; omega }; rfl)
  have e1 : strOfNums [n] = ⟨(Sz.least n.toNat).toArray⟩ := by unfold Sz.least; rw [if_pos (by omega)]; rfl
  rw [← e1]; clear e1
  go_enter Tryd.func40, Tryd.ntmps40
  go_wp2
  go_end0
  go_wp2
  go_ret
  exact ⟨rfl, belowOwn (below2 _ _ _ _)⟩

set_option maxRecDepth 100000 in
theorem least2 (n : Int) (w : World) (h0 : 128 ≤ n) (h1 : n < 256) :
    Calls Tryd.prog 40 #[.int .i64 n] w fun e w' => e = .returned (.string ⟨(Sz.least n.toNat).toArray⟩) ∧ Below w.heap.size w w' := by
  have hmk := make5
  have ew : Sz.wd n.toNat = 1 := by unfold Sz.wd; rw [if_neg (by omega), if_pos (by omega)]
  have hcv := fun o0 o1 o2 => conv w _ #[.int .u8 129, .int .u8 n, .int .u8 0, .int .u8 0, .int .u8 0] 2 [129, n] rfl (below3 w _ o0 o1 o2) (fun i hi => by
    rcases i with _ | _ | i <;> first | rfl | (simp at hi; omega))
  have e1 : strOfNums [129, n] = ⟨(Sz.least n.toNat).toArray⟩ := by unfold Sz.least; rw [if_neg (by omega), ew]; simp [Sz.be, strOfNums]
  rw [← e1]; clear e1
  go_enter Tryd.func40, Tryd.ntmps40
  go_wp2_with (first | (go_at_call 41; refine (width_any n _ (by omega) (by omega)).mono ?_; rintro e w' ⟨rfl, rfl⟩; rw [ew]) | (go_at_call 54; go_in))
  go_end0
  go_wp2
  refine wp_loop_rounds 2 ?_
  rw [rounds_succ]
  go_wp2
  go_end0
  go_wp2
  rw [rounds_succ]
  go_wp2
  go_ret
  exact ⟨rfl, belowOwn (below3 _ _ _ _ _)⟩

set_option maxRecDepth 100000 in
theorem least3 (n : Int) (w : World) (h0 : 256 ≤ n) (h1 : n < 65536) :
    Calls Tryd.prog 40 #[.int .i64 n] w fun e w' => e = .returned (.string ⟨(Sz.least n.toNat).toArray⟩) ∧ Below w.heap.size w w' := by
  have hmk := make5
  have ew : Sz.wd n.toNat = 2 := by unfold Sz.wd; rw [if_neg (by omega), if_neg (by omega), if_pos (by omega)]
  have hcv := fun o0 o1 o2 o3 => conv w _ #[.int .u8 130, .int .u8 (n / 256), .int .u8 (n % 256), .int .u8 0, .int .u8 0] 3 [130, n / 256, n % 256] rfl (below4 w _ o0 o1 o2 o3) (fun i hi => by
    rcases i with _ | _ | _ | i <;> first | rfl | (simp at hi; omega))
  have e1 : strOfNums [130, n / 256, n % 256] = ⟨(Sz.least n.toNat).toArray⟩ := by
    unfold Sz.least; rw [if_neg (by omega), ew]
    have a1 : (n / 256).toNat = n.toNat / 256 := by omega
    have a2 : UInt8.ofNat (n % 256).toNat = UInt8.ofNat n.toNat := UInt8.toNat.inj (by simp; omega)
    simp [Sz.be, strOfNums, a1, a2]
  rw [← e1]; clear e1
  go_enter Tryd.func40, Tryd.ntmps40
  go_wp2_with (first | (go_at_call 41; refine (width_any n _ (by omega) (by omega)).mono ?_; rintro e w' ⟨rfl, rfl⟩; rw [ew]) | (go_at_call 54; go_in))
  go_end0
  go_wp2
  refine wp_loop_rounds 3 ?_
  rw [rounds_succ]
  go_wp2
  go_end0
  go_wp2
  rw [rounds_succ]
  go_wp2
  go_end0
  go_wp2
  rw [rounds_succ]
  go_wp2
  go_ret
  exact ⟨rfl, belowOwn (below4 _ _ _ _ _ _)⟩

set_option maxHeartbeats 1000000 in
set_option maxRecDepth 100000 in
theorem least4 (n : Int) (w : World) (h0 : 65536 ≤ n) (h1 : n ≤ 16777215) :
    Calls Tryd.prog 40 #[.int .i64 n] w fun e w' => e = .returned (.string ⟨(Sz.least n.toNat).toArray⟩) ∧ Below w.heap.size w w' := by
  have hmk := make5
  have ew : Sz.wd n.toNat = 3 := by unfold Sz.wd; rw [if_neg (by omega), if_neg (by omega), if_neg (by omega), if_pos (by omega)]
  have hcv := fun o0 o1 o2 o3 o4 => conv w _ #[.int .u8 131, .int .u8 (n / 65536), .int .u8 (n / 256 % 256), .int .u8 (n % 256), .int .u8 0] 4 [131, n / 65536, n / 256 % 256, n % 256] rfl (below5 w _ o0 o1 o2 o3 o4) (fun i hi => by
    rcases i with _ | _ | _ | _ | i <;> first | rfl | (simp at hi; omega))
  have e1 : strOfNums [131, n / 65536, n / 256 % 256, n % 256] = ⟨(Sz.least n.toNat).toArray⟩ := by
    unfold Sz.least; rw [if_neg (by omega), ew]
    have a1 : (n / 65536).toNat = n.toNat / 65536 := by omega
    have a2 : UInt8.ofNat (n % 256).toNat = UInt8.ofNat n.toNat := UInt8.toNat.inj (by simp; omega)
    have a3 : UInt8.ofNat (n / 256 % 256).toNat = UInt8.ofNat (n.toNat / 256) := UInt8.toNat.inj (by simp; omega)
    simp [Sz.be, strOfNums, a1, a2, a3]
  rw [← e1]; clear e1
  go_enter Tryd.func40, Tryd.ntmps40
  go_wp2_with (first | (go_at_call 41; refine (width_any n _ (by omega) (by omega)).mono ?_; rintro e w' ⟨rfl, rfl⟩; rw [ew]) | (go_at_call 54; go_in))
  go_end0
  go_wp2
  refine wp_loop_rounds 4 ?_
  rw [rounds_succ]
  go_wp2
  go_end0
  go_wp2
  rw [rounds_succ]
  go_wp2
  go_end0
  go_wp2
  rw [rounds_succ]
  go_wp2
  go_end0
  go_wp2
  rw [rounds_succ]
  go_wp2
  go_ret
  exact ⟨rfl, belowOwn (below5 _ _ _ _ _ _ _)⟩

theorem leastBytes_any (n : Int) (w : World) (h0 : 0 ≤ n) (h1 : n ≤ 16777215) :
    Calls Tryd.prog 40 #[.int .i64 n] w fun e w' => e = .returned (.string ⟨(Sz.least n.toNat).toArray⟩) ∧ Below w.heap.size w w' := by
  by_cases a : n < 128
  · exact least1 n w h0 a
  · by_cases b : n < 256
    · exact least2 n w (by omega) b
    · by_cases c : n < 65536
      · exact least3 n w (by omega) c
      · exact least4 n w (by omega) h1
end Go.Proofs.YthibodkemnkjeaaDoor
