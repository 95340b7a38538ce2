/-
  The document's answers of layer 1 (latinerref01), walked: Decode, Encode, Size, IsLeast. Conditions: none.
-/
import Derived.Test.YthibodkemnkjeaaDoorWalk1
import Derived.Test.YthibodkemnkjeaaDoorRound
namespace Go.Proofs.YthibodkemnkjeaaDoor
open Go.RowKit

/-- string([]byte{x}), the slice just made. -/
theorem conv1 (w : World) (x : Int) : (convert 41 9 (.slice (some ⟨w.heap.size, 0, none⟩) 1 1)).run Tryd.prog (w.alloc (.cells #[.int .u8 x] 5)) = .ok (.string (strOfNums [x])) (w.alloc (.cells #[.int .u8 x] 5)) :=
  run_convert_bytes_arg _ _ _ Tryd.underlying41 Tryd.underlying5 _ 0 _ _ [x] rfl (fun i hi => by
    obtain rfl : i = 0 := by simp at hi; omega
    rw [World.cell?_alloc_at _ _ _ _ rfl]; rfl) _ Tryd.underlying9
theorem conv2 (w : World) (o : Obj) (x : Int) : (convert 41 9 (.slice (some ⟨w.heap.size + 1, 0, none⟩) 1 1)).run Tryd.prog ((w.alloc o).alloc (.cells #[.int .u8 x] 5)) = .ok (.string (strOfNums [x])) ((w.alloc o).alloc (.cells #[.int .u8 x] 5)) := by
  have := conv1 (w.alloc o) x
  simpa using this
theorem conv3 (w : World) (o o' : Obj) (x : Int) : (convert 41 9 (.slice (some ⟨w.heap.size + 1 + 1, 0, none⟩) 1 1)).run Tryd.prog (((w.alloc o).alloc o').alloc (.cells #[.int .u8 x] 5)) = .ok (.string (strOfNums [x])) (((w.alloc o).alloc o').alloc (.cells #[.int .u8 x] 5)) := by
  have := conv1 ((w.alloc o).alloc o') x
  simpa using this
theorem conv4 (w : World) (o o' o'' : Obj) (x : Int) : (convert 41 9 (.slice (some ⟨w.heap.size + 1 + 1 + 1, 0, none⟩) 1 1)).run Tryd.prog ((((w.alloc o).alloc o').alloc o'').alloc (.cells #[.int .u8 x] 5)) = .ok (.string (strOfNums [x])) ((((w.alloc o).alloc o').alloc o'').alloc (.cells #[.int .u8 x] 5)) := by
  have := conv1 (((w.alloc o).alloc o').alloc o'') x
  simpa using this

set_option maxRecDepth 100000 in
theorem refEncode1 (n : Int) (w : World) (h0 : 0 ≤ n) (h1 : n < 128) :
    Calls Tryd.prog 49 #[.int .i64 n] w fun e w' => e = .returned (.tuple #[.string ⟨(Sz.least n.toNat).toArray⟩, .int .i64 0]) ∧ Below w.heap.size w w' := by
  have hcv := conv1 w n
  have e1 : strOfNums [n] = ⟨(Sz.least n.toNat).toArray⟩ := by unfold Sz.least; rw [if_pos (by omega)]; rfl
  rw [← e1]; clear e1
  go_enter Tryd.func49, Tryd.ntmps49
  go_wp2
  go_ret2
  exact ⟨rfl, (Below.refl _ _).alloc (Nat.le_refl _) _⟩

theorem ret2s {a b : ByteArray} (h : a = b) : Ending.returned (.tuple #[.string a, .int .i64 0]) = .returned (.tuple #[.string b, .int .i64 0]) := by rw [h]
theorem strOfNums_size (xs : List Int) : (strOfNums xs).size = xs.length := by simp [strOfNums, ByteArray.size]
theorem strOfNums_append (xs ys : List Int) : strOfNums xs ++ strOfNums ys = strOfNums (xs ++ ys) := by
  apply ByteArray.ext
  simp [strOfNums]
theorem strOfNums_empty (xs : List Int) : strOfNums xs ++ (⟨#[]⟩ : ByteArray) = strOfNums xs := by
  apply ByteArray.ext
  simp [strOfNums]

theorem refEncode_no (n : Int) (w : World) (h : ¬ (0 ≤ n ∧ n ≤ 16777215)) :
    Calls Tryd.prog 49 #[.int .i64 n] w fun e w' => e = .returned (.tuple #[.string ⟨#[]⟩, .int .i64 12]) ∧ Below w.heap.size w w' := by
  by_cases h0 : n < 0
  · clear h
    go_enter Tryd.func49, Tryd.ntmps49
    go_wp2
    go_ret2
    exact ⟨rfl, Below.refl _ _⟩
  · have h1 : 16777215 < n := by omega
    clear h
    go_enter Tryd.func49, Tryd.ntmps49
    go_wp2
    go_ret2
    exact ⟨rfl, Below.refl _ _⟩

theorem wm1 : wrap64 (128 + ((0 + 1 : Nat) : Int)) % 256 = 129 := by decide +kernel
theorem wm2 : wrap64 (128 + (((0 + 1 : Nat) : Int) + ((0 + 1 : Nat) : Int))) % 256 = 130 := by decide +kernel
theorem wm3 : wrap64 (128 + (((0 + 1 : Nat) : Int) + (((0 + 1 : Nat) : Int) + ((0 + 1 : Nat) : Int)))) % 256 = 131 := by decide +kernel
theorem leastEq2 (n : Int) (h0 : 128 ≤ n) (h1 : n < 256) : strOfNums [129, n % 256] = ⟨(Sz.least n.toNat).toArray⟩ := by
  have ew : Sz.wd n.toNat = 1 := by unfold Sz.wd; rw [if_neg (by omega), if_pos (by omega)]
  rw [show n % 256 = n by omega]
  unfold Sz.least; rw [if_neg (by omega), ew]; simp [Sz.be, strOfNums]
theorem leastEq3 (n : Int) (h0 : 256 ≤ n) (h1 : n < 65536) : strOfNums [130, n / 256 % 256, n % 256] = ⟨(Sz.least n.toNat).toArray⟩ := by
  have ew : Sz.wd n.toNat = 2 := by unfold Sz.wd; rw [if_neg (by omega), if_neg (by omega), if_pos (by omega)]
  have a1 : (n / 256 % 256).toNat = n.toNat / 256 := by omega
  have a2 : UInt8.ofNat (n % 256).toNat = UInt8.ofNat n.toNat := UInt8.toNat.inj (by simp; omega)
  unfold Sz.least; rw [if_neg (by omega), ew]; simp [Sz.be, strOfNums, a1, a2]
theorem leastEq4 (n : Int) (h0 : 65536 ≤ n) (h1 : n ≤ 16777215) : strOfNums [131, n / 256 / 256 % 256, n / 256 % 256, n % 256] = ⟨(Sz.least n.toNat).toArray⟩ := by
  have ew : Sz.wd n.toNat = 3 := by unfold Sz.wd; rw [if_neg (by omega), if_neg (by omega), if_neg (by omega), if_pos (by omega)]
  have a1 : (n / 256 / 256 % 256).toNat = n.toNat / 65536 := by omega
  have a2 : UInt8.ofNat (n % 256).toNat = UInt8.ofNat n.toNat := UInt8.toNat.inj (by simp; omega)
  have a3 : UInt8.ofNat (n / 256 % 256).toNat = UInt8.ofNat (n.toNat / 256) := UInt8.toNat.inj (by simp; omega)
  unfold Sz.least; rw [if_neg (by omega), ew]; simp [Sz.be, strOfNums, a1, a2, a3]

set_option maxRecDepth 100000 in
theorem refEncode2 (n : Int) (w : World) (h0 : 128 ≤ n) (h1 : n < 256) :
    Calls Tryd.prog 49 #[.int .i64 n] w fun e w' => e = .returned (.tuple #[.string ⟨(Sz.least n.toNat).toArray⟩, .int .i64 0]) ∧ Below w.heap.size w w' := by
  have hcv1 := conv1 w
  have hcv2 := conv2 w
  have a1 : ¬ n < 128 := by omega
  have a2 : ¬ 0 < n / 256 := by omega
  go_enter Tryd.func49, Tryd.ntmps49
  go_wp2
  refine wp_loop_rounds 2 ?_
  rw [rounds_succ]
  go_wp2
  rw [rounds_succ]
  go_wp2
  go_ret2
  refine ⟨ret2s ?_, ((Below.refl _ _).alloc (Nat.le_refl _) _).alloc (by simp) _⟩
  rw [← leastEq2 n h0 h1]
  simp only [strOfNums_empty, strOfNums_append, strOfNums_size, List.length_cons, List.length_nil, List.cons_append, List.nil_append]
  rw [wm1]

set_option maxRecDepth 100000 in
set_option maxHeartbeats 1000000 in
theorem refEncode3 (n : Int) (w : World) (h0 : 256 ≤ n) (h1 : n < 65536) :
    Calls Tryd.prog 49 #[.int .i64 n] w fun e w' => e = .returned (.tuple #[.string ⟨(Sz.least n.toNat).toArray⟩, .int .i64 0]) ∧ Below w.heap.size w w' := by
  have hcv1 := conv1 w
  have hcv2 := conv2 w
  have hcv3 := conv3 w
  have a1 : ¬ n < 128 := by omega
  have a2 : 0 < n / 256 := by omega
  have a3 : ¬ 0 < n / 256 / 256 := by omega
  go_enter Tryd.func49, Tryd.ntmps49
  go_wp2
  refine wp_loop_rounds 3 ?_
  rw [rounds_succ]
  go_wp2
  rw [rounds_succ]
  go_wp2
  rw [rounds_succ]
  go_wp2
  go_ret2
  refine ⟨ret2s ?_, (((Below.refl _ _).alloc (Nat.le_refl _) _).alloc (by simp) _).alloc (by simp <;> omega) _⟩
  rw [← leastEq3 n h0 h1]
  simp only [strOfNums_empty, strOfNums_append, strOfNums_size, List.length_cons, List.length_nil, List.cons_append, List.nil_append]
  rw [wm2]

set_option maxRecDepth 100000 in
set_option maxHeartbeats 2000000 in
theorem refEncode4 (n : Int) (w : World) (h0 : 65536 ≤ n) (h1 : n ≤ 16777215) :
    Calls Tryd.prog 49 #[.int .i64 n] w fun e w' => e = .returned (.tuple #[.string ⟨(Sz.least n.toNat).toArray⟩, .int .i64 0]) ∧ Below w.heap.size w w' := by
  have hcv1 := conv1 w
  have hcv2 := conv2 w
  have hcv3 := conv3 w
  have hcv4 := conv4 w
  have a1 : ¬ n < 128 := by omega
  have a2 : 0 < n / 256 := by omega
  have a3 : 0 < n / 256 / 256 := by omega
  have a4 : ¬ 0 < n / 256 / 256 / 256 := by omega
  go_enter Tryd.func49, Tryd.ntmps49
  go_wp2
  refine wp_loop_rounds 4 ?_
  rw [rounds_succ]
  go_wp2
  rw [rounds_succ]
  go_wp2
  rw [rounds_succ]
  go_wp2
  rw [rounds_succ]
  go_wp2
  go_ret2
  refine ⟨ret2s ?_, ((((Below.refl _ _).alloc (Nat.le_refl _) _).alloc (by simp) _).alloc (by simp <;> omega) _).alloc (by simp <;> omega) _⟩
  rw [← leastEq4 n h0 h1]
  simp only [strOfNums_empty, strOfNums_append, strOfNums_size, List.length_cons, List.length_nil, List.cons_append, List.nil_append]
  rw [wm3]

theorem refEncode_ok (n : Int) (w : World) (h0 : 0 ≤ n) (h1 : n ≤ 16777215) :
    Calls Tryd.prog 49 #[.int .i64 n] w fun e w' => e = .returned (.tuple #[.string ⟨(Sz.least n.toNat).toArray⟩, .int .i64 0]) ∧ Below w.heap.size w w' := by
  by_cases a : n < 128
  · exact refEncode1 n w h0 a
  · by_cases b : n < 256
    · exact refEncode2 n w (by omega) b
    · by_cases c : n < 65536
      · exact refEncode3 n w (by omega) c
      · exact refEncode4 n w (by omega) h1

theorem refSize_ok (n : Int) (w : World) (h0 : 0 ≤ n) (h1 : n ≤ 16777215) :
    Calls Tryd.prog 53 #[.int .i64 n] w fun e w' => e = .returned (.tuple #[.int .i64 ((Sz.least n.toNat).length : Nat), .int .i64 0]) ∧ Below w.heap.size w w' := by
  have hl : (⟨(Sz.least n.toNat).toArray⟩ : ByteArray).size = (Sz.least n.toNat).length := by simp [ByteArray.size]
  have H := refEncode_ok n w h0 h1
  generalize (⟨(Sz.least n.toNat).toArray⟩ : ByteArray) = t at *
  rw [← hl]
  clear hl
  go_enter Tryd.func53, Tryd.ntmps53
  go_wp2_with (go_at_call 49; refine H.mono ?_; rintro e w' ⟨rfl, hb⟩)
  go_ret2
  exact ⟨rfl, hb⟩
theorem refSize_no (n : Int) (w : World) (h : ¬ (0 ≤ n ∧ n ≤ 16777215)) :
    Calls Tryd.prog 53 #[.int .i64 n] w fun e w' => e = .returned (.tuple #[.int .i64 0, .int .i64 12]) ∧ Below w.heap.size w w' := by
  have H := refEncode_no n w h
  clear h
  go_enter Tryd.func53, Tryd.ntmps53
  go_wp2_with (go_at_call 49; refine H.mono ?_; rintro e w' ⟨rfl, hb⟩)
  go_ret2
  exact ⟨rfl, hb⟩
end Go.Proofs.YthibodkemnkjeaaDoor
