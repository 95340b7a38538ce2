/-
  What the document's answers of layer 3 (latinerref03) say. Conditions: none.
-/
import Derived.Test.YtjgphpjbcabdeaaDoorPShown
namespace Go.Proofs.YtjgphpjbcabdeaaDoor.P
open Go.RowKit

theorem conv1 (W : World) (x : Int) : (convert 46 9 (.slice (some ⟨W.heap.size, 0, none⟩) 1 1)).run Tryd.prog (W.alloc (.cells #[.int .u8 x] 5)) = .ok (.string ⟨#[UInt8.ofNat x.toNat]⟩) (W.alloc (.cells #[.int .u8 x] 5)) := by
  have := run_convert_bytes_arg (W.alloc (.cells #[.int .u8 x] 5)) 46 _ Tryd.underlying46 Tryd.underlying5 W.heap.size 0 1 1 [x] rfl (fun i hi => by
    obtain rfl : i = 0 := by omega
    simp) 9 Tryd.underlying9
  exact this

theorem conv2 (W : World) (o1 : Obj) (x : Int) : (convert 46 9 (.slice (some ⟨W.heap.size + 1, 0, none⟩) 1 1)).run Tryd.prog ((W.alloc o1).alloc (.cells #[.int .u8 x] 5)) = .ok (.string ⟨#[UInt8.ofNat x.toNat]⟩) ((W.alloc o1).alloc (.cells #[.int .u8 x] 5)) := by
  have := conv1 (W.alloc o1) x
  simpa only [World.size_alloc] using this
theorem conv3 (W : World) (o1 o2 : Obj) (x : Int) : (convert 46 9 (.slice (some ⟨W.heap.size + 1 + 1, 0, none⟩) 1 1)).run Tryd.prog (((W.alloc o1).alloc o2).alloc (.cells #[.int .u8 x] 5)) = .ok (.string ⟨#[UInt8.ofNat x.toNat]⟩) (((W.alloc o1).alloc o2).alloc (.cells #[.int .u8 x] 5)) := by
  have := conv1 ((W.alloc o1).alloc o2) x
  simpa only [World.size_alloc] using this
theorem conv4 (W : World) (o1 o2 o3 : Obj) (x : Int) : (convert 46 9 (.slice (some ⟨W.heap.size + 1 + 1 + 1, 0, none⟩) 1 1)).run Tryd.prog ((((W.alloc o1).alloc o2).alloc o3).alloc (.cells #[.int .u8 x] 5)) = .ok (.string ⟨#[UInt8.ofNat x.toNat]⟩) ((((W.alloc o1).alloc o2).alloc o3).alloc (.cells #[.int .u8 x] 5)) := by
  have := conv1 (((W.alloc o1).alloc o2).alloc o3) x
  simpa only [World.size_alloc] using this

theorem be0 {x n : Int} (h : x = n % 256) : UInt8.ofNat x.toNat = Pr.bt n 0 := by subst h; rw [← bt_ofInt]; simp
theorem be1 {x n : Int} (h : x = n / 256 % 256) : UInt8.ofNat x.toNat = Pr.bt n 1 := by subst h; rfl
theorem be2 {x n : Int} (h : x = n / 65536 % 256) : UInt8.ofNat x.toNat = Pr.bt n 2 := by subst h; rfl
theorem be3 {x n : Int} (h : x = n / 16777216 % 256) : UInt8.ofNat x.toNat = Pr.bt n 3 := by subst h; rfl

set_option maxRecDepth 100000 in
theorem refInt1n (n : Int) (w : World) (h1 : -128 ≤ n) (h2 : n < 0) :
    Calls Tryd.prog 12 #[.int .i64 n] w fun e w' => e = .returned (.tuple #[str (Pr.bts n 1), .int .i64 0]) ∧ Below w.heap.size w w' := by
  have c1 := conv1
  have c2 := conv2
  have c3 := conv3
  have c4 := conv4
  go_enter Tryd.func12, Tryd.ntmps12
  go_wp2
  refine wp_loop_rounds 1 ?_
  rw [rounds_succ]
  go_wp2
  refine wp_loop_rounds 2 ?_
  rw [rounds_succ]
  go_wp2
  rw [rounds_succ]
  go_wp2
  go_ret2
  refine ⟨?_, ?_⟩
  · refine congrArg (fun s => Ending.returned (.tuple #[Value.string s, .int .i64 0])) (?_ : _ = (⟨(Pr.bts n 1).toArray⟩ : ByteArray))
    apply Go.WideShapes.bytes_inj
    simp only [ByteArray.data_append, Array.toList_append, List.cons_append, List.nil_append, Pr.bts, List.cons.injEq, and_true]
    exact be0 (by omega)
  repeat (refine Below.alloc ?_ (by simp <;> omega) _)
  exact Below.refl _ _

set_option maxRecDepth 100000 in
theorem refInt1p (n : Int) (w : World) (h1 : 0 ≤ n) (h2 : n < 128) :
    Calls Tryd.prog 12 #[.int .i64 n] w fun e w' => e = .returned (.tuple #[str (Pr.bts n 1), .int .i64 0]) ∧ Below w.heap.size w w' := by
  have c1 := conv1
  have c2 := conv2
  have c3 := conv3
  have c4 := conv4
  go_enter Tryd.func12, Tryd.ntmps12
  go_wp2
  refine wp_loop_rounds 1 ?_
  rw [rounds_succ]
  go_wp2
  refine wp_loop_rounds 2 ?_
  rw [rounds_succ]
  go_wp2
  rw [rounds_succ]
  go_wp2
  go_ret2
  refine ⟨?_, ?_⟩
  · refine congrArg (fun s => Ending.returned (.tuple #[Value.string s, .int .i64 0])) (?_ : _ = (⟨(Pr.bts n 1).toArray⟩ : ByteArray))
    apply Go.WideShapes.bytes_inj
    simp only [ByteArray.data_append, Array.toList_append, List.cons_append, List.nil_append, Pr.bts, List.cons.injEq, and_true]
    exact be0 (by omega)
  repeat (refine Below.alloc ?_ (by simp <;> omega) _)
  exact Below.refl _ _

set_option maxRecDepth 100000 in
theorem refInt2n (n : Int) (w : World) (h1 : -32768 ≤ n) (h2 : n < -128) :
    Calls Tryd.prog 12 #[.int .i64 n] w fun e w' => e = .returned (.tuple #[str (Pr.bts n 2), .int .i64 0]) ∧ Below w.heap.size w w' := by
  have c1 := conv1
  have c2 := conv2
  have c3 := conv3
  have c4 := conv4
  go_enter Tryd.func12, Tryd.ntmps12
  go_wp2
  refine wp_loop_rounds 2 ?_
  rw [rounds_succ]
  go_wp2
  rw [rounds_succ]
  go_wp2
  refine wp_loop_rounds 3 ?_
  rw [rounds_succ]
  go_wp2
  rw [rounds_succ]
  go_wp2
  rw [rounds_succ]
  go_wp2
  go_ret2
  refine ⟨?_, ?_⟩
  · refine congrArg (fun s => Ending.returned (.tuple #[Value.string s, .int .i64 0])) (?_ : _ = (⟨(Pr.bts n 2).toArray⟩ : ByteArray))
    apply Go.WideShapes.bytes_inj
    simp only [ByteArray.data_append, Array.toList_append, List.cons_append, List.nil_append, Pr.bts, List.cons.injEq, and_true]
    exact ⟨be1 (by omega), be0 (by omega)⟩
  repeat (refine Below.alloc ?_ (by simp <;> omega) _)
  exact Below.refl _ _

set_option maxRecDepth 100000 in
theorem refInt2p (n : Int) (w : World) (h1 : 128 ≤ n) (h2 : n < 32768) :
    Calls Tryd.prog 12 #[.int .i64 n] w fun e w' => e = .returned (.tuple #[str (Pr.bts n 2), .int .i64 0]) ∧ Below w.heap.size w w' := by
  have c1 := conv1
  have c2 := conv2
  have c3 := conv3
  have c4 := conv4
  go_enter Tryd.func12, Tryd.ntmps12
  go_wp2
  refine wp_loop_rounds 2 ?_
  rw [rounds_succ]
  go_wp2
  rw [rounds_succ]
  go_wp2
  refine wp_loop_rounds 3 ?_
  rw [rounds_succ]
  go_wp2
  rw [rounds_succ]
  go_wp2
  rw [rounds_succ]
  go_wp2
  go_ret2
  refine ⟨?_, ?_⟩
  · refine congrArg (fun s => Ending.returned (.tuple #[Value.string s, .int .i64 0])) (?_ : _ = (⟨(Pr.bts n 2).toArray⟩ : ByteArray))
    apply Go.WideShapes.bytes_inj
    simp only [ByteArray.data_append, Array.toList_append, List.cons_append, List.nil_append, Pr.bts, List.cons.injEq, and_true]
    exact ⟨be1 (by omega), be0 (by omega)⟩
  repeat (refine Below.alloc ?_ (by simp <;> omega) _)
  exact Below.refl _ _

set_option maxRecDepth 100000 in
theorem refInt3n (n : Int) (w : World) (h1 : -8388608 ≤ n) (h2 : n < -32768) :
    Calls Tryd.prog 12 #[.int .i64 n] w fun e w' => e = .returned (.tuple #[str (Pr.bts n 3), .int .i64 0]) ∧ Below w.heap.size w w' := by
  have c1 := conv1
  have c2 := conv2
  have c3 := conv3
  have c4 := conv4
  go_enter Tryd.func12, Tryd.ntmps12
  go_wp2
  refine wp_loop_rounds 3 ?_
  rw [rounds_succ]
  go_wp2
  rw [rounds_succ]
  go_wp2
  rw [rounds_succ]
  go_wp2
  refine wp_loop_rounds 4 ?_
  rw [rounds_succ]
  go_wp2
  rw [rounds_succ]
  go_wp2
  rw [rounds_succ]
  go_wp2
  rw [rounds_succ]
  go_wp2
  go_ret2
  refine ⟨?_, ?_⟩
  · refine congrArg (fun s => Ending.returned (.tuple #[Value.string s, .int .i64 0])) (?_ : _ = (⟨(Pr.bts n 3).toArray⟩ : ByteArray))
    apply Go.WideShapes.bytes_inj
    simp only [ByteArray.data_append, Array.toList_append, List.cons_append, List.nil_append, Pr.bts, List.cons.injEq, and_true]
    exact ⟨be2 (by omega), be1 (by omega), be0 (by omega)⟩
  repeat (refine Below.alloc ?_ (by simp <;> omega) _)
  exact Below.refl _ _

set_option maxRecDepth 100000 in
theorem refInt3p (n : Int) (w : World) (h1 : 32768 ≤ n) (h2 : n < 8388608) :
    Calls Tryd.prog 12 #[.int .i64 n] w fun e w' => e = .returned (.tuple #[str (Pr.bts n 3), .int .i64 0]) ∧ Below w.heap.size w w' := by
  have c1 := conv1
  have c2 := conv2
  have c3 := conv3
  have c4 := conv4
  go_enter Tryd.func12, Tryd.ntmps12
  go_wp2
  refine wp_loop_rounds 3 ?_
  rw [rounds_succ]
  go_wp2
  rw [rounds_succ]
  go_wp2
  rw [rounds_succ]
  go_wp2
  refine wp_loop_rounds 4 ?_
  rw [rounds_succ]
  go_wp2
  rw [rounds_succ]
  go_wp2
  rw [rounds_succ]
  go_wp2
  rw [rounds_succ]
  go_wp2
  go_ret2
  refine ⟨?_, ?_⟩
  · refine congrArg (fun s => Ending.returned (.tuple #[Value.string s, .int .i64 0])) (?_ : _ = (⟨(Pr.bts n 3).toArray⟩ : ByteArray))
    apply Go.WideShapes.bytes_inj
    simp only [ByteArray.data_append, Array.toList_append, List.cons_append, List.nil_append, Pr.bts, List.cons.injEq, and_true]
    exact ⟨be2 (by omega), be1 (by omega), be0 (by omega)⟩
  repeat (refine Below.alloc ?_ (by simp <;> omega) _)
  exact Below.refl _ _

set_option maxRecDepth 100000 in
theorem refInt4n (n : Int) (w : World) (h1 : -2147483648 ≤ n) (h2 : n < -8388608) :
    Calls Tryd.prog 12 #[.int .i64 n] w fun e w' => e = .returned (.tuple #[str (Pr.bts n 4), .int .i64 0]) ∧ Below w.heap.size w w' := by
  have c1 := conv1
  have c2 := conv2
  have c3 := conv3
  have c4 := conv4
  go_enter Tryd.func12, Tryd.ntmps12
  go_wp2
  refine wp_loop_rounds 4 ?_
  rw [rounds_succ]
  go_wp2
  rw [rounds_succ]
  go_wp2
  rw [rounds_succ]
  go_wp2
  rw [rounds_succ]
  go_wp2
  refine wp_loop_rounds 5 ?_
  rw [rounds_succ]
  go_wp2
  rw [rounds_succ]
  go_wp2
  rw [rounds_succ]
  go_wp2
  rw [rounds_succ]
  go_wp2
  rw [rounds_succ]
  go_wp2
  go_ret2
  refine ⟨?_, ?_⟩
  · refine congrArg (fun s => Ending.returned (.tuple #[Value.string s, .int .i64 0])) (?_ : _ = (⟨(Pr.bts n 4).toArray⟩ : ByteArray))
    apply Go.WideShapes.bytes_inj
    simp only [ByteArray.data_append, Array.toList_append, List.cons_append, List.nil_append, Pr.bts, List.cons.injEq, and_true]
    exact ⟨be3 (by omega), be2 (by omega), be1 (by omega), be0 (by omega)⟩
  repeat (refine Below.alloc ?_ (by simp <;> omega) _)
  exact Below.refl _ _

set_option maxRecDepth 100000 in
theorem refInt4p (n : Int) (w : World) (h1 : 8388608 ≤ n) (h2 : n < 2147483648) :
    Calls Tryd.prog 12 #[.int .i64 n] w fun e w' => e = .returned (.tuple #[str (Pr.bts n 4), .int .i64 0]) ∧ Below w.heap.size w w' := by
  have c1 := conv1
  have c2 := conv2
  have c3 := conv3
  have c4 := conv4
  go_enter Tryd.func12, Tryd.ntmps12
  go_wp2
  refine wp_loop_rounds 4 ?_
  rw [rounds_succ]
  go_wp2
  rw [rounds_succ]
  go_wp2
  rw [rounds_succ]
  go_wp2
  rw [rounds_succ]
  go_wp2
  refine wp_loop_rounds 5 ?_
  rw [rounds_succ]
  go_wp2
  rw [rounds_succ]
  go_wp2
  rw [rounds_succ]
  go_wp2
  rw [rounds_succ]
  go_wp2
  rw [rounds_succ]
  go_wp2
  go_ret2
  refine ⟨?_, ?_⟩
  · refine congrArg (fun s => Ending.returned (.tuple #[Value.string s, .int .i64 0])) (?_ : _ = (⟨(Pr.bts n 4).toArray⟩ : ByteArray))
    apply Go.WideShapes.bytes_inj
    simp only [ByteArray.data_append, Array.toList_append, List.cons_append, List.nil_append, Pr.bts, List.cons.injEq, and_true]
    exact ⟨be3 (by omega), be2 (by omega), be1 (by omega), be0 (by omega)⟩
  repeat (refine Below.alloc ?_ (by simp <;> omega) _)
  exact Below.refl _ _

set_option maxRecDepth 100000 in
theorem refInt0 (n : Int) (w : World) (hr : n < -2147483648 ∨ 2147483647 < n) :
    Calls Tryd.prog 12 #[.int .i64 n] w fun e w' => e = .returned (.tuple #[.string ⟨#[]⟩, .int .i64 30]) ∧ Below w.heap.size w w' := by
  rcases hr with h | h
  · go_enter Tryd.func12, Tryd.ntmps12
    go_wp2
    go_ret2
    exact ⟨rfl, Below.refl _ _⟩
  · have h' : decide (n < -2147483648) = false := decide_eq_false (by omega)
    go_enter Tryd.func12, Tryd.ntmps12
    go_wp2
    go_ret2
    exact ⟨rfl, Below.refl _ _⟩

theorem refInt_any (n : Int) (w : World) :
    Calls Tryd.prog 12 #[.int .i64 n] w fun e w' => e = .returned (.tuple #[str (Pr.enc n), .int .i64 (intA n)]) ∧ Below w.heap.size w w' := by
  unfold intA Pr.enc
  rcases Pr.wd_cases n with ⟨e, hr⟩ | ⟨e, hr⟩ | ⟨e, hr⟩ | ⟨e, hr⟩ | ⟨e, hr⟩ <;> rw [e]
  · by_cases hn : n < 0
    · exact refInt1n n w (by omega) (by omega)
    · exact refInt1p n w (by omega) (by omega)
  · by_cases hn : n < 0
    · exact refInt2n n w (by omega) (by omega)
    · exact refInt2p n w (by omega) (by omega)
  · by_cases hn : n < 0
    · exact refInt3n n w (by omega) (by omega)
    · exact refInt3p n w (by omega) (by omega)
  · by_cases hn : n < 0
    · exact refInt4n n w (by omega) (by omega)
    · exact refInt4p n w (by omega) (by omega)
  · exact refInt0 n w (by omega)

theorem refBool_any (b : Bool) (w : World) :
    Calls Tryd.prog 18 #[.bool b] w fun e w' => e = .returned (.string ⟨#[if b then 255 else 0]⟩) ∧ Below w.heap.size w w' := by
  cases b
  · go_enter Tryd.func18, Tryd.ntmps18
    go_wp2
    go_ret
    exact ⟨rfl, Below.refl _ _⟩
  · go_enter Tryd.func18, Tryd.ntmps18
    go_wp2
    go_ret
    exact ⟨rfl, Below.refl _ _⟩

theorem refReadBool_any (s : ByteArray) (w : World) (hs : s.size ≤ 1000) :
    Calls Tryd.prog 16 #[.string s] w fun e w' => e = .returned (.tuple #[.bool (rb s.data.toList).1, .int .i64 (rb s.data.toList).2]) ∧ Below w.heap.size w w' := by
  by_cases h : s.size = 1
  · obtain ⟨x, rfl⟩ := one_of_size h
    have q0 : (⟨#[x]⟩ : ByteArray)[0]'(Nat.zero_lt_one) = x := rfl
    go_enter Tryd.func16, Tryd.ntmps16
    go_wp2
    go_ret2
    refine ⟨?_, Below.refl _ _⟩
    refine congrArg (fun b => Ending.returned (.tuple #[Value.bool b, .int .i64 0])) (?_ : _ = (x != 0))
    rw [Bool.eq_iff_iff]
    simp only [bne_iff_ne, ne_eq, Int.natCast_eq_zero]
    exact not_congr ⟨fun h => UInt8.toNat.inj h, fun h => by rw [h]; rfl⟩
  · rw [rb_no (by simpa using h)]
    have t1 : ((s.size : Int) == 1) = false := beq_eq_false_iff_ne.2 (by omega)
    have hz' : (s.size : Int) ≤ 1000 := by omega
    clear h hs
    go_enter Tryd.func16, Tryd.ntmps16
    go_wp2
    go_ret2
    exact ⟨rfl, Below.refl _ _⟩
end Go.Proofs.YtjgphpjbcabdeaaDoor.P
