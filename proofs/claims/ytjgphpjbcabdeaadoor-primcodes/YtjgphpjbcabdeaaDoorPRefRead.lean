/-
  What the document's ReadInt (latinerref03) says. Conditions: none.
-/
import Derived.Test.YtjgphpjbcabdeaaDoorPRef
namespace Go.Proofs.YtjgphpjbcabdeaaDoor.P
open Go.RowKit

set_option maxRecDepth 100000 in
theorem refRead1ny (a : UInt8) (l : ByteArray) (w : World) (hs : (128 : Int) ≤ a.toNat) (hd : (l.toList == [a]) = true) (H : Hid (∀ v, v = Pr.val [a] → ∀ w1, Calls Tryd.prog 12 #[.int .i64 v] w1 fun e w' => e = .returned (.tuple #[.string l, .int .i64 0]) ∧ Below w1.heap.size w1 w')) :
    Calls Tryd.prog 14 #[.string ⟨#[a]⟩] w fun e w' => e = .returned (.tuple #[.int .i64 (Pr.val [a]), .int .i64 0]) ∧ Below w.heap.size w w' := by
  have q0 : (⟨#[a]⟩ : ByteArray)[0]'(by show 0 < 1; omega) = a := rfl
  have za : (a.toNat : Int) ≤ 255 := by have := a.toNat_lt; omega
  go_enter Tryd.func14, Tryd.ntmps14
  go_wp2
  refine wp_loop_rounds 2 ?_
  rw [rounds_succ]
  go_wp2
  rw [rounds_succ]
  go_wp2_with fail
  refine ((unhide H) _ ?_ _).mono ?_
  · show _ = Pr.val _
    simp only [Pr.val, Pr.tell, Pr.start, List.foldl_cons, List.foldl_nil]
    rw [if_pos (by omega)]
    omega
  rintro e w2 ⟨rfl, hb⟩
  go_wp2
  go_ret2
  refine ⟨?_, hb⟩
  refine congrArg (fun v => Ending.returned (.tuple #[Value.int .i64 v, .int .i64 0])) (?_ : _ = Pr.val [a])
  · simp only [Pr.val, Pr.tell, Pr.start, List.foldl_cons, List.foldl_nil]
    rw [if_pos (by omega)]
    omega

set_option maxRecDepth 100000 in
theorem refRead1nn (a : UInt8) (l : ByteArray) (w : World) (hs : (128 : Int) ≤ a.toNat) (hd : (l.toList == [a]) = false) (H : Hid (∀ v, v = Pr.val [a] → ∀ w1, Calls Tryd.prog 12 #[.int .i64 v] w1 fun e w' => e = .returned (.tuple #[.string l, .int .i64 0]) ∧ Below w1.heap.size w1 w')) :
    Calls Tryd.prog 14 #[.string ⟨#[a]⟩] w fun e w' => e = .returned (.tuple #[.int .i64 0, .int .i64 30]) ∧ Below w.heap.size w w' := by
  have q0 : (⟨#[a]⟩ : ByteArray)[0]'(by show 0 < 1; omega) = a := rfl
  have za : (a.toNat : Int) ≤ 255 := by have := a.toNat_lt; omega
  go_enter Tryd.func14, Tryd.ntmps14
  go_wp2
  refine wp_loop_rounds 2 ?_
  rw [rounds_succ]
  go_wp2
  rw [rounds_succ]
  go_wp2_with fail
  refine ((unhide H) _ ?_ _).mono ?_
  · show _ = Pr.val _
    simp only [Pr.val, Pr.tell, Pr.start, List.foldl_cons, List.foldl_nil]
    rw [if_pos (by omega)]
    omega
  rintro e w2 ⟨rfl, hb⟩
  go_wp2
  go_ret2
  exact ⟨rfl, hb⟩

set_option maxRecDepth 100000 in
theorem refRead1py (a : UInt8) (l : ByteArray) (w : World) (hs : ¬ (128 : Int) ≤ a.toNat) (hd : (l.toList == [a]) = true) (H : Hid (∀ v, v = Pr.val [a] → ∀ w1, Calls Tryd.prog 12 #[.int .i64 v] w1 fun e w' => e = .returned (.tuple #[.string l, .int .i64 0]) ∧ Below w1.heap.size w1 w')) :
    Calls Tryd.prog 14 #[.string ⟨#[a]⟩] w fun e w' => e = .returned (.tuple #[.int .i64 (Pr.val [a]), .int .i64 0]) ∧ Below w.heap.size w w' := by
  have q0 : (⟨#[a]⟩ : ByteArray)[0]'(by show 0 < 1; omega) = a := rfl
  have za : (a.toNat : Int) ≤ 255 := by have := a.toNat_lt; omega
  go_enter Tryd.func14, Tryd.ntmps14
  go_wp2
  refine wp_loop_rounds 2 ?_
  rw [rounds_succ]
  go_wp2
  rw [rounds_succ]
  go_wp2_with fail
  refine ((unhide H) _ ?_ _).mono ?_
  · show _ = Pr.val _
    simp only [Pr.val, Pr.tell, Pr.start, List.foldl_cons, List.foldl_nil]
    rw [if_neg (by omega)]
    omega
  rintro e w2 ⟨rfl, hb⟩
  go_wp2
  go_ret2
  refine ⟨?_, hb⟩
  refine congrArg (fun v => Ending.returned (.tuple #[Value.int .i64 v, .int .i64 0])) (?_ : _ = Pr.val [a])
  · simp only [Pr.val, Pr.tell, Pr.start, List.foldl_cons, List.foldl_nil]
    rw [if_neg (by omega)]
    omega

set_option maxRecDepth 100000 in
theorem refRead1pn (a : UInt8) (l : ByteArray) (w : World) (hs : ¬ (128 : Int) ≤ a.toNat) (hd : (l.toList == [a]) = false) (H : Hid (∀ v, v = Pr.val [a] → ∀ w1, Calls Tryd.prog 12 #[.int .i64 v] w1 fun e w' => e = .returned (.tuple #[.string l, .int .i64 0]) ∧ Below w1.heap.size w1 w')) :
    Calls Tryd.prog 14 #[.string ⟨#[a]⟩] w fun e w' => e = .returned (.tuple #[.int .i64 0, .int .i64 30]) ∧ Below w.heap.size w w' := by
  have q0 : (⟨#[a]⟩ : ByteArray)[0]'(by show 0 < 1; omega) = a := rfl
  have za : (a.toNat : Int) ≤ 255 := by have := a.toNat_lt; omega
  go_enter Tryd.func14, Tryd.ntmps14
  go_wp2
  refine wp_loop_rounds 2 ?_
  rw [rounds_succ]
  go_wp2
  rw [rounds_succ]
  go_wp2_with fail
  refine ((unhide H) _ ?_ _).mono ?_
  · show _ = Pr.val _
    simp only [Pr.val, Pr.tell, Pr.start, List.foldl_cons, List.foldl_nil]
    rw [if_neg (by omega)]
    omega
  rintro e w2 ⟨rfl, hb⟩
  go_wp2
  go_ret2
  exact ⟨rfl, hb⟩

set_option maxRecDepth 100000 in
theorem refRead2ny (a b : UInt8) (l : ByteArray) (w : World) (hs : (128 : Int) ≤ a.toNat) (hd : (l.toList == [a, b]) = true) (H : Hid (∀ v, v = Pr.val [a, b] → ∀ w1, Calls Tryd.prog 12 #[.int .i64 v] w1 fun e w' => e = .returned (.tuple #[.string l, .int .i64 0]) ∧ Below w1.heap.size w1 w')) :
    Calls Tryd.prog 14 #[.string ⟨#[a, b]⟩] w fun e w' => e = .returned (.tuple #[.int .i64 (Pr.val [a, b]), .int .i64 0]) ∧ Below w.heap.size w w' := by
  have q0 : (⟨#[a, b]⟩ : ByteArray)[0]'(by show 0 < 2; omega) = a := rfl
  have q1 : (⟨#[a, b]⟩ : ByteArray)[1]'(by show 1 < 2; omega) = b := rfl
  have za : (a.toNat : Int) ≤ 255 := by have := a.toNat_lt; omega
  have zb : (b.toNat : Int) ≤ 255 := by have := b.toNat_lt; omega
  go_enter Tryd.func14, Tryd.ntmps14
  go_wp2
  refine wp_loop_rounds 3 ?_
  rw [rounds_succ]
  go_wp2
  rw [rounds_succ]
  go_wp2
  rw [rounds_succ]
  go_wp2_with fail
  refine ((unhide H) _ ?_ _).mono ?_
  · show _ = Pr.val _
    simp only [Pr.val, Pr.tell, Pr.start, List.foldl_cons, List.foldl_nil]
    rw [if_pos (by omega)]
    omega
  rintro e w2 ⟨rfl, hb⟩
  go_wp2
  go_ret2
  refine ⟨?_, hb⟩
  refine congrArg (fun v => Ending.returned (.tuple #[Value.int .i64 v, .int .i64 0])) (?_ : _ = Pr.val [a, b])
  · simp only [Pr.val, Pr.tell, Pr.start, List.foldl_cons, List.foldl_nil]
    rw [if_pos (by omega)]
    omega

set_option maxRecDepth 100000 in
theorem refRead2nn (a b : UInt8) (l : ByteArray) (w : World) (hs : (128 : Int) ≤ a.toNat) (hd : (l.toList == [a, b]) = false) (H : Hid (∀ v, v = Pr.val [a, b] → ∀ w1, Calls Tryd.prog 12 #[.int .i64 v] w1 fun e w' => e = .returned (.tuple #[.string l, .int .i64 0]) ∧ Below w1.heap.size w1 w')) :
    Calls Tryd.prog 14 #[.string ⟨#[a, b]⟩] w fun e w' => e = .returned (.tuple #[.int .i64 0, .int .i64 30]) ∧ Below w.heap.size w w' := by
  have q0 : (⟨#[a, b]⟩ : ByteArray)[0]'(by show 0 < 2; omega) = a := rfl
  have q1 : (⟨#[a, b]⟩ : ByteArray)[1]'(by show 1 < 2; omega) = b := rfl
  have za : (a.toNat : Int) ≤ 255 := by have := a.toNat_lt; omega
  have zb : (b.toNat : Int) ≤ 255 := by have := b.toNat_lt; omega
  go_enter Tryd.func14, Tryd.ntmps14
  go_wp2
  refine wp_loop_rounds 3 ?_
  rw [rounds_succ]
  go_wp2
  rw [rounds_succ]
  go_wp2
  rw [rounds_succ]
  go_wp2_with fail
  refine ((unhide H) _ ?_ _).mono ?_
  · show _ = Pr.val _
    simp only [Pr.val, Pr.tell, Pr.start, List.foldl_cons, List.foldl_nil]
    rw [if_pos (by omega)]
    omega
  rintro e w2 ⟨rfl, hb⟩
  go_wp2
  go_ret2
  exact ⟨rfl, hb⟩

set_option maxRecDepth 100000 in
theorem refRead2py (a b : UInt8) (l : ByteArray) (w : World) (hs : ¬ (128 : Int) ≤ a.toNat) (hd : (l.toList == [a, b]) = true) (H : Hid (∀ v, v = Pr.val [a, b] → ∀ w1, Calls Tryd.prog 12 #[.int .i64 v] w1 fun e w' => e = .returned (.tuple #[.string l, .int .i64 0]) ∧ Below w1.heap.size w1 w')) :
    Calls Tryd.prog 14 #[.string ⟨#[a, b]⟩] w fun e w' => e = .returned (.tuple #[.int .i64 (Pr.val [a, b]), .int .i64 0]) ∧ Below w.heap.size w w' := by
  have q0 : (⟨#[a, b]⟩ : ByteArray)[0]'(by show 0 < 2; omega) = a := rfl
  have q1 : (⟨#[a, b]⟩ : ByteArray)[1]'(by show 1 < 2; omega) = b := rfl
  have za : (a.toNat : Int) ≤ 255 := by have := a.toNat_lt; omega
  have zb : (b.toNat : Int) ≤ 255 := by have := b.toNat_lt; omega
  go_enter Tryd.func14, Tryd.ntmps14
  go_wp2
  refine wp_loop_rounds 3 ?_
  rw [rounds_succ]
  go_wp2
  rw [rounds_succ]
  go_wp2
  rw [rounds_succ]
  go_wp2_with fail
  refine ((unhide H) _ ?_ _).mono ?_
  · show _ = Pr.val _
    simp only [Pr.val, Pr.tell, Pr.start, List.foldl_cons, List.foldl_nil]
    rw [if_neg (by omega)]
    omega
  rintro e w2 ⟨rfl, hb⟩
  go_wp2
  go_ret2
  refine ⟨?_, hb⟩
  refine congrArg (fun v => Ending.returned (.tuple #[Value.int .i64 v, .int .i64 0])) (?_ : _ = Pr.val [a, b])
  · simp only [Pr.val, Pr.tell, Pr.start, List.foldl_cons, List.foldl_nil]
    rw [if_neg (by omega)]
    omega

set_option maxRecDepth 100000 in
theorem refRead2pn (a b : UInt8) (l : ByteArray) (w : World) (hs : ¬ (128 : Int) ≤ a.toNat) (hd : (l.toList == [a, b]) = false) (H : Hid (∀ v, v = Pr.val [a, b] → ∀ w1, Calls Tryd.prog 12 #[.int .i64 v] w1 fun e w' => e = .returned (.tuple #[.string l, .int .i64 0]) ∧ Below w1.heap.size w1 w')) :
    Calls Tryd.prog 14 #[.string ⟨#[a, b]⟩] w fun e w' => e = .returned (.tuple #[.int .i64 0, .int .i64 30]) ∧ Below w.heap.size w w' := by
  have q0 : (⟨#[a, b]⟩ : ByteArray)[0]'(by show 0 < 2; omega) = a := rfl
  have q1 : (⟨#[a, b]⟩ : ByteArray)[1]'(by show 1 < 2; omega) = b := rfl
  have za : (a.toNat : Int) ≤ 255 := by have := a.toNat_lt; omega
  have zb : (b.toNat : Int) ≤ 255 := by have := b.toNat_lt; omega
  go_enter Tryd.func14, Tryd.ntmps14
  go_wp2
  refine wp_loop_rounds 3 ?_
  rw [rounds_succ]
  go_wp2
  rw [rounds_succ]
  go_wp2
  rw [rounds_succ]
  go_wp2_with fail
  refine ((unhide H) _ ?_ _).mono ?_
  · show _ = Pr.val _
    simp only [Pr.val, Pr.tell, Pr.start, List.foldl_cons, List.foldl_nil]
    rw [if_neg (by omega)]
    omega
  rintro e w2 ⟨rfl, hb⟩
  go_wp2
  go_ret2
  exact ⟨rfl, hb⟩

set_option maxRecDepth 100000 in
theorem refRead3ny (a b c : UInt8) (l : ByteArray) (w : World) (hs : (128 : Int) ≤ a.toNat) (hd : (l.toList == [a, b, c]) = true) (H : Hid (∀ v, v = Pr.val [a, b, c] → ∀ w1, Calls Tryd.prog 12 #[.int .i64 v] w1 fun e w' => e = .returned (.tuple #[.string l, .int .i64 0]) ∧ Below w1.heap.size w1 w')) :
    Calls Tryd.prog 14 #[.string ⟨#[a, b, c]⟩] w fun e w' => e = .returned (.tuple #[.int .i64 (Pr.val [a, b, c]), .int .i64 0]) ∧ Below w.heap.size w w' := by
  have q0 : (⟨#[a, b, c]⟩ : ByteArray)[0]'(by show 0 < 3; omega) = a := rfl
  have q1 : (⟨#[a, b, c]⟩ : ByteArray)[1]'(by show 1 < 3; omega) = b := rfl
  have q2 : (⟨#[a, b, c]⟩ : ByteArray)[2]'(by show 2 < 3; omega) = c := rfl
  have za : (a.toNat : Int) ≤ 255 := by have := a.toNat_lt; omega
  have zb : (b.toNat : Int) ≤ 255 := by have := b.toNat_lt; omega
  have zc : (c.toNat : Int) ≤ 255 := by have := c.toNat_lt; omega
  go_enter Tryd.func14, Tryd.ntmps14
  go_wp2
  refine wp_loop_rounds 4 ?_
  rw [rounds_succ]
  go_wp2
  rw [rounds_succ]
  go_wp2
  rw [rounds_succ]
  go_wp2
  rw [rounds_succ]
  go_wp2_with fail
  refine ((unhide H) _ ?_ _).mono ?_
  · show _ = Pr.val _
    simp only [Pr.val, Pr.tell, Pr.start, List.foldl_cons, List.foldl_nil]
    rw [if_pos (by omega)]
    omega
  rintro e w2 ⟨rfl, hb⟩
  go_wp2
  go_ret2
  refine ⟨?_, hb⟩
  refine congrArg (fun v => Ending.returned (.tuple #[Value.int .i64 v, .int .i64 0])) (?_ : _ = Pr.val [a, b, c])
  · simp only [Pr.val, Pr.tell, Pr.start, List.foldl_cons, List.foldl_nil]
    rw [if_pos (by omega)]
    omega

set_option maxRecDepth 100000 in
theorem refRead3nn (a b c : UInt8) (l : ByteArray) (w : World) (hs : (128 : Int) ≤ a.toNat) (hd : (l.toList == [a, b, c]) = false) (H : Hid (∀ v, v = Pr.val [a, b, c] → ∀ w1, Calls Tryd.prog 12 #[.int .i64 v] w1 fun e w' => e = .returned (.tuple #[.string l, .int .i64 0]) ∧ Below w1.heap.size w1 w')) :
    Calls Tryd.prog 14 #[.string ⟨#[a, b, c]⟩] w fun e w' => e = .returned (.tuple #[.int .i64 0, .int .i64 30]) ∧ Below w.heap.size w w' := by
  have q0 : (⟨#[a, b, c]⟩ : ByteArray)[0]'(by show 0 < 3; omega) = a := rfl
  have q1 : (⟨#[a, b, c]⟩ : ByteArray)[1]'(by show 1 < 3; omega) = b := rfl
  have q2 : (⟨#[a, b, c]⟩ : ByteArray)[2]'(by show 2 < 3; omega) = c := rfl
  have za : (a.toNat : Int) ≤ 255 := by have := a.toNat_lt; omega
  have zb : (b.toNat : Int) ≤ 255 := by have := b.toNat_lt; omega
  have zc : (c.toNat : Int) ≤ 255 := by have := c.toNat_lt; omega
  go_enter Tryd.func14, Tryd.ntmps14
  go_wp2
  refine wp_loop_rounds 4 ?_
  rw [rounds_succ]
  go_wp2
  rw [rounds_succ]
  go_wp2
  rw [rounds_succ]
  go_wp2
  rw [rounds_succ]
  go_wp2_with fail
  refine ((unhide H) _ ?_ _).mono ?_
  · show _ = Pr.val _
    simp only [Pr.val, Pr.tell, Pr.start, List.foldl_cons, List.foldl_nil]
    rw [if_pos (by omega)]
    omega
  rintro e w2 ⟨rfl, hb⟩
  go_wp2
  go_ret2
  exact ⟨rfl, hb⟩

set_option maxRecDepth 100000 in
theorem refRead3py (a b c : UInt8) (l : ByteArray) (w : World) (hs : ¬ (128 : Int) ≤ a.toNat) (hd : (l.toList == [a, b, c]) = true) (H : Hid (∀ v, v = Pr.val [a, b, c] → ∀ w1, Calls Tryd.prog 12 #[.int .i64 v] w1 fun e w' => e = .returned (.tuple #[.string l, .int .i64 0]) ∧ Below w1.heap.size w1 w')) :
    Calls Tryd.prog 14 #[.string ⟨#[a, b, c]⟩] w fun e w' => e = .returned (.tuple #[.int .i64 (Pr.val [a, b, c]), .int .i64 0]) ∧ Below w.heap.size w w' := by
  have q0 : (⟨#[a, b, c]⟩ : ByteArray)[0]'(by show 0 < 3; omega) = a := rfl
  have q1 : (⟨#[a, b, c]⟩ : ByteArray)[1]'(by show 1 < 3; omega) = b := rfl
  have q2 : (⟨#[a, b, c]⟩ : ByteArray)[2]'(by show 2 < 3; omega) = c := rfl
  have za : (a.toNat : Int) ≤ 255 := by have := a.toNat_lt; omega
  have zb : (b.toNat : Int) ≤ 255 := by have := b.toNat_lt; omega
  have zc : (c.toNat : Int) ≤ 255 := by have := c.toNat_lt; omega
  go_enter Tryd.func14, Tryd.ntmps14
  go_wp2
  refine wp_loop_rounds 4 ?_
  rw [rounds_succ]
  go_wp2
  rw [rounds_succ]
  go_wp2
  rw [rounds_succ]
  go_wp2
  rw [rounds_succ]
  go_wp2_with fail
  refine ((unhide H) _ ?_ _).mono ?_
  · show _ = Pr.val _
    simp only [Pr.val, Pr.tell, Pr.start, List.foldl_cons, List.foldl_nil]
    rw [if_neg (by omega)]
    omega
  rintro e w2 ⟨rfl, hb⟩
  go_wp2
  go_ret2
  refine ⟨?_, hb⟩
  refine congrArg (fun v => Ending.returned (.tuple #[Value.int .i64 v, .int .i64 0])) (?_ : _ = Pr.val [a, b, c])
  · simp only [Pr.val, Pr.tell, Pr.start, List.foldl_cons, List.foldl_nil]
    rw [if_neg (by omega)]
    omega

set_option maxRecDepth 100000 in
theorem refRead3pn (a b c : UInt8) (l : ByteArray) (w : World) (hs : ¬ (128 : Int) ≤ a.toNat) (hd : (l.toList == [a, b, c]) = false) (H : Hid (∀ v, v = Pr.val [a, b, c] → ∀ w1, Calls Tryd.prog 12 #[.int .i64 v] w1 fun e w' => e = .returned (.tuple #[.string l, .int .i64 0]) ∧ Below w1.heap.size w1 w')) :
    Calls Tryd.prog 14 #[.string ⟨#[a, b, c]⟩] w fun e w' => e = .returned (.tuple #[.int .i64 0, .int .i64 30]) ∧ Below w.heap.size w w' := by
  have q0 : (⟨#[a, b, c]⟩ : ByteArray)[0]'(by show 0 < 3; omega) = a := rfl
  have q1 : (⟨#[a, b, c]⟩ : ByteArray)[1]'(by show 1 < 3; omega) = b := rfl
  have q2 : (⟨#[a, b, c]⟩ : ByteArray)[2]'(by show 2 < 3; omega) = c := rfl
  have za : (a.toNat : Int) ≤ 255 := by have := a.toNat_lt; omega
  have zb : (b.toNat : Int) ≤ 255 := by have := b.toNat_lt; omega
  have zc : (c.toNat : Int) ≤ 255 := by have := c.toNat_lt; omega
  go_enter Tryd.func14, Tryd.ntmps14
  go_wp2
  refine wp_loop_rounds 4 ?_
  rw [rounds_succ]
  go_wp2
  rw [rounds_succ]
  go_wp2
  rw [rounds_succ]
  go_wp2
  rw [rounds_succ]
  go_wp2_with fail
  refine ((unhide H) _ ?_ _).mono ?_
  · show _ = Pr.val _
    simp only [Pr.val, Pr.tell, Pr.start, List.foldl_cons, List.foldl_nil]
    rw [if_neg (by omega)]
    omega
  rintro e w2 ⟨rfl, hb⟩
  go_wp2
  go_ret2
  exact ⟨rfl, hb⟩

set_option maxRecDepth 100000 in
theorem refRead4ny (a b c d : UInt8) (l : ByteArray) (w : World) (hs : (128 : Int) ≤ a.toNat) (hd : (l.toList == [a, b, c, d]) = true) (H : Hid (∀ v, v = Pr.val [a, b, c, d] → ∀ w1, Calls Tryd.prog 12 #[.int .i64 v] w1 fun e w' => e = .returned (.tuple #[.string l, .int .i64 0]) ∧ Below w1.heap.size w1 w')) :
    Calls Tryd.prog 14 #[.string ⟨#[a, b, c, d]⟩] w fun e w' => e = .returned (.tuple #[.int .i64 (Pr.val [a, b, c, d]), .int .i64 0]) ∧ Below w.heap.size w w' := by
  have q0 : (⟨#[a, b, c, d]⟩ : ByteArray)[0]'(by show 0 < 4; omega) = a := rfl
  have q1 : (⟨#[a, b, c, d]⟩ : ByteArray)[1]'(by show 1 < 4; omega) = b := rfl
  have q2 : (⟨#[a, b, c, d]⟩ : ByteArray)[2]'(by show 2 < 4; omega) = c := rfl
  have q3 : (⟨#[a, b, c, d]⟩ : ByteArray)[3]'(by show 3 < 4; omega) = d := rfl
  have za : (a.toNat : Int) ≤ 255 := by have := a.toNat_lt; omega
  have zb : (b.toNat : Int) ≤ 255 := by have := b.toNat_lt; omega
  have zc : (c.toNat : Int) ≤ 255 := by have := c.toNat_lt; omega
  have zd : (d.toNat : Int) ≤ 255 := by have := d.toNat_lt; omega
  go_enter Tryd.func14, Tryd.ntmps14
  go_wp2
  refine wp_loop_rounds 5 ?_
  rw [rounds_succ]
  go_wp2
  rw [rounds_succ]
  go_wp2
  rw [rounds_succ]
  go_wp2
  rw [rounds_succ]
  go_wp2
  rw [rounds_succ]
  go_wp2_with fail
  refine ((unhide H) _ ?_ _).mono ?_
  · show _ = Pr.val _
    simp only [Pr.val, Pr.tell, Pr.start, List.foldl_cons, List.foldl_nil]
    rw [if_pos (by omega)]
    omega
  rintro e w2 ⟨rfl, hb⟩
  go_wp2
  go_ret2
  refine ⟨?_, hb⟩
  refine congrArg (fun v => Ending.returned (.tuple #[Value.int .i64 v, .int .i64 0])) (?_ : _ = Pr.val [a, b, c, d])
  · simp only [Pr.val, Pr.tell, Pr.start, List.foldl_cons, List.foldl_nil]
    rw [if_pos (by omega)]
    omega

set_option maxRecDepth 100000 in
theorem refRead4nn (a b c d : UInt8) (l : ByteArray) (w : World) (hs : (128 : Int) ≤ a.toNat) (hd : (l.toList == [a, b, c, d]) = false) (H : Hid (∀ v, v = Pr.val [a, b, c, d] → ∀ w1, Calls Tryd.prog 12 #[.int .i64 v] w1 fun e w' => e = .returned (.tuple #[.string l, .int .i64 0]) ∧ Below w1.heap.size w1 w')) :
    Calls Tryd.prog 14 #[.string ⟨#[a, b, c, d]⟩] w fun e w' => e = .returned (.tuple #[.int .i64 0, .int .i64 30]) ∧ Below w.heap.size w w' := by
  have q0 : (⟨#[a, b, c, d]⟩ : ByteArray)[0]'(by show 0 < 4; omega) = a := rfl
  have q1 : (⟨#[a, b, c, d]⟩ : ByteArray)[1]'(by show 1 < 4; omega) = b := rfl
  have q2 : (⟨#[a, b, c, d]⟩ : ByteArray)[2]'(by show 2 < 4; omega) = c := rfl
  have q3 : (⟨#[a, b, c, d]⟩ : ByteArray)[3]'(by show 3 < 4; omega) = d := rfl
  have za : (a.toNat : Int) ≤ 255 := by have := a.toNat_lt; omega
  have zb : (b.toNat : Int) ≤ 255 := by have := b.toNat_lt; omega
  have zc : (c.toNat : Int) ≤ 255 := by have := c.toNat_lt; omega
  have zd : (d.toNat : Int) ≤ 255 := by have := d.toNat_lt; omega
  go_enter Tryd.func14, Tryd.ntmps14
  go_wp2
  refine wp_loop_rounds 5 ?_
  rw [rounds_succ]
  go_wp2
  rw [rounds_succ]
  go_wp2
  rw [rounds_succ]
  go_wp2
  rw [rounds_succ]
  go_wp2
  rw [rounds_succ]
  go_wp2_with fail
  refine ((unhide H) _ ?_ _).mono ?_
  · show _ = Pr.val _
    simp only [Pr.val, Pr.tell, Pr.start, List.foldl_cons, List.foldl_nil]
    rw [if_pos (by omega)]
    omega
  rintro e w2 ⟨rfl, hb⟩
  go_wp2
  go_ret2
  exact ⟨rfl, hb⟩

set_option maxRecDepth 100000 in
theorem refRead4py (a b c d : UInt8) (l : ByteArray) (w : World) (hs : ¬ (128 : Int) ≤ a.toNat) (hd : (l.toList == [a, b, c, d]) = true) (H : Hid (∀ v, v = Pr.val [a, b, c, d] → ∀ w1, Calls Tryd.prog 12 #[.int .i64 v] w1 fun e w' => e = .returned (.tuple #[.string l, .int .i64 0]) ∧ Below w1.heap.size w1 w')) :
    Calls Tryd.prog 14 #[.string ⟨#[a, b, c, d]⟩] w fun e w' => e = .returned (.tuple #[.int .i64 (Pr.val [a, b, c, d]), .int .i64 0]) ∧ Below w.heap.size w w' := by
  have q0 : (⟨#[a, b, c, d]⟩ : ByteArray)[0]'(by show 0 < 4; omega) = a := rfl
  have q1 : (⟨#[a, b, c, d]⟩ : ByteArray)[1]'(by show 1 < 4; omega) = b := rfl
  have q2 : (⟨#[a, b, c, d]⟩ : ByteArray)[2]'(by show 2 < 4; omega) = c := rfl
  have q3 : (⟨#[a, b, c, d]⟩ : ByteArray)[3]'(by show 3 < 4; omega) = d := rfl
  have za : (a.toNat : Int) ≤ 255 := by have := a.toNat_lt; omega
  have zb : (b.toNat : Int) ≤ 255 := by have := b.toNat_lt; omega
  have zc : (c.toNat : Int) ≤ 255 := by have := c.toNat_lt; omega
  have zd : (d.toNat : Int) ≤ 255 := by have := d.toNat_lt; omega
  go_enter Tryd.func14, Tryd.ntmps14
  go_wp2
  refine wp_loop_rounds 5 ?_
  rw [rounds_succ]
  go_wp2
  rw [rounds_succ]
  go_wp2
  rw [rounds_succ]
  go_wp2
  rw [rounds_succ]
  go_wp2
  rw [rounds_succ]
  go_wp2_with fail
  refine ((unhide H) _ ?_ _).mono ?_
  · show _ = Pr.val _
    simp only [Pr.val, Pr.tell, Pr.start, List.foldl_cons, List.foldl_nil]
    rw [if_neg (by omega)]
    omega
  rintro e w2 ⟨rfl, hb⟩
  go_wp2
  go_ret2
  refine ⟨?_, hb⟩
  refine congrArg (fun v => Ending.returned (.tuple #[Value.int .i64 v, .int .i64 0])) (?_ : _ = Pr.val [a, b, c, d])
  · simp only [Pr.val, Pr.tell, Pr.start, List.foldl_cons, List.foldl_nil]
    rw [if_neg (by omega)]
    omega

set_option maxRecDepth 100000 in
theorem refRead4pn (a b c d : UInt8) (l : ByteArray) (w : World) (hs : ¬ (128 : Int) ≤ a.toNat) (hd : (l.toList == [a, b, c, d]) = false) (H : Hid (∀ v, v = Pr.val [a, b, c, d] → ∀ w1, Calls Tryd.prog 12 #[.int .i64 v] w1 fun e w' => e = .returned (.tuple #[.string l, .int .i64 0]) ∧ Below w1.heap.size w1 w')) :
    Calls Tryd.prog 14 #[.string ⟨#[a, b, c, d]⟩] w fun e w' => e = .returned (.tuple #[.int .i64 0, .int .i64 30]) ∧ Below w.heap.size w w' := by
  have q0 : (⟨#[a, b, c, d]⟩ : ByteArray)[0]'(by show 0 < 4; omega) = a := rfl
  have q1 : (⟨#[a, b, c, d]⟩ : ByteArray)[1]'(by show 1 < 4; omega) = b := rfl
  have q2 : (⟨#[a, b, c, d]⟩ : ByteArray)[2]'(by show 2 < 4; omega) = c := rfl
  have q3 : (⟨#[a, b, c, d]⟩ : ByteArray)[3]'(by show 3 < 4; omega) = d := rfl
  have za : (a.toNat : Int) ≤ 255 := by have := a.toNat_lt; omega
  have zb : (b.toNat : Int) ≤ 255 := by have := b.toNat_lt; omega
  have zc : (c.toNat : Int) ≤ 255 := by have := c.toNat_lt; omega
  have zd : (d.toNat : Int) ≤ 255 := by have := d.toNat_lt; omega
  go_enter Tryd.func14, Tryd.ntmps14
  go_wp2
  refine wp_loop_rounds 5 ?_
  rw [rounds_succ]
  go_wp2
  rw [rounds_succ]
  go_wp2
  rw [rounds_succ]
  go_wp2
  rw [rounds_succ]
  go_wp2
  rw [rounds_succ]
  go_wp2_with fail
  refine ((unhide H) _ ?_ _).mono ?_
  · show _ = Pr.val _
    simp only [Pr.val, Pr.tell, Pr.start, List.foldl_cons, List.foldl_nil]
    rw [if_neg (by omega)]
    omega
  rintro e w2 ⟨rfl, hb⟩
  go_wp2
  go_ret2
  exact ⟨rfl, hb⟩


theorem refRead_len (s : ByteArray) (w : World) (hs : s.size ≤ 1000) (h : ¬ (1 ≤ s.size ∧ s.size ≤ 4)) :
    Calls Tryd.prog 14 #[.string s] w fun e w' => e = .returned (.tuple #[.int .i64 0, .int .i64 30]) ∧ Below w.heap.size w w' := by
  have z : (s.size : Int) ≤ 1000 := by omega
  by_cases h1 : s.size < 1
  · have h1' : (s.size : Int) < 1 := by omega
    clear h h1
    go_enter Tryd.func14, Tryd.ntmps14
    go_wp2
    go_ret2
    exact ⟨rfl, Below.refl _ _⟩
  · have h1' : decide ((s.size : Int) < 1) = false := decide_eq_false (by omega)
    have h4' : 4 < (s.size : Int) := by omega
    clear h h1
    go_enter Tryd.func14, Tryd.ntmps14
    go_wp2
    go_ret2
    exact ⟨rfl, Below.refl _ _⟩

theorem enL (n : Int) : (⟨(Pr.enc n).toArray⟩ : ByteArray).toList = Pr.enc n := by rw [ByteArray.toList_eq]
theorem refReadInt_any (s : ByteArray) (w : World) (hs : s.size ≤ 1000) :
    Calls Tryd.prog 14 #[.string s] w fun e w' => e = .returned (.tuple #[.int .i64 (Pr.dec s.data.toList).1, .int .i64 (Pr.dec s.data.toList).2]) ∧ Below w.heap.size w w' := by
  by_cases h : 1 ≤ s.size ∧ s.size ≤ 4
  · obtain ⟨⟨l⟩⟩ := s
    have h1 : 1 ≤ l.length := h.1
    have h4 : l.length ≤ 4 := h.2
    have hw := Pr.wd_val l h1 h4
    have H : Hid (∀ v, v = Pr.val l → ∀ w1, Calls Tryd.prog 12 #[.int .i64 v] w1 fun e w' => e = .returned (.tuple #[.string ⟨(Pr.enc (Pr.val l)).toArray⟩, .int .i64 0]) ∧ Below w1.heap.size w1 w') := fun v hv w1 => by
      subst hv
      have := refInt_any (Pr.val l) w1
      unfold intA at this
      rwa [if_neg hw.2] at this
    have hl := enL (Pr.val l)
    by_cases he : Pr.wd (Pr.val l) = l.length
    · have hd := Pr.dec_fine l h1 h4 he
      have eq : (⟨(Pr.enc (Pr.val l)).toArray⟩ : ByteArray).toList == l := by rw [hl]; unfold Pr.enc; rw [he, Pr.bts_val l h1 h4]; exact beq_self_eq_true l
      show Calls Tryd.prog 14 #[.string ⟨⟨l⟩⟩] w fun e w' => e = .returned (.tuple #[.int .i64 (Pr.dec l).1, .int .i64 (Pr.dec l).2]) ∧ Below w.heap.size w w'
      rw [hd]
      rcases Pr.list_cases h1 h4 with ⟨a, rfl⟩ | ⟨a, b, rfl⟩ | ⟨a, b, c, rfl⟩ | ⟨a, b, c, d, rfl⟩ <;> by_cases sg : (128 : Int) ≤ a.toNat
      · exact refRead1ny a _ w sg eq H
      · exact refRead1py a _ w sg eq H
      · exact refRead2ny a b _ w sg eq H
      · exact refRead2py a b _ w sg eq H
      · exact refRead3ny a b c _ w sg eq H
      · exact refRead3py a b c _ w sg eq H
      · exact refRead4ny a b c d _ w sg eq H
      · exact refRead4py a b c d _ w sg eq H
    · have hd := Pr.dec_few l (by omega)
      have eq : ((⟨(Pr.enc (Pr.val l)).toArray⟩ : ByteArray).toList == l) = false := by
        rw [hl]
        exact beq_eq_false_iff_ne.2 fun e => he (by have := congrArg List.length e; rwa [Pr.enc_length] at this)
      show Calls Tryd.prog 14 #[.string ⟨⟨l⟩⟩] w fun e w' => e = .returned (.tuple #[.int .i64 (Pr.dec l).1, .int .i64 (Pr.dec l).2]) ∧ Below w.heap.size w w'
      rw [hd]
      rcases Pr.list_cases h1 h4 with ⟨a, rfl⟩ | ⟨a, b, rfl⟩ | ⟨a, b, c, rfl⟩ | ⟨a, b, c, d, rfl⟩ <;> by_cases sg : (128 : Int) ≤ a.toNat
      · exact refRead1nn a _ w sg eq H
      · exact refRead1pn a _ w sg eq H
      · exact refRead2nn a b _ w sg eq H
      · exact refRead2pn a b _ w sg eq H
      · exact refRead3nn a b c _ w sg eq H
      · exact refRead3pn a b c _ w sg eq H
      · exact refRead4nn a b c d _ w sg eq H
      · exact refRead4pn a b c d _ w sg eq H
  · have hd : Pr.dec s.data.toList = (0, 30) := by
      unfold Pr.dec
      rw [if_neg]
      have : s.data.toList.length = s.size := by simp
      omega
    rw [hd]
    exact refRead_len s w hs h
end Go.Proofs.YtjgphpjbcabdeaaDoor.P
