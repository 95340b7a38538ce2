/-
  What prim.width.holds and prim.numberOf answer at every number. Conditions: none.
-/
import Derived.Test.YtjgphpjbcabdeaaDoorProg
import Derived.WalkKit
import Derived.Test.YtjgphpjbcabdeaaDoorPPure
namespace Go.Proofs.YtjgphpjbcabdeaaDoor.P
open Go.RowKit

set_option maxRecDepth 100000 in
theorem holds1 (n : Int) (w : World) :
    Calls Tryd.prog 24 #[.agg #[.int .i64 1], .int .i64 n] w fun e w' => e = .returned (.bool (n / 128 == 0 || n / 128 == -1)) ∧ w' = w.alloc (.cells #[.int .i64 1] 37) := by
  go_enter Tryd.func24, Tryd.ntmps24
  go_wp2 <;> (go_ret; exact ⟨by simp_all, rfl⟩)
set_option maxRecDepth 100000 in
theorem holds2 (n : Int) (w : World) :
    Calls Tryd.prog 24 #[.agg #[.int .i64 2], .int .i64 n] w fun e w' => e = .returned (.bool (n / 32768 == 0 || n / 32768 == -1)) ∧ w' = w.alloc (.cells #[.int .i64 2] 37) := by
  go_enter Tryd.func24, Tryd.ntmps24
  go_wp2 <;> (go_ret; exact ⟨by simp_all, rfl⟩)
set_option maxRecDepth 100000 in
theorem holds3 (n : Int) (w : World) :
    Calls Tryd.prog 24 #[.agg #[.int .i64 3], .int .i64 n] w fun e w' => e = .returned (.bool (n / 8388608 == 0 || n / 8388608 == -1)) ∧ w' = w.alloc (.cells #[.int .i64 3] 37) := by
  go_enter Tryd.func24, Tryd.ntmps24
  go_wp2 <;> (go_ret; exact ⟨by simp_all, rfl⟩)
set_option maxRecDepth 100000 in
theorem holds4 (n : Int) (w : World) :
    Calls Tryd.prog 24 #[.agg #[.int .i64 4], .int .i64 n] w fun e w' => e = .returned (.bool (n / 2147483648 == 0 || n / 2147483648 == -1)) ∧ w' = w.alloc (.cells #[.int .i64 4] 37) := by
  go_enter Tryd.func24, Tryd.ntmps24
  go_wp2 <;> (go_ret; exact ⟨by simp_all, rfl⟩)

/-- a width that holds a number, and one that does not. -/
def Holds (k n : Int) (b : Bool) : Prop := ∀ w, Calls Tryd.prog 24 #[.agg #[.int .i64 k], .int .i64 n] w fun e w' => e = .returned (.bool b) ∧ w' = w.alloc (.cells #[.int .i64 k] 37)
theorem h1 (n : Int) (b : Bool) (h : b = decide (-128 ≤ n ∧ n ≤ 127)) : Holds 1 n b := fun w => by
  have := holds1 n w
  rwa [show (n / 128 == 0 || n / 128 == -1) = b by subst h; rw [Bool.eq_iff_iff]; simp; omega] at this
theorem h2 (n : Int) (b : Bool) (h : b = decide (-32768 ≤ n ∧ n ≤ 32767)) : Holds 2 n b := fun w => by
  have := holds2 n w
  rwa [show (n / 32768 == 0 || n / 32768 == -1) = b by subst h; rw [Bool.eq_iff_iff]; simp; omega] at this
theorem h3 (n : Int) (b : Bool) (h : b = decide (-8388608 ≤ n ∧ n ≤ 8388607)) : Holds 3 n b := fun w => by
  have := holds3 n w
  rwa [show (n / 8388608 == 0 || n / 8388608 == -1) = b by subst h; rw [Bool.eq_iff_iff]; simp; omega] at this
theorem h4 (n : Int) (b : Bool) (h : b = decide (-2147483648 ≤ n ∧ n ≤ 2147483647)) : Holds 4 n b := fun w => by
  have := holds4 n w
  rwa [show (n / 2147483648 == 0 || n / 2147483648 == -1) = b by subst h; rw [Bool.eq_iff_iff]; simp; omega] at this

abbrev moreS : ByteArray := ⟨#[109, 111, 114, 101, 32, 116, 104, 97, 110, 32, 102, 111, 117, 114, 32, 98, 121, 116, 101, 115, 32, 97, 114, 101, 32, 110, 101, 101, 100, 101, 100]⟩
set_option maxRecDepth 100000 in
theorem num1 (n : Int) (H1 : Holds 1 n true) (w : World) :
    Calls Tryd.prog 19 #[.int .i64 n] w fun e w' => e = .returned (.tuple #[.agg #[.int .i64 1, .int .i64 n], .nilIface]) ∧ Below w.heap.size w w' := by
  go_enter Tryd.func19, Tryd.ntmps19
  go_wp2
  refine wp_loop_rounds 1 ?_
  rw [rounds_succ]
  go_wp2_with (go_at_call 24; refine (H1 _).mono ?_; rintro e w1 ⟨rfl, rfl⟩)
  (try simp only [Exit.inBlock, Exit.then])
  refine bodyPost_ret (v := .tuple #[.agg #[.int .i64 1, .int .i64 n], .nilIface]) (by simp [results, Tryd.results19, go_sem]) rfl ?_
  refine ⟨rfl, ?_⟩
  repeat (refine Below.alloc ?_ (by simp <;> omega) _)
  exact Below.refl _ _

set_option maxRecDepth 100000 in
theorem num2 (n : Int) (H1 : Holds 1 n false) (H2 : Holds 2 n true) (w : World) :
    Calls Tryd.prog 19 #[.int .i64 n] w fun e w' => e = .returned (.tuple #[.agg #[.int .i64 2, .int .i64 n], .nilIface]) ∧ Below w.heap.size w w' := by
  go_enter Tryd.func19, Tryd.ntmps19
  go_wp2
  refine wp_loop_rounds 2 ?_
  rw [rounds_succ]
  go_wp2_with (go_at_call 24; refine (H1 _).mono ?_; rintro e w1 ⟨rfl, rfl⟩)
  rw [rounds_succ]
  go_wp2_with (go_at_call 24; refine (H2 _).mono ?_; rintro e w2 ⟨rfl, rfl⟩)
  (try simp only [Exit.inBlock, Exit.then])
  refine bodyPost_ret (v := .tuple #[.agg #[.int .i64 2, .int .i64 n], .nilIface]) (by simp [results, Tryd.results19, go_sem]) rfl ?_
  refine ⟨rfl, ?_⟩
  repeat (refine Below.alloc ?_ (by simp <;> omega) _)
  exact Below.refl _ _

set_option maxRecDepth 100000 in
theorem num3 (n : Int) (H1 : Holds 1 n false) (H2 : Holds 2 n false) (H3 : Holds 3 n true) (w : World) :
    Calls Tryd.prog 19 #[.int .i64 n] w fun e w' => e = .returned (.tuple #[.agg #[.int .i64 3, .int .i64 n], .nilIface]) ∧ Below w.heap.size w w' := by
  go_enter Tryd.func19, Tryd.ntmps19
  go_wp2
  refine wp_loop_rounds 3 ?_
  rw [rounds_succ]
  go_wp2_with (go_at_call 24; refine (H1 _).mono ?_; rintro e w1 ⟨rfl, rfl⟩)
  rw [rounds_succ]
  go_wp2_with (go_at_call 24; refine (H2 _).mono ?_; rintro e w2 ⟨rfl, rfl⟩)
  rw [rounds_succ]
  go_wp2_with (go_at_call 24; refine (H3 _).mono ?_; rintro e w3 ⟨rfl, rfl⟩)
  (try simp only [Exit.inBlock, Exit.then])
  refine bodyPost_ret (v := .tuple #[.agg #[.int .i64 3, .int .i64 n], .nilIface]) (by simp [results, Tryd.results19, go_sem]) rfl ?_
  refine ⟨rfl, ?_⟩
  repeat (refine Below.alloc ?_ (by simp <;> omega) _)
  exact Below.refl _ _

set_option maxRecDepth 100000 in
theorem num4 (n : Int) (H1 : Holds 1 n false) (H2 : Holds 2 n false) (H3 : Holds 3 n false) (H4 : Holds 4 n true) (w : World) :
    Calls Tryd.prog 19 #[.int .i64 n] w fun e w' => e = .returned (.tuple #[.agg #[.int .i64 4, .int .i64 n], .nilIface]) ∧ Below w.heap.size w w' := by
  go_enter Tryd.func19, Tryd.ntmps19
  go_wp2
  refine wp_loop_rounds 4 ?_
  rw [rounds_succ]
  go_wp2_with (go_at_call 24; refine (H1 _).mono ?_; rintro e w1 ⟨rfl, rfl⟩)
  rw [rounds_succ]
  go_wp2_with (go_at_call 24; refine (H2 _).mono ?_; rintro e w2 ⟨rfl, rfl⟩)
  rw [rounds_succ]
  go_wp2_with (go_at_call 24; refine (H3 _).mono ?_; rintro e w3 ⟨rfl, rfl⟩)
  rw [rounds_succ]
  go_wp2_with (go_at_call 24; refine (H4 _).mono ?_; rintro e w4 ⟨rfl, rfl⟩)
  (try simp only [Exit.inBlock, Exit.then])
  refine bodyPost_ret (v := .tuple #[.agg #[.int .i64 4, .int .i64 n], .nilIface]) (by simp [results, Tryd.results19, go_sem]) rfl ?_
  refine ⟨rfl, ?_⟩
  repeat (refine Below.alloc ?_ (by simp <;> omega) _)
  exact Below.refl _ _

set_option maxRecDepth 100000 in
theorem num5 (n : Int) (H1 : Holds 1 n false) (H2 : Holds 2 n false) (H3 : Holds 3 n false) (H4 : Holds 4 n false) (w : World) :
    Calls Tryd.prog 19 #[.int .i64 n] w fun e w' => e = .returned (.tuple #[.agg #[.int .i64 0, .int .i64 0], .iface 50 (.agg #[.string moreS])]) ∧ Below w.heap.size w w' := by
  go_enter Tryd.func19, Tryd.ntmps19
  go_wp2
  refine wp_loop_rounds 5 ?_
  rw [rounds_succ]
  go_wp2_with (go_at_call 24; refine (H1 _).mono ?_; rintro e w1 ⟨rfl, rfl⟩)
  rw [rounds_succ]
  go_wp2_with (go_at_call 24; refine (H2 _).mono ?_; rintro e w2 ⟨rfl, rfl⟩)
  rw [rounds_succ]
  go_wp2_with (go_at_call 24; refine (H3 _).mono ?_; rintro e w3 ⟨rfl, rfl⟩)
  rw [rounds_succ]
  go_wp2_with (go_at_call 24; refine (H4 _).mono ?_; rintro e w4 ⟨rfl, rfl⟩)
  rw [rounds_succ]
  go_wp2
  (try simp only [Exit.inBlock, Exit.then])
  refine bodyPost_ret (v := .tuple #[.agg #[.int .i64 0, .int .i64 0], .iface 50 (.agg #[.string moreS])]) (by simp [results, Tryd.results19, go_sem]) rfl ?_
  refine ⟨rfl, ?_⟩
  repeat (refine Below.alloc ?_ (by simp <;> omega) _)
  exact Below.refl _ _

/-- what numberOf answers. -/
theorem numberOf_ok (n : Int) (h : Pr.wd n ≠ 0) (w : World) :
    Calls Tryd.prog 19 #[.int .i64 n] w fun e w' => e = .returned (.tuple #[.agg #[.int .i64 (Pr.wd n), .int .i64 n], .nilIface]) ∧ Below w.heap.size w w' := by
  rcases Pr.wd_cases n with ⟨e, hr⟩ | ⟨e, hr⟩ | ⟨e, hr⟩ | ⟨e, hr⟩ | ⟨e, hr⟩ <;> rw [e]
  · exact num1 n (h1 n _ (by simp; omega)) w
  · exact num2 n (h1 n _ (by simp; omega)) (h2 n _ (by simp; omega)) w
  · exact num3 n (h1 n _ (by simp; omega)) (h2 n _ (by simp; omega)) (h3 n _ (by simp; omega)) w
  · exact num4 n (h1 n _ (by simp; omega)) (h2 n _ (by simp; omega)) (h3 n _ (by simp; omega)) (h4 n _ (by simp; omega)) w
  · exact absurd e h
theorem numberOf_no (n : Int) (h : Pr.wd n = 0) (w : World) :
    Calls Tryd.prog 19 #[.int .i64 n] w fun e w' => e = .returned (.tuple #[.agg #[.int .i64 0, .int .i64 0], .iface 50 (.agg #[.string moreS])]) ∧ Below w.heap.size w w' := by
  have hr := (Pr.wd_pos n).1 h
  exact num5 n (h1 n _ (by simp; omega)) (h2 n _ (by simp; omega)) (h3 n _ (by simp; omega)) (h4 n _ (by simp; omega)) w
end Go.Proofs.YtjgphpjbcabdeaaDoor.P
