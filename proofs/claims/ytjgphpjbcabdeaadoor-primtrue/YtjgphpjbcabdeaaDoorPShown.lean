/-
  The law file's shown() and cut(). Conditions: the package-level variables hold what the program's text lays.
-/
import Derived.Test.YtjgphpjbcabdeaaDoorPDoor
namespace Go.Proofs.YtjgphpjbcabdeaaDoor.P
open Go.RowKit

theorem small_max {n : Nat} (h : n ≤ 1000) : n ≤ maxLen := by unfold maxLen; omega

theorem K_int {aB : Addr} {w : World} (g : Glob aB w) (n : Int) : Keeps w 11 #[.int .i64 n] (.tuple #[str (Pr.enc n), .int .i64 (intA n)]) := keep g fun w1 g1 => int_any n aB w1 g1
theorem K_readInt {aB : Addr} {w : World} (g : Glob aB w) (s : ByteArray) (hs : s.size ≤ 1000) : Keeps w 13 #[.string s] (.tuple #[.int .i64 (Pr.dec s.data.toList).1, .int .i64 (Pr.dec s.data.toList).2]) :=
  keep g fun w1 g1 => readInt_any s aB w1 g1 (small_max hs)
theorem K_readBool {aB : Addr} {w : World} (g : Glob aB w) (s : ByteArray) (hs : s.size ≤ 1000) : Keeps w 15 #[.string s] (.tuple #[.bool (rb s.data.toList).1, .int .i64 (rb s.data.toList).2]) :=
  keep g fun w1 g1 => readBool_any s aB w1 g1 (small_max hs)
theorem K_bool {w : World} (b : Bool) : Keeps w 17 #[.bool b] (.string ⟨#[if b then 255 else 0]⟩) :=
  keep0 fun w1 => (bool_any b w1).mono fun e w' ⟨he, hw⟩ => ⟨he, by rw [hw]; exact Below.refl _ _⟩

set_option maxRecDepth 100000 in
theorem shown_true (aB : Addr) (w : World) (g : Glob aB w) : Calls Tryd.prog 9 #[] w fun e w' => e = .returned (.bool true) ∧ Below w.heap.size w w' := by
  have e1 : Hid (Keeps w 11 #[.int .i64 (-129)] (.tuple #[.string ⟨#[255, 127]⟩, .int .i64 0])) := K_int g (-129)
  have e2 : Hid (Keeps w 13 #[.string ⟨#[0, 128]⟩] (.tuple #[.int .i64 128, .int .i64 0])) := K_readInt g ⟨#[0, 128]⟩ (by decide)
  have e3 : Hid (Keeps w 13 #[.string ⟨#[0, 127]⟩] (.tuple #[.int .i64 0, .int .i64 30])) := K_readInt g ⟨#[0, 127]⟩ (by decide)
  have e4 : Hid (Keeps w 15 #[.string ⟨#[1]⟩] (.tuple #[.bool true, .int .i64 0])) := K_readBool g ⟨#[1]⟩ (by decide)
  have e5 : Hid (Keeps w 15 #[.string ⟨#[]⟩] (.tuple #[.bool false, .int .i64 31])) := K_readBool g ⟨#[]⟩ (by decide)
  have e6 : Hid (Keeps w 17 #[.bool true] (.string ⟨#[255]⟩)) := K_bool true
  clear g
  go_enter Tryd.func9, Tryd.ntmps9
  go_wp2_with fail
  refine ((unhide e1) _ (Below.refl _ _)).mono ?_
  rintro e w1 ⟨rfl, hb1⟩
  go_wp2_with fail
  refine ((unhide e2) _ hb1).mono ?_
  rintro e w2 ⟨rfl, hb2⟩
  go_wp2_with fail
  refine ((unhide e3) _ hb2).mono ?_
  rintro e w3 ⟨rfl, hb3⟩
  go_wp2_with fail
  refine ((unhide e4) _ hb3).mono ?_
  rintro e w4 ⟨rfl, hb4⟩
  go_wp2_with fail
  refine ((unhide e5) _ hb4).mono ?_
  rintro e w5 ⟨rfl, hb5⟩
  go_wp2_with fail
  refine ((unhide e6) _ hb5).mono ?_
  rintro e w6 ⟨rfl, hb6⟩
  go_wp2
  go_ret
  exact ⟨rfl, hb6⟩

theorem cut_any (s : ByteArray) (w : World) (hs : s.size ≤ maxLen) :
    Calls Tryd.prog 10 #[.string s] w fun e w' => e = .returned (.string (s.extract 0 10)) ∧ w' = w := by
  unfold maxLen at hs
  by_cases h : s.size ≤ 10
  · have h' : (s.size : Int) ≤ 10 := by omega
    have e : s.extract 0 10 = s := by
      apply ByteArray.ext
      simp [ByteArray.data_extract]
      exact .inr h
    rw [e]
    go_enter Tryd.func10, Tryd.ntmps10
    go_wp2
    go_ret
    exact ⟨rfl, rfl⟩
  · have h' : ¬ (s.size : Int) ≤ 10 := by omega
    go_enter Tryd.func10, Tryd.ntmps10
    go_wp2
    go_ret
    exact ⟨rfl, rfl⟩
theorem cut_size (s : ByteArray) : (s.extract 0 10).size ≤ 10 := by
  rw [ByteArray.size_extract]; omega
theorem K_shown {aB : Addr} {w : World} (g : Glob aB w) : Keeps w 9 #[] (.bool true) := keep g fun w1 g1 => shown_true aB w1 g1
theorem K_cut {w : World} (s : ByteArray) (hs : s.size ≤ maxLen) : Keeps w 10 #[.string s] (.string (s.extract 0 10)) :=
  keep0 fun w1 => (cut_any s w1 hs).mono fun e w' ⟨he, hw⟩ => ⟨he, by rw [hw]; exact Below.refl _ _⟩
end Go.Proofs.YtjgphpjbcabdeaaDoor.P
