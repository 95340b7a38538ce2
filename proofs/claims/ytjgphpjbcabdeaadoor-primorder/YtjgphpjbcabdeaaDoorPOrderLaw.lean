/-
  latinerlaw03.PrimOrder returns true at every two numbers: of two numbers with as many bytes, both from 0 on, or both below, the lesser one's bytes come first; with more bytes one lies further from 0. Conditions: the package-level variables hold what the program's text lays (the card ties them).
-/
import Derived.Test.YtjgphpjbcabdeaaDoorPShown
import Derived.Test.YtjgphpjbcabdeaaDoorPLaid
import Derived.Test.YtjgphpjbcabdeaaDoorPOrdPure
namespace Go.Proofs.YtjgphpjbcabdeaaDoor.P.order
open Go.ChangeShapes Go.WideShapes Go.ChangeAt Go.ChangeMaps Go.RowKit

set_option maxRecDepth 100000 in
theorem wE1 (n m : Int) (w : World) (a b : ByteArray) (ha : a.toList.isEmpty = true) (hb : b.toList.isEmpty = true) (e1 : Hid (Keeps w 9 #[] (.bool true))) (e2 : Hid (Keeps w 11 #[.int .i64 n] (.tuple #[.string a, .int .i64 30])))
    (e3 : Hid (Keeps w 11 #[.int .i64 m] (.tuple #[.string b, .int .i64 30]))) :
    Calls Tryd.prog 5 #[.int .i64 n, .int .i64 m] w fun e w' => e = .returned (.bool true) ∧ Below w.heap.size w w' := by
  go_enter Tryd.func5, Tryd.ntmps5
  go_wp2_with fail
  refine ((unhide e1) _ (Below.refl _ _)).mono ?_
  rintro e w1 ⟨rfl, hb1⟩
  go_wp2_with fail
  refine ((unhide e2) _ hb1).mono ?_
  rintro e w2 ⟨rfl, hb2⟩
  go_wp2_with fail
  refine ((unhide e3) _ hb2).mono ?_
  rintro e w3 ⟨rfl, hb3⟩
  go_wp2
  all_goals go_ret
  all_goals refine ⟨?_, hb3⟩
  all_goals rfl

set_option maxRecDepth 100000 in
theorem wE2 (n m : Int) (w : World) (a b : ByteArray) (ha : a.toList.isEmpty = true) (e1 : Hid (Keeps w 9 #[] (.bool true))) (e2 : Hid (Keeps w 11 #[.int .i64 n] (.tuple #[.string a, .int .i64 30])))
    (e3 : Hid (Keeps w 11 #[.int .i64 m] (.tuple #[.string b, .int .i64 0]))) :
    Calls Tryd.prog 5 #[.int .i64 n, .int .i64 m] w fun e w' => e = .returned (.bool true) ∧ Below w.heap.size w w' := by
  go_enter Tryd.func5, Tryd.ntmps5
  go_wp2_with fail
  refine ((unhide e1) _ (Below.refl _ _)).mono ?_
  rintro e w1 ⟨rfl, hb1⟩
  go_wp2_with fail
  refine ((unhide e2) _ hb1).mono ?_
  rintro e w2 ⟨rfl, hb2⟩
  go_wp2_with fail
  refine ((unhide e3) _ hb2).mono ?_
  rintro e w3 ⟨rfl, hb3⟩
  go_wp2
  all_goals go_ret
  all_goals refine ⟨?_, hb3⟩
  all_goals rfl

set_option maxRecDepth 100000 in
theorem wE3 (n m : Int) (w : World) (a b : ByteArray) (hb : b.toList.isEmpty = true) (e1 : Hid (Keeps w 9 #[] (.bool true))) (e2 : Hid (Keeps w 11 #[.int .i64 n] (.tuple #[.string a, .int .i64 0])))
    (e3 : Hid (Keeps w 11 #[.int .i64 m] (.tuple #[.string b, .int .i64 30]))) :
    Calls Tryd.prog 5 #[.int .i64 n, .int .i64 m] w fun e w' => e = .returned (.bool true) ∧ Below w.heap.size w w' := by
  go_enter Tryd.func5, Tryd.ntmps5
  go_wp2_with fail
  refine ((unhide e1) _ (Below.refl _ _)).mono ?_
  rintro e w1 ⟨rfl, hb1⟩
  go_wp2_with fail
  refine ((unhide e2) _ hb1).mono ?_
  rintro e w2 ⟨rfl, hb2⟩
  go_wp2_with fail
  refine ((unhide e3) _ hb2).mono ?_
  rintro e w3 ⟨rfl, hb3⟩
  go_wp2
  all_goals go_ret
  all_goals refine ⟨?_, hb3⟩
  all_goals rfl

set_option maxRecDepth 100000 in
theorem wD1n (n m : Int) (w : World) (a b : ByteArray) (dn : decide (n < 0) = true) (dm : decide (m < 0) = false) (dz : decide (0 ≤ n) = false) (ne : (a.toList == b.toList) = false) (hz : (a.size : Int) = 1) (bl : Op.bytesLess (a.extract 0 1).toList [128] = false) (e1 : Hid (Keeps w 9 #[] (.bool true))) (e2 : Hid (Keeps w 11 #[.int .i64 n] (.tuple #[.string a, .int .i64 0])))
    (e3 : Hid (Keeps w 11 #[.int .i64 m] (.tuple #[.string b, .int .i64 0]))) :
    Calls Tryd.prog 5 #[.int .i64 n, .int .i64 m] w fun e w' => e = .returned (.bool true) ∧ Below w.heap.size w w' := by
  go_enter Tryd.func5, Tryd.ntmps5
  go_wp2_with fail
  refine ((unhide e1) _ (Below.refl _ _)).mono ?_
  rintro e w1 ⟨rfl, hb1⟩
  go_wp2_with fail
  refine ((unhide e2) _ hb1).mono ?_
  rintro e w2 ⟨rfl, hb2⟩
  go_wp2_with fail
  refine ((unhide e3) _ hb2).mono ?_
  rintro e w3 ⟨rfl, hb3⟩
  go_wp2
  all_goals go_ret
  all_goals refine ⟨?_, hb3⟩
  all_goals rfl

set_option maxRecDepth 100000 in
theorem wD2n (n m : Int) (w : World) (a b : ByteArray) (dn : decide (n < 0) = true) (dm : decide (m < 0) = false) (dz : decide (0 ≤ n) = false) (ne : (a.toList == b.toList) = false) (hz : 1 < (a.size : Int)) (hz4 : (a.size : Int) ≤ 4) (bl : Op.bytesLess (a.extract 0 1).toList [128] = false) (e1 : Hid (Keeps w 9 #[] (.bool true))) (e2 : Hid (Keeps w 11 #[.int .i64 n] (.tuple #[.string a, .int .i64 0])))
    (e3 : Hid (Keeps w 11 #[.int .i64 m] (.tuple #[.string b, .int .i64 0]))) :
    Calls Tryd.prog 5 #[.int .i64 n, .int .i64 m] w fun e w' => e = .returned (.bool true) ∧ Below w.heap.size w w' := by
  go_enter Tryd.func5, Tryd.ntmps5
  go_wp2_with fail
  refine ((unhide e1) _ (Below.refl _ _)).mono ?_
  rintro e w1 ⟨rfl, hb1⟩
  go_wp2_with fail
  refine ((unhide e2) _ hb1).mono ?_
  rintro e w2 ⟨rfl, hb2⟩
  go_wp2_with fail
  refine ((unhide e3) _ hb2).mono ?_
  rintro e w3 ⟨rfl, hb3⟩
  go_wp2
  all_goals go_ret
  all_goals refine ⟨?_, hb3⟩
  all_goals rfl

set_option maxRecDepth 100000 in
theorem wSnl (n m : Int) (w : World) (a b : ByteArray) (dn : decide (n < 0) = true) (dm : decide (m < 0) = true) (hz : (a.size : Int) = b.size) (dl : decide (n < m) = true) (bl : Op.bytesLess a.toList b.toList = true) (e1 : Hid (Keeps w 9 #[] (.bool true))) (e2 : Hid (Keeps w 11 #[.int .i64 n] (.tuple #[.string a, .int .i64 0])))
    (e3 : Hid (Keeps w 11 #[.int .i64 m] (.tuple #[.string b, .int .i64 0]))) :
    Calls Tryd.prog 5 #[.int .i64 n, .int .i64 m] w fun e w' => e = .returned (.bool true) ∧ Below w.heap.size w w' := by
  go_enter Tryd.func5, Tryd.ntmps5
  go_wp2_with fail
  refine ((unhide e1) _ (Below.refl _ _)).mono ?_
  rintro e w1 ⟨rfl, hb1⟩
  go_wp2_with fail
  refine ((unhide e2) _ hb1).mono ?_
  rintro e w2 ⟨rfl, hb2⟩
  go_wp2_with fail
  refine ((unhide e3) _ hb2).mono ?_
  rintro e w3 ⟨rfl, hb3⟩
  go_wp2
  all_goals go_ret
  all_goals refine ⟨?_, hb3⟩
  all_goals rfl

set_option maxRecDepth 100000 in
theorem wLnl (n m : Int) (w : World) (a b : ByteArray) (dn : decide (n < 0) = true) (dm : decide (m < 0) = true) (dz : decide (0 ≤ n) = false) (hz : ((a.size : Int) == b.size) = false) (dl : decide (m < n) = true) (dz2 : decide (a.size < b.size) = true) (e1 : Hid (Keeps w 9 #[] (.bool true))) (e2 : Hid (Keeps w 11 #[.int .i64 n] (.tuple #[.string a, .int .i64 0])))
    (e3 : Hid (Keeps w 11 #[.int .i64 m] (.tuple #[.string b, .int .i64 0]))) :
    Calls Tryd.prog 5 #[.int .i64 n, .int .i64 m] w fun e w' => e = .returned (.bool true) ∧ Below w.heap.size w w' := by
  go_enter Tryd.func5, Tryd.ntmps5
  go_wp2_with fail
  refine ((unhide e1) _ (Below.refl _ _)).mono ?_
  rintro e w1 ⟨rfl, hb1⟩
  go_wp2_with fail
  refine ((unhide e2) _ hb1).mono ?_
  rintro e w2 ⟨rfl, hb2⟩
  go_wp2_with fail
  refine ((unhide e3) _ hb2).mono ?_
  rintro e w3 ⟨rfl, hb3⟩
  go_wp2
  all_goals go_ret
  all_goals refine ⟨?_, hb3⟩
  all_goals rfl

set_option maxRecDepth 100000 in
theorem wSng (n m : Int) (w : World) (a b : ByteArray) (dn : decide (n < 0) = true) (dm : decide (m < 0) = true) (hz : (a.size : Int) = b.size) (dl : decide (n < m) = false) (bl : Op.bytesLess a.toList b.toList = false) (e1 : Hid (Keeps w 9 #[] (.bool true))) (e2 : Hid (Keeps w 11 #[.int .i64 n] (.tuple #[.string a, .int .i64 0])))
    (e3 : Hid (Keeps w 11 #[.int .i64 m] (.tuple #[.string b, .int .i64 0]))) :
    Calls Tryd.prog 5 #[.int .i64 n, .int .i64 m] w fun e w' => e = .returned (.bool true) ∧ Below w.heap.size w w' := by
  go_enter Tryd.func5, Tryd.ntmps5
  go_wp2_with fail
  refine ((unhide e1) _ (Below.refl _ _)).mono ?_
  rintro e w1 ⟨rfl, hb1⟩
  go_wp2_with fail
  refine ((unhide e2) _ hb1).mono ?_
  rintro e w2 ⟨rfl, hb2⟩
  go_wp2_with fail
  refine ((unhide e3) _ hb2).mono ?_
  rintro e w3 ⟨rfl, hb3⟩
  go_wp2
  all_goals go_ret
  all_goals refine ⟨?_, hb3⟩
  all_goals rfl

set_option maxRecDepth 100000 in
theorem wLng (n m : Int) (w : World) (a b : ByteArray) (dn : decide (n < 0) = true) (dm : decide (m < 0) = true) (dz : decide (0 ≤ n) = false) (hz : ((a.size : Int) == b.size) = false) (dl : decide (m < n) = false) (dz2 : decide (a.size < b.size) = false) (e1 : Hid (Keeps w 9 #[] (.bool true))) (e2 : Hid (Keeps w 11 #[.int .i64 n] (.tuple #[.string a, .int .i64 0])))
    (e3 : Hid (Keeps w 11 #[.int .i64 m] (.tuple #[.string b, .int .i64 0]))) :
    Calls Tryd.prog 5 #[.int .i64 n, .int .i64 m] w fun e w' => e = .returned (.bool true) ∧ Below w.heap.size w w' := by
  go_enter Tryd.func5, Tryd.ntmps5
  go_wp2_with fail
  refine ((unhide e1) _ (Below.refl _ _)).mono ?_
  rintro e w1 ⟨rfl, hb1⟩
  go_wp2_with fail
  refine ((unhide e2) _ hb1).mono ?_
  rintro e w2 ⟨rfl, hb2⟩
  go_wp2_with fail
  refine ((unhide e3) _ hb2).mono ?_
  rintro e w3 ⟨rfl, hb3⟩
  go_wp2
  all_goals go_ret
  all_goals refine ⟨?_, hb3⟩
  all_goals rfl

set_option maxRecDepth 100000 in
theorem wD1p (n m : Int) (w : World) (a b : ByteArray) (dn : decide (n < 0) = false) (dm : decide (m < 0) = true) (dz : decide (0 ≤ n) = true) (ne : (a.toList == b.toList) = false) (hz : (a.size : Int) = 1) (bl : Op.bytesLess (a.extract 0 1).toList [128] = true) (e1 : Hid (Keeps w 9 #[] (.bool true))) (e2 : Hid (Keeps w 11 #[.int .i64 n] (.tuple #[.string a, .int .i64 0])))
    (e3 : Hid (Keeps w 11 #[.int .i64 m] (.tuple #[.string b, .int .i64 0]))) :
    Calls Tryd.prog 5 #[.int .i64 n, .int .i64 m] w fun e w' => e = .returned (.bool true) ∧ Below w.heap.size w w' := by
  go_enter Tryd.func5, Tryd.ntmps5
  go_wp2_with fail
  refine ((unhide e1) _ (Below.refl _ _)).mono ?_
  rintro e w1 ⟨rfl, hb1⟩
  go_wp2_with fail
  refine ((unhide e2) _ hb1).mono ?_
  rintro e w2 ⟨rfl, hb2⟩
  go_wp2_with fail
  refine ((unhide e3) _ hb2).mono ?_
  rintro e w3 ⟨rfl, hb3⟩
  go_wp2
  all_goals go_ret
  all_goals refine ⟨?_, hb3⟩
  all_goals rfl

set_option maxRecDepth 100000 in
theorem wD2p (n m : Int) (w : World) (a b : ByteArray) (dn : decide (n < 0) = false) (dm : decide (m < 0) = true) (dz : decide (0 ≤ n) = true) (ne : (a.toList == b.toList) = false) (hz : 1 < (a.size : Int)) (hz4 : (a.size : Int) ≤ 4) (bl : Op.bytesLess (a.extract 0 1).toList [128] = true) (e1 : Hid (Keeps w 9 #[] (.bool true))) (e2 : Hid (Keeps w 11 #[.int .i64 n] (.tuple #[.string a, .int .i64 0])))
    (e3 : Hid (Keeps w 11 #[.int .i64 m] (.tuple #[.string b, .int .i64 0]))) :
    Calls Tryd.prog 5 #[.int .i64 n, .int .i64 m] w fun e w' => e = .returned (.bool true) ∧ Below w.heap.size w w' := by
  go_enter Tryd.func5, Tryd.ntmps5
  go_wp2_with fail
  refine ((unhide e1) _ (Below.refl _ _)).mono ?_
  rintro e w1 ⟨rfl, hb1⟩
  go_wp2_with fail
  refine ((unhide e2) _ hb1).mono ?_
  rintro e w2 ⟨rfl, hb2⟩
  go_wp2_with fail
  refine ((unhide e3) _ hb2).mono ?_
  rintro e w3 ⟨rfl, hb3⟩
  go_wp2
  all_goals go_ret
  all_goals refine ⟨?_, hb3⟩
  all_goals rfl

set_option maxRecDepth 100000 in
theorem wSpl (n m : Int) (w : World) (a b : ByteArray) (dn : decide (n < 0) = false) (dm : decide (m < 0) = false) (hz : (a.size : Int) = b.size) (dl : decide (n < m) = true) (bl : Op.bytesLess a.toList b.toList = true) (e1 : Hid (Keeps w 9 #[] (.bool true))) (e2 : Hid (Keeps w 11 #[.int .i64 n] (.tuple #[.string a, .int .i64 0])))
    (e3 : Hid (Keeps w 11 #[.int .i64 m] (.tuple #[.string b, .int .i64 0]))) :
    Calls Tryd.prog 5 #[.int .i64 n, .int .i64 m] w fun e w' => e = .returned (.bool true) ∧ Below w.heap.size w w' := by
  go_enter Tryd.func5, Tryd.ntmps5
  go_wp2_with fail
  refine ((unhide e1) _ (Below.refl _ _)).mono ?_
  rintro e w1 ⟨rfl, hb1⟩
  go_wp2_with fail
  refine ((unhide e2) _ hb1).mono ?_
  rintro e w2 ⟨rfl, hb2⟩
  go_wp2_with fail
  refine ((unhide e3) _ hb2).mono ?_
  rintro e w3 ⟨rfl, hb3⟩
  go_wp2
  all_goals go_ret
  all_goals refine ⟨?_, hb3⟩
  all_goals rfl

set_option maxRecDepth 100000 in
theorem wLpl (n m : Int) (w : World) (a b : ByteArray) (dn : decide (n < 0) = false) (dm : decide (m < 0) = false) (dz : decide (0 ≤ n) = true) (hz : ((a.size : Int) == b.size) = false) (dl : decide (n < m) = true) (dz2 : decide (a.size < b.size) = true) (e1 : Hid (Keeps w 9 #[] (.bool true))) (e2 : Hid (Keeps w 11 #[.int .i64 n] (.tuple #[.string a, .int .i64 0])))
    (e3 : Hid (Keeps w 11 #[.int .i64 m] (.tuple #[.string b, .int .i64 0]))) :
    Calls Tryd.prog 5 #[.int .i64 n, .int .i64 m] w fun e w' => e = .returned (.bool true) ∧ Below w.heap.size w w' := by
  go_enter Tryd.func5, Tryd.ntmps5
  go_wp2_with fail
  refine ((unhide e1) _ (Below.refl _ _)).mono ?_
  rintro e w1 ⟨rfl, hb1⟩
  go_wp2_with fail
  refine ((unhide e2) _ hb1).mono ?_
  rintro e w2 ⟨rfl, hb2⟩
  go_wp2_with fail
  refine ((unhide e3) _ hb2).mono ?_
  rintro e w3 ⟨rfl, hb3⟩
  go_wp2
  all_goals go_ret
  all_goals refine ⟨?_, hb3⟩
  all_goals rfl

set_option maxRecDepth 100000 in
theorem wSpg (n m : Int) (w : World) (a b : ByteArray) (dn : decide (n < 0) = false) (dm : decide (m < 0) = false) (hz : (a.size : Int) = b.size) (dl : decide (n < m) = false) (bl : Op.bytesLess a.toList b.toList = false) (e1 : Hid (Keeps w 9 #[] (.bool true))) (e2 : Hid (Keeps w 11 #[.int .i64 n] (.tuple #[.string a, .int .i64 0])))
    (e3 : Hid (Keeps w 11 #[.int .i64 m] (.tuple #[.string b, .int .i64 0]))) :
    Calls Tryd.prog 5 #[.int .i64 n, .int .i64 m] w fun e w' => e = .returned (.bool true) ∧ Below w.heap.size w w' := by
  go_enter Tryd.func5, Tryd.ntmps5
  go_wp2_with fail
  refine ((unhide e1) _ (Below.refl _ _)).mono ?_
  rintro e w1 ⟨rfl, hb1⟩
  go_wp2_with fail
  refine ((unhide e2) _ hb1).mono ?_
  rintro e w2 ⟨rfl, hb2⟩
  go_wp2_with fail
  refine ((unhide e3) _ hb2).mono ?_
  rintro e w3 ⟨rfl, hb3⟩
  go_wp2
  all_goals go_ret
  all_goals refine ⟨?_, hb3⟩
  all_goals rfl

set_option maxRecDepth 100000 in
theorem wLpg (n m : Int) (w : World) (a b : ByteArray) (dn : decide (n < 0) = false) (dm : decide (m < 0) = false) (dz : decide (0 ≤ n) = true) (hz : ((a.size : Int) == b.size) = false) (dl : decide (n < m) = false) (dz2 : decide (a.size < b.size) = false) (e1 : Hid (Keeps w 9 #[] (.bool true))) (e2 : Hid (Keeps w 11 #[.int .i64 n] (.tuple #[.string a, .int .i64 0])))
    (e3 : Hid (Keeps w 11 #[.int .i64 m] (.tuple #[.string b, .int .i64 0]))) :
    Calls Tryd.prog 5 #[.int .i64 n, .int .i64 m] w fun e w' => e = .returned (.bool true) ∧ Below w.heap.size w w' := by
  go_enter Tryd.func5, Tryd.ntmps5
  go_wp2_with fail
  refine ((unhide e1) _ (Below.refl _ _)).mono ?_
  rintro e w1 ⟨rfl, hb1⟩
  go_wp2_with fail
  refine ((unhide e2) _ hb1).mono ?_
  rintro e w2 ⟨rfl, hb2⟩
  go_wp2_with fail
  refine ((unhide e3) _ hb2).mono ?_
  rintro e w3 ⟨rfl, hb3⟩
  go_wp2
  all_goals go_ret
  all_goals refine ⟨?_, hb3⟩
  all_goals rfl

abbrev en (n : Int) : ByteArray := ⟨(Pr.enc n).toArray⟩
theorem len (n : Int) : (en n).size = Pr.wd n := by
  show (Pr.enc n).toArray.size = _
  rw [List.size_toArray, Pr.enc_length]
theorem lst (n : Int) : (en n).toList = Pr.enc n := by rw [ByteArray.toList_eq]
theorem fst (n : Int) : ((en n).extract 0 1).toList = (Pr.enc n).take 1 := by
  rw [ByteArray.toList_eq, ByteArray.data_extract]
  simp

theorem walk (n m : Int) (aB : Addr) (w : World) (g : Glob aB w) :
    Calls Tryd.prog 5 #[.int .i64 n, .int .i64 m] w fun e w' => e = .returned (.bool true) ∧ Below w.heap.size w w' := by
  have e1 := hide (K_shown g)
  have e2 : Hid (Keeps w 11 #[.int .i64 n] (.tuple #[.string (en n), .int .i64 (intA n)])) := hide (K_int g n)
  have e3 : Hid (Keeps w 11 #[.int .i64 m] (.tuple #[.string (en m), .int .i64 (intA m)])) := hide (K_int g m)
  unfold intA at e2 e3
  by_cases hn : Pr.wd n = 0
  · rw [if_pos hn] at e2
    have ha : (en n).toList.isEmpty = true := by rw [lst]; unfold Pr.enc; rw [hn]; rfl
    by_cases hm : Pr.wd m = 0
    · rw [if_pos hm] at e3
      exact wE1 n m w _ _ ha (by rw [lst]; unfold Pr.enc; rw [hm]; rfl) e1 e2 e3
    · rw [if_neg hm] at e3
      exact wE2 n m w _ _ ha e1 e2 e3
  · rw [if_neg hn] at e2
    by_cases hm : Pr.wd m = 0
    · rw [if_pos hm] at e3
      exact wE3 n m w _ _ (by rw [lst]; unfold Pr.enc; rw [hm]; rfl) e1 e2 e3
    · rw [if_neg hm] at e3
      have l1 := len n
      have l2 := len m
      have b1 := Pr.wd_le n
      have b2 := Pr.wd_le m
      have hfs := Pr.first_enc n hn
      have ne : n ≠ m → ((en n).toList == (en m).toList) = false := fun h => by
        rw [lst, lst]
        exact beq_eq_false_iff_ne.2 fun e => h (Pr.enc_inj n m hn hm e)
      by_cases sn : n < 0
      · have dn : decide (n < 0) = true := decide_eq_true sn
        have dz : decide (0 ≤ n) = false := decide_eq_false (by omega)
        by_cases sm : m < 0
        · have dm : decide (m < 0) = true := decide_eq_true sm
          by_cases hw : Pr.wd n = Pr.wd m
          · have bl := Pr.less_enc n m hm hw (by simp [sn, sm])
            by_cases lt : n < m
            · exact wSnl n m w _ _ dn dm (by omega) (decide_eq_true lt) (by rw [lst, lst, bl]; exact decide_eq_true lt) e1 e2 e3
            · exact wSng n m w _ _ dn dm (by omega) (decide_eq_false lt) (by rw [lst, lst, bl]; exact decide_eq_false lt) e1 e2 e3
          · have c1 := Pr.wd_cases n
            have c2 := Pr.wd_cases m
            by_cases lt : m < n
            · exact wLnl n m w _ _ dn dm dz (beq_eq_false_iff_ne.2 (by omega)) (decide_eq_true lt) (decide_eq_true (by rw [l1, l2]; omega)) e1 e2 e3
            · exact wLng n m w _ _ dn dm dz (beq_eq_false_iff_ne.2 (by omega)) (decide_eq_false lt) (decide_eq_false (by rw [l1, l2]; omega)) e1 e2 e3
        · have dm : decide (m < 0) = false := decide_eq_false sm
          have bl : Op.bytesLess ((en n).extract 0 1).toList [128] = false := by rw [fst, hfs]; exact dz
          by_cases hz : (en n).size = 1
          · exact wD1n n m w _ _ dn dm dz (ne (by omega)) (by omega) bl e1 e2 e3
          · exact wD2n n m w _ _ dn dm dz (ne (by omega)) (by omega) (by omega) bl e1 e2 e3
      · have dn : decide (n < 0) = false := decide_eq_false sn
        have dz : decide (0 ≤ n) = true := decide_eq_true (by omega)
        by_cases sm : m < 0
        · have dm : decide (m < 0) = true := decide_eq_true sm
          have bl : Op.bytesLess ((en n).extract 0 1).toList [128] = true := by rw [fst, hfs]; exact dz
          by_cases hz : (en n).size = 1
          · exact wD1p n m w _ _ dn dm dz (ne (by omega)) (by omega) bl e1 e2 e3
          · exact wD2p n m w _ _ dn dm dz (ne (by omega)) (by omega) (by omega) bl e1 e2 e3
        · have dm : decide (m < 0) = false := decide_eq_false sm
          by_cases hw : Pr.wd n = Pr.wd m
          · have bl := Pr.less_enc n m hm hw (by simp [sn, sm])
            by_cases lt : n < m
            · exact wSpl n m w _ _ dn dm (by omega) (decide_eq_true lt) (by rw [lst, lst, bl]; exact decide_eq_true lt) e1 e2 e3
            · exact wSpg n m w _ _ dn dm (by omega) (decide_eq_false lt) (by rw [lst, lst, bl]; exact decide_eq_false lt) e1 e2 e3
          · have c1 := Pr.wd_cases n
            have c2 := Pr.wd_cases m
            by_cases lt : n < m
            · exact wLpl n m w _ _ dn dm dz (beq_eq_false_iff_ne.2 (by omega)) (decide_eq_true lt) (decide_eq_true (by rw [l1, l2]; omega)) e1 e2 e3
            · exact wLpg n m w _ _ dn dm dz (beq_eq_false_iff_ne.2 (by omega)) (decide_eq_false lt) (decide_eq_false (by rw [l1, l2]; omega)) e1 e2 e3

set_option maxRecDepth 100000 in
/-- What the walk gives, for every argument. -/
theorem contract (H : Type) (enc : TypeId × Value → H) (W : World) (base : Nat) (args : Array Value) (ds gs : List (DataW H)) (before : List MemPlace)
    (hval : ∀ (j : Nat) t v, Tryd.f5.params[j]? = some t → args[j]? = some v → Value.okWide Tryd.prog W .any base t v)
    (hW : DataW.Whole enc Tryd.prog Tryd.f5.params.toList Rows.primOrderSpec.vars false W args.toList ds gs before) (hL : laidMetH Tryd.prog Rows.primOrderRow.laid W) :
    Calls Tryd.prog 5 args W fun e W' => ∃ v, e = .returned v ∧ Rows.primOrderSpec.post enc Tryd.prog Tryd.f5 false true false false W args v W' := by
  obtain ⟨aB, g⟩ := glob_of_laid hL
  have hW' := hW
  obtain ⟨p, q, hA0, hV, rfl, hfz, hnd⟩ := hW
  have hA : DataW.TrodAll enc Tryd.prog W 0 (fun _ => true) true Tryd.f5.params.toList args.toList ds p := hA0
  rw [Tryd.params5] at hA hval
  obtain ⟨v0, vs0, d0, ds0, p0, q0, hargs0, rfl, rfl, h0, r0⟩ := trodAll_cons hA
  obtain ⟨v1, vs1, d1, ds1, p1, q1, hargs1, rfl, rfl, h1, r1⟩ := trodAll_cons r0
  obtain ⟨rfl, rfl, rfl⟩ := trodAll_nil r1
  obtain rfl : args = #[v0, v1] := by cases args; simp_all
  obtain ⟨rfl, rfl⟩ := trodVars_none hV
  obtain ⟨x0, rfl, rfl, rfl, wf0⟩ := open_int Tryd.underlying3 (hval 0 3 v0 rfl rfl) h0
  obtain ⟨x1, rfl, rfl, rfl, wf1⟩ := open_int Tryd.underlying3 (hval 1 3 v1 rfl rfl) h1
  clear hA0
  simp only [List.append_nil] at hW'
  refine (walk x0 x1 aB W g).mono fun e W' ⟨he, hg⟩ => ?_
  subst he
  refine ⟨_, rfl, _, _, _, [], [], [], hW', ?_, ?_, ?_, hg.frame _, fun h => by cases h⟩
  · exact trodAll_cons_mk (shut_bool Tryd.underlying4 _) trodAll_mk0
  · exact trodAll_cons_mk (shut_int Tryd.underlying3 wf0) (trodAll_cons_mk (shut_int Tryd.underlying3 wf1) (trodAll_mk0))
  · rfl

theorem reads (os : Os) {H : Type} (enc : TypeId × Value → H) : ∃ places, DataW.whole enc Tryd.prog (({ World.holding Tryd.prog os ⟨#[.cells #[.string sentS0] 116], #[], []⟩ with heap := ((World.holding Tryd.prog os ⟨#[.cells #[.string sentS0] 116], #[], []⟩).heap.modify 0 fun | .cells _ t frozen => .cells #[.iface 95 (.pointer (some ⟨(World.holding Tryd.prog default ⟨#[], #[], []⟩).heap.size + 0, 0, none⟩))] t frozen | o => o).modify 1 fun | .cells _ t frozen => .cells #[.iface 81 (.agg #[.pointer (some ⟨2, 41, none⟩)])] t frozen | o => o } : World).forCall (fun _ _ => 0) ⟨#[], #[.int .i64 0, .int .i64 0], []⟩).memory Tryd.f5.params.toList Rows.primOrderSpec.vars false #[Value.int .i64 0, Value.int .i64 0].toList 8 = some ([.lit (.int .i64 0), .lit (.int .i64 0)], [], places) :=
  ⟨[], by kernel_rfl⟩

set_option maxRecDepth 100000 in
theorem lifted (os : Os) (started : os.Started) (H : Type) (enc : TypeId × Value → H) (F : Stop.Interp) :
    ReturnsInHanded {} Tryd.checked os 5 .any ((OpenSpec.ofChange Rows.primOrderSpec).preRow enc Tryd.prog Tryd.f5 Rows.primOrderRow.domain false Rows.primOrderRow.laid) (((OpenSpec.ofChange Rows.primOrderSpec).at F).post enc Tryd.prog Tryd.f5 false true false false) := by
  obtain ⟨places, hx⟩ := reads os enc
  refine returnsInHanded_of_row (C := Tryd.checked) (s := OpenSpec.ofChange Rows.primOrderSpec) own started (by kernel_rfl) Tryd.func5
    (witness_row_at (enc := enc) (C := Tryd.checked) false ({ World.holding Tryd.prog os ⟨#[.cells #[.string sentS0] 116], #[], []⟩ with heap := ((World.holding Tryd.prog os ⟨#[.cells #[.string sentS0] 116], #[], []⟩).heap.modify 0 fun | .cells _ t frozen => .cells #[.iface 95 (.pointer (some ⟨(World.holding Tryd.prog default ⟨#[], #[], []⟩).heap.size + 0, 0, none⟩))] t frozen | o => o).modify 1 fun | .cells _ t frozen => .cells #[.iface 81 (.agg #[.pointer (some ⟨2, 41, none⟩)])] t frozen | o => o } : World) #[.int .i64 0, .int .i64 0] rfl (by kernel_rfl) (by kernel_rfl) (by kernel_rfl)
      (OpenSpec.preRow_of_cond 8 hx (by kernel_rfl) (fun k hk => by cases hk) (by kernel_rfl) (laid_met os _))) ?_
  intro W base args ds gs before hval hW _ _ _ hL _ _
  exact contract H enc W base args ds gs before hval hW hL

theorem said : Rows.PrimOrderSaid :=
  OpenClaim.holds_of_cond 5 Tryd.f5 rfl rfl rfl rfl rfl rfl rfl ⟨rfl, rfl, rfl, rfl, rfl⟩ rfl rfl rfl rfl rfl (by kernel_rfl) Tryd.func5 (by kernel_rfl)
    (of_decide_eq_true (by kernel_rfl)) (by unfold Func.isWrapper; first | (rw [if_pos (by decide +kernel)]; kernel_rfl) | (rw [if_neg (by decide +kernel)]; exact ⟨rfl, rfl⟩))
    (fun os started H enc _ F => by rw [OpenClaim.pre_eq_preRow]; exact lifted os started H enc F)

theorem plain (f : FuncId) (fn : Func) (hf : Tryd.pinned.checked.prog.funcNamed "latiner/latinerlaw03.PrimOrder" = some f) (hfn : Tryd.pinned.checked.prog.funcs[f]? = some fn) :
    true = Tryd.pinned.checked.prog.looks [] ∧ ∀ (j : Nat) t, fn.params[j]? = some t → Tryd.pinned.checked.prog.wantsStandIn t = false := by
  obtain rfl : f = 5 := Option.some.inj ((show Tryd.prog.funcNamed "latiner/latinerlaw03.PrimOrder" = some 5 by kernel_rfl).symm.trans hf) |>.symm
  obtain rfl : fn = Tryd.f5 := (Option.some.inj (Tryd.func5.symm.trans hfn)).symm
  refine ⟨by kernel_rfl, fun j t ht => ?_⟩
  rw [Tryd.params5] at ht
  have hm : t = 3 := by have := Array.mem_of_getElem? ht; simp at this; first | exact this | omega | (rcases this with h | h | h <;> simp [h]) | (rcases this with h | h | h | h <;> simp [h])
  subst hm
  exact (show Tryd.prog.wantsStandIn 3 = false by kernel_rfl)

/-- The card. -/
theorem card : Rows.PrimOrderCardSaid :=
  Claim7.holds_tied_plain_at .later [] _ _ _ _ said (fun _ h => by cases h) (by kernel_rfl) (fun _ h => by cases h) primOrder_row_tie rfl ⟨rfl, rfl⟩ (by kernel_rfl) rfl plain (by kernel_rfl)
end Go.Proofs.YtjgphpjbcabdeaaDoor.P.order

namespace Go.Proofs.YtjgphpjbcabdeaaDoor
theorem primOrder_holds : Rows.PrimOrderCardSaid := P.order.card
#print axioms primOrder_holds
end Go.Proofs.YtjgphpjbcabdeaaDoor
