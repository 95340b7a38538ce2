/-
  The law file's own 'shown': some lengths are known: it returns true. Conditions: the package-level variables hold what the program's text lays.
-/
import Derived.Test.YtahpaoajhmhgjaaDoorEnc
namespace Go.Proofs.YtahpaoajhmhgjaaDoor
open Go.RowKit

theorem small_maxLen {s : ByteArray} (h : s.size ≤ 1000) : s.size ≤ maxLen := by unfold maxLen; omega

theorem ext_list (s : ByteArray) (a b : Nat) : (s.extract a b).toList = (s.data.toList.drop a).take (b - a) := by
  rw [ByteArray.toList_eq]
  simp [ByteArray.data_extract]
theorem isLeast_y (s : ByteArray) (k p n : Nat) (aS aF : Addr) (w : World) (g : Glob aS aF w) (hs : s.size ≤ maxLen) (hd : Sz.dec s.data.toList k = ((n : Int), (p : Int), 0)) (hn : n ≤ 16777215) (hkp : k ≤ p) (hp : p ≤ s.size) :
    Calls Tryd.prog 17 #[.string s, .int .i64 k] w fun e w' => e = .returned (.bool ((s.data.toList.drop k).take (p - k) == Sz.least n)) ∧ Below w.heap.size w w' := by
  rw [← ext_list]
  exact isLeast_yes s k p n aS aF w g hs hd hn hkp hp

set_option maxRecDepth 100000 in
set_option maxHeartbeats 1000000 in
theorem shown_true (aS aF : Addr) (w : World) (g : Glob aS aF w) :
    Calls Tryd.prog 9 #[] w fun e w' => e = .returned (.bool true) ∧ Below w.heap.size w w' := by
  have e1 := encode_ok 300 w (by decide) (by decide)
  rw [show lst (300 : Int).toNat = ⟨#[130, 1, 44]⟩ from by decide] at e1
  have e2 : Hid (∀ w1, Below w.heap.size w w1 → Calls Tryd.prog 13 #[.string ⟨#[97, 131, 0, 1, 44]⟩, .int .i64 1] w1 fun e w' => e = .returned (.tuple #[.int .i64 300, .int .i64 5, .int .i64 0]) ∧ Below w.heap.size w w') := fun w1 hb => by
    have := decode_any ⟨#[97, 131, 0, 1, 44]⟩ 1 aS aF w1 (g.below (Nat.le_refl _) hb) (small_maxLen (by decide))
    rw [show Sz.dec (⟨#[97, 131, 0, 1, 44]⟩ : ByteArray).data.toList 1 = (300, 5, 0) from by decide] at this
    exact this.mono fun e w' ⟨he, hb'⟩ => ⟨he, hb.trans (hb'.mono hb.size)⟩
  have e3 : Hid (∀ w1, Below w.heap.size w w1 → Calls Tryd.prog 13 #[.string ⟨#[128]⟩, .int .i64 0] w1 fun e w' => e = .returned (.tuple #[.int .i64 0, .int .i64 0, .int .i64 11]) ∧ Below w.heap.size w w') := fun w1 hb => by
    have := decode_any ⟨#[128]⟩ 0 aS aF w1 (g.below (Nat.le_refl _) hb) (small_maxLen (by decide))
    rw [show Sz.dec (⟨#[128]⟩ : ByteArray).data.toList 0 = (0, 0, 11) from by decide] at this
    exact this.mono fun e w' ⟨he, hb'⟩ => ⟨he, hb.trans (hb'.mono hb.size)⟩
  have e4 : Hid (∀ w1, Below w.heap.size w w1 → Calls Tryd.prog 13 #[.string ⟨#[130, 1]⟩, .int .i64 0] w1 fun e w' => e = .returned (.tuple #[.int .i64 0, .int .i64 0, .int .i64 10]) ∧ Below w.heap.size w w') := fun w1 hb => by
    have := decode_any ⟨#[130, 1]⟩ 0 aS aF w1 (g.below (Nat.le_refl _) hb) (small_maxLen (by decide))
    rw [show Sz.dec (⟨#[130, 1]⟩ : ByteArray).data.toList 0 = (0, 0, 10) from by decide] at this
    exact this.mono fun e w' ⟨he, hb'⟩ => ⟨he, hb.trans (hb'.mono hb.size)⟩
  have e5 : Hid (∀ w1, Below w.heap.size w w1 → Calls Tryd.prog 17 #[.string ⟨#[130, 1, 44]⟩, .int .i64 0] w1 fun e w' => e = .returned (.bool true) ∧ Below w.heap.size w w') := fun w1 hb => by
    have := isLeast_y ⟨#[130, 1, 44]⟩ 0 3 300 aS aF w1 (g.below (Nat.le_refl _) hb) (small_maxLen (by decide)) (by decide) (by decide) (by decide) (by decide)
    rw [show (((⟨#[130, 1, 44]⟩ : ByteArray).data.toList.drop 0).take (3 - 0) == Sz.least 300) = true from by decide] at this
    exact this.mono fun e w' ⟨he, hb'⟩ => ⟨he, hb.trans (hb'.mono hb.size)⟩
  have e6 : Hid (∀ w1, Below w.heap.size w w1 → Calls Tryd.prog 17 #[.string ⟨#[129, 5]⟩, .int .i64 0] w1 fun e w' => e = .returned (.bool false) ∧ Below w.heap.size w w') := fun w1 hb => by
    have := isLeast_y ⟨#[129, 5]⟩ 0 2 5 aS aF w1 (g.below (Nat.le_refl _) hb) (small_maxLen (by decide)) (by decide) (by decide) (by decide) (by decide)
    rw [show (((⟨#[129, 5]⟩ : ByteArray).data.toList.drop 0).take (2 - 0) == Sz.least 5) = false from by decide] at this
    exact this.mono fun e w' ⟨he, hb'⟩ => ⟨he, hb.trans (hb'.mono hb.size)⟩
  clear g
  go_enter Tryd.func9, Tryd.ntmps9
  go_wp2_with fail
  refine e1.mono ?_
  rintro e w1 ⟨rfl, hb1⟩
  go_wp2_with fail
  refine (e2.out _ hb1).mono ?_
  rintro e w2 ⟨rfl, hb2⟩
  go_wp2_with fail
  refine (e3.out _ hb2).mono ?_
  rintro e w3 ⟨rfl, hb3⟩
  go_wp2_with fail
  refine (e4.out _ hb3).mono ?_
  rintro e w4 ⟨rfl, hb4⟩
  go_wp2_with fail
  refine (e5.out _ hb4).mono ?_
  rintro e w5 ⟨rfl, hb5⟩
  go_wp2_with fail
  refine (e6.out _ hb5).mono ?_
  rintro e w6 ⟨rfl, hb6⟩
  go_wp2
  go_ret
  exact ⟨rfl, hb6⟩
end Go.Proofs.YtahpaoajhmhgjaaDoor
