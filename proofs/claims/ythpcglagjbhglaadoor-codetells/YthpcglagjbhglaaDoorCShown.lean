/-
  The law file's shown() and cut(). Conditions: the package-level variables hold what the program's text lays.
-/
import Derived.Test.YthpcglagjbhglaaDoorCDoor
import Derived.KernelRfl
namespace Go.Proofs.YthpcglagjbhglaaDoor.C
open Go Go.RowKit Cd

/-- a call that answers v and keeps what lay in w. -/
def Keeps (w : World) (f : FuncId) (args : Array Value) (v : Value) : Prop :=
  ∀ w1, Below w.heap.size w w1 → Calls Tryd.prog f args w1 fun e w' => e = .returned v ∧ Below w1.heap.size w1 w'
theorem keep {a : Ad} {w : World} (g : Glob a w) {f : FuncId} {args : Array Value} {v : Value}
    (h : ∀ w1, Glob a w1 → Calls Tryd.prog f args w1 fun e w' => e = .returned v ∧ Below w1.heap.size w1 w') : Keeps w f args v :=
  fun w1 hb => h w1 (g.below (Nat.le_refl _) hb)
theorem K_base (w : World) (s : ByteArray) (hs : s.size ≤ 2000) : Keeps w 15 #[.string s] (.string (pri kB s)) := fun w1 _ => base_any s w1 hs
theorem K_hex (w : World) (s : ByteArray) (hs : s.size ≤ 2000) : Keeps w 17 #[.string s] (.string (pri kH s)) := fun w1 _ => hex_any s w1 hs
theorem K_unbase {a : Ad} {w : World} (g : Glob a w) (s : ByteArray) (hs : s.size ≤ 2000) : Keeps w 11 #[.string s] (.tuple #[.string (und kB s).1, .int .i64 (und kB s).2]) := keep g fun w1 g1 => unbase_any s a w1 g1 hs
theorem K_unhex {a : Ad} {w : World} (g : Glob a w) (s : ByteArray) (hs : s.size ≤ 2000) : Keeps w 13 #[.string s] (.tuple #[.string (und kH s).1, .int .i64 (und kH s).2]) := keep g fun w1 g1 => unhex_any s a w1 g1 hs
theorem step {w w1 w2 : World} (h : Below w.heap.size w w1) (k : Below w1.heap.size w1 w2) : Below w.heap.size w w2 := h.trans (k.mono h.size)

set_option maxRecDepth 100000 in
set_option maxHeartbeats 2000000 in
theorem shown_true (a : Ad) (w : World) (g : Glob a w) : Calls Tryd.prog 9 #[] w fun e w' => e = .returned (.bool true) ∧ Below w.heap.size w w' := by
  have e1 : Hid (Keeps w 11 #[.string ⟨#[84, 87, 69, 61]⟩] (.tuple #[.string ⟨#[77, 97]⟩, .int .i64 0])) := by
    have := K_unbase g ⟨#[84, 87, 69, 61]⟩ (by decide)
    rwa [show und kB ⟨#[84, 87, 69, 61]⟩ = (⟨#[77, 97]⟩, 0) by kernel_rfl] at this
  have e2 : Hid (Keeps w 11 #[.string ⟨#[84, 87, 70, 61]⟩] (.tuple #[.string ⟨#[]⟩, .int .i64 50])) := by
    have := K_unbase g ⟨#[84, 87, 70, 61]⟩ (by decide)
    rwa [show und kB ⟨#[84, 87, 70, 61]⟩ = (⟨#[]⟩, 50) by kernel_rfl] at this
  have e3 : Hid (Keeps w 11 #[.string ⟨#[84, 87, 69]⟩] (.tuple #[.string ⟨#[]⟩, .int .i64 50])) := by
    have := K_unbase g ⟨#[84, 87, 69]⟩ (by decide)
    rwa [show und kB ⟨#[84, 87, 69]⟩ = (⟨#[]⟩, 50) by kernel_rfl] at this
  have e4 : Hid (Keeps w 13 #[.string ⟨#[52, 68, 54, 49]⟩] (.tuple #[.string ⟨#[77, 97]⟩, .int .i64 0])) := by
    have := K_unhex g ⟨#[52, 68, 54, 49]⟩ (by decide)
    rwa [show und kH ⟨#[52, 68, 54, 49]⟩ = (⟨#[77, 97]⟩, 0) by kernel_rfl] at this
  have e5 : Hid (Keeps w 13 #[.string ⟨#[52, 103]⟩] (.tuple #[.string ⟨#[]⟩, .int .i64 50])) := by
    have := K_unhex g ⟨#[52, 103]⟩ (by decide)
    rwa [show und kH ⟨#[52, 103]⟩ = (⟨#[]⟩, 50) by kernel_rfl] at this
  have e6 : Hid (Keeps w 15 #[.string ⟨#[77, 97, 110]⟩] (.string ⟨#[84, 87, 70, 117]⟩)) := by
    have := K_base w ⟨#[77, 97, 110]⟩ (by decide)
    rwa [show pri kB ⟨#[77, 97, 110]⟩ = ⟨#[84, 87, 70, 117]⟩ by kernel_rfl] at this
  have e7 : Hid (Keeps w 15 #[.string ⟨#[77]⟩] (.string ⟨#[84, 81, 61, 61]⟩)) := by
    have := K_base w ⟨#[77]⟩ (by decide)
    rwa [show pri kB ⟨#[77]⟩ = ⟨#[84, 81, 61, 61]⟩ by kernel_rfl] at this
  have e8 : Hid (Keeps w 17 #[.string ⟨#[77, 97]⟩] (.string ⟨#[52, 100, 54, 49]⟩)) := by
    have := K_hex w ⟨#[77, 97]⟩ (by decide)
    rwa [show pri kH ⟨#[77, 97]⟩ = ⟨#[52, 100, 54, 49]⟩ by kernel_rfl] at this
  clear g
  go_enter Tryd.func9, Tryd.ntmps9
  go_wp2_with fail
  refine ((unhide e1) _ (Below.refl _ _)).mono ?_
  rintro e w1 ⟨rfl, hb⟩
  have B1 := hide (step (Below.refl _ _) hb)
  clear hb
  go_wp2_with fail
  refine ((unhide e2) _ (unhide B1)).mono ?_
  rintro e w2 ⟨rfl, hb⟩
  have B2 := hide (step (unhide B1) hb)
  clear hb
  go_wp2_with fail
  refine ((unhide e3) _ (unhide B2)).mono ?_
  rintro e w3 ⟨rfl, hb⟩
  have B3 := hide (step (unhide B2) hb)
  clear hb
  go_wp2_with fail
  refine ((unhide e4) _ (unhide B3)).mono ?_
  rintro e w4 ⟨rfl, hb⟩
  have B4 := hide (step (unhide B3) hb)
  clear hb
  go_wp2_with fail
  refine ((unhide e5) _ (unhide B4)).mono ?_
  rintro e w5 ⟨rfl, hb⟩
  have B5 := hide (step (unhide B4) hb)
  clear hb
  go_wp2_with fail
  refine ((unhide e6) _ (unhide B5)).mono ?_
  rintro e w6 ⟨rfl, hb⟩
  have B6 := hide (step (unhide B5) hb)
  clear hb
  go_wp2_with fail
  refine ((unhide e7) _ (unhide B6)).mono ?_
  rintro e w7 ⟨rfl, hb⟩
  have B7 := hide (step (unhide B6) hb)
  clear hb
  go_wp2_with fail
  refine ((unhide e8) _ (unhide B7)).mono ?_
  rintro e w8 ⟨rfl, hb⟩
  have B8 := hide (step (unhide B7) hb)
  clear hb
  go_wp2
  go_ret
  exact ⟨rfl, unhide B8⟩
theorem K_shown {a : Ad} {w : World} (g : Glob a w) : Keeps w 9 #[] (.bool true) := keep g fun w1 g1 => shown_true a w1 g1

theorem cut_any (s : ByteArray) (w : World) (hs : s.size ≤ maxLen) :
    Calls Tryd.prog 10 #[.string s] w fun e w' => e = .returned (.string (s.extract 0 200)) ∧ w' = w := by
  unfold maxLen at hs
  by_cases h : s.size ≤ 200
  · have h' : (s.size : Int) ≤ 200 := by omega
    have e : s.extract 0 200 = s := by
      apply ByteArray.ext
      simp [ByteArray.data_extract]
      exact .inr h
    rw [e]
    go_enter Tryd.func10, Tryd.ntmps10
    go_wp2
    go_ret
    exact ⟨rfl, rfl⟩
  · have h' : ¬ (s.size : Int) ≤ 200 := by omega
    go_enter Tryd.func10, Tryd.ntmps10
    go_wp2
    go_ret
    exact ⟨rfl, rfl⟩
theorem cut_size (s : ByteArray) : (s.extract 0 200).size ≤ 200 := by
  rw [ByteArray.size_extract]; omega
theorem K_cut {w : World} (s : ByteArray) (hs : s.size ≤ maxLen) : Keeps w 10 #[.string s] (.string (s.extract 0 200)) :=
  fun w1 _ => (cut_any s w1 hs).mono fun _ _ ⟨he, hw⟩ => ⟨he, by rw [hw]; exact Below.refl _ _⟩
/-- plain facts on what is printed. -/
theorem pri_size_B (s : ByteArray) : (pri kB s).size = 4 * ((s.size + 2) / 3) := by
  show (enc kB s.data.toList).toArray.size = _
  rw [List.size_toArray, Cd.size_B, Array.length_toList]
  rfl
theorem pri_size_H (s : ByteArray) : (pri kH s).size = 2 * s.size := by
  show (enc kH s.data.toList).toArray.size = _
  rw [List.size_toArray, Cd.size_H, Array.length_toList]
  rfl
theorem pri_data (k : Kd) (s : ByteArray) : (pri k s).data.toList = enc k s.data.toList := rfl
theorem mk_data (s : ByteArray) : (⟨s.data.toList.toArray⟩ : ByteArray) = s := by cases s; rfl
theorem und_pri_B (s : ByteArray) : und kB (pri kB s) = (s, 0) := by
  unfold und
  rw [pri_data, back_B]
theorem und_pri_H (s : ByteArray) : und kH (pri kH s) = (s, 0) := by
  unfold und
  rw [pri_data, back_H]
end Go.Proofs.YthpcglagjbhglaaDoor.C
