/-
  The law file's shown(), cut() and plain(). Conditions: the package-level variables hold what the program's text lays.
-/
import Derived.Test.YtgapoofalnakmaaDoorEDoor
import Derived.Test.YtgapoofalnakmaaDoorURight
import Derived.KernelRfl
namespace Go.Proofs.YtgapoofalnakmaaDoor.E
open Go Go.RowKit Ec
attribute [local go_sem] Oper.semAt_some

/-- a call that answers v and keeps what lay in w. -/
def Keeps (w : World) (f : FuncId) (args : Array Value) (v : Value) : Prop :=
  ∀ w1, Below w.heap.size w w1 → Calls Tryd.prog f args w1 fun e w' => e = .returned v ∧ Below w1.heap.size w1 w'
theorem keep {a : Ad} {w : World} (g : Glob a w) {f : FuncId} {args : Array Value} {v : Value}
    (h : ∀ w1, Glob a w1 → Calls Tryd.prog f args w1 fun e w' => e = .returned v ∧ Below w1.heap.size w1 w') : Keeps w f args v :=
  fun w1 hb => h w1 (g.below (Nat.le_refl _) hb)
theorem K_filter (w : World) (s : ByteArray) (hs : s.size ≤ 1000) : Keeps w 15 #[.string s] (.string (pri false s)) := fun w1 _ => filter_any s w1 hs
theorem K_name (w : World) (s : ByteArray) (hs : s.size ≤ 1000) : Keeps w 17 #[.string s] (.string (pri true s)) := fun w1 _ => name_any s w1 hs
theorem K_readFilter {a : Ad} {w : World} (g : Glob a w) (s : ByteArray) (hs : s.size ≤ 1000) : Keeps w 11 #[.string s] (.tuple #[.string (und false s).1, .int .i64 (und false s).2]) := keep g fun w1 g1 => readFilter_any s a w1 g1 hs
theorem K_readName {a : Ad} {w : World} (g : Glob a w) (s : ByteArray) (hs : s.size ≤ 1000) : Keeps w 13 #[.string s] (.tuple #[.string (und true s).1, .int .i64 (und true s).2]) := keep g fun w1 g1 => readName_any s a w1 g1 hs
theorem step {w w1 w2 : World} (h : Below w.heap.size w w1) (k : Below w1.heap.size w1 w2) : Below w.heap.size w w2 := h.trans (k.mono h.size)

set_option maxRecDepth 100000 in
set_option maxHeartbeats 2000000 in
theorem shown_true (a : Ad) (w : World) (g : Glob a w) : Calls Tryd.prog 9 #[] w fun e w' => e = .returned (.bool true) ∧ Below w.heap.size w w' := by
  have e1 : Hid (Keeps w 11 #[.string ⟨#[97, 92, 50, 65, 92, 50, 56, 98]⟩] (.tuple #[.string ⟨#[97, 42, 40, 98]⟩, .int .i64 0])) := by
    have := K_readFilter g ⟨#[97, 92, 50, 65, 92, 50, 56, 98]⟩ (by decide)
    rwa [show und false ⟨#[97, 92, 50, 65, 92, 50, 56, 98]⟩ = (⟨#[97, 42, 40, 98]⟩, 0) by kernel_rfl] at this
  have e2 : Hid (Keeps w 13 #[.string ⟨#[92, 32, 97, 92, 44, 98, 92, 99, 51, 92, 97, 57, 92, 32]⟩] (.tuple #[.string ⟨#[32, 97, 44, 98, 195, 169, 32]⟩, .int .i64 0])) := by
    have := K_readName g ⟨#[92, 32, 97, 92, 44, 98, 92, 99, 51, 92, 97, 57, 92, 32]⟩ (by decide)
    rwa [show und true ⟨#[92, 32, 97, 92, 44, 98, 92, 99, 51, 92, 97, 57, 92, 32]⟩ = (⟨#[32, 97, 44, 98, 195, 169, 32]⟩, 0) by kernel_rfl] at this
  have e3 : Hid (Keeps w 11 #[.string ⟨#[97, 42]⟩] (.tuple #[.string ⟨#[]⟩, .int .i64 60])) := by
    have := K_readFilter g ⟨#[97, 42]⟩ (by decide)
    rwa [show und false ⟨#[97, 42]⟩ = (⟨#[]⟩, 60) by kernel_rfl] at this
  have e4 : Hid (Keeps w 13 #[.string ⟨#[32, 97]⟩] (.tuple #[.string ⟨#[]⟩, .int .i64 60])) := by
    have := K_readName g ⟨#[32, 97]⟩ (by decide)
    rwa [show und true ⟨#[32, 97]⟩ = (⟨#[]⟩, 60) by kernel_rfl] at this
  have e5 : Hid (Keeps w 15 #[.string ⟨#[97, 42, 40, 98, 41]⟩] (.string ⟨#[97, 92, 50, 97, 92, 50, 56, 98, 92, 50, 57]⟩)) := by
    have := K_filter w ⟨#[97, 42, 40, 98, 41]⟩ (by decide)
    rwa [show pri false ⟨#[97, 42, 40, 98, 41]⟩ = ⟨#[97, 92, 50, 97, 92, 50, 56, 98, 92, 50, 57]⟩ by kernel_rfl] at this
  have e6 : Hid (Keeps w 17 #[.string ⟨#[32, 97, 44, 98, 32]⟩] (.string ⟨#[92, 32, 97, 92, 44, 98, 92, 32]⟩)) := by
    have := K_name w ⟨#[32, 97, 44, 98, 32]⟩ (by decide)
    rwa [show pri true ⟨#[32, 97, 44, 98, 32]⟩ = ⟨#[92, 32, 97, 92, 44, 98, 92, 32]⟩ by kernel_rfl] at this
  clear g
  go_enter Tryd.func9, Tryd.ntmps9
  go_wp2_with fail
  refine ((unhide e1) _ (Below.refl _ _)).mono ?_
  rintro e w1 ⟨rfl, hb⟩
  have B1 := hide (step (Below.refl _ _) hb)
  clear hb
  go_wp2_with fail
  refine ((unhide e2) _ (unhide B1)).mono ?_
  rintro e w2 ⟨rfl, hb⟩
  have B2 := hide (step (unhide B1) hb)
  clear hb
  go_wp2_with fail
  refine ((unhide e3) _ (unhide B2)).mono ?_
  rintro e w3 ⟨rfl, hb⟩
  have B3 := hide (step (unhide B2) hb)
  clear hb
  go_wp2_with fail
  refine ((unhide e4) _ (unhide B3)).mono ?_
  rintro e w4 ⟨rfl, hb⟩
  have B4 := hide (step (unhide B3) hb)
  clear hb
  go_wp2_with fail
  refine ((unhide e5) _ (unhide B4)).mono ?_
  rintro e w5 ⟨rfl, hb⟩
  have B5 := hide (step (unhide B4) hb)
  clear hb
  go_wp2_with fail
  refine ((unhide e6) _ (unhide B5)).mono ?_
  rintro e w6 ⟨rfl, hb⟩
  have B6 := hide (step (unhide B5) hb)
  clear hb
  go_wp2
  go_ret
  exact ⟨rfl, unhide B6⟩
theorem K_shown {a : Ad} {w : World} (g : Glob a w) : Keeps w 9 #[] (.bool true) := keep g fun w1 g1 => shown_true a w1 g1

theorem cut_any (s : ByteArray) (w : World) (hs : s.size ≤ maxLen) :
    Calls Tryd.prog 10 #[.string s] w fun e w' => e = .returned (.string (s.extract 0 100)) ∧ w' = w := by
  unfold maxLen at hs
  by_cases h : s.size ≤ 100
  · have h' : (s.size : Int) ≤ 100 := by omega
    have e : s.extract 0 100 = s := by
      apply ByteArray.ext
      simp [ByteArray.data_extract]
      exact .inr h
    rw [e]
    go_enter Tryd.func10, Tryd.ntmps10
    go_wp2
    go_ret
    exact ⟨rfl, rfl⟩
  · have h' : ¬ (s.size : Int) ≤ 100 := by omega
    go_enter Tryd.func10, Tryd.ntmps10
    go_wp2
    go_ret
    exact ⟨rfl, rfl⟩
theorem cut_size (s : ByteArray) : (s.extract 0 100).size ≤ 100 := by
  rw [ByteArray.size_extract]; omega
theorem K_cut {w : World} (s : ByteArray) (hs : s.size ≤ maxLen) : Keeps w 10 #[.string s] (.string (s.extract 0 100)) :=
  fun w1 _ => (cut_any s w1 hs).mono fun _ _ ⟨he, hw⟩ => ⟨he, by rw [hw]; exact Below.refl _ _⟩

/-- plain(): are all bytes from 20 to 7e? -/
theorem all_drop {s : ByteArray} {j : Nat} (h : j < s.size) : (s.data.toList.drop j).all pln = (pln s[j] && (s.data.toList.drop (j + 1)).all pln) := by
  rw [drop_at h, List.all_cons]
set_option maxRecDepth 100000 in
theorem plain_any (s : ByteArray) (w : World) (hs : s.size ≤ 1000) :
    Calls Tryd.prog 19 #[.string s] w fun e w' => e = .returned (.bool (s.data.toList.all pln)) ∧ w' = w := by
  obtain ⟨r, hr⟩ : ∃ r, s.data.toList.all pln = r := ⟨_, rfl⟩
  rw [hr]
  have Hr := hide hr
  clear hr
  go_enter Tryd.func19, Tryd.ntmps19
  go_wp2
  go_loopw [3] (fun ix wr => ∃ j : Nat, j ≤ s.size ∧ ix = .int .i64 (j : Int) ∧ (s.data.toList.drop j).all pln = r ∧ wr = w)
    (fun ix _ => s.size - (intOf ix).toNat)
  case atStart => exact ⟨0, Nat.zero_le _, rfl, by rw [List.drop_zero]; exact unhide Hr, rfl⟩
  case round =>
    obtain ⟨j, hj, rfl, hd, rfl⟩ := hrel
    by_cases hlt : j < s.size
    · have hlt' : (j : Int) < s.size := by omega
      rw [all_drop hlt] at hd
      obtain ⟨y, hy⟩ : ∃ y, s[j] = y := ⟨_, rfl⟩
      rw [hy] at hd
      have hj' : (j : Int) ≤ 1000 := by omega
      by_cases a1 : (32 : Int) ≤ y.toNat
      · by_cases a2 : (y.toNat : Int) ≤ 126
        · have hp : pln y = true := by unfold pln; simp; omega
          rw [hp, Bool.true_and] at hd
          have Hd := hide hd
          clear hd hp
          go_wp2
          go_roundw
          case rel => exact ⟨j + 1, by omega, by simp, unhide Hd, by first | rfl | trivial⟩
          case measure => simp [intOf]; omega
        · have hp : pln y = false := by unfold pln; simp; omega
          rw [hp, Bool.false_and] at hd
          subst hd
          clear hp
          go_wp2
          go_ret
          exact ⟨rfl, rfl⟩
      · have hp : pln y = false := by unfold pln; simp; omega
        rw [hp, Bool.false_and] at hd
        subst hd
        clear hp
        go_wp2
        go_ret
        exact ⟨rfl, rfl⟩
    · have hge : ¬ (j : Int) < s.size := by omega
      rw [drop_out hlt] at hd
      obtain rfl : r = true := by rw [← hd]; rfl
      clear hd
      go_wp2
      go_ret
      exact ⟨rfl, rfl⟩
theorem K_plain {w : World} (s : ByteArray) (hs : s.size ≤ 1000) : Keeps w 19 #[.string s] (.bool (s.data.toList.all pln)) :=
  fun w1 _ => (plain_any s w1 hs).mono fun _ _ ⟨he, hw⟩ => ⟨he, by rw [hw]; exact Below.refl _ _⟩
end Go.Proofs.YtgapoofalnakmaaDoor.E
