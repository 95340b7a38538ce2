/-
  What utf.checkRight, Right and IsSafe answer. Conditions: the package-level variables hold what the program's text lays ('Glob').
-/
import Derived.Test.YtpfopmjpchiekaaDoorUCheck3
namespace Go.Proofs.YtpfopmjpchiekaaDoor.U
open Go Go.RowKit

/-- the first place that is not right. -/
def bad (s : ByteArray) : Option Nat := first (st s) (all s)
/-- is a text safe? -/
def safe (s : ByteArray) : Bool := (first (ok3 s) (all s)).isNone

theorem follow_any (s : ByteArray) (b n : Nat) (v : Value) (w : World) (h : Calls Tryd.prog 42 #[.agg #[.string s, .slice (some ⟨b, 0, none⟩) n n]] w fun e w' => e = .returned v ∧ Below w.heap.size w w') :
    Calls Tryd.prog 32 #[.string s, .slice (some ⟨b, 0, none⟩) n n] w fun e w' => e = .returned v ∧ Below w.heap.size w w' := by
  have H := hide h
  clear h
  go_enter Tryd.func32, Tryd.ntmps32
  go_wp2_with fail
  refine (unhide H).mono ?_
  rintro e w1 ⟨rfl, hb⟩
  have HB := hide hb
  clear hb
  go_wp2
  go_ret
  exact ⟨rfl, unhide HB⟩
theorem checkRight_any (s : ByteArray) (aU aS : Addr) (w : World) (g : Glob aU aS w) (hs : s.size ≤ 1000) :
    Calls Tryd.prog 24 #[.string s] w fun e w' => e = .returned (fv aU (bad s)) ∧ Below w.heap.size w w' := by
  have H := follow_any s _ _ _ _ (check_told s w.heap.size aU aS (w.alloc (.cells #[.func (.func 36) #[] #[]] 87)) (g.alloc _) hs (by simp))
  have H2 := hide H
  clear H g
  go_enter Tryd.func24, Tryd.ntmps24
  go_wp2_with fail
  refine (unhide H2).mono ?_
  rintro e w1 ⟨rfl, hb⟩
  have HB := hide hb
  clear hb
  go_wp2
  go_ret
  exact ⟨rfl, ((Below.refl _ _).alloc (Nat.le_refl _) _).trans ((unhide HB).mono (by simp))⟩
theorem right_any (s : ByteArray) (aU aS : Addr) (w : World) (g : Glob aU aS w) (hs : s.size ≤ 1000) :
    Calls Tryd.prog 17 #[.string s] w fun e w' => e = .returned (.bool (bad s).isNone) ∧ Below w.heap.size w w' := by
  have H := hide (checkRight_any s aU aS w g hs)
  clear g
  generalize bad s = o at *
  cases o
  · go_enter Tryd.func17, Tryd.ntmps17
    go_wp2_with fail
    refine (unhide H).mono ?_
    rintro e w1 ⟨rfl, hb⟩
    unfold fv
    have HB := hide hb
    clear hb
    go_wp2
    go_ret
    exact ⟨rfl, unhide HB⟩
  · go_enter Tryd.func17, Tryd.ntmps17
    go_wp2_with fail
    refine (unhide H).mono ?_
    rintro e w1 ⟨rfl, hb⟩
    unfold fv
    have HB := hide hb
    clear hb
    go_wp2
    go_ret
    exact ⟨rfl, unhide HB⟩
theorem isSafe_any (s : ByteArray) (aU aS : Addr) (w : World) (g : Glob aU aS w) (hs : s.size ≤ 1000) :
    Calls Tryd.prog 22 #[.string s] w fun e w' => e = .returned (.bool (safe s)) ∧ Below w.heap.size w w' := by
  have H := hide (follow_any s _ _ _ _ (check_safe s w.heap.size aU aS (w.alloc (.cells #[.func (.func 33) #[] #[], .func (.func 34) #[] #[], .func (.func 35) #[] #[]] 87)) (g.alloc _) hs (by simp) (by simp) (by simp)))
  clear g
  unfold safe
  generalize first (ok3 s) (all s) = o at *
  cases o
  · go_enter Tryd.func22, Tryd.ntmps22
    go_wp2_with fail
    refine (unhide H).mono ?_
    rintro e w1 ⟨rfl, hb⟩
    unfold fv
    have HB := hide hb
    clear hb
    go_wp2
    go_ret
    exact ⟨rfl, ((Below.refl _ _).alloc (Nat.le_refl _) _).trans ((unhide HB).mono (by simp))⟩
  · go_enter Tryd.func22, Tryd.ntmps22
    go_wp2_with fail
    refine (unhide H).mono ?_
    rintro e w1 ⟨rfl, hb⟩
    unfold fv
    have HB := hide hb
    clear hb
    go_wp2
    go_ret
    exact ⟨rfl, ((Below.refl _ _).alloc (Nat.le_refl _) _).trans ((unhide HB).mono (by simp))⟩
end Go.Proofs.YtpfopmjpchiekaaDoor.U
