/-
  What utf.checkRight, Right and IsSafe answer. Conditions: the package-level variables hold what the program's text lays ('Glob').
-/
import Derived.Test.YtgapoofalnakmaaDoorUCheck
namespace Go.Proofs.YtgapoofalnakmaaDoor.U
open Go Go.RowKit

/-- the first place that is not right. -/
def bad (s : ByteArray) : Option Nat := first (st s) (all s)
theorem follow_any (s : ByteArray) (b n : Nat) (v : Value) (w : World) (h : Calls Tryd.prog 70 #[.agg #[.string s, .slice (some ⟨b, 0, none⟩) n n]] w fun e w' => e = .returned v ∧ Below w.heap.size w w') :
    Calls Tryd.prog 60 #[.string s, .slice (some ⟨b, 0, none⟩) n n] w fun e w' => e = .returned v ∧ Below w.heap.size w w' := by
  have H := hide h
  clear h
  go_enter Tryd.func60, Tryd.ntmps60
  go_wp2_with fail
  refine (unhide H).mono ?_
  rintro e w1 ⟨rfl, hb⟩
  have HB := hide hb
  clear hb
  go_wp2
  go_ret
  exact ⟨rfl, unhide HB⟩
theorem checkRight_any (s : ByteArray) (aU aS : Addr) (w : World) (g : Glob aU aS w) (hs : s.size ≤ 1000) :
    Calls Tryd.prog 48 #[.string s] w fun e w' => e = .returned (fv aU (bad s)) ∧ Below w.heap.size w w' := by
  have H := follow_any s _ _ _ _ (check_told s w.heap.size aU aS (w.alloc (.cells #[.func (.func 61) #[] #[]] 134)) (g.alloc _) hs (by simp))
  have H2 := hide H
  clear H g
  go_enter Tryd.func48, Tryd.ntmps48
  go_wp2_with fail
  refine (unhide H2).mono ?_
  rintro e w1 ⟨rfl, hb⟩
  have HB := hide hb
  clear hb
  go_wp2
  go_ret
  exact ⟨rfl, ((Below.refl _ _).alloc (Nat.le_refl _) _).trans ((unhide HB).mono (by simp))⟩
end Go.Proofs.YtgapoofalnakmaaDoor.U
