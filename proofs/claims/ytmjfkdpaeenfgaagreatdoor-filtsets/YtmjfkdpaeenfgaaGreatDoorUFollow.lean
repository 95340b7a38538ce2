/-
  What utf.checkRight, Right and IsSafe answer. Conditions: the package-level variables hold what the program's text lays ('Glob').
-/
import Derived.Test.YtmjfkdpaeenfgaaGreatDoorG14
namespace Go.Proofs.YtmjfkdpaeenfgaaGreatDoor.U
open Go Go.RowKit

/-- the first place that is not right. -/
def bad (s : ByteArray) : Option Nat := first (st s) (all s)
theorem follow_any (s : ByteArray) (b n : Nat) (v : Value) (w : World) (h : Calls Tryz.prog 175 #[.agg #[.string s, .slice (some ⟨b, 0, none⟩) n n]] w fun e w' => e = .returned v ∧ Below w.heap.size w w') :
    Calls Tryz.prog 172 #[.string s, .slice (some ⟨b, 0, none⟩) n n] w fun e w' => e = .returned v ∧ Below w.heap.size w w' := by
  have H := hide h
  clear h
  go_enter Tryz.func172, Tryz.ntmps172
  go_wp2_with fail
  refine (unhide H).mono ?_
  rintro e w1 ⟨rfl, hb⟩
  have HB := hide hb
  clear hb
  go_wp2
  go_ret
  exact ⟨rfl, unhide HB⟩
theorem checkRight_any (s : ByteArray) (aU aS : Addr) (w : World) (g : Glob aU aS w) (hs : s.size ≤ 1000) :
    Calls Tryz.prog 170 #[.string s] w fun e w' => e = .returned (fv aU (bad s)) ∧ Below w.heap.size w w' := by
  have H := follow_any s _ _ _ _ (check_told s w.heap.size aU aS (w.alloc (.cells #[.func (.func 173) #[] #[]] 244)) (g.alloc _) hs (by simp))
  have H2 := hide H
  clear H g
  go_enter Tryz.func170, Tryz.ntmps170
  go_wp2_with fail
  refine (unhide H2).mono ?_
  rintro e w1 ⟨rfl, hb⟩
  have HB := hide hb
  clear hb
  go_wp2
  go_ret
  exact ⟨rfl, ((Below.refl _ _).alloc (Nat.le_refl _) _).trans ((unhide HB).mono (by simp))⟩
end Go.Proofs.YtmjfkdpaeenfgaaGreatDoor.U
