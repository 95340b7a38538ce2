/-
  What utf.Text, Signs and Bad answer, at every input. Conditions: the package-level variables hold what the program's text lays ('Glob').
-/
import Derived.Test.YtgapoofalnakmaaDoorUFault
namespace Go.Proofs.YtgapoofalnakmaaDoor.U
open Go Go.RowKit

theorem bad_any (s : ByteArray) (aU aS : Addr) (w : World) (g : Glob aU aS w) (hs : s.size ≤ 1000) :
    Calls Tryd.prog 34 #[.string s] w fun e w' => e = .returned (.int .i64 (pv (bad s))) ∧ Below w.heap.size w w' := by
  have H := hide (checkRight_any s aU aS w g hs)
  have H2 := hide fun w1 (hb : Below w.heap.size w w1) => placeOf_any (bad s) aU aS w1 (g.below (Nat.le_refl _) hb)
  clear g
  go_enter Tryd.func34, Tryd.ntmps34
  go_wp2_with fail
  refine (unhide H).mono ?_
  rintro e w1 ⟨rfl, hb⟩
  have HB := hide hb
  clear hb
  go_wp2_with fail
  refine ((unhide H2) _ (unhide HB)).mono ?_
  rintro e w2 ⟨rfl, hb⟩
  have HB2 := hide hb
  clear hb
  go_wp2
  go_ret
  exact ⟨rfl, (unhide HB).trans ((unhide HB2).mono (unhide HB).size)⟩

end Go.Proofs.YtgapoofalnakmaaDoor.U
