/-
  errors.Is at nil. Conditions: none.
-/
import Derived.Test.YthfcnjcpanoldaaGreatDoorDErrFacts
namespace Go.Proofs.YthfcnjcpanoldaaGreatDoor.D
open Go.RowKit Go.Extern.Stop Go.Stop Go.Extern
set_option maxRecDepth 100000 in
theorem Is_nil (b : Addr) (w : World) : Calls Tryz.prog 48 #[.nilIface, .iface 219 (.pointer (some b))] w fun e w' => e = .returned (.bool false) ∧ w' = w := by
  have hn := fun w => run_eql_iface_nil_left (P := Tryz.prog) w 219 (.pointer (some b)) Tryz.underlying45
  go_enter Tryz.func48, Tryz.ntmps48
  go_wp2
  go_ret
  exact ⟨rfl, rfl⟩
end Go.Proofs.YthfcnjcpanoldaaGreatDoor.D
