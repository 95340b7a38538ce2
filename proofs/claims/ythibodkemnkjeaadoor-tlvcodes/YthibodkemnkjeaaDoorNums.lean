/-
  The model's words for u32's shift and or, at bytes. Plain arithmetic. Conditions: none.
-/
import Derived.Test.YthibodkemnkjeaaDoorPure
import Derived.WalkKit
import Derived.Laws.BitsAllLaws
namespace Go.Proofs.YthibodkemnkjeaaDoor
open Go

theorem wrap_u32 (n : Nat) (h : n < 4294967296) : IntKind.u32.wrap (n : Int) = n := by
  simp [IntKind.wrap, IntKind.signed, IntKind.bits]
  omega
theorem wrap_mul (n : Nat) (h : 256 * n < 4294967296) : IntKind.u32.wrap ((n : Int) * 256) = (256 * n : Nat) := by
  rw [show (n : Int) * 256 = ((256 * n : Nat) : Int) by omega]
  exact wrap_u32 _ h
theorem or_byte (n : Nat) (x : UInt8) (h : 256 * n < 4294967296) : bits .or .u32 ((256 * n : Nat) : Int) (x.toNat : Int) = (256 * n + x.toNat : Nat) := by
  have hx : x.toNat < 2 ^ 8 := x.toNat_lt
  have e : (256 * n) ||| x.toNat = 256 * n + x.toNat := by
    rw [show 256 * n = n <<< 8 by rw [Nat.shiftLeft_eq]; omega, Nat.shiftLeft_add_eq_or_of_lt hx]
  rw [u32_or_nat _ _ h (by omega), e]
end Go.Proofs.YthibodkemnkjeaaDoor
