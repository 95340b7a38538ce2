/-
  What utf.width, next and isSign answer. Conditions: none.
-/
import Derived.Test.YtgapoofalnakmaaDoorUErrs
import Derived.Test.YtgapoofalnakmaaDoorUPure
import Derived.Laws.BitsAllLaws
namespace Go.Proofs.YtgapoofalnakmaaDoor.U
open Go Go.RowKit

theorem hide {p : Prop} (h : p) : Hid p := h
theorem unhide {p : Prop} (h : Hid p) : p := h

theorem or192 (x : Int) (h : 0 ≤ x ∧ x < 32) : bits .or .u8 192 x = 192 + x := by
  have : ∀ y : Fin 32, bits .or .u8 192 ((y.val : Nat) : Int) = 192 + ((y.val : Nat) : Int) := by decide +kernel
  have := this ⟨x.toNat, by omega⟩
  rwa [show ((x.toNat : Nat) : Int) = x by omega] at this
theorem or224 (x : Int) (h : 0 ≤ x ∧ x < 16) : bits .or .u8 224 x = 224 + x := by
  have : ∀ y : Fin 16, bits .or .u8 224 ((y.val : Nat) : Int) = 224 + ((y.val : Nat) : Int) := by decide +kernel
  have := this ⟨x.toNat, by omega⟩
  rwa [show ((x.toNat : Nat) : Int) = x by omega] at this
theorem or240 (x : Int) (h : 0 ≤ x ∧ x < 8) : bits .or .u8 240 x = 240 + x := by
  have : ∀ y : Fin 8, bits .or .u8 240 ((y.val : Nat) : Int) = 240 + ((y.val : Nat) : Int) := by decide +kernel
  have := this ⟨x.toNat, by omega⟩
  rwa [show ((x.toNat : Nat) : Int) = x by omega] at this
theorem or128 (x : Int) (h : 0 ≤ x ∧ x < 64) : bits .or .u8 128 x = 128 + x := by
  have : ∀ y : Fin 64, bits .or .u8 128 ((y.val : Nat) : Int) = 128 + ((y.val : Nat) : Int) := by decide +kernel
  have := this ⟨x.toNat, by omega⟩
  rwa [show ((x.toNat : Nat) : Int) = x by omega] at this
theorem and63 (x : Int) (h : 0 ≤ x ∧ x < 256) : bits .and .u8 x 63 = x % 64 := by
  have : ∀ y : Fin 256, bits .and .u8 ((y.val : Nat) : Int) 63 = ((y.val : Nat) : Int) % 64 := by decide +kernel
  have := this ⟨x.toNat, by omega⟩
  rwa [show ((x.toNat : Nat) : Int) = x by omega] at this

set_option maxRecDepth 100000 in
theorem next_any (n : Int) (w : World) :
    Calls Tryd.prog 79 #[.int .i32 n] w fun e w' => e = .returned (.int .u8 (128 + n % 64)) ∧ w' = w := by
  go_enter Tryd.func79, Tryd.ntmps79
  go_wp2
  go_ret
  exact ⟨rfl, rfl⟩

/-- how many bytes a sign has. -/
def wd (n : Nat) : Nat := (Ut.enc n).length
theorem wd_eq (n : Nat) : wd n = if n < 128 then 1 else if n < 2048 then 2 else if n < 65536 then 3 else 4 := Ut.enc_length n
set_option maxRecDepth 100000 in
theorem width_any (n : Nat) (w : World) (h : n ≤ 1114111) :
    Calls Tryd.prog 74 #[.int .i32 n] w fun e w' => e = .returned (.int .i64 (wd n)) ∧ w' = w := by
  rw [wd_eq]
  by_cases h1 : n < 128
  · have a : ¬ (65536 : Int) ≤ n := by omega
    have c : ¬ (2048 : Int) ≤ n := by omega
    have d : ¬ (128 : Int) ≤ n := by omega
    rw [if_pos h1]
    go_enter Tryd.func74, Tryd.ntmps74
    go_wp2
    go_ret
    exact ⟨rfl, rfl⟩
  rw [if_neg h1]
  by_cases h2 : n < 2048
  · have a : ¬ (65536 : Int) ≤ n := by omega
    have c : ¬ (2048 : Int) ≤ n := by omega
    have d : (128 : Int) ≤ n := by omega
    rw [if_pos h2]
    go_enter Tryd.func74, Tryd.ntmps74
    go_wp2
    go_ret
    exact ⟨rfl, rfl⟩
  rw [if_neg h2]
  by_cases h3 : n < 65536
  · have a : ¬ (65536 : Int) ≤ n := by omega
    have c : (2048 : Int) ≤ n := by omega
    have d : (128 : Int) ≤ n := by omega
    rw [if_pos h3]
    go_enter Tryd.func74, Tryd.ntmps74
    go_wp2
    go_ret
    exact ⟨rfl, rfl⟩
  · have a : (65536 : Int) ≤ n := by omega
    have c : (2048 : Int) ≤ n := by omega
    have d : (128 : Int) ≤ n := by omega
    rw [if_neg h3]
    go_enter Tryd.func74, Tryd.ntmps74
    go_wp2
    go_ret
    exact ⟨rfl, rfl⟩

/-- is a number a sign? -/
def isg (n : Int) : Bool := decide (0 ≤ n ∧ n ≤ 1114111 ∧ (n < 55296 ∨ 57344 ≤ n))
end Go.Proofs.YtgapoofalnakmaaDoor.U
