/-
  What the document's own value, Digit and group answer. Conditions: none.
-/
import Derived.Test.YtgapoofalnakmaaDoorCDoor
import Derived.Laws.DeepStrings4
namespace Go.Proofs.YtgapoofalnakmaaDoor.C
open Go Go.RowKit Cd
/-- what a digit is worth. -/
def dg (c : UInt8) : Int := match nh c with | some n => (n : Int) | none => -1
set_option maxRecDepth 100000 in
theorem digit_any (c : UInt8) (w : World) :
    Calls Tryd.prog 40 #[.int .u8 c.toNat] w fun e w' => e = .returned (.int .i64 (dg c)) ∧ w' = w := by
  have hc := c.toNat_lt
  unfold dg nh
  by_cases h1 : 48 ≤ c.toNat ∧ c.toNat ≤ 57
  · rw [if_pos h1]
    have a1 : (48 : Int) ≤ c.toNat := by omega
    have a2 : (c.toNat : Int) ≤ 57 := by omega
    dsimp only
    rw [show ((c.toNat - 48 : Nat) : Int) = (c.toNat : Int) - 48 by omega]
    clear h1
    go_enter Tryd.func40, Tryd.ntmps40
    go_wp2
    go_ret
    exact ⟨rfl, rfl⟩
  rw [if_neg h1]
  by_cases h2 : 97 ≤ c.toNat ∧ c.toNat ≤ 102
  · rw [if_pos h2]
    have a0 : (48 : Int) ≤ c.toNat := by omega
    have a1 : ¬ (c.toNat : Int) ≤ 57 := by omega
    have a2 : (97 : Int) ≤ c.toNat := by omega
    have a3 : (c.toNat : Int) ≤ 102 := by omega
    dsimp only
    rw [show ((c.toNat - 87 : Nat) : Int) = (c.toNat : Int) - 97 + 10 by omega]
    clear h1 h2
    go_enter Tryd.func40, Tryd.ntmps40
    go_wp2
    go_ret
    exact ⟨rfl, rfl⟩
  rw [if_neg h2]
  by_cases h3 : 65 ≤ c.toNat ∧ c.toNat ≤ 70
  · rw [if_pos h3]
    have a0 : (48 : Int) ≤ c.toNat := by omega
    have a1 : ¬ (c.toNat : Int) ≤ 57 := by omega
    have a2 : ¬ (97 : Int) ≤ c.toNat := by omega
    have a3 : (65 : Int) ≤ c.toNat := by omega
    have a4 : (c.toNat : Int) ≤ 70 := by omega
    dsimp only
    rw [show ((c.toNat - 55 : Nat) : Int) = (c.toNat : Int) - 65 + 10 by omega]
    clear h1 h2 h3
    go_enter Tryd.func40, Tryd.ntmps40
    go_wp2
    go_ret
    exact ⟨rfl, rfl⟩
  rw [if_neg h3]
  dsimp only
  by_cases b1 : 48 ≤ c.toNat
  · have a0 : (48 : Int) ≤ c.toNat := by omega
    have a1 : ¬ (c.toNat : Int) ≤ 57 := by omega
    by_cases b2 : 97 ≤ c.toNat
    · have a2 : (97 : Int) ≤ c.toNat := by omega
      have a3 : ¬ (c.toNat : Int) ≤ 102 := by omega
      have a4 : (65 : Int) ≤ c.toNat := by omega
      have a5 : ¬ (c.toNat : Int) ≤ 70 := by omega
      clear h1 h2 h3 b1 b2
      go_enter Tryd.func40, Tryd.ntmps40
      go_wp2
      go_ret
      exact ⟨rfl, rfl⟩
    · have a2 : ¬ (97 : Int) ≤ c.toNat := by omega
      by_cases b3 : 65 ≤ c.toNat
      · have a4 : (65 : Int) ≤ c.toNat := by omega
        have a5 : ¬ (c.toNat : Int) ≤ 70 := by omega
        clear h1 h2 h3 b1 b2 b3
        go_enter Tryd.func40, Tryd.ntmps40
        go_wp2
        go_ret
        exact ⟨rfl, rfl⟩
      · have a4 : ¬ (65 : Int) ≤ c.toNat := by omega
        clear h1 h2 h3 b1 b2 b3
        go_enter Tryd.func40, Tryd.ntmps40
        go_wp2
        go_ret
        exact ⟨rfl, rfl⟩
  · have a0 : ¬ (48 : Int) ≤ c.toNat := by omega
    have a2 : ¬ (97 : Int) ≤ c.toNat := by omega
    have a4 : ¬ (65 : Int) ≤ c.toNat := by omega
    clear h1 h2 h3 b1
    go_enter Tryd.func40, Tryd.ntmps40
    go_wp2
    go_ret
    exact ⟨rfl, rfl⟩

end Go.Proofs.YtgapoofalnakmaaDoor.C
