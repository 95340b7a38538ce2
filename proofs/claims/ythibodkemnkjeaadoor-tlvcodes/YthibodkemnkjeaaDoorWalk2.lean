/-
  Package size's reader, step by step: has, takeFirst, checkNumber, by their contracts. Conditions: the package-level variables hold what the program's text lays.
-/
import Derived.Test.YthibodkemnkjeaaDoorHelp
import Derived.Test.YthibodkemnkjeaaDoorPure
import Derived.Deep.RegionWith
import Derived.Deep.QuietTactic
namespace Go.Proofs.YthibodkemnkjeaaDoor
open Go.RowKit

theorem below_drewN {B : Nat} {u w : World} (h : Below B u w) (n : Nat) : Below B u (w.drewN n) := ⟨h.os, h.tape, h.output, h.size, h.block⟩
/-- a byte of a text. -/
theorem has_yes (s : ByteArray) (a : Int) (w : World) (h0 : 0 ≤ a) (h1 : a < s.size) :
    Calls Tryd.prog 85 #[.agg #[.string s], .int .i64 a] w fun e w' => e = .returned (.bool true) ∧ w' = w.alloc (.cells #[.string s] 143) := by
  go_enter Tryd.func85, Tryd.ntmps85
  go_wp2
  go_ret
  exact ⟨by simp, rfl⟩
theorem has_no (s : ByteArray) (a : Int) (w : World) (h : ¬ (0 ≤ a ∧ a < s.size)) :
    Calls Tryd.prog 85 #[.agg #[.string s], .int .i64 a] w fun e w' => e = .returned (.bool false) ∧ w' = w.alloc (.cells #[.string s] 143) := by
  by_cases h0 : 0 ≤ a
  · have h1 : ¬ a < s.size := fun h' => h ⟨h0, h'⟩
    clear h
    go_enter Tryd.func85, Tryd.ntmps85
    go_wp2
    go_ret
    exact ⟨by simp, rfl⟩
  · clear h
    go_enter Tryd.func85, Tryd.ntmps85
    go_wp2
    go_ret
    exact ⟨rfl, rfl⟩

theorem checkNumber_ok (b : Nat) (s : ByteArray) (a c n : Int) (w : World) (h : Rd b s a c n w) (hn : 0 ≤ n) (h' : n ≤ 16777215) :
    Calls Tryd.prog 84 #[.pointer (some ⟨b, 0, none⟩)] w fun e w' => e = .returned .nilIface ∧ w' = w := by
  obtain ⟨h0, h1, h2, h3, f2, f3⟩ := h
  go_enter Tryd.func84, Tryd.ntmps84
  go_wp2
  go_ret
  exact ⟨rfl, rfl⟩
theorem checkNumber_no (b : Nat) (s : ByteArray) (a c n : Int) (w : World) (h : Rd b s a c n w) (hn : 16777215 < n) (hn' : n < 4294967296) :
    Calls Tryd.prog 84 #[.pointer (some ⟨b, 0, none⟩)] w fun e w' => e = .returned (.iface 84 (.agg #[.int .i64 n])) ∧ w' = w := by
  obtain ⟨h0, h1, h2, h3, f2, f3⟩ := h
  go_enter Tryd.func84, Tryd.ntmps84
  go_wp2
  go_ret
  exact ⟨rfl, rfl⟩

theorem takeFirst_short (b : Nat) (s : ByteArray) (a c n : Int) (aS aF : Addr) (w : World) (h : Rd b s a c n w) (g : Glob aS aF w) (ha : ¬ (0 ≤ a ∧ a < s.size)) :
    Calls Tryd.prog 82 #[.pointer (some ⟨b, 0, none⟩)] w fun e w' => e = .returned (.iface 158 (.pointer (some aS))) ∧ Below w.heap.size w w' := by
  obtain ⟨h0, h1, h2, h3, f2, f3⟩ := h
  have hg := (g.alloc (.cells #[.string s] 143)).sh
  have Ha : Hid (¬ (0 ≤ a ∧ a < s.size)) := ha
  clear g ha
  go_enter Tryd.func82, Tryd.ntmps82
  go_wp2
  go_region_with (go_at_call 85; refine (has_no s a _ Ha.out).mono ?_; rintro e w' ⟨rfl, rfl⟩)
  all_goals
    go_wp2
    go_ret
    exact ⟨rfl, ((Below.refl _ _).alloc (Nat.le_refl _) _).drew⟩

set_option maxRecDepth 100000 in
theorem takeFirst_low (b : Nat) (s : ByteArray) (k : Nat) (c n : Int) (w : World) (h : Rd b s k c n w) (hk : k < s.size) (hl : s[k].toNat < 128) :
    Calls Tryd.prog 82 #[.pointer (some ⟨b, 0, none⟩)] w fun e w' => e = .returned .nilIface ∧ Rd b s k c s[k].toNat w' ∧ But b w w' := by
  have hR := h
  obtain ⟨h0, h1, h2, h3, f2, f3⟩ := h
  obtain ⟨q0, q1, q2, q3, e2, e3⟩ := hR.alloc (.cells #[.string s] 143)
  have hk' : (k : Int) < s.size := by omega
  go_enter Tryd.func82, Tryd.ntmps82
  go_wp2
  go_region_with (go_at_call 85; refine (has_yes s k _ (by omega) hk').mono ?_; rintro e w' ⟨rfl, rfl⟩)
  all_goals
    go_wp2
    go_quiet (fail)
    go_wp2
    go_ret
    exact ⟨rfl, ((hR.alloc _).drewN _).set3 _, (((But.refl _ _).alloc _).drewN _).setCell 3 _⟩

set_option maxHeartbeats 1000000 in
set_option maxRecDepth 100000 in
theorem takeFirst_form (b : Nat) (s : ByteArray) (k : Nat) (c n : Int) (aS aF : Addr) (w : World) (h : Rd b s k c n w) (g : Glob aS aF w) (hk : k < s.size) (hl : s[k].toNat = 128 ∨ 132 < s[k].toNat) :
    Calls Tryd.prog 82 #[.pointer (some ⟨b, 0, none⟩)] w fun e w' => e = .returned (.iface 158 (.pointer (some aF))) ∧ Below w.heap.size w w' := by
  have hR := h
  obtain ⟨h0, h1, h2, h3, f2, f3⟩ := h
  obtain ⟨q0, q1, q2, q3, e2, e3⟩ := hR.alloc (.cells #[.string s] 143)
  have hg := (g.alloc (.cells #[.string s] 143)).fo
  have hk' : (k : Int) < s.size := by omega
  have t0 : ¬ (s[k].toNat : Int) < 128 := by omega
  clear g
  rcases hl with hl | hl
  · have t1 : ((s[k].toNat : Int) == 128) = true := by rw [hl]; rfl
    clear hl
    go_enter Tryd.func82, Tryd.ntmps82
    go_wp2
    go_region_with (go_at_call 85; refine (has_yes s k _ (by omega) hk').mono ?_; rintro e w' ⟨rfl, rfl⟩)
    all_goals
      go_wp2
      go_quiet (fail)
      go_wp2
      go_ret
      exact ⟨rfl, below_drewN ((Below.refl _ _).alloc (Nat.le_refl _) _) _⟩
  · have t1 : ((s[k].toNat : Int) == 128) = false := beq_eq_false_iff_ne.2 (by omega)
    have t2 : 132 < (s[k].toNat : Int) := by omega
    clear hl
    go_enter Tryd.func82, Tryd.ntmps82
    go_wp2
    go_region_with (go_at_call 85; refine (has_yes s k _ (by omega) hk').mono ?_; rintro e w' ⟨rfl, rfl⟩)
    all_goals
      go_wp2
      go_quiet (fail)
      go_wp2
      go_ret
      exact ⟨rfl, below_drewN ((Below.refl _ _).alloc (Nat.le_refl _) _) _⟩

set_option maxRecDepth 100000 in
theorem takeFirst_long (b : Nat) (s : ByteArray) (k : Nat) (c n : Int) (w : World) (h : Rd b s k c n w) (hk : k < s.size) (hl : 128 < s[k].toNat) (hl' : s[k].toNat ≤ 132) :
    Calls Tryd.prog 82 #[.pointer (some ⟨b, 0, none⟩)] w fun e w' => e = .returned .nilIface ∧ Rd b s k (s[k].toNat - 128) n w' ∧ But b w w' := by
  have hR := h
  obtain ⟨h0, h1, h2, h3, f2, f3⟩ := h
  obtain ⟨q0, q1, q2, q3, e2, e3⟩ := hR.alloc (.cells #[.string s] 143)
  have hk' : (k : Int) < s.size := by omega
  have t0 : ¬ (s[k].toNat : Int) < 128 := by omega
  have t1 : ((s[k].toNat : Int) == 128) = false := beq_eq_false_iff_ne.2 (by omega)
  have t2 : ¬ 132 < (s[k].toNat : Int) := by omega
  have t3 : (s[k].toNat : Int) ≤ 132 := by omega
  clear hl hl'
  go_enter Tryd.func82, Tryd.ntmps82
  go_wp2
  go_region_with (go_at_call 85; refine (has_yes s k _ (by omega) hk').mono ?_; rintro e w' ⟨rfl, rfl⟩)
  all_goals
    go_wp2
    go_quiet (fail)
    go_wp2
    go_ret
    exact ⟨rfl, ((hR.alloc _).drewN _).set2 _, (((But.refl _ _).alloc _).drewN _).setCell 2 _⟩
end Go.Proofs.YthibodkemnkjeaaDoor
