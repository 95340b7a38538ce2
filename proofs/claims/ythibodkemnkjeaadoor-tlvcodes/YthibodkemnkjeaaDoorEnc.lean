/-
  What size.Encode and size.Size answer. Conditions: the package-level variables hold what the program's text lays.
-/
import Derived.Test.YthibodkemnkjeaaDoorDecode
import Derived.Test.YthibodkemnkjeaaDoorWalk1
namespace Go.Proofs.YthibodkemnkjeaaDoor
open Go.RowKit

theorem below_drew {B : Nat} {u w : World} (h : Below B u w) : Below B u w.drew := ⟨h.os, h.tape, h.output, h.size, h.block⟩
theorem checkLength_ok (n : Int) (w : World) (h0 : 0 ≤ n) (h1 : n ≤ 16777215) :
    Calls Tryd.prog 38 #[.int .i64 n] w fun e w' => e = .returned .nilIface ∧ w' = w := by
  go_enter Tryd.func38, Tryd.ntmps38
  go_wp2
  go_ret
  exact ⟨rfl, rfl⟩
theorem checkLength_no (n : Int) (w : World) (h : ¬ (0 ≤ n ∧ n ≤ 16777215)) :
    Calls Tryd.prog 38 #[.int .i64 n] w fun e w' => e = .returned (.iface 84 (.agg #[.int .i64 n])) ∧ w' = w := by
  by_cases h0 : n < 0
  · clear h
    go_enter Tryd.func38, Tryd.ntmps38
    go_wp2
    go_ret
    exact ⟨rfl, rfl⟩
  · have h1 : 16777215 < n := by omega
    clear h
    go_enter Tryd.func38, Tryd.ntmps38
    go_wp2
    go_ret
    exact ⟨rfl, rfl⟩

/-- a length's least bytes, as a text. -/
def lst (n : Nat) : ByteArray := ⟨(Sz.least n).toArray⟩

theorem encode_ok (n : Int) (w : World) (h0 : 0 ≤ n) (h1 : n ≤ 16777215) :
    Calls Tryd.prog 25 #[.int .i64 n] w fun e w' => e = .returned (.tuple #[.string (lst n.toNat), .int .i64 0]) ∧ Below w.heap.size w w' := by
  go_enter Tryd.func25, Tryd.ntmps25
  go_wp2_with (first | (go_at_call 38; refine (checkLength_ok n _ h0 h1).mono ?_; rintro e w' ⟨rfl, rfl⟩) | (go_at_call 40; refine (leastBytes_any n _ h0 h1).mono ?_; rintro e w' ⟨rfl, hb⟩))
  go_ret2
  exact ⟨rfl, hb⟩
theorem encode_no (n : Int) (aS aF : Addr) (w : World) (g : Glob aS aF w) (h : ¬ (0 ≤ n ∧ n ≤ 16777215)) :
    Calls Tryd.prog 25 #[.int .i64 n] w fun e w' => e = .returned (.tuple #[.string ⟨#[]⟩, .int .i64 12]) ∧ Below w.heap.size w w' := by
  have H := checkLength_no n w h
  have HE := errnoOf_size _ _ (as1 n) aS aF w g
  clear g h
  go_enter Tryd.func25, Tryd.ntmps25
  go_wp2_with (first | (go_at_call 38; refine H.mono ?_; rintro e w' ⟨rfl, rfl⟩) | (go_at_call 39; refine HE.mono ?_; rintro e w' ⟨rfl, hb⟩))
  go_ret2
  exact ⟨rfl, hb⟩

/-- how many bytes the least ones are. -/
def sz (n : Nat) : Int := if n < 128 then 1 else 1 + Sz.wd n
theorem size_ok (n : Int) (w : World) (h0 : 0 ≤ n) (h1 : n ≤ 16777215) :
    Calls Tryd.prog 26 #[.int .i64 n] w fun e w' => e = .returned (.tuple #[.int .i64 (sz n.toNat), .int .i64 0]) ∧ Below w.heap.size w w' := by
  by_cases h2 : n < 128
  · have e1 : sz n.toNat = 1 := by unfold sz; rw [if_pos (by omega)]
    rw [e1]
    go_enter Tryd.func26, Tryd.ntmps26
    go_wp2_with (go_at_call 38; refine (checkLength_ok n _ h0 h1).mono ?_; rintro e w' ⟨rfl, rfl⟩)
    go_ret2
    exact ⟨rfl, Below.refl _ _⟩
  · have e1 : sz n.toNat = 1 + Sz.wd n.toNat := by unfold sz; rw [if_neg (by omega)]
    have hw : ((Sz.wd n.toNat : Nat) : Int) ≤ 4 := by
      have : Sz.wd n.toNat ≤ 4 := by unfold Sz.wd; repeat (split <;> try omega)
      omega
    rw [e1]
    go_enter Tryd.func26, Tryd.ntmps26
    go_wp2_with (first | (go_at_call 38; refine (checkLength_ok n _ h0 h1).mono ?_; rintro e w' ⟨rfl, rfl⟩) | (go_at_call 41; refine (width_any n _ (by omega) h1).mono ?_; rintro e w' ⟨rfl, rfl⟩))
    go_ret2
    exact ⟨rfl, Below.refl _ _⟩
theorem size_no (n : Int) (aS aF : Addr) (w : World) (g : Glob aS aF w) (h : ¬ (0 ≤ n ∧ n ≤ 16777215)) :
    Calls Tryd.prog 26 #[.int .i64 n] w fun e w' => e = .returned (.tuple #[.int .i64 0, .int .i64 12]) ∧ Below w.heap.size w w' := by
  have H := checkLength_no n w h
  have HE := errnoOf_size _ _ (as1 n) aS aF w g
  clear g h
  go_enter Tryd.func26, Tryd.ntmps26
  go_wp2_with (first | (go_at_call 38; refine H.mono ?_; rintro e w' ⟨rfl, rfl⟩) | (go_at_call 39; refine HE.mono ?_; rintro e w' ⟨rfl, hb⟩))
  go_ret2
  exact ⟨rfl, hb⟩

end Go.Proofs.YthibodkemnkjeaaDoor
