/-
  What size.Encode, size.Size and size.IsLeast answer. Conditions: the package-level variables hold what the program's text lays.
-/
import Derived.Test.YtahpaoajhmhgjaaDoorDecode
import Derived.Test.YtahpaoajhmhgjaaDoorWalk1
namespace Go.Proofs.YtahpaoajhmhgjaaDoor
open Go.RowKit

theorem below_drew {B : Nat} {u w : World} (h : Below B u w) : Below B u w.drew := ⟨h.os, h.tape, h.output, h.size, h.block⟩
theorem checkLength_ok (n : Int) (w : World) (h0 : 0 ≤ n) (h1 : n ≤ 16777215) :
    Calls Tryd.prog 19 #[.int .i64 n] w fun e w' => e = .returned .nilIface ∧ w' = w := by
  go_enter Tryd.func19, Tryd.ntmps19
  go_wp2
  go_ret
  exact ⟨rfl, rfl⟩
theorem checkLength_no (n : Int) (w : World) (h : ¬ (0 ≤ n ∧ n ≤ 16777215)) :
    Calls Tryd.prog 19 #[.int .i64 n] w fun e w' => e = .returned (.iface 51 (.agg #[.int .i64 n])) ∧ w' = w := by
  by_cases h0 : n < 0
  · clear h
    go_enter Tryd.func19, Tryd.ntmps19
    go_wp2
    go_ret
    exact ⟨rfl, rfl⟩
  · have h1 : 16777215 < n := by omega
    clear h
    go_enter Tryd.func19, Tryd.ntmps19
    go_wp2
    go_ret
    exact ⟨rfl, rfl⟩

/-- a length's least bytes, as a text. -/
def lst (n : Nat) : ByteArray := ⟨(Sz.least n).toArray⟩

theorem encode_ok (n : Int) (w : World) (h0 : 0 ≤ n) (h1 : n ≤ 16777215) :
    Calls Tryd.prog 11 #[.int .i64 n] w fun e w' => e = .returned (.tuple #[.string (lst n.toNat), .int .i64 0]) ∧ Below w.heap.size w w' := by
  go_enter Tryd.func11, Tryd.ntmps11
  go_wp2_with (first | (go_at_call 19; refine (checkLength_ok n _ h0 h1).mono ?_; rintro e w' ⟨rfl, rfl⟩) | (go_at_call 21; refine (leastBytes_any n _ h0 h1).mono ?_; rintro e w' ⟨rfl, hb⟩))
  go_ret2
  exact ⟨rfl, hb⟩
theorem encode_no (n : Int) (aS aF : Addr) (w : World) (g : Glob aS aF w) (h : ¬ (0 ≤ n ∧ n ≤ 16777215)) :
    Calls Tryd.prog 11 #[.int .i64 n] w fun e w' => e = .returned (.tuple #[.string ⟨#[]⟩, .int .i64 12]) ∧ Below w.heap.size w w' := by
  have H := checkLength_no n w h
  have HE := errnoOf_size _ _ (as1 n) aS aF w g
  clear g h
  go_enter Tryd.func11, Tryd.ntmps11
  go_wp2_with (first | (go_at_call 19; refine H.mono ?_; rintro e w' ⟨rfl, rfl⟩) | (go_at_call 20; refine HE.mono ?_; rintro e w' ⟨rfl, hb⟩))
  go_ret2
  exact ⟨rfl, hb⟩

/-- how many bytes the least ones are. -/
def sz (n : Nat) : Int := if n < 128 then 1 else 1 + Sz.wd n
theorem size_ok (n : Int) (w : World) (h0 : 0 ≤ n) (h1 : n ≤ 16777215) :
    Calls Tryd.prog 15 #[.int .i64 n] w fun e w' => e = .returned (.tuple #[.int .i64 (sz n.toNat), .int .i64 0]) ∧ Below w.heap.size w w' := by
  by_cases h2 : n < 128
  · have e1 : sz n.toNat = 1 := by unfold sz; rw [if_pos (by omega)]
    rw [e1]
    go_enter Tryd.func15, Tryd.ntmps15
    go_wp2_with (go_at_call 19; refine (checkLength_ok n _ h0 h1).mono ?_; rintro e w' ⟨rfl, rfl⟩)
    go_ret2
    exact ⟨rfl, Below.refl _ _⟩
  · have e1 : sz n.toNat = 1 + Sz.wd n.toNat := by unfold sz; rw [if_neg (by omega)]
    have hw : ((Sz.wd n.toNat : Nat) : Int) ≤ 4 := by
      have : Sz.wd n.toNat ≤ 4 := by unfold Sz.wd; repeat (split <;> try omega)
      omega
    rw [e1]
    go_enter Tryd.func15, Tryd.ntmps15
    go_wp2_with (first | (go_at_call 19; refine (checkLength_ok n _ h0 h1).mono ?_; rintro e w' ⟨rfl, rfl⟩) | (go_at_call 26; refine (width_any n _ (by omega) h1).mono ?_; rintro e w' ⟨rfl, rfl⟩))
    go_ret2
    exact ⟨rfl, Below.refl _ _⟩
theorem size_no (n : Int) (aS aF : Addr) (w : World) (g : Glob aS aF w) (h : ¬ (0 ≤ n ∧ n ≤ 16777215)) :
    Calls Tryd.prog 15 #[.int .i64 n] w fun e w' => e = .returned (.tuple #[.int .i64 0, .int .i64 12]) ∧ Below w.heap.size w w' := by
  have H := checkLength_no n w h
  have HE := errnoOf_size _ _ (as1 n) aS aF w g
  clear g h
  go_enter Tryd.func15, Tryd.ntmps15
  go_wp2_with (first | (go_at_call 19; refine H.mono ?_; rintro e w' ⟨rfl, rfl⟩) | (go_at_call 20; refine HE.mono ?_; rintro e w' ⟨rfl, hb⟩))
  go_ret2
  exact ⟨rfl, hb⟩

set_option maxRecDepth 100000 in
theorem isLeast_no (s : ByteArray) (a : Int) (aS aF : Addr) (w : World) (g : Glob aS aF w) (hs : s.size ≤ maxLen) (n p E : Int) (hd : Sz.dec s.data.toList a = (n, p, E)) (hE : E ≠ 0) :
    Calls Tryd.prog 17 #[.string s, .int .i64 a] w fun e w' => e = .returned (.bool false) ∧ Below w.heap.size w w' := by
  have H := decode_any s a aS aF w g hs
  rw [hd] at H
  have t0 : (E == 0) = false := beq_eq_false_iff_ne.2 hE
  clear g hd
  go_enter Tryd.func17, Tryd.ntmps17
  go_wp2_with (go_at_call 13; refine H.mono ?_; rintro e w' ⟨rfl, hb⟩)
  go_quiet (fail)
  go_wp2
  go_ret
  exact ⟨rfl, below_drewN hb _⟩
set_option maxHeartbeats 2000000 in
set_option maxRecDepth 100000 in
theorem isLeast_yes (s : ByteArray) (k p n : Nat) (aS aF : Addr) (w : World) (g : Glob aS aF w) (hs : s.size ≤ maxLen) (hd : Sz.dec s.data.toList k = ((n : Int), (p : Int), 0)) (hn : n ≤ 16777215) (hkp : k ≤ p) (hp : p ≤ s.size) :
    Calls Tryd.prog 17 #[.string s, .int .i64 k] w fun e w' => e = .returned (.bool ((s.extract k p).toList == Sz.least n)) ∧ Below w.heap.size w w' := by
  have H := decode_any s k aS aF w g hs
  rw [hd] at H
  clear g hd
  unfold maxLen at hs
  have hk' : (k : Int) ≤ p := by omega
  have hp' : (p : Int) ≤ s.size := by omega
  have h0n : 0 ≤ (n : Int) := by omega
  have h1n : (n : Int) ≤ 16777215 := by omega
  go_enter Tryd.func17, Tryd.ntmps17
  go_wp2_with (go_at_call 13; refine H.mono ?_; rintro e w' ⟨rfl, hb⟩)
  go_wp2
  go_region_with (go_at_call 21; refine (leastBytes_any n _ h0n h1n).mono ?_; rintro e w2 ⟨rfl, hb2⟩)
  all_goals
    go_wp2
    go_ret
    refine ⟨?_, (below_drew hb).trans (hb2.mono hb.size)⟩
    simp [Act.put]
end Go.Proofs.YtahpaoajhmhgjaaDoor
