/-
  What prim.number.bytes answers: the last bytes of a number. Conditions: none.
-/
import Derived.Test.YtjgphpjbcabdeaaDoorPNum
import Derived.Deep.RegionWith
import Derived.Deep.QuietTactic
namespace Go.Proofs.YtjgphpjbcabdeaaDoor.P
open Go.RowKit

set_option maxRecDepth 100000 in
theorem last_any (k : Int) (hk : 1 ≤ k ∧ k ≤ 4) (b : Nat) (w : World) :
    Calls Tryd.prog 27 #[.agg #[.int .i64 k], .slice (some ⟨b, 0, none⟩) 4 4] w fun e w' => e = .returned (.slice (some ⟨b, (4 - k).toNat, none⟩) k.toNat k.toNat) ∧ w' = w.alloc (.cells #[.int .i64 k] 37) := by
  obtain ⟨h1, h4⟩ := hk
  have e : k.toNat = 4 - (4 - k).toNat := by omega
  rw [e]
  go_enter Tryd.func27, Tryd.ntmps27
  go_wp2
  go_ret
  exact ⟨rfl, rfl⟩

abbrev Wb (w : World) (k n : Int) : World := (w.alloc (.cells #[.int .i64 k, .int .i64 n] 39)).alloc (.cells #[.int .u8 (n / 16777216 % 256), .int .u8 (n / 65536 % 256), .int .u8 (n / 256 % 256), .int .u8 (n % 256)] 54)
abbrev Wc (w : World) (k n : Int) : World := ((Wb w k n).alloc (.cells #[.int .i64 k] 37)).drew
theorem Wc_cell (w : World) (k n : Int) (i : Nat) : (Wc w k n).cell? ⟨w.heap.size + 1, i, none⟩ = (#[.int .u8 (n / 16777216 % 256), .int .u8 (n / 65536 % 256), .int .u8 (n / 256 % 256), .int .u8 (n % 256)] : Array Value)[i]? := by
  show ((Wb w k n).alloc _).cell? _ = _
  rw [World.cell?_alloc_lt _ _ _ (by simp), World.cell?_alloc_at _ _ _ _ (by simp)]

theorem bt_ofInt (n : Int) (i : Nat) : UInt8.ofNat (n / 256 ^ i % 256).toNat = Pr.bt n i := rfl
theorem b0 (n : Int) : UInt8.ofNat (n % 256).toNat = Pr.bt n 0 := by rw [← bt_ofInt]; simp
theorem b1 (n : Int) : Pr.bt (n / 256) 0 = Pr.bt n 1 := by rw [← b0]; rfl
theorem b2 (n : Int) : Pr.bt (n / 65536) 0 = Pr.bt n 2 := by rw [← b0]; rfl
theorem b3 (n : Int) : Pr.bt (n / 16777216) 0 = Pr.bt n 3 := by rw [← b0]; rfl

theorem conv (w : World) (k n : Int) (j : Nat) (xs : List Int) (o : Nat) (hk : xs.length = j)
    (hA : ∀ i, i < xs.length → (#[.int .u8 (n / 16777216 % 256), .int .u8 (n / 65536 % 256), .int .u8 (n / 256 % 256), .int .u8 (n % 256)] : Array Value)[o + i]? = some (.int .u8 (xs.getD i 0))) :
    (convert 46 9 (.slice (some ⟨w.heap.size + 1, o, none⟩) j j)).run Tryd.prog (Wc w k n) = .ok (.string (strOfNums xs)) (Wc w k n) :=
  run_convert_bytes_arg (Wc w k n) _ _ Tryd.underlying46 Tryd.underlying5 _ o _ _ xs hk (fun i hi => by rw [Wc_cell]; exact hA i (by omega)) _ Tryd.underlying9

set_option maxRecDepth 100000 in
theorem bytes_with (k n : Int) (hk : 1 ≤ k ∧ k ≤ 4) (s : ByteArray) (w : World)
    (hcv : (convert 46 9 (.slice (some ⟨w.heap.size + 1, (4 - k).toNat, none⟩) k.toNat k.toNat)).run Tryd.prog (Wc w k n) = .ok (.string s) (Wc w k n)) :
    Calls Tryd.prog 21 #[.agg #[.int .i64 k, .int .i64 n]] w fun e w' => e = .returned (.string s) ∧ Below w.heap.size w w' := by
  have HK : Hid (1 ≤ k ∧ k ≤ 4) := hk
  clear hk
  go_enter Tryd.func21, Tryd.ntmps21
  go_wp2
  refine wp_loop_rounds 5 ?_
  rw [rounds_succ]
  go_wp2
  rw [rounds_succ]
  go_wp2
  rw [rounds_succ]
  go_wp2
  rw [rounds_succ]
  go_wp2
  rw [rounds_succ]
  go_wp2
  go_region_with (go_at_call 27; refine (last_any k HK.out _ _).mono ?_; rintro e w' ⟨rfl, rfl⟩)
  all_goals
    go_wp2
    go_ret
    refine ⟨by simp [Act.put], ?_⟩
    refine Below.drew ?_
    repeat (refine Below.alloc ?_ (by simp <;> omega) _)
    exact Below.refl _ _

theorem bytes_any (k n : Int) (hk : 1 ≤ k ∧ k ≤ 4) (w : World) :
    Calls Tryd.prog 21 #[.agg #[.int .i64 k, .int .i64 n]] w fun e w' => e = .returned (.string ⟨(Pr.bts n k.toNat).toArray⟩) ∧ Below w.heap.size w w' := by
  obtain rfl | rfl | rfl | rfl : k = 1 ∨ k = 2 ∨ k = 3 ∨ k = 4 := by omega
  · refine bytes_with 1 n hk _ w ?_
    have := conv w 1 n 1 [n % 256] 3 rfl (fun i hi => by rcases i with _ | i; rfl; simp at hi)
    rw [show strOfNums [n % 256] = ⟨(Pr.bts n (1 : Int).toNat).toArray⟩ by simp [Pr.bts, strOfNums, b0]] at this
    exact this
  · refine bytes_with 2 n hk _ w ?_
    have := conv w 2 n 2 [n / 256 % 256, n % 256] 2 rfl (fun i hi => by rcases i with _ | _ | i; rfl; rfl; simp at hi; omega)
    rw [show strOfNums [n / 256 % 256, n % 256] = ⟨(Pr.bts n (2 : Int).toNat).toArray⟩ by simp [Pr.bts, strOfNums, b0, b1]] at this
    exact this
  · refine bytes_with 3 n hk _ w ?_
    have := conv w 3 n 3 [n / 65536 % 256, n / 256 % 256, n % 256] 1 rfl (fun i hi => by rcases i with _ | _ | _ | i; rfl; rfl; rfl; simp at hi; omega)
    rw [show strOfNums [n / 65536 % 256, n / 256 % 256, n % 256] = ⟨(Pr.bts n (3 : Int).toNat).toArray⟩ by simp [Pr.bts, strOfNums, b0, b1, b2]] at this
    exact this
  · refine bytes_with 4 n hk _ w ?_
    have := conv w 4 n 4 [n / 16777216 % 256, n / 65536 % 256, n / 256 % 256, n % 256] 0 rfl (fun i hi => by rcases i with _ | _ | _ | _ | i; rfl; rfl; rfl; rfl; simp at hi; omega)
    rw [show strOfNums [n / 16777216 % 256, n / 65536 % 256, n / 256 % 256, n % 256] = ⟨(Pr.bts n (4 : Int).toNat).toArray⟩ by simp [Pr.bts, strOfNums, b0, b1, b2, b3]] at this
    exact this
end Go.Proofs.YtjgphpjbcabdeaaDoor.P
