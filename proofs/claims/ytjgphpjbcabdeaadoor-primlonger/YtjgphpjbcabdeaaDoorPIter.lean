/-
  The iterator of package prim: 'bytesOf' hands over a text's bytes, each with its place. Conditions: none.
-/
import Derived.RangeFuncNested
import Derived.RangeFuncBound
import Derived.RangeFuncCalls
import Derived.RangeFuncLeaves
import Derived.Shelf.Abstract
import Derived.Shelf.RegionOpen
import Derived.WalkKit
import Derived.OwnWalkIn
import Derived.TacticsInMore
import Derived.LoopNIn
import Derived.LoopIn
import Derived.Test.YtjgphpjbcabdeaaDoorPErrno
namespace Go.Proofs.YtjgphpjbcabdeaaDoor.P
open Go.RowKit Go.Shelf
attribute [local go_sem] Oper.semAt_some

/-- what a round must keep for the iterator: its own box. -/
def One (p : Nat) (W W' : World) : Prop := W'.heap[p]? = W.heap[p]?
theorem One.trans {p : Nat} {A B C : World} (h : One p A B) (k : One p B C) : One p A C := Eq.trans k h
theorem One.book {p : Nat} {w : World} (hp : p < w.heap.size) (W : World) (l : Nat) (o o' : Obj) (hl : w.heap.size ≤ l) (_ : W.heap[l]? = some o) (_ : o.isCells = false) (_ : o.isWalk = false) : One p W (W.putObj l o') :=
  World.putObj_heap_other (by omega)

/-- a text's bytes, each with its place. -/
def all (s : ByteArray) : List (Nat × UInt8) := (List.range s.size).map fun i => (i, s.data.toList.getD i 0)
theorem all_length (s : ByteArray) : (all s).length = s.size := by simp [all]
theorem all_take (s : ByteArray) (j : Nat) (h : j < s.size) : (all s).take (j + 1) = (all s).take j ++ [(j, s[j])] := by
  have h' : j < (all s).length := by rw [all_length]; exact h
  rw [List.take_succ_eq_append_getElem h']
  congr 2
  simp [all]
  rw [Array.getElem?_eq_getElem (by exact h)]
  rfl
theorem all_snd (s : ByteArray) : (all s).map (·.2) = s.data.toList := by
  apply List.ext_getElem
  · simp [all]
  · intro i h1 h2
    simp [all]
    rw [Array.getElem?_eq_getElem (by simpa using h2)]
    rfl

set_option maxRecDepth 100000 in
set_option maxHeartbeats 2000000 in
theorem bytesOf1_stops (n : Nat) (hn : 1 ≤ n) (Bs : Nat) (s : ByteArray) (w : World) (hs : s.size ≤ maxLen)
    (hBs : w.cell? ⟨Bs, 0, none⟩ = some (.string s)) :
    SeqStopsK Fence.wide n Tryd.prog 37 #[.pointer (some ⟨Bs, 0, none⟩)] (fun x : Nat × UInt8 => #[.int .i64 x.1, .int .u8 x.2.toNat]) (One Bs)
      (fun xs => xs = all s) (fun pre => pre <+: all s) s.size w := fun l J Jx W hW hJ hJx hY h0 => by
  unfold maxLen at hs
  have hbs := (hW.cell (p := ⟨Bs, 0, none⟩) (lt_of_cell hBs)).trans hBs
  clear hBs hW
  refine callsIn_of_wp Tryd.func37 rfl trivial ?_ rfl
  simp only [Tryd.ntmps37, List.size_toArray, List.length_cons, List.length_nil, Nat.reduceAdd, Nat.reduceSub, Array.replicate_succ, Array.replicate_zero, List.push_toArray, List.append_toArray, List.nil_append, List.cons_append]
  gi_wp2
  gi_loopw [6] (fun i wr => ∃ j : Nat, j ≤ s.size ∧ i = .int .i64 (j : Int) ∧ J ((all s).take j) wr ∧ wr.cell? ⟨Bs, 0, none⟩ = some (.string s))
    (fun i _ => s.size - (intOf i).toNat)
  case atStart => exact ⟨0, Nat.zero_le _, rfl, h0, hbs⟩
  case round =>
    obtain ⟨j, hj, rfl, hJs, ht⟩ := hrel
    by_cases hlt : j < s.size
    · obtain ⟨fn, tmps, assign, body, hy, hR⟩ := hY _ (j, s[j]) _ hJs (by simp [all_length]; omega)
      have hlt' : (j : Int) < s.size := by omega
      gi_wp2
      refine hR.mono ?_
      rintro e W3 (⟨rfl, hJ3, hk3⟩ | ⟨rfl, hJx3⟩)
      · gi_wp2
        go_roundw
        case rel =>
          rw [← all_take s j hlt] at hJ3
          exact ⟨j + 1, by omega, by simp, hJ3, (World.cell?_of_block (w := wr) (a := ⟨Bs, 0, none⟩) hk3).trans ht⟩
        case measure => simp [intOf]; omega
      · gi_wp2
        refine bodyPost_ret (results_none rfl _ _ _) rfl ?_
        rw [← all_take s j hlt] at hJx3
        exact ⟨⟨_, rfl⟩, .inr ⟨_, List.take_prefix _ _, hJx3⟩⟩
    · have hge : ¬ (j : Int) < s.size := by omega
      gi_wp2
      go_end0
      have e : (all s).take j = all s := List.take_of_length_le (by rw [all_length]; omega)
      rw [e] at hJs
      exact ⟨⟨_, rfl⟩, .inl hJs⟩
end Go.Proofs.YtjgphpjbcabdeaaDoor.P
