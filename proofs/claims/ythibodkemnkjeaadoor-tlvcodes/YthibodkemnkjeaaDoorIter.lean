/-
  The iterator of package size's text: 'from' hands over the bytes from a place on, one by one. Conditions: none.
-/
import Derived.RangeFuncNested
import Derived.RangeFuncBound
import Derived.RangeFuncCalls
import Derived.RangeFuncLeaves
import Derived.Shelf.Abstract
import Derived.Shelf.RegionOpen
import Derived.WalkKit
import Derived.OwnWalkIn
import Derived.TacticsInMore
import Derived.LoopNIn
import Derived.LoopIn
import Derived.Test.YthibodkemnkjeaaDoorWalk2
namespace Go.Proofs.YthibodkemnkjeaaDoor
open Go.RowKit Go.Shelf
attribute [local go_sem] Oper.semAt_some

/-- what a round must keep for the iterator: its own two boxes. -/
def Two (p q : Nat) (W W' : World) : Prop := W'.heap[p]? = W.heap[p]? ∧ W'.heap[q]? = W.heap[q]?
theorem Two.trans {p q : Nat} {A B C : World} (h : Two p q A B) (k : Two p q B C) : Two p q A C := ⟨k.1.trans h.1, k.2.trans h.2⟩
theorem Two.book {p q : Nat} {w : World} (hp : p < w.heap.size) (hq : q < w.heap.size) (W : World) (l : Nat) (o o' : Obj) (hl : w.heap.size ≤ l) (_ : W.heap[l]? = some o) (_ : o.isCells = false) (_ : o.isWalk = false) : Two p q W (W.putObj l o') :=
  ⟨World.putObj_heap_other (by omega), World.putObj_heap_other (by omega)⟩

theorem getElem_drop (s : ByteArray) (k j : Nat) (h : k + j < s.size) : (s.data.toList.drop k).take (j + 1) = (s.data.toList.drop k).take j ++ [s[k + j]] := by
  have h' : j < (s.data.toList.drop k).length := by simp; have : s.size = s.data.size := rfl; omega
  rw [List.take_succ_eq_append_getElem h']
  simp
  rfl

set_option maxRecDepth 100000 in
set_option maxHeartbeats 2000000 in
theorem from1_stops (n : Nat) (hn : 1 ≤ n) (Ba Bt k : Nat) (s : ByteArray) (w : World) (hs : s.size ≤ maxLen) (hk : k ≤ s.size)
    (hBa : w.cell? ⟨Ba, 0, none⟩ = some (.int .i64 k)) (hBt : w.cell? ⟨Bt, 0, none⟩ = some (.string s)) :
    SeqStopsK Fence.wide n Tryd.prog 87 #[.pointer (some ⟨Ba, 0, none⟩), .pointer (some ⟨Bt, 0, none⟩)] (fun x : UInt8 => #[.int .u8 x.toNat]) (Two Ba Bt)
      (fun xs => xs = s.data.toList.drop k) (fun pre => pre <+: s.data.toList.drop k) (s.size - k) w := fun l J Jx W hW hJ hJx hY h0 => by
  unfold maxLen at hs
  have hba := (hW.cell (p := ⟨Ba, 0, none⟩) (lt_of_cell hBa)).trans hBa
  have hbt := (hW.cell (p := ⟨Bt, 0, none⟩) (lt_of_cell hBt)).trans hBt
  clear hBa hBt hW
  refine callsIn_of_wp Tryd.func87 rfl trivial ?_ rfl
  simp only [Tryd.ntmps87, List.size_toArray, List.length_cons, List.length_nil, Nat.reduceAdd, Nat.reduceSub, Array.replicate_succ, Array.replicate_zero, List.push_toArray, List.append_toArray, List.nil_append, List.cons_append]
  gi_wp2
  gi_loopw [4] (fun i wr => ∃ j : Nat, k + j ≤ s.size ∧ i = .int .i64 ((k + j : Nat) : Int) ∧ J ((s.data.toList.drop k).take j) wr ∧ wr.cell? ⟨Ba, 0, none⟩ = some (.int .i64 k) ∧ wr.cell? ⟨Bt, 0, none⟩ = some (.string s))
    (fun i _ => s.size - (intOf i).toNat)
  case atStart => exact ⟨0, hk, rfl, h0, hba, hbt⟩
  case round =>
    obtain ⟨j, hj, rfl, hJs, ha, ht⟩ := hrel
    obtain ⟨i, hi⟩ : ∃ i, i = k + j := ⟨_, rfl⟩
    have Hi : Hid (i = k + j) := hi
    rw [← hi] at hj ⊢
    clear hi
    have hal := lt_of_cell ha
    have htl := lt_of_cell ht
    have ha1 : (wr.alloc (.cells #[.string s] 143)).cell? ⟨Ba, 0, none⟩ = some (.int .i64 k) := by rw [World.cell?_alloc_lt _ _ _ hal]; exact ha
    have ht1 : (wr.alloc (.cells #[.string s] 143)).cell? ⟨Bt, 0, none⟩ = some (.string s) := by rw [World.cell?_alloc_lt _ _ _ htl]; exact ht
    by_cases hlt : i < s.size
    · have hJ1 : J ((s.data.toList.drop k).take j) (wr.alloc (.cells #[.string s] 143)) := hJ _ _ _ none hJs (World.grownBy_alloc _ _ none) (by intro r e; cases e)
      obtain ⟨fn, tmps, assign, body, hy, hR⟩ := hY _ s[i] _ hJ1 (by simp; have := Hi.out; omega)
      have hlt' : (i : Int) < s.size := by omega
      gi_wp2_with (refine ⟨trivial, ?_⟩; gi_at_call 85; refine (callsIn_wide.2 (has_yes s i _ (by omega) hlt')).mono ?_; rintro e w' ⟨rfl, rfl⟩)
      refine hR.mono ?_
      rintro e W3 (⟨rfl, hJ3, hk3⟩ | ⟨rfl, hJx3⟩)
      · gi_wp2
        go_roundw
        case rel =>
          have e := Hi.out
          subst e
          rw [← getElem_drop s k j hlt] at hJ3
          exact ⟨j + 1, by omega, by simp; omega, hJ3, (World.cell?_of_block (w := wr.alloc (.cells #[.string s] 143)) (a := ⟨Ba, 0, none⟩) hk3.1).trans ha1, (World.cell?_of_block (w := wr.alloc (.cells #[.string s] 143)) (a := ⟨Bt, 0, none⟩) hk3.2).trans ht1⟩
        case measure => simp [intOf]; omega
      · gi_wp2
        refine bodyPost_ret (results_none rfl _ _ _) rfl ?_
        have e := Hi.out
        subst e
        rw [← getElem_drop s k j hlt] at hJx3
        exact ⟨⟨_, rfl⟩, .inr ⟨_, List.take_prefix _ _, hJx3⟩⟩
    · have hge : ¬ (0 ≤ (i : Int) ∧ (i : Int) < s.size) := by omega
      have Hge : Hid (¬ (0 ≤ (i : Int) ∧ (i : Int) < s.size)) := hge
      clear hge
      gi_wp2_with (refine ⟨trivial, ?_⟩; gi_at_call 85; refine (callsIn_wide.2 (has_no s i _ Hge.out)).mono ?_; rintro e w' ⟨rfl, rfl⟩)
      go_end0
      have e : (s.data.toList.drop k).take j = s.data.toList.drop k := List.take_of_length_le (by simp; have := Hi.out; have : s.size = s.data.size := rfl; omega)
      rw [e] at hJs
      exact ⟨⟨_, rfl⟩, .inl ⟨_, rfl, hJ _ _ _ none hJs (World.grownBy_alloc _ _ none) (by intro r e; cases e)⟩⟩
end Go.Proofs.YthibodkemnkjeaaDoor
