/-
  The iterator of package utf: 'text.signs' hands over what a range over the text gives, each with its place. Conditions: none.
-/
import Derived.RangeFuncNested
import Derived.RangeFuncBound
import Derived.RangeFuncCalls
import Derived.RangeFuncLeaves
import Derived.Shelf.Abstract
import Derived.Shelf.RegionOpen
import Derived.WalkKit
import Derived.OwnWalkIn
import Derived.TacticsInMore
import Derived.LoopNIn
import Derived.LoopIn
import Derived.Laws.RangeAny
import Derived.Test.YtgapoofalnakmaaDoorURules
namespace Go.Proofs.YtgapoofalnakmaaDoor.U
open Go Go.RowKit Go.Shelf
attribute [local go_sem] Oper.semAt_some

theorem dec_pos (s : ByteArray) (p : Nat) (h : p < s.size) : 1 ≤ (Utf8.decode s p).2 := by
  rw [Ut.decode_eq s p h]
  cases Ut.dc (s.data.toList.drop p) with
  | none => exact Nat.le_refl _
  | some c => exact Ut.enc_pos c
theorem dec_le (s : ByteArray) (p : Nat) (h : p < s.size) : (Utf8.decode s p).1 ≤ 1114111 := by
  rw [Ut.decode_eq s p h]
  cases hd : Ut.dc (s.data.toList.drop p) with
  | none => show 65533 ≤ 1114111; omega
  | some c => exact (Ut.dc_some hd).1.1
/-- a place of a text, and what is read there. -/
structure Sg (s : ByteArray) where
  p : Nat
  n : Nat
  hp : p < s.size
  hn : n ≤ 1114111
/-- what a range over a text gives from a place on. -/
def al (s : ByteArray) : Nat → Nat → List (Sg s)
  | 0, _ => []
  | f + 1, p => if h : p < s.size then ⟨p, (Utf8.decode s p).1, h, dec_le s p h⟩ :: al s f (p + (Utf8.decode s p).2) else []
def all (s : ByteArray) : List (Sg s) := al s s.size 0
theorem al_cons (s : ByteArray) (f p : Nat) (h : p < s.size) (hf : s.size ≤ p + f) : ∃ f', f = f' + 1 ∧ al s f p = ⟨p, (Utf8.decode s p).1, h, dec_le s p h⟩ :: al s f' (p + (Utf8.decode s p).2) ∧ s.size ≤ p + (Utf8.decode s p).2 + f' := by
  cases f with
  | zero => omega
  | succ f => exact ⟨f, rfl, by rw [al, dif_pos h], by have := dec_pos s p h; omega⟩
theorem al_end (s : ByteArray) (f p : Nat) (h : ¬ p < s.size) : al s f p = [] := by
  cases f with
  | zero => rfl
  | succ f => rw [al, dif_neg h]

theorem run_next_at (w : World) (B : Nat) (s : ByteArray) (p : Nat) (ty : TypeId) (hB : w.heap[B]? = some (.stringIter s p)) (h : p < s.size) :
    (Instr.next (.pointer (some ⟨B, 0, none⟩)) true ty).run Tryd.prog w = .ok (.tuple #[.bool true, .int .i64 p, .int .i32 (Utf8.decode s p).1]) (w.putObj B (.stringIter s (p + (Utf8.decode s p).2))) := by
  simp only [Instr.next, getObj, setObj, Sem.run_bind, Sem.run, hB, Result.andThen, h, if_true]
  simp [goInt, World.putObj]
theorem run_next_over (w : World) (B : Nat) (s : ByteArray) (p : Nat) (ty : TypeId) (hB : w.heap[B]? = some (.stringIter s p)) (h : ¬ p < s.size) :
    (Instr.next (.pointer (some ⟨B, 0, none⟩)) true ty).run Tryd.prog w = .ok (.tuple #[.bool false]) w := by
  simp only [Instr.next, getObj, Sem.run_bind, Sem.run, hB, Result.andThen, h, if_false]
  simp

theorem signs_any (s : ByteArray) (w : World) :
    Calls Tryd.prog 73 #[.agg #[.string s]] w fun e w' => e = .returned (.func (.func 78) #[] #[.pointer (some ⟨w.heap.size, 0, none⟩)]) ∧ w' = w.alloc (.cells #[.string s] 125) := by
  go_enter Tryd.func73, Tryd.ntmps73
  go_wp2
  go_ret
  exact ⟨rfl, rfl⟩

set_option maxRecDepth 100000 in
set_option maxHeartbeats 2000000 in
theorem signs1_stops (n : Nat) (hn : 1 ≤ n) (Bs : Nat) (s : ByteArray) (w : World)
    (hBs : w.cell? ⟨Bs, 0, none⟩ = some (.string s)) :
    SeqStopsK Fence.wide n Tryd.prog 78 #[.pointer (some ⟨Bs, 0, none⟩)] (fun x : Sg s => #[.int .i64 x.p, .int .i32 x.n]) KeepsWalks
      (fun xs => xs = all s) (fun pre => pre <+: all s) s.size w := fun l J Jx W hW hJ hJx hY h0 => by
  have hbs := (hW.cell (p := ⟨Bs, 0, none⟩) (lt_of_cell hBs)).trans hBs
  clear hBs hW
  refine callsIn_of_wp Tryd.func78 rfl trivial ?_ rfl
  simp only [Tryd.ntmps78, List.size_toArray, List.length_cons, List.length_nil, Nat.reduceAdd, Nat.reduceSub, Array.replicate_succ, Array.replicate_zero, List.push_toArray, List.append_toArray, List.nil_append, List.cons_append]
  gi_wp2
  gi_loopw [3] (fun _ wr => ∃ (pre : List (Sg s)) (f p : Nat), pre ++ al s f p = all s ∧ s.size ≤ p + f ∧ pre.length ≤ p ∧ wr.heap[W.heap.size]? = some (.stringIter s p) ∧ J pre wr)
    (fun _ wr => s.size - wr.iterPos W.heap.size)
  case atStart =>
    exact ⟨[], s.size, 0, rfl, by omega, Nat.le_refl _, World.iter_heap W s 0, hJ [] W _ none h0 (World.grownBy_alloc _ _ _) (fun r e => by cases e)⟩
  case round =>
    obtain ⟨pre, f, p, hl, hf, hp, hit, hJs⟩ := hrel
    have hBlt : W.heap.size < wr.heap.size := (Array.getElem?_eq_some_iff.1 hit).1
    by_cases hlt : p < s.size
    · obtain ⟨f', rfl, ha, hf'⟩ := al_cons s f p hlt hf
      rw [ha] at hl
      have hpos := dec_pos s p hlt
      have hnx := fun ty => run_next_at wr W.heap.size s p ty hit hlt
      have hJ2 : J pre (wr.putObj W.heap.size (.stringIter s (p + (Utf8.decode s p).2))) :=
        hJ pre wr _ (some W.heap.size) hJs (grownBy_putObj' _ _ _) (fun r e => by cases e; exact ⟨Nat.le_refl _, _, hit, rfl⟩)
      obtain ⟨fn, tmps, assign, body, hy, hR⟩ := hY _ ⟨p, (Utf8.decode s p).1, hlt, dec_le s p hlt⟩ _ hJ2 (by omega)
      have Hl := hide hl
      have Hf := hide hf'
      have Hp := hide hp
      have Hlt := hide hlt
      have Hpos := hide hpos
      have hit2 : (wr.putObj W.heap.size (.stringIter s (p + (Utf8.decode s p).2))).heap[W.heap.size]? = some (.stringIter s (p + (Utf8.decode s p).2)) := World.putObj_heap_same hBlt
      have Hit2 := hide hit2
      have Hit := hide hit
      clear hl ha hf hf' hp hpos hit2 hit
      gi_wp2
      refine hR.mono ?_
      rintro e W3 (⟨rfl, hJ3, hk3⟩ | ⟨rfl, hJx3⟩)
      · gi_wp2
        go_roundw
        case rel =>
          refine ⟨_, f', p + (Utf8.decode s p).2, ?_, unhide Hf, ?_, hk3.same _ _ (unhide Hit2) rfl, hJ3⟩
          · rw [List.append_assoc]
            exact unhide Hl
          · have := unhide Hp
            have := unhide Hpos
            simp
            omega
        case measure =>
          have e1 : W3.iterPos W.heap.size = p + (Utf8.decode s p).2 := by simp [World.iterPos, hk3.same _ _ (unhide Hit2) rfl]
          have e2 : wr.iterPos W.heap.size = p := by simp [World.iterPos, unhide Hit]
          have := unhide Hpos
          have := unhide Hlt
          omega
      · gi_wp2
        refine bodyPost_ret (results_none rfl _ _ _) rfl ?_
        exact ⟨⟨_, rfl⟩, .inr ⟨_, ⟨al s f' (p + (Utf8.decode s p).2), by rw [List.append_assoc]; exact unhide Hl⟩, hJx3⟩⟩
    · have hnx := fun ty => run_next_over wr W.heap.size s p ty hit hlt
      rw [al_end s f p hlt, List.append_nil] at hl
      subst hl
      clear hit hf hp hlt
      gi_wp2
      go_end0
      exact ⟨⟨_, rfl⟩, .inl ⟨_, rfl, hJs⟩⟩
end Go.Proofs.YtgapoofalnakmaaDoor.U
