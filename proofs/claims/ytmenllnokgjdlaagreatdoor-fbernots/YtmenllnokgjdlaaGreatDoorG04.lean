/- Several texts in one: CIter, EErrFacts. Each says what it proves, and its conditions. -/
import Derived.RangeFuncBound
import Derived.Shelf.RegionOpen
import Derived.OwnWalkIn
import Derived.LoopNIn
import Derived.LoopIn
import Derived.Test.YtmenllnokgjdlaaGreatDoorG03
set_option maxHeartbeats 2000000
set_option maxRecDepth 100000
/-
 The iterator of package code: 'groups' hands over a text's pieces of one length, each with its place. Conditions: none.
-/
namespace Go.Proofs.YtmenllnokgjdlaaGreatDoor.C
open Go Go.RowKit Go.Shelf Cd
attribute [local go_sem] Oper.semAt_some
structure Pc (s : ByteArray) where
 p : Nat
 hp : p < s.size
abbrev Pc.g {s : ByteArray} (n : Nat) (x : Pc s) : ByteArray := s.extract x.p (min (x.p + n) s.size)
def al (s : ByteArray) (n : Nat) : Nat -> Nat -> List (Pc s)
 | 0, _ => []
 | f + 1, p => if h : p < s.size then ⟨p, h⟩ :: al s n f (p + n) else []
def all (s : ByteArray) (n : Nat) : List (Pc s) := al s n s.size 0
theorem al_cons (s : ByteArray) (n f p : Nat) (hn : 1 <= n) (h : p < s.size) (hf : s.size <= p + f) : ∃ f', f = f' + 1 /\ al s n f p = ⟨p, h⟩ :: al s n f' (p + n) /\ s.size <= p + n + f' := by
 cases f with
 | zero => omega
 | succ f => exact ⟨f, rfl, by rw [al, dif_pos h], by omega⟩
theorem al_end (s : ByteArray) (n f p : Nat) (h : ¬ p < s.size) : al s n f p = [] := by
 cases f with
 | zero => rfl
 | succ f => rw [al, dif_neg h]
theorem groups_any (s : ByteArray) (n : Nat) (w : World) :
  Calls Tryz.prog 185 #[.string s, .int .i64 n] w fun e w' => e = .returned (.func (.func 202) #[] #[.pointer (some ⟨w.heap.size, 0, none⟩), .pointer (some ⟨w.heap.size + 1, 0, none⟩)]) /\ w' = (w.alloc (.cells #[.string s] 9)).alloc (.cells #[.int .i64 n] 3) := by
 go_enter Tryz.func185, Tryz.ntmps185
 go_wp2
 go_ret
 exact ⟨rfl, rfl⟩
def Two (p q : Nat) (W W' : World) : Prop := W'.heap[p]? = W.heap[p]? /\ W'.heap[q]? = W.heap[q]?
theorem Two.trans {p q : Nat} {A B C : World} (h : Two p q A B) (k : Two p q B C) : Two p q A C := ⟨k.1.trans h.1, k.2.trans h.2⟩
theorem Two.book {p q : Nat} {w : World} (hp : p < w.heap.size) (hq : q < w.heap.size) (W : World) (l : Nat) (o o' : Obj) (hl : w.heap.size <= l) (_ : W.heap[l]? = some o) (_ : o.isCells = false) (_ : o.isWalk = false) : Two p q W (W.putObj l o') :=
 ⟨World.putObj_heap_other (by omega), World.putObj_heap_other (by omega)⟩
theorem groups1_stops (m : Nat) (hm : 1 <= m) (Bs Bn n : Nat) (s : ByteArray) (w : World) (hn : 1 <= n) (hn4 : n <= 4) (hs : s.size <= 2000)
  (hBs : w.cell? ⟨Bs, 0, none⟩ = some (.string s)) (hBn : w.cell? ⟨Bn, 0, none⟩ = some (.int .i64 n)) :
  SeqStopsK Fence.wide m Tryz.prog 202 #[.pointer (some ⟨Bs, 0, none⟩), .pointer (some ⟨Bn, 0, none⟩)] (fun x : Pc s => #[.int .i64 x.p, .string (x.g n)]) (Two Bs Bn)
   (fun xs => xs = all s n) (fun pre => pre <+: all s n) s.size w := fun l J Jx W hW hJ hJx hY h0 => by
 have hbs := (hW.cell (p := ⟨Bs, 0, none⟩) (lt_of_cell hBs)).trans hBs
 have hbn := (hW.cell (p := ⟨Bn, 0, none⟩) (lt_of_cell hBn)).trans hBn
 clear hBs hBn hW
 refine callsIn_of_wp Tryz.func202 rfl trivial ?_ rfl
 simp only [Tryz.ntmps202, List.size_toArray, List.length_cons, List.length_nil, Nat.reduceAdd, Nat.reduceSub, Array.replicate_succ, Array.replicate_zero, List.push_toArray, List.append_toArray, List.nil_append, List.cons_append]
 gi_wp2
 gi_loopw [4] (fun i wr => ∃ (pre : List (Pc s)) (f p : Nat), pre ++ al s n f p = all s n /\ s.size <= p + f /\ pre.length <= p /\ p <= s.size + 4 /\ i = .int .i64 (p : Int) /\ J pre wr /\ wr.cell? ⟨Bs, 0, none⟩ = some (.string s) /\ wr.cell? ⟨Bn, 0, none⟩ = some (.int .i64 n))
  (fun i _ => s.size - (intOf i).toNat)
 case atStart => exact ⟨[], s.size, 0, rfl, by omega, Nat.le_refl _, by omega, rfl, h0, hbs, hbn⟩
 case round =>
  obtain ⟨pre, f, p, hl, hf, hpl, hp4, rfl, hJs, ha, ht⟩ := hrel
  by_cases hlt : p < s.size
  ·obtain ⟨f', rfl, hal, hf'⟩ := al_cons s n f p hn hlt hf
   rw [hal] at hl
   obtain ⟨fn, tmps, assign, body, hy, hR⟩ := hY _ ⟨p, hlt⟩ _ hJs (by omega)
   have Hl := H_ hl
   have Hf := H_ hf'
   have Hpl := H_ hpl
   have Hlt := H_ hlt
   have hlt' : (p : Int) < s.size := by omega
   have hp' : (p : Int) <= 2000 := by omega
   have hn' : (n : Int) <= 4 := by omega
   have hs' : (s.size : Int) <= 2000 := by omega
   clear hl hal hf hf' hpl hbs hbn
   by_cases hq : p + n <= s.size
   ·have hsl := fun wx => run_slice_string (P := Tryz.prog) (w := wx) 9 s .i64 .i64 (p : Int) ((p : Int) + n) Tryz.underlying9 (by omega) (by omega) (by omega)
    rw [show ((p : Int)).toNat = p by omega, show ((p : Int) + n).toNat = p + n by omega] at hsl
    have hg : Pc.g n (⟨p, hlt⟩ : Pc s) = s.extract p (p + n) := by show s.extract p (min (p + n) s.size) = _; rw [Nat.min_eq_left hq]
    rw [hg] at hy
    have hq' : (p : Int) + n <= s.size := by omega
    clear hg
    gi_wp2
    refine hR.mono ?_
    rintro e W3 (⟨rfl, hJ3, hk3⟩ | ⟨rfl, hJx3⟩)
    ·have h3s := (World.cell?_of_block (a := ⟨Bs, 0, none⟩) hk3.1).trans ha
     have h3n := (World.cell?_of_block (a := ⟨Bn, 0, none⟩) hk3.2).trans ht
     clear hk3
     gi_wp2
     go_roundw
     case rel =>
      refine ⟨_, f', p + n, ?_, un Hf, ?_, by omega, by simp, hJ3, h3s, h3n⟩
      ·rw [List.append_assoc]
       exact un Hl
      ·have := un Hpl
       simp
       omega
     case measure => simp [intOf]; omega
    ·gi_wp2
     refine bodyPost_ret (results_none rfl _ _ _) rfl ?_
     exact ⟨⟨_, rfl⟩, .inr ⟨_, ⟨al s n f' (p + n), by rw [List.append_assoc]; exact un Hl⟩, hJx3⟩⟩
   ·have hsl := fun wx => run_slice_string (P := Tryz.prog) (w := wx) 9 s .i64 .i64 (p : Int) (s.size : Int) Tryz.underlying9 (by omega) (by omega) (by omega)
    rw [show ((p : Int)).toNat = p by omega, show ((s.size : Int)).toNat = s.size by omega] at hsl
    have hg : Pc.g n (⟨p, hlt⟩ : Pc s) = s.extract p s.size := by show s.extract p (min (p + n) s.size) = _; rw [Nat.min_eq_right (by omega)]
    rw [hg] at hy
    have hq' : ¬ (p : Int) + n <= s.size := by omega
    clear hg
    gi_wp2
    refine hR.mono ?_
    rintro e W3 (⟨rfl, hJ3, hk3⟩ | ⟨rfl, hJx3⟩)
    ·have h3s := (World.cell?_of_block (a := ⟨Bs, 0, none⟩) hk3.1).trans ha
     have h3n := (World.cell?_of_block (a := ⟨Bn, 0, none⟩) hk3.2).trans ht
     clear hk3
     gi_wp2
     go_roundw
     case rel =>
      refine ⟨_, f', p + n, ?_, un Hf, ?_, by omega, by simp, hJ3, h3s, h3n⟩
      ·rw [List.append_assoc]
       exact un Hl
      ·have := un Hpl
       simp
       omega
     case measure => simp [intOf]; omega
    ·gi_wp2
     refine bodyPost_ret (results_none rfl _ _ _) rfl ?_
     exact ⟨⟨_, rfl⟩, .inr ⟨_, ⟨al s n f' (p + n), by rw [List.append_assoc]; exact un Hl⟩, hJx3⟩⟩
  ·have hge : ¬ (p : Int) < s.size := by omega
   rw [al_end s n f p hlt, List.append_nil] at hl
   subst hl
   clear hbs hbn hf hpl
   gi_wp2
   go_end0
   first | exact ⟨⟨_, rfl⟩, .inl ⟨_, rfl, hJs⟩⟩ | exact ⟨⟨_, rfl⟩, .inl hJs⟩
end Go.Proofs.YtmenllnokgjdlaaGreatDoor.C
/-
 Closed facts on the model's entries for reflectlite at this program's types, and on the assertions that errors.As and errors.Is make there. Conditions: none.
-/
namespace Go.Proofs.YtmenllnokgjdlaaGreatDoor.E
open Go.RowKit Go.Extern.Stop Go.Stop Go.Extern
end Go.Proofs.YtmenllnokgjdlaaGreatDoor.E
