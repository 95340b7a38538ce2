/- The iterator of package esc: 'text.bytes' hands over a text's bytes, each with its place. Conditions: none. -/
import Derived.Test.YtmenllnokgjdlaaGreatDoorG04
import Derived.Test.YtmenllnokgjdlaaGreatDoorG08
set_option maxHeartbeats 2000000
set_option maxRecDepth 100000
namespace Go.Proofs.YtmenllnokgjdlaaGreatDoor.E
open Go Go.RowKit Go.Shelf
attribute [local go_sem] Oper.semAt_some
abbrev Pc := C.Pc
abbrev all (s : ByteArray) : List (Pc s) := C.all s 1
theorem bytes_any (s : ByteArray) (w : World) :
  Calls Tryz.prog 142 #[.agg #[.string s]] w fun e w' => e = .returned (.func (.func 164) #[] #[.pointer (some ⟨w.heap.size, 0, none⟩)]) /\ w' = w.alloc (.cells #[.string s] 226) := by
 go_enter Tryz.func142, Tryz.ntmps142
 go_wp2
 go_ret
 exact ⟨rfl, rfl⟩
theorem bytes1_stops (m : Nat) (hm : 1 <= m) (Bs : Nat) (s : ByteArray) (w : World) (hs : s.size <= 1000)
  (hBs : w.cell? ⟨Bs, 0, none⟩ = some (.string s)) :
  SeqStopsK Fence.wide m Tryz.prog 164 #[.pointer (some ⟨Bs, 0, none⟩)] (fun x : Pc s => #[.int .i64 x.p, .int .u8 ((s[x.p]'x.hp).toNat : Int)]) (C.Two Bs Bs)
   (fun xs => xs = all s) (fun pre => pre <+: all s) s.size w := fun l J Jx W hW hJ hJx hY h0 => by
 have hbs := (hW.cell (p := ⟨Bs, 0, none⟩) (lt_of_cell hBs)).trans hBs
 clear hBs hW
 refine callsIn_of_wp Tryz.func164 rfl trivial ?_ rfl
 simp only [Tryz.ntmps164, List.size_toArray, List.length_cons, List.length_nil, Nat.reduceAdd, Nat.reduceSub, Array.replicate_succ, Array.replicate_zero, List.push_toArray, List.append_toArray, List.nil_append, List.cons_append]
 gi_wp2
 gi_loopw [7] (fun i wr => ∃ (pre : List (Pc s)) (f p : Nat), pre ++ C.al s 1 f p = all s /\ s.size <= p + f /\ pre.length <= p /\ p <= s.size /\ i = .int .i64 (p : Int) /\ J pre wr /\ wr.cell? ⟨Bs, 0, none⟩ = some (.string s))
  (fun i _ => s.size - (intOf i).toNat)
 case atStart => exact ⟨[], s.size, 0, rfl, by omega, Nat.le_refl _, by omega, rfl, h0, hbs⟩
 case round =>
  obtain ⟨pre, f, p, hl, hf, hpl, hp4, rfl, hJs, ha⟩ := hrel
  by_cases hlt : p < s.size
  ·obtain ⟨f', rfl, hal, hf'⟩ := C.al_cons s 1 f p (Nat.le_refl _) hlt hf
   rw [hal] at hl
   obtain ⟨fn, tmps, assign, body, hy, hR⟩ := hY _ ⟨p, hlt⟩ _ hJs (by omega)
   have Hl := H_ hl
   have Hf := H_ hf'
   have Hpl := H_ hpl
   have Hlt := H_ hlt
   have hlt' : (p : Int) < s.size := by omega
   have hp' : (p : Int) <= 1000 := by omega
   clear hl hal hf hf' hpl hbs
   gi_wp2
   refine hR.mono ?_
   rintro e W3 (⟨rfl, hJ3, hk3⟩ | ⟨rfl, hJx3⟩)
   ·have h3s := (World.cell?_of_block (a := ⟨Bs, 0, none⟩) hk3.1).trans ha
    clear hk3
    gi_wp2
    go_roundw
    case rel =>
     refine ⟨_, f', p + 1, ?_, un Hf, ?_, by omega, by simp, hJ3, h3s⟩
     ·rw [List.append_assoc]
      exact un Hl
     ·have := un Hpl
      simp
      omega
    case measure => simp [intOf]; omega
   ·gi_wp2
    refine bodyPost_ret (results_none rfl _ _ _) rfl ?_
    exact ⟨⟨_, rfl⟩, .inr ⟨_, ⟨C.al s 1 f' (p + 1), by rw [List.append_assoc]; exact un Hl⟩, hJx3⟩⟩
  ·have hge : ¬ (p : Int) < s.size := by omega
   rw [C.al_end s 1 f p hlt, List.append_nil] at hl
   subst hl
   clear hbs hf hpl
   gi_wp2
   go_end0
   first | exact ⟨⟨_, rfl⟩, .inl ⟨_, rfl, hJs⟩⟩ | exact ⟨⟨_, rfl⟩, .inl hJs⟩
end Go.Proofs.YtmenllnokgjdlaaGreatDoor.E
