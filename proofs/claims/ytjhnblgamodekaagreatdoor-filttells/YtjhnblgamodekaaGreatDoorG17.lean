/- Several texts in one: UCheck, UFollow. Each says what it proves, and its conditions. -/
import Derived.Test.YtjhnblgamodekaaGreatDoorG16
set_option maxHeartbeats 2000000
set_option maxRecDepth 100000
/-
 What utf.checker.check answers: the first fault of a text by its rules. Conditions: the package-level variables hold what the program's text lays ('Glob').
-/
namespace Go.Proofs.YtjhnblgamodekaaGreatDoor.U
open Go Go.RowKit Go.Shelf
attribute [local go_sem] Oper.semAt_some
abbrev flt (p : Nat) (a : Addr) : Value := .iface 226 (.agg #[.int .i64 p, .iface 254 (.pointer (some a))])
def first {s : ByteArray} (ok : Nat -> Nat -> Bool) : List (Sg s) -> Option Nat
 | [] => none
 | x :: l => if ok x.p x.n then first ok l else some x.p
def fv (a : Addr) : Option Nat -> Value
 | none => .nilIface
 | some p => flt p a
theorem first_pre {s : ByteArray} {ok : Nat -> Nat -> Bool} : ∀ {pre l : List (Sg s)}, (∀ x ∈ pre, ok x.p x.n = true) -> first ok (pre ++ l) = first ok l
 | [], _, _ => rfl
 | x :: pre, l, h => by
  rw [List.cons_append, first, if_pos (h x (by simp))]
  exact first_pre fun y hy => h y (by simp [hy])
structure St (s : ByteArray) (rs err : Value) (w W : World) : Prop where
 box : W.heap[w.heap.size]? = some (.cells #[.string s, rs] 234)
 er : W.heap[w.heap.size + 1]? = some (.cells #[err] 42)
 bel : Below w.heap.size w W
 size : w.heap.size + 3 <= W.heap.size
theorem St.grown {s : ByteArray} {rs err : Value} {w W W' : World} {row : Option Nat} (h : St s rs err w W) (hg : W.grownBy W' row) (hr : ∀ r, row = some r -> w.heap.size + 3 <= r) : St s rs err w W' := by
 have hz := h.size
 have hk : ∀ k, k < w.heap.size + 3 -> W'.heap[k]? = W.heap[k]? := fun k hk => hg.block k (by omega) (fun e => by have := hr k e.symm; omega)
 exact ⟨(hk _ (by omega)).trans h.box, (hk _ (by omega)).trans h.er, ⟨hg.os.trans h.bel.os, hg.tape.trans h.bel.tape, hg.output.trans h.bel.output, Nat.le_trans h.bel.size hg.size, fun k hk' => (hk k (by omega)).trans (h.bel.block k hk')⟩, Nat.le_trans hz hg.size⟩
theorem St.below {s : ByteArray} {rs err : Value} {w W W' : World} (h : St s rs err w W) (hb : Below W.heap.size W W') : St s rs err w W' := by
 have hz := h.size
 exact ⟨(hb.block _ (by omega)).trans h.box, (hb.block _ (by omega)).trans h.er, h.bel.trans (hb.mono (by omega)), Nat.le_trans hz hb.size⟩
theorem St.cells {s : ByteArray} {rs err : Value} {w W : World} (h : St s rs err w W) : W.cell? ⟨w.heap.size, 0, none⟩ = some (.string s) /\ W.cell? ⟨w.heap.size, 1, none⟩ = some rs /\ W.cell? ⟨w.heap.size + 1, 0, none⟩ = some err /\ W.frozen? ⟨w.heap.size + 1, 0, none⟩ = false := by
 have h1 := h.box
 have h2 := h.er
 simp [World.cell?, World.frozen?, h1, h2]
theorem keepsO {W W' : World} (h : Below W.heap.size W W') : KeepsOthers W W' := ⟨h.size, fun k _ hk _ => (h.block k (Array.getElem?_eq_some_iff.1 hk).1).trans hk⟩
theorem keepsW {W W' : World} (h : Below W.heap.size W W') : KeepsWalks W W' := ⟨h.size, fun k _ hk _ => (h.block k (Array.getElem?_eq_some_iff.1 hk).1).trans hk⟩
theorem St.setE {s : ByteArray} {rs err : Value} {w W : World} (h : St s rs err w W) (m : Value) : St s rs m w (W.setCell ⟨w.heap.size + 1, 0, none⟩ m) :=
 ⟨(Below.heap_setCell _ _ _ _ (by show w.heap.size ≠ w.heap.size + 1; omega)).trans h.box, heap_setCell_same W _ 0 _ _ _ h.er, h.bel.setCell (by show w.heap.size <= w.heap.size + 1; omega) _, by show _ <= (W.setCell _ _).heap.size; simp [World.setCell]; exact h.size⟩
theorem fin {w V : World} {D : Nat} {tmps : Array Value} {v : Value} {R : Ending -> World -> Prop} (hV : V.heap[D]? = some (.deferred (some []))) (hD : w.heap.size <= D) (hb : Below w.heap.size w V) (t2 : tmps.getD 2 undef = v)
  (hp : ∀ V', Below w.heap.size w V' -> R (.returned v) V') :
  Exit.noGoto (bodyPostM Fence.wide 3 Tryz.prog Tryz.f168 R) Exit.ret { tmps, defers := [{ target := .collected D, args := #[] }] } V := by
 have hb' : Below w.heap.size w (V.putObj D (.deferred none)) :=
  ⟨hb.os, hb.tape, hb.output, by simpa using hb.size, fun k hk => (World.putObj_heap_other (by omega)).trans (hb.block k hk)⟩
 refine ⟨by simp, .inl ⟨_, _, rfl, run_takeDeferred hV, ?_⟩⟩
 refine ⟨v, ?_, hp _ hb'⟩
 subst t2
 simp [results, Tryz.results168, go_sem]
def ChkPost (ok : Nat -> Nat -> Bool) (a : Addr) (s : ByteArray) (w : World) (e : Ending) (w' : World) : Prop := e = .returned (fv a (first ok (all s))) /\ Below w.heap.size w w'
def inv (ok : Nat -> Nat -> Bool) (s : ByteArray) (rs : Value) (w : World) (pre : List (Sg s)) (W : World) : Prop := (∀ x ∈ pre, ok x.p x.n = true) /\ St s rs .nilIface w W
def outv (ok : Nat -> Nat -> Bool) (a : Addr) (s : ByteArray) (rs : Value) (w : World) (cd : Code) (pre : List (Sg s)) (W : World) : Prop := cd = .exit 0 /\ ∃ l x, pre = l ++ [x] /\ (∀ y ∈ l, ok y.p y.n = true) /\ ok x.p x.n = false /\ St s rs (flt x.p a) w W
theorem check_told (s : ByteArray) (Rb : Nat) (aU aS : Addr) (w : World) (g : Glob aU aS w) (hs : s.size <= 1000) (hR : w.cell? ⟨Rb, 0, none⟩ = some (.func (.func 166) #[] #[])) :
  Calls Tryz.prog 168 #[.agg #[.string s, .slice (some ⟨Rb, 0, none⟩) 1 1]] w (ChkPost (st s) aU s w) := by
 refine (callsIn_wide (n := 3)).1 ?_
 refine callsIn_of_wp_marks Tryz.func168 rfl trivial ?_ rfl
 simp only [Tryz.ntmps168, List.size_toArray, List.length_cons, List.length_nil, Nat.reduceAdd, Nat.reduceSub, Array.replicate_succ, Array.replicate_zero, List.push_toArray, List.append_toArray, List.nil_append, List.cons_append]
 refine wpIn_wide.2 ?_
 go_wp2
 refine wp_scope_straight ?_
 go_wp2
 refine wp_label ?_
 go_wp2_with (go_at_call 171; refine (signs_any s _).mono ?_; rintro e w' ⟨rfl, rfl⟩)
 obtain ⟨W0, hW0⟩ : ∃ W0, W0 = ((w.alloc (.cells #[.string s, .slice (some ⟨Rb, 0, none⟩) 1 1] 234)).alloc (.cells #[.nilIface] 42)).alloc (.cells #[.string s] 232) := ⟨_, rfl⟩
 have hz : W0.heap.size = w.heap.size + 3 := by rw [hW0]; simp
 have hSt : St s (.slice (some ⟨Rb, 0, none⟩) 1 1) .nilIface w W0 := by
  rw [hW0]
  refine ⟨?_, ?_, ((((Below.refl _ _).alloc (by simp) _).alloc (by simp <;> omega) _).alloc (by simp <;> omega) _), by simp⟩
  ·rw [Below.heap_alloc _ _ _ (by simp <;> omega), Below.heap_alloc _ _ _ (by simp)]; exact World.alloc_heap_new _ _
  ·rw [Below.heap_alloc _ _ _ (by simp)]; have := World.alloc_heap_new (w.alloc (.cells #[.string s, .slice (some ⟨Rb, 0, none⟩) 1 1] 234)) (.cells #[.nilIface] 42); rwa [World.size_alloc] at this
 have hBs : W0.cell? ⟨w.heap.size + 1 + 1, 0, none⟩ = some (.string s) := by
  rw [hW0, World.cell?_alloc_at _ _ _ _ (by simp)]
  rfl
 rw [<- hW0]
 clear hW0
 refine (wpIn_wide (n := 3)).1 ?_
 refine wpIn_rangeFunc_ownF rfl (by omega) (gf := 176) (lb := #[.pointer (some ⟨w.heap.size + 1 + 1, 0, none⟩)]) rfl trivial (enters_of Tryz.func176 (by kernel_rfl) rfl)
  (signs1_stops (3 - 1) (by omega) (w.heap.size + 1 + 1) s W0 hBs) KeepsWalks.trans walksK_b (Below.refl _ _) (fun _ => rfl)
  (inv (st s) s (.slice (some ⟨Rb, 0, none⟩) 1 1) w) (outv (st s) aU s (.slice (some ⟨Rb, 0, none⟩) 1 1) w)
  (fun pre A B row hs hg hr => ⟨hs.1, hs.2.grown hg (fun r e => by have := (hr r e).1; omega)⟩)
  (fun cd pre A B row hs hg hr => by
   obtain ⟨e1, l, x, h1, h2, h3, hst⟩ := hs
   exact ⟨e1, l, x, h1, h2, h3, hst.grown hg (fun r e => by have := (hr r e).1; omega)⟩)
  ⟨by simp, hSt⟩
  (fun x => { tmps := #[.agg #[.string s, .slice (some ⟨Rb, 0, none⟩) 1 1], .pointer (some ⟨w.heap.size, 0, none⟩), .nilIface, .pointer (some ⟨w.heap.size + 1, 0, none⟩), .int .i64 x.p, .int .i32 x.n, undef, undef, undef, .pointer (some ⟨w.heap.size, 0, none⟩), .agg #[.string s], .func (.func 176) #[] #[.pointer (some ⟨w.heap.size + 1 + 1, 0, none⟩)], .int .i64 x.p, .int .i32 x.n,
   undef, undef, undef, undef, undef, undef, undef, undef, undef, undef, undef, undef, undef, undef, undef, undef, undef, undef, undef, undef, undef], defers := [] }) ?assign ?body ?done ?stop
 case assign =>
  intro l x W K hK
  gi_wp2
  exact hK
 case body =>
  rintro l pre x W ⟨hpl, hst⟩ hN
  go_light
  obtain ⟨c0, c1, c2, c3⟩ := hst.cells
  have hr0 : W.cell? ⟨Rb, 0, none⟩ = some (.func (.func 166) #[] #[]) := (hst.bel.cell (lt_of_cell hR)).trans hR
  have gW := g.below (Nat.le_refl _) hst.bel
  have Hst := H_ hst
  clear hst
  have H0 := isTold_any s x.p x.n aU aS W gW x.hn (Nat.le_of_lt x.hp) hs
  have hpl' := H_ hpl
  clear hpl hN g gW hBs hSt hR
  gi_wp2
  refine wpIn_loop_rounds 2 ?_
  rw [roundsIn_succ]
  by_cases hok : st s x.p x.n = true
  ·rw [hok] at H0
   have Hok := H_ hok
   clear hok
   gi_wp2_with fail
   refine ⟨trivial, (CallsIn.inRound _ (callsIn_wide.2 H0)).mono ?_⟩
   rintro e w' ⟨rfl, hb⟩
   unfold er
   have hst2 := (un Hst).below hb
   obtain ⟨d0, d1, d2, d3⟩ := hst2.cells
   have Hst2 := H_ hst2
   have Hb := H_ hb
   clear hst2 hb
   gi_wp2
   rw [roundsIn_succ]
   gi_wp2
   refine ⟨keepsO (un Hb), keepsW (un Hb), ?_, un Hst2⟩
   intro y hy
   rcases List.mem_append.1 hy with hy | hy
   ·exact un hpl' y hy
   ·rw [List.mem_singleton.1 hy]; exact un Hok
  ·have hok' : st s x.p x.n = false := by simpa using hok
   rw [hok'] at H0
   have Hok := H_ hok'
   clear hok hok'
   gi_wp2_with fail
   refine ⟨trivial, (CallsIn.inRound _ (callsIn_wide.2 H0)).mono ?_⟩
   rintro e w' ⟨rfl, hb⟩
   unfold er
   have hst2 := (un Hst).below hb
   obtain ⟨d0, d1, d2, d3⟩ := hst2.cells
   have Hst2 := H_ hst2
   have Hb := H_ hb
   clear hst2 hb
   gi_wp2
   exact ⟨(keepsO (un Hb)).trans (KeepsOthers.setCell _ _ _), rfl, pre, x, rfl, un hpl', un Hok, (un Hst2).setE _⟩
 case done =>
  rintro D ys W hD rfl ⟨hpl, hst⟩ hK
  obtain ⟨c0, c1, c2, c3⟩ := hst.cells
  have Hst := H_ hst
  have HK := H_ hK
  have hpl' := H_ hpl
  clear hst hK hpl hBs hSt hR g
  go_wp2
  refine fin (un HK) (by omega) (un Hst).bel rfl fun V' hb => ⟨?_, hb⟩
  have := first_pre (ok := st s) (pre := all s) (l := []) (un hpl')
  rw [List.append_nil] at this
  rw [this]
  rfl
 case stop =>
  rintro D cd pre W hD hpre ⟨rfl, l, x, rfl, hl, hx, hst⟩ hK
  refine wpIn_exit ?_
  obtain ⟨c0, c1, c2, c3⟩ := hst.cells
  have Hst := H_ hst
  have HK := H_ hK
  have Hl := H_ hl
  have Hx := H_ hx
  have Hp := H_ hpre
  clear hst hK hl hx hpre hBs hSt hR g
  go_wp2
  refine fin (un HK) (by omega) (un Hst).bel rfl fun V' hb => ⟨?_, hb⟩
  obtain ⟨t, ht⟩ := un Hp
  rw [<- ht, List.append_assoc, first_pre (un Hl), List.cons_append, first, un Hx]
  rfl
end Go.Proofs.YtjhnblgamodekaaGreatDoor.U
/-
 What utf.checkRight, Right and IsSafe answer. Conditions: the package-level variables hold what the program's text lays ('Glob').
-/
namespace Go.Proofs.YtjhnblgamodekaaGreatDoor.U
open Go Go.RowKit
def bad (s : ByteArray) : Option Nat := first (st s) (all s)
theorem follow_any (s : ByteArray) (b n : Nat) (v : Value) (w : World) (h : Calls Tryz.prog 168 #[.agg #[.string s, .slice (some ⟨b, 0, none⟩) n n]] w fun e w' => e = .returned v /\ Below w.heap.size w w') :
  Calls Tryz.prog 165 #[.string s, .slice (some ⟨b, 0, none⟩) n n] w fun e w' => e = .returned v /\ Below w.heap.size w w' := by
 have H := H_ h
 clear h
 go_enter Tryz.func165, Tryz.ntmps165
 go_wp2_with fail
 refine (un H).mono ?_
 rintro e w1 ⟨rfl, hb⟩
 have HB := H_ hb
 clear hb
 go_wp2
 go_ret
 exact ⟨rfl, un HB⟩
theorem checkRight_any (s : ByteArray) (aU aS : Addr) (w : World) (g : Glob aU aS w) (hs : s.size <= 1000) :
  Calls Tryz.prog 163 #[.string s] w fun e w' => e = .returned (fv aU (bad s)) /\ Below w.heap.size w w' := by
 have H := follow_any s _ _ _ _ (check_told s w.heap.size aU aS (w.alloc (.cells #[.func (.func 166) #[] #[]] 240)) (g.alloc _) hs (by simp))
 have H2 := H_ H
 clear H g
 go_enter Tryz.func163, Tryz.ntmps163
 go_wp2_with fail
 refine (un H2).mono ?_
 rintro e w1 ⟨rfl, hb⟩
 have HB := H_ hb
 clear hb
 go_wp2
 go_ret
 exact ⟨rfl, ((Below.refl _ _).alloc (Nat.le_refl _) _).trans ((un HB).mono (by simp))⟩
end Go.Proofs.YtjhnblgamodekaaGreatDoor.U
