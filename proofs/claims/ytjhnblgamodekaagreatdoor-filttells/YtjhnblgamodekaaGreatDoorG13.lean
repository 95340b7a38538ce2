/- Several texts in one: CPrint, Round, CRead, CDoor. Each says what it proves, and its conditions. -/
import Derived.Test.YtjhnblgamodekaaGreatDoorG04
import Derived.Test.YtjhnblgamodekaaGreatDoorCTold
import Derived.Deep.Light
import Derived.StillTailTactics
import Derived.Test.YtjhnblgamodekaaGreatDoorCLaws
set_option linter.unusedSimpArgs false
set_option maxHeartbeats 4000000
set_option maxRecDepth 100000
/-
 What code.coder.print answers: a text's signs. Conditions: none.
-/
namespace Go.Proofs.YtjhnblgamodekaaGreatDoor.C
open Go Go.RowKit Go.Shelf Cd
attribute [local go_sem] Oper.semAt_some
theorem conv_nil (w : World) : (convert 113 9 (.slice none 0 0)).run Tryz.prog w = .ok (.string ⟨#[]⟩) w := by kernel_rfl
theorem nums_str (l : List UInt8) : strOfNums (l.map fun x => (x.toNat : Int)) = ⟨l.toArray⟩ := by
 unfold strOfNums
 congr 1
 simp [List.map_map]
 conv => rhs; rw [<- List.map_id l]
 exact List.map_congr_left fun x _ => by simp
theorem conv_row {w : World} {base k : Nat} {sl : Value} {l : List UInt8} (ho : w.ownsRow base 5 1 sl k (cells l)) (hk : l.length = k) :
  (convert 113 9 sl).run Tryz.prog w = .ok (.string ⟨l.toArray⟩) w := by
 rcases ho.2 with ⟨rfl, h0⟩ | ⟨g, cap, cur, rfl, hg, hc, h1, h2, h3, h4⟩
 ·have : l = [] := List.length_eq_zero_iff.1 (by omega)
  subst this
  exact conv_nil w
 ·rw [<- nums_str]
  refine run_convert_bytes_arg w _ _ Tryz.underlying113 Tryz.underlying5 g 0 k cap (l.map fun x => (x.toNat : Int)) (by simpa using hk) (fun i hi => ?_) _ Tryz.underlying9
  have hi' : i < l.length := by omega
  have := ho.cells (g := g) rfl i (.int .u8 (l[i].toNat : Int)) (by simp [cells, List.getElem?_eq_getElem hi'])
  rw [Addr.add_lit] at this
  rw [this]
  simp [List.getD_eq_getElem?_getD, List.getElem?_eq_getElem hi']
def prt (k : Kd) {s : ByteArray} (l : List (Pc s)) : List UInt8 := l.flatMap fun x => gr k (x.g k.bs).data.toList
theorem prt_snoc (k : Kd) {s : ByteArray} (l : List (Pc s)) (x : Pc s) : prt k (l ++ [x]) = prt k l ++ gr k (x.g k.bs).data.toList := by simp [prt]
theorem gr_length (k : Kd) (g : List UInt8) : (gr k g).length = k.wd := by simp [gr]
theorem prt_length (k : Kd) {s : ByteArray} (l : List (Pc s)) : (prt k l).length = k.wd * l.length := by
 induction l with
 | nil => rfl
 | cons x l ih =>
  have : prt k (x :: l) = gr k (x.g k.bs).data.toList ++ prt k l := rfl
  rw [this, List.length_append, gr_length, ih, List.length_cons, Nat.mul_succ]
  omega
structure Pin (k : Kd) (B : Nat) (s : ByteArray) (w : World) (out : List UInt8) (v : Value) (W : World) : Prop where
 bx : W.heap[w.heap.size]? = some (.cells #[.pointer (some ⟨B, 0, none⟩)] 171)
 bv : W.heap[w.heap.size + 1]? = some (.cells #[v] 113)
 own : W.ownsRow (w.heap.size + 4) 5 1 v out.length (cells out)
 bel : Below w.heap.size w W
 size : w.heap.size + 4 <= W.heap.size
theorem Pin.grown {k : Kd} {B : Nat} {s : ByteArray} {w W W' : World} {out : List UInt8} {v : Value} {row : Option Nat} (h : Pin k B s w out v W) (hg : W.grownBy W' row) (hr : ∀ r, row = some r -> w.heap.size + 4 <= r /\ ∃ o, W.heap[r]? = some o /\ o.isCells = false) : Pin k B s w out v W' := by
 have hz := h.size
 have hk : ∀ k, k < w.heap.size + 4 -> W'.heap[k]? = W.heap[k]? := fun k hk => hg.block k (by omega) (fun e => by have := (hr k e.symm).1; omega)
 refine ⟨(hk _ (by omega)).trans h.bx, (hk _ (by omega)).trans h.bv, h.own.kept hg ?_, ⟨hg.os.trans h.bel.os, hg.tape.trans h.bel.tape, hg.output.trans h.bel.output, Nat.le_trans h.bel.size hg.size, fun k hk' => (hk k (by omega)).trans (h.bel.block k hk')⟩, Nat.le_trans hz hg.size⟩
 rcases h.own.2 with ⟨rfl, _⟩ | ⟨g, cap, cur, rfl, _, hgb, _⟩
 ·exact .inl rfl
 ·refine .inr fun e' => ?_
  obtain ⟨_, o, ho, hc⟩ := hr g (by simpa [Value.ownBlock] using e'.symm)
  rw [hgb] at ho; cases ho; cases hc
theorem Pin.cl {k : Kd} {B : Nat} {s : ByteArray} {w W : World} {out : List UInt8} {v : Value} (h : Pin k B s w out v W) : W.cell? ⟨w.heap.size, 0, none⟩ = some (.pointer (some ⟨B, 0, none⟩)) /\ W.cell? ⟨w.heap.size + 1, 0, none⟩ = some v /\ W.frozen? ⟨w.heap.size + 1, 0, none⟩ = false := by
 have h1 := h.bx
 have h2 := h.bv
 simp [World.cell?, World.frozen?, h1, h2]
theorem Pin.put {k : Kd} {B : Nat} {s : ByteArray} {w W W' : World} {out more : List UInt8} {v v' : Value} (h : Pin k B s w out v W) (hb : Bel (w.heap.size + 4) W W') (ho : W'.ownsRow (w.heap.size + 4) 5 1 v' (out ++ more).length (cells (out ++ more))) :
  Pin k B s w (out ++ more) v' (W'.setCell ⟨w.heap.size + 1, 0, none⟩ v') := by
 have hz := h.size
 have hk : ∀ k, k < w.heap.size + 4 -> W'.heap[k]? = W.heap[k]? := fun k hk => hb.1.block k hk
 refine ⟨(Below.heap_setCell _ _ _ _ (by show w.heap.size ≠ w.heap.size + 1; omega)).trans ((hk _ (by omega)).trans h.bx), heap_setCell_same W' _ 0 _ _ _ ((hk _ (by omega)).trans h.bv), ?_, (h.bel.trans (hb.1.mono (by omega))).setCell (by show w.heap.size <= w.heap.size + 1; omega) _, by simp; have := hb.1.size; omega⟩
 exact ownsRow_setCell_below ho (by show w.heap.size + 1 < w.heap.size + 4; omega) _
theorem own_form {w : World} {base n : Nat} {v : Value} {xs : List Value} (h : w.ownsRow base 5 1 v n xs) (hn : 0 < n) : ∃ g cap, v = .slice (some ⟨g, 0, none⟩) n cap := by
 rcases h.2 with ⟨_, h0⟩ | ⟨g, cap, _, rfl, _⟩
 ·omega
 ·exact ⟨g, cap, rfl⟩
theorem bel_frozen {B : Nat} {w w' : World} (h : Below B w w') {a : Addr} (ha : a.block < B) : w'.frozen? a = w.frozen? a := by
 simp [World.frozen?, h.block _ ha]
theorem piece_size {s : ByteArray} {n : Nat} (x : Pc s) (hn : 1 <= n) : 1 <= (x.g n).size /\ (x.g n).size <= n := by
 have := x.hp
 rw [ByteArray.size_extract]
 omega
def PPost (k : Kd) (s : ByteArray) (w : World) (e : Ending) (w' : World) : Prop := e = .returned (.string ⟨(prt k (all s k.bs)).toArray⟩) /\ Below w.heap.size w w'
theorem finP {w V : World} {D : Nat} {tmps : Array Value} {v : Value} {R : Ending -> World -> Prop} (hV : V.heap[D]? = some (.deferred (some []))) (hD : w.heap.size <= D) (hb : Below w.heap.size w V) (t4 : tmps.getD 4 undef = v)
  (hp : ∀ V', Below w.heap.size w V' -> R (.returned v) V') :
  bodyPostM Fence.wide 3 Tryz.prog Tryz.f112 R Exit.ret { tmps, defers := [{ target := .collected D, args := #[] }] } V := by
 refine ⟨by simp, .inl ⟨_, _, rfl, run_takeDeferred hV, ?_⟩⟩
 refine ⟨v, ?_, hp _ (putObj_below hb hD)⟩
 subst t4
 simp [results, Tryz.results112, go_sem]
def Adds (k : Kd) : Prop := ∀ (B : Nat) (s : ByteArray) (w : World) (base : Nat) (v : Value) (m : Nat) (xs : List Value), 1 <= s.size -> s.size <= k.bs -> Cod k w B -> B < base -> w.ownsRow base 5 1 v m xs -> m <= 100000 -> base <= w.heap.size ->
  Calls Tryz.prog 136 #[.pointer (some ⟨B, 0, none⟩), v, .string s] w (AddPost k s.data.toList base m xs w)
theorem adds_H : Adds kH := addH
theorem print_any (k : Kd) (hA : Adds k) (B : Nat) (s : ByteArray) (w : World) (hc : Cod k w B) (hs : s.size <= 2000) (hk : 1 <= k.bs) (hk4 : k.bs <= 4) (hw1 : 1 <= k.wd) (hw4 : k.wd <= 4) :
  Calls Tryz.prog 112 #[.pointer (some ⟨B, 0, none⟩), .string s] w (PPost k s w) := by
 have hby := hc.by'
 have hlt := hc.lt
 refine (callsIn_wide (n := 3)).1 ?_
 refine callsIn_of_wp_marks Tryz.func112 rfl trivial ?_ rfl
 simp only [Tryz.ntmps112, List.size_toArray, List.length_cons, List.length_nil, Nat.reduceAdd, Nat.reduceSub, Array.replicate_succ, Array.replicate_zero, List.push_toArray, List.append_toArray, List.nil_append, List.cons_append]
 refine wpIn_wide.2 ?_
 have hby2 : ((w.alloc (.cells #[.pointer (some ⟨B, 0, none⟩)] 171)).alloc (.cells #[.slice none 0 0] 113)).cell? ⟨B, 192, none⟩ = some (.int .i64 k.bs) := by
  rw [World.cell?_alloc_lt _ _ _ (by simp; omega), World.cell?_alloc_lt _ _ _ hlt]; exact hby
 have Hc := H_ hc
 clear hby hc
 go_wp2_with fail
 refine (groups_any s k.bs _).mono ?_
 rintro e w' ⟨rfl, rfl⟩
 go_wp2
 obtain ⟨W0, hW0⟩ : ∃ W0, W0 = (((w.alloc (.cells #[.pointer (some ⟨B, 0, none⟩)] 171)).alloc (.cells #[.slice none 0 0] 113)).alloc (.cells #[.string s] 9)).alloc (.cells #[.int .i64 k.bs] 3) := ⟨_, rfl⟩
 have hz : W0.heap.size = w.heap.size + 4 := by rw [hW0]; simp
 have hSt : Pin k B s w [] (.slice none 0 0) W0 := by
  rw [hW0]
  refine ⟨?_, ?_, World.ownsRow_nil _ _ _ _, ?_, by simp⟩
  ·rw [Below.heap_alloc _ _ _ (by simp <;> omega), Below.heap_alloc _ _ _ (by simp <;> omega), Below.heap_alloc _ _ _ (by simp)]; exact World.alloc_heap_new _ _
  ·rw [Below.heap_alloc _ _ _ (by simp <;> omega), Below.heap_alloc _ _ _ (by simp)]; have := World.alloc_heap_new (w.alloc (.cells #[.pointer (some ⟨B, 0, none⟩)] 171)) (.cells #[.slice none 0 0] 113); rwa [World.size_alloc] at this
  ·repeat (refine Below.alloc ?_ (by simp <;> omega) _)
   exact Below.refl _ _
 have hBs : W0.cell? ⟨w.heap.size + 2, 0, none⟩ = some (.string s) := by
  rw [hW0, World.cell?_alloc_lt _ _ _ (by simp), World.cell?_alloc_at _ _ _ _ (by simp)]
  rfl
 have hBn : W0.cell? ⟨w.heap.size + 3, 0, none⟩ = some (.int .i64 k.bs) := by
  rw [hW0, World.cell?_alloc_at _ _ _ _ (by simp)]
  rfl
 rw [<- hW0]
 clear hW0 hby2
 refine (wpIn_wide (n := 3)).1 ?_
 refine wpIn_rangeFunc_ownF rfl (by omega) (gf := 146) (lb := #[.pointer (some ⟨w.heap.size + 2, 0, none⟩), .pointer (some ⟨w.heap.size + 3, 0, none⟩)]) rfl trivial (enters_of Tryz.func146 (by kernel_rfl) rfl)
  (groups1_stops (3 - 1) (by omega) (w.heap.size + 2) (w.heap.size + 3) k.bs s W0 hk hk4 hs hBs hBn) Two.trans (fun W l o o' hl h1 h2 h3 => Two.book (w := W0) (by omega) (by omega) W l o o' hl h1 h2 h3) (Below.refl _ _) (fun _ => rfl)
  (fun pre W => ∃ v, Pin k B s w (prt k pre) v W) (fun _ _ _ => False)
  (fun pre A B' row hs hg hr => by
   obtain ⟨v, h⟩ := hs
   exact ⟨v, h.grown hg (fun r e => ⟨by have := (hr r e).1; omega, (hr r e).2⟩)⟩)
  (fun _ _ _ _ _ hs _ _ => hs.elim)
  ⟨_, hSt⟩
  (fun x => { tmps := #[.pointer (some ⟨B, 0, none⟩), .string s, .pointer (some ⟨w.heap.size, 0, none⟩), undef, .string ⟨#[]⟩, .pointer (some ⟨w.heap.size + 1, 0, none⟩), undef, .string (x.g k.bs), .string s, .pointer (some ⟨B, 0, none⟩), .pointer (some ⟨B, 0, none⟩), .pointer (some ⟨B, 192, none⟩), .int .i64 k.bs, .func (.func 146) #[] #[.pointer (some ⟨w.heap.size + 2, 0, none⟩), .pointer (some ⟨w.heap.size + 3, 0, none⟩)], .int .i64 x.p, .string (x.g k.bs), undef, undef, undef, undef, undef, undef], defers := [] }) ?assign ?body ?done ?stop
 case assign =>
  intro l x W K hK
  gi_wp2
  exact hK
 case body =>
  rintro l pre x W ⟨v, hv⟩ hN
  go_light
  obtain ⟨c0, c1, c2⟩ := hv.cl
  have hcW := (un Hc).below hlt hv.bel
  have hps := piece_size x hk
  have hlen := prt_length k pre
  have H := hA B (x.g k.bs) W (w.heap.size + 4) v _ _ (by omega) (by omega) hcW (by omega) hv.own (by rw [hlen]; have : k.wd * pre.length <= 4 * 2000 := Nat.mul_le_mul hw4 (by omega); omega) hv.size
  have Hv := H_ hv
  have HA := H_ H
  clear hv H hN hSt hBs hBn hz hlen hcW hps
  gi_wp2_with fail
  refine ⟨trivial, (CallsIn.inRound _ (callsIn_wide.2 (un HA))).mono ?_⟩
  rintro e w' ⟨v', rfl, hown, hbl⟩
  have hP := (un Hv).put (more := gr k (x.g k.bs).data.toList) hbl (by rw [List.length_append, gr_length, cells_append]; exact hown)
  rw [<- prt_snoc] at hP
  obtain ⟨g', cap', rfl⟩ := own_form hown (by omega)
  have hz := (un Hv).size
  have d1 := (hbl.1.cell (p := ⟨w.heap.size + 1, 0, none⟩) (by show w.heap.size + 1 < w.heap.size + 4; omega)).trans c1
  have d2 := (bel_frozen hbl.1 (a := ⟨w.heap.size + 1, 0, none⟩) (by show w.heap.size + 1 < w.heap.size + 4; omega)).trans c2
  have HP := H_ hP
  have HK := H_ (hbl.2.trans (KeepsOthers.setCell w' ⟨w.heap.size + 1, 0, none⟩ (.slice (some ⟨g', 0, none⟩) ((prt k pre).length + k.wd) cap')))
  have HT : Hid (Two (w.heap.size + 2) (w.heap.size + 3) W (w'.setCell ⟨w.heap.size + 1, 0, none⟩ (.slice (some ⟨g', 0, none⟩) ((prt k pre).length + k.wd) cap'))) :=
   ⟨(Below.heap_setCell _ _ _ _ (by show w.heap.size + 2 ≠ w.heap.size + 1; omega)).trans (hbl.1.block _ (by omega)), (Below.heap_setCell _ _ _ _ (by show w.heap.size + 3 ≠ w.heap.size + 1; omega)).trans (hbl.1.block _ (by omega))⟩
  clear hown hbl hP
  gi_wp2
  exact ⟨un HK, un HT, _, un HP⟩
 case done =>
  rintro D ys W hD rfl ⟨v, hv⟩ hK
  obtain ⟨c0, c1, c2⟩ := hv.cl
  have hcv := conv_row hv.own rfl
  have HK := H_ hK
  have Hv := H_ hv
  clear hK hv hSt hBs hBn
  go_wp2
  refine finP (un HK) (by omega) (un Hv).bel rfl fun V' hb => ⟨rfl, hb⟩
 case stop =>
  rintro D cd pre W hD hpre h hK
  exact h.elim
end Go.Proofs.YtjhnblgamodekaaGreatDoor.C
/-
 A region that draws its order, inside a round of a range over a function, at the fence that asks nothing: what the plain laws give. Conditions: the region defers nothing.
-/
namespace Go.Proofs.YtjhnblgamodekaaGreatDoor
open Go
section
variable {P : Program} {ops : Array Oper} {Q : Exit -> Act -> World -> Prop} {lp m : Nat}
theorem operIn_round {o : Oper} {a : Act} {w : World} {K : Act -> World -> Prop} (hd : ∀ c, o.op ≠ .defer c) (h : o.wp P a w K Q) : o.wpIn (Fence.wide.inRound lp) m P a w K Q := by
 unfold Oper.wpIn
 refine ⟨fun _ _ => trivial, ?_⟩
 rw [Oper.semAt_eq _ _ _ hd]
 unfold Oper.wp at h
 generalize (execOp a.eval o).run P w = r at *
 cases r with
 | ok x w' =>
  cases x with
  | value v => exact h
  | skip => exact h
  | defer d => exact h
  | enter f args => exact ⟨(fun e => by cases e), CallsIn.inRound lp (callsIn_wide.2 h)⟩
  | row r args =>
   refine ⟨(fun e => by cases e), fun c cs _ => ?_⟩
   obtain ⟨v, w1, hr, s⟩ := h c cs
   exact ⟨v, w1, hr, stepsIn_wide.2 s⟩
  | _ => exact h.elim
 | halt x w' =>
  cases x with
  | panic v => exact h
  | _ => exact h.elim
theorem opsIn_round (hd : ∀ (i : Nat) (o : Oper), ops[i]? = some o -> ∀ c, o.op ≠ .defer c) (hL : ¬ LetsOut Q) : ∀ (is : List Nat) (a : Act) (w : World), wpOps P ops Q is a w -> wpOpsIn (Fence.wide.inRound lp) m P ops Q is a w
 | [], _, _, h => h
 | i :: rest, a, w, h => by
  simp only [wpOps, wpOpsIn] at h ⊢
  cases ho : ops[i]? with
  | none => rw [ho] at h; exact opsIn_round hd hL rest a w h
  | some o =>
   rw [ho] at h
   simp only at h ⊢
   split
   ·rename_i hw
    rw [if_pos hw] at h
    rcases h with h | h
    ·exact Oper.wpIn_mono (fun a w h => opsIn_round hd hL rest a w h) (operIn_round (hd i o ho) h)
    ·exact absurd h.2 hL
   ·rename_i hw
    rw [if_neg hw] at h
    exact ⟨fun _ _ => trivial, opsIn_round hd hL rest _ w h⟩
theorem regionIn_round {id : Nat} {a : Act} {w : World} (hm : P.follows .mixedOrders = true) (hd : ∀ (i : Nat) (o : Oper), ops[i]? = some o -> ∀ c, o.op ≠ .defer c) (hL : ¬ LetsOut Q)
  (h : wpAny P .any ops Q ops.size (Array.replicate ops.size false) a w.drew) : (Code.region id ops true).wpIn (Fence.wide.inRound lp) m P Q a w :=
 wpIn_region_draw fun t => by
  simp only [Region.schedule, hm, Bool.true_or, if_true]
  exact opsIn_round hd hL _ a _ (wpAny_sound ops.size t _ a _ h)
def noDefer (l : List Oper) : Bool := l.all fun o => match o.op with | .defer _ => false | _ => true
theorem noDefer_spec {l : List Oper} (h : noDefer l = true) (i : Nat) (o : Oper) (ho : l.toArray[i]? = some o) (c : Call) : o.op ≠ .defer c := by
 intro e
 have hm : o ∈ l := List.mem_of_getElem? (by simpa using ho)
 have := List.all_eq_true.1 h o hm
 rw [e] at this
 cases this
theorem regionIn_tail {id : Nat} {a : Act} {w : World} {l : List Oper} (k : Nat) (hm : P.follows .mixedOrders = true) (hB : Region.lexTailB .any l.toArray k = true) (hd : noDefer l = true) (hL : ¬ LetsOut Q)
  (h : wpStill P l.toArray w.drew (fun a' => wpList P l.toArray Q (l.drop k) a' w.drew) (l.take k) a) : (Code.region id l.toArray true).wpIn (Fence.wide.inRound lp) m P Q a w := by
 refine regionIn_round hm (fun i o ho c => noDefer_spec hd i o ho c) hL ?_
 simp only [Region.lexTailB, Bool.and_eq_true, decide_eq_true_eq] at hB
 obtain ⟨⟨⟨⟨h1, h2⟩, h3⟩, h4⟩, h5⟩ := hB
 have hk : k < l.length := by simpa using h2
 have e1 : (l.take k).length = k := by simp; omega
 have e2 : (l.drop k).length = l.toArray.size - k := by simp
 have inv : HeadInv .any l.toArray k (Array.replicate l.toArray.size false) :=
  ⟨by simp, (fun j oj _ hl => by rw [getD_replicate_false] at hl; cases hl), fun t _ ht => getD_in (by simpa using ht) (getD_replicate_false _ _)⟩
 have H := wpAnyL_lex (md := .any) (g := l.toArray.size - k) h1 h3 h4 h2 (l.take k) 0 _ a
  (fun j hj => by rw [e1] at hj; simp [hj]) (by simpa using e1) inv (by rw [e1]; exact h5) h
 have R := wpAny_of_head (Q' := Q) (g := l.toArray.size - k) (fun listed a' hq => by
  have := wpAny_of_seq (md := .any) (Q' := Q) (l.drop k) k listed a' w.drew (fun j => by simp [List.getElem?_drop]) (by rw [e2]; exact hq.1) hq.2
  rwa [e2] at this) _ _ _ H
 rw [e1, show k + (l.toArray.size - k) = l.toArray.size by omega] at R
 exact R
end
end Go.Proofs.YtjhnblgamodekaaGreatDoor
/-
 What code.coder.read answers: the text that has some signs. Conditions: the package-level variables hold what the program's text lays ('Glob').
-/
namespace Go.Proofs.YtjhnblgamodekaaGreatDoor.C
open Go Go.RowKit Go.Shelf Cd
attribute [local go_sem] Oper.semAt_some
def only (Q : Exit -> Act -> World -> Prop) : Exit -> Act -> World -> Prop
 | .normal, a, w => Q .normal a w
 | _, _, _ => False
structure Wst (P : Program) (ops : Array Oper) (w : World) (Q : Act -> Prop) (l : List Oper) (a : Act) : Prop where
 out : wpStill P ops w Q l a
theorem wst_do {P : Program} {ops : Array Oper} {w : World} {Q : Act -> Prop} {a : Act} {o : Oper} {rest : List Oper} (hg : Region.wanted o (yielded ops a.tmps) = true)
  (h : ∀ K : Act -> Prop, Shut (∀ a, Wst P ops w Q rest a -> K a) -> o.still P a w K) : Wst P ops w Q (o :: rest) a :=
 ⟨wpStill_step fun K hK => by rw [if_pos hg]; exact h K (fun a h => hK a h.out)⟩
theorem wst_skip {P : Program} {ops : Array Oper} {w : World} {Q : Act -> Prop} {a : Act} {o : Oper} {rest : List Oper} (hg : Region.wanted o (yielded ops a.tmps) = false)
  (h : Wst P ops w Q rest (a.put o.dst undef)) : Wst P ops w Q (o :: rest) a :=
 ⟨wpStill_step fun K hK => by rw [if_neg (by rw [hg]; simp)]; exact hK _ h.out⟩
theorem wst_nil {P : Program} {ops : Array Oper} {w : World} {Q : Act -> Prop} {a : Act} (h : Q a) : Wst P ops w Q [] a := ⟨wpStill_nil h⟩
theorem regionIn_tail_n {P : Program} {Q : Exit -> Act -> World -> Prop} {lp m id : Nat} {a : Act} {w : World} {l : List Oper} (k : Nat) (hm : P.follows .mixedOrders = true) (hB : Region.lexTailB .any l.toArray k = true) (hd : noDefer l = true)
  (h : Wst P l.toArray w.drew (fun a' => wpList P l.toArray (only Q) (l.drop k) a' w.drew) (l.take k) a) : (Code.region id l.toArray true).wpIn (Fence.wide.inRound lp) m P Q a w :=
 wpIn_mono (regionIn_tail k hm hB hd (by rintro ⟨a, w, h⟩; exact h) h.out) (fun e a w h => by cases e <;> first | exact h | exact h.elim)
theorem region_tail {P : Program} {Q : Exit -> Act -> World -> Prop} {id : Nat} {a : Act} {w : World} {l : List Oper} (k : Nat) (hm : P.follows .mixedOrders = true) (hB : Region.lexTailB .any l.toArray k = true)
  (h : wpStill P l.toArray w.drew (fun a' => wpList P l.toArray Q (l.drop k) a' w.drew) (l.take k) a) : (Code.region id l.toArray true).wp P Q a w := wp_region_still_tail k hm hB h
theorem region_tail_n {P : Program} {Q : Exit -> Act -> World -> Prop} {id : Nat} {a : Act} {w : World} {l : List Oper} (k : Nat) (hm : P.follows .mixedOrders = true) (hB : Region.lexTailB .any l.toArray k = true)
  (h : Wst P l.toArray w.drew (fun a' => wpList P l.toArray (only Q) (l.drop k) a' w.drew) (l.take k) a) : (Code.region id l.toArray true).wp P Q a w :=
 wp_mono (region_tail k hm hB h.out) (fun e a w h => by cases e <;> first | exact h | exact h.elim)
def Tolds (k : Kd) : Prop := ∀ (B at_ : Nat) (s : ByteArray) (a : Ad) (w : World), Glob a w -> Cod k w B -> s.size <= k.wd -> at_ <= 10000 ->
  Calls Tryz.prog 178 #[.pointer (some ⟨B, 0, none⟩), .int .i64 at_, .string s] w (ToldPost k s.data.toList a w)
theorem tolds_H : Tolds kH := fun B at_ s a w g hc hs hat => by
 by_cases h : s.size < 2
 ·exact told_short kH B at_ s a w g hc h (by decide) hat
 ·exact toldH B at_ s a w g hc (by have : s.size <= 2 := hs; omega) hat nh_ok
theorem lp_bound (k : Kd) (hm : ∀ x m, k.nm x = some m -> m < 2 ^ k.bt) : ∀ (l : List UInt8) (i b c : Nat), (i + l.length) * k.bt <= 24 -> b % 2 ^ (24 - k.bt * i) = 0 -> b < 2 ^ 24 -> ∀ b' c', lp k l i b c = some (b', c') -> b' < 2 ^ 24 /\ c' <= c + l.length
 | [], i, b, c, _, _, hb, b', c', h => by rw [lp] at h; cases h; exact ⟨hb, Nat.le_refl _⟩
 | x :: r, i, b, c, hi, hmd, hb, b', c', h => by
  have hi' : (i + 1 + r.length) * k.bt <= 24 := by rw [List.length_cons, <- Nat.add_assoc, Nat.add_right_comm] at hi; exact hi
  rw [lp] at h
  cases hx : k.nm x with
  | none =>
   rw [hx] at h
   dsimp only at h
   split at h
   ·obtain ⟨h1, h2⟩ := lp_bound k hm r (i + 1) b c hi' (more_mod hmd) hb b' c' h
    exact ⟨h1, by rw [List.length_cons]; omega⟩
   ·cases h
  | some n =>
   rw [hx] at h
   dsimp only at h
   split at h
   ·have h6 : k.bt * (i + 1) <= 24 := by
     refine Nat.le_trans ?_ hi'
     rw [Nat.mul_comm]
     exact Nat.mul_le_mul_right _ (by omega)
    have e : 24 - k.bt * i = 24 - k.bt * (i + 1) + k.bt := by rw [Nat.mul_succ] at h6 ⊢; omega
    rw [e] at hmd
    obtain ⟨h1, h2⟩ := lp_bound k hm r (i + 1) _ (c + 1) hi' (put_mod b n _ _ hmd) (put_lt b n _ _ hmd (hm x n hx) hb (by rw [<- e]; omega)) b' c' h
    exact ⟨h1, by rw [List.length_cons]; omega⟩
   ·cases h
theorem tl_bound (k : Kd) (hm : ∀ x m, k.nm x = some m -> m < 2 ^ k.bt) (hwt : k.wd * k.bt <= 24) (g : List UInt8) (hg : g.length <= k.wd) {b c : Nat} (h : tl k g = some (b, c)) : b < 16777216 /\ c <= k.wd := by
 unfold tl at h
 split at h
 ·cases h
 ·cases hl : lp k g 0 0 0 with
  | none => rw [hl] at h; cases h
  | some r =>
   rw [hl, Option.bind_some] at h
   split at h
   ·cases h
    have := lp_bound k hm g 0 0 0 (by rw [Nat.zero_add]; exact Nat.le_trans (Nat.mul_le_mul_right _ hg) hwt) (by simp) (by decide) b c hl
    exact ⟨this.1, by omega⟩
   ·cases h
def one (k : Kd) {s : ByteArray} (x : Pc s) : Option (List UInt8) := stp k (!decide (x.p + k.wd < s.size)) (x.g k.wd).data.toList
def rds (k : Kd) {s : ByteArray} : List (Pc s) -> Option (List UInt8)
 | [] => some []
 | x :: l => (one k x).bind fun t => (rds k l).map (t ++ ·)
def Rd (k : Kd) {s : ByteArray} (pre : List (Pc s)) (out : List UInt8) : Prop := out.length <= 3 * pre.length /\ ∀ tail, rds k (pre ++ tail) = (rds k tail).map (out ++ ·)
theorem rd_nil (k : Kd) (s : ByteArray) : Rd k ([] : List (Pc s)) [] := ⟨Nat.le_refl _, fun tail => by simp⟩
theorem Rd.snoc {k : Kd} {s : ByteArray} {pre : List (Pc s)} {out t : List UInt8} {x : Pc s} (h : Rd k pre out) (hx : one k x = some t) (ht : t.length <= 3) : Rd k (pre ++ [x]) (out ++ t) := by
 refine ⟨by have := h.1; simp; omega, fun tail => ?_⟩
 rw [List.append_assoc, h.2, List.singleton_append, rds, hx, Option.bind_some, Option.map_map]
 congr 1
 funext l
 simp
theorem Rd.fail {k : Kd} {s : ByteArray} {pre : List (Pc s)} {out : List UInt8} {x : Pc s} (h : Rd k pre out) (hx : one k x = none) (tail : List (Pc s)) : rds k (pre ++ [x] ++ tail) = none := by
 rw [List.append_assoc, h.2, List.singleton_append, rds, hx]
 rfl
structure Rin (B : Nat) (s : ByteArray) (w : World) (out : List UInt8) (v err : Value) (W : World) : Prop where
 bc : W.heap[w.heap.size]? = some (.cells #[.pointer (some ⟨B, 0, none⟩)] 171)
 bs : W.heap[w.heap.size + 1]? = some (.cells #[.string s] 9)
 bv : W.heap[w.heap.size + 2]? = some (.cells #[v] 113)
 be : W.heap[w.heap.size + 3]? = some (.cells #[err] 42)
 own : W.ownsRow (w.heap.size + 6) 5 1 v out.length (cells out)
 bel : Below w.heap.size w W
 size : w.heap.size + 6 <= W.heap.size
theorem Rin.cl {B : Nat} {s : ByteArray} {w W : World} {out : List UInt8} {v err : Value} (h : Rin B s w out v err W) :
  W.cell? ⟨w.heap.size, 0, none⟩ = some (.pointer (some ⟨B, 0, none⟩)) /\ W.cell? ⟨w.heap.size + 1, 0, none⟩ = some (.string s) /\ W.cell? ⟨w.heap.size + 2, 0, none⟩ = some v /\ W.cell? ⟨w.heap.size + 3, 0, none⟩ = some err /\ W.frozen? ⟨w.heap.size + 2, 0, none⟩ = false /\ W.frozen? ⟨w.heap.size + 3, 0, none⟩ = false := by
 have h1 := h.bc
 have h2 := h.bs
 have h3 := h.bv
 have h4 := h.be
 simp [World.cell?, World.frozen?, h1, h2, h3, h4]
theorem Rin.grown {B : Nat} {s : ByteArray} {w W W' : World} {out : List UInt8} {v err : Value} {row : Option Nat} (h : Rin B s w out v err W) (hg : W.grownBy W' row) (hr : ∀ r, row = some r -> w.heap.size + 6 <= r /\ ∃ o, W.heap[r]? = some o /\ o.isCells = false) : Rin B s w out v err W' := by
 have hz := h.size
 have hk : ∀ k, k < w.heap.size + 6 -> W'.heap[k]? = W.heap[k]? := fun k hk => hg.block k (by omega) (fun e => by have := (hr k e.symm).1; omega)
 refine ⟨(hk _ (by omega)).trans h.bc, (hk _ (by omega)).trans h.bs, (hk _ (by omega)).trans h.bv, (hk _ (by omega)).trans h.be, h.own.kept hg ?_, ⟨hg.os.trans h.bel.os, hg.tape.trans h.bel.tape, hg.output.trans h.bel.output, Nat.le_trans h.bel.size hg.size, fun k hk' => (hk k (by omega)).trans (h.bel.block k hk')⟩, Nat.le_trans hz hg.size⟩
 rcases h.own.2 with ⟨rfl, _⟩ | ⟨g, cap, cur, rfl, _, hgb, _⟩
 ·exact .inl rfl
 ·refine .inr fun e' => ?_
  obtain ⟨_, o, ho, hc⟩ := hr g (by simpa [Value.ownBlock] using e'.symm)
  rw [hgb] at ho; cases ho; cases hc
theorem own_below {w w' : World} {b n : Nat} {v : Value} {xs : List Value} (h : w.ownsRow b 5 1 v n xs) (hb : Below w.heap.size w w') : w'.ownsRow b 5 1 v n xs :=
 h.kept (row := none) ⟨hb.os, hb.tape, hb.output, hb.size, fun k hk _ => hb.block k hk⟩ (by cases hv : v.ownBlock with | none => exact .inl rfl | some r => exact .inr (by simp))
theorem Rin.below {B : Nat} {s : ByteArray} {w W W' : World} {out : List UInt8} {v err : Value} (h : Rin B s w out v err W) (hb : Below W.heap.size W W') : Rin B s w out v err W' := by
 have hz := h.size
 have hk : ∀ k, k < w.heap.size + 6 -> W'.heap[k]? = W.heap[k]? := fun k hk => hb.block k (by omega)
 exact ⟨(hk _ (by omega)).trans h.bc, (hk _ (by omega)).trans h.bs, (hk _ (by omega)).trans h.bv, (hk _ (by omega)).trans h.be, own_below h.own hb, h.bel.trans (hb.mono (by omega)), Nat.le_trans hz hb.size⟩
theorem Rin.drew {B : Nat} {s : ByteArray} {w W : World} {out : List UInt8} {v err : Value} (h : Rin B s w out v err W) : Rin B s w out v err W.drew := h.below (Below.refl _ _).drew
theorem Rin.setE {B : Nat} {s : ByteArray} {w W : World} {out : List UInt8} {v err : Value} (h : Rin B s w out v err W) (m : Value) : Rin B s w out v m (W.setCell ⟨w.heap.size + 3, 0, none⟩ m) := by
 have o : ∀ k, k ≠ w.heap.size + 3 -> (W.setCell ⟨w.heap.size + 3, 0, none⟩ m).heap[k]? = W.heap[k]? := fun k hk => Below.heap_setCell _ _ _ _ hk
 exact ⟨(o _ (by omega)).trans h.bc, (o _ (by omega)).trans h.bs, (o _ (by omega)).trans h.bv, heap_setCell_same W _ 0 _ _ _ h.be, ownsRow_setCell_below h.own (by show w.heap.size + 3 < _; omega) _, h.bel.setCell (by show w.heap.size <= w.heap.size + 3; omega) _, by simp; exact h.size⟩
theorem Rin.put {B : Nat} {s : ByteArray} {w W W' : World} {out more : List UInt8} {v v' err : Value} (h : Rin B s w out v err W) (hb : Bel (w.heap.size + 6) W W') (ho : W'.ownsRow (w.heap.size + 6) 5 1 v' (out.length + more.length) (cells out ++ cells more)) :
  Rin B s w (out ++ more) v' err (W'.setCell ⟨w.heap.size + 2, 0, none⟩ v') := by
 have hz := h.size
 have hk : ∀ k, k < w.heap.size + 6 -> W'.heap[k]? = W.heap[k]? := fun k hk => hb.1.block k hk
 have o : ∀ k, k ≠ w.heap.size + 2 -> (W'.setCell ⟨w.heap.size + 2, 0, none⟩ v').heap[k]? = W'.heap[k]? := fun k hk => Below.heap_setCell _ _ _ _ hk
 refine ⟨(o _ (by omega)).trans ((hk _ (by omega)).trans h.bc), (o _ (by omega)).trans ((hk _ (by omega)).trans h.bs), heap_setCell_same W' _ 0 _ _ _ ((hk _ (by omega)).trans h.bv), (o _ (by omega)).trans ((hk _ (by omega)).trans h.be), ?_, (h.bel.trans (hb.1.mono (by omega))).setCell (by show w.heap.size <= w.heap.size + 2; omega) _, by simp; have := hb.1.size; omega⟩
 rw [List.length_append, cells_append]
 exact ownsRow_setCell_below ho (by show w.heap.size + 2 < w.heap.size + 6; omega) _
theorem keepsO {W W' : World} (h : Below W.heap.size W W') : KeepsOthers W W' := ⟨h.size, fun k _ hk _ => (h.block k (Array.getElem?_eq_some_iff.1 hk).1).trans hk⟩
theorem own_slice {w : World} {base n : Nat} {v : Value} {xs : List Value} (h : w.ownsRow base 5 1 v n xs) : ∃ a l c, v = .slice a l c := by
 rcases h.2 with ⟨rfl, _⟩ | ⟨g, cap, _, rfl, _⟩
 ·exact ⟨_, _, _, rfl⟩
 ·exact ⟨_, _, _, rfl⟩
def ReadPost (k : Kd) (s : ByteArray) (a : Ad) (w : World) (e : Ending) (w' : World) : Prop := Below w.heap.size w w' /\
 ((∃ t, rds k (all s k.wd) = some t /\ e = .returned (.tuple #[.string ⟨t.toArray⟩, .nilIface])) \/ (rds k (all s k.wd) = none /\ ∃ v, e = .returned (.tuple #[.string ⟨#[]⟩, v]) /\ IsErr a v))
def rinv (k : Kd) (B : Nat) (s : ByteArray) (w : World) (pre : List (Pc s)) (W : World) : Prop := ∃ out v, Rd k pre out /\ Rin B s w out v .nilIface W
def rout (k : Kd) (B : Nat) (s : ByteArray) (a : Ad) (w : World) (cd : Code) (pre : List (Pc s)) (W : World) : Prop := cd = .exit 0 /\ ∃ l x out v err, pre = l ++ [x] /\ Rd k l out /\ one k x = none /\ IsErr a err /\ Rin B s w out v err W
theorem finR {w V : World} {D : Nat} {tmps : Array Value} {v u : Value} {R : Ending -> World -> Prop} (hV : V.heap[D]? = some (.deferred (some []))) (hD : w.heap.size <= D) (hb : Below w.heap.size w V) (t4 : tmps.getD 4 undef = v) (t5 : tmps.getD 5 undef = u)
  (hp : ∀ V', Below w.heap.size w V' -> R (.returned (.tuple #[v, u])) V') :
  Exit.noGoto (bodyPostM Fence.wide 3 Tryz.prog Tryz.f174 R) Exit.ret { tmps, defers := [{ target := .collected D, args := #[] }] } V := by
 refine ⟨by simp, .inl ⟨_, _, rfl, run_takeDeferred hV, ?_⟩⟩
 refine ⟨.tuple #[v, u], ?_, hp _ (putObj_below hb hD)⟩
 subst t4
 subst t5
 simp [results, Tryz.results174, go_sem]
theorem read_any (k : Kd) (hT : Tolds k) (B : Nat) (s : ByteArray) (a : Ad) (w : World) (g : Glob a w) (hc : Cod k w B) (hs : s.size <= 2000) (hk : 1 <= k.wd) (hk4 : k.wd <= 4) (hbt : k.bt <= 6) (hwt : k.wd * k.bt <= 24) (hnm : ∀ x m, k.nm x = some m -> m < 2 ^ k.bt) :
  Calls Tryz.prog 174 #[.pointer (some ⟨B, 0, none⟩), .string s] w (ReadPost k s a w) := by
 have hwi := hc.wi
 have hlt := hc.lt
 refine (callsIn_wide (n := 3)).1 ?_
 refine callsIn_of_wp_marks Tryz.func174 rfl trivial ?_ rfl
 simp only [Tryz.ntmps174, List.size_toArray, List.length_cons, List.length_nil, Nat.reduceAdd, Nat.reduceSub, Array.replicate_succ, Array.replicate_zero, List.push_toArray, List.append_toArray, List.nil_append, List.cons_append]
 refine wpIn_wide.2 ?_
 have hwi2 : ((((w.alloc (.cells #[.pointer (some ⟨B, 0, none⟩)] 171)).alloc (.cells #[.string s] 9)).alloc (.cells #[.slice none 0 0] 113)).alloc (.cells #[.nilIface] 42)).cell? ⟨B, 193, none⟩ = some (.int .i64 k.wd) := by
  rw [World.cell?_alloc_lt _ _ _ (by simp; omega), World.cell?_alloc_lt _ _ _ (by simp; omega), World.cell?_alloc_lt _ _ _ (by simp; omega), World.cell?_alloc_lt _ _ _ hlt]; exact hwi
 have Hc := H_ hc
 have Hg0 := H_ g
 clear hwi hc
 have hmx : Tryz.prog.follows .mixedOrders = true := by kernel_rfl
 go_wp2
 refine wp_scope_straight ?_
 go_wp2
 refine wp_label ?_
 go_wp2
 refine region_tail 5 hmx (by kernel_rfl) ?_
 simp only [List.take_succ_cons, List.take_zero, List.drop_succ_cons, List.drop_zero]
 repeat still_step
 refine wpStill_nil ?_
 go_wp2_with fail
 refine (groups_any s k.wd _).mono ?_
 rintro e w' ⟨rfl, rfl⟩
 go_wp2
 obtain ⟨W0, hW0⟩ : ∃ W0, W0 = ((((((w.alloc (.cells #[.pointer (some ⟨B, 0, none⟩)] 171)).alloc (.cells #[.string s] 9)).alloc (.cells #[.slice none 0 0] 113)).alloc (.cells #[.nilIface] 42)).alloc (.cells #[.string s] 9)).alloc (.cells #[.int .i64 k.wd] 3)).drew := ⟨_, rfl⟩
 have hz : W0.heap.size = w.heap.size + 6 := by rw [hW0]; simp
 have hSt : Rin B s w [] (.slice none 0 0) .nilIface W0 := by
  rw [hW0]
  refine Rin.drew ?_
  refine ⟨?_, ?_, ?_, ?_, World.ownsRow_nil _ _ _ _, ?_, by simp⟩
  ·rw [Below.heap_alloc _ _ _ (by simp <;> omega), Below.heap_alloc _ _ _ (by simp <;> omega), Below.heap_alloc _ _ _ (by simp <;> omega), Below.heap_alloc _ _ _ (by simp <;> omega), Below.heap_alloc _ _ _ (by simp <;> omega)]
   exact World.alloc_heap_new _ _
  ·rw [Below.heap_alloc _ _ _ (by simp <;> omega), Below.heap_alloc _ _ _ (by simp <;> omega), Below.heap_alloc _ _ _ (by simp <;> omega), Below.heap_alloc _ _ _ (by simp <;> omega)]
   have := World.alloc_heap_new (w.alloc (.cells #[.pointer (some ⟨B, 0, none⟩)] 171)) (.cells #[.string s] 9); rwa [World.size_alloc] at this
  ·rw [Below.heap_alloc _ _ _ (by simp <;> omega), Below.heap_alloc _ _ _ (by simp <;> omega), Below.heap_alloc _ _ _ (by simp <;> omega)]
   have := World.alloc_heap_new ((w.alloc (.cells #[.pointer (some ⟨B, 0, none⟩)] 171)).alloc (.cells #[.string s] 9)) (.cells #[.slice none 0 0] 113); rwa [World.size_alloc, World.size_alloc] at this
  ·rw [Below.heap_alloc _ _ _ (by simp <;> omega), Below.heap_alloc _ _ _ (by simp <;> omega)]
   have := World.alloc_heap_new (((w.alloc (.cells #[.pointer (some ⟨B, 0, none⟩)] 171)).alloc (.cells #[.string s] 9)).alloc (.cells #[.slice none 0 0] 113)) (.cells #[.nilIface] 42); rwa [World.size_alloc, World.size_alloc, World.size_alloc] at this
  ·repeat (refine Below.alloc ?_ (by simp <;> omega) _)
   exact Below.refl _ _
 have hBs : W0.cell? ⟨w.heap.size + 4, 0, none⟩ = some (.string s) := by
  rw [hW0]
  show (World.alloc _ _).cell? _ = _
  rw [World.cell?_alloc_lt _ _ _ (by simp), World.cell?_alloc_at _ _ _ _ (by simp)]
  rfl
 have hBn : W0.cell? ⟨w.heap.size + 5, 0, none⟩ = some (.int .i64 k.wd) := by
  rw [hW0]
  show (World.alloc _ _).cell? _ = _
  rw [World.cell?_alloc_at _ _ _ _ (by simp)]
  rfl
 rw [<- hW0]
 clear hW0 hwi2
 refine (wpIn_wide (n := 3)).1 ?_
 refine wpIn_rangeFunc_ownF rfl (by omega) (gf := 146) (lb := #[.pointer (some ⟨w.heap.size + 4, 0, none⟩), .pointer (some ⟨w.heap.size + 5, 0, none⟩)]) rfl trivial (enters_of Tryz.func146 (by kernel_rfl) rfl)
  (groups1_stops (3 - 1) (by omega) (w.heap.size + 4) (w.heap.size + 5) k.wd s W0 hk hk4 hs hBs hBn) Two.trans (fun W l o o' hl h1 h2 h3 => Two.book (w := W0) (by omega) (by omega) W l o o' hl h1 h2 h3) (Below.refl _ _) (fun _ => rfl)
  (rinv k B s w) (rout k B s a w)
  (fun pre A B' row hs hg hr => by
   obtain ⟨out, v, h1, h⟩ := hs
   exact ⟨out, v, h1, h.grown hg (fun r e => ⟨by have := (hr r e).1; omega, (hr r e).2⟩)⟩)
  (fun cd pre A B' row hs hg hr => by
   obtain ⟨e1, l, x, out, v, err, h1, h2, h3, h4, h⟩ := hs
   exact ⟨e1, l, x, out, v, err, h1, h2, h3, h4, h.grown hg (fun r e => ⟨by have := (hr r e).1; omega, (hr r e).2⟩)⟩)
  ⟨[], _, rd_nil k s, hSt⟩
  (fun x => { tmps := #[.pointer (some ⟨B, 0, none⟩), .string s, .pointer (some ⟨w.heap.size, 0, none⟩), .pointer (some ⟨w.heap.size + 1, 0, none⟩), .string ⟨#[]⟩, .nilIface, .pointer (some ⟨w.heap.size + 2, 0, none⟩), .pointer (some ⟨w.heap.size + 3, 0, none⟩), .int .i64 x.p, .string (x.g k.wd), undef, undef, .string s, .pointer (some ⟨B, 0, none⟩), .pointer (some ⟨B, 0, none⟩), .pointer (some ⟨B, 193, none⟩), .int .i64 k.wd, .func (.func 146) #[] #[.pointer (some ⟨w.heap.size + 4, 0, none⟩), .pointer (some ⟨w.heap.size + 5, 0, none⟩)], .int .i64 x.p, .string (x.g k.wd), undef, undef, undef, undef, undef, undef, undef, undef, undef, undef, undef, undef, undef, undef, undef, undef, undef, undef, undef, undef, undef, undef, undef, undef, undef, undef, undef, undef, undef, undef, undef, undef, undef, undef, undef, undef, undef, undef, undef, undef, undef, undef, undef, undef, undef, undef, undef, undef, undef, undef, undef], defers := [] }) ?assign ?body ?done ?stop
 case assign =>
  intro l x W K hK
  gi_wp2
  exact hK
 case body =>
  rintro l pre x W ⟨out, v, hrd, hin⟩ hN
  go_light
  have hcW := (un Hc).below hlt hin.bel
  have hps := piece_size x hk
  have hxp := x.hp
  have H := hT B x.p (x.g k.wd) a W (g.below (Nat.le_refl _) hin.bel) hcW hps.2 (by omega)
  have hx : one k x = stp k (!decide (x.p + k.wd < s.size)) (x.g k.wd).data.toList := rfl
  unfold stp at hx
  obtain ⟨c0, c1, c2, c3, c4, c5⟩ := hin.cl
  cases htl : tl k (x.g k.wd).data.toList with
  | none =>
   rw [htl] at hx
   have H' := H_ (H.mono (R' := fun e w' => ∃ xv, e = .returned (.tuple #[.int .i64 0, .int .i64 0, .iface 248 xv]) /\ IsErr a (.iface 248 xv) /\ Below W.heap.size W w') (fun e w' ⟨hb, he⟩ => by
    rcases he with ⟨b, c, h1, _⟩ | ⟨_, v1, h2, h3⟩
    ·rw [htl] at h1; cases h1
    ·obtain ⟨xv, rfl⟩ := h3.form
     exact ⟨xv, h2, h3, hb⟩))
   have Hin := H_ hin
   have Hx : Hid (one k x = none) := hx
   have Hrd := H_ hrd
   clear H hin hx hrd htl hN hSt hBs hBn hz hcW hps hxp g
   gi_wp2_with fail
   refine ⟨trivial, (CallsIn.inRound _ (callsIn_wide.2 (un H'))).mono ?_⟩
   rintro e w' ⟨xv, rfl, herr, hb⟩
   have hi1 := (un Hin).below hb
   have hi2 := hi1.setE (.iface 248 xv)
   obtain ⟨d0, d1, d2, d3, d4, d5⟩ := hi1.cl
   obtain ⟨e0, e1, e2, e3, e4, e5⟩ := hi2.cl
   have Hi1 := H_ hi1
   have Hi2 := H_ hi2
   have He := H_ herr
   have HK := H_ ((keepsO hb).trans (KeepsOthers.setCell w' ⟨w.heap.size + 3, 0, none⟩ (.iface 248 xv)))
   clear hi1 hi2 herr hb c0 c1 c2 c3 c4 c5
   gi_wp2
   refine regionIn_tail_n 20 hmx (by kernel_rfl) (by kernel_rfl) ?_
   simp only [List.take_succ_cons, List.take_zero, List.drop_succ_cons, List.drop_zero]
   refine wst_do (by kernel_rfl) (fun K hK => ?_)
   go_simp
   refine hK.out _ ?_
   clear hK K
   refine wst_do (by kernel_rfl) (fun K hK => ?_)
   go_simp
   refine hK.out _ ?_
   clear hK K
   refine wst_do (by kernel_rfl) (fun K hK => ?_)
   go_simp
   refine hK.out _ ?_
   clear hK K
   refine wst_skip (by kernel_rfl) ?_
   simp only [Act.put, nrm]
   refine wst_skip (by kernel_rfl) ?_
   simp only [Act.put, nrm]
   refine wst_skip (by kernel_rfl) ?_
   simp only [Act.put, nrm]
   refine wst_skip (by kernel_rfl) ?_
   simp only [Act.put, nrm]
   refine wst_skip (by kernel_rfl) ?_
   simp only [Act.put, nrm]
   refine wst_skip (by kernel_rfl) ?_
   simp only [Act.put, nrm]
   refine wst_do (by kernel_rfl) (fun K hK => ?_)
   go_simp
   refine hK.out _ ?_
   clear hK K
   refine wst_do (by kernel_rfl) (fun K hK => ?_)
   go_simp
   refine hK.out _ ?_
   clear hK K
   refine wst_skip (by kernel_rfl) ?_
   simp only [Act.put, nrm]
   refine wst_skip (by kernel_rfl) ?_
   simp only [Act.put, nrm]
   refine wst_skip (by kernel_rfl) ?_
   simp only [Act.put, nrm]
   refine wst_skip (by kernel_rfl) ?_
   simp only [Act.put, nrm]
   refine wst_skip (by kernel_rfl) ?_
   simp only [Act.put, nrm]
   refine wst_skip (by kernel_rfl) ?_
   simp only [Act.put, nrm]
   refine wst_skip (by kernel_rfl) ?_
   simp only [Act.put, nrm]
   refine wst_skip (by kernel_rfl) ?_
   simp only [Act.put, nrm]
   refine wst_skip (by kernel_rfl) ?_
   simp only [Act.put, nrm]
   refine wst_nil ?_
   go_wp2
   simp only [only]
   gi_wp2
   exact ⟨(un HK).trans (KeepsOthers.drew _), rfl, pre, x, out, v, _, rfl, un Hrd, un Hx, un He, (un Hi2).drew⟩
  | some r =>
   obtain ⟨b, c⟩ := r
   rw [htl, Option.bind_some] at hx
   dsimp only at hx
   have H' := H_ (H.mono (R' := fun e w' => e = .returned (.tuple #[.int .i64 b, .int .i64 c, .nilIface]) /\ Below W.heap.size W w') (fun e w' ⟨hb, he⟩ => by
    rcases he with ⟨b', c', h1, h2⟩ | ⟨h1, _⟩
    ·rw [htl] at h1; cases h1; exact ⟨h2, hb⟩
    ·rw [htl] at h1; cases h1))
   obtain ⟨hb24, hc4⟩ := tl_bound k hnm hwt (x.g k.wd).data.toList (by rw [Array.length_toList]; exact hps.2) htl
   replace hc4 : c <= 4 := by omega
   have h24 : c * k.bt / 8 <= 3 := by have : c * k.bt <= 4 * 6 := Nat.mul_le_mul hc4 hbt; omega
   have Hlen : Hid ((unp b (c * k.bt / 8)).length <= 3) := by show _ <= _; simp [unp]; exact h24
   have Hin := H_ hin
   have Hrd := H_ hrd
   have hprl := hin.size
   have hpre : pre.length <= 2000 := by omega
   by_cases hcw : c < k.wd
   ·by_cases hlast : x.p + k.wd < s.size
    ·rw [if_pos ⟨hcw, by simp [hlast]⟩] at hx
     have Hx := H_ hx
     have gE := (g.below (Nat.le_refl _) hin.bel)
     have Hg := H_ gE
     have hcw' : (c : Int) < k.wd := by omega
     have hl' : (x.p : Int) + k.wd < s.size := by omega
     have hp2 : (x.p : Int) <= 2000 := by omega
     have hw2 : (k.wd : Int) <= 4 := by omega
     clear H hin hx hrd htl hN hSt hBs hBn hz hcW hps hxp g gE
     gi_wp2_with fail
     refine ⟨trivial, (CallsIn.inRound _ (callsIn_wide.2 (un H'))).mono ?_⟩
     rintro e w' ⟨rfl, hb⟩
     have hi1 := (un Hin).below hb
     have hi2 := hi1.setE .nilIface
     obtain ⟨d0, d1, d2, d3, d4, d5⟩ := hi1.cl
     obtain ⟨e0, e1, e2, e3, e4, e5⟩ := hi2.cl
     have f0 : (w'.setCell ⟨w.heap.size + 3, 0, none⟩ .nilIface).cell? ⟨B, 193, none⟩ = some (.int .i64 k.wd) := ((un Hc).below hlt hi2.bel).wi
     have Hi2 := H_ hi2
     have HK := H_ ((keepsO hb).trans (KeepsOthers.setCell w' ⟨w.heap.size + 3, 0, none⟩ .nilIface))
     have HT2 : Hid (Two (w.heap.size + 4) (w.heap.size + 5) W (w'.setCell ⟨w.heap.size + 3, 0, none⟩ .nilIface)) :=
      ⟨(Below.heap_setCell _ _ _ _ (by show w.heap.size + 4 ≠ w.heap.size + 3; omega)).trans (hb.block _ (by have := (un Hin).size; omega)), (Below.heap_setCell _ _ _ _ (by show w.heap.size + 5 ≠ w.heap.size + 3; omega)).trans (hb.block _ (by have := (un Hin).size; omega))⟩
     have g0 : (w'.setCell ⟨w.heap.size + 3, 0, none⟩ .nilIface).cell? ⟨14, 0, none⟩ = some (.iface 254 (.pointer (some a.e))) := ((un Hg0).below (Nat.le_refl _) hi2.bel).en
     clear hi1 hi2 hb c0 c1 c2 c3 c4 c5 d0 d1 d2
     gi_wp2
     refine regionIn_tail_n 20 hmx (by kernel_rfl) (by kernel_rfl) ?_
     simp only [List.take_succ_cons, List.take_zero, List.drop_succ_cons, List.drop_zero]
     refine wst_do (by kernel_rfl) (fun K hK => ?_)
     go_simp
     refine hK.out _ ?_
     clear hK K
     refine wst_do (by kernel_rfl) (fun K hK => ?_)
     go_simp
     refine hK.out _ ?_
     clear hK K
     refine wst_do (by kernel_rfl) (fun K hK => ?_)
     go_simp
     refine hK.out _ ?_
     clear hK K
     refine wst_do (by kernel_rfl) (fun K hK => ?_)
     go_simp
     refine hK.out _ ?_
     clear hK K
     refine wst_do (by kernel_rfl) (fun K hK => ?_)
     go_simp
     refine hK.out _ ?_
     clear hK K
     refine wst_do (by kernel_rfl) (fun K hK => ?_)
     go_simp
     refine hK.out _ ?_
     clear hK K
     refine wst_do (by kernel_rfl) (fun K hK => ?_)
     go_simp
     refine hK.out _ ?_
     clear hK K
     refine wst_do (by kernel_rfl) (fun K hK => ?_)
     go_simp
     refine hK.out _ ?_
     clear hK K
     refine wst_do (by kernel_rfl) (fun K hK => ?_)
     go_simp
     refine hK.out _ ?_
     clear hK K
     refine wst_do (by kernel_rfl) (fun K hK => ?_)
     go_simp
     refine hK.out _ ?_
     clear hK K
     refine wst_do (by kernel_rfl) (fun K hK => ?_)
     go_simp
     refine hK.out _ ?_
     clear hK K
     refine wst_do (by kernel_rfl) (fun K hK => ?_)
     go_simp
     refine hK.out _ ?_
     clear hK K
     refine wst_do (by kernel_rfl) (fun K hK => ?_)
     go_simp
     refine hK.out _ ?_
     clear hK K
     refine wst_do (by kernel_rfl) (fun K hK => ?_)
     go_simp
     refine hK.out _ ?_
     clear hK K
     refine wst_do (by kernel_rfl) (fun K hK => ?_)
     go_simp
     refine hK.out _ ?_
     clear hK K
     refine wst_do (by kernel_rfl) (fun K hK => ?_)
     go_simp
     refine hK.out _ ?_
     clear hK K
     refine wst_do (by kernel_rfl) (fun K hK => ?_)
     go_simp
     refine hK.out _ ?_
     clear hK K
     refine wst_do (by kernel_rfl) (fun K hK => ?_)
     go_simp
     refine hK.out _ ?_
     clear hK K
     refine wst_do (by kernel_rfl) (fun K hK => ?_)
     go_simp
     refine hK.out _ ?_
     clear hK K
     refine wst_do (by kernel_rfl) (fun K hK => ?_)
     go_simp
     refine hK.out _ ?_
     clear hK K
     refine wst_nil ?_
     go_wp2
     simp only [only]
     gi_wp2
     refine regionIn_tail_n 9 hmx (by kernel_rfl) (by kernel_rfl) ?_
     simp only [List.take_succ_cons, List.take_zero, List.drop_succ_cons, List.drop_zero]
     refine wst_do (by kernel_rfl) (fun K hK => ?_)
     go_simp
     refine hK.out _ ?_
     clear hK K
     refine wst_do (by kernel_rfl) (fun K hK => ?_)
     go_simp
     refine hK.out _ ?_
     clear hK K
     refine wst_do (by kernel_rfl) (fun K hK => ?_)
     go_simp
     refine hK.out _ ?_
     clear hK K
     refine wst_do (by kernel_rfl) (fun K hK => ?_)
     go_simp
     refine hK.out _ ?_
     clear hK K
     refine wst_do (by kernel_rfl) (fun K hK => ?_)
     go_simp
     refine hK.out _ ?_
     clear hK K
     refine wst_do (by kernel_rfl) (fun K hK => ?_)
     go_simp
     refine hK.out _ ?_
     clear hK K
     refine wst_do (by kernel_rfl) (fun K hK => ?_)
     go_simp
     refine hK.out _ ?_
     clear hK K
     refine wst_do (by kernel_rfl) (fun K hK => ?_)
     go_simp
     refine hK.out _ ?_
     clear hK K
     refine wst_do (by kernel_rfl) (fun K hK => ?_)
     go_simp
     refine hK.out _ ?_
     clear hK K
     refine wst_nil ?_
     go_wp2
     simp only [only]
     have hi3 := (un Hi2).drew.drew.setE (flt ((x.p : Int) + k.wd) a.e)
     obtain ⟨p0, p1, p2, p3, p4, p5⟩ := hi3.cl
     have Hi3 := H_ hi3
     clear hi3
     gi_wp2
     exact ⟨(((un HK).trans (KeepsOthers.drew _)).trans (KeepsOthers.drew _)).trans (KeepsOthers.setCell _ _ _), rfl, pre, x, out, v, _, rfl, un Hrd, un Hx, isErr_end _ _, un Hi3⟩
    ·rw [if_neg (fun h => by simp [hlast] at h)] at hx
     have Hx := H_ hx
     have hcw' : (c : Int) < k.wd := by omega
     have hl' : ¬ (x.p : Int) + k.wd < s.size := by omega
     have hp2 : (x.p : Int) <= 2000 := by omega
     have hw2 : (k.wd : Int) <= 4 := by omega
     clear H hin hx htl hN hSt hBs hBn hz hcW hps hxp g
     gi_wp2_with fail
     refine ⟨trivial, (CallsIn.inRound _ (callsIn_wide.2 (un H'))).mono ?_⟩
     rintro e w' ⟨rfl, hb⟩
     have hi1 := (un Hin).below hb
     have hi2 := hi1.setE .nilIface
     obtain ⟨d0, d1, d2, d3, d4, d5⟩ := hi1.cl
     obtain ⟨e0, e1, e2, e3, e4, e5⟩ := hi2.cl
     have f0 : (w'.setCell ⟨w.heap.size + 3, 0, none⟩ .nilIface).cell? ⟨B, 193, none⟩ = some (.int .i64 k.wd) := ((un Hc).below hlt hi2.bel).wi
     have Hi2 := H_ hi2
     have HK := H_ ((keepsO hb).trans (KeepsOthers.setCell w' ⟨w.heap.size + 3, 0, none⟩ .nilIface))
     have HT2 : Hid (Two (w.heap.size + 4) (w.heap.size + 5) W (w'.setCell ⟨w.heap.size + 3, 0, none⟩ .nilIface)) :=
      ⟨(Below.heap_setCell _ _ _ _ (by show w.heap.size + 4 ≠ w.heap.size + 3; omega)).trans (hb.block _ (by have := (un Hin).size; omega)), (Below.heap_setCell _ _ _ _ (by show w.heap.size + 5 ≠ w.heap.size + 3; omega)).trans (hb.block _ (by have := (un Hin).size; omega))⟩
     have HW := H_ (whole_any k B c k.bt (w'.setCell ⟨w.heap.size + 3, 0, none⟩ .nilIface).drew.drew ((un Hc).below hlt hi2.drew.drew.bel) rfl hbt hc4)
     have HU := H_ (unpack_any b (c * k.bt / 8) (w'.setCell ⟨w.heap.size + 3, 0, none⟩ .nilIface).drew.drew (w.heap.size + 6) v _ _ hb24 h24 hi2.drew.drew.own (by have := (un Hrd).1; omega) hi2.drew.drew.size)
     clear hi1 hi2 hb c0 c1 c2 c3 c4 c5 d0 d1 d2
     gi_wp2
     refine regionIn_tail_n 20 hmx (by kernel_rfl) (by kernel_rfl) ?_
     simp only [List.take_succ_cons, List.take_zero, List.drop_succ_cons, List.drop_zero]
     refine wst_do (by kernel_rfl) (fun K hK => ?_)
     go_simp
     refine hK.out _ ?_
     clear hK K
     refine wst_do (by kernel_rfl) (fun K hK => ?_)
     go_simp
     refine hK.out _ ?_
     clear hK K
     refine wst_do (by kernel_rfl) (fun K hK => ?_)
     go_simp
     refine hK.out _ ?_
     clear hK K
     refine wst_do (by kernel_rfl) (fun K hK => ?_)
     go_simp
     refine hK.out _ ?_
     clear hK K
     refine wst_do (by kernel_rfl) (fun K hK => ?_)
     go_simp
     refine hK.out _ ?_
     clear hK K
     refine wst_do (by kernel_rfl) (fun K hK => ?_)
     go_simp
     refine hK.out _ ?_
     clear hK K
     refine wst_do (by kernel_rfl) (fun K hK => ?_)
     go_simp
     refine hK.out _ ?_
     clear hK K
     refine wst_do (by kernel_rfl) (fun K hK => ?_)
     go_simp
     refine hK.out _ ?_
     clear hK K
     refine wst_do (by kernel_rfl) (fun K hK => ?_)
     go_simp
     refine hK.out _ ?_
     clear hK K
     refine wst_do (by kernel_rfl) (fun K hK => ?_)
     go_simp
     refine hK.out _ ?_
     clear hK K
     refine wst_do (by kernel_rfl) (fun K hK => ?_)
     go_simp
     refine hK.out _ ?_
     clear hK K
     refine wst_do (by kernel_rfl) (fun K hK => ?_)
     go_simp
     refine hK.out _ ?_
     clear hK K
     refine wst_do (by kernel_rfl) (fun K hK => ?_)
     go_simp
     refine hK.out _ ?_
     clear hK K
     refine wst_do (by kernel_rfl) (fun K hK => ?_)
     go_simp
     refine hK.out _ ?_
     clear hK K
     refine wst_do (by kernel_rfl) (fun K hK => ?_)
     go_simp
     refine hK.out _ ?_
     clear hK K
     refine wst_do (by kernel_rfl) (fun K hK => ?_)
     go_simp
     refine hK.out _ ?_
     clear hK K
     refine wst_do (by kernel_rfl) (fun K hK => ?_)
     go_simp
     refine hK.out _ ?_
     clear hK K
     refine wst_do (by kernel_rfl) (fun K hK => ?_)
     go_simp
     refine hK.out _ ?_
     clear hK K
     refine wst_do (by kernel_rfl) (fun K hK => ?_)
     go_simp
     refine hK.out _ ?_
     clear hK K
     refine wst_do (by kernel_rfl) (fun K hK => ?_)
     go_simp
     refine hK.out _ ?_
     clear hK K
     refine wst_nil ?_
     go_wp2
     simp only [only]
     gi_wp2
     refine regionIn_tail_n 5 hmx (by kernel_rfl) (by kernel_rfl) ?_
     simp only [List.take_succ_cons, List.take_zero, List.drop_succ_cons, List.drop_zero]
     refine wst_do (by kernel_rfl) (fun K hK => ?_)
     go_simp
     refine hK.out _ ?_
     clear hK K
     refine wst_do (by kernel_rfl) (fun K hK => ?_)
     go_simp
     refine hK.out _ ?_
     clear hK K
     refine wst_do (by kernel_rfl) (fun K hK => ?_)
     go_simp
     refine hK.out _ ?_
     clear hK K
     refine wst_do (by kernel_rfl) (fun K hK => ?_)
     go_simp
     refine hK.out _ ?_
     clear hK K
     refine wst_do (by kernel_rfl) (fun K hK => ?_)
     go_simp
     refine ⟨_, un HW, hK.out _ ?_⟩
     clear hK K
     refine wst_nil ?_
     go_wp2_with fail
     refine (un HU).mono ?_
     rintro e w2 ⟨v', rfl, hown, hbl⟩
     have hP := (un Hi2).drew.drew.put hbl hown
     obtain ⟨sa, sn, sc, rfl⟩ := own_slice hown
     have hz := (un Hi2).size
     have m1 := (hbl.1.cell (p := ⟨w.heap.size + 2, 0, none⟩) (by show w.heap.size + 2 < w.heap.size + 6; omega)).trans e2
     have m2 := (bel_frozen hbl.1 (a := ⟨w.heap.size + 2, 0, none⟩) (by show w.heap.size + 2 < w.heap.size + 6; omega)).trans e4
     have HP := H_ hP
     have HK2 := H_ (((((un HK).trans (KeepsOthers.drew _)).trans (KeepsOthers.drew _)).trans hbl.2).trans (KeepsOthers.setCell w2 ⟨w.heap.size + 2, 0, none⟩ (.slice sa sn sc)))
     have HT3 : Hid (Two (w.heap.size + 4) (w.heap.size + 5) W (w2.setCell ⟨w.heap.size + 2, 0, none⟩ (.slice sa sn sc))) :=
      (un HT2).trans ⟨(Below.heap_setCell _ _ _ _ (by show w.heap.size + 4 ≠ w.heap.size + 2; omega)).trans (hbl.1.block _ (by omega)), (Below.heap_setCell _ _ _ _ (by show w.heap.size + 5 ≠ w.heap.size + 2; omega)).trans (hbl.1.block _ (by omega))⟩
     clear hown hbl hP hz
     go_wp2
     simp only [only]
     gi_wp2
     exact ⟨un HK2, un HT3, _, _, (un Hrd).snoc (un Hx) (un Hlen), un HP⟩
   ·rw [if_neg (fun h => hcw h.1)] at hx
    have Hx := H_ hx
    have hcw' : ¬ (c : Int) < k.wd := by omega
    clear H hin hx htl hN hSt hBs hBn hz hcW hps hxp g
    gi_wp2_with fail
    refine ⟨trivial, (CallsIn.inRound _ (callsIn_wide.2 (un H'))).mono ?_⟩
    rintro e w' ⟨rfl, hb⟩
    have hi1 := (un Hin).below hb
    have hi2 := hi1.setE .nilIface
    obtain ⟨d0, d1, d2, d3, d4, d5⟩ := hi1.cl
    obtain ⟨e0, e1, e2, e3, e4, e5⟩ := hi2.cl
    have f0 : (w'.setCell ⟨w.heap.size + 3, 0, none⟩ .nilIface).cell? ⟨B, 193, none⟩ = some (.int .i64 k.wd) := ((un Hc).below hlt hi2.bel).wi
    have Hi2 := H_ hi2
    have HK := H_ ((keepsO hb).trans (KeepsOthers.setCell w' ⟨w.heap.size + 3, 0, none⟩ .nilIface))
    have HT2 : Hid (Two (w.heap.size + 4) (w.heap.size + 5) W (w'.setCell ⟨w.heap.size + 3, 0, none⟩ .nilIface)) :=
     ⟨(Below.heap_setCell _ _ _ _ (by show w.heap.size + 4 ≠ w.heap.size + 3; omega)).trans (hb.block _ (by have := (un Hin).size; omega)), (Below.heap_setCell _ _ _ _ (by show w.heap.size + 5 ≠ w.heap.size + 3; omega)).trans (hb.block _ (by have := (un Hin).size; omega))⟩
    have HW := H_ (whole_any k B c k.bt (w'.setCell ⟨w.heap.size + 3, 0, none⟩ .nilIface).drew.drew ((un Hc).below hlt hi2.drew.drew.bel) rfl hbt hc4)
    have HU := H_ (unpack_any b (c * k.bt / 8) (w'.setCell ⟨w.heap.size + 3, 0, none⟩ .nilIface).drew.drew (w.heap.size + 6) v _ _ hb24 h24 hi2.drew.drew.own (by have := (un Hrd).1; omega) hi2.drew.drew.size)
    clear hi1 hi2 hb c0 c1 c2 c3 c4 c5 d0 d1 d2
    gi_wp2
    refine regionIn_tail_n 20 hmx (by kernel_rfl) (by kernel_rfl) ?_
    simp only [List.take_succ_cons, List.take_zero, List.drop_succ_cons, List.drop_zero]
    refine wst_do (by kernel_rfl) (fun K hK => ?_)
    go_simp
    refine hK.out _ ?_
    clear hK K
    refine wst_do (by kernel_rfl) (fun K hK => ?_)
    go_simp
    refine hK.out _ ?_
    clear hK K
    refine wst_do (by kernel_rfl) (fun K hK => ?_)
    go_simp
    refine hK.out _ ?_
    clear hK K
    refine wst_do (by kernel_rfl) (fun K hK => ?_)
    go_simp
    refine hK.out _ ?_
    clear hK K
    refine wst_do (by kernel_rfl) (fun K hK => ?_)
    go_simp
    refine hK.out _ ?_
    clear hK K
    refine wst_do (by kernel_rfl) (fun K hK => ?_)
    go_simp
    refine hK.out _ ?_
    clear hK K
    refine wst_do (by kernel_rfl) (fun K hK => ?_)
    go_simp
    refine hK.out _ ?_
    clear hK K
    refine wst_do (by kernel_rfl) (fun K hK => ?_)
    go_simp
    refine hK.out _ ?_
    clear hK K
    refine wst_do (by kernel_rfl) (fun K hK => ?_)
    go_simp
    refine hK.out _ ?_
    clear hK K
    refine wst_do (by kernel_rfl) (fun K hK => ?_)
    go_simp
    refine hK.out _ ?_
    clear hK K
    refine wst_do (by kernel_rfl) (fun K hK => ?_)
    go_simp
    refine hK.out _ ?_
    clear hK K
    refine wst_skip (by kernel_rfl) ?_
    simp only [Act.put, nrm]
    refine wst_skip (by kernel_rfl) ?_
    simp only [Act.put, nrm]
    refine wst_skip (by kernel_rfl) ?_
    simp only [Act.put, nrm]
    refine wst_skip (by kernel_rfl) ?_
    simp only [Act.put, nrm]
    refine wst_skip (by kernel_rfl) ?_
    simp only [Act.put, nrm]
    refine wst_skip (by kernel_rfl) ?_
    simp only [Act.put, nrm]
    refine wst_skip (by kernel_rfl) ?_
    simp only [Act.put, nrm]
    refine wst_skip (by kernel_rfl) ?_
    simp only [Act.put, nrm]
    refine wst_skip (by kernel_rfl) ?_
    simp only [Act.put, nrm]
    refine wst_nil ?_
    go_wp2
    simp only [only]
    gi_wp2
    refine regionIn_tail_n 5 hmx (by kernel_rfl) (by kernel_rfl) ?_
    simp only [List.take_succ_cons, List.take_zero, List.drop_succ_cons, List.drop_zero]
    refine wst_do (by kernel_rfl) (fun K hK => ?_)
    go_simp
    refine hK.out _ ?_
    clear hK K
    refine wst_do (by kernel_rfl) (fun K hK => ?_)
    go_simp
    refine hK.out _ ?_
    clear hK K
    refine wst_do (by kernel_rfl) (fun K hK => ?_)
    go_simp
    refine hK.out _ ?_
    clear hK K
    refine wst_do (by kernel_rfl) (fun K hK => ?_)
    go_simp
    refine hK.out _ ?_
    clear hK K
    refine wst_do (by kernel_rfl) (fun K hK => ?_)
    go_simp
    refine ⟨_, un HW, hK.out _ ?_⟩
    clear hK K
    refine wst_nil ?_
    go_wp2_with fail
    refine (un HU).mono ?_
    rintro e w2 ⟨v', rfl, hown, hbl⟩
    have hP := (un Hi2).drew.drew.put hbl hown
    obtain ⟨sa, sn, sc, rfl⟩ := own_slice hown
    have hz := (un Hi2).size
    have m1 := (hbl.1.cell (p := ⟨w.heap.size + 2, 0, none⟩) (by show w.heap.size + 2 < w.heap.size + 6; omega)).trans e2
    have m2 := (bel_frozen hbl.1 (a := ⟨w.heap.size + 2, 0, none⟩) (by show w.heap.size + 2 < w.heap.size + 6; omega)).trans e4
    have HP := H_ hP
    have HK2 := H_ (((((un HK).trans (KeepsOthers.drew _)).trans (KeepsOthers.drew _)).trans hbl.2).trans (KeepsOthers.setCell w2 ⟨w.heap.size + 2, 0, none⟩ (.slice sa sn sc)))
    have HT3 : Hid (Two (w.heap.size + 4) (w.heap.size + 5) W (w2.setCell ⟨w.heap.size + 2, 0, none⟩ (.slice sa sn sc))) :=
     (un HT2).trans ⟨(Below.heap_setCell _ _ _ _ (by show w.heap.size + 4 ≠ w.heap.size + 2; omega)).trans (hbl.1.block _ (by omega)), (Below.heap_setCell _ _ _ _ (by show w.heap.size + 5 ≠ w.heap.size + 2; omega)).trans (hbl.1.block _ (by omega))⟩
    clear hown hbl hP hz
    go_wp2
    simp only [only]
    gi_wp2
    exact ⟨un HK2, un HT3, _, _, (un Hrd).snoc (un Hx) (un Hlen), un HP⟩
 case done =>
  rintro D ys W hD rfl ⟨out, v, hrd, hin⟩ hK
  obtain ⟨c0, c1, c2, c3, c4, c5⟩ := hin.cl
  have hcv := conv_row hin.own rfl
  have HK := H_ hK
  have Hin := H_ hin
  have Hr : Hid (rds k (all s k.wd) = some out) := by
   have := hrd.2 []
   rw [List.append_nil] at this
   show _ = _
   rw [this]
   simp [rds]
  clear hK hin hrd hSt hBs hBn
  go_wp2
  refine finR (v := .string ⟨out.toArray⟩) (u := .nilIface) (un HK) (by omega) (un Hin).bel rfl rfl fun V' hb => ⟨hb, .inl ⟨out, un Hr, rfl⟩⟩
 case stop =>
  rintro D cd pre W hD hpre ⟨rfl, l, x, out, v, err, rfl, hrd, hx, he, hin⟩ hK
  obtain ⟨xv, rfl⟩ := he.form
  refine wpIn_exit ?_
  obtain ⟨c0, c1, c2, c3, c4, c5⟩ := hin.cl
  have Hr : Hid (rds k (all s k.wd) = none) := by
   obtain ⟨t, ht⟩ := hpre
   show _ = _
   rw [<- ht]
   exact hrd.fail hx t
  have HK := H_ hK
  have Hin := H_ hin
  have He := H_ he
  clear hK hin hrd hx hpre hSt hBs hBn he
  go_wp2
  refine region_tail_n 2 hmx (by kernel_rfl) ?_
  simp only [List.take_succ_cons, List.take_zero, List.drop_succ_cons, List.drop_zero]
  refine wst_do (by kernel_rfl) (fun K hK => ?_)
  go_simp
  refine hK.out _ ?_
  clear hK K
  refine wst_do (by kernel_rfl) (fun K hK => ?_)
  go_simp
  refine hK.out _ ?_
  clear hK K
  refine wst_nil ?_
  go_wp2
  simp only [only]
  go_wp2
  refine finR (v := .string ⟨#[]⟩) (u := .iface 248 xv) (un HK) (by omega) (un Hin).bel.drew rfl rfl fun V' hb => ⟨hb, .inr ⟨un Hr, _, rfl, un He⟩⟩
end Go.Proofs.YtjhnblgamodekaaGreatDoor.C
/-
 What code.Base, Unbase, Hex and Unhex answer, at every text of at most two thousand bytes. Conditions: the package-level variables hold what the program's text lays ('Glob').
-/
namespace Go.Proofs.YtjhnblgamodekaaGreatDoor.C
open Go Go.RowKit Cd
theorem piece_list {s : ByteArray} (n : Nat) (x : Pc s) : (x.g n).data.toList = (s.data.toList.drop x.p).take n := by
 have hp := x.hp
 show ((s.extract x.p (min (x.p + n) s.size)).data).toList = _
 rw [ByteArray.data_extract, Array.toList_extract, List.extract_eq_take_drop]
 have hl : (s.data.toList.drop x.p).length = s.size - x.p := by rw [List.length_drop, Array.length_toList]; rfl
 by_cases h : x.p + n <= s.size
 ·rw [Nat.min_eq_left h, Nat.add_sub_cancel_left]
 ·rw [Nat.min_eq_right (by omega), List.take_of_length_le (by omega), List.take_of_length_le (by omega)]
theorem drop_ne {s : ByteArray} {p : Nat} : s.data.toList.drop p = [] ↔ ¬ p < s.size := by
 rw [List.drop_eq_nil_iff, Array.length_toList]
 show s.size <= p ↔ _
 omega
theorem al_chs (s : ByteArray) (n : Nat) : ∀ f p, (al s n f p).map (fun x => (x.g n).data.toList) = chs n f (s.data.toList.drop p)
 | 0, _ => rfl
 | f + 1, p => by
  rw [al, chs]
  by_cases h : p < s.size
  ·rw [dif_pos h, if_neg (fun e => (drop_ne.1 e) h), List.map_cons, piece_list, al_chs s n f (p + n), List.drop_drop]
  ·rw [dif_neg h, if_pos (drop_ne.2 h), List.map_nil]
theorem prt_enc (k : Kd) (s : ByteArray) : prt k (all s k.bs) = enc k s.data.toList := by
 have h := al_chs s k.bs s.size 0
 rw [List.drop_zero] at h
 have e : enc k s.data.toList = (chs k.bs s.size s.data.toList).flatMap (gr k) := rfl
 rw [e, <- h, List.flatMap_map]
 rfl
theorem rds_dcs (k : Kd) (hk : 1 <= k.wd) (s : ByteArray) : ∀ f p, s.size <= p + f -> rds k (al s k.wd f p) = dcs k (chs k.wd f (s.data.toList.drop p))
 | 0, _, _ => rfl
 | f + 1, p, hf => by
  rw [al, chs]
  by_cases h : p < s.size
  ·rw [dif_pos h, if_neg (fun e => (drop_ne.1 e) h), rds, dcs, rds_dcs k hk s f (p + k.wd) (by omega), List.drop_drop]
   have hl : (chs k.wd f (s.data.toList.drop (p + k.wd))).isEmpty = !decide (p + k.wd < s.size) := by
    by_cases h2 : p + k.wd < s.size
    ·rw [decide_eq_true h2]
     obtain ⟨f', rfl⟩ : ∃ f', f = f' + 1 := ⟨f - 1, by omega⟩
     rw [chs, if_neg (fun e => (drop_ne.1 e) h2)]
     rfl
    ·rw [decide_eq_false h2, drop_ne.2 h2, chs_nil]
     rfl
   unfold one
   rw [hl, piece_list]
  ·rw [dif_neg h, if_pos (drop_ne.2 h)]
   rfl
theorem rds_dec (k : Kd) (hk : 1 <= k.wd) (s : ByteArray) : rds k (all s k.wd) = dec k s.data.toList := by
 unfold all dec
 rw [rds_dcs k hk s s.size 0 (by omega), List.drop_zero]
 rfl
def und (k : Kd) (s : ByteArray) : ByteArray × Int := match dec k s.data.toList with
 | some t => (⟨t.toArray⟩, 0)
 | none => (⟨#[]⟩, 50)
theorem answer_any (k : Kd) (B : Nat) (s : ByteArray) (a : Ad) (w : World) (g : Glob a w) (hk : 1 <= k.wd) (H : Calls Tryz.prog 174 #[.pointer (some ⟨B, 0, none⟩), .string s] w (ReadPost k s a w)) :
  Calls Tryz.prog 170 #[.pointer (some ⟨B, 0, none⟩), .string s] w fun e w' => e = .returned (.tuple #[.string (und k s).1, .int .i64 (und k s).2]) /\ Below w.heap.size w w' := by
 unfold ReadPost at H
 rw [rds_dec k hk s] at H
 unfold und
 cases hd : dec k s.data.toList with
 | none =>
  rw [hd] at H
  have H' := H_ (H.mono (R' := fun e w' => ∃ xv, e = .returned (.tuple #[.string ⟨#[]⟩, .iface 248 xv]) /\ IsErr a (.iface 248 xv) /\ Below w.heap.size w w') (fun e w' ⟨hb, he⟩ => by
   rcases he with ⟨t, h1, _⟩ | ⟨_, v1, h2, h3⟩
   ·cases h1
   ·obtain ⟨xv, rfl⟩ := h3.form
    exact ⟨xv, h2, h3, hb⟩))
  have Hg := H_ g
  clear H g hd
  go_enter Tryz.func170, Tryz.ntmps170
  go_wp2_with fail
  refine (un H').mono ?_
  rintro e w1 ⟨xv, rfl, he, hb⟩
  have H2 := H_ (errnoOf_any _ a w1 ((un Hg).below (Nat.le_refl _) hb) he)
  have HB := H_ hb
  clear he hb
  go_wp2_with fail
  refine (un H2).mono ?_
  rintro e w2 ⟨rfl, hb⟩
  have HB2 := H_ hb
  clear hb
  go_wp2
  go_ret2
  exact ⟨rfl, (un HB).trans ((un HB2).mono (un HB).size)⟩
 | some t =>
  rw [hd] at H
  have H' := H_ (H.mono (R' := fun e w' => e = .returned (.tuple #[.string ⟨t.toArray⟩, .nilIface]) /\ Below w.heap.size w w') (fun e w' ⟨hb, he⟩ => by
   rcases he with ⟨t', h1, h2⟩ | ⟨h1, _⟩
   ·cases h1; exact ⟨h2, hb⟩
   ·cases h1))
  dsimp only
  generalize (⟨t.toArray⟩ : ByteArray) = u at *
  clear H g hd
  go_enter Tryz.func170, Tryz.ntmps170
  go_wp2_with fail
  refine (un H').mono ?_
  rintro e w1 ⟨rfl, hb⟩
  have HB := H_ hb
  clear hb
  go_wp2
  go_ret2
  exact ⟨rfl, un HB⟩
def pri (k : Kd) (s : ByteArray) : ByteArray := ⟨(enc k s.data.toList).toArray⟩
theorem hex_any (s : ByteArray) (w : World) (hs : s.size <= 2000) :
  Calls Tryz.prog 91 #[.string s] w fun e w' => e = .returned (.string (pri kH s)) /\ Below w.heap.size w w' := by
 have H := H_ (hexCoder_any w)
 go_enter Tryz.func91, Tryz.ntmps91
 go_wp2_with fail
 refine (un H).mono ?_
 rintro e w1 ⟨rfl, hc, hb⟩
 have HP := H_ (print_any kH adds_H w.heap.size s w1 (codH hc) hs (by decide) (by decide) (by decide) (by decide))
 have HB := H_ hb
 clear hc hb
 go_wp2_with fail
 refine (un HP).mono ?_
 rintro e w2 ⟨rfl, hb⟩
 rw [prt_enc]
 have HB2 := H_ hb
 clear hb
 go_wp2
 go_ret
 exact ⟨rfl, (un HB).trans ((un HB2).mono (un HB).size)⟩
theorem unhex_any (s : ByteArray) (a : Ad) (w : World) (g : Glob a w) (hs : s.size <= 2000) :
  Calls Tryz.prog 167 #[.string s] w fun e w' => e = .returned (.tuple #[.string (und kH s).1, .int .i64 (und kH s).2]) /\ Below w.heap.size w w' := by
 have H := H_ (hexCoder_any w)
 have Hg := H_ g
 clear g
 go_enter Tryz.func167, Tryz.ntmps167
 go_wp2_with fail
 refine (un H).mono ?_
 rintro e w1 ⟨rfl, hc, hb⟩
 have gw := (un Hg).below (Nat.le_refl _) hb
 have HP := H_ (answer_any kH w.heap.size s a w1 gw (by decide) (read_any kH tolds_H w.heap.size s a w1 gw (codH hc) hs (by decide) (by decide) (by decide) (by decide) (fun x m h => (nh_ok x m h).1)))
 have HB := H_ hb
 clear hc hb gw
 go_wp2_with fail
 refine (un HP).mono ?_
 rintro e w2 ⟨rfl, hb⟩
 have HB2 := H_ hb
 clear hb
 go_wp2
 go_ret2
 exact ⟨rfl, (un HB).trans ((un HB2).mono (un HB).size)⟩
end Go.Proofs.YtjhnblgamodekaaGreatDoor.C
