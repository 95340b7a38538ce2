/- Several texts in one: CPrint, Round, CRead, CDoor. Each says what it proves, and its conditions. -/
import Derived.Test.YtmenllnokgjdlaaGreatDoorCTold
import Derived.Deep.Light
import Derived.StillTailTactics
import Derived.Test.YtmenllnokgjdlaaGreatDoorCLaws
set_option maxHeartbeats 2000000
set_option maxRecDepth 100000
/-
 What code.coder.print answers: a text's signs. Conditions: none.
-/
namespace Go.Proofs.YtmenllnokgjdlaaGreatDoor.C
open Go Go.RowKit Go.Shelf Cd
attribute [local go_sem] Oper.semAt_some
theorem conv_nil (w : World) : (convert 152 9 (.slice none 0 0)).run Tryz.prog w = .ok (.string ⟨#[]⟩) w := by kernel_rfl
theorem nums_str (l : List UInt8) : strOfNums (l.map fun x => (x.toNat : Int)) = ⟨l.toArray⟩ := by
 unfold strOfNums
 congr 1
 simp [List.map_map]
 conv => rhs; rw [<- List.map_id l]
 exact List.map_congr_left fun x _ => by simp
theorem conv_row {w : World} {base k : Nat} {sl : Value} {l : List UInt8} (ho : w.ownsRow base 5 1 sl k (cells l)) (hk : l.length = k) :
  (convert 152 9 sl).run Tryz.prog w = .ok (.string ⟨l.toArray⟩) w := by
 rcases ho.2 with ⟨rfl, h0⟩ | ⟨g, cap, cur, rfl, hg, hc, h1, h2, h3, h4⟩
 ·have : l = [] := List.length_eq_zero_iff.1 (by omega)
  subst this
  exact conv_nil w
 ·rw [<- nums_str]
  refine run_convert_bytes_arg w _ _ Tryz.underlying152 Tryz.underlying5 g 0 k cap (l.map fun x => (x.toNat : Int)) (by simpa using hk) (fun i hi => ?_) _ Tryz.underlying9
  have hi' : i < l.length := by omega
  have := ho.cells (g := g) rfl i (.int .u8 (l[i].toNat : Int)) (by simp [cells, List.getElem?_eq_getElem hi'])
  rw [Addr.add_lit] at this
  rw [this]
  simp [List.getD_eq_getElem?_getD, List.getElem?_eq_getElem hi']
def prt (k : Kd) {s : ByteArray} (l : List (Pc s)) : List UInt8 := l.flatMap fun x => gr k (x.g k.bs).data.toList
theorem prt_snoc (k : Kd) {s : ByteArray} (l : List (Pc s)) (x : Pc s) : prt k (l ++ [x]) = prt k l ++ gr k (x.g k.bs).data.toList := by simp [prt]
theorem gr_length (k : Kd) (g : List UInt8) : (gr k g).length = k.wd := by simp [gr]
theorem prt_length (k : Kd) {s : ByteArray} (l : List (Pc s)) : (prt k l).length = k.wd * l.length := by
 induction l with
 | nil => rfl
 | cons x l ih =>
  have : prt k (x :: l) = gr k (x.g k.bs).data.toList ++ prt k l := rfl
  rw [this, List.length_append, gr_length, ih, List.length_cons, Nat.mul_succ]
  omega
structure Pin (k : Kd) (B : Nat) (s : ByteArray) (w : World) (out : List UInt8) (v : Value) (W : World) : Prop where
 bx : W.heap[w.heap.size]? = some (.cells #[.pointer (some ⟨B, 0, none⟩)] 249)
 bv : W.heap[w.heap.size + 1]? = some (.cells #[v] 152)
 own : W.ownsRow (w.heap.size + 4) 5 1 v out.length (cells out)
 bel : Below w.heap.size w W
 size : w.heap.size + 4 <= W.heap.size
theorem Pin.grown {k : Kd} {B : Nat} {s : ByteArray} {w W W' : World} {out : List UInt8} {v : Value} {row : Option Nat} (h : Pin k B s w out v W) (hg : W.grownBy W' row) (hr : ∀ r, row = some r -> w.heap.size + 4 <= r /\ ∃ o, W.heap[r]? = some o /\ o.isCells = false) : Pin k B s w out v W' := by
 have hz := h.size
 have hk : ∀ k, k < w.heap.size + 4 -> W'.heap[k]? = W.heap[k]? := fun k hk => hg.block k (by omega) (fun e => by have := (hr k e.symm).1; omega)
 refine ⟨(hk _ (by omega)).trans h.bx, (hk _ (by omega)).trans h.bv, h.own.kept hg ?_, ⟨hg.os.trans h.bel.os, hg.tape.trans h.bel.tape, hg.output.trans h.bel.output, Nat.le_trans h.bel.size hg.size, fun k hk' => (hk k (by omega)).trans (h.bel.block k hk')⟩, Nat.le_trans hz hg.size⟩
 rcases h.own.2 with ⟨rfl, _⟩ | ⟨g, cap, cur, rfl, _, hgb, _⟩
 ·exact .inl rfl
 ·refine .inr fun e' => ?_
  obtain ⟨_, o, ho, hc⟩ := hr g (by simpa [Value.ownBlock] using e'.symm)
  rw [hgb] at ho; cases ho; cases hc
theorem Pin.cl {k : Kd} {B : Nat} {s : ByteArray} {w W : World} {out : List UInt8} {v : Value} (h : Pin k B s w out v W) : W.cell? ⟨w.heap.size, 0, none⟩ = some (.pointer (some ⟨B, 0, none⟩)) /\ W.cell? ⟨w.heap.size + 1, 0, none⟩ = some v /\ W.frozen? ⟨w.heap.size + 1, 0, none⟩ = false := by
 have h1 := h.bx
 have h2 := h.bv
 simp [World.cell?, World.frozen?, h1, h2]
theorem Pin.put {k : Kd} {B : Nat} {s : ByteArray} {w W W' : World} {out more : List UInt8} {v v' : Value} (h : Pin k B s w out v W) (hb : Bel (w.heap.size + 4) W W') (ho : W'.ownsRow (w.heap.size + 4) 5 1 v' (out ++ more).length (cells (out ++ more))) :
  Pin k B s w (out ++ more) v' (W'.setCell ⟨w.heap.size + 1, 0, none⟩ v') := by
 have hz := h.size
 have hk : ∀ k, k < w.heap.size + 4 -> W'.heap[k]? = W.heap[k]? := fun k hk => hb.1.block k hk
 refine ⟨(Below.heap_setCell _ _ _ _ (by show w.heap.size ≠ w.heap.size + 1; omega)).trans ((hk _ (by omega)).trans h.bx), heap_setCell_same W' _ 0 _ _ _ ((hk _ (by omega)).trans h.bv), ?_, (h.bel.trans (hb.1.mono (by omega))).setCell (by show w.heap.size <= w.heap.size + 1; omega) _, by simp; have := hb.1.size; omega⟩
 exact ownsRow_setCell_below ho (by show w.heap.size + 1 < w.heap.size + 4; omega) _
theorem own_form {w : World} {base n : Nat} {v : Value} {xs : List Value} (h : w.ownsRow base 5 1 v n xs) (hn : 0 < n) : ∃ g cap, v = .slice (some ⟨g, 0, none⟩) n cap := by
 rcases h.2 with ⟨_, h0⟩ | ⟨g, cap, _, rfl, _⟩
 ·omega
 ·exact ⟨g, cap, rfl⟩
theorem bel_frozen {B : Nat} {w w' : World} (h : Below B w w') {a : Addr} (ha : a.block < B) : w'.frozen? a = w.frozen? a := by
 simp [World.frozen?, h.block _ ha]
theorem piece_size {s : ByteArray} {n : Nat} (x : Pc s) (hn : 1 <= n) : 1 <= (x.g n).size /\ (x.g n).size <= n := by
 have := x.hp
 rw [ByteArray.size_extract]
 omega
def PPost (k : Kd) (s : ByteArray) (w : World) (e : Ending) (w' : World) : Prop := e = .returned (.string ⟨(prt k (all s k.bs)).toArray⟩) /\ Below w.heap.size w w'
theorem finP {w V : World} {D : Nat} {tmps : Array Value} {v : Value} {R : Ending -> World -> Prop} (hV : V.heap[D]? = some (.deferred (some []))) (hD : w.heap.size <= D) (hb : Below w.heap.size w V) (t4 : tmps.getD 4 undef = v)
  (hp : ∀ V', Below w.heap.size w V' -> R (.returned v) V') :
  bodyPostM Fence.wide 3 Tryz.prog Tryz.f169 R Exit.ret { tmps, defers := [{ target := .collected D, args := #[] }] } V := by
 refine ⟨by simp, .inl ⟨_, _, rfl, run_takeDeferred hV, ?_⟩⟩
 refine ⟨v, ?_, hp _ (putObj_below hb hD)⟩
 subst t4
 simp [results, Tryz.results169, go_sem]
def Adds (k : Kd) : Prop := ∀ (B : Nat) (s : ByteArray) (w : World) (base : Nat) (v : Value) (m : Nat) (xs : List Value), 1 <= s.size -> s.size <= k.bs -> Cod k w B -> B < base -> w.ownsRow base 5 1 v m xs -> m <= 100000 -> base <= w.heap.size ->
  Calls Tryz.prog 186 #[.pointer (some ⟨B, 0, none⟩), v, .string s] w (AddPost k s.data.toList base m xs w)
theorem adds_H : Adds kH := addH
theorem print_any (k : Kd) (hA : Adds k) (B : Nat) (s : ByteArray) (w : World) (hc : Cod k w B) (hs : s.size <= 2000) (hk : 1 <= k.bs) (hk4 : k.bs <= 4) (hw1 : 1 <= k.wd) (hw4 : k.wd <= 4) :
  Calls Tryz.prog 169 #[.pointer (some ⟨B, 0, none⟩), .string s] w (PPost k s w) := by
 have hby := hc.by'
 have hlt := hc.lt
 refine (callsIn_wide (n := 3)).1 ?_
 refine callsIn_of_wp_marks Tryz.func169 rfl trivial ?_ rfl
 simp only [Tryz.ntmps169, List.size_toArray, List.length_cons, List.length_nil, Nat.reduceAdd, Nat.reduceSub, Array.replicate_succ, Array.replicate_zero, List.push_toArray, List.append_toArray, List.nil_append, List.cons_append]
 refine wpIn_wide.2 ?_
 have hby2 : ((w.alloc (.cells #[.pointer (some ⟨B, 0, none⟩)] 249)).alloc (.cells #[.slice none 0 0] 152)).cell? ⟨B, 192, none⟩ = some (.int .i64 k.bs) := by
  rw [World.cell?_alloc_lt _ _ _ (by simp; omega), World.cell?_alloc_lt _ _ _ hlt]; exact hby
 have Hc := H_ hc
 clear hby hc
 go_wp2_with fail
 refine (groups_any s k.bs _).mono ?_
 rintro e w' ⟨rfl, rfl⟩
 go_wp2
 obtain ⟨W0, hW0⟩ : ∃ W0, W0 = (((w.alloc (.cells #[.pointer (some ⟨B, 0, none⟩)] 249)).alloc (.cells #[.slice none 0 0] 152)).alloc (.cells #[.string s] 9)).alloc (.cells #[.int .i64 k.bs] 3) := ⟨_, rfl⟩
 have hz : W0.heap.size = w.heap.size + 4 := by rw [hW0]; simp
 have hSt : Pin k B s w [] (.slice none 0 0) W0 := by
  rw [hW0]
  refine ⟨?_, ?_, World.ownsRow_nil _ _ _ _, ?_, by simp⟩
  ·rw [Below.heap_alloc _ _ _ (by simp <;> omega), Below.heap_alloc _ _ _ (by simp <;> omega), Below.heap_alloc _ _ _ (by simp)]; exact World.alloc_heap_new _ _
  ·rw [Below.heap_alloc _ _ _ (by simp <;> omega), Below.heap_alloc _ _ _ (by simp)]; have := World.alloc_heap_new (w.alloc (.cells #[.pointer (some ⟨B, 0, none⟩)] 249)) (.cells #[.slice none 0 0] 152); rwa [World.size_alloc] at this
  ·repeat (refine Below.alloc ?_ (by simp <;> omega) _)
   exact Below.refl _ _
 have hBs : W0.cell? ⟨w.heap.size + 2, 0, none⟩ = some (.string s) := by
  rw [hW0, World.cell?_alloc_lt _ _ _ (by simp), World.cell?_alloc_at _ _ _ _ (by simp)]
  rfl
 have hBn : W0.cell? ⟨w.heap.size + 3, 0, none⟩ = some (.int .i64 k.bs) := by
  rw [hW0, World.cell?_alloc_at _ _ _ _ (by simp)]
  rfl
 rw [<- hW0]
 clear hW0 hby2
 refine (wpIn_wide (n := 3)).1 ?_
 refine wpIn_rangeFunc_ownF rfl (by omega) (gf := 202) (lb := #[.pointer (some ⟨w.heap.size + 2, 0, none⟩), .pointer (some ⟨w.heap.size + 3, 0, none⟩)]) rfl trivial (enters_of Tryz.func202 (by kernel_rfl) rfl)
  (groups1_stops (3 - 1) (by omega) (w.heap.size + 2) (w.heap.size + 3) k.bs s W0 hk hk4 hs hBs hBn) Two.trans (fun W l o o' hl h1 h2 h3 => Two.book (w := W0) (by omega) (by omega) W l o o' hl h1 h2 h3) (Below.refl _ _) (fun _ => rfl)
  (fun pre W => ∃ v, Pin k B s w (prt k pre) v W) (fun _ _ _ => False)
  (fun pre A B' row hs hg hr => by
   obtain ⟨v, h⟩ := hs
   exact ⟨v, h.grown hg (fun r e => ⟨by have := (hr r e).1; omega, (hr r e).2⟩)⟩)
  (fun _ _ _ _ _ hs _ _ => hs.elim)
  ⟨_, hSt⟩
  (fun x => { tmps := #[.pointer (some ⟨B, 0, none⟩), .string s, .pointer (some ⟨w.heap.size, 0, none⟩), undef, .string ⟨#[]⟩, .pointer (some ⟨w.heap.size + 1, 0, none⟩), undef, .string (x.g k.bs), .string s, .pointer (some ⟨B, 0, none⟩), .pointer (some ⟨B, 0, none⟩), .pointer (some ⟨B, 192, none⟩), .int .i64 k.bs, .func (.func 202) #[] #[.pointer (some ⟨w.heap.size + 2, 0, none⟩), .pointer (some ⟨w.heap.size + 3, 0, none⟩)], .int .i64 x.p, .string (x.g k.bs), undef, undef, undef, undef, undef, undef], defers := [] }) ?assign ?body ?done ?stop
 case assign =>
  intro l x W K hK
  gi_wp2
  exact hK
 case body =>
  rintro l pre x W ⟨v, hv⟩ hN
  go_light
  obtain ⟨c0, c1, c2⟩ := hv.cl
  have hcW := (un Hc).below hlt hv.bel
  have hps := piece_size x hk
  have hlen := prt_length k pre
  have H := hA B (x.g k.bs) W (w.heap.size + 4) v _ _ (by omega) (by omega) hcW (by omega) hv.own (by rw [hlen]; have : k.wd * pre.length <= 4 * 2000 := Nat.mul_le_mul hw4 (by omega); omega) hv.size
  have Hv := H_ hv
  have HA := H_ H
  clear hv H hN hSt hBs hBn hz hlen hcW hps
  gi_wp2_with fail
  refine ⟨trivial, (CallsIn.inRound _ (callsIn_wide.2 (un HA))).mono ?_⟩
  rintro e w' ⟨v', rfl, hown, hbl⟩
  have hP := (un Hv).put (more := gr k (x.g k.bs).data.toList) hbl (by rw [List.length_append, gr_length, cells_append]; exact hown)
  rw [<- prt_snoc] at hP
  obtain ⟨g', cap', rfl⟩ := own_form hown (by omega)
  have hz := (un Hv).size
  have d1 := (hbl.1.cell (p := ⟨w.heap.size + 1, 0, none⟩) (by show w.heap.size + 1 < w.heap.size + 4; omega)).trans c1
  have d2 := (bel_frozen hbl.1 (a := ⟨w.heap.size + 1, 0, none⟩) (by show w.heap.size + 1 < w.heap.size + 4; omega)).trans c2
  have HP := H_ hP
  have HK := H_ (hbl.2.trans (KeepsOthers.setCell w' ⟨w.heap.size + 1, 0, none⟩ (.slice (some ⟨g', 0, none⟩) ((prt k pre).length + k.wd) cap')))
  have HT : Hid (Two (w.heap.size + 2) (w.heap.size + 3) W (w'.setCell ⟨w.heap.size + 1, 0, none⟩ (.slice (some ⟨g', 0, none⟩) ((prt k pre).length + k.wd) cap'))) :=
   ⟨(Below.heap_setCell _ _ _ _ (by show w.heap.size + 2 ≠ w.heap.size + 1; omega)).trans (hbl.1.block _ (by omega)), (Below.heap_setCell _ _ _ _ (by show w.heap.size + 3 ≠ w.heap.size + 1; omega)).trans (hbl.1.block _ (by omega))⟩
  clear hown hbl hP
  gi_wp2
  exact ⟨un HK, un HT, _, un HP⟩
 case done =>
  rintro D ys W hD rfl ⟨v, hv⟩ hK
  obtain ⟨c0, c1, c2⟩ := hv.cl
  have hcv := conv_row hv.own rfl
  have HK := H_ hK
  have Hv := H_ hv
  clear hK hv hSt hBs hBn
  go_wp2
  refine finP (un HK) (by omega) (un Hv).bel rfl fun V' hb => ⟨rfl, hb⟩
 case stop =>
  rintro D cd pre W hD hpre h hK
  exact h.elim
end Go.Proofs.YtmenllnokgjdlaaGreatDoor.C
/-
 A region that draws its order, inside a round of a range over a function, at the fence that asks nothing: what the plain laws give. Conditions: the region defers nothing.
-/
namespace Go.Proofs.YtmenllnokgjdlaaGreatDoor
open Go
section
variable {P : Program} {ops : Array Oper} {Q : Exit -> Act -> World -> Prop} {lp m : Nat}
theorem operIn_round {o : Oper} {a : Act} {w : World} {K : Act -> World -> Prop} (hd : ∀ c, o.op ≠ .defer c) (h : o.wp P a w K Q) : o.wpIn (Fence.wide.inRound lp) m P a w K Q := by
 unfold Oper.wpIn
 refine ⟨fun _ _ => trivial, ?_⟩
 rw [Oper.semAt_eq _ _ _ hd]
 unfold Oper.wp at h
 generalize (execOp a.eval o).run P w = r at *
 cases r with
 | ok x w' =>
  cases x with
  | value v => exact h
  | skip => exact h
  | defer d => exact h
  | enter f args => exact ⟨(fun e => by cases e), CallsIn.inRound lp (callsIn_wide.2 h)⟩
  | row r args =>
   refine ⟨(fun e => by cases e), fun c cs _ => ?_⟩
   obtain ⟨v, w1, hr, s⟩ := h c cs
   exact ⟨v, w1, hr, stepsIn_wide.2 s⟩
  | _ => exact h.elim
 | halt x w' =>
  cases x with
  | panic v => exact h
  | _ => exact h.elim
theorem opsIn_round (hd : ∀ (i : Nat) (o : Oper), ops[i]? = some o -> ∀ c, o.op ≠ .defer c) (hL : ¬ LetsOut Q) : ∀ (is : List Nat) (a : Act) (w : World), wpOps P ops Q is a w -> wpOpsIn (Fence.wide.inRound lp) m P ops Q is a w
 | [], _, _, h => h
 | i :: rest, a, w, h => by
  simp only [wpOps, wpOpsIn] at h ⊢
  cases ho : ops[i]? with
  | none => rw [ho] at h; exact opsIn_round hd hL rest a w h
  | some o =>
   rw [ho] at h
   simp only at h ⊢
   split
   ·rename_i hw
    rw [if_pos hw] at h
    rcases h with h | h
    ·exact Oper.wpIn_mono (fun a w h => opsIn_round hd hL rest a w h) (operIn_round (hd i o ho) h)
    ·exact absurd h.2 hL
   ·rename_i hw
    rw [if_neg hw] at h
    exact ⟨fun _ _ => trivial, opsIn_round hd hL rest _ w h⟩
theorem regionIn_round {id : Nat} {a : Act} {w : World} (hm : P.follows .mixedOrders = true) (hd : ∀ (i : Nat) (o : Oper), ops[i]? = some o -> ∀ c, o.op ≠ .defer c) (hL : ¬ LetsOut Q)
  (h : wpAny P .any ops Q ops.size (Array.replicate ops.size false) a w.drew) : (Code.region id ops true).wpIn (Fence.wide.inRound lp) m P Q a w :=
 wpIn_region_draw fun t => by
  simp only [Region.schedule, hm, Bool.true_or, if_true]
  exact opsIn_round hd hL _ a _ (wpAny_sound ops.size t _ a _ h)
def noDefer (l : List Oper) : Bool := l.all fun o => match o.op with | .defer _ => false | _ => true
theorem noDefer_spec {l : List Oper} (h : noDefer l = true) (i : Nat) (o : Oper) (ho : l.toArray[i]? = some o) (c : Call) : o.op ≠ .defer c := by
 intro e
 have hm : o ∈ l := List.mem_of_getElem? (by simpa using ho)
 have := List.all_eq_true.1 h o hm
 rw [e] at this
 cases this
theorem regionIn_tail {id : Nat} {a : Act} {w : World} {l : List Oper} (k : Nat) (hm : P.follows .mixedOrders = true) (hB : Region.lexTailB .any l.toArray k = true) (hd : noDefer l = true) (hL : ¬ LetsOut Q)
  (h : wpStill P l.toArray w.drew (fun a' => wpList P l.toArray Q (l.drop k) a' w.drew) (l.take k) a) : (Code.region id l.toArray true).wpIn (Fence.wide.inRound lp) m P Q a w := by
 refine regionIn_round hm (fun i o ho c => noDefer_spec hd i o ho c) hL ?_
 simp only [Region.lexTailB, Bool.and_eq_true, decide_eq_true_eq] at hB
 obtain ⟨⟨⟨⟨h1, h2⟩, h3⟩, h4⟩, h5⟩ := hB
 have hk : k < l.length := by simpa using h2
 have e1 : (l.take k).length = k := by simp; omega
 have e2 : (l.drop k).length = l.toArray.size - k := by simp
 have inv : HeadInv .any l.toArray k (Array.replicate l.toArray.size false) :=
  ⟨by simp, (fun j oj _ hl => by rw [getD_replicate_false] at hl; cases hl), fun t _ ht => getD_in (by simpa using ht) (getD_replicate_false _ _)⟩
 have H := wpAnyL_lex (md := .any) (g := l.toArray.size - k) h1 h3 h4 h2 (l.take k) 0 _ a
  (fun j hj => by rw [e1] at hj; simp [hj]) (by simpa using e1) inv (by rw [e1]; exact h5) h
 have R := wpAny_of_head (Q' := Q) (g := l.toArray.size - k) (fun listed a' hq => by
  have := wpAny_of_seq (md := .any) (Q' := Q) (l.drop k) k listed a' w.drew (fun j => by simp [List.getElem?_drop]) (by rw [e2]; exact hq.1) hq.2
  rwa [e2] at this) _ _ _ H
 rw [e1, show k + (l.toArray.size - k) = l.toArray.size by omega] at R
 exact R
end
end Go.Proofs.YtmenllnokgjdlaaGreatDoor
/-
 What code.coder.read answers: the text that has some signs. Conditions: the package-level variables hold what the program's text lays ('Glob').
-/
namespace Go.Proofs.YtmenllnokgjdlaaGreatDoor.C
open Go Go.RowKit Go.Shelf Cd
attribute [local go_sem] Oper.semAt_some
def only (Q : Exit -> Act -> World -> Prop) : Exit -> Act -> World -> Prop
 | .normal, a, w => Q .normal a w
 | _, _, _ => False
def one (k : Kd) {s : ByteArray} (x : Pc s) : Option (List UInt8) := stp k (!decide (x.p + k.wd < s.size)) (x.g k.wd).data.toList
theorem own_below {w w' : World} {b n : Nat} {v : Value} {xs : List Value} (h : w.ownsRow b 5 1 v n xs) (hb : Below w.heap.size w w') : w'.ownsRow b 5 1 v n xs :=
 h.kept (row := none) ⟨hb.os, hb.tape, hb.output, hb.size, fun k hk _ => hb.block k hk⟩ (by cases hv : v.ownBlock with | none => exact .inl rfl | some r => exact .inr (by simp))
theorem keepsO {W W' : World} (h : Below W.heap.size W W') : KeepsOthers W W' := ⟨h.size, fun k _ hk _ => (h.block k (Array.getElem?_eq_some_iff.1 hk).1).trans hk⟩
end Go.Proofs.YtmenllnokgjdlaaGreatDoor.C
/-
 What code.Base, Unbase, Hex and Unhex answer, at every text of at most two thousand bytes. Conditions: the package-level variables hold what the program's text lays ('Glob').
-/
namespace Go.Proofs.YtmenllnokgjdlaaGreatDoor.C
open Go Go.RowKit Cd
theorem piece_list {s : ByteArray} (n : Nat) (x : Pc s) : (x.g n).data.toList = (s.data.toList.drop x.p).take n := by
 have hp := x.hp
 show ((s.extract x.p (min (x.p + n) s.size)).data).toList = _
 rw [ByteArray.data_extract, Array.toList_extract, List.extract_eq_take_drop]
 have hl : (s.data.toList.drop x.p).length = s.size - x.p := by rw [List.length_drop, Array.length_toList]; rfl
 by_cases h : x.p + n <= s.size
 ·rw [Nat.min_eq_left h, Nat.add_sub_cancel_left]
 ·rw [Nat.min_eq_right (by omega), List.take_of_length_le (by omega), List.take_of_length_le (by omega)]
theorem drop_ne {s : ByteArray} {p : Nat} : s.data.toList.drop p = [] ↔ ¬ p < s.size := by
 rw [List.drop_eq_nil_iff, Array.length_toList]
 show s.size <= p ↔ _
 omega
theorem al_chs (s : ByteArray) (n : Nat) : ∀ f p, (al s n f p).map (fun x => (x.g n).data.toList) = chs n f (s.data.toList.drop p)
 | 0, _ => rfl
 | f + 1, p => by
  rw [al, chs]
  by_cases h : p < s.size
  ·rw [dif_pos h, if_neg (fun e => (drop_ne.1 e) h), List.map_cons, piece_list, al_chs s n f (p + n), List.drop_drop]
  ·rw [dif_neg h, if_pos (drop_ne.2 h), List.map_nil]
theorem prt_enc (k : Kd) (s : ByteArray) : prt k (all s k.bs) = enc k s.data.toList := by
 have h := al_chs s k.bs s.size 0
 rw [List.drop_zero] at h
 have e : enc k s.data.toList = (chs k.bs s.size s.data.toList).flatMap (gr k) := rfl
 rw [e, <- h, List.flatMap_map]
 rfl
def und (k : Kd) (s : ByteArray) : ByteArray × Int := match dec k s.data.toList with
 | some t => (⟨t.toArray⟩, 0)
 | none => (⟨#[]⟩, 50)
def pri (k : Kd) (s : ByteArray) : ByteArray := ⟨(enc k s.data.toList).toArray⟩
theorem hex_any (s : ByteArray) (w : World) (hs : s.size <= 2000) :
  Calls Tryz.prog 144 #[.string s] w fun e w' => e = .returned (.string (pri kH s)) /\ Below w.heap.size w w' := by
 have H := H_ (hexCoder_any w)
 go_enter Tryz.func144, Tryz.ntmps144
 go_wp2_with fail
 refine (un H).mono ?_
 rintro e w1 ⟨rfl, hc, hb⟩
 have HP := H_ (print_any kH adds_H w.heap.size s w1 (codH hc) hs (by decide) (by decide) (by decide) (by decide))
 have HB := H_ hb
 clear hc hb
 go_wp2_with fail
 refine (un HP).mono ?_
 rintro e w2 ⟨rfl, hb⟩
 rw [prt_enc]
 have HB2 := H_ hb
 clear hb
 go_wp2
 go_ret
 exact ⟨rfl, (un HB).trans ((un HB2).mono (un HB).size)⟩
end Go.Proofs.YtmenllnokgjdlaaGreatDoor.C
