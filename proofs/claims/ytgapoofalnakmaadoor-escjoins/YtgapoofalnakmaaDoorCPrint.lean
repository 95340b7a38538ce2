/-
  What code.coder.print answers: a text's signs. Conditions: none.
-/
import Derived.Test.YtgapoofalnakmaaDoorCIter
import Derived.Test.YtgapoofalnakmaaDoorCTold
import Derived.RangeFuncBox
import Derived.Deep.Light
namespace Go.Proofs.YtgapoofalnakmaaDoor.C
open Go Go.RowKit Go.Shelf Cd
attribute [local go_sem] Oper.semAt_some

theorem conv_nil (w : World) : (convert 44 9 (.slice none 0 0)).run Tryd.prog w = .ok (.string ⟨#[]⟩) w := by kernel_rfl
theorem nums_str (l : List UInt8) : strOfNums (l.map fun x => (x.toNat : Int)) = ⟨l.toArray⟩ := by
  unfold strOfNums
  congr 1
  simp [List.map_map]
  conv => rhs; rw [← List.map_id l]
  exact List.map_congr_left fun x _ => by simp
theorem conv_row {w : World} {base k : Nat} {sl : Value} {l : List UInt8} (ho : w.ownsRow base 5 1 sl k (cells l)) (hk : l.length = k) :
    (convert 44 9 sl).run Tryd.prog w = .ok (.string ⟨l.toArray⟩) w := by
  rcases ho.2 with ⟨rfl, h0⟩ | ⟨g, cap, cur, rfl, hg, hc, h1, h2, h3, h4⟩
  · have : l = [] := List.length_eq_zero_iff.1 (by omega)
    subst this
    exact conv_nil w
  · rw [← nums_str]
    refine run_convert_bytes_arg w _ _ Tryd.underlying44 Tryd.underlying5 g 0 k cap (l.map fun x => (x.toNat : Int)) (by simpa using hk) (fun i hi => ?_) _ Tryd.underlying9
    have hi' : i < l.length := by omega
    have := ho.cells (g := g) rfl i (.int .u8 (l[i].toNat : Int)) (by simp [cells, List.getElem?_eq_getElem hi'])
    rw [Addr.add_lit] at this
    rw [this]
    simp [List.getD_eq_getElem?_getD, List.getElem?_eq_getElem hi']

/-- what is printed of pieces. -/
def prt (k : Kd) {s : ByteArray} (l : List (Pc s)) : List UInt8 := l.flatMap fun x => gr k (x.g k.bs).data.toList
theorem prt_snoc (k : Kd) {s : ByteArray} (l : List (Pc s)) (x : Pc s) : prt k (l ++ [x]) = prt k l ++ gr k (x.g k.bs).data.toList := by simp [prt]
theorem gr_length (k : Kd) (g : List UInt8) : (gr k g).length = k.wd := by simp [gr]
theorem prt_length (k : Kd) {s : ByteArray} (l : List (Pc s)) : (prt k l).length = k.wd * l.length := by
  induction l with
  | nil => rfl
  | cons x l ih =>
    have : prt k (x :: l) = gr k (x.g k.bs).data.toList ++ prt k l := rfl
    rw [this, List.length_append, gr_length, ih, List.length_cons, Nat.mul_succ]
    omega

/-- what lies in memory while the pieces are gone through: the coder's place, the signs, the iterator's two boxes. -/
structure Pin (k : Kd) (B : Nat) (s : ByteArray) (w : World) (out : List UInt8) (v : Value) (W : World) : Prop where
  bx : W.heap[w.heap.size]? = some (.cells #[.pointer (some ⟨B, 0, none⟩)] 65)
  bv : W.heap[w.heap.size + 1]? = some (.cells #[v] 44)
  own : W.ownsRow (w.heap.size + 4) 5 1 v out.length (cells out)
  bel : Below w.heap.size w W
  size : w.heap.size + 4 ≤ W.heap.size
theorem Pin.grown {k : Kd} {B : Nat} {s : ByteArray} {w W W' : World} {out : List UInt8} {v : Value} {row : Option Nat} (h : Pin k B s w out v W) (hg : W.grownBy W' row) (hr : ∀ r, row = some r → w.heap.size + 4 ≤ r ∧ ∃ o, W.heap[r]? = some o ∧ o.isCells = false) : Pin k B s w out v W' := by
  have hz := h.size
  have hk : ∀ k, k < w.heap.size + 4 → W'.heap[k]? = W.heap[k]? := fun k hk => hg.block k (by omega) (fun e => by have := (hr k e.symm).1; omega)
  refine ⟨(hk _ (by omega)).trans h.bx, (hk _ (by omega)).trans h.bv, h.own.kept hg ?_, ⟨hg.os.trans h.bel.os, hg.tape.trans h.bel.tape, hg.output.trans h.bel.output, Nat.le_trans h.bel.size hg.size, fun k hk' => (hk k (by omega)).trans (h.bel.block k hk')⟩, Nat.le_trans hz hg.size⟩
  rcases h.own.2 with ⟨rfl, _⟩ | ⟨g, cap, cur, rfl, _, hgb, _⟩
  · exact .inl rfl
  · refine .inr fun e' => ?_
    obtain ⟨_, o, ho, hc⟩ := hr g (by simpa [Value.ownBlock] using e'.symm)
    rw [hgb] at ho; cases ho; cases hc
theorem Pin.cl {k : Kd} {B : Nat} {s : ByteArray} {w W : World} {out : List UInt8} {v : Value} (h : Pin k B s w out v W) : W.cell? ⟨w.heap.size, 0, none⟩ = some (.pointer (some ⟨B, 0, none⟩)) ∧ W.cell? ⟨w.heap.size + 1, 0, none⟩ = some v ∧ W.frozen? ⟨w.heap.size + 1, 0, none⟩ = false := by
  have h1 := h.bx
  have h2 := h.bv
  simp [World.cell?, World.frozen?, h1, h2]
/-- the signs grow. -/
theorem Pin.put {k : Kd} {B : Nat} {s : ByteArray} {w W W' : World} {out more : List UInt8} {v v' : Value} (h : Pin k B s w out v W) (hb : Bel (w.heap.size + 4) W W') (ho : W'.ownsRow (w.heap.size + 4) 5 1 v' (out ++ more).length (cells (out ++ more))) :
    Pin k B s w (out ++ more) v' (W'.setCell ⟨w.heap.size + 1, 0, none⟩ v') := by
  have hz := h.size
  have hk : ∀ k, k < w.heap.size + 4 → W'.heap[k]? = W.heap[k]? := fun k hk => hb.1.block k hk
  refine ⟨(Below.heap_setCell _ _ _ _ (by show w.heap.size ≠ w.heap.size + 1; omega)).trans ((hk _ (by omega)).trans h.bx), heap_setCell_same W' _ 0 _ _ _ ((hk _ (by omega)).trans h.bv), ?_, (h.bel.trans (hb.1.mono (by omega))).setCell (by show w.heap.size ≤ w.heap.size + 1; omega) _, by simp; have := hb.1.size; omega⟩
  exact ownsRow_setCell_below ho (by show w.heap.size + 1 < w.heap.size + 4; omega) _

theorem own_form {w : World} {base n : Nat} {v : Value} {xs : List Value} (h : w.ownsRow base 5 1 v n xs) (hn : 0 < n) : ∃ g cap, v = .slice (some ⟨g, 0, none⟩) n cap := by
  rcases h.2 with ⟨_, h0⟩ | ⟨g, cap, _, rfl, _⟩
  · omega
  · exact ⟨g, cap, rfl⟩
theorem bel_frozen {B : Nat} {w w' : World} (h : Below B w w') {a : Addr} (ha : a.block < B) : w'.frozen? a = w.frozen? a := by
  simp [World.frozen?, h.block _ ha]
theorem piece_size {s : ByteArray} {n : Nat} (x : Pc s) (hn : 1 ≤ n) : 1 ≤ (x.g n).size ∧ (x.g n).size ≤ n := by
  have := x.hp
  rw [ByteArray.size_extract]
  omega
def PPost (k : Kd) (s : ByteArray) (w : World) (e : Ending) (w' : World) : Prop := e = .returned (.string ⟨(prt k (all s k.bs)).toArray⟩) ∧ Below w.heap.size w w'
theorem finP {w V : World} {D : Nat} {tmps : Array Value} {v : Value} {R : Ending → World → Prop} (hV : V.heap[D]? = some (.deferred (some []))) (hD : w.heap.size ≤ D) (hb : Below w.heap.size w V) (t4 : tmps.getD 4 undef = v)
    (hp : ∀ V', Below w.heap.size w V' → R (.returned v) V') :
    bodyPostM Fence.wide 3 Tryd.prog Tryd.f46 R Exit.ret { tmps, defers := [{ target := .collected D, args := #[] }] } V := by
  refine ⟨by simp, .inl ⟨_, _, rfl, run_takeDeferred hV, ?_⟩⟩
  refine ⟨v, ?_, hp _ (putObj_below hb hD)⟩
  subst t4
  simp [results, Tryd.results46, go_sem]
/-- what add does, at any kind. -/
def Adds (k : Kd) : Prop := ∀ (B : Nat) (s : ByteArray) (w : World) (base : Nat) (v : Value) (m : Nat) (xs : List Value), 1 ≤ s.size → s.size ≤ k.bs → Cod k w B → B < base → w.ownsRow base 5 1 v m xs → m ≤ 100000 → base ≤ w.heap.size →
    Calls Tryd.prog 59 #[.pointer (some ⟨B, 0, none⟩), v, .string s] w (AddPost k s.data.toList base m xs w)
theorem adds_B : Adds kB := addB
theorem adds_H : Adds kH := addH

set_option maxRecDepth 100000 in
set_option maxHeartbeats 2000000 in
theorem print_any (k : Kd) (hA : Adds k) (B : Nat) (s : ByteArray) (w : World) (hc : Cod k w B) (hs : s.size ≤ 2000) (hk : 1 ≤ k.bs) (hk4 : k.bs ≤ 4) (hw1 : 1 ≤ k.wd) (hw4 : k.wd ≤ 4) :
    Calls Tryd.prog 46 #[.pointer (some ⟨B, 0, none⟩), .string s] w (PPost k s w) := by
  have hby := hc.by'
  have hlt := hc.lt
  refine (callsIn_wide (n := 3)).1 ?_
  refine callsIn_of_wp_marks Tryd.func46 rfl trivial ?_ rfl
  simp only [Tryd.ntmps46, List.size_toArray, List.length_cons, List.length_nil, Nat.reduceAdd, Nat.reduceSub, Array.replicate_succ, Array.replicate_zero, List.push_toArray, List.append_toArray, List.nil_append, List.cons_append]
  refine wpIn_wide.2 ?_
  have hby2 : ((w.alloc (.cells #[.pointer (some ⟨B, 0, none⟩)] 65)).alloc (.cells #[.slice none 0 0] 44)).cell? ⟨B, 192, none⟩ = some (.int .i64 k.bs) := by
    rw [World.cell?_alloc_lt _ _ _ (by simp; omega), World.cell?_alloc_lt _ _ _ hlt]; exact hby
  have Hc := hide hc
  clear hby hc
  go_wp2_with fail
  refine (groups_any s k.bs _).mono ?_
  rintro e w' ⟨rfl, rfl⟩
  go_wp2
  obtain ⟨W0, hW0⟩ : ∃ W0, W0 = (((w.alloc (.cells #[.pointer (some ⟨B, 0, none⟩)] 65)).alloc (.cells #[.slice none 0 0] 44)).alloc (.cells #[.string s] 9)).alloc (.cells #[.int .i64 k.bs] 3) := ⟨_, rfl⟩
  have hz : W0.heap.size = w.heap.size + 4 := by rw [hW0]; simp
  have hSt : Pin k B s w [] (.slice none 0 0) W0 := by
    rw [hW0]
    refine ⟨?_, ?_, World.ownsRow_nil _ _ _ _, ?_, by simp⟩
    · rw [Below.heap_alloc _ _ _ (by simp <;> omega), Below.heap_alloc _ _ _ (by simp <;> omega), Below.heap_alloc _ _ _ (by simp)]; exact World.alloc_heap_new _ _
    · rw [Below.heap_alloc _ _ _ (by simp <;> omega), Below.heap_alloc _ _ _ (by simp)]; have := World.alloc_heap_new (w.alloc (.cells #[.pointer (some ⟨B, 0, none⟩)] 65)) (.cells #[.slice none 0 0] 44); rwa [World.size_alloc] at this
    · repeat (refine Below.alloc ?_ (by simp <;> omega) _)
      exact Below.refl _ _
  have hBs : W0.cell? ⟨w.heap.size + 2, 0, none⟩ = some (.string s) := by
    rw [hW0, World.cell?_alloc_lt _ _ _ (by simp), World.cell?_alloc_at _ _ _ _ (by simp)]
    rfl
  have hBn : W0.cell? ⟨w.heap.size + 3, 0, none⟩ = some (.int .i64 k.bs) := by
    rw [hW0, World.cell?_alloc_at _ _ _ _ (by simp)]
    rfl
  rw [← hW0]
  clear hW0 hby2
  refine (wpIn_wide (n := 3)).1 ?_
  refine wpIn_rangeFunc_ownF rfl (by omega) (gf := 67) (lb := #[.pointer (some ⟨w.heap.size + 2, 0, none⟩), .pointer (some ⟨w.heap.size + 3, 0, none⟩)]) rfl trivial (enters_of Tryd.func67 (by kernel_rfl) rfl)
    (groups1_stops (3 - 1) (by omega) (w.heap.size + 2) (w.heap.size + 3) k.bs s W0 hk hk4 hs hBs hBn) Two.trans (fun W l o o' hl h1 h2 h3 => Two.book (w := W0) (by omega) (by omega) W l o o' hl h1 h2 h3) (Below.refl _ _) (fun _ => rfl)
    (fun pre W => ∃ v, Pin k B s w (prt k pre) v W) (fun _ _ _ => False)
    (fun pre A B' row hs hg hr => by
      obtain ⟨v, h⟩ := hs
      exact ⟨v, h.grown hg (fun r e => ⟨by have := (hr r e).1; omega, (hr r e).2⟩)⟩)
    (fun _ _ _ _ _ hs _ _ => hs.elim)
    ⟨_, hSt⟩
    (fun x => { tmps := #[.pointer (some ⟨B, 0, none⟩), .string s, .pointer (some ⟨w.heap.size, 0, none⟩), undef, .string ⟨#[]⟩, .pointer (some ⟨w.heap.size + 1, 0, none⟩), undef, .string (x.g k.bs), .string s, .pointer (some ⟨B, 0, none⟩), .pointer (some ⟨B, 0, none⟩), .pointer (some ⟨B, 192, none⟩), .int .i64 k.bs, .func (.func 67) #[] #[.pointer (some ⟨w.heap.size + 2, 0, none⟩), .pointer (some ⟨w.heap.size + 3, 0, none⟩)], .int .i64 x.p, .string (x.g k.bs), undef, undef, undef, undef, undef, undef], defers := [] }) ?assign ?body ?done ?stop
  case assign =>
    intro l x W K hK
    gi_wp2
    exact hK
  case body =>
    rintro l pre x W ⟨v, hv⟩ hN
    go_light
    obtain ⟨c0, c1, c2⟩ := hv.cl
    have hcW := (unhide Hc).below hlt hv.bel
    have hps := piece_size x hk
    have hlen := prt_length k pre
    have H := hA B (x.g k.bs) W (w.heap.size + 4) v _ _ (by omega) (by omega) hcW (by omega) hv.own (by rw [hlen]; have : k.wd * pre.length ≤ 4 * 2000 := Nat.mul_le_mul hw4 (by omega); omega) hv.size
    have Hv := hide hv
    have HA := hide H
    clear hv H hN hSt hBs hBn hz hlen hcW hps
    gi_wp2_with fail
    refine ⟨trivial, (CallsIn.inRound _ (callsIn_wide.2 (unhide HA))).mono ?_⟩
    rintro e w' ⟨v', rfl, hown, hbl⟩
    have hP := (unhide Hv).put (more := gr k (x.g k.bs).data.toList) hbl (by rw [List.length_append, gr_length, cells_append]; exact hown)
    rw [← prt_snoc] at hP
    obtain ⟨g', cap', rfl⟩ := own_form hown (by omega)
    have hz := (unhide Hv).size
    have d1 := (hbl.1.cell (p := ⟨w.heap.size + 1, 0, none⟩) (by show w.heap.size + 1 < w.heap.size + 4; omega)).trans c1
    have d2 := (bel_frozen hbl.1 (a := ⟨w.heap.size + 1, 0, none⟩) (by show w.heap.size + 1 < w.heap.size + 4; omega)).trans c2
    have HP := hide hP
    have HK := hide (hbl.2.trans (KeepsOthers.setCell w' ⟨w.heap.size + 1, 0, none⟩ (.slice (some ⟨g', 0, none⟩) ((prt k pre).length + k.wd) cap')))
    have HT : Hid (Two (w.heap.size + 2) (w.heap.size + 3) W (w'.setCell ⟨w.heap.size + 1, 0, none⟩ (.slice (some ⟨g', 0, none⟩) ((prt k pre).length + k.wd) cap'))) :=
      ⟨(Below.heap_setCell _ _ _ _ (by show w.heap.size + 2 ≠ w.heap.size + 1; omega)).trans (hbl.1.block _ (by omega)), (Below.heap_setCell _ _ _ _ (by show w.heap.size + 3 ≠ w.heap.size + 1; omega)).trans (hbl.1.block _ (by omega))⟩
    clear hown hbl hP
    gi_wp2
    exact ⟨unhide HK, unhide HT, _, unhide HP⟩
  case done =>
    rintro D ys W hD rfl ⟨v, hv⟩ hK
    obtain ⟨c0, c1, c2⟩ := hv.cl
    have hcv := conv_row hv.own rfl
    have HK := hide hK
    have Hv := hide hv
    clear hK hv hSt hBs hBn
    go_wp2
    refine finP (unhide HK) (by omega) (unhide Hv).bel rfl fun V' hb => ⟨rfl, hb⟩
  case stop =>
    rintro D cd pre W hD hpre h hK
    exact h.elim
end Go.Proofs.YtgapoofalnakmaaDoor.C
