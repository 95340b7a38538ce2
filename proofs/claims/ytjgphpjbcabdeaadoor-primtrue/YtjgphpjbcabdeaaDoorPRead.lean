/-
  What prim.read answers at every text. Conditions: none.
-/
import Derived.Test.YtjgphpjbcabdeaaDoorPIter
import Derived.Test.YtjgphpjbcabdeaaDoorPAdd
import Derived.Deep.RegionHeld
import Derived.Deep.RegionWith
import Derived.Deep.QuietTactic
import Derived.Scope
import Derived.Deep.Light
import Derived.Laws.Rows
import Derived.Laws.ResultCell
namespace Go.Proofs.YtjgphpjbcabdeaaDoor.P
open Go.RowKit Go.Shelf
attribute [local go_sem] Oper.semAt_some

theorem hide {p : Prop} (h : p) : Hid p := h
theorem unhide {p : Prop} (h : Hid p) : p := h

theorem bytesOf_any (s : ByteArray) (w : World) :
    Calls Tryd.prog 28 #[.string s] w fun e w' => e = .returned (.func (.func 37) #[] #[.pointer (some ⟨w.heap.size, 0, none⟩)]) ∧
      w' = w.alloc (.cells #[.string s] 9) := by
  go_enter Tryd.func28, Tryd.ntmps28
  go_wp2
  go_ret
  exact ⟨rfl, rfl⟩

/-- what the loop keeps: the answer's box, the number, what is wrong. -/
structure St (c n : Int) (err : Value) (w W : World) : Prop where
  r : W.heap[w.heap.size]? = some (.cells #[.int .i64 0, .int .i64 0] 39 (0, 0))
  v : W.heap[w.heap.size + 1]? = some (.cells #[.int .i64 c, .int .i64 n] 39 (0, 0))
  e : W.heap[w.heap.size + 1 + 1]? = some (.cells #[err] 41 (0, 0))
  bel : Below w.heap.size w W
  size : w.heap.size + 4 ≤ W.heap.size

theorem St.grown {c n : Int} {err : Value} {w W W' : World} {row : Option Nat} (h : St c n err w W) (hg : W.grownBy W' row) (hr : ∀ r, row = some r → w.heap.size + 4 ≤ r) : St c n err w W' := by
  have hsz := h.size
  have e : ∀ x, x < w.heap.size + 4 → W'.heap[x]? = W.heap[x]? := fun x hx => hg.block x (by omega) (fun e => by have := hr x e.symm; omega)
  exact ⟨(e _ (by omega)).trans h.r, (e _ (by omega)).trans h.v, (e _ (by omega)).trans h.e, ⟨hg.os.trans h.bel.os, hg.tape.trans h.bel.tape, hg.output.trans h.bel.output, Nat.le_trans h.bel.size hg.size, fun x hx => (e x (by omega)).trans (h.bel.block x hx)⟩, Nat.le_trans h.size hg.size⟩
theorem St.below {c n : Int} {err : Value} {w W W' : World} (h : St c n err w W) (hb : Below W.heap.size W W') : St c n err w W' := by
  have hsz := h.size
  exact ⟨(hb.block _ (by omega)).trans h.r, (hb.block _ (by omega)).trans h.v, (hb.block _ (by omega)).trans h.e, h.bel.trans (hb.mono (by omega)), Nat.le_trans h.size hb.size⟩
theorem St.cells {c n : Int} {err : Value} {w W : World} (h : St c n err w W) : (W.cell? ⟨w.heap.size + 1, 0, none⟩ = some (.int .i64 c) ∧ W.cell? ⟨w.heap.size + 1, 1, none⟩ = some (.int .i64 n) ∧ W.cell? ⟨w.heap.size + 1 + 1, 0, none⟩ = some err) ∧
    (W.cell? ⟨w.heap.size, 0, none⟩ = some (.int .i64 0) ∧ W.cell? ⟨w.heap.size, 1, none⟩ = some (.int .i64 0)) ∧
    W.frozen? ⟨w.heap.size + 1, 0, none⟩ = false ∧ W.frozen? ⟨w.heap.size + 1, 1, none⟩ = false ∧ W.frozen? ⟨w.heap.size + 1 + 1, 0, none⟩ = false ∧ W.frozen? ⟨w.heap.size, 0, none⟩ = false ∧ W.frozen? ⟨w.heap.size, 1, none⟩ = false := by
  obtain ⟨r, v, e, _, _⟩ := h
  refine ⟨⟨?_, ?_, ?_⟩, ⟨?_, ?_⟩, ?_, ?_, ?_, ?_, ?_⟩ <;> simp [World.cell?, World.frozen?, r, v, e]
theorem size_set (W : World) (a : Addr) (v : Value) : (W.setCell a v).heap.size = W.heap.size := by simp [World.setCell]
theorem al1 (w : World) (o1 o2 o3 o4 : Obj) : ((((w.alloc o1).alloc o2).alloc o3).alloc o4).heap[w.heap.size]? = some o1 := by
  rw [Below.heap_alloc _ _ _ (by simp <;> omega), Below.heap_alloc _ _ _ (by simp <;> omega), Below.heap_alloc _ _ _ (by simp)]; exact World.alloc_heap_new _ _
theorem al2 (w : World) (o1 o2 o3 o4 : Obj) : ((((w.alloc o1).alloc o2).alloc o3).alloc o4).heap[w.heap.size + 1]? = some o2 := by
  rw [Below.heap_alloc _ _ _ (by simp <;> omega), Below.heap_alloc _ _ _ (by simp <;> omega)]; have := World.alloc_heap_new (w.alloc o1) o2; rwa [World.size_alloc] at this
theorem al3 (w : World) (o1 o2 o3 o4 : Obj) : ((((w.alloc o1).alloc o2).alloc o3).alloc o4).heap[w.heap.size + 1 + 1]? = some o3 := by
  rw [Below.heap_alloc _ _ _ (by simp <;> omega)]; have := World.alloc_heap_new ((w.alloc o1).alloc o2) o3; rwa [World.size_alloc, World.size_alloc] at this
theorem setBel {B b o : Nat} {v : Value} {w W : World} (h : Below B w W) (hb : B ≤ b) : Below B w (W.setCell ⟨b, o, none⟩ v) := h.setCell hb _
theorem St.setV1 {c n : Int} {err : Value} {w W : World} (h : St c n err w W) (m : Int) : St c m err w (W.setCell ⟨w.heap.size + 1, 1, none⟩ (.int .i64 m)) :=
  ⟨(Below.heap_setCell _ _ _ _ (by show w.heap.size ≠ w.heap.size + 1; omega)).trans h.r, heap_setCell_same W _ 1 _ _ _ h.v, (Below.heap_setCell _ _ _ _ (by show w.heap.size + 1 + 1 ≠ w.heap.size + 1; omega)).trans h.e, setBel h.bel (by omega), by rw [size_set]; exact h.size⟩
theorem St.setV0 {c n : Int} {err : Value} {w W : World} (h : St c n err w W) (m : Int) : St m n err w (W.setCell ⟨w.heap.size + 1, 0, none⟩ (.int .i64 m)) :=
  ⟨(Below.heap_setCell _ _ _ _ (by show w.heap.size ≠ w.heap.size + 1; omega)).trans h.r, heap_setCell_same W _ 0 _ _ _ h.v, (Below.heap_setCell _ _ _ _ (by show w.heap.size + 1 + 1 ≠ w.heap.size + 1; omega)).trans h.e, setBel h.bel (by omega), by rw [size_set]; exact h.size⟩
theorem St.setE {c n : Int} {err : Value} {w W : World} (h : St c n err w W) (m : Value) : St c n m w (W.setCell ⟨w.heap.size + 1 + 1, 0, none⟩ m) :=
  ⟨(Below.heap_setCell _ _ _ _ (by show w.heap.size ≠ w.heap.size + 1 + 1; omega)).trans h.r, (Below.heap_setCell _ _ _ _ (by show w.heap.size + 1 ≠ w.heap.size + 1 + 1; omega)).trans h.v, heap_setCell_same W _ 0 _ _ _ h.e, setBel h.bel (by omega), by rw [size_set]; exact h.size⟩

theorem far {n i : Nat} : n + 1 + 1 + 1 ≠ (⟨n + 1, i, none⟩ : Addr).block := by show n + 1 + 1 + 1 ≠ n + 1; omega

/-- what read leaves. -/
def ReadPost (s : ByteArray) (w : World) (e : Ending) (w' : World) : Prop := Below w.heap.size w w' ∧
      (if (Pr.dec s.data.toList).2 = 0 then ∃ c, e = .returned (.tuple #[.agg #[.int .i64 c, .int .i64 (Pr.dec s.data.toList).1], .nilIface]) else ∃ k t, e = .returned (.tuple #[.agg #[.int .i64 0, .int .i64 0], bad k t]))

theorem fin (s : ByteArray) (w : World) (D : Nat) (V : World) (tmps : Array Value) (a b : Int) (e : Value) (hV : V.heap[D]? = some (.deferred (some []))) (hD : w.heap.size + 4 ≤ D) (c0 : V.cell? ⟨w.heap.size, 0, none⟩ = some (.int .i64 a)) (c1 : V.cell? ⟨w.heap.size, 1, none⟩ = some (.int .i64 b))
    (hb : Below w.heap.size w V) (t2 : tmps.getD 2 undef = .pointer (some ⟨w.heap.size, 0, none⟩)) (t3 : tmps.getD 3 undef = e) (hp : ∀ V', Below w.heap.size w V' → ReadPost s w (.returned (.tuple #[.agg #[.int .i64 a, .int .i64 b], e])) V') :
    Exit.noGoto (bodyPostM Fence.wide 3 Tryd.prog Tryd.f22 (ReadPost s w)) Exit.ret { tmps, defers := [{ target := .collected D, args := #[] }] } V := by
  have hb' : Below w.heap.size w (V.putObj D (.deferred none)) :=
    ⟨hb.os, hb.tape, hb.output, by simpa using hb.size, fun k hk => (World.putObj_heap_other (by omega)).trans (hb.block k hk)⟩
  have c0' : (V.putObj D (.deferred none)).cell? ⟨w.heap.size, 0, none⟩ = some (.int .i64 a) := (World.cell?_of_block (w := V) (World.putObj_heap_other (show w.heap.size ≠ D by omega))).trans c0
  have c1' : (V.putObj D (.deferred none)).cell? ⟨w.heap.size, 1, none⟩ = some (.int .i64 b) := (World.cell?_of_block (w := V) (World.putObj_heap_other (show w.heap.size ≠ D by omega))).trans c1
  refine ⟨by simp, .inl ⟨_, _, rfl, run_takeDeferred hV, ?_⟩⟩
  refine ⟨.tuple #[.agg #[.int .i64 a, .int .i64 b], e], ?_, hp _ hb'⟩
  rw [results_cell_tmp (p := 2) (u := 3) (ty := 39) Tryd.results22]
  simp only [t2, t3]
  simp [go_sem, c0', c1']

/-- what the last region leaves. -/
def Out16 (w X : World) (D : Nat) (e : Value) : Exit → Act → World → Prop
  | .normal, a, V => a.tmps.getD 2 undef = .pointer (some ⟨w.heap.size, 0, none⟩) ∧ a.tmps.getD 3 undef = e ∧ a.defers = [{ target := .collected D, args := #[] }] ∧ V = ((X.setCell ⟨w.heap.size, 0, none⟩ (.int .i64 0)).setCell ⟨w.heap.size, 1, none⟩ (.int .i64 0)).drew
  | _, _, _ => False
theorem out16_mk {w X V : World} {D : Nat} {e : Value} {tmps : Array Value} (h2 : tmps.getD 2 undef = .pointer (some ⟨w.heap.size, 0, none⟩)) (h3 : tmps.getD 3 undef = e) (hV : V = ((X.setCell ⟨w.heap.size, 0, none⟩ (.int .i64 0)).setCell ⟨w.heap.size, 1, none⟩ (.int .i64 0)).drew) :
    Out16 w X D e .normal { tmps, defers := [{ target := .collected D, args := #[] }] } V := ⟨h2, h3, rfl, hV⟩
theorem fin16 {s : ByteArray} {w X V : World} {D : Nat} {c n k : Int} {t : ByteArray} {a : Act} (hst : St c n (bad k t) w X) (hK : X.heap[D]? = some (.deferred (some []))) (hD : w.heap.size + 4 ≤ D) (hd : Pr.dec s.data.toList = (0, 30)) (h : Out16 w X D (bad k t) .normal a V) :
    Exit.noGoto (bodyPostM Fence.wide 3 Tryd.prog Tryd.f22 (ReadPost s w)) Exit.ret a V := by
  obtain ⟨tmps, defers⟩ := a
  obtain ⟨h2, h3, h4, rfl⟩ := h
  dsimp only at h2 h3 h4
  subst h4
  have hsz := hst.size
  refine fin s w D _ _ 0 0 (bad k t) ?_ hD ?_ ?_ ?_ h2 h3 ?_
  · show ((X.setCell _ _).setCell _ _).heap[D]? = _
    rw [Below.heap_setCell _ _ _ _ (by show D ≠ w.heap.size; omega), Below.heap_setCell _ _ _ _ (by show D ≠ w.heap.size; omega)]
    exact hK
  · show ((X.setCell _ _).setCell _ _).cell? _ = _
    rw [World.cell?_setCell_other (h := by simp)]
    exact World.cell?_setCell_same' _ _ _ (by rw [hst.cells.2.1.1]; rfl)
  · show ((X.setCell _ _).setCell _ _).cell? _ = _
    exact World.cell?_setCell_same' _ _ _ (by rw [World.cell?_setCell_other (h := by simp), hst.cells.2.1.2]; rfl)
  · exact (setBel (setBel hst.bel (Nat.le_refl _)) (Nat.le_refl _)).drew
  · intro V' hV'
    refine ⟨hV', ?_⟩
    rw [hd]
    exact ⟨_, _, rfl⟩

def inv (w : World) (pre : List (Nat × UInt8)) (W : World) : Prop := pre.length ≤ 4 ∧ St pre.length (Pr.val (pre.map (·.2))) .nilIface w W
def outv (w : World) (cd : Code) (pre : List (Nat × UInt8)) (W : World) : Prop := cd = .exit 0 ∧ 5 ≤ pre.length ∧ ∃ c n k t, St c n (bad k t) w W

set_option maxRecDepth 100000 in
set_option maxHeartbeats 2000000 in
theorem read_any (s : ByteArray) (w : World) (hs : s.size ≤ maxLen) :
    Calls Tryd.prog 22 #[.string s] w (ReadPost s w) := by
  refine (callsIn_wide (n := 3)).1 ?_
  refine callsIn_of_wp_marks Tryd.func22 rfl trivial ?_ rfl
  simp only [Tryd.ntmps22, List.size_toArray, List.length_cons, List.length_nil, Nat.reduceAdd, Nat.reduceSub, Array.replicate_succ, Array.replicate_zero, List.push_toArray, List.append_toArray, List.nil_append, List.cons_append]
  refine wpIn_wide.2 ?_
  go_wp2
  refine wp_scope_straight ?_
  go_wp2
  refine wp_label ?_
  go_wp2_with (go_at_call 28; refine (bytesOf_any s _).mono ?_; rintro e w' ⟨rfl, rfl⟩)
  obtain ⟨W0, hW0⟩ : ∃ W0, W0 = (((w.alloc (.cells #[.int .i64 0, .int .i64 0] 39)).alloc (.cells #[.int .i64 0, .int .i64 0] 39)).alloc (.cells #[.nilIface] 41)).alloc (.cells #[.string s] 9) := ⟨_, rfl⟩
  have hz : W0.heap.size = w.heap.size + 4 := by rw [hW0]; simp
  have hSt : St 0 0 .nilIface w W0 := by
    rw [hW0]
    exact ⟨al1 _ _ _ _ _, al2 _ _ _ _ _, al3 _ _ _ _ _, (((((Below.refl _ _).alloc (by simp) _).alloc (by simp <;> omega) _).alloc (by simp <;> omega) _).alloc (by simp <;> omega) _), by simp⟩
  have hBs : W0.cell? ⟨w.heap.size + 1 + 1 + 1, 0, none⟩ = some (.string s) := by
    rw [hW0, World.cell?_alloc_at _ _ _ _ (by simp)]
    rfl
  rw [← hW0]
  clear hW0
  refine (wpIn_wide (n := 3)).1 ?_
  refine wpIn_rangeFunc_ownF rfl (by omega) (gf := 37) (lb := #[.pointer (some ⟨w.heap.size + 1 + 1 + 1, 0, none⟩)]) rfl trivial (enters_of Tryd.func37 (by kernel_rfl) rfl)
    (bytesOf1_stops (3 - 1) (by omega) (w.heap.size + 1 + 1 + 1) s W0 hs hBs) One.trans (One.book (by omega)) (Below.refl _ _) (fun _ => rfl)
    (inv w) (outv w)
    (fun pre A B row hs hg hr => ⟨hs.1, hs.2.grown hg (fun r e => by have := (hr r e).1; omega)⟩)
    (fun cd pre A B row hs hg hr => by
      obtain ⟨e1, e2, c, n, k, t, hst⟩ := hs
      exact ⟨e1, e2, c, n, k, t, hst.grown hg (fun r e => by have := (hr r e).1; omega)⟩)
    ⟨by simp, hSt⟩
    (fun x => { tmps := #[.string s, undef, .pointer (some ⟨w.heap.size, 0, none⟩), .nilIface, .pointer (some ⟨w.heap.size + 1, 0, none⟩), .pointer (some ⟨w.heap.size + 1 + 1, 0, none⟩), .int .i64 x.1, .int .u8 x.2.toNat, .string s, .func (.func 37) #[] #[.pointer (some ⟨w.heap.size + 1 + 1 + 1, 0, none⟩)], .int .i64 x.1, .int .u8 x.2.toNat,
      undef, undef, undef, undef, undef, undef, undef, undef, undef, undef, undef, undef, undef, undef, undef, undef, undef, undef, undef, undef, undef, undef, undef, undef, undef, undef], defers := [] }) ?assign ?body ?done ?stop
  case assign =>
    intro l x W K hK
    gi_wp2
    exact hK
  case body =>
    rintro l pre x W ⟨hpl, hst⟩ _
    go_light
    obtain ⟨⟨v0, v1, e0⟩, ⟨r0, r1⟩, f0, f1, fe, g0, g1⟩ := hst.cells
    have Hst := hide hst
    clear hst
    by_cases hc4 : pre.length = 4
    · have t0 : ((pre.length : Int) == 4) = true := beq_iff_eq.2 (by omega)
      have Hc4 := hide hc4
      clear hc4 hpl
      gi_wp2
      have hst := unhide Hst
      exact ⟨KeepsOthers.setCell _ _ _, rfl, by have := unhide Hc4; simp; omega, _, _, _, _, hst.setE _⟩
    · have t0 : ((pre.length : Int) == 4) = false := beq_eq_false_iff_ne.2 (by omega)
      cases pre with
      | nil =>
        by_cases hx : 128 ≤ x.2.toNat
        · have hx' : (128 : Int) ≤ x.2.toNat := by omega
          have hst2 := (unhide Hst).setV1 (-1)
          obtain ⟨⟨v0', v1', e0'⟩, ⟨r0', r1'⟩, f0', f1', fe', g0', g1'⟩ := hst2.cells
          have H := add_any (w.heap.size + 1) 0 (-1) x.2 _ v0' v1' f0' f1' (by omega) (by omega)
          have Hst2 := hide hst2
          have Hx := hide hx
          clear hst2 v0' v1' e0' r0' r1' f0' f1' fe' g0' g1' hx
          gi_wp2_with fail
          refine ⟨trivial, (CallsIn.inRound _ (callsIn_wide.2 H)).mono ?_⟩
          rintro e w' ⟨rfl, rfl⟩
          gi_wp2
          have hx := unhide Hx
          refine ⟨((KeepsOthers.setCell _ _ _).trans (KeepsOthers.setCell _ _ _)).trans (KeepsOthers.setCell _ _ _), ((Below.heap_setCell _ _ _ _ far).trans (Below.heap_setCell _ _ _ _ far)).trans (Below.heap_setCell _ _ _ _ far), by simp, ?_⟩
          show St 1 (Pr.val [x.2]) .nilIface w _
          rw [Pr.val_one, if_pos hx, show 256 * -1 + (x.2.toNat : Int) = -256 + (x.2.toNat : Int) by omega]
          exact ((unhide Hst2).setV1 _).setV0 1
        · have hx' : ¬ (128 : Int) ≤ x.2.toNat := by omega
          have H := add_any (w.heap.size + 1) 0 0 x.2 _ v0 v1 f0 f1 (by omega) (by omega)
          have Hx := hide hx
          clear hx
          gi_wp2_with fail
          refine ⟨trivial, (CallsIn.inRound _ (callsIn_wide.2 H)).mono ?_⟩
          rintro e w' ⟨rfl, rfl⟩
          gi_wp2
          have hx := unhide Hx
          refine ⟨(KeepsOthers.setCell _ _ _).trans (KeepsOthers.setCell _ _ _), (Below.heap_setCell _ _ _ _ far).trans (Below.heap_setCell _ _ _ _ far), by simp, ?_⟩
          show St 1 (Pr.val [x.2]) .nilIface w _
          rw [Pr.val_one, if_neg hx, show 256 * 0 + (x.2.toNat : Int) = (x.2.toNat : Int) by omega]
          exact ((unhide Hst).setV1 _).setV0 1
      | cons y pre =>
        have hr := Pr.val_range ((y :: pre).map (·.2)) (by simp) (by simpa using hpl)
        have hbd : -16777216 ≤ Pr.val ((y :: pre).map (·.2)) ∧ Pr.val ((y :: pre).map (·.2)) ≤ 16777215 := by
          simp only [List.length_map] at hr
          omega
        have hc0 : 0 ≤ ((y :: pre).length : Int) ∧ ((y :: pre).length : Int) ≤ 4 := by omega
        have t1 : (((y :: pre).length : Int) == 0) = false := beq_eq_false_iff_ne.2 (by simp; omega)
        have H := add_any (w.heap.size + 1) _ _ x.2 _ v0 v1 f0 f1 hc0 hbd
        have hv : Pr.val (((y :: pre) ++ [x]).map (·.2)) = 256 * Pr.val ((y :: pre).map (·.2)) + x.2.toNat := by
          rw [List.map_append]
          exact Pr.val_snoc _ _ (by simp)
        have hl : (((y :: pre) ++ [x]).length : Int) = ((y :: pre).length : Int) + 1 := by simp
        have Hl : Hid ((y :: pre).length ≤ 3) := by show _ ≤ _; omega
        have Hv := hide hv
        have HL := hide hl
        clear hv hl hr hbd hc0 hc4
        generalize hV : Pr.val ((y :: pre).map (·.2)) = V at *
        generalize hC : ((y :: pre).length : Int) = C at *
        have HV := hide hV
        have HC := hide hC
        clear hV hC
        gi_wp2_with fail
        refine ⟨trivial, (CallsIn.inRound _ (callsIn_wide.2 H)).mono ?_⟩
        rintro e w' ⟨rfl, rfl⟩
        gi_wp2
        refine ⟨(KeepsOthers.setCell _ _ _).trans (KeepsOthers.setCell _ _ _), (Below.heap_setCell _ _ _ _ far).trans (Below.heap_setCell _ _ _ _ far), by have := unhide Hl; simp at this ⊢; omega, ?_⟩
        rw [unhide Hv, unhide HL]
        exact ((unhide Hst).setV1 _).setV0 _
  case done =>
    rintro D ys W hD rfl ⟨hpl, hst⟩ hK
    rw [all_snd, all_length] at hst
    rw [all_length] at hpl
    have hst' := hst.grown (grownBy_putObj' W D (.deferred none)) (fun r e => by cases e; omega)
    obtain ⟨⟨v0, v1, e0⟩, ⟨r0, r1⟩, f0, f1, fe, g0, g1⟩ := hst.cells
    by_cases hf : 1 ≤ s.size ∧ Pr.wd (Pr.val s.data.toList) = s.size
    · have hn := (Pr.wd_val s.data.toList (by simpa using hf.1) (by simpa using hpl)).2
      have H := check_fine (s.size : Int) (Pr.val s.data.toList) W hn (by omega)
      have hd := Pr.dec_fine s.data.toList (by simpa using hf.1) (by simpa using hpl) (by simpa using hf.2)
      have hK' := hide hK
      have Hst := hide hst
      have Hd := hide hd
      clear hd hf hn hst hst' hK hBs hSt
      go_wp2_with fail
      refine H.mono ?_
      rintro e w2 ⟨rfl, hb⟩
      have hst2 := (unhide Hst).below hb
      obtain ⟨⟨v0', v1', e0'⟩, ⟨r0', r1'⟩, f0', f1', fe', g0', g1'⟩ := hst2.cells
      have Hst2 := hide hst2
      have Hb := hide hb
      clear hst2 hb H
      go_wp2
      have hstN := (unhide Hst2).setE .nilIface
      have hsz := (unhide Hst).size
      refine fin s w D _ _ (s.size : Int) (Pr.val s.data.toList) .nilIface ?_ (by omega) ?_ ?_ ?_ rfl rfl ?_
      · rw [Below.heap_setCell _ _ _ _ (by show D ≠ w.heap.size; omega), Below.heap_setCell _ _ _ _ (by show D ≠ w.heap.size; omega), Below.heap_setCell _ _ _ _ (by show D ≠ w.heap.size + 1 + 1; omega)]
        rw [(unhide Hb).block _ (Array.getElem?_eq_some_iff.1 (unhide hK')).1]
        exact unhide hK'
      · rw [World.cell?_setCell_other (h := by simp)]
        exact World.cell?_setCell_same' _ _ _ (by rw [hstN.cells.2.1.1]; rfl)
      · exact World.cell?_setCell_same' _ _ _ (by rw [World.cell?_setCell_other (h := by simp), hstN.cells.2.1.2]; rfl)
      · exact setBel (setBel hstN.bel (Nat.le_refl _)) (Nat.le_refl _)
      · intro V' hV'
        refine ⟨hV', ?_⟩
        rw [unhide Hd]
        exact ⟨_, rfl⟩
    · obtain ⟨t, H⟩ : ∃ t, Calls Tryd.prog 30 #[.agg #[.int .i64 s.size, .int .i64 (Pr.val s.data.toList)]] W fun e w' => e = .returned (bad 0 t) ∧ Below W.heap.size W w' := by
        by_cases h0 : s.size = 0
        · rw [h0]
          exact ⟨_, check0 _ W⟩
        · have hn := Pr.wd_val s.data.toList (by have : s.data.toList.length = s.size := by { simp }; omega) (by simpa using hpl)
          rw [show s.data.toList.length = s.size by simp] at hn
          exact ⟨_, check_few _ _ W hn.2 (by omega)⟩
      have hd : Pr.dec s.data.toList = (0, 30) := by
        have hl : s.data.toList.length = s.size := by simp
        unfold Pr.dec
        rw [if_neg (by rw [hl]; omega)]
      have hK' := hide hK
      have Hst := hide hst
      have Hd := hide hd
      clear hd hf hst hst' hK hBs hSt
      go_wp2_with fail
      refine H.mono ?_
      rintro e w2 ⟨rfl, hb⟩
      have hst2 := (unhide Hst).below hb
      obtain ⟨⟨v0', v1', e0'⟩, ⟨r0', r1'⟩, f0', f1', fe', g0', g1'⟩ := hst2.cells
      have Hst2 := hide hst2
      have Hb := hide hb
      clear hst2 hb H
      go_wp2
      have hst3 := (unhide Hst2).setE (bad 0 t)
      have hK3 : (w2.setCell ⟨w.heap.size + 1 + 1, 0, none⟩ (bad 0 t)).heap[D]? = some (.deferred (some [])) := by
        rw [Below.heap_setCell _ _ _ _ (by show D ≠ w.heap.size + 1 + 1; omega), (unhide Hb).block _ (Array.getElem?_eq_some_iff.1 (unhide hK')).1]
        exact unhide hK'
      generalize hX : w2.setCell ⟨w.heap.size + 1 + 1, 0, none⟩ (bad 0 t) = X at *
      clear hX Hst2 Hst Hb hK' v0 v1 e0 r0 r1 f0 f1 fe g0 g1 v0' v1' e0' r0' r1' f0' f1' fe' g0' g1'
      obtain ⟨⟨v0, v1, e0⟩, ⟨r0, r1⟩, f0, f1, fe, g0, g1⟩ := hst3.cells
      have Hst3 := hide hst3
      have HK3 := hide hK3
      clear hst3 hK3
      refine wp_mono (Q := Out16 w X D (bad 0 t)) ?_ ?_
      · go_region_with fail
        all_goals exact out16_mk rfl rfl rfl
      intro e a1 V hq
      cases e with
      | normal =>
        go_wp2
        exact fin16 (unhide Hst3) (unhide HK3) (by omega) (unhide Hd) hq
      | _ => exact hq.elim
  case stop =>
    rintro D cd pre W hD hpre ⟨rfl, hpl, c, n, k, t, hst⟩ hK
    refine wpIn_exit ?_
    have hd : Pr.dec s.data.toList = (0, 30) := Pr.dec_five _ (by have := hpre.length_le; rw [all_length] at this; simpa using Nat.le_trans hpl this)
    obtain ⟨⟨v0, v1, e0⟩, ⟨r0, r1⟩, f0, f1, fe, g0, g1⟩ := hst.cells
    have Hst3 := hide hst
    have HK3 := hide hK
    have Hd := hide hd
    clear hst hK hd hpre hpl hBs hSt
    go_wp2
    refine wp_mono (Q := Out16 w W D (bad k t)) ?_ ?_
    · go_region_with fail
      all_goals exact out16_mk rfl rfl rfl
    intro e a1 V hq
    cases e with
    | normal =>
      go_wp2
      exact fin16 (unhide Hst3) (unhide HK3) (by omega) (unhide Hd) hq
    | _ => exact hq.elim
end Go.Proofs.YtjgphpjbcabdeaaDoor.P
