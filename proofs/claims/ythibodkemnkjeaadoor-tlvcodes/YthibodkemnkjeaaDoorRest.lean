/-
  What size.takeRest does. Conditions: the package-level variables hold what the program's text lays.
-/
import Derived.Test.YthibodkemnkjeaaDoorIter
import Derived.Test.YthibodkemnkjeaaDoorRound
import Derived.Test.YthibodkemnkjeaaDoorNums
import Derived.Deep.RegionHeld
import Derived.Scope
import Derived.Deep.Light
namespace Go.Proofs.YthibodkemnkjeaaDoor
open Go.RowKit Go.Shelf
attribute [local go_sem] Oper.semAt_some

theorem from_any (s : ByteArray) (a : Int) (w : World) :
    Calls Tryd.prog 86 #[.agg #[.string s], .int .i64 a] w fun e w' => e = .returned (.func (.func 87) #[] #[.pointer (some ⟨w.heap.size + 1, 0, none⟩), .pointer (some ⟨w.heap.size, 0, none⟩)]) ∧
      w' = (w.alloc (.cells #[.string s] 143)).alloc (.cells #[.int .i64 a] 3) := by
  go_enter Tryd.func86, Tryd.ntmps86
  go_wp2
  go_ret
  exact ⟨rfl, rfl⟩

theorem cellK3 (w : World) (v : Value) (t : TypeId) (o2 o3 o4 : Obj) : (((((w.alloc (.cells #[v] t)).alloc o2).alloc o3).alloc o4).drew).cell? ⟨w.heap.size, 0, none⟩ = some v := by
  show ((((w.alloc (.cells #[v] t)).alloc o2).alloc o3).alloc o4).cell? _ = _
  rw [World.cell?_alloc_lt _ _ _ (by simp <;> omega), World.cell?_alloc_lt _ _ _ (by simp <;> omega), World.cell?_alloc_lt _ _ _ (by simp), World.cell?_alloc_at _ _ _ _ rfl]
  rfl
theorem cellK2 (w : World) (v : Value) (t : TypeId) (o1 o3 o4 : Obj) : (((((w.alloc o1).alloc (.cells #[v] t)).alloc o3).alloc o4).drew).cell? ⟨w.heap.size + 1, 0, none⟩ = some v := by
  show ((((w.alloc o1).alloc (.cells #[v] t)).alloc o3).alloc o4).cell? _ = _
  rw [World.cell?_alloc_lt _ _ _ (by simp <;> omega), World.cell?_alloc_lt _ _ _ (by simp), World.cell?_alloc_at _ _ _ _ (by simp)]
  rfl
theorem frozK2 (w : World) (v : Value) (t : TypeId) (o1 o3 o4 : Obj) : (((((w.alloc o1).alloc (.cells #[v] t)).alloc o3).alloc o4).drew).frozen? ⟨w.heap.size + 1, 0, none⟩ = false := by
  show ((((w.alloc o1).alloc (.cells #[v] t)).alloc o3).alloc o4).frozen? _ = _
  rw [World.frozen?_alloc_old _ _ _ (by simp <;> omega), World.frozen?_alloc_old _ _ _ (by simp)]
  simp
theorem cellK1 (w : World) (v : Value) (t : TypeId) (o1 o2 o4 : Obj) : (((((w.alloc o1).alloc o2).alloc (.cells #[v] t)).alloc o4).drew).cell? ⟨w.heap.size + 1 + 1, 0, none⟩ = some v := by
  show ((((w.alloc o1).alloc o2).alloc (.cells #[v] t)).alloc o4).cell? _ = _
  rw [World.cell?_alloc_lt _ _ _ (by simp), World.cell?_alloc_at _ _ _ _ (by simp)]
  rfl

theorem cellK0 (w : World) (v : Value) (t : TypeId) (o1 o2 o3 : Obj) : (((((w.alloc o1).alloc o2).alloc o3).alloc (.cells #[v] t)).drew).cell? ⟨w.heap.size + 1 + 1 + 1, 0, none⟩ = some v := by
  show ((((w.alloc o1).alloc o2).alloc o3).alloc (.cells #[v] t)).cell? _ = _
  rw [World.cell?_alloc_at _ _ _ _ (by simp)]
  rfl

/-- what the loop keeps: the reader, its box, what is left. -/
structure St (b rb lb : Nat) (s : ByteArray) (k c : Nat) (n l : Int) (B : Nat) (w W : World) : Prop where
  rd : Rd b s k c n W
  r : W.cell? ⟨rb, 0, none⟩ = some (.pointer (some ⟨b, 0, none⟩))
  l : W.cell? ⟨lb, 0, none⟩ = some (.int .i64 l)
  lf : W.frozen? ⟨lb, 0, none⟩ = false
  but : But b w W
  size : B ≤ W.heap.size

theorem St.grown {b rb lb : Nat} {s : ByteArray} {k c : Nat} {n l : Int} {B : Nat} {w W W' : World} {row : Option Nat} (h : St b rb lb s k c n l B w W) (hb : b < B) (hrb : rb < B) (hlb : lb < B) (hw : w.heap.size ≤ B)
    (hg : W.grownBy W' row) (hr : ∀ r, row = some r → B ≤ r) : St b rb lb s k c n l B w W' := by
  have e : ∀ x, x < B → W'.heap[x]? = W.heap[x]? := fun x hx => hg.block x (Nat.lt_of_lt_of_le hx h.size) (fun e => by have := hr x e.symm; omega)
  exact ⟨h.rd.of (e _ hb), (World.cell?_of_block (w := W) (e _ hrb)).trans h.r, (World.cell?_of_block (w := W) (e _ hlb)).trans h.l, (World.frozen?_of_block (w := W) (e _ hlb)).trans h.lf,
    ⟨hg.os.trans h.but.os, hg.tape.trans h.but.tape, hg.output.trans h.but.output, Nat.le_trans h.but.size hg.size, fun x hx hn => (e x (by omega)).trans (h.but.block x hx hn)⟩, Nat.le_trans h.size hg.size⟩

theorem St.setL {b rb lb : Nat} {s : ByteArray} {k c : Nat} {n l : Int} {B : Nat} {w W : World} (h : St b rb lb s k c n l B w W) (hw : w.heap.size ≤ lb) (hb : b ≠ lb) (hrb : rb ≠ lb) (l' : Int) :
    St b rb lb s k c n l' B w (W.setCell ⟨lb, 0, none⟩ (.int .i64 l')) :=
  ⟨h.rd.of (Below.heap_setCell _ _ _ _ hb), (World.cell?_of_block (w := W) (a := ⟨rb, 0, none⟩) (Below.heap_setCell _ _ _ _ hrb)).trans h.r, World.cell?_setCell_same' _ _ _ (by rw [h.l]; rfl), by rw [World.frozen?_setCell]; exact h.lf,
    ⟨h.but.os, h.but.tape, h.but.output, by simpa [World.setCell] using h.but.size, fun x hx hn => (Below.heap_setCell W ⟨lb, 0, none⟩ _ x (by simp; omega)).trans (h.but.block x hx hn)⟩, by simpa [World.setCell] using h.size⟩

/-- what takeRest leaves. -/
def RestPost (b : Nat) (s : ByteArray) (k c m : Nat) (aS : Addr) (w : World) (e : Ending) (w' : World) : Prop := But b w w' ∧
      (if c ≤ s.size - (k + 1) then e = .returned .nilIface ∧ Rd b s k c (Sz.numFrom m ((s.data.toList.drop (k + 1)).take c)) w' else e = .returned (.iface 158 (.pointer (some aS))) ∧ ∃ n, Rd b s k c n w')

set_option maxRecDepth 100000 in
set_option maxHeartbeats 2000000 in
theorem takeRest_any (b : Nat) (s : ByteArray) (k c : Nat) (m : Nat) (aS aF : Addr) (w : World) (h : Rd b s k c m w) (g : Glob aS aF w) (hs : s.size ≤ maxLen) (hk : k < s.size) (hc : c ≤ 4) (hm : (m + 1) * 256 ^ c ≤ 4294967296)
    (hgb' : GB aS aF b) :
    Calls Tryd.prog 83 #[.pointer (some ⟨b, 0, none⟩)] w (RestPost b s k c m aS w) := by
  unfold maxLen at hs
  have hR := h
  have hR1 := fun o => h.alloc o
  have hR2 := fun o o' => (h.alloc o).alloc o'
  obtain ⟨h0, h1, h2, h3, f2, f3⟩ := h
  have q2 := fun o => (hR1 o).h2
  have r0 := fun o o' => (hR2 o o').h0
  have r1 := fun o o' => (hR2 o o').h1
  have hw1 : IntKind.i64.wrap ((k : Int) + 1) = (k : Int) + 1 := by rw [IntKind.wrap_i64]; omega
  refine (callsIn_wide (n := 3)).1 ?_
  refine callsIn_of_wp_marks Tryd.func83 rfl trivial ?_ rfl
  simp only [Tryd.ntmps83, List.size_toArray, List.length_cons, List.length_nil, Nat.reduceAdd, Nat.reduceSub, Array.replicate_succ, Array.replicate_zero, List.push_toArray, List.append_toArray, List.nil_append, List.cons_append]
  refine wpIn_wide.2 ?_
  go_wp2
  refine wp_scope_straight ?_
  go_wp2
  refine wp_label ?_
  go_wp2
  refine wp_mono (Q := fun e a1 w1 => match e with | .normal => a1 = { tmps := #[.pointer (some ⟨b, 0, none⟩), .pointer (some ⟨w.heap.size, 0, none⟩), .nilIface, .pointer (some ⟨w.heap.size + 1, 0, none⟩), undef, .pointer (some ⟨b, 0, none⟩), .pointer (some ⟨b, 0, none⟩), .pointer (some ⟨b, 2, none⟩), .int .i64 c,
      .pointer (some ⟨b, 0, none⟩), .pointer (some ⟨b, 0, none⟩), .pointer (some ⟨b, 0, none⟩), .agg #[.string s], .pointer (some ⟨b, 0, none⟩), .pointer (some ⟨b, 0, none⟩), .pointer (some ⟨b, 1, none⟩), .int .i64 k, .int .i64 ((k : Int) + 1),
      .func (.func 87) #[] #[.pointer (some ⟨w.heap.size + 1 + 1 + 1, 0, none⟩), .pointer (some ⟨w.heap.size + 1 + 1, 0, none⟩)], undef, undef, undef, undef, undef, undef, undef, undef, undef, undef, undef, undef, undef, undef, undef, undef, undef, undef, undef], defers := [] }
      ∧ w1 = ((((w.alloc (.cells #[.pointer (some ⟨b, 0, none⟩)] 149)).alloc (.cells #[.int .i64 c] 3)).alloc (.cells #[.string s] 143)).alloc (.cells #[.int .i64 ((k : Int) + 1)] 3)).drew | _ => False) ?_ ?_
  · go_region_with (go_at_call 86; refine (from_any s _ _).mono ?_; rintro e w' ⟨rfl, rfl⟩)
    all_goals exact ⟨rfl, rfl⟩
  intro e a1 w1 hq
  cases e with
  | normal =>
    obtain ⟨rfl, rfl⟩ := hq
    go_wp2
    clear q2 r0 r1 hw1 hR1 hR2 h0 h1 h2 h3 f2 f3
    have hbl := hR.lt
    obtain ⟨W0, hW0⟩ : ∃ W0, W0 = ((((w.alloc (.cells #[.pointer (some ⟨b, 0, none⟩)] 149)).alloc (.cells #[.int .i64 c] 3)).alloc (.cells #[.string s] 143)).alloc (.cells #[.int .i64 ((k : Int) + 1)] 3)).drew := ⟨_, rfl⟩
    have hz : W0.heap.size = w.heap.size + 4 := by rw [hW0]; simp
    have hSt : St b w.heap.size (w.heap.size + 1) s k c m c (w.heap.size + 4) w W0 := by
      rw [hW0]
      exact ⟨((((hR.alloc _).alloc _).alloc _).alloc _).drew, cellK3 _ _ _ _ _ _, cellK2 _ _ _ _ _ _, frozK2 _ _ _ _ _ _, (((((But.refl _ _).alloc _).alloc _).alloc _).alloc _).drew, by simp⟩
    have hBa : W0.cell? ⟨w.heap.size + 1 + 1 + 1, 0, none⟩ = some (.int .i64 ((k + 1 : Nat) : Int)) := by rw [hW0]; exact cellK0 _ _ _ _ _ _
    have hBt : W0.cell? ⟨w.heap.size + 1 + 1, 0, none⟩ = some (.string s) := by rw [hW0]; exact cellK1 _ _ _ _ _ _
    rw [← hW0]
    clear hW0
    refine (wpIn_wide (n := 3)).1 ?_
    refine wpIn_rangeFunc_ownF rfl (by omega) (gf := 87) (lb := #[.pointer (some ⟨w.heap.size + 1 + 1 + 1, 0, none⟩), .pointer (some ⟨w.heap.size + 1 + 1, 0, none⟩)]) rfl trivial (enters_of Tryd.func87 (by kernel_rfl) rfl)
      (from1_stops (3 - 1) (by omega) (w.heap.size + 1 + 1 + 1) (w.heap.size + 1 + 1) (k + 1) s W0 (by unfold maxLen; exact hs) (by omega) hBa hBt) Two.trans (Two.book (by omega) (by omega)) (Below.refl _ _) (fun _ => rfl)
      (fun pre W => pre.length ≤ c ∧ St b w.heap.size (w.heap.size + 1) s k c (Sz.numFrom m pre) ((c : Int) - pre.length) (w.heap.size + 4) w W)
      (fun cd pre' W => cd = .exit 0 ∧ ∃ pre x, pre' = pre ++ [x] ∧ pre.length = c ∧ St b w.heap.size (w.heap.size + 1) s k c (Sz.numFrom m pre) 0 (w.heap.size + 4) w W)
      (fun pre A B row hs hg hr => ⟨hs.1, hs.2.grown (by omega) (by omega) (by omega) (by omega) hg (fun r e => by have := (hr r e).1; omega)⟩)
      (fun cd pre A B row hs hg hr => by
        obtain ⟨e1, pre, x, e2, e3, hst⟩ := hs
        exact ⟨e1, pre, x, e2, e3, hst.grown (by omega) (by omega) (by omega) (by omega) hg (fun r e => by have := (hr r e).1; omega)⟩)
      ⟨Nat.zero_le _, by simpa [Sz.numFrom] using hSt⟩
      (fun x => { tmps := #[.pointer (some ⟨b, 0, none⟩), .pointer (some ⟨w.heap.size, 0, none⟩), .nilIface, .pointer (some ⟨w.heap.size + 1, 0, none⟩), .int .u8 x.toNat, .pointer (some ⟨b, 0, none⟩), .pointer (some ⟨b, 0, none⟩), .pointer (some ⟨b, 2, none⟩), .int .i64 c,
      .pointer (some ⟨b, 0, none⟩), .pointer (some ⟨b, 0, none⟩), .pointer (some ⟨b, 0, none⟩), .agg #[.string s], .pointer (some ⟨b, 0, none⟩), .pointer (some ⟨b, 0, none⟩), .pointer (some ⟨b, 1, none⟩), .int .i64 k, .int .i64 ((k : Int) + 1),
      .func (.func 87) #[] #[.pointer (some ⟨w.heap.size + 1 + 1 + 1, 0, none⟩), .pointer (some ⟨w.heap.size + 1 + 1, 0, none⟩)], .int .u8 x.toNat, undef, undef, undef, undef, undef, undef, undef, undef, undef, undef, undef, undef, undef, undef, undef, undef, undef, undef], defers := [] }) ?assign ?body ?done ?stop
    case assign =>
      intro l x W K hK
      gi_wp2
      exact hK
    case body =>
      rintro l pre x W ⟨hpl, hst⟩ _
      go_light
      have hmx : Tryd.prog.follows .mixedOrders = true := by kernel_rfl
      obtain ⟨⟨h0, h1, h2, h3, f2, f3⟩, hr, hl, hlf, hbut, hsz⟩ := id hst
      by_cases hc0 : pre.length = c
      · have t0 : (((c : Int) - pre.length) == 0) = true := beq_iff_eq.2 (by omega)
        gi_wp2
        exact ⟨KeepsOthers.refl _, rfl, pre, x, rfl, hc0, by rw [show (c : Int) - pre.length = 0 by omega] at hst; exact hst⟩
      · have t0 : (((c : Int) - pre.length) == 0) = false := beq_eq_false_iff_ne.2 (by omega)
        have HN : Hid (256 * Sz.numFrom m pre < 4294967296) := by
          have := Sz.numFrom_step m pre c (by omega) hm
          show _ < _
          omega
        have Hx : Hid (x.toNat < 4294967296) := by have := x.toNat_lt; show _ < _; omega
        gi_wp2
        refine wpIn_mono (Q := fun e a1 w1 => match e with | .normal => a1 = { tmps := #[.pointer (some ⟨b, 0, none⟩), .pointer (some ⟨w.heap.size, 0, none⟩), .nilIface, .pointer (some ⟨w.heap.size + 1, 0, none⟩), .int .u8 x.toNat, .pointer (some ⟨b, 0, none⟩), .pointer (some ⟨b, 0, none⟩), .pointer (some ⟨b, 2, none⟩), .int .i64 c,
          .pointer (some ⟨b, 0, none⟩), .pointer (some ⟨b, 0, none⟩), .pointer (some ⟨b, 0, none⟩), .agg #[.string s], .pointer (some ⟨b, 0, none⟩), .pointer (some ⟨b, 0, none⟩), .pointer (some ⟨b, 1, none⟩), .int .i64 k, .int .i64 ((k : Int) + 1),
          .func (.func 87) #[] #[.pointer (some ⟨w.heap.size + 1 + 1 + 1, 0, none⟩), .pointer (some ⟨w.heap.size + 1 + 1, 0, none⟩)], .int .u8 x.toNat, .int .i64 ((c : Int) - pre.length), .bool false, .pointer (some ⟨b, 0, none⟩), .pointer (some ⟨b, 0, none⟩), .pointer (some ⟨b, 0, none⟩), .pointer (some ⟨b, 3, none⟩), .int .u32 (Sz.numFrom m pre), .int .u32 (256 * Sz.numFrom m pre : Nat), .int .u8 x.toNat, .int .u32 x.toNat, .int .u32 (Sz.numFrom m (pre ++ [x])), .pointer (some ⟨b, 0, none⟩), .pointer (some ⟨b, 3, none⟩), undef, undef, undef, undef, undef], defers := [] }
          ∧ w1 = (W.setCell ⟨b, 3, none⟩ (.int .u32 (Sz.numFrom m (pre ++ [x])))).drew | _ => False) ?_ ?_
        · refine regionIn_tail 11 hmx (by kernel_rfl) (by kernel_rfl) (by rintro ⟨a, w, h⟩; exact h) ?_
          simp only [List.take_succ_cons, List.take_zero, List.drop_succ_cons, List.drop_zero]
          repeat still_step
          refine wpStill_nil ?_
          rw [wrap_mul _ HN.out, wrap_u32 _ Hx.out, or_byte _ _ HN.out, ← Sz.numFrom_snoc]
          go_wp2
        intro e a1 w1 hq
        cases e with
        | normal =>
          obtain ⟨rfl, rfl⟩ := hq
          have hst2 : St b w.heap.size (w.heap.size + 1) s k c (Sz.numFrom m (pre ++ [x])) ((c : Int) - pre.length) (w.heap.size + 4) w (W.setCell ⟨b, 3, none⟩ (.int .u32 (Sz.numFrom m (pre ++ [x])))).drew :=
            ⟨(hst.rd.set3 _).drew, by show (W.setCell _ _).cell? _ = _; rw [World.cell?_setCell_far _ _ _ _ (by simp; omega)]; exact hr, by show (W.setCell _ _).cell? _ = _; rw [World.cell?_setCell_far _ _ _ _ (by simp; omega)]; exact hl,
              by show (W.setCell _ _).frozen? _ = _; rw [World.frozen?_setCell]; exact hlf, (hbut.setCell 3 _).drew, by simpa [World.setCell] using hsz⟩
          obtain ⟨W2, hW2⟩ : ∃ W2, W2 = (W.setCell ⟨b, 3, none⟩ (.int .u32 (Sz.numFrom m (pre ++ [x])))).drew := ⟨_, rfl⟩
          rw [← hW2] at hst2 ⊢
          have HW2 : Hid (W2 = (W.setCell ⟨b, 3, none⟩ (.int .u32 (Sz.numFrom m (pre ++ [x])))).drew) := hW2
          clear hW2 hr hl hlf hbut hsz h0 h1 h2 h3 f2 f3 t0
          obtain ⟨⟨h0, h1, h2, h3, f2, f3⟩, hr, hl, hlf, hbut, hsz⟩ := id hst2
          have hsub : (1 : Int) ≤ (c : Int) - pre.length := by omega
          gi_wp2
          refine ⟨?_, ?_, ?_, ?_⟩
          · rw [HW2.out]; exact ((KeepsOthers.setCell _ _ _).trans (KeepsOthers.drew _)).trans (KeepsOthers.setCell _ _ _)
          · rw [HW2.out]
            exact ⟨(Below.heap_setCell _ _ _ _ (show w.heap.size + 1 + 1 + 1 ≠ w.heap.size + 1 by omega)).trans (Below.heap_setCell W _ _ _ (show w.heap.size + 1 + 1 + 1 ≠ b by omega)), (Below.heap_setCell _ _ _ _ (show w.heap.size + 1 + 1 ≠ w.heap.size + 1 by omega)).trans (Below.heap_setCell W _ _ _ (show w.heap.size + 1 + 1 ≠ b by omega))⟩
          · simp; omega
          · have := hst2.setL (by omega) (by omega) (by omega) ((c : Int) - pre.length - 1)
            rw [show (c : Int) - ((pre ++ [x]).length : Nat) = (c : Int) - pre.length - 1 from by rw [List.length_append]; simp; omega]
            exact this
        | _ => exact hq.elim
    case done =>
      rintro D ys W hD rfl ⟨hpl, hst⟩ hK
      have hlen : (s.data.toList.drop (k + 1)).length = s.size - (k + 1) := by simp
      have hsh := (g.but hst.but hgb').sh
      have hst' := hst.grown (by omega) (by omega) (by omega) (by omega) (grownBy_putObj' W D (.deferred none)) (fun r e => by cases e; omega)
      have hl := hst.l
      by_cases hcl : c ≤ s.size - (k + 1)
      · have t0 : ¬ 0 < (c : Int) - ((s.data.toList.drop (k + 1)).length : Nat) := by omega
        have Ht : Hid ((s.data.toList.drop (k + 1)).take c = s.data.toList.drop (k + 1)) := List.take_of_length_le (by omega)
        go_wp2
        refine ⟨by simp, .inl ⟨_, _, rfl, run_takeDeferred hK, ?_⟩⟩
        refine ⟨_, results_tmp rfl _ _ _, hst'.but, ?_⟩
        rw [if_pos hcl, Ht.out]
        exact ⟨rfl, hst'.rd⟩
      · have t0 : 0 < (c : Int) - ((s.data.toList.drop (k + 1)).length : Nat) := by omega
        go_wp2
        refine ⟨by simp, .inl ⟨_, _, rfl, run_takeDeferred hK, ?_⟩⟩
        refine ⟨_, results_tmp rfl _ _ _, hst'.but, ?_⟩
        rw [if_neg hcl]
        exact ⟨rfl, _, hst'.rd⟩
    case stop =>
      rintro D c' pre' W hD hpre ⟨rfl, pre, x, rfl, hpl, hst⟩ hK
      refine wpIn_exit ?_
      have hst' := hst.grown (by omega) (by omega) (by omega) (by omega) (grownBy_putObj' W D (.deferred none)) (fun r e => by cases e; omega)
      have hl := hst.l
      have hlen : (s.data.toList.drop (k + 1)).length = s.size - (k + 1) := by simp
      have hcl : c ≤ s.size - (k + 1) := by have := hpre.length_le; simp at this; omega
      have Ht : Hid ((s.data.toList.drop (k + 1)).take c = pre) := by
        obtain ⟨t, ht⟩ := hpre
        show _ = _
        rw [← ht, List.append_assoc, List.take_append_of_le_length (by omega), List.take_of_length_le (by omega)]
      clear hpre
      go_wp2
      refine ⟨by simp, .inl ⟨_, _, rfl, run_takeDeferred hK, ?_⟩⟩
      refine ⟨_, results_tmp rfl _ _ _, hst'.but, ?_⟩
      rw [if_pos hcl, Ht.out]
      exact ⟨rfl, hst'.rd⟩
  | _ => exact hq.elim
end Go.Proofs.YthibodkemnkjeaaDoor
