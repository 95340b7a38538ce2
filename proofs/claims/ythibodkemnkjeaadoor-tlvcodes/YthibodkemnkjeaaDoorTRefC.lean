/-
  What the document's reader (latinerref02) keeps while it reads trees one behind the other. The document's reader (latinerref02), one tree: lengths that are none, that run over, and a tree without trees. The document's reader (latinerref02), one tree with trees in it. The document's reader (latinerref02), whatever is read. Conditions: a text is at most 9000 bytes long.
-/
import Derived.Test.YthibodkemnkjeaaDoorTRefB
import Derived.Laws.DeepStrings4
import Derived.Test.YthibodkemnkjeaaDoorTCut
namespace Go.Proofs.YthibodkemnkjeaaDoor
open Go.RowKit Tv T Go.Shelf

theorem But.own {b : Nat} {u w : World} (h : But b u w) {b' : Nat} (hb : u.heap.size ≤ b') (o : Nat) (v : Value) : But b u (w.setCell ⟨b', o, none⟩ v) :=
  ⟨h.os, h.tape, h.output, by rw [size_setCell]; exact h.size, fun k hk hn => (Below.heap_setCell _ _ _ _ (by show k ≠ b'; omega)).trans (h.block k hk hn)⟩

/-- what read leaves. -/
def RdPost (k : Nat) (W : World) (R : Nat) (s : ByteArray) (r : Except Int (Tr (k + 1) × Nat × Nat)) (e : Ending) (V : World) : Prop :=
  But R W V ∧ match r with
    | .error E => e = .returned (.tuple #[zeroN, .int .i64 0, .int .i64 E])
    | .ok (T, nx, c') => (∃ v, e = .returned (.tuple #[v, .int .i64 nx, .int .i64 0]) ∧ Node (k + 1) V (fun b => W.heap.size ≤ b) v T) ∧ TRd R s c' V

/-- what the loop keeps: the answer's box, the tree's box, the reader. -/
structure InvR (k : Nat) (W : World) (R : Nat) (s : ByteArray) (c : Nat) (t : Int) (sl : Value) (pre : List (Tr k)) (V : World) : Prop where
  b0 : V.heap[W.heap.size]? = some (.cells #[.int .i64 0, .string ⟨#[]⟩, .slice none 0 0] 24 (0, 0))
  b1 : V.heap[W.heap.size + 1]? = some (.cells #[.int .i64 t, .string ⟨#[]⟩, sl] 24 (0, 0))
  but : But R W V
  rd : TRd R s c V
  gr : Grow k V (W.heap.size + 2) sl pre
  sz : W.heap.size + 2 ≤ V.heap.size
theorem InvR.go {k : Nat} {W : World} {R : Nat} {s : ByteArray} {c c2 : Nat} {t : Int} {sl : Value} {pre : List (Tr k)} {V w2 : World} (h : InvR k W R s c t sl pre V) (hR : R < W.heap.size) (hb : But R V w2) (hr : TRd R s c2 w2) : InvR k W R s c2 t sl pre w2 := by
  have hz := h.sz
  exact ⟨(hb.block _ (by omega) (by omega)).trans h.b0, (hb.block _ (by omega) (by omega)).trans h.b1, h.but.trans hb, hr, h.gr.of fun b hb1 hb2 => hb.block b hb2 (by omega), Nat.le_trans hz hb.size⟩
theorem InvR.alloc {k : Nat} {W : World} {R : Nat} {s : ByteArray} {c : Nat} {t : Int} {sl : Value} {pre : List (Tr k)} {V : World} (h : InvR k W R s c t sl pre V) (hR : R < W.heap.size) (o : Obj) : InvR k W R s c t sl pre (V.alloc o) :=
  h.go hR ((But.refl _ _).alloc o) (h.rd.of (Below.heap_alloc _ _ _ h.rd.lt))
/-- a tree more: its box (w2), the new list's box (w3), the append (w4), the store. -/
theorem InvR.snoc {k : Nat} {W : World} {R : Nat} {s : ByteArray} {c : Nat} {t : Int} {sl : Value} {pre : List (Tr k)} {w2 w4 : World} {vs : List (Value × Value × Value)} {c0 c1 c2 : Value} {T : Tr k} {gg cp lo : Nat}
    (h : InvR k W R s c t sl pre w2) (hR : R < W.heap.size) (hvl : vs.length = pre.length)
    (hNs : ∀ (i : Nat) v T, vs[i]? = some v → pre[i]? = some T → Node k w2 (fun b => W.heap.size + 2 ≤ b ∧ some b ≠ sl.ownBlock) (.agg #[v.1, v.2.1, v.2.2]) T)
    (hN : Node k w2 (fun b => lo ≤ b) (.agg #[c0, c1, c2]) T) (hlo : W.heap.size + 2 ≤ lo) (hol : ∀ g', sl.ownBlock = some g' → g' < lo)
    (hown : w4.ownsRow (W.heap.size + 2) 24 3 (.slice (some ⟨gg, 0, none⟩) (pre.length + 1) cp) (pre.length + 1) (vs.flatMap trip ++ [c0, c1, c2]))
    (hgrow : (w2.alloc (.cells #[c0, c1, c2] 24)).grownBy w4 sl.ownBlock) (hat : sl.ownBlock = some gg ∨ gg = w2.heap.size + 1) :
    InvR k W R s c t (.slice (some ⟨gg, 0, none⟩) (pre.length + 1) cp) (pre ++ [T]) (w4.setCell ⟨W.heap.size + 1, 2, none⟩ (.slice (some ⟨gg, 0, none⟩) (pre.length + 1) cp)) := by
  have hb3 : Below w2.heap.size w2 (w2.alloc (.cells #[c0, c1, c2] 24)) := (Below.refl _ _).alloc (Nat.le_refl _) _
  have hob : ∀ g', sl.ownBlock = some g' → W.heap.size + 2 ≤ g' ∧ g' < w2.heap.size := fun g' hg' => h.gr.lt hg'
  have hsz := h.sz
  have keep : ∀ x, x < W.heap.size + 2 → w4.heap[x]? = w2.heap[x]? := fun x hx => by
    have hlt : x < w2.heap.size := by omega
    refine (hgrow.block x (Nat.lt_of_lt_of_le hlt hb3.size) (fun e => ?_)).trans (hb3.block x hlt)
    have := (hob x e.symm).1
    omega
  have hz4 : w2.heap.size ≤ w4.heap.size := Nat.le_trans hb3.size hgrow.size
  refine ⟨?_, ?_, ?_, ?_, ?_, ?_⟩
  · exact (Below.heap_setCell _ _ _ _ (by show W.heap.size ≠ W.heap.size + 1; omega)).trans ((keep _ (by omega)).trans h.b0)
  · have := heap_setCell_same w4 (W.heap.size + 1) 2 _ _ (.slice (some ⟨gg, 0, none⟩) (pre.length + 1) cp) ((keep _ (by omega)).trans h.b1)
    exact this
  · refine But.own ?_ (by omega) 2 _
    exact ⟨hgrow.os.trans (hb3.os.trans h.but.os), hgrow.tape.trans (hb3.tape.trans h.but.tape), hgrow.output.trans (hb3.output.trans h.but.output), Nat.le_trans h.but.size hz4, fun x hx hn => (keep x (by omega)).trans (h.but.block x hx hn)⟩
  · exact h.rd.of ((Below.heap_setCell _ _ _ _ (by show R ≠ W.heap.size + 1; omega)).trans (keep R (by omega)))
  · refine grow_snoc (W := w2.alloc (.cells #[c0, c1, c2] 24)) (lo := lo) (sl := sl) hvl (fun i v T hv hT => (hNs i v T hv hT).below hb3) (ownsRow_setCell_below hown (a := ⟨W.heap.size + 1, 2, none⟩) (by show W.heap.size + 1 < _; omega) _) ?_ ?_ (hN.below hb3) hlo hol
    · intro b hb1 hb2 hb3' _
      exact (Below.heap_setCell _ _ _ _ (by show b ≠ W.heap.size + 1; omega)).trans (hgrow.block b hb2 hb3')
    · rcases hat with hat | hat
      · exact .inl hat
      · exact .inr (by rw [hat]; simp)
  · rw [size_setCell]; exact Nat.le_trans hsz hz4
theorem InvR.keep4 {k : Nat} {W : World} {R : Nat} {s : ByteArray} {c : Nat} {t : Int} {sl : Value} {pre : List (Tr k)} {w2 w4 : World} {o : Obj} (h : InvR k W R s c t sl pre w2) (hgrow : (w2.alloc o).grownBy w4 sl.ownBlock) :
    w4.heap[W.heap.size + 1]? = some (.cells #[.int .i64 t, .string ⟨#[]⟩, sl] 24 (0, 0)) := by
  have hb3 : Below w2.heap.size w2 (w2.alloc o) := (Below.refl _ _).alloc (Nat.le_refl _) _
  have hlt : W.heap.size + 1 < w2.heap.size := by have := h.sz; omega
  refine (hgrow.block _ (Nat.lt_of_lt_of_le hlt hb3.size) (fun e => ?_)).trans ((hb3.block _ hlt).trans h.b1)
  have := (h.gr.lt e.symm).1
  omega

/-- where reading one behind the other stands. -/
def joinL {α : Type} (pre : List α) (r : Except Int (List α × Nat)) : Except Int (List α × Nat) := match r with
  | .error e => .error e
  | .ok (xs, c) => .ok (pre ++ xs, c)

/-- the world behind read's first two statements. -/
abbrev rdG (W : World) (R : Nat) (c : Nat) : World := W.setCell ⟨R, 1, none⟩ (.int .i64 ((c : Int) + 1))
abbrev rdW (W : World) (R : Nat) (c : Nat) : World := (rdG W R c).alloc (.cells #[.int .i64 0, .string ⟨#[]⟩, .slice none 0 0] 24)
theorem rdG_rd {W : World} {R : Nat} {s : ByteArray} {c : Nat} (h : TRd R s c W) : TRd R s ((c : Int) + 1) (rdG W R c) := h.set _
theorem rdG_size (W : World) (R c : Nat) : (rdG W R c).heap.size = W.heap.size := size_setCell _ _ _
theorem rdW_rd {W : World} {R : Nat} {s : ByteArray} {c : Nat} (h : TRd R s c W) : TRd R s ((c : Int) + 1) (rdW W R c) := (rdG_rd h).of (Below.heap_alloc _ _ _ (rdG_rd h).lt)
theorem rdW_but (W : World) (R : Nat) (c : Nat) : But R W (rdW W R c) := ((But.refl R W).setCell 1 _).alloc _
theorem rdW_box (W : World) (R : Nat) (c : Nat) : (rdW W R c).heap[W.heap.size]? = some (.cells #[.int .i64 0, .string ⟨#[]⟩, .slice none 0 0] 24 (0, 0)) := by
  have := World.alloc_heap_new (rdG W R c) (.cells #[.int .i64 0, .string ⟨#[]⟩, .slice none 0 0] 24)
  rwa [rdG_size] at this
theorem rdW_size (W : World) (R c : Nat) : (rdW W R c).heap.size = W.heap.size + 1 := by rw [World.size_alloc, rdG_size]

set_option maxRecDepth 100000 in
set_option maxHeartbeats 1000000 in
/-- too many, or too deep. -/
theorem rd_node (k : Nat) (W : World) (R : Nat) (s : ByteArray) (c : Nat) (p stop deep : Int) (h : TRd R s c W) (hc : c ≤ 200) (hn : c = 200 ∨ 12 < deep) :
    Calls Tryd.prog 33 #[.pointer (some ⟨R, 0, none⟩), .int .i64 p, .int .i64 stop, .int .i64 deep] W (RdPost k W R s (.error 21)) := by
  have hR := h.lt
  obtain ⟨w0, w1, wf⟩ := h
  obtain ⟨g0, g1, gf⟩ := rdG_rd (c := c) ⟨w0, w1, wf⟩
  have hne : R ≠ W.heap.size := by omega
  have hc' : (c : Int) ≤ 200 := by omega
  have HB := hide (rdW_but W R c)
  have HX := hide (rdW_box W R c)
  by_cases h2 : c = 200
  · have h2' : (200 : Int) < (c : Int) + 1 := by omega
    clear hn h2
    go_enter Tryd.func33, Tryd.ntmps33
    go_wp2
    obtain ⟨⟨x0, x1, x2⟩, _⟩ := cells3 (unhide HX)
    refine bodyPost_ret (v := .tuple #[zeroN, .int .i64 0, .int .i64 21]) (by simp [results, Tryd.results33, go_sem, x0, x1, x2]) rfl ?_
    exact ⟨unhide HB, rfl⟩
  · have h2' : decide ((200 : Int) < (c : Int) + 1) = false := decide_eq_false (by omega)
    have h3 : 12 < deep := hn.resolve_left h2
    clear hn h2
    go_enter Tryd.func33, Tryd.ntmps33
    go_wp2
    obtain ⟨⟨x0, x1, x2⟩, _⟩ := cells3 (unhide HX)
    refine bodyPost_ret (v := .tuple #[zeroN, .int .i64 0, .int .i64 21]) (by simp [results, Tryd.results33, go_sem, x0, x1, x2]) rfl ?_
    exact ⟨unhide HB, rfl⟩
/-- the world behind the tree's box, too. -/
abbrev rdV (W : World) (R c : Nat) (t : Int) : World := (rdW W R c).alloc (.cells #[.int .i64 t, .string ⟨#[]⟩, .slice none 0 0] 24)
theorem rdV_but (W : World) (R c : Nat) (t : Int) : But R W (rdV W R c t) := (rdW_but W R c).alloc _
theorem rdV_box (W : World) (R c : Nat) (t : Int) : (rdV W R c t).heap[W.heap.size]? = some (.cells #[.int .i64 0, .string ⟨#[]⟩, .slice none 0 0] 24 (0, 0)) := by
  rw [Below.heap_alloc _ _ _ (by rw [rdW_size]; omega)]; exact rdW_box W R c
theorem rdV_tree (W : World) (R c : Nat) (t : Int) : (rdV W R c t).heap[W.heap.size + 1]? = some (.cells #[.int .i64 t, .string ⟨#[]⟩, .slice none 0 0] 24 (0, 0)) := by
  have := World.alloc_heap_new (rdW W R c) (.cells #[.int .i64 t, .string ⟨#[]⟩, .slice none 0 0] 24)
  rwa [rdW_size] at this
theorem rdV_rd {W : World} {R : Nat} {s : ByteArray} {c : Nat} (h : TRd R s c W) (t : Int) : TRd R s ((c : Int) + 1) (rdV W R c t) := (rdW_rd h).of (Below.heap_alloc _ _ _ (rdW_rd h).lt)
theorem rdV_size (W : World) (R c : Nat) (t : Int) : (rdV W R c t).heap.size = W.heap.size + 2 := by rw [World.size_alloc, rdW_size]

set_option maxRecDepth 100000 in
set_option maxHeartbeats 1000000 in
/-- nothing is left. -/
theorem rd_short (k : Nat) (W : World) (R : Nat) (s : ByteArray) (c : Nat) (p stop : Nat) (deep : Int) (h : TRd R s c W) (hc : c < 200) (hdp : deep ≤ 12) (hp : p = stop) :
    Calls Tryd.prog 33 #[.pointer (some ⟨R, 0, none⟩), .int .i64 p, .int .i64 stop, .int .i64 deep] W (RdPost k W R s (.error 10)) := by
  have hR := h.lt
  obtain ⟨w0, w1, wf⟩ := h
  obtain ⟨g0, g1, gf⟩ := rdG_rd (c := c) ⟨w0, w1, wf⟩
  have hne : R ≠ W.heap.size := by omega
  have hne2 : R ≠ W.heap.size + 1 := by omega
  have hc' : (c : Int) ≤ 199 := by omega
  have h2' : decide ((200 : Int) < (c : Int) + 1) = false := decide_eq_false (by omega)
  have h3' : decide (12 < deep) = false := decide_eq_false (by omega)
  have HB := hide (rdW_but W R c)
  have HX := hide (rdW_box W R c)
  subst hp
  go_enter Tryd.func33, Tryd.ntmps33
  go_wp2
  obtain ⟨⟨x0, x1, x2⟩, _⟩ := cells3 (unhide HX)
  refine bodyPost_ret (v := .tuple #[zeroN, .int .i64 0, .int .i64 10]) (by simp [results, Tryd.results33, go_sem, x0, x1, x2]) rfl ?_
  exact ⟨unhide HB, rfl⟩

set_option maxRecDepth 100000 in
set_option maxHeartbeats 1000000 in
/-- a tag that goes on. -/
theorem rd_tag (k : Nat) (W : World) (R : Nat) (s : ByteArray) (c : Nat) (p stop : Nat) (deep : Int) (h : TRd R s c W) (hc : c < 200) (hdp : deep ≤ 12) (hp : p < stop) (hs : s.size ≤ 9000) (hst : stop ≤ s.size) (ht : s[p].toNat % 32 = 31) :
    Calls Tryd.prog 33 #[.pointer (some ⟨R, 0, none⟩), .int .i64 p, .int .i64 stop, .int .i64 deep] W (RdPost k W R s (.error 20)) := by
  have hR := h.lt
  obtain ⟨w0, w1, wf⟩ := h
  obtain ⟨g0, g1, gf⟩ := rdG_rd (c := c) ⟨w0, w1, wf⟩
  have hne : R ≠ W.heap.size := by omega
  have hne2 : R ≠ W.heap.size + 1 := by omega
  have hc' : (c : Int) ≤ 199 := by omega
  have h2' : decide ((200 : Int) < (c : Int) + 1) = false := decide_eq_false (by omega)
  have h3' : decide (12 < deep) = false := decide_eq_false (by omega)
  have HB := hide (rdV_but W R c s[p].toNat)
  have HX := hide (rdV_box W R c s[p].toNat)
  have p1 : (p : Int) < stop := by omega
  have p2 : (p : Int) < s.size := by omega
  have p3 : (s.size : Int) ≤ 9000 := by omega
  have t1 : ((s[p].toNat : Int) % 32 == 31) = true := beq_iff_eq.2 (by omega)
  have t2 := s[p].toNat_lt
  clear ht
  go_enter Tryd.func33, Tryd.ntmps33
  go_wp2
  obtain ⟨⟨x0, x1, x2⟩, _⟩ := cells3 (unhide HX)
  refine bodyPost_ret (v := .tuple #[zeroN, .int .i64 0, .int .i64 20]) (by simp [results, Tryd.results33, go_sem, x0, x1, x2]) rfl ?_
  exact ⟨unhide HB, rfl⟩

end Go.Proofs.YthibodkemnkjeaaDoor

namespace Go.Proofs.YthibodkemnkjeaaDoor
open Go.RowKit Tv T Go.Shelf

theorem slice_str (s : ByteArray) (q n : Nat) (h : q + n ≤ s.size) (w : World) : (Instr.slice 9 (.string s) (some (.int .i64 q)) (some (.int .i64 ((q : Int) + n))) none).run Tryd.prog w = .ok (.string (s.extract q (q + n))) w := by
  rw [run_slice_string_if w 9 s .i64 .i64 q ((q : Int) + n) Tryd.underlying9]
  rw [if_pos (by omega), if_pos (by omega), Int.toNat_natCast, show ((q : Int) + n).toNat = q + n by omega]

set_option maxRecDepth 100000 in
set_option maxHeartbeats 2000000 in
theorem rd_len (k : Nat) (W : World) (R : Nat) (s : ByteArray) (c : Nat) (p stop : Nat) (deep : Int) (h : TRd R s c W) (hc : c < 200) (hdp : deep ≤ 12) (hp : p < stop) (hs : s.size ≤ 9000) (hst : stop ≤ s.size) (ht : s[p].toNat % 32 ≠ 31) (n q E : Int) (hE : E ≠ 0) (HD : ∀ V, Calls Tryd.prog 52 #[.string (s.extract 0 stop), .int .i64 ((p : Int) + 1)] V fun e w' => e = .returned (.tuple #[.int .i64 n, .int .i64 q, .int .i64 E]) ∧ w' = V) :
    Calls Tryd.prog 33 #[.pointer (some ⟨R, 0, none⟩), .int .i64 p, .int .i64 stop, .int .i64 deep] W (RdPost k W R s (.error E)) := by
  have hR := h.lt
  obtain ⟨w0, w1, wf⟩ := h
  obtain ⟨g0, g1, gf⟩ := rdG_rd (c := c) ⟨w0, w1, wf⟩
  have hne : R ≠ W.heap.size := by omega
  have hne2 : R ≠ W.heap.size + 1 := by omega
  have hc' : (c : Int) ≤ 199 := by omega
  have h2' : decide ((200 : Int) < (c : Int) + 1) = false := decide_eq_false (by omega)
  have h3' : decide (12 < deep) = false := decide_eq_false (by omega)
  have p1 : (p : Int) < stop := by omega
  have p2 : (p : Int) < s.size := by omega
  have p3 : (s.size : Int) ≤ 9000 := by omega
  have p4 : (stop : Int) ≤ s.size := by omega
  have t1 : ((s[p].toNat : Int) % 32 == 31) = false := beq_eq_false_iff_ne.2 (by omega)
  have t2 := s[p].toNat_lt
  have HB := hide (rdV_but W R c s[p].toNat)
  have HX := hide (rdV_box W R c s[p].toNat)
  have HHD := hide HD
  have tE : (E != 0) = true := by simpa using hE
  clear ht HD hE
  go_enter Tryd.func33, Tryd.ntmps33
  go_wp2_with fail
  refine ((unhide HHD) _).mono ?_
  rintro e w' ⟨rfl, rfl⟩
  go_wp2
  obtain ⟨⟨x0, x1, x2⟩, _⟩ := cells3 (unhide HX)
  refine bodyPost_ret (v := .tuple #[zeroN, .int .i64 0, .int .i64 E]) (by simp [results, Tryd.results33, go_sem, x0, x1, x2]) rfl ?_
  exact ⟨unhide HB, rfl⟩

set_option maxRecDepth 100000 in
set_option maxHeartbeats 2000000 in
theorem rd_over (k : Nat) (W : World) (R : Nat) (s : ByteArray) (c : Nat) (p stop : Nat) (deep : Int) (h : TRd R s c W) (hc : c < 200) (hdp : deep ≤ 12) (hp : p < stop) (hs : s.size ≤ 9000) (hst : stop ≤ s.size) (ht : s[p].toNat % 32 ≠ 31) (n q : Nat) (hq : q ≤ stop) (hn : stop - q < n) (hn2 : n ≤ 16777215) (HD : ∀ V, Calls Tryd.prog 52 #[.string (s.extract 0 stop), .int .i64 ((p : Int) + 1)] V fun e w' => e = .returned (.tuple #[.int .i64 n, .int .i64 q, .int .i64 0]) ∧ w' = V) :
    Calls Tryd.prog 33 #[.pointer (some ⟨R, 0, none⟩), .int .i64 p, .int .i64 stop, .int .i64 deep] W (RdPost k W R s (.error 10)) := by
  have hR := h.lt
  obtain ⟨w0, w1, wf⟩ := h
  obtain ⟨g0, g1, gf⟩ := rdG_rd (c := c) ⟨w0, w1, wf⟩
  have hne : R ≠ W.heap.size := by omega
  have hne2 : R ≠ W.heap.size + 1 := by omega
  have hc' : (c : Int) ≤ 199 := by omega
  have h2' : decide ((200 : Int) < (c : Int) + 1) = false := decide_eq_false (by omega)
  have h3' : decide (12 < deep) = false := decide_eq_false (by omega)
  have p1 : (p : Int) < stop := by omega
  have p2 : (p : Int) < s.size := by omega
  have p3 : (s.size : Int) ≤ 9000 := by omega
  have p4 : (stop : Int) ≤ s.size := by omega
  have t1 : ((s[p].toNat : Int) % 32 == 31) = false := beq_eq_false_iff_ne.2 (by omega)
  have t2 := s[p].toNat_lt
  have HB := hide (rdV_but W R c s[p].toNat)
  have HX := hide (rdV_box W R c s[p].toNat)
  have HHD := hide HD
  have tE : (stop : Int) - q < n := by omega
  have tq : (q : Int) ≤ stop := by omega
  have tn : (n : Int) ≤ 16777215 := by omega
  clear ht HD hn
  go_enter Tryd.func33, Tryd.ntmps33
  go_wp2_with fail
  refine ((unhide HHD) _).mono ?_
  rintro e w' ⟨rfl, rfl⟩
  go_wp2
  obtain ⟨⟨x0, x1, x2⟩, _⟩ := cells3 (unhide HX)
  refine bodyPost_ret (v := .tuple #[zeroN, .int .i64 0, .int .i64 10]) (by simp [results, Tryd.results33, go_sem, x0, x1, x2]) rfl ?_
  exact ⟨unhide HB, rfl⟩

set_option maxRecDepth 100000 in
set_option maxHeartbeats 2000000 in
theorem rd_leaf (k : Nat) (W : World) (R : Nat) (s : ByteArray) (c : Nat) (p stop : Nat) (deep : Int) (h : TRd R s c W) (hc : c < 200) (hdp : deep ≤ 12) (hp : p < stop) (hs : s.size ≤ 9000) (hst : stop ≤ s.size) (ht : s[p].toNat % 32 ≠ 31) (n q : Nat) (hq : q + n ≤ stop) (hin : isIn s[p].toNat = false) (HD : ∀ V, Calls Tryd.prog 52 #[.string (s.extract 0 stop), .int .i64 ((p : Int) + 1)] V fun e w' => e = .returned (.tuple #[.int .i64 n, .int .i64 q, .int .i64 0]) ∧ w' = V) :
    Calls Tryd.prog 33 #[.pointer (some ⟨R, 0, none⟩), .int .i64 p, .int .i64 stop, .int .i64 deep] W (RdPost k W R s (.ok (mk s[p].toNat (s.extract q (q + n)) [], q + n, c + 1))) := by
  have HR := hide (rdV_rd h (s[p].toNat : Int))
  have hR := h.lt
  obtain ⟨w0, w1, wf⟩ := h
  obtain ⟨g0, g1, gf⟩ := rdG_rd (c := c) ⟨w0, w1, wf⟩
  have hne : R ≠ W.heap.size := by omega
  have hne2 : R ≠ W.heap.size + 1 := by omega
  have hc' : (c : Int) ≤ 199 := by omega
  have h2' : decide ((200 : Int) < (c : Int) + 1) = false := decide_eq_false (by omega)
  have h3' : decide (12 < deep) = false := decide_eq_false (by omega)
  have p1 : (p : Int) < stop := by omega
  have p2 : (p : Int) < s.size := by omega
  have p3 : (s.size : Int) ≤ 9000 := by omega
  have p4 : (stop : Int) ≤ s.size := by omega
  have t1 : ((s[p].toNat : Int) % 32 == 31) = false := beq_eq_false_iff_ne.2 (by omega)
  have t2 := s[p].toNat_lt
  have HB := hide (rdV_but W R c s[p].toNat)
  have HX := hide (rdV_box W R c s[p].toNat)
  have HY := hide (rdV_tree W R c s[p].toNat)
  have HHD := hide HD
  have tE : ¬ (stop : Int) - q < n := by omega
  have tq : (q : Int) ≤ stop := by omega
  have tn : (n : Int) ≤ 9000 := by omega
  have tl : ((q : Int) + n) ≤ s.size := by omega
  have tI : ((s[p].toNat : Int) / 32 % 2 == 0) = true := by
    have : ¬ ((s[p].toNat : Int) / 32 % 2 = 1) := of_decide_eq_false hin
    exact beq_iff_eq.2 (by omega)
  have hsl := slice_str s q n (by omega)
  clear ht HD hin
  go_enter Tryd.func33, Tryd.ntmps33
  go_wp2_with fail
  refine ((unhide HHD) _).mono ?_
  rintro e w' ⟨rfl, rfl⟩
  go_wp2
  have hG := (rdG_rd (c := c) (s := s) ⟨w0, w1, wf⟩)
  have hV1 : ((rdG W R c).alloc (.cells #[.int .i64 s[p].toNat, .string (s.extract q (q + n)), .slice none 0 0] 24)).heap[W.heap.size]? = some (.cells #[.int .i64 s[p].toNat, .string (s.extract q (q + n)), .slice none 0 0] 24) := by
    have := World.alloc_heap_new (rdG W R c) (.cells #[.int .i64 s[p].toNat, .string (s.extract q (q + n)), .slice none 0 0] 24)
    rwa [rdG_size] at this
  have hV2 : (((rdG W R c).alloc (.cells #[.int .i64 s[p].toNat, .string (s.extract q (q + n)), .slice none 0 0] 24)).alloc (.cells #[.int .i64 s[p].toNat, .string (s.extract q (q + n)), .slice none 0 0] 24)).heap[W.heap.size]? = some (.cells #[.int .i64 s[p].toNat, .string (s.extract q (q + n)), .slice none 0 0] 24) := (Below.heap_alloc _ _ _ (by rw [World.size_alloc, rdG_size]; omega)).trans hV1
  obtain ⟨⟨x0, x1, x2⟩, _⟩ := cells3 hV2
  refine bodyPost_ret (v := .tuple #[.agg #[.int .i64 s[p].toNat, .string (s.extract q (q + n)), .slice none 0 0], .int .i64 ((q : Int) + n), .int .i64 0]) (by simp [results, Tryd.results33, go_sem, x0, x1, x2]) rfl ?_
  refine ⟨(((But.refl R W).setCell 1 _).alloc _).alloc _, ⟨.agg #[.int .i64 s[p].toNat, .string (s.extract q (q + n)), .slice none 0 0], by rw [show (((q + n : Nat)) : Int) = (q : Int) + n by omega], none, 0, rfl, by rw [dat_mk, ByteArray.size_extract]; omega, Nat.zero_le _, .inl rfl⟩, ?_⟩
  rw [show (((c + 1 : Nat)) : Int) = (c : Int) + 1 by omega]
  exact (hG.of (Below.heap_alloc _ _ _ hG.lt)).of (Below.heap_alloc _ _ _ (by rw [World.size_alloc]; exact Nat.lt_succ_of_lt hG.lt))
end Go.Proofs.YthibodkemnkjeaaDoor

namespace Go.Proofs.YthibodkemnkjeaaDoor
open Go.RowKit Tv T Go.Shelf

/-- what read does, at one depth. -/
def RdIs (k : Nat) : Prop := ∀ (s : ByteArray) (p stop c : Nat) (W : World) (R : Nat), s.size ≤ 9000 → stop ≤ s.size → p ≤ stop → c ≤ 200 → TRd R s c W →
    Calls Tryd.prog 33 #[.pointer (some ⟨R, 0, none⟩), .int .i64 p, .int .i64 stop, .int .i64 (13 - (k : Int))] W (RdPost k W R s (readT s.data.toList k p stop c))

theorem set3_heap {V : World} {b : Nat} {x y z : Value} {t : TypeId} (h : V.heap[b]? = some (.cells #[x, y, z] t (0, 0))) (x' y' z' : Value) : (((V.setCell ⟨b, 0, none⟩ x').setCell ⟨b, 1, none⟩ y').setCell ⟨b, 2, none⟩ z').heap[b]? = some (.cells #[x', y', z'] t (0, 0)) := by
  have h1 := heap_setCell_same V b 0 _ _ x' h
  have h2 := heap_setCell_same _ b 1 _ _ y' h1
  exact heap_setCell_same _ b 2 _ _ z' h2
theorem joinL_nil {α : Type} (r : Except Int (List α × Nat)) : joinL [] r = r := by cases r <;> rfl
theorem readL_done {α : Type} (rd : Nat → Nat → Except Int (α × Nat × Nat)) (f b c : Nat) : readL rd f b b c = .ok ([], c) := by
  cases f with
  | zero => rfl
  | succ f => unfold readL; rw [if_neg (Nat.lt_irrefl _)]
theorem readL_bad {α : Type} {rd : Nat → Nat → Except Int (α × Nat × Nat)} {f p b c : Nat} {E : Int} (hf : b - p ≤ f) (hp : p < b) (h : rd p c = .error E) : readL rd f p b c = .error E := by
  cases f with
  | zero => omega
  | succ f => unfold readL; rw [if_pos hp, h]
theorem readL_more {α : Type} {rd : Nat → Nat → Except Int (α × Nat × Nat)} {f p b c nx c' : Nat} {x : α} (hf : b - p ≤ f) (hp : p < b) (h : rd p c = .ok (x, nx, c')) (hn : p < nx) : ∃ f', b - nx ≤ f' ∧ ∀ pre : List α, joinL pre (readL rd f p b c) = joinL (pre ++ [x]) (readL rd f' nx b c') := by
  cases f with
  | zero => omega
  | succ f =>
    refine ⟨f, by omega, fun pre => ?_⟩
    rw [readL, if_pos hp, h]
    show joinL pre (match readL rd f nx b c' with | .error e => .error e | .ok (xs, c'') => .ok (x :: xs, c'')) = _
    cases hr : readL rd f nx b c' with
    | error e => rfl
    | ok r => obtain ⟨xs, c''⟩ := r; simp [joinL]

/-- where the trees stand, as they are read. -/
abbrev rdK (s : ByteArray) (k b : Nat) : Nat → Nat → Except Int (Tr (k + 1) × Nat × Nat) := fun q c' => readT s.data.toList k q b c'
/-- what a tree with trees in it is read as. -/
def wrapR (k : Nat) (t : Int) (b : Nat) (r : Except Int (List (Tr (k + 1)) × Nat)) : Except Int (Tr (k + 2) × Nat × Nat) := match r with
  | .error e => .error e
  | .ok (ks, c') => .ok (mk t ⟨#[]⟩ ks, b, c')

set_option maxRecDepth 100000 in
set_option maxHeartbeats 4000000 in
theorem rd_trees (k : Nat) (ih : RdIs k) (hk : k ≤ 11) (W : World) (R : Nat) (s : ByteArray) (c : Nat) (p stop : Nat) (h : TRd R s c W) (hc : c < 200) (hp : p < stop) (hs : s.size ≤ 9000) (hst : stop ≤ s.size) (ht : s[p].toNat % 32 ≠ 31)
    (n q : Nat) (hq : q + n ≤ stop) (hin : isIn s[p].toNat = true)
    (HD : ∀ V, Calls Tryd.prog 52 #[.string (s.extract 0 stop), .int .i64 ((p : Int) + 1)] V fun e w' => e = .returned (.tuple #[.int .i64 n, .int .i64 q, .int .i64 0]) ∧ w' = V) :
    Calls Tryd.prog 33 #[.pointer (some ⟨R, 0, none⟩), .int .i64 p, .int .i64 stop, .int .i64 (12 - (k : Int))] W (RdPost (k + 1) W R s (wrapR k s[p].toNat (q + n) (readL (rdK s k (q + n)) n q (q + n) (c + 1)))) := by
  have IH := hide ih
  have HR := hide (rdV_rd h (s[p].toNat : Int))
  have hR := h.lt
  obtain ⟨w0, w1, wf⟩ := h
  obtain ⟨g0, g1, gf⟩ := rdG_rd (c := c) ⟨w0, w1, wf⟩
  have hne : R ≠ W.heap.size := by omega
  have hne2 : R ≠ W.heap.size + 1 := by omega
  have hc' : (c : Int) ≤ 199 := by omega
  have h2' : decide ((200 : Int) < (c : Int) + 1) = false := decide_eq_false (by omega)
  have h3' : decide (12 < 12 - (k : Int)) = false := decide_eq_false (by omega)
  have p1 : (p : Int) < stop := by omega
  have p2 : (p : Int) < s.size := by omega
  have p3 : (s.size : Int) ≤ 9000 := by omega
  have p4 : (stop : Int) ≤ s.size := by omega
  have t1 : ((s[p].toNat : Int) % 32 == 31) = false := beq_eq_false_iff_ne.2 (by omega)
  have t2 := s[p].toNat_lt
  have HB := hide (rdV_but W R c s[p].toNat)
  have HX := hide (rdV_box W R c s[p].toNat)
  have HY := hide (rdV_tree W R c s[p].toNat)
  have HHD := hide HD
  have tE : ¬ (stop : Int) - q < n := by omega
  have tq : (q : Int) ≤ stop := by omega
  have tn : (n : Int) ≤ 9000 := by omega
  have tl : ((q : Int) + n) ≤ s.size := by omega
  have tI : ((s[p].toNat : Int) / 32 % 2 == 0) = false := by
    have : ((s[p].toNat : Int) / 32 % 2 = 1) := of_decide_eq_true hin
    exact beq_eq_false_iff_ne.2 (by omega)
  have hk' : (k : Int) ≤ 11 := by omega
  have hV : InvR (k + 1) W R s (c + 1) s[p].toNat (.slice none 0 0) [] (rdV W R c s[p].toNat) := by
    refine ⟨unhide HX, unhide HY, unhide HB, ?_, Grow.nil _ _ _, by rw [rdV_size]; omega⟩
    rw [show (((c + 1 : Nat)) : Int) = (c : Int) + 1 by omega]
    exact unhide HR
  have HV := hide hV
  generalize htot : readL (rdK s k (q + n)) n q (q + n) (c + 1) = tot
  have HTOT := hide htot
  clear ht HD hin ih hV HB HX HY HR htot
  go_enter Tryd.func33, Tryd.ntmps33
  go_wp2_with fail
  refine ((unhide HHD) _).mono ?_
  rintro e w' ⟨rfl, rfl⟩
  go_wp2
  go_loopw [15] (fun y wr => ∃ (qi c1 f : Nat) (sl : Value) (pre : List (Tr (k + 1))), q ≤ qi ∧ qi ≤ q + n ∧ c1 ≤ 200 ∧ q + n - qi ≤ f ∧ pre.length ≤ c1 ∧ y = .int .i64 qi ∧ Hid (tot = joinL pre (readL (rdK s k (q + n)) f qi (q + n) c1)) ∧ Hid (InvR (k + 1) W R s c1 s[p].toNat sl pre wr)) (fun y _ => q + n - (intOf y).toNat)
  case atStart => exact ⟨q, c + 1, n, .slice none 0 0, [], Nat.le_refl _, by omega, by omega, by omega, by simp, rfl, by rw [joinL_nil]; exact (unhide HTOT).symm, HV⟩
  case round =>
    obtain ⟨qi, c1, f, sl, pre, hq1, hq2, hc1, hf, hpl, rfl, hT, hI⟩ := hrel
    clear HV HTOT
    obtain ⟨⟨e0, e1, e2⟩, _⟩ := cells3 (unhide hI).b1
    have q1' : (q : Int) ≤ qi := by omega
    have q2' : (qi : Int) ≤ (q : Int) + n := by omega
    by_cases hlt : qi < q + n
    · have hlt' : (qi : Int) < (q : Int) + n := by omega
      have H0 := (unhide IH) s qi (q + n) c1 wr R hs (by omega) (by omega) hc1 (unhide hI).rd
      rw [show (((q + n : Nat)) : Int) = (q : Int) + n by omega, show (13 : Int) - k = 12 - (k : Int) + 1 by omega] at H0
      have H := hide H0
      clear H0
      cases hr : readT s.data.toList k qi (q + n) c1 with
      | error E =>
        have hE := readT_err _ _ _ _ _ _ hr
        have tEE : (E != 0) = true := by simpa using hE
        have HTE := hide (show tot = .error E by rw [unhide hT, readL_bad (rd := rdK s k (q + n)) hf hlt hr]; rfl)
        rw [hr] at H
        clear hr hE hT
        go_wp2_with fail
        refine (unhide H).mono ?_
        rintro e w2 ⟨hb2, rfl⟩
        have hsz := (unhide hI).sz
        have hbb := (hb2.block W.heap.size (by omega) (by omega)).trans (unhide hI).b0
        obtain ⟨⟨y0, y1, y2⟩, z0, z1, z2⟩ := cells3 hbb
        have HBB := hide ((unhide hI).but.trans hb2)
        have HB0 := hide hbb
        have hW2 : W.heap.size < w2.heap.size := (Array.getElem?_eq_some_iff.1 hbb).1
        clear hb2 hbb H hI
        go_wp2
        have hX : ((((w2.setCell ⟨W.heap.size, 0, none⟩ (.int .i64 0)).setCell ⟨W.heap.size, 1, none⟩ (.string ⟨#[]⟩)).setCell ⟨W.heap.size, 2, none⟩ (.slice none 0 0)).alloc (.cells #[.int .i64 0, .string ⟨#[]⟩, .slice none 0 0] 24)).heap[W.heap.size]? = some (.cells #[.int .i64 0, .string ⟨#[]⟩, .slice none 0 0] 24 (0, 0)) :=
          (Below.heap_alloc _ _ _ (by rw [size_set3]; exact hW2)).trans (set3_heap (unhide HB0) _ _ _)
        obtain ⟨⟨x0, x1, x2⟩, _⟩ := cells3 hX
        refine bodyPost_ret (v := .tuple #[zeroN, .int .i64 0, .int .i64 E]) (by simp [results, Tryd.results33, go_sem, x0, x1, x2]) rfl ?_
        rw [unhide HTE]
        exact ⟨by first | exact ((((unhide HBB).own (Nat.le_refl _) _ _).own (Nat.le_refl _) _ _).own (Nat.le_refl _) _ _).alloc _ | exact (((((unhide HBB).alloc _).own (Nat.le_refl _) _ _).own (Nat.le_refl _) _ _).own (Nat.le_refl _) _ _), rfl⟩
      | ok r =>
        obtain ⟨T, nx, c2⟩ := r
        obtain ⟨_, k2, k3, _, k5, k6⟩ := readT_props s.data.toList k qi (q + n) c1 T nx c2 (by simp; omega) hc1 hr
        have hcp := count_pos (k + 1) T
        obtain ⟨f', hf', hjo⟩ := readL_more (rd := rdK s k (q + n)) hf hlt hr (by omega)
        have HTN := hide (show tot = joinL (pre ++ [T]) (readL (rdK s k (q + n)) f' nx (q + n) c2) by rw [unhide hT]; exact hjo pre)
        rw [hr] at H
        obtain ⟨i0, hi0, hz0, hz1, hz2⟩ := info_parts infoNode
        clear hr hT hjo
        go_wp2_with fail
        refine (unhide H).mono ?_
        rintro e w2 ⟨hb2, ⟨v, rfl, hN⟩, hrd⟩
        obtain ⟨vt, vd, va, vl, vc, rfl⟩ := hN.agg
        have hI2 := (unhide hI).go hR hb2 hrd
        have hI3 := hI2.alloc hR (.cells #[.int .i64 vt, .string vd, .slice va vl vc] 24)
        have hol : ∀ g', sl.ownBlock = some g' → g' < wr.heap.size := fun g' hg' => ((unhide hI).gr.lt hg').2
        have hlo := (unhide hI).sz
        have hN3 := hN.below ((Below.refl _ _).alloc (Nat.le_refl _) (.cells #[.int .i64 vt, .string vd, .slice va vl vc] 24))
        have hbx := World.alloc_heap_new w2 (.cells #[.int .i64 vt, .string vd, .slice va vl vc] 24)
        have hz3 : (w2.alloc (.cells #[.int .i64 vt, .string vd, .slice va vl vc] 24)).heap.size = w2.heap.size + 1 := by simp
        obtain ⟨sla, slc, rfl⟩ := hI3.gr.form
        obtain ⟨vs, hvl, ho, hNs⟩ := hI3.gr
        obtain ⟨⟨m0, m1, m2⟩, mf⟩ := cells3 hI3.b1
        obtain ⟨⟨b0, b1, b2⟩, _⟩ := cells3 hbx
        have HI3 := hide hI3
        have HN3 := hide hN3
        have HOL := hide hol
        have HVL := hide hvl
        have HO := hide (ho.alloc (.cells #[.int .i64 vt, .string vd, .slice va vl vc] 24))
        have HNS := hide hNs
        have hz2' : wr.heap.size ≤ w2.heap.size := hb2.size
        clear hb2 hrd hN H hI hI2 hI3 hN3 hol hbx e0 e1 e2 hvl ho hNs
        have hnc := newCells (w2.alloc (.cells #[.int .i64 vt, .string vd, .slice va vl vc] 24)) (.int .i64 vt) (.string vd) (.slice va vl vc)
        rw [World.size_alloc] at hnc
        have HNC := hide hnc
        clear hnc
        go_wp2_with (at_builtin; refine wpList_append_lies _ rfl (.tmp 118) (.tmp 120) 22 rfl (W.heap.size + 2) 24 i0 zeroN 3 48 Tryd.underlying22 hi0 hz0 hz1 hz2 rfl (by omega) (.slice sla pre.length slc) pre.length (vs.flatMap trip) rfl (unhide HO) ⟨w2.heap.size + 1, 0, none⟩ 1 1 [.int .i64 vt, .string vd, .slice va vl vc] rfl rfl (unhide HNC) (by simp [Value.oneCell']) (by omega) (by unfold maxLen; omega) (by omega) (by simp; omega) (w2.heap.size + 1 + 1) (by simp) ?_; intro gg cp w4 hown hgrow hat hglt; obtain ⟨⟨q0, q1, q2⟩, r0, r1, r2⟩ := cells3 ((unhide HI3).keep4 hgrow); replace hown := hide hown; replace hgrow := hide hgrow; replace hat := hide hat)
        go_roundw
        case rel =>
          refine ⟨nx, c2, f', .slice (some ⟨gg, 0, none⟩) (pre.length + 1) cp, pre ++ [T], by omega, k2, k6, hf', by simp; omega, rfl, HTN, ?_⟩
          have hat' := unhide hat
          rw [show w2.heap.size + 1 + 1 = (w2.alloc (.cells #[.int .i64 vt, .string vd, .slice va vl vc] 24)).heap.size + 1 by simp] at hat'
          exact (unhide HI3).snoc hR (unhide HVL) (unhide HNS) (unhide HN3) hlo (unhide HOL) (unhide hown) (unhide hgrow) hat'
        case measure => simp [intOf]; omega
    · have hge : ¬ (qi : Int) < (q : Int) + n := by omega
      obtain rfl : qi = q + n := by omega
      have HTE := hide (show tot = .ok (pre, c1) by rw [unhide hT, readL_done]; simp [joinL])
      have hIu := unhide hI
      obtain ⟨sla, slc, rfl⟩ := hIu.gr.form
      have hF := hIu.gr.node (s[p].toNat : Int) ⟨#[]⟩ (Nat.zero_le _) (by omega)
      obtain ⟨⟨y0, y1, y2⟩, z0, z1, z2⟩ := cells3 hIu.b0
      have HF := hide hF
      have hX := set3_heap hIu.b0 (.int .i64 s[p].toNat) (.string ⟨#[]⟩) (.slice sla pre.length slc)
      have HX := hide hX
      have HBB := hide hIu.but
      have HRD := hide hIu.rd
      clear hIu hF hI hT hX
      go_wp2
      obtain ⟨⟨x0, x1, x2⟩, _⟩ := cells3 (unhide HX)
      refine bodyPost_ret (v := .tuple #[.agg #[.int .i64 s[p].toNat, .string ⟨#[]⟩, .slice sla pre.length slc], .int .i64 ((q : Int) + n), .int .i64 0]) (by simp [results, Tryd.results33, go_sem, x0, x1, x2]) rfl ?_
      rw [unhide HTE]
      refine ⟨(((unhide HBB).own (Nat.le_refl _) _ _).own (Nat.le_refl _) _ _).own (Nat.le_refl _) _ _, ⟨_, by rw [show (((q + n : Nat)) : Int) = (q : Int) + n by omega], (set3_node (unhide HF) (by omega) _ _ _).imp fun b hb _ => by omega⟩, ?_⟩
      refine (unhide HRD).of ?_
      rw [Below.heap_setCell _ _ _ _ (by show R ≠ W.heap.size; omega), Below.heap_setCell _ _ _ _ (by show R ≠ W.heap.size; omega), Below.heap_setCell _ _ _ _ (by show R ≠ W.heap.size; omega)]
end Go.Proofs.YthibodkemnkjeaaDoor

namespace Go.Proofs.YthibodkemnkjeaaDoor
open Go.RowKit Tv T Go.Shelf Go.WideShapes

theorem ext_mid (s : ByteArray) (q n : Nat) : s.extract q (q + n) = ⟨((s.data.toList.drop q).take n).toArray⟩ := bytes_inj (by
  rw [ByteArray.data_extract, Array.toList_extract]
  show (s.data.toList.drop q).take (q + n - q) = _
  rw [show q + n - q = n by omega])
theorem byteAt (s : ByteArray) (p : Nat) (hp : p < s.size) : s.data.toList.getD p 0 = s[p] := by
  have h : p < s.data.toList.length := by simpa using hp
  rw [List.getD_eq_getElem?_getD, List.getElem?_eq_getElem h]
  rfl

theorem rd_any : ∀ (k : Nat), k ≤ 12 → RdIs k
  | 0, _ => fun s p stop c W R _ _ _ hc h => rd_node 0 W R s c p stop (13 - ((0 : Nat) : Int)) h hc (.inr (by omega))
  | k + 1, hk => fun s p stop c W R hs hst hp hc h => by
    have ih := rd_any k (by omega)
    rw [show (13 : Int) - ((k + 1 : Nat) : Int) = 12 - (k : Int) by omega]
    by_cases h200 : c = 200
    · rw [show readT s.data.toList (k + 1) p stop c = .error 21 by unfold readT; rw [if_pos h200]]
      exact rd_node (k + 1) W R s c p stop _ h hc (.inl h200)
    have hrt : readT s.data.toList (k + 1) p stop c = (match headT s.data.toList p stop with
      | .error e => .error e
      | .ok (t, a, b) =>
        if isIn t = true then
          match readL (fun q c' => readT s.data.toList k q b c') (b - a) a b (c + 1) with
          | .error e => .error e
          | .ok (ks, c') => .ok (mk t ⟨#[]⟩ ks, b, c')
        else .ok (mk t ⟨((s.data.toList.drop a).take (b - a)).toArray⟩ [], b, c + 1)) := by
      rw [readT, if_neg h200]
      rfl
    rw [hrt]
    clear hrt
    unfold headT
    by_cases hps : p = stop
    · rw [if_pos hps]
      exact rd_short (k + 1) W R s c p stop _ h (by omega) (by omega) hps
    have hlt : p < stop := by omega
    have hby := byteAt s p (by omega)
    rw [if_neg hps, hby]
    by_cases htg : s[p].toNat % 32 = 31
    · rw [if_pos htg]
      exact rd_tag (k + 1) W R s c p stop _ h (by omega) (by omega) hlt hs hst htg
    rw [if_neg htg]
    obtain ⟨n, q, E, hd⟩ : ∃ n q E, Sz.dec (s.data.toList.take stop) ((p : Int) + 1) = (n, q, E) := ⟨_, _, _, rfl⟩
    have HD : ∀ V, Calls Tryd.prog 52 #[.string (s.extract 0 stop), .int .i64 ((p : Int) + 1)] V fun e w' => e = .returned (.tuple #[.int .i64 n, .int .i64 q, .int .i64 E]) ∧ w' = V := fun V => by
      have := refDecode_any (s.extract 0 stop) ((p : Int) + 1) V (by rw [ByteArray.size_extract]; omega)
      rw [ext_take, hd] at this
      exact this
    obtain ⟨s1, s2⟩ := Sz.dec_shape _ _ _ _ _ hd
    rw [hd]
    by_cases hE : E = 0
    · subst hE
      obtain ⟨k0, n', q', e1, rfl, rfl, e4, e5, e6, _, _⟩ := s2 rfl
      clear s1 s2
      rw [if_neg (by simp)]
      have hlen : (s.data.toList.take stop).length = stop := by rw [List.length_take]; simp; omega
      rw [hlen] at e5
      by_cases hov : (stop : Int) - (q' : Int) < (n' : Int)
      · rw [if_pos hov]
        exact rd_over (k + 1) W R s c p stop _ h (by omega) (by omega) hlt hs hst htg n' q' e5 (by omega) e6 HD
      · rw [if_neg hov]
        simp only [Int.toNat_natCast]
        cases hin : isIn (s[p].toNat : Int)
        · have := rd_leaf (k + 1) W R s c p stop (12 - (k : Int)) h (by omega) (by omega) hlt hs hst htg n' q' (by omega) hin HD
          rw [ext_mid] at this
          simpa [show q' + n' - q' = n' by omega] using this
        · have := rd_trees k ih (by omega) W R s c p stop h (by omega) hlt hs hst htg n' q' (by omega) hin HD
          unfold wrapR rdK at this
          rw [show q' + n' - q' = n' by omega, if_pos rfl]
          refine this.mono fun e V hp => ?_
          generalize readL (fun q c' => readT s.data.toList k q (q' + n') c') n' q' (q' + n') (c + 1) = r at hp ⊢
          cases r with
          | error e => exact hp
          | ok r => obtain ⟨ks, c'⟩ := r; exact hp
    · clear s1 s2
      rw [if_pos hE]
      exact rd_len (k + 1) W R s c p stop _ h (by omega) (by omega) hlt hs hst htg n q E hE HD
end Go.Proofs.YthibodkemnkjeaaDoor
