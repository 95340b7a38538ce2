/-
  What reader.tree of package tlv does at a tree with trees in it. Conditions: the package-level variables hold what the program's text lays; what it does at the next depth.
-/
import Derived.Test.YthibodkemnkjeaaDoorTTrees
import Derived.Test.YthibodkemnkjeaaDoorTGrow
import Derived.Test.YthibodkemnkjeaaDoorRound
import Derived.Deep.AppendLies
namespace Go.Proofs.YthibodkemnkjeaaDoor
open Go.RowKit Tv T Go.Shelf
attribute [local go_sem] Oper.semAt_some

theorem infoNode : (Tryd.prog.info? 24).map (fun i => (i.zero, i.size, i.bytes)) = some (some (.agg #[.int .i64 0, .string ⟨#[]⟩, .slice none 0 0]), 3, 48) := by kernel_rfl
/-- six boxes more. -/
abbrev six (w : World) (t a b R : Nat) (d : Int) : World := (((((w.alloc (.cells #[.int .i64 t, .int .i64 a, .int .i64 b] 107)).alloc (.cells #[.int .i64 t, .string ⟨#[]⟩, .slice none 0 0] 24)).alloc (.cells #[.pointer (some ⟨R, 0, none⟩)] 105)).alloc (.cells #[.int .i64 a] 3)).alloc (.cells #[.int .i64 b] 3)).alloc (.cells #[.int .i64 d] 3)
theorem six_size (w : World) (t a b R : Nat) (d : Int) : (six w t a b R d).heap.size = w.heap.size + 6 := by simp
theorem six_below (w : World) (t a b R : Nat) (d : Int) : Below w.heap.size w (six w t a b R d) := ((((((Below.refl _ _).alloc (Nat.le_refl _) _).alloc (by simp) _).alloc (by simp; omega) _).alloc (by simp; omega) _).alloc (by simp; omega) _).alloc (by simp; omega) _
theorem six_at (w : World) (t a b R : Nat) (d : Int) : (six w t a b R d).heap[w.heap.size]? = some (.cells #[.int .i64 t, .int .i64 a, .int .i64 b] 107 (0, 0)) ∧ (six w t a b R d).heap[w.heap.size + 1]? = some (.cells #[.int .i64 t, .string ⟨#[]⟩, .slice none 0 0] 24 (0, 0)) ∧
    (six w t a b R d).cell? ⟨w.heap.size + 2, 0, none⟩ = some (.pointer (some ⟨R, 0, none⟩)) ∧ (six w t a b R d).cell? ⟨w.heap.size + 3, 0, none⟩ = some (.int .i64 a) ∧ (six w t a b R d).cell? ⟨w.heap.size + 4, 0, none⟩ = some (.int .i64 b) ∧ (six w t a b R d).cell? ⟨w.heap.size + 5, 0, none⟩ = some (.int .i64 d) := by
  have h : (six w t a b R d).heap = (((((w.heap.push (.cells #[.int .i64 t, .int .i64 a, .int .i64 b] 107)).push (.cells #[.int .i64 t, .string ⟨#[]⟩, .slice none 0 0] 24)).push (.cells #[.pointer (some ⟨R, 0, none⟩)] 105)).push (.cells #[.int .i64 a] 3)).push (.cells #[.int .i64 b] 3)).push (.cells #[.int .i64 d] 3) := rfl
  refine ⟨?_, ?_, ?_, ?_, ?_, ?_⟩
  · rw [Below.heap_alloc _ _ _ (by simp; omega), Below.heap_alloc _ _ _ (by simp; omega), Below.heap_alloc _ _ _ (by simp; omega), Below.heap_alloc _ _ _ (by simp; omega), Below.heap_alloc _ _ _ (by simp)]; exact World.alloc_heap_new w _
  · rw [h]; simp [Array.getElem_push]
  · unfold World.cell?; rw [h]; simp [Array.getElem_push]
  · unfold World.cell?; rw [h]; simp [Array.getElem_push]
  · unfold World.cell?; rw [h]; simp [Array.getElem_push]
  · unfold World.cell?; rw [h]; simp [Array.getElem_push]

/-- the activation within a round. -/
abbrev actT (n n1 R : Nat) (p stop deep : Int) (t a b : Nat) (x14 x15 x59 x60 y73 y74 y75 : Value) (ds : List Deferred) : Act :=
  { defers := ds, tmps := #[.pointer (some ⟨R, 0, none⟩), .int .i64 p, .int .i64 stop, .int .i64 deep, undef, undef, undef, undef, .pointer (some ⟨n, 0, none⟩), .pointer (some ⟨n + 1, 0, none⟩), .pointer (some ⟨n + 1 + 1, 0, none⟩), .pointer (some ⟨n1, 0, none⟩), .nilIface, .pointer (some ⟨n1 + 1, 0, none⟩), x14, x15,
  .tuple #[headV t a b, .nilIface], .pointer (some ⟨R, 0, none⟩), .int .i64 p, .int .i64 stop, .int .i64 deep, .tuple #[headV t a b, .nilIface], headV t a b, .nilIface, .nilIface, .bool false, undef, undef, undef, undef, undef, .pointer (some ⟨n1, 0, none⟩), .int .i64 t, .agg #[.int .i64 t, .string ⟨#[]⟩, .slice none 0 0], .pointer (some ⟨n1, 0, none⟩), .int .i64 t, .bool true, .bool false,
  undef, undef, undef, undef, undef, undef, undef, undef, undef, undef, undef, undef, undef, .pointer (some ⟨R, 0, none⟩), .pointer (some ⟨n1, 1, none⟩), .int .i64 a, .pointer (some ⟨n1, 2, none⟩), .int .i64 b, .int .i64 deep, .int .i64 (deep + 1),
  .func (.func 74) #[] #[.pointer (some ⟨n1 + 1 + 1 + 1, 0, none⟩), .pointer (some ⟨n1 + 1 + 1 + 1 + 1, 0, none⟩), .pointer (some ⟨n1 + 1 + 1, 0, none⟩), .pointer (some ⟨n1 + 1 + 1 + 1 + 1 + 1, 0, none⟩)], x59, x60,
  undef, undef, undef, undef, undef, undef, undef, undef, undef, undef, undef, undef, y73, y74, y75] }

/-- what the loop keeps. -/
structure InvT (k : Nat) (w : World) (R n1 t a b : Nat) (pre : List (Tr (k + 1))) (W : World) : Prop where
  hb : W.heap[n1]? = some (.cells #[.int .i64 t, .int .i64 a, .int .i64 b] 107 (0, 0))
  nb : ∃ sl, W.heap[n1 + 1]? = some (.cells #[.int .i64 t, .string ⟨#[]⟩, sl] 24 (0, 0)) ∧ Grow (k + 1) W (n1 + 8) sl pre
  ans : Ans w.heap.size W
  but : But R w W
  sz : n1 + 6 ≤ W.heap.size
theorem InvT.ext {k : Nat} {w : World} {R n1 t a b : Nat} {pre : List (Tr (k + 1))} {A B : World} (h : InvT k w R n1 t a b pre A) (hR : R < w.heap.size) (hn : w.heap.size + 1 + 1 < n1) (l : Nat) (hl : l = R ∨ l = n1 + 7) (hb : But l A B) : InvT k w R n1 t a b pre B := by
  have e : ∀ x, x < A.heap.size → x ≠ R → x ≠ n1 + 7 → B.heap[x]? = A.heap[x]? := fun x hx h1 h2 => hb.block x hx (by rcases hl with rfl | rfl <;> assumption)
  have hz := h.sz
  obtain ⟨sl, h1, h2⟩ := h.nb
  refine ⟨(e _ (by omega) (by omega) (by omega)).trans h.hb, ⟨sl, (e _ (by omega) (by omega) (by omega)).trans h1, h2.of fun b hb1 hb2 => e b hb2 (by omega) (by omega)⟩, ?_, ?_, Nat.le_trans hz hb.size⟩
  · exact ⟨(e _ (by omega) (by omega) (by omega)).trans h.ans.b0, (e _ (by omega) (by omega) (by omega)).trans h.ans.b1, (e _ (by omega) (by omega) (by omega)).trans h.ans.b2⟩
  · have hsz := h.but.size
    exact ⟨hb.os.trans h.but.os, hb.tape.trans h.but.tape, hb.output.trans h.but.output, Nat.le_trans hsz hb.size, fun x hx hn' => (e x (by omega) hn' (by omega)).trans (h.but.block x hx hn')⟩
/-- what a round leaves that returns. -/
structure OutT (w : World) (R : Nat) (v : Value) (W : World) : Prop where
  b0 : W.heap[w.heap.size]? = some (.cells #[.int .i64 0, .string ⟨#[]⟩, .slice none 0 0] 24 (0, 0))
  b1 : W.heap[w.heap.size + 1]? = some (.cells #[.int .i64 0] 3 (0, 0))
  b2 : W.heap[w.heap.size + 1 + 1]? = some (.cells #[v] 48 (0, 0))
  but : But R w W
theorem OutT.ext {w : World} {R n1 : Nat} {v : Value} {A B : World} (h : OutT w R v A) (hn : w.heap.size + 1 + 1 < n1) (hb : But (n1 + 7) A B) : OutT w R v B := by
  have hsz := h.but.size
  have e : ∀ x, x < A.heap.size → x < n1 → B.heap[x]? = A.heap[x]? := fun x hx h1 => hb.block x hx (by omega)
  refine ⟨(e _ (Array.getElem?_eq_some_iff.1 h.b0).1 (by omega)).trans h.b0, (e _ (Array.getElem?_eq_some_iff.1 h.b1).1 (by omega)).trans h.b1, (e _ (Array.getElem?_eq_some_iff.1 h.b2).1 (by omega)).trans h.b2, ?_⟩
  exact ⟨hb.os.trans h.but.os, hb.tape.trans h.but.tape, hb.output.trans h.but.output, Nat.le_trans hsz hb.size, fun x hx hn' => (e x (by omega) (by omega)).trans (h.but.block x hx hn')⟩

/-- what tree leaves at a tree with trees in it. -/
def InnerPost (R : Nat) (s : ByteArray) (A : Ads) (w : World) (k t b : Nat) (r : Except Int (List (Tr (k + 1)) × Nat)) (e : Ending) (w' : World) : Prop := But R w w' ∧ match r with
      | .error E => ∃ v, e = .returned (.tuple #[zeroN, .int .i64 0, v]) ∧ IsErr A v E
      | .ok (ks, c') => ∃ v, e = .returned (.tuple #[v, .int .i64 b, .nilIface]) ∧ Node (k + 1 + 1) w' (fun b => w.heap.size ≤ b) v (mk t ⟨#[]⟩ ks) ∧ TRd R s c' w'

/-- the answers' boxes, stored into. -/
theorem stored5 {W : World} {n : Nat} (h : Ans n W) (x0 x1 x2 x3 x4 : Value) :
    (((((W.setCell ⟨n, 0, none⟩ x0).setCell ⟨n, 1, none⟩ x1).setCell ⟨n, 2, none⟩ x2).setCell ⟨n + 1, 0, none⟩ x3).setCell ⟨n + 1 + 1, 0, none⟩ x4).heap[n]? = some (.cells #[x0, x1, x2] 24 (0, 0)) ∧
    (((((W.setCell ⟨n, 0, none⟩ x0).setCell ⟨n, 1, none⟩ x1).setCell ⟨n, 2, none⟩ x2).setCell ⟨n + 1, 0, none⟩ x3).setCell ⟨n + 1 + 1, 0, none⟩ x4).heap[n + 1]? = some (.cells #[x3] 3 (0, 0)) ∧
    (((((W.setCell ⟨n, 0, none⟩ x0).setCell ⟨n, 1, none⟩ x1).setCell ⟨n, 2, none⟩ x2).setCell ⟨n + 1, 0, none⟩ x3).setCell ⟨n + 1 + 1, 0, none⟩ x4).heap[n + 1 + 1]? = some (.cells #[x4] 48 (0, 0)) := by
  refine ⟨?_, ?_, ?_⟩
  · rw [Below.heap_setCell _ _ _ _ (by show n ≠ n + 1 + 1; omega), Below.heap_setCell _ _ _ _ (by show n ≠ n + 1; omega)]
    exact heap_setCell_same _ n 2 _ _ _ (heap_setCell_same _ n 1 _ _ _ (heap_setCell_same _ n 0 _ _ _ h.b0))
  · rw [Below.heap_setCell _ _ _ _ (by show n + 1 ≠ n + 1 + 1; omega)]
    refine heap_setCell_same _ (n + 1) 0 #[.int .i64 0] _ _ ?_
    rw [Below.heap_setCell _ _ _ _ (by show n + 1 ≠ n; omega), Below.heap_setCell _ _ _ _ (by show n + 1 ≠ n; omega), Below.heap_setCell _ _ _ _ (by show n + 1 ≠ n; omega)]
    exact h.b1
  · refine heap_setCell_same _ (n + 1 + 1) 0 #[.nilIface] _ _ ?_
    rw [Below.heap_setCell _ _ _ _ (by show n + 1 + 1 ≠ n + 1; omega), Below.heap_setCell _ _ _ _ (by show n + 1 + 1 ≠ n; omega), Below.heap_setCell _ _ _ _ (by show n + 1 + 1 ≠ n; omega), Below.heap_setCell _ _ _ _ (by show n + 1 + 1 ≠ n; omega)]
    exact h.b2
theorem os_setCell (w : World) (a : Addr) (v : Value) : (w.setCell a v).os = w.os := rfl
theorem tape_setCell (w : World) (a : Addr) (v : Value) : (w.setCell a v).tape = w.tape := rfl
theorem output_setCell (w : World) (a : Addr) (v : Value) : (w.setCell a v).output = w.output := rfl
theorem stored5' {W V : World} {n : Nat} (h : Ans n W) {x0 x1 x2 x3 x4 : Value} (hV : V = (((((W.setCell ⟨n, 0, none⟩ x0).setCell ⟨n, 1, none⟩ x1).setCell ⟨n, 2, none⟩ x2).setCell ⟨n + 1, 0, none⟩ x3).setCell ⟨n + 1 + 1, 0, none⟩ x4).drew) :
    V.heap[n]? = some (.cells #[x0, x1, x2] 24 (0, 0)) ∧ V.heap[n + 1]? = some (.cells #[x3] 3 (0, 0)) ∧ V.heap[n + 1 + 1]? = some (.cells #[x4] 48 (0, 0)) ∧
    (∀ x, x ≠ n → x ≠ n + 1 → x ≠ n + 1 + 1 → V.heap[x]? = W.heap[x]?) ∧ (V.os = W.os ∧ V.tape = W.tape ∧ V.output = W.output) ∧ V.heap.size = W.heap.size := by
  obtain ⟨s0, s1, s2⟩ := stored5 h x0 x1 x2 x3 x4
  have f5 : ∀ x, x ≠ n → x ≠ n + 1 → x ≠ n + 1 + 1 → (((((W.setCell ⟨n, 0, none⟩ x0).setCell ⟨n, 1, none⟩ x1).setCell ⟨n, 2, none⟩ x2).setCell ⟨n + 1, 0, none⟩ x3).setCell ⟨n + 1 + 1, 0, none⟩ x4).heap[x]? = W.heap[x]? := fun x h2 h3 h4 => by
    rw [Below.heap_setCell _ _ _ _ h4, Below.heap_setCell _ _ _ _ h3, Below.heap_setCell _ _ _ _ h2, Below.heap_setCell _ _ _ _ h2, Below.heap_setCell _ _ _ _ h2]
  have z5 : (((((W.setCell ⟨n, 0, none⟩ x0).setCell ⟨n, 1, none⟩ x1).setCell ⟨n, 2, none⟩ x2).setCell ⟨n + 1, 0, none⟩ x3).setCell ⟨n + 1 + 1, 0, none⟩ x4).heap.size = W.heap.size := by
    rw [size_setCell, size_setCell, size_setCell, size_setCell, size_setCell]
  have o5 : (((((W.setCell ⟨n, 0, none⟩ x0).setCell ⟨n, 1, none⟩ x1).setCell ⟨n, 2, none⟩ x2).setCell ⟨n + 1, 0, none⟩ x3).setCell ⟨n + 1 + 1, 0, none⟩ x4).os = W.os ∧ (((((W.setCell ⟨n, 0, none⟩ x0).setCell ⟨n, 1, none⟩ x1).setCell ⟨n, 2, none⟩ x2).setCell ⟨n + 1, 0, none⟩ x3).setCell ⟨n + 1 + 1, 0, none⟩ x4).tape = W.tape ∧ (((((W.setCell ⟨n, 0, none⟩ x0).setCell ⟨n, 1, none⟩ x1).setCell ⟨n, 2, none⟩ x2).setCell ⟨n + 1, 0, none⟩ x3).setCell ⟨n + 1 + 1, 0, none⟩ x4).output = W.output := by
    refine ⟨?_, ?_, ?_⟩
    · rw [os_setCell, os_setCell, os_setCell, os_setCell, os_setCell]
    · rw [tape_setCell, tape_setCell, tape_setCell, tape_setCell, tape_setCell]
    · rw [output_setCell, output_setCell, output_setCell, output_setCell, output_setCell]
  generalize (((((W.setCell ⟨n, 0, none⟩ x0).setCell ⟨n, 1, none⟩ x1).setCell ⟨n, 2, none⟩ x2).setCell ⟨n + 1, 0, none⟩ x3).setCell ⟨n + 1 + 1, 0, none⟩ x4) = X at *
  subst hV
  exact ⟨s0, s1, s2, f5, o5, z5⟩
/-- what is left when the rounds are over. -/
theorem doneT {k R n1 t b : Nat} {s : ByteArray} {A : Ads} {w W V V' : World} {pre : List (Tr (k + 1))} {c : Nat} {a : Nat} {r : Except Int (List (Tr (k + 1)) × Nat)} {sla : Option Addr} {slc : Nat} (hR : R < w.heap.size) (hn1 : w.heap.size + 1 + 1 < n1) (hI : InvT k w R n1 t a b pre W) (hT : TRd R s c W) (hgr : Grow (k + 1) W (n1 + 8) (.slice sla pre.length slc) pre) (hp : pre.length ≤ 4000) (hok : r = .ok (pre, c))
    (hV : V = (((((W.setCell ⟨w.heap.size, 0, none⟩ (.int .i64 t)).setCell ⟨w.heap.size, 1, none⟩ (.string ⟨#[]⟩)).setCell ⟨w.heap.size, 2, none⟩ (.slice sla pre.length slc)).setCell ⟨w.heap.size + 1, 0, none⟩ (.int .i64 b)).setCell ⟨w.heap.size + 1 + 1, 0, none⟩ .nilIface).drew) (hV' : V' = V.putObj (n1 + 6) (.deferred none)) :
    (V'.cell? ⟨w.heap.size, 0, none⟩ = some (.int .i64 t) ∧ V'.cell? ⟨w.heap.size, 1, none⟩ = some (.string ⟨#[]⟩) ∧ V'.cell? ⟨w.heap.size, 2, none⟩ = some (.slice sla pre.length slc) ∧ V'.cell? ⟨w.heap.size + 1, 0, none⟩ = some (.int .i64 b) ∧ V'.cell? ⟨w.heap.size + 1 + 1, 0, none⟩ = some .nilIface) ∧
    InnerPost R s A w k t b r (.returned (.tuple #[.agg #[.int .i64 t, .string ⟨#[]⟩, .slice sla pre.length slc], .int .i64 b, .nilIface])) V' := by
  obtain ⟨s0, s1, s2, f5, ⟨o1, o2, o3⟩, z5⟩ := stored5' hI.ans hV
  clear hV
  have e6 : ∀ x, x ≠ n1 + 6 → V'.heap[x]? = V.heap[x]? := fun x hx => by rw [hV']; exact World.putObj_heap_other hx
  have z6 : V'.heap.size = V.heap.size := by rw [hV']; exact World.putObj_size
  have p1 : V'.os = V.os := by rw [hV']; rfl
  have p2 : V'.tape = V.tape := by rw [hV']; rfl
  have p3 : V'.output = V.output := by rw [hV']; rfl
  clear hV'
  have f6 : ∀ x, x ≠ n1 + 6 → x ≠ w.heap.size → x ≠ w.heap.size + 1 → x ≠ w.heap.size + 1 + 1 → V'.heap[x]? = W.heap[x]? := fun x h1 h2 h3 h4 => (e6 x h1).trans (f5 x h2 h3 h4)
  obtain ⟨u0, u1, u2⟩ := (cells3 ((e6 _ (by omega)).trans s0)).1
  have hsz := hI.but.size
  refine ⟨⟨u0, u1, u2, by simp [World.cell?, (e6 _ (show w.heap.size + 1 ≠ n1 + 6 by omega)).trans s1], by simp [World.cell?, (e6 _ (show w.heap.size + 1 + 1 ≠ n1 + 6 by omega)).trans s2]⟩, ⟨p1.trans (o1.trans hI.but.os), p2.trans (o2.trans hI.but.tape), p3.trans (o3.trans hI.but.output), by omega, fun x hx hn => (f6 x (by omega) (by omega) (by omega) (by omega)).trans (hI.but.block x hx hn)⟩, ?_⟩
  rw [hok]
  have HG : Grow (k + 1) V' (n1 + 8) (.slice sla pre.length slc) pre := hgr.of (fun x hx _ => f6 x (by omega) (by omega) (by omega) (by omega))
  have HT : TRd R s c V' := hT.of (w' := V') (f6 R (by omega) (by omega) (by omega) (by omega))
  exact ⟨_, rfl, (HG.node t ⟨#[]⟩ (Nat.zero_le _) hp).imp fun b hb _ => by omega, HT⟩
theorem stopT {k R n1 t b : Nat} {s : ByteArray} {A : Ads} {w W V' : World} {v : Value} {E : Int} {r : Except Int (List (Tr (k + 1)) × Nat)} (hn1 : w.heap.size + 1 + 1 < n1) (hO : OutT w R v W) (hE : IsErr A v E) (hr : r = .error E) (hV' : V' = W.putObj (n1 + 6) (.deferred none)) :
    (V'.cell? ⟨w.heap.size, 0, none⟩ = some (.int .i64 0) ∧ V'.cell? ⟨w.heap.size, 1, none⟩ = some (.string ⟨#[]⟩) ∧ V'.cell? ⟨w.heap.size, 2, none⟩ = some (.slice none 0 0) ∧ V'.cell? ⟨w.heap.size + 1, 0, none⟩ = some (.int .i64 0) ∧ V'.cell? ⟨w.heap.size + 1 + 1, 0, none⟩ = some v) ∧
    InnerPost R s A w k t b r (.returned (.tuple #[zeroN, .int .i64 0, v])) V' := by
  have e6 : ∀ x, x ≠ n1 + 6 → V'.heap[x]? = W.heap[x]? := fun x hx => by rw [hV']; exact World.putObj_heap_other hx
  have z6 : V'.heap.size = W.heap.size := by rw [hV']; exact World.putObj_size
  have p1 : V'.os = W.os := by rw [hV']; rfl
  have p2 : V'.tape = W.tape := by rw [hV']; rfl
  have p3 : V'.output = W.output := by rw [hV']; rfl
  clear hV'
  obtain ⟨u0, u1, u2⟩ := (cells3 ((e6 _ (by omega)).trans hO.b0)).1
  have hsz := hO.but.size
  refine ⟨⟨u0, u1, u2, by simp [World.cell?, (e6 _ (show w.heap.size + 1 ≠ n1 + 6 by omega)).trans hO.b1], by simp [World.cell?, (e6 _ (show w.heap.size + 1 + 1 ≠ n1 + 6 by omega)).trans hO.b2]⟩, ⟨p1.trans hO.but.os, p2.trans hO.but.tape, p3.trans hO.but.output, by omega, fun x hx hn => (e6 x (by omega)).trans (hO.but.block x hx hn)⟩, ?_⟩
  rw [hr]
  exact ⟨_, rfl, hE⟩
/-- what a round leaves that returns an error. -/
theorem errT {k R n1 t a b : Nat} {w W : World} {pre : List (Tr (k + 1))} {v : Value} (hn1 : w.heap.size + 1 + 1 < n1) (hI : InvT k w R n1 t a b pre W) :
    Two (n1 + 6) (n1 + 6 + 1) W (((((W.setCell ⟨w.heap.size, 0, none⟩ (.int .i64 0)).setCell ⟨w.heap.size, 1, none⟩ (.string ⟨#[]⟩)).setCell ⟨w.heap.size, 2, none⟩ (.slice none 0 0)).setCell ⟨w.heap.size + 1, 0, none⟩ (.int .i64 0)).setCell ⟨w.heap.size + 1 + 1, 0, none⟩ v) ∧
    OutT w R v (((((W.setCell ⟨w.heap.size, 0, none⟩ (.int .i64 0)).setCell ⟨w.heap.size, 1, none⟩ (.string ⟨#[]⟩)).setCell ⟨w.heap.size, 2, none⟩ (.slice none 0 0)).setCell ⟨w.heap.size + 1, 0, none⟩ (.int .i64 0)).setCell ⟨w.heap.size + 1 + 1, 0, none⟩ v) := by
  obtain ⟨s0, s1, s2, f5, _, _⟩ := stored5' (V := (((((W.setCell ⟨w.heap.size, 0, none⟩ (.int .i64 0)).setCell ⟨w.heap.size, 1, none⟩ (.string ⟨#[]⟩)).setCell ⟨w.heap.size, 2, none⟩ (.slice none 0 0)).setCell ⟨w.heap.size + 1, 0, none⟩ (.int .i64 0)).setCell ⟨w.heap.size + 1 + 1, 0, none⟩ v).drew) hI.ans rfl
  have hb : But R w (((((W.setCell ⟨w.heap.size, 0, none⟩ (.int .i64 0)).setCell ⟨w.heap.size, 1, none⟩ (.string ⟨#[]⟩)).setCell ⟨w.heap.size, 2, none⟩ (.slice none 0 0)).setCell ⟨w.heap.size + 1, 0, none⟩ (.int .i64 0)).setCell ⟨w.heap.size + 1 + 1, 0, none⟩ v) :=
    ((((hI.but.setNew (by omega) _ _).setNew (by omega) _ _).setNew (by omega) _ _).setNew (by omega) _ _).setNew (by omega) _ _
  generalize (((((W.setCell ⟨w.heap.size, 0, none⟩ (.int .i64 0)).setCell ⟨w.heap.size, 1, none⟩ (.string ⟨#[]⟩)).setCell ⟨w.heap.size, 2, none⟩ (.slice none 0 0)).setCell ⟨w.heap.size + 1, 0, none⟩ (.int .i64 0)).setCell ⟨w.heap.size + 1 + 1, 0, none⟩ v) = V at *
  exact ⟨⟨f5 _ (by omega) (by omega) (by omega), f5 _ (by omega) (by omega) (by omega)⟩, ⟨s0, s1, s2, hb⟩⟩
/-- what a round leaves that has told a tree. -/
theorem tellT {k R n1 t a b lo g cap : Nat} {w W V w1 : World} {pre : List (Tr (k + 1))} {T : Tr (k + 1)} {sl c0 c1 c2 z0 z1 z2 : Value} {tz : TypeId} {vs : List (Value × Value × Value)} (hn1 : w.heap.size + 1 + 1 < n1) (hI : InvT k w R n1 t a b pre W) (hsz : n1 + 8 ≤ W.heap.size)
    (hvl : vs.length = pre.length) (hNs : ∀ (i : Nat) v T, vs[i]? = some v → pre[i]? = some T → Node (k + 1) W (fun b => n1 + 8 ≤ b ∧ some b ≠ sl.ownBlock) (.agg #[v.1, v.2.1, v.2.2]) T)
    (ho : W.ownsRow (n1 + 8) 24 3 sl pre.length (vs.flatMap trip))
    (hN : Node (k + 1) W (fun b => lo ≤ b) (.agg #[c0, c1, c2]) T) (hlo : n1 + 8 ≤ lo) (hol : ∀ g', sl.ownBlock = some g' → g' < lo)
    (hgrow : (W.alloc (.cells #[z0, z1, z2] tz)).drew.grownBy w1 sl.ownBlock) (hat : sl.ownBlock = some g ∨ g = W.heap.size + 1)
    (hVo : V.ownsRow (n1 + 8) 24 3 (.slice (some ⟨g, 0, none⟩) (pre.length + 1) cap) (pre.length + 1) (vs.flatMap trip ++ [c0, c1, c2]))
    (hVn : V.heap[n1 + 1]? = some (.cells #[.int .i64 t, .string ⟨#[]⟩, .slice (some ⟨g, 0, none⟩) (pre.length + 1) cap] 24 (0, 0)))
    (hVx : ∀ x, x ≠ g → x ≠ n1 + 1 → V.heap[x]? = w1.heap[x]?) (hVs : V.heap.size = w1.heap.size) (hVe : V.os = w1.os ∧ V.tape = w1.tape ∧ V.output = w1.output) :
    Two (n1 + 6) (n1 + 6 + 1) W V ∧ Kept (n1 + 6) (n1 + 1) W V ∧ InvT k w R n1 t a b (pre ++ [T]) V := by
  have hz1 : W.heap.size + 1 ≤ w1.heap.size := by have := hgrow.size; simp at this; omega
  have hown : ∀ g', sl.ownBlock = some g' → n1 + 8 ≤ g' := fun g' h => (ho.lt g' h).1
  have hg8 : n1 + 8 ≤ g := by rcases hat with h | h; exact hown g h; omega
  have e : ∀ x, x < W.heap.size → x ≠ n1 + 1 → some x ≠ sl.ownBlock → x ≠ g → V.heap[x]? = W.heap[x]? := fun x hx h1 h2 h3 =>
    (hVx x h3 h1).trans ((hgrow.block x (by show x < (W.alloc _).heap.size; simp; omega) h2).trans (Below.heap_alloc W _ x hx))
  have e' : ∀ x, x < n1 + 8 → x ≠ n1 + 1 → V.heap[x]? = W.heap[x]? := fun x hx h1 => e x (by omega) h1 (fun h => by have := hown x h.symm; omega) (by omega)
  refine ⟨⟨e' _ (by omega) (by omega), e' _ (by omega) (by omega)⟩, ⟨by omega, fun x hx h1 _ => e' x (by omega) h1⟩, ⟨(e' _ (by omega) (by omega)).trans hI.hb, ⟨_, hVn, ?_⟩, ?_, ?_, by omega⟩⟩
  · have := grow_snoc (g := g) (cap := cap) (lo := lo) (W5 := V) hvl hNs hVo (fun x h1 h2 h3 h4 => e x h2 (by omega) h3 h4) (by rcases hat with h | h; exact .inl h; right; omega) hN hlo hol
    simpa using this
  · exact ⟨(e' _ (by omega) (by omega)).trans hI.ans.b0, (e' _ (by omega) (by omega)).trans hI.ans.b1, (e' _ (by omega) (by omega)).trans hI.ans.b2⟩
  · have hs1 := hI.but.size
    exact ⟨hVe.1.trans (hgrow.os.trans hI.but.os), hVe.2.1.trans (hgrow.tape.trans hI.but.tape), hVe.2.2.trans (hgrow.output.trans hI.but.output), by omega, fun x hx hn => (e' x (by omega) (by omega)).trans (hI.but.block x hx hn)⟩
/-- the cells of the last one of a row. -/
theorem lastCells {w1 : World} {base g n cap : Nat} {xs : List Value} {z0 z1 z2 : Value} (h : w1.ownsRow base 24 3 (.slice (some ⟨g, 0, none⟩) (n + 1) cap) (n + 1) (xs ++ [z0, z1, z2])) :
    (w1.cell? ⟨g, n * 3, none⟩ = some z0 ∧ w1.cell? ⟨g, n * 3 + 1, none⟩ = some z1 ∧ w1.cell? ⟨g, n * 3 + 2, none⟩ = some z2) ∧ w1.frozen? ⟨g, n * 3, none⟩ = false ∧ w1.frozen? ⟨g, n * 3 + 1, none⟩ = false ∧ w1.frozen? ⟨g, n * 3 + 2, none⟩ = false := by
  have hl : xs.length = n * 3 := by have := h.1; simp at this; omega
  have hc : ∀ (j : Nat) u, (xs ++ [z0, z1, z2])[j]? = some u → w1.cell? ⟨g, j, none⟩ = some u := fun j u hj => by
    have := h.cells (g := g) rfl j u hj
    rw [show (⟨g, 0, none⟩ : Addr).add j = ⟨g, j, none⟩ from by unfold Addr.add; split <;> simp_all] at this
    exact this
  refine ⟨⟨hc _ _ ?_, hc _ _ ?_, hc _ _ ?_⟩, h.frozenAt _, h.frozenAt _, h.frozenAt _⟩
  · rw [List.getElem?_append_right (by omega)]; simp [hl]
  · rw [List.getElem?_append_right (by omega)]; simp [hl]
  · rw [List.getElem?_append_right (by omega)]; simp [hl]
theorem store3 {w1 : World} {base g n cap : Nat} {xs : List Value} {z0 z1 z2 : Value} (h : w1.ownsRow base 24 3 (.slice (some ⟨g, 0, none⟩) (n + 1) cap) (n + 1) (xs ++ [z0, z1, z2])) (c0 c1 c2 : Value) :
    (((w1.setCell ⟨g, n * 3, none⟩ c0).setCell ⟨g, n * 3 + 1, none⟩ c1).setCell ⟨g, n * 3 + 2, none⟩ c2).ownsRow base 24 3 (.slice (some ⟨g, 0, none⟩) (n + 1) cap) (n + 1) (xs ++ [c0, c1, c2]) ∧
    (∀ x, x ≠ g → (((w1.setCell ⟨g, n * 3, none⟩ c0).setCell ⟨g, n * 3 + 1, none⟩ c1).setCell ⟨g, n * 3 + 2, none⟩ c2).heap[x]? = w1.heap[x]?) ∧ (((w1.setCell ⟨g, n * 3, none⟩ c0).setCell ⟨g, n * 3 + 1, none⟩ c1).setCell ⟨g, n * 3 + 2, none⟩ c2).heap.size = w1.heap.size ∧
    ((((w1.setCell ⟨g, n * 3, none⟩ c0).setCell ⟨g, n * 3 + 1, none⟩ c1).setCell ⟨g, n * 3 + 2, none⟩ c2).os = w1.os ∧ (((w1.setCell ⟨g, n * 3, none⟩ c0).setCell ⟨g, n * 3 + 1, none⟩ c1).setCell ⟨g, n * 3 + 2, none⟩ c2).tape = w1.tape ∧ (((w1.setCell ⟨g, n * 3, none⟩ c0).setCell ⟨g, n * 3 + 1, none⟩ c1).setCell ⟨g, n * 3 + 2, none⟩ c2).output = w1.output) := by
  have hl : xs.length = n * 3 := by have := h.1; simp at this; omega
  have h3 := (((h.stored (n * 3) c0).1.stored (n * 3 + 1) c1).1.stored (n * 3 + 2) c2).1
  have e : (((xs ++ [z0, z1, z2]).set (n * 3) c0).set (n * 3 + 1) c1).set (n * 3 + 2) c2 = xs ++ [c0, c1, c2] := by
    rw [List.set_append_right _ _ (by omega), List.set_append_right _ _ (by omega), List.set_append_right _ _ (by omega), hl]
    simp
  rw [e] at h3
  refine ⟨h3, fun x hx => ?_, ?_, ?_, ?_, ?_⟩
  · rw [Below.heap_setCell _ _ _ _ hx, Below.heap_setCell _ _ _ _ hx, Below.heap_setCell _ _ _ _ hx]
  · rw [size_setCell, size_setCell, size_setCell]
  · rw [os_setCell, os_setCell, os_setCell]
  · rw [tape_setCell, tape_setCell, tape_setCell]
  · rw [output_setCell, output_setCell, output_setCell]
theorem ownsForm {W : World} {base : Nat} {e : TypeId} {size : Nat} {ad : Addr} {len cap n : Nat} {xs : List Value} (ho : W.ownsRow base e size (.slice (some ad) len cap) n xs) : ∃ g c, (Value.slice (some ad) len cap) = .slice (some ⟨g, 0, none⟩) n c := by
  rcases ho.2 with ⟨h, _⟩ | ⟨g, c, cur, h, _⟩
  · cases h
  · exact ⟨g, c, h⟩
theorem keptNb {W w1 : World} {n1 : Nat} {sl z0 z1 z2 : Value} {tz : TypeId} {o : Obj} {n : Nat} {xs : List Value} (ho : W.ownsRow (n1 + 8) 24 3 sl n xs) (hsz : n1 + 8 ≤ W.heap.size) (hgrow : (W.alloc (.cells #[z0, z1, z2] tz)).drew.grownBy w1 sl.ownBlock) (h : W.heap[n1 + 1]? = some o) : w1.heap[n1 + 1]? = some o :=
  (hgrow.block _ (by show n1 + 1 < (W.alloc _).heap.size; simp; omega) (fun h => by have := (ho.lt _ h.symm).1; omega)).trans ((Below.heap_alloc W _ _ (by omega)).trans h)
theorem tell79 {k R n1 t a b lo g cap : Nat} {w W w1 : World} {pre : List (Tr (k + 1))} {T : Tr (k + 1)} {sl c0 c1 c2 y0 y1 y2 z0 z1 z2 : Value} {tz : TypeId} {vs : List (Value × Value × Value)} (hn1 : w.heap.size + 1 + 1 < n1) (hI : InvT k w R n1 t a b pre W) (hsz : n1 + 8 ≤ W.heap.size)
    (hnb : W.heap[n1 + 1]? = some (.cells #[.int .i64 t, .string ⟨#[]⟩, sl] 24 (0, 0)))
    (hvl : vs.length = pre.length) (hNs : ∀ (i : Nat) v T, vs[i]? = some v → pre[i]? = some T → Node (k + 1) W (fun b => n1 + 8 ≤ b ∧ some b ≠ sl.ownBlock) (.agg #[v.1, v.2.1, v.2.2]) T)
    (ho : W.ownsRow (n1 + 8) 24 3 sl pre.length (vs.flatMap trip))
    (hN : Node (k + 1) W (fun b => lo ≤ b) (.agg #[c0, c1, c2]) T) (hlo : n1 + 8 ≤ lo) (hol : ∀ g', sl.ownBlock = some g' → g' < lo)
    (hgrow : (W.alloc (.cells #[z0, z1, z2] tz)).drew.grownBy w1 sl.ownBlock) (hat : sl.ownBlock = some g ∨ g = W.heap.size + 1)
    (hown1 : w1.ownsRow (n1 + 8) 24 3 (.slice (some ⟨g, 0, none⟩) (pre.length + 1) cap) (pre.length + 1) (vs.flatMap trip ++ [y0, y1, y2])) :
    Two (n1 + 6) (n1 + 6 + 1) W ((((w1.setCell ⟨g, pre.length * 3, none⟩ c0).setCell ⟨g, pre.length * 3 + 1, none⟩ c1).setCell ⟨g, pre.length * 3 + 2, none⟩ c2).setCell ⟨n1 + 1, 2, none⟩ (.slice (some ⟨g, 0, none⟩) (pre.length + 1) cap)) ∧
    Kept (n1 + 6) (n1 + 1) W ((((w1.setCell ⟨g, pre.length * 3, none⟩ c0).setCell ⟨g, pre.length * 3 + 1, none⟩ c1).setCell ⟨g, pre.length * 3 + 2, none⟩ c2).setCell ⟨n1 + 1, 2, none⟩ (.slice (some ⟨g, 0, none⟩) (pre.length + 1) cap)) ∧
    InvT k w R n1 t a b (pre ++ [T]) ((((w1.setCell ⟨g, pre.length * 3, none⟩ c0).setCell ⟨g, pre.length * 3 + 1, none⟩ c1).setCell ⟨g, pre.length * 3 + 2, none⟩ c2).setCell ⟨n1 + 1, 2, none⟩ (.slice (some ⟨g, 0, none⟩) (pre.length + 1) cap)) := by
  obtain ⟨p1, p2, p3, p4⟩ := store3 hown1 c0 c1 c2
  have hg8 : n1 + 8 ≤ g := by rcases hat with h | h; exact (ho.lt _ h).1; omega
  have hnb1 := keptNb ho hsz hgrow hnb
  generalize (((w1.setCell ⟨g, pre.length * 3, none⟩ c0).setCell ⟨g, pre.length * 3 + 1, none⟩ c1).setCell ⟨g, pre.length * 3 + 2, none⟩ c2) = U at *
  exact tellT hn1 hI hsz hvl hNs ho hN hlo hol hgrow hat (ownsRow_setCell_below p1 (by show n1 + 1 < _; omega) _) (heap_setCell_same U (n1 + 1) 2 _ _ _ ((p2 _ (by omega)).trans hnb1)) (fun x hx hn => (Below.heap_setCell U ⟨n1 + 1, 2, none⟩ _ x hn).trans (p2 x hx)) ((size_setCell _ _ _).trans p3) p4
theorem tell97 {k R n1 t a b lo g cap : Nat} {w W w1 : World} {pre : List (Tr (k + 1))} {T : Tr (k + 1)} {sl c0 c1 c2 y0 y1 y2 z0 z1 z2 : Value} {tz : TypeId} {vs : List (Value × Value × Value)} (hn1 : w.heap.size + 1 + 1 < n1) (hI : InvT k w R n1 t a b pre W) (hsz : n1 + 8 ≤ W.heap.size)
    (hnb : W.heap[n1 + 1]? = some (.cells #[.int .i64 t, .string ⟨#[]⟩, sl] 24 (0, 0)))
    (hvl : vs.length = pre.length) (hNs : ∀ (i : Nat) v T, vs[i]? = some v → pre[i]? = some T → Node (k + 1) W (fun b => n1 + 8 ≤ b ∧ some b ≠ sl.ownBlock) (.agg #[v.1, v.2.1, v.2.2]) T)
    (ho : W.ownsRow (n1 + 8) 24 3 sl pre.length (vs.flatMap trip))
    (hN : Node (k + 1) W (fun b => lo ≤ b) (.agg #[c0, c1, c2]) T) (hlo : n1 + 8 ≤ lo) (hol : ∀ g', sl.ownBlock = some g' → g' < lo)
    (hgrow : (W.alloc (.cells #[z0, z1, z2] tz)).drew.grownBy w1 sl.ownBlock) (hat : sl.ownBlock = some g ∨ g = W.heap.size + 1)
    (hown1 : w1.ownsRow (n1 + 8) 24 3 (.slice (some ⟨g, 0, none⟩) (pre.length + 1) cap) (pre.length + 1) (vs.flatMap trip ++ [y0, y1, y2])) :
    Two (n1 + 6) (n1 + 6 + 1) W ((((w1.setCell ⟨n1 + 1, 2, none⟩ (.slice (some ⟨g, 0, none⟩) (pre.length + 1) cap)).setCell ⟨g, pre.length * 3, none⟩ c0).setCell ⟨g, pre.length * 3 + 1, none⟩ c1).setCell ⟨g, pre.length * 3 + 2, none⟩ c2) ∧
    Kept (n1 + 6) (n1 + 1) W ((((w1.setCell ⟨n1 + 1, 2, none⟩ (.slice (some ⟨g, 0, none⟩) (pre.length + 1) cap)).setCell ⟨g, pre.length * 3, none⟩ c0).setCell ⟨g, pre.length * 3 + 1, none⟩ c1).setCell ⟨g, pre.length * 3 + 2, none⟩ c2) ∧
    InvT k w R n1 t a b (pre ++ [T]) ((((w1.setCell ⟨n1 + 1, 2, none⟩ (.slice (some ⟨g, 0, none⟩) (pre.length + 1) cap)).setCell ⟨g, pre.length * 3, none⟩ c0).setCell ⟨g, pre.length * 3 + 1, none⟩ c1).setCell ⟨g, pre.length * 3 + 2, none⟩ c2) := by
  have hg8 : n1 + 8 ≤ g := by rcases hat with h | h; exact (ho.lt _ h).1; omega
  have hnb1 := keptNb ho hsz hgrow hnb
  have q1 := ownsRow_setCell_below hown1 (a := ⟨n1 + 1, 2, none⟩) (by show n1 + 1 < _; omega) (.slice (some ⟨g, 0, none⟩) (pre.length + 1) cap)
  have q2 : (w1.setCell ⟨n1 + 1, 2, none⟩ (.slice (some ⟨g, 0, none⟩) (pre.length + 1) cap)).heap[n1 + 1]? = some (.cells #[.int .i64 t, .string ⟨#[]⟩, .slice (some ⟨g, 0, none⟩) (pre.length + 1) cap] 24 (0, 0)) := heap_setCell_same w1 (n1 + 1) 2 _ _ _ hnb1
  have q3 : ∀ x, x ≠ n1 + 1 → (w1.setCell ⟨n1 + 1, 2, none⟩ (.slice (some ⟨g, 0, none⟩) (pre.length + 1) cap)).heap[x]? = w1.heap[x]? := fun x hx => Below.heap_setCell w1 ⟨n1 + 1, 2, none⟩ _ x hx
  have q4 : (w1.setCell ⟨n1 + 1, 2, none⟩ (.slice (some ⟨g, 0, none⟩) (pre.length + 1) cap)).heap.size = w1.heap.size := size_setCell _ _ _
  have q5 : (w1.setCell ⟨n1 + 1, 2, none⟩ (.slice (some ⟨g, 0, none⟩) (pre.length + 1) cap)).os = w1.os ∧ (w1.setCell ⟨n1 + 1, 2, none⟩ (.slice (some ⟨g, 0, none⟩) (pre.length + 1) cap)).tape = w1.tape ∧ (w1.setCell ⟨n1 + 1, 2, none⟩ (.slice (some ⟨g, 0, none⟩) (pre.length + 1) cap)).output = w1.output := ⟨rfl, rfl, rfl⟩
  generalize w1.setCell ⟨n1 + 1, 2, none⟩ (.slice (some ⟨g, 0, none⟩) (pre.length + 1) cap) = w2 at *
  obtain ⟨p1, p2, p3, p4⟩ := store3 q1 c0 c1 c2
  generalize (((w2.setCell ⟨g, pre.length * 3, none⟩ c0).setCell ⟨g, pre.length * 3 + 1, none⟩ c1).setCell ⟨g, pre.length * 3 + 2, none⟩ c2) = U at *
  exact tellT hn1 hI hsz hvl hNs ho hN hlo hol hgrow hat p1 ((p2 _ (by omega)).trans q2) (fun x hx hn => (p2 x hx).trans (q3 x hn)) (p3.trans q4) ⟨p4.1.trans q5.1, p4.2.1.trans q5.2.1, p4.2.2.trans q5.2.2⟩
theorem cell1 {w : World} {n : Nat} {x : Value} {t : TypeId} (h : w.heap[n]? = some (.cells #[x] t (0, 0))) : w.cell? ⟨n, 0, none⟩ = some x := by simp [World.cell?, h]

set_option maxRecDepth 100000 in
set_option maxHeartbeats 4000000 in
set_option linter.unusedSimpArgs false in
theorem tree_inner (k R : Nat) (s : ByteArray) (c a b t : Nat) (A : Ads) (w₀ w : World) (p stop deep : Int) (hw : Below w₀.heap.size w₀ w) (hR0 : w₀.heap.size ≤ R) (hR : R < w.heap.size) (hab : a ≤ b) (hb : b ≤ s.size) (ht : t < 256) (hi : isIn t = true) (hc : c ≤ 200) (hd1 : 1 ≤ deep) (hd2 : deep ≤ 12)
    (H : Calls Tryd.prog 64 #[.pointer (some ⟨R, 0, none⟩), .int .i64 p, .int .i64 stop, .int .i64 deep] (ans w) fun e w' => But R (ans w) w' ∧ TRd R s c w' ∧ e = .returned (.tuple #[headV t a b, .nilIface]))
    (IH : ∀ (q c : Nat) (w : World), TRd R s c w → Below w₀.heap.size w₀ w → c ≤ 200 → q ≤ b → Calls Tryd.prog 51 #[.pointer (some ⟨R, 0, none⟩), .int .i64 q, .int .i64 b, .int .i64 (deep + 1)] w (TreePost R s A w k (readT s.data.toList k q b c))) :
    Calls Tryd.prog 51 #[.pointer (some ⟨R, 0, none⟩), .int .i64 p, .int .i64 stop, .int .i64 deep] w (InnerPost R s A w k t b (readL (fun q c' => readT s.data.toList k q b c') (b - a) a b c)) := by
  have hmx : Tryd.prog.follows .mixedOrders = true := by kernel_rfl
  have hI : inB t = true := (inB_eq t (by omega) (by omega)).trans hi
  refine (callsIn_wide (n := 7)).1 ?_
  refine callsIn_of_wp_marks Tryd.func51 rfl trivial ?_ rfl
  simp only [Tryd.ntmps51, List.size_toArray, List.length_cons, List.length_nil, Nat.reduceAdd, Nat.reduceSub, Array.replicate_succ, Array.replicate_zero, List.push_toArray, List.append_toArray, List.nil_append, List.cons_append]
  refine wpIn_wide.2 ?_
  go_wp2_with fail
  refine H.mono ?_
  rintro e w1 ⟨hb1, htr, rfl⟩
  have HIH := hide IH
  clear H IH
  go_wp2_with (go_at_call 47; refine (isInner_any _ _).mono ?_; rintro e w' ⟨rfl, rfl⟩)
  go_wp2_with (go_at_call 66; refine (trees_any _ ⟨_, rfl⟩ _ _ _ _).mono ?_; rintro e w' ⟨rfl, rfl⟩)
  have hn1 : w.heap.size + 1 + 1 < w1.heap.size := by have := hb1.size; simp at this; omega
  have hB0 : But R w (six w1 t a b R (deep + 1)) := (But.toBut (ans_below w) hb1).trans (But.of_below (six_below w1 t a b R (deep + 1)))
  have hT0 : TRd R s c (six w1 t a b R (deep + 1)) := htr.of ((six_below w1 t a b R (deep + 1)).block _ htr.lt)
  have hA0 : Ans w.heap.size (six w1 t a b R (deep + 1)) := (Ans.but hR hb1).of fun x hx => (six_below w1 t a b R (deep + 1)).block x hx
  obtain ⟨q0, q1, q2, q3, q4, q5⟩ := six_at w1 t a b R (deep + 1)
  have hz := six_size w1 t a b R (deep + 1)
  have hInv : InvT k w R w1.heap.size t a b [] (six w1 t a b R (deep + 1)) := ⟨q0, ⟨_, q1, Grow.nil _ _ _⟩, hA0, hB0, by omega⟩
  change Code.wp _ _ _ _ (six w1 t a b R (deep + 1))
  generalize hW : six w1 t a b R (deep + 1) = W0 at *
  clear hW
  clear hb1 htr hA0 hB0 q0 q1
  generalize w1.heap.size = n1 at *
  refine (wpIn_wide (n := 7)).1 ?_
  refine range_mine (α := Item k) (σ := Sta k) (gf := 74) (lb := #[.pointer (some ⟨n1 + 1 + 1 + 1, 0, none⟩), .pointer (some ⟨n1 + 1 + 1 + 1 + 1, 0, none⟩), .pointer (some ⟨n1 + 1 + 1, 0, none⟩), .pointer (some ⟨n1 + 1 + 1 + 1 + 1 + 1, 0, none⟩)]) rfl (enters_of Tryd.func74 (by kernel_rfl) rfl)
    (fun x => #[.agg x.cs, x.err]) (fun _ => rfl) (Kept (n1 + 6) (n1 + 1)) (But R)
    (fun st W => InvT k w R n1 t a b st.pre W ∧ st.pre.length ≤ st.c ∧ st.c ≤ 200)
    (fun cd st W => cd = .ret ∧ ∃ v E, readT s.data.toList k st.q b st.c = .error E ∧ IsErr A v E ∧ OutT w R v W)
    (fun st x W => ItemIs A (n1 + 1) (n1 + 8) b s.data.toList st x W) nxt ⟨a, c, []⟩
    (fun st W => readL (fun q c' => readT s.data.toList k q b c') (b - a) a b c = .ok (st.pre, st.c) ∧ TRd R s st.c W)
    (fun st => ∃ E, readL (fun q c' => readT s.data.toList k q b c') (b - a) a b c = .error E ∧ readT s.data.toList k st.q b st.c = .error E)
    (fun _ x => isOk x) (fun _ x => isNo x)
    (fun x => x.cs) 24 (fun x B => actT w.heap.size n1 R p stop deep t a b (.pointer (some ⟨B, 0, none⟩)) x.err (.agg x.cs) x.err undef undef undef [])
    Kept.trans ?_ ?_ ?_ ?_ ?_ ?_ ?_ ?_ ?iter ?assign ?body ?done ?stop
  · intro X Y hxy; rw [hz] at hxy; exact Kept.of_but (by omega) hxy
  · intro X Y hxy hsz; rw [hz] at hsz ⊢; exact Two.of_but hxy (by omega) (by omega) (by omega) (by omega)
  · intro st X Y hxy h; rw [hz] at hxy; exact ⟨h.1.ext hR hn1 _ (.inr rfl) hxy, h.2⟩
  · intro st X Y hxy _ h; exact ⟨h.1.ext hR hn1 _ (.inl rfl) hxy, h.2⟩
  · rintro cd st X Y hxy ⟨rfl, v, E, h1, h2, h3⟩; rw [hz] at hxy; exact ⟨rfl, v, E, h1, h2, h3.ext hn1 hxy⟩
  · rintro st x X Y hxy ⟨h1, h2, h3, h4⟩
    rw [hz] at hxy
    refine ⟨h1, ⟨h2.1, Nat.le_trans h2.2 hxy.size⟩, fun g off len cap h => h3 g off len cap ?_, ?_⟩
    · rw [← h]; exact (World.cell?_of_block (w := X) (a := ⟨n1 + 1, 2, none⟩) (hxy.block _ (by show n1 + 1 < _; omega) (by show n1 + 1 ≠ _; omega))).symm
    · cases hx : x.g with
      | error E => rw [hx] at h4; exact h4
      | ok r => rw [hx] at h4; exact ⟨h4.1, h4.2.but hxy (by omega)⟩
  · rintro st X Y hxy ⟨h1, h2⟩; rw [hz] at hxy; exact ⟨h1, h2.of (hxy.block _ h2.lt (by omega))⟩
  · exact ⟨hInv, Nat.zero_le _, hc⟩
  case iter =>
    intro W hbW hzW J Jx hJ hJI hY h0
    rw [hz] at hbW hzW hY ⊢
    have hcell : ∀ (x : Nat) v, x < n1 + 6 → W0.cell? ⟨x, 0, none⟩ = some v → W.cell? ⟨x, 0, none⟩ = some v := fun x v hx h => (World.cell?_of_block (w := W0) (a := ⟨x, 0, none⟩) (hbW.block x (by omega) (by omega))).trans h
    exact trees1_any k R a b c (n1 + 6) (n1 + 1) (n1 + 1 + 1 + 1) (n1 + 1 + 1 + 1 + 1) (n1 + 1 + 1) (n1 + 1 + 1 + 1 + 1 + 1) s A w₀ (deep + 1) hb hab hc ⟨by omega, by omega, hR0⟩ (by omega) ⟨by omega, by omega, by omega⟩ ⟨by omega, by omega, by omega⟩ ⟨by omega, by omega, by omega⟩
      (unhide HIH) J Jx hJ (fun st X hX => by
        obtain ⟨⟨hi1, _⟩, hsz⟩ := hJI st X hX
        rw [hz] at hsz
        refine ⟨hsz, hw.trans (hi1.but.below hR0 hR), fun g off len cap hcl => ?_⟩
        obtain ⟨sl, e1, e2⟩ := hi1.nb
        have e3 := (cells3 e1).1.2.2
        rw [hcl] at e3
        have e4 := Option.some.inj e3
        subst e4
        exact (e2.lt rfl).2)
      hY W h0 (hT0.of (hbW.block R (by omega) (by omega))) (hcell _ _ (by omega) q3) (hcell _ _ (by omega) q4) (hcell _ _ (by omega) q2) (hcell _ _ (by omega) q5)
  case assign =>
    intro st x W K _ _ hK
    gi_wp2
    exact hK
  case body =>
    rintro st ⟨xt, xd, xa, xn, xc, xe, lo, g⟩ B W ⟨hInv, hlen, hc2⟩ ⟨hg, ⟨hlo, hsz⟩, hrow, hit⟩ hB hbox
    go_light
    dsimp only at hg hlo hrow hit hbox ⊢
    obtain ⟨sl, hnb, hgr⟩ := hInv.nb
    obtain ⟨sla, slc, rfl⟩ := hgr.form
    cases g with
    | error E =>
      obtain ⟨hcs, hE⟩ := hit
      simp only [Array.mk.injEq, List.cons.injEq, Value.int.injEq, Value.string.injEq, Value.slice.injEq, true_and, and_true] at hcs
      obtain ⟨rfl, rfl, rfl, rfl, rfl⟩ := hcs
      obtain ⟨kk, u, rfl, hu⟩ := id hE
      obtain ⟨⟨c0, c1, c2, c3, c4⟩, r0, r1, r2, r3, r4⟩ := hInv.ans.cells
      gi_wp2
      rw [hz]
      exact ⟨⟨E, rfl⟩, (errT hn1 hInv).1, rfl, _, E, hg.symm, hE, (errT hn1 hInv).2⟩
    | ok r =>
      obtain ⟨T, nx, c'⟩ := r
      obtain ⟨rfl, hN⟩ := hit
      obtain ⟨d0, d1, d2⟩ := (cells3 hnb).1
      obtain ⟨e0, e1, e2⟩ := (cells3 hbox).1
      gi_wp2
      refine wpIn_mono (Q := fun e _ w1 => match e with | .normal => Two W0.heap.size (W0.heap.size + 1) W w1 ∧ Kept (n1 + 6) (n1 + 1) W w1 ∧ InvT k w R n1 t a b (st.pre ++ [T]) w1 | _ => False) ?_ ?_
      · go_light
        refine regionIn_round hmx (fun i o ho c => noDefer_spec (by kernel_rfl) i o ho c) (by rintro ⟨a, w, h⟩; exact h) ?_
        obtain ⟨vs, hvl, ho, hNs⟩ := hgr
        obtain ⟨i0, hi0, hz0, hz1, hz2⟩ := info_parts infoNode
        have hnw : ∀ (j : Nat) u, ([.int .i64 0, .string ⟨#[]⟩, .slice none 0 0] : List Value)[j]? = some u → (W.alloc (.cells #[.int .i64 0, .string ⟨#[]⟩, .slice none 0 0] 24)).drew.cell? ((⟨W.heap.size, 0, none⟩ : Addr).add j) = some u := fun j u h => World.news_of_block (w := (W.alloc (.cells #[.int .i64 0, .string ⟨#[]⟩, .slice none 0 0] 24)).drew) (cs := #[.int .i64 0, .string ⟨#[]⟩, .slice none 0 0]) (World.alloc_heap_new W _) j u h
        have hoc : ∀ u ∈ ([.int .i64 0, .string ⟨#[]⟩, .slice none 0 0] : List Value), u.oneCell' = true := by simp [Value.oneCell']
        have d2a : ∀ o, (W.alloc o).cell? ⟨n1 + 1, 2, none⟩ = some (.slice sla st.pre.length slc) := fun o => by rw [World.cell?_alloc_lt _ _ _ (lt_of_cell d2)]; exact d2
        have e0a : ∀ o, (W.alloc o).cell? ⟨B, 0, none⟩ = some (.int .i64 xt) := fun o => by rw [World.cell?_alloc_lt _ _ _ (lt_of_cell e0)]; exact e0
        have e1a : ∀ o, (W.alloc o).cell? ⟨B, 1, none⟩ = some (.string xd) := fun o => by rw [World.cell?_alloc_lt _ _ _ (lt_of_cell e1)]; exact e1
        have e2a : ∀ o, (W.alloc o).cell? ⟨B, 2, none⟩ = some (.slice xa xn xc) := fun o => by rw [World.cell?_alloc_lt _ _ _ (lt_of_cell e2)]; exact e2
        have hol : ∀ g', (Value.slice sla st.pre.length slc).ownBlock = some g' → g' < lo := fun g' h => by
          cases sla with
          | none => simp [Value.ownBlock] at h
          | some ad =>
            have e : ad.block = g' := by simpa [Value.ownBlock] using h
            obtain ⟨gx, cx, hx⟩ := ownsForm ho
            cases hx
            subst e
            exact hrow _ _ _ _ d2
        have HNB : Hid (∀ w1 : World, (W.alloc (.cells #[.int .i64 0, .string ⟨#[]⟩, .slice none 0 0] 24)).drew.grownBy w1 (Value.slice sla st.pre.length slc).ownBlock → w1.cell? ⟨n1 + 1, 2, none⟩ = some (.slice sla st.pre.length slc) ∧ w1.frozen? ⟨n1 + 1, 2, none⟩ = false) := hide fun w1 hg => by
          have e1 : w1.heap[n1 + 1]? = W.heap[n1 + 1]? := (hg.block _ (by show n1 + 1 < (W.alloc _).heap.size; simp; omega) (fun h => by have := (ho.lt _ h.symm).1; omega)).trans (Below.heap_alloc W _ _ (by omega))
          have := cells3 (e1.trans hnb)
          exact ⟨this.1.2.2, this.2.2.2⟩
        have ho1 := ho.alloc (.cells #[.int .i64 0, .string ⟨#[]⟩, .slice none 0 0] 24)
        refine wpAny_take (i := 0) (v := .pointer (some ⟨n1 + 1, 2, none⟩)) rfl (by kernel_rfl) (by kernel_rfl) (by kernel_rfl) (fun _ _ _ h => h) (Or.inl ⟨by rfl, by intro w; go_simp⟩) ?_
        refine wpAny_ready (rs := [1, 2, 4]) (by kernel_rfl) (by simp) ?_
        refine AllReady.cons rfl (fun K hK => ?_) (AllReady.cons rfl (fun K hK => ?_) (AllReady.cons rfl (fun K hK => ?_) AllReady.nil))
        · go_simp
          refine hK _ _ ?_
          clear hK K
          refine wpAny_take (i := 3) (v := .int .i64 st.pre.length) rfl (by kernel_rfl) (by kernel_rfl) (by kernel_rfl) (fun _ _ _ h => h) (Or.inl ⟨by rfl, by intro w; go_simp⟩) ?_
          refine wpAny_ready (rs := [2, 4]) (by kernel_rfl) (by simp) ?_
          refine AllReady.cons rfl (fun K hK => ?_) (AllReady.cons rfl (fun K hK => ?_) AllReady.nil)
          · go_simp
            refine hK _ _ ?_
            clear hK K
            refine wpAny_ready (rs := [4]) (by kernel_rfl) (by simp) ?_
            refine AllReady.cons rfl (fun K hK => ?_) AllReady.nil
            · go_simp
              refine hK _ _ ?_
              clear hK K
              refine wpAny_ready (rs := [5]) (by kernel_rfl) (by simp) ?_
              refine AllReady.cons rfl (fun K hK => ?_) AllReady.nil
              refine step_append_lies _ rfl (.tmp 66) (.tmp 69) 22 rfl (n1 + 8) 24 i0 zeroN 3 48 Tryd.underlying22 hi0 hz0 hz1 hz2 rfl (by omega) (.slice sla st.pre.length slc) st.pre.length (vs.flatMap trip) (by simp [Act.eval, Act.put]) ho1 ⟨W.heap.size, 0, none⟩ 1 1 [.int .i64 0, .string ⟨#[]⟩, .slice none 0 0] (by simp [Act.eval, Act.put]) rfl hnw hoc (by omega) (by unfold maxLen; omega) (by omega) (by simp; omega) (W.heap.size + 1) (by simp) ?_
              intro gg cap w1 hown1 hgrow hat hglt
              refine hK _ _ ?_
              clear hK K
              have F79 := hide (tell79 (c0 := .int .i64 xt) (c1 := .string xd) (c2 := .slice xa xn xc) hn1 hInv hsz hnb hvl hNs ho hN hlo hol hgrow hat hown1)
              have F97 := hide (tell97 (c0 := .int .i64 xt) (c1 := .string xd) (c2 := .slice xa xn xc) hn1 hInv hsz hnb hvl hNs ho hN hlo hol hgrow hat hown1)
              obtain ⟨⟨l0, l1, l2⟩, m0, m1, m2⟩ := lastCells hown1
              obtain ⟨n0, k0⟩ := (unhide HNB) w1 hgrow
              have hne : gg ≠ n1 + 1 := by rcases hat with h | h; (have := (ho.lt _ h).1; omega); omega
              have n3 : ∀ x y z, (((w1.setCell ⟨gg, st.pre.length * 3, none⟩ x).setCell ⟨gg, st.pre.length * 3 + 1, none⟩ y).setCell ⟨gg, st.pre.length * 3 + 2, none⟩ z).cell? ⟨n1 + 1, 2, none⟩ = some (.slice sla st.pre.length slc) := fun x y z => by rw [World.cell?_setCell_far _ _ _ _ (by simp; omega), World.cell?_setCell_far _ _ _ _ (by simp; omega), World.cell?_setCell_far _ _ _ _ (by simp; omega)]; exact n0
              have l0' : ∀ v, (w1.setCell ⟨n1 + 1, 2, none⟩ v).cell? ⟨gg, st.pre.length * 3, none⟩ = some (.int .i64 0) := fun v => by rw [World.cell?_setCell_far _ _ _ _ (by simp; omega)]; exact l0
              have l1' : ∀ v, (w1.setCell ⟨n1 + 1, 2, none⟩ v).cell? ⟨gg, st.pre.length * 3 + 1, none⟩ = some (.string ⟨#[]⟩) := fun v => by rw [World.cell?_setCell_far _ _ _ _ (by simp; omega)]; exact l1
              have l2' : ∀ v, (w1.setCell ⟨n1 + 1, 2, none⟩ v).cell? ⟨gg, st.pre.length * 3 + 2, none⟩ = some (.slice none 0 0) := fun v => by rw [World.cell?_setCell_far _ _ _ _ (by simp; omega)]; exact l2
              clear hown1 hgrow hat
              refine wpAny_take (i := 8) (v := .pointer (some ⟨n1 + 1, 2, none⟩)) rfl (by kernel_rfl) (by kernel_rfl) (by kernel_rfl) (fun _ _ _ h => h) (Or.inl ⟨by rfl, by intro w; go_simp⟩) ?_
              refine wpAny_take (i := 6) (v := .pointer (some ⟨gg, st.pre.length * 3, none⟩)) rfl (by kernel_rfl) (by kernel_rfl) (by kernel_rfl) (fun _ _ _ h => h) (Or.inl ⟨by rfl, by intro w; go_simp; intro h; omega⟩) ?_
              refine wpAny_ready (rs := [7, 9]) (by kernel_rfl) (by simp) ?_
              refine AllReady.cons rfl (fun K hK => ?_) (AllReady.cons rfl (fun K hK => ?_) AllReady.nil)
              · go_simp
                refine hK _ _ ?_
                clear hK K
                refine wpAny_ready (rs := [9]) (by kernel_rfl) (by simp) ?_
                refine AllReady.cons rfl (fun K hK => ?_) AllReady.nil
                go_simp
                refine hK _ _ ?_
                clear hK K
                refine wpAny_done (by kernel_rfl) ?_ _
                rw [hz]
                exact unhide F79
              · go_simp
                refine hK _ _ ?_
                clear hK K
                refine wpAny_ready (rs := [7]) (by kernel_rfl) (by simp) ?_
                refine AllReady.cons rfl (fun K hK => ?_) AllReady.nil
                go_simp
                refine hK _ _ ?_
                clear hK K
                refine wpAny_done (by kernel_rfl) ?_ _
                rw [hz]
                exact unhide F97
          · go_simp
            refine hK _ _ ?_
            clear hK K
            refine wpAny_ready (rs := [2]) (by kernel_rfl) (by simp) ?_
            refine AllReady.cons rfl (fun K hK => ?_) AllReady.nil
            · go_simp
              refine hK _ _ ?_
              clear hK K
              refine wpAny_ready (rs := [5]) (by kernel_rfl) (by simp) ?_
              refine AllReady.cons rfl (fun K hK => ?_) AllReady.nil
              refine step_append_lies _ rfl (.tmp 66) (.tmp 69) 22 rfl (n1 + 8) 24 i0 zeroN 3 48 Tryd.underlying22 hi0 hz0 hz1 hz2 rfl (by omega) (.slice sla st.pre.length slc) st.pre.length (vs.flatMap trip) (by simp [Act.eval, Act.put]) ho1 ⟨W.heap.size, 0, none⟩ 1 1 [.int .i64 0, .string ⟨#[]⟩, .slice none 0 0] (by simp [Act.eval, Act.put]) rfl hnw hoc (by omega) (by unfold maxLen; omega) (by omega) (by simp; omega) (W.heap.size + 1) (by simp) ?_
              intro gg cap w1 hown1 hgrow hat hglt
              refine hK _ _ ?_
              clear hK K
              have F79 := hide (tell79 (c0 := .int .i64 xt) (c1 := .string xd) (c2 := .slice xa xn xc) hn1 hInv hsz hnb hvl hNs ho hN hlo hol hgrow hat hown1)
              have F97 := hide (tell97 (c0 := .int .i64 xt) (c1 := .string xd) (c2 := .slice xa xn xc) hn1 hInv hsz hnb hvl hNs ho hN hlo hol hgrow hat hown1)
              obtain ⟨⟨l0, l1, l2⟩, m0, m1, m2⟩ := lastCells hown1
              obtain ⟨n0, k0⟩ := (unhide HNB) w1 hgrow
              have hne : gg ≠ n1 + 1 := by rcases hat with h | h; (have := (ho.lt _ h).1; omega); omega
              have n3 : ∀ x y z, (((w1.setCell ⟨gg, st.pre.length * 3, none⟩ x).setCell ⟨gg, st.pre.length * 3 + 1, none⟩ y).setCell ⟨gg, st.pre.length * 3 + 2, none⟩ z).cell? ⟨n1 + 1, 2, none⟩ = some (.slice sla st.pre.length slc) := fun x y z => by rw [World.cell?_setCell_far _ _ _ _ (by simp; omega), World.cell?_setCell_far _ _ _ _ (by simp; omega), World.cell?_setCell_far _ _ _ _ (by simp; omega)]; exact n0
              have l0' : ∀ v, (w1.setCell ⟨n1 + 1, 2, none⟩ v).cell? ⟨gg, st.pre.length * 3, none⟩ = some (.int .i64 0) := fun v => by rw [World.cell?_setCell_far _ _ _ _ (by simp; omega)]; exact l0
              have l1' : ∀ v, (w1.setCell ⟨n1 + 1, 2, none⟩ v).cell? ⟨gg, st.pre.length * 3 + 1, none⟩ = some (.string ⟨#[]⟩) := fun v => by rw [World.cell?_setCell_far _ _ _ _ (by simp; omega)]; exact l1
              have l2' : ∀ v, (w1.setCell ⟨n1 + 1, 2, none⟩ v).cell? ⟨gg, st.pre.length * 3 + 2, none⟩ = some (.slice none 0 0) := fun v => by rw [World.cell?_setCell_far _ _ _ _ (by simp; omega)]; exact l2
              clear hown1 hgrow hat
              refine wpAny_take (i := 8) (v := .pointer (some ⟨n1 + 1, 2, none⟩)) rfl (by kernel_rfl) (by kernel_rfl) (by kernel_rfl) (fun _ _ _ h => h) (Or.inl ⟨by rfl, by intro w; go_simp⟩) ?_
              refine wpAny_take (i := 6) (v := .pointer (some ⟨gg, st.pre.length * 3, none⟩)) rfl (by kernel_rfl) (by kernel_rfl) (by kernel_rfl) (fun _ _ _ h => h) (Or.inl ⟨by rfl, by intro w; go_simp; intro h; omega⟩) ?_
              refine wpAny_ready (rs := [7, 9]) (by kernel_rfl) (by simp) ?_
              refine AllReady.cons rfl (fun K hK => ?_) (AllReady.cons rfl (fun K hK => ?_) AllReady.nil)
              · go_simp
                refine hK _ _ ?_
                clear hK K
                refine wpAny_ready (rs := [9]) (by kernel_rfl) (by simp) ?_
                refine AllReady.cons rfl (fun K hK => ?_) AllReady.nil
                go_simp
                refine hK _ _ ?_
                clear hK K
                refine wpAny_done (by kernel_rfl) ?_ _
                rw [hz]
                exact unhide F79
              · go_simp
                refine hK _ _ ?_
                clear hK K
                refine wpAny_ready (rs := [7]) (by kernel_rfl) (by simp) ?_
                refine AllReady.cons rfl (fun K hK => ?_) AllReady.nil
                go_simp
                refine hK _ _ ?_
                clear hK K
                refine wpAny_done (by kernel_rfl) ?_ _
                rw [hz]
                exact unhide F97
        · go_simp
          refine hK _ _ ?_
          clear hK K
          refine wpAny_ready (rs := [1, 4]) (by kernel_rfl) (by simp) ?_
          refine AllReady.cons rfl (fun K hK => ?_) (AllReady.cons rfl (fun K hK => ?_) AllReady.nil)
          · go_simp
            refine hK _ _ ?_
            clear hK K
            refine wpAny_take (i := 3) (v := .int .i64 st.pre.length) rfl (by kernel_rfl) (by kernel_rfl) (by kernel_rfl) (fun _ _ _ h => h) (Or.inl ⟨by rfl, by intro w; go_simp⟩) ?_
            refine wpAny_ready (rs := [4]) (by kernel_rfl) (by simp) ?_
            refine AllReady.cons rfl (fun K hK => ?_) AllReady.nil
            · go_simp
              refine hK _ _ ?_
              clear hK K
              refine wpAny_ready (rs := [5]) (by kernel_rfl) (by simp) ?_
              refine AllReady.cons rfl (fun K hK => ?_) AllReady.nil
              refine step_append_lies _ rfl (.tmp 66) (.tmp 69) 22 rfl (n1 + 8) 24 i0 zeroN 3 48 Tryd.underlying22 hi0 hz0 hz1 hz2 rfl (by omega) (.slice sla st.pre.length slc) st.pre.length (vs.flatMap trip) (by simp [Act.eval, Act.put]) ho1 ⟨W.heap.size, 0, none⟩ 1 1 [.int .i64 0, .string ⟨#[]⟩, .slice none 0 0] (by simp [Act.eval, Act.put]) rfl hnw hoc (by omega) (by unfold maxLen; omega) (by omega) (by simp; omega) (W.heap.size + 1) (by simp) ?_
              intro gg cap w1 hown1 hgrow hat hglt
              refine hK _ _ ?_
              clear hK K
              have F79 := hide (tell79 (c0 := .int .i64 xt) (c1 := .string xd) (c2 := .slice xa xn xc) hn1 hInv hsz hnb hvl hNs ho hN hlo hol hgrow hat hown1)
              have F97 := hide (tell97 (c0 := .int .i64 xt) (c1 := .string xd) (c2 := .slice xa xn xc) hn1 hInv hsz hnb hvl hNs ho hN hlo hol hgrow hat hown1)
              obtain ⟨⟨l0, l1, l2⟩, m0, m1, m2⟩ := lastCells hown1
              obtain ⟨n0, k0⟩ := (unhide HNB) w1 hgrow
              have hne : gg ≠ n1 + 1 := by rcases hat with h | h; (have := (ho.lt _ h).1; omega); omega
              have n3 : ∀ x y z, (((w1.setCell ⟨gg, st.pre.length * 3, none⟩ x).setCell ⟨gg, st.pre.length * 3 + 1, none⟩ y).setCell ⟨gg, st.pre.length * 3 + 2, none⟩ z).cell? ⟨n1 + 1, 2, none⟩ = some (.slice sla st.pre.length slc) := fun x y z => by rw [World.cell?_setCell_far _ _ _ _ (by simp; omega), World.cell?_setCell_far _ _ _ _ (by simp; omega), World.cell?_setCell_far _ _ _ _ (by simp; omega)]; exact n0
              have l0' : ∀ v, (w1.setCell ⟨n1 + 1, 2, none⟩ v).cell? ⟨gg, st.pre.length * 3, none⟩ = some (.int .i64 0) := fun v => by rw [World.cell?_setCell_far _ _ _ _ (by simp; omega)]; exact l0
              have l1' : ∀ v, (w1.setCell ⟨n1 + 1, 2, none⟩ v).cell? ⟨gg, st.pre.length * 3 + 1, none⟩ = some (.string ⟨#[]⟩) := fun v => by rw [World.cell?_setCell_far _ _ _ _ (by simp; omega)]; exact l1
              have l2' : ∀ v, (w1.setCell ⟨n1 + 1, 2, none⟩ v).cell? ⟨gg, st.pre.length * 3 + 2, none⟩ = some (.slice none 0 0) := fun v => by rw [World.cell?_setCell_far _ _ _ _ (by simp; omega)]; exact l2
              clear hown1 hgrow hat
              refine wpAny_take (i := 8) (v := .pointer (some ⟨n1 + 1, 2, none⟩)) rfl (by kernel_rfl) (by kernel_rfl) (by kernel_rfl) (fun _ _ _ h => h) (Or.inl ⟨by rfl, by intro w; go_simp⟩) ?_
              refine wpAny_take (i := 6) (v := .pointer (some ⟨gg, st.pre.length * 3, none⟩)) rfl (by kernel_rfl) (by kernel_rfl) (by kernel_rfl) (fun _ _ _ h => h) (Or.inl ⟨by rfl, by intro w; go_simp; intro h; omega⟩) ?_
              refine wpAny_ready (rs := [7, 9]) (by kernel_rfl) (by simp) ?_
              refine AllReady.cons rfl (fun K hK => ?_) (AllReady.cons rfl (fun K hK => ?_) AllReady.nil)
              · go_simp
                refine hK _ _ ?_
                clear hK K
                refine wpAny_ready (rs := [9]) (by kernel_rfl) (by simp) ?_
                refine AllReady.cons rfl (fun K hK => ?_) AllReady.nil
                go_simp
                refine hK _ _ ?_
                clear hK K
                refine wpAny_done (by kernel_rfl) ?_ _
                rw [hz]
                exact unhide F79
              · go_simp
                refine hK _ _ ?_
                clear hK K
                refine wpAny_ready (rs := [7]) (by kernel_rfl) (by simp) ?_
                refine AllReady.cons rfl (fun K hK => ?_) AllReady.nil
                go_simp
                refine hK _ _ ?_
                clear hK K
                refine wpAny_done (by kernel_rfl) ?_ _
                rw [hz]
                exact unhide F97
          · go_simp
            refine hK _ _ ?_
            clear hK K
            refine wpAny_ready (rs := [1]) (by kernel_rfl) (by simp) ?_
            refine AllReady.cons rfl (fun K hK => ?_) AllReady.nil
            · go_simp
              refine hK _ _ ?_
              clear hK K
              refine wpAny_take (i := 3) (v := .int .i64 st.pre.length) rfl (by kernel_rfl) (by kernel_rfl) (by kernel_rfl) (fun _ _ _ h => h) (Or.inl ⟨by rfl, by intro w; go_simp⟩) ?_
              refine wpAny_ready (rs := [5]) (by kernel_rfl) (by simp) ?_
              refine AllReady.cons rfl (fun K hK => ?_) AllReady.nil
              refine step_append_lies _ rfl (.tmp 66) (.tmp 69) 22 rfl (n1 + 8) 24 i0 zeroN 3 48 Tryd.underlying22 hi0 hz0 hz1 hz2 rfl (by omega) (.slice sla st.pre.length slc) st.pre.length (vs.flatMap trip) (by simp [Act.eval, Act.put]) ho1 ⟨W.heap.size, 0, none⟩ 1 1 [.int .i64 0, .string ⟨#[]⟩, .slice none 0 0] (by simp [Act.eval, Act.put]) rfl hnw hoc (by omega) (by unfold maxLen; omega) (by omega) (by simp; omega) (W.heap.size + 1) (by simp) ?_
              intro gg cap w1 hown1 hgrow hat hglt
              refine hK _ _ ?_
              clear hK K
              have F79 := hide (tell79 (c0 := .int .i64 xt) (c1 := .string xd) (c2 := .slice xa xn xc) hn1 hInv hsz hnb hvl hNs ho hN hlo hol hgrow hat hown1)
              have F97 := hide (tell97 (c0 := .int .i64 xt) (c1 := .string xd) (c2 := .slice xa xn xc) hn1 hInv hsz hnb hvl hNs ho hN hlo hol hgrow hat hown1)
              obtain ⟨⟨l0, l1, l2⟩, m0, m1, m2⟩ := lastCells hown1
              obtain ⟨n0, k0⟩ := (unhide HNB) w1 hgrow
              have hne : gg ≠ n1 + 1 := by rcases hat with h | h; (have := (ho.lt _ h).1; omega); omega
              have n3 : ∀ x y z, (((w1.setCell ⟨gg, st.pre.length * 3, none⟩ x).setCell ⟨gg, st.pre.length * 3 + 1, none⟩ y).setCell ⟨gg, st.pre.length * 3 + 2, none⟩ z).cell? ⟨n1 + 1, 2, none⟩ = some (.slice sla st.pre.length slc) := fun x y z => by rw [World.cell?_setCell_far _ _ _ _ (by simp; omega), World.cell?_setCell_far _ _ _ _ (by simp; omega), World.cell?_setCell_far _ _ _ _ (by simp; omega)]; exact n0
              have l0' : ∀ v, (w1.setCell ⟨n1 + 1, 2, none⟩ v).cell? ⟨gg, st.pre.length * 3, none⟩ = some (.int .i64 0) := fun v => by rw [World.cell?_setCell_far _ _ _ _ (by simp; omega)]; exact l0
              have l1' : ∀ v, (w1.setCell ⟨n1 + 1, 2, none⟩ v).cell? ⟨gg, st.pre.length * 3 + 1, none⟩ = some (.string ⟨#[]⟩) := fun v => by rw [World.cell?_setCell_far _ _ _ _ (by simp; omega)]; exact l1
              have l2' : ∀ v, (w1.setCell ⟨n1 + 1, 2, none⟩ v).cell? ⟨gg, st.pre.length * 3 + 2, none⟩ = some (.slice none 0 0) := fun v => by rw [World.cell?_setCell_far _ _ _ _ (by simp; omega)]; exact l2
              clear hown1 hgrow hat
              refine wpAny_take (i := 8) (v := .pointer (some ⟨n1 + 1, 2, none⟩)) rfl (by kernel_rfl) (by kernel_rfl) (by kernel_rfl) (fun _ _ _ h => h) (Or.inl ⟨by rfl, by intro w; go_simp⟩) ?_
              refine wpAny_take (i := 6) (v := .pointer (some ⟨gg, st.pre.length * 3, none⟩)) rfl (by kernel_rfl) (by kernel_rfl) (by kernel_rfl) (fun _ _ _ h => h) (Or.inl ⟨by rfl, by intro w; go_simp; intro h; omega⟩) ?_
              refine wpAny_ready (rs := [7, 9]) (by kernel_rfl) (by simp) ?_
              refine AllReady.cons rfl (fun K hK => ?_) (AllReady.cons rfl (fun K hK => ?_) AllReady.nil)
              · go_simp
                refine hK _ _ ?_
                clear hK K
                refine wpAny_ready (rs := [9]) (by kernel_rfl) (by simp) ?_
                refine AllReady.cons rfl (fun K hK => ?_) AllReady.nil
                go_simp
                refine hK _ _ ?_
                clear hK K
                refine wpAny_done (by kernel_rfl) ?_ _
                rw [hz]
                exact unhide F79
              · go_simp
                refine hK _ _ ?_
                clear hK K
                refine wpAny_ready (rs := [7]) (by kernel_rfl) (by simp) ?_
                refine AllReady.cons rfl (fun K hK => ?_) AllReady.nil
                go_simp
                refine hK _ _ ?_
                clear hK K
                refine wpAny_done (by kernel_rfl) ?_ _
                rw [hz]
                exact unhide F97
        · go_simp
          refine hK _ _ ?_
          clear hK K
          refine wpAny_ready (rs := [1, 2]) (by kernel_rfl) (by simp) ?_
          refine AllReady.cons rfl (fun K hK => ?_) (AllReady.cons rfl (fun K hK => ?_) AllReady.nil)
          · go_simp
            refine hK _ _ ?_
            clear hK K
            refine wpAny_take (i := 3) (v := .int .i64 st.pre.length) rfl (by kernel_rfl) (by kernel_rfl) (by kernel_rfl) (fun _ _ _ h => h) (Or.inl ⟨by rfl, by intro w; go_simp⟩) ?_
            refine wpAny_ready (rs := [2]) (by kernel_rfl) (by simp) ?_
            refine AllReady.cons rfl (fun K hK => ?_) AllReady.nil
            · go_simp
              refine hK _ _ ?_
              clear hK K
              refine wpAny_ready (rs := [5]) (by kernel_rfl) (by simp) ?_
              refine AllReady.cons rfl (fun K hK => ?_) AllReady.nil
              refine step_append_lies _ rfl (.tmp 66) (.tmp 69) 22 rfl (n1 + 8) 24 i0 zeroN 3 48 Tryd.underlying22 hi0 hz0 hz1 hz2 rfl (by omega) (.slice sla st.pre.length slc) st.pre.length (vs.flatMap trip) (by simp [Act.eval, Act.put]) ho1 ⟨W.heap.size, 0, none⟩ 1 1 [.int .i64 0, .string ⟨#[]⟩, .slice none 0 0] (by simp [Act.eval, Act.put]) rfl hnw hoc (by omega) (by unfold maxLen; omega) (by omega) (by simp; omega) (W.heap.size + 1) (by simp) ?_
              intro gg cap w1 hown1 hgrow hat hglt
              refine hK _ _ ?_
              clear hK K
              have F79 := hide (tell79 (c0 := .int .i64 xt) (c1 := .string xd) (c2 := .slice xa xn xc) hn1 hInv hsz hnb hvl hNs ho hN hlo hol hgrow hat hown1)
              have F97 := hide (tell97 (c0 := .int .i64 xt) (c1 := .string xd) (c2 := .slice xa xn xc) hn1 hInv hsz hnb hvl hNs ho hN hlo hol hgrow hat hown1)
              obtain ⟨⟨l0, l1, l2⟩, m0, m1, m2⟩ := lastCells hown1
              obtain ⟨n0, k0⟩ := (unhide HNB) w1 hgrow
              have hne : gg ≠ n1 + 1 := by rcases hat with h | h; (have := (ho.lt _ h).1; omega); omega
              have n3 : ∀ x y z, (((w1.setCell ⟨gg, st.pre.length * 3, none⟩ x).setCell ⟨gg, st.pre.length * 3 + 1, none⟩ y).setCell ⟨gg, st.pre.length * 3 + 2, none⟩ z).cell? ⟨n1 + 1, 2, none⟩ = some (.slice sla st.pre.length slc) := fun x y z => by rw [World.cell?_setCell_far _ _ _ _ (by simp; omega), World.cell?_setCell_far _ _ _ _ (by simp; omega), World.cell?_setCell_far _ _ _ _ (by simp; omega)]; exact n0
              have l0' : ∀ v, (w1.setCell ⟨n1 + 1, 2, none⟩ v).cell? ⟨gg, st.pre.length * 3, none⟩ = some (.int .i64 0) := fun v => by rw [World.cell?_setCell_far _ _ _ _ (by simp; omega)]; exact l0
              have l1' : ∀ v, (w1.setCell ⟨n1 + 1, 2, none⟩ v).cell? ⟨gg, st.pre.length * 3 + 1, none⟩ = some (.string ⟨#[]⟩) := fun v => by rw [World.cell?_setCell_far _ _ _ _ (by simp; omega)]; exact l1
              have l2' : ∀ v, (w1.setCell ⟨n1 + 1, 2, none⟩ v).cell? ⟨gg, st.pre.length * 3 + 2, none⟩ = some (.slice none 0 0) := fun v => by rw [World.cell?_setCell_far _ _ _ _ (by simp; omega)]; exact l2
              clear hown1 hgrow hat
              refine wpAny_take (i := 8) (v := .pointer (some ⟨n1 + 1, 2, none⟩)) rfl (by kernel_rfl) (by kernel_rfl) (by kernel_rfl) (fun _ _ _ h => h) (Or.inl ⟨by rfl, by intro w; go_simp⟩) ?_
              refine wpAny_take (i := 6) (v := .pointer (some ⟨gg, st.pre.length * 3, none⟩)) rfl (by kernel_rfl) (by kernel_rfl) (by kernel_rfl) (fun _ _ _ h => h) (Or.inl ⟨by rfl, by intro w; go_simp; intro h; omega⟩) ?_
              refine wpAny_ready (rs := [7, 9]) (by kernel_rfl) (by simp) ?_
              refine AllReady.cons rfl (fun K hK => ?_) (AllReady.cons rfl (fun K hK => ?_) AllReady.nil)
              · go_simp
                refine hK _ _ ?_
                clear hK K
                refine wpAny_ready (rs := [9]) (by kernel_rfl) (by simp) ?_
                refine AllReady.cons rfl (fun K hK => ?_) AllReady.nil
                go_simp
                refine hK _ _ ?_
                clear hK K
                refine wpAny_done (by kernel_rfl) ?_ _
                rw [hz]
                exact unhide F79
              · go_simp
                refine hK _ _ ?_
                clear hK K
                refine wpAny_ready (rs := [7]) (by kernel_rfl) (by simp) ?_
                refine AllReady.cons rfl (fun K hK => ?_) AllReady.nil
                go_simp
                refine hK _ _ ?_
                clear hK K
                refine wpAny_done (by kernel_rfl) ?_ _
                rw [hz]
                exact unhide F97
          · go_simp
            refine hK _ _ ?_
            clear hK K
            refine wpAny_ready (rs := [1]) (by kernel_rfl) (by simp) ?_
            refine AllReady.cons rfl (fun K hK => ?_) AllReady.nil
            · go_simp
              refine hK _ _ ?_
              clear hK K
              refine wpAny_take (i := 3) (v := .int .i64 st.pre.length) rfl (by kernel_rfl) (by kernel_rfl) (by kernel_rfl) (fun _ _ _ h => h) (Or.inl ⟨by rfl, by intro w; go_simp⟩) ?_
              refine wpAny_ready (rs := [5]) (by kernel_rfl) (by simp) ?_
              refine AllReady.cons rfl (fun K hK => ?_) AllReady.nil
              refine step_append_lies _ rfl (.tmp 66) (.tmp 69) 22 rfl (n1 + 8) 24 i0 zeroN 3 48 Tryd.underlying22 hi0 hz0 hz1 hz2 rfl (by omega) (.slice sla st.pre.length slc) st.pre.length (vs.flatMap trip) (by simp [Act.eval, Act.put]) ho1 ⟨W.heap.size, 0, none⟩ 1 1 [.int .i64 0, .string ⟨#[]⟩, .slice none 0 0] (by simp [Act.eval, Act.put]) rfl hnw hoc (by omega) (by unfold maxLen; omega) (by omega) (by simp; omega) (W.heap.size + 1) (by simp) ?_
              intro gg cap w1 hown1 hgrow hat hglt
              refine hK _ _ ?_
              clear hK K
              have F79 := hide (tell79 (c0 := .int .i64 xt) (c1 := .string xd) (c2 := .slice xa xn xc) hn1 hInv hsz hnb hvl hNs ho hN hlo hol hgrow hat hown1)
              have F97 := hide (tell97 (c0 := .int .i64 xt) (c1 := .string xd) (c2 := .slice xa xn xc) hn1 hInv hsz hnb hvl hNs ho hN hlo hol hgrow hat hown1)
              obtain ⟨⟨l0, l1, l2⟩, m0, m1, m2⟩ := lastCells hown1
              obtain ⟨n0, k0⟩ := (unhide HNB) w1 hgrow
              have hne : gg ≠ n1 + 1 := by rcases hat with h | h; (have := (ho.lt _ h).1; omega); omega
              have n3 : ∀ x y z, (((w1.setCell ⟨gg, st.pre.length * 3, none⟩ x).setCell ⟨gg, st.pre.length * 3 + 1, none⟩ y).setCell ⟨gg, st.pre.length * 3 + 2, none⟩ z).cell? ⟨n1 + 1, 2, none⟩ = some (.slice sla st.pre.length slc) := fun x y z => by rw [World.cell?_setCell_far _ _ _ _ (by simp; omega), World.cell?_setCell_far _ _ _ _ (by simp; omega), World.cell?_setCell_far _ _ _ _ (by simp; omega)]; exact n0
              have l0' : ∀ v, (w1.setCell ⟨n1 + 1, 2, none⟩ v).cell? ⟨gg, st.pre.length * 3, none⟩ = some (.int .i64 0) := fun v => by rw [World.cell?_setCell_far _ _ _ _ (by simp; omega)]; exact l0
              have l1' : ∀ v, (w1.setCell ⟨n1 + 1, 2, none⟩ v).cell? ⟨gg, st.pre.length * 3 + 1, none⟩ = some (.string ⟨#[]⟩) := fun v => by rw [World.cell?_setCell_far _ _ _ _ (by simp; omega)]; exact l1
              have l2' : ∀ v, (w1.setCell ⟨n1 + 1, 2, none⟩ v).cell? ⟨gg, st.pre.length * 3 + 2, none⟩ = some (.slice none 0 0) := fun v => by rw [World.cell?_setCell_far _ _ _ _ (by simp; omega)]; exact l2
              clear hown1 hgrow hat
              refine wpAny_take (i := 8) (v := .pointer (some ⟨n1 + 1, 2, none⟩)) rfl (by kernel_rfl) (by kernel_rfl) (by kernel_rfl) (fun _ _ _ h => h) (Or.inl ⟨by rfl, by intro w; go_simp⟩) ?_
              refine wpAny_take (i := 6) (v := .pointer (some ⟨gg, st.pre.length * 3, none⟩)) rfl (by kernel_rfl) (by kernel_rfl) (by kernel_rfl) (fun _ _ _ h => h) (Or.inl ⟨by rfl, by intro w; go_simp; intro h; omega⟩) ?_
              refine wpAny_ready (rs := [7, 9]) (by kernel_rfl) (by simp) ?_
              refine AllReady.cons rfl (fun K hK => ?_) (AllReady.cons rfl (fun K hK => ?_) AllReady.nil)
              · go_simp
                refine hK _ _ ?_
                clear hK K
                refine wpAny_ready (rs := [9]) (by kernel_rfl) (by simp) ?_
                refine AllReady.cons rfl (fun K hK => ?_) AllReady.nil
                go_simp
                refine hK _ _ ?_
                clear hK K
                refine wpAny_done (by kernel_rfl) ?_ _
                rw [hz]
                exact unhide F79
              · go_simp
                refine hK _ _ ?_
                clear hK K
                refine wpAny_ready (rs := [7]) (by kernel_rfl) (by simp) ?_
                refine AllReady.cons rfl (fun K hK => ?_) AllReady.nil
                go_simp
                refine hK _ _ ?_
                clear hK K
                refine wpAny_done (by kernel_rfl) ?_ _
                rw [hz]
                exact unhide F97
      intro e a1 w1 hq
      cases e with
      | normal =>
        obtain ⟨h1, h2, h3⟩ := hq
        obtain ⟨_, _, _, _, p5, p6⟩ := readT_props s.data.toList k st.q b st.c T nx c' (by simpa using hb) hc2 hg.symm
        have hcp := count_pos _ T
        exact ⟨⟨_, rfl⟩, h1, h2, h3, by simp [nxt]; omega, p6⟩
      | _ => exact hq.elim
  case done =>
    rintro st W ⟨hok, hT⟩ ⟨hInv, hlen, hc2⟩ hK
    obtain ⟨a0, a1, a2⟩ := (cells3 hInv.hb).1
    obtain ⟨sl, hnb, hgr⟩ := hInv.nb
    obtain ⟨d0, d1, d2⟩ := (cells3 hnb).1
    obtain ⟨⟨c0, c1, c2, c3, c4⟩, r0, r1, r2, r3, r4⟩ := hInv.ans.cells
    obtain ⟨sla, slc, rfl⟩ := hgr.form
    go_wp2
    refine wp_mono (Q := fun e a1 w1 => match e with | .normal => a1 = actT w.heap.size n1 R p stop deep t a b undef undef undef undef (.agg #[.int .i64 t, .string ⟨#[]⟩, .slice sla st.pre.length slc]) (.pointer (some ⟨n1, 2, none⟩)) (.int .i64 b) [{ target := .collected W0.heap.size, args := #[] }] ∧
        w1 = (((((W.setCell ⟨w.heap.size, 0, none⟩ (.int .i64 t)).setCell ⟨w.heap.size, 1, none⟩ (.string ⟨#[]⟩)).setCell ⟨w.heap.size, 2, none⟩ (.slice sla st.pre.length slc)).setCell ⟨w.heap.size + 1, 0, none⟩ (.int .i64 b)).setCell ⟨w.heap.size + 1 + 1, 0, none⟩ .nilIface).drew | _ => False) ?_ ?_
    · go_region
      all_goals exact ⟨rfl, rfl⟩
    intro e a1 w5 hq
    cases e with
    | normal =>
      obtain ⟨rfl, hw5⟩ := hq
      have hK5 : w5.heap[W0.heap.size]? = some (.deferred (some [])) := ((stored5' hInv.ans hw5).2.2.2.1 _ (by omega) (by omega) (by omega)).trans hK
      have Hw5 := hide hw5
      clear hw5
      go_wp2
      refine ⟨by simp, .inl ⟨_, _, rfl, run_takeDeferred hK5, ?_⟩⟩
      go_light
      obtain ⟨⟨u0, u1, u2, u3, u4⟩, hp⟩ := doneT (A := A) (V' := w5.putObj W0.heap.size (.deferred none)) hR hn1 hInv hT hgr (by omega) hok (unhide Hw5) (by rw [hz])
      generalize w5.putObj W0.heap.size (.deferred none) = W6 at *
      exact ⟨.tuple #[.agg #[.int .i64 t, .string ⟨#[]⟩, .slice sla st.pre.length slc], .int .i64 b, .nilIface], by simp [results, Tryd.results51, go_sem, u0, u1, u2, u3, u4], hp⟩
    | _ => exact hq.elim
  case stop =>
    rintro cd st W ⟨E, h1, h2⟩ ⟨rfl, v, E', h3, h4, hO⟩ hK
    obtain rfl : E' = E := by rw [h3] at h2; cases h2; rfl
    gi_wp2
    refine ⟨by simp, .inl ⟨_, _, rfl, run_takeDeferred hK, ?_⟩⟩
    go_light
    obtain ⟨⟨u0, u1, u2, u3, u4⟩, hp⟩ := stopT (k := k) (t := t) (b := b) (s := s) (V' := W.putObj W0.heap.size (.deferred none)) hn1 hO h4 h1 (by rw [hz])
    generalize W.putObj W0.heap.size (.deferred none) = W6 at *
    exact ⟨.tuple #[zeroN, .int .i64 0, v], by simp [results, Tryd.results51, go_sem, u0, u1, u2, u3, u4], hp⟩
end Go.Proofs.YthibodkemnkjeaaDoor
