/-
  What lies in memory while pieces are read into a list that grows. Conditions: none.
-/
import Derived.Test.YthfcnjcpanoldaaGreatDoorDAva
namespace Go.Proofs.YthfcnjcpanoldaaGreatDoor.D
open Go Go.RowKit Go.Shelf Dp
attribute [local go_sem] Oper.semAt_some

theorem infoA : ∃ i, Tryz.prog.info? 39 = some i ∧ i.zero = some (.agg #[.string ⟨#[]⟩, .string ⟨#[]⟩]) ∧ i.size = 2 ∧ i.bytes = 32 := ⟨Tryz.t39, by kernel_rfl, by kernel_rfl, by kernel_rfl, by kernel_rfl⟩
theorem infoR : ∃ i, Tryz.prog.info? 42 = some i ∧ i.zero = some (.agg #[.slice none 0 0]) ∧ i.size = 1 ∧ i.bytes = 24 := ⟨Tryz.t42, by kernel_rfl, by kernel_rfl, by kernel_rfl, by kernel_rfl⟩

/-- the cells of parts. -/
def flatA (r : Rd) : List Value := r.flatMap fun a => [.string a.1, .string a.2]
theorem flatA_get : ∀ (r : Rd) (i : Nat) (x : Av), r[i]? = some x → (flatA r)[i * 2]? = some (.string x.1) ∧ (flatA r)[i * 2 + 1]? = some (.string x.2)
  | [], i, x, h => by simp at h
  | y :: r, 0, x, h => by
    simp at h; subst h
    simp [flatA]
  | y :: r, i + 1, x, h => by
    have ih := flatA_get r i x (by simpa using h)
    have e : flatA (y :: r) = .string y.1 :: .string y.2 :: flatA r := by simp [flatA]
    rw [e, show (i + 1) * 2 = i * 2 + 2 by omega]
    exact ⟨by simpa using ih.1, by simpa using ih.2⟩
theorem flatA_snoc (r : Rd) (x : Av) : flatA (r ++ [x]) = flatA r ++ [.string x.1, .string x.2] := by simp [flatA]
/-- a list of parts of the program's own. -/
def Own (W : World) (u : Value) (r : Rd) : Prop := ∃ base, W.ownsRow base 39 2 u r.length (flatA r)
theorem Own.of {W W' : World} {u : Value} {r : Rd} (h : Own W u r) (hb : ∀ (b : Nat) c, W.heap[b]? = some (Obj.cells c 39 (0, 0)) → W'.heap[b]? = W.heap[b]?) : Own W' u r := by
  obtain ⟨base, ho⟩ := h
  refine ⟨base, ho.1, ?_⟩
  rcases ho.2 with h | ⟨g, cap, cur, e, hg, hc, h⟩
  · exact .inl h
  · exact .inr ⟨g, cap, cur, e, hg, (hb g _ hc).trans hc, h⟩
theorem Own.below {W W' : World} {u : Value} {r : Rd} (h : Own W u r) (hb : Below W.heap.size W W') : Own W' u r := h.of fun b _ hc => hb.block b (Array.getElem?_eq_some_iff.1 hc).1
theorem Own.form {W : World} {u : Value} {r : Rd} (h : Own W u r) : ∃ a cap, u = .slice a r.length cap := by
  obtain ⟨base, ho⟩ := h
  rcases ho.2 with ⟨e, h0⟩ | ⟨g, cap, cur, e, _⟩
  · exact ⟨none, 0, by rw [e, h0]⟩
  · exact ⟨_, _, e⟩
theorem Own.rdl {W : World} {u : Value} {r : Rd} (h : Own W u r) : Rdl W u r := by
  obtain ⟨base, ho⟩ := h
  have ho' := ho
  rcases ho.2 with ⟨rfl, h0⟩ | ⟨g, cap, cur, rfl, hg, hc, h1, h2, h3, h4⟩
  · have : r = [] := List.length_eq_zero_iff.1 h0
    subst this
    exact Rdl.nil W
  · refine ⟨_, cap, rfl, by omega, .inr ⟨g, 0, rfl, fun i x hx => ?_⟩⟩
    obtain ⟨k1, k2⟩ := flatA_get r i x hx
    have c1 := ho'.cells (g := g) rfl _ _ k1
    have c2 := ho'.cells (g := g) rfl _ _ k2
    rw [Addr.add_lit] at c1 c2
    exact ⟨c1, c2⟩
/-- a list of those. -/
def Owns (W : World) (us : List Value) (d : Nm) : Prop := us.length = d.length ∧ ∀ (i : Nat) u r, us[i]? = some u → d[i]? = some r → Own W u r
theorem Owns.of {W W' : World} {us : List Value} {d : Nm} (h : Owns W us d) (hb : ∀ (b : Nat) c, W.heap[b]? = some (Obj.cells c 39 (0, 0)) → W'.heap[b]? = W.heap[b]?) : Owns W' us d :=
  ⟨h.1, fun i u r h1 h2 => (h.2 i u r h1 h2).of hb⟩
theorem Owns.nil (W : World) : Owns W [] [] := ⟨rfl, fun i u r h => by simp at h⟩
theorem Owns.snoc {W : World} {us : List Value} {d : Nm} {u : Value} {r : Rd} (h : Owns W us d) (hu : Own W u r) : Owns W (us ++ [u]) (d ++ [r]) := by
  refine ⟨by simp [h.1], fun i v q hv hq => ?_⟩
  by_cases hi : i < d.length
  · rw [List.getElem?_append_left (by have := h.1; omega)] at hv
    rw [List.getElem?_append_left hi] at hq
    exact h.2 i v q hv hq
  · have hiv : i = d.length := by
      have := (List.getElem?_eq_some_iff.1 hq).1
      simp at this; omega
    subst hiv
    rw [List.getElem?_append_right (by have := h.1; omega)] at hv
    rw [List.getElem?_append_right (by omega)] at hq
    simp [h.1] at hv hq
    subst hv; subst hq
    exact hu
def NOwn (W : World) (v : Value) (d : Nm) : Prop := ∃ us base, W.ownsRow base 42 1 v d.length us ∧ Owns W us d
theorem NOwn.nml {W : World} {v : Value} {d : Nm} (h : NOwn W v d) : Nml W v d := by
  obtain ⟨us, base, ho, hu⟩ := h
  have ho' := ho
  rcases ho.2 with ⟨rfl, h0⟩ | ⟨g, cap, cur, rfl, hg, hc, h1, h2, h3, h4⟩
  · have : d = [] := List.length_eq_zero_iff.1 h0
    subst this
    exact Nml.nil W
  · refine ⟨_, cap, rfl, by omega, .inr ⟨g, 0, rfl, fun i r hr => ?_⟩⟩
    have hi := (List.getElem?_eq_some_iff.1 hr).1
    have hi' : i < us.length := by have := hu.1; omega
    have hv : us[i]? = some us[i] := List.getElem?_eq_getElem hi'
    have c1 := ho'.cells (g := g) rfl _ _ hv
    rw [Addr.add_lit] at c1
    exact ⟨_, c1, (hu.2 i _ r hv hr).rdl⟩

/-- what lies in memory while the pieces are read. -/
structure Lin (tE tS tF : TypeId) (k most : Nat) (each : FuncId) (w : World) (us : List Value) (n : Nat) (sl err : Value) (W : World) : Prop where
  b1 : W.heap[w.heap.size + 1]? = some (.cells #[.int .i64 (most : Int)] 3)
  b2 : W.heap[w.heap.size + 2]? = some (.cells #[.func (.func each) #[] #[]] tF)
  b3 : W.heap[w.heap.size + 3]? = some (.cells #[sl] tS)
  b4 : W.heap[w.heap.size + 4]? = some (.cells #[err] 45)
  own : W.ownsRow (w.heap.size + 6) tE k sl n us
  bel : Below w.heap.size w W
  size : w.heap.size + 6 ≤ W.heap.size
section
variable {tE tS tF : TypeId} {k most : Nat} {each : FuncId} {w : World} {us : List Value} {n : Nat} {sl err : Value} {W : World}
theorem Lin.cl (h : Lin tE tS tF k most each w us n sl err W) : (W.cell? ⟨w.heap.size + 1, 0, none⟩ = some (.int .i64 (most : Int)) ∧ W.cell? ⟨w.heap.size + 2, 0, none⟩ = some (.func (.func each) #[] #[])) ∧ W.cell? ⟨w.heap.size + 3, 0, none⟩ = some sl ∧ W.cell? ⟨w.heap.size + 4, 0, none⟩ = some err ∧ W.frozen? ⟨w.heap.size + 3, 0, none⟩ = false ∧ W.frozen? ⟨w.heap.size + 4, 0, none⟩ = false := by
  have h1 := h.b1
  have h2 := h.b2
  have h3 := h.b3
  have h4 := h.b4
  simp [World.cell?, World.frozen?, h1, h2, h3, h4]
theorem Lin.grown {W' : World} {row : Option Nat} (h : Lin tE tS tF k most each w us n sl err W) (hg : W.grownBy W' row) (hr : ∀ r, row = some r → w.heap.size + 6 ≤ r ∧ ∃ o, W.heap[r]? = some o ∧ o.isCells = false) : Lin tE tS tF k most each w us n sl err W' := by
  have hz := h.size
  have hk : ∀ j, j < w.heap.size + 6 → W'.heap[j]? = W.heap[j]? := fun j hj => hg.block j (by omega) (fun e => by have := (hr j e.symm).1; omega)
  refine ⟨(hk _ (by omega)).trans h.b1, (hk _ (by omega)).trans h.b2, (hk _ (by omega)).trans h.b3, (hk _ (by omega)).trans h.b4, h.own.kept hg ?_, ⟨hg.os.trans h.bel.os, hg.tape.trans h.bel.tape, hg.output.trans h.bel.output, Nat.le_trans h.bel.size hg.size, fun j hj => (hk j (by omega)).trans (h.bel.block j hj)⟩, Nat.le_trans hz hg.size⟩
  rcases h.own.2 with ⟨rfl, _⟩ | ⟨g, cap, cur, rfl, _, hgb, _⟩
  · exact .inl rfl
  · refine .inr fun e' => ?_
    obtain ⟨_, o, ho, hc⟩ := hr g (by simpa [Value.ownBlock] using e'.symm)
    rw [hgb] at ho; cases ho; cases hc
theorem Lin.below {W' : World} (h : Lin tE tS tF k most each w us n sl err W) (hb : Below W.heap.size W W') : Lin tE tS tF k most each w us n sl err W' := by
  have hz := h.size
  have hk : ∀ j, j < w.heap.size + 6 → W'.heap[j]? = W.heap[j]? := fun j hj => hb.block j (by omega)
  exact ⟨(hk _ (by omega)).trans h.b1, (hk _ (by omega)).trans h.b2, (hk _ (by omega)).trans h.b3, (hk _ (by omega)).trans h.b4, own_below h.own hb, h.bel.trans (hb.mono (by omega)), Nat.le_trans hz hb.size⟩
theorem Lin.setE (h : Lin tE tS tF k most each w us n sl err W) (m : Value) : Lin tE tS tF k most each w us n sl m (W.setCell ⟨w.heap.size + 4, 0, none⟩ m) := by
  have o : ∀ j, j ≠ w.heap.size + 4 → (W.setCell ⟨w.heap.size + 4, 0, none⟩ m).heap[j]? = W.heap[j]? := fun j hj => Below.heap_setCell _ _ _ _ hj
  exact ⟨(o _ (by omega)).trans h.b1, (o _ (by omega)).trans h.b2, (o _ (by omega)).trans h.b3, heap_setCell_same W _ 0 _ _ _ h.b4, ownsRow_setCell_below h.own (by show w.heap.size + 4 < _; omega) _, h.bel.setCell (by show w.heap.size ≤ w.heap.size + 4; omega) _, by simp; exact h.size⟩
/-- what a round keeps for others. -/
def Kl (w W W' : World) : Prop := KeepsOthers W W' ∧ C.Two (w.heap.size + 5) (w.heap.size + 5) W W'
theorem Kl.trans {U V X : World} (h : Kl w U V) (q : Kl w V X) : Kl w U X := ⟨h.1.trans q.1, h.2.trans q.2⟩
theorem Kl.below {W' : World} (hz : w.heap.size + 6 ≤ W.heap.size) (h : Below W.heap.size W W') : Kl w W W' := ⟨C.keepsO h, h.block _ (by omega), h.block _ (by omega)⟩
theorem Kl.set (W : World) (v : Value) (i : Nat) (hi : i < 5) : Kl w W (W.setCell ⟨w.heap.size + i, 0, none⟩ v) :=
  ⟨KeepsOthers.setCell _ _ _, Below.heap_setCell _ _ _ _ (by show w.heap.size + 5 ≠ w.heap.size + i; omega), Below.heap_setCell _ _ _ _ (by show w.heap.size + 5 ≠ w.heap.size + i; omega)⟩
/-- one more: behind what was just laid. -/
theorem Lin.app {W' : World} {o : Obj} {m : Nat} {us' : List Value} {sl' : Value} (h : Lin tE tS tF k most each w us n sl err W) (hg : (W.alloc o).grownBy W' sl.ownBlock) (ho : W'.ownsRow (w.heap.size + 6) tE k sl' m us') :
    Lin tE tS tF k most each w us' m sl' err (W'.setCell ⟨w.heap.size + 3, 0, none⟩ sl') ∧ Kl w W (W'.setCell ⟨w.heap.size + 3, 0, none⟩ sl') ∧ W'.cell? ⟨w.heap.size + 3, 0, none⟩ = some sl ∧ W'.frozen? ⟨w.heap.size + 3, 0, none⟩ = false := by
  have hz := h.size
  have hlt : ∀ j, some j = sl.ownBlock → w.heap.size + 6 ≤ j := fun j e => (h.own.lt j e.symm).1
  have hgs := hg.size
  rw [World.size_alloc] at hgs
  have hk : ∀ j, j < w.heap.size + 6 → W'.heap[j]? = W.heap[j]? := fun j hj => (hg.block j (by simp; omega) (fun e => by have := hlt j e; omega)).trans (Below.heap_alloc _ _ _ (by omega))
  have ow : ∀ j, j ≠ w.heap.size + 3 → (W'.setCell ⟨w.heap.size + 3, 0, none⟩ sl').heap[j]? = W'.heap[j]? := fun j hj => Below.heap_setCell _ _ _ _ hj
  have hK : KeepsOthers W W' := ⟨by omega, fun j o' hj hc => by
    have hjl := (Array.getElem?_eq_some_iff.1 hj).1
    rw [hg.block j (by simp; omega) (fun e => ?_)]
    · exact (Below.heap_alloc _ _ _ hjl).trans hj
    · rcases h.own.2 with ⟨rfl, _⟩ | ⟨g, cap, cur, rfl, _, hgb, _⟩
      · cases e
      · cases e
        rw [hj] at hgb
        cases hgb
        cases hc⟩
  have b3' := (hk _ (by omega)).trans h.b3
  refine ⟨⟨(ow _ (by omega)).trans ((hk _ (by omega)).trans h.b1), (ow _ (by omega)).trans ((hk _ (by omega)).trans h.b2), heap_setCell_same W' _ 0 _ _ _ b3', (ow _ (by omega)).trans ((hk _ (by omega)).trans h.b4), ownsRow_setCell_below ho (by show w.heap.size + 3 < _; omega) _, ?_, by simp; omega⟩, ⟨hK.trans (KeepsOthers.setCell _ _ _), (ow _ (by omega)).trans (hk _ (by omega)), (ow _ (by omega)).trans (hk _ (by omega))⟩, ?_, ?_⟩
  · have hb : Below w.heap.size w W' := ⟨hg.os.trans h.bel.os, hg.tape.trans h.bel.tape, hg.output.trans h.bel.output, by have := h.bel.size; omega, fun j hj => (hk j (by omega)).trans (h.bel.block j hj)⟩
    exact hb.setCell (by show w.heap.size ≤ w.heap.size + 3; omega) _
  · simp [World.cell?, b3']
  · simp [World.frozen?, b3']
/-- lists of parts that lie elsewhere are kept. -/
theorem Owns.app {W' : World} {o : Obj} {ws : List Value} {d : Nm} {v : Value} (hO : Owns (W.alloc o) ws d) (h : Lin 42 22 tF 1 most each w us n sl err W) (hg : (W.alloc o).grownBy W' sl.ownBlock) : Owns (W'.setCell ⟨w.heap.size + 3, 0, none⟩ v) ws d := by
  have hz := h.size
  refine hO.of fun b c hb => ?_
  have hbl := (Array.getElem?_eq_some_iff.1 hb).1
  have hne : b ≠ w.heap.size + 3 := fun e => by
    subst e
    have := (Below.heap_alloc W o _ (by omega)).trans h.b3
    rw [hb] at this
    cases this
  refine (Below.heap_setCell _ _ _ _ hne).trans (hg.block b hbl (fun e => ?_))
  rcases h.own.2 with ⟨rfl, _⟩ | ⟨g, cap, cur, rfl, _, hgb, _⟩
  · cases e
  · cases e
    have := (Below.heap_alloc W o _ (Array.getElem?_eq_some_iff.1 hgb).1).trans hgb
    rw [hb] at this
    cases this
end
theorem mp_snoc {α : Type} (f : List UInt8 → Option α) (xs : List (List UInt8)) (y : List UInt8) (l : List α) (h : mp f xs = some l) : mp f (xs ++ [y]) = (f y).map fun a => l ++ [a] := by
  rw [mp_app, h, mp, mp]
  cases f y <;> rfl
theorem mp_bad {α : Type} (f : List UInt8 → Option α) (xs ys : List (List UInt8)) (y : List UInt8) (h : f y = none) : mp f (xs ++ [y] ++ ys) = none := by
  rw [mp_app, mp_app, mp, mp, h]
  cases mp f xs <;> rfl
end Go.Proofs.YthfcnjcpanoldaaGreatDoor.D
