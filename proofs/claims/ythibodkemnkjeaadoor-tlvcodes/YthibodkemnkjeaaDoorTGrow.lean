/-
  A list of trees that grows by append: what lies in memory. Conditions: none.
-/
import Derived.Test.YthibodkemnkjeaaDoorTNode
import Derived.Laws.OwnMore
namespace Go.Proofs.YthibodkemnkjeaaDoor
open Go.RowKit Tv

def trip (v : Value × Value × Value) : List Value := [v.1, v.2.1, v.2.2]
theorem trip_get : ∀ (vs : List (Value × Value × Value)) (i : Nat) (v : Value × Value × Value), vs[i]? = some v → (vs.flatMap trip)[i * 3]? = some v.1 ∧ (vs.flatMap trip)[i * 3 + 1]? = some v.2.1 ∧ (vs.flatMap trip)[i * 3 + 2]? = some v.2.2
  | [], i, v, h => by simp at h
  | x :: xs, 0, v, h => by
    simp at h; subst h
    simp [List.flatMap_cons, trip]
  | x :: xs, i + 1, v, h => by
    have ih := trip_get xs i v (by simpa using h)
    have e : (x :: xs).flatMap trip = x.1 :: x.2.1 :: x.2.2 :: xs.flatMap trip := by simp [List.flatMap_cons, trip]
    rw [e, show (i + 1) * 3 = i * 3 + 3 by omega]
    exact ⟨by simpa using ih.1, by simpa using ih.2.1, by simpa using ih.2.2⟩

/-- the slice sl, of the call's own memory from base on, holds these trees. -/
def Grow (k : Nat) (W : World) (base : Nat) (sl : Value) (pre : List (Tr k)) : Prop :=
  ∃ vs : List (Value × Value × Value), vs.length = pre.length ∧ W.ownsRow base 24 3 sl pre.length (vs.flatMap trip) ∧
    ∀ (i : Nat) v T, vs[i]? = some v → pre[i]? = some T → Node k W (fun b => base ≤ b ∧ some b ≠ sl.ownBlock) (.agg #[v.1, v.2.1, v.2.2]) T

theorem Grow.nil (k : Nat) (W : World) (base : Nat) : Grow k W base (.slice none 0 0) [] := ⟨[], rfl, World.ownsRow_nil W base _ 3, fun i v T h => by simp at h⟩
theorem Grow.of {k : Nat} {W W' : World} {base : Nat} {sl : Value} {pre : List (Tr k)} (h : Grow k W base sl pre) (hb : ∀ b, base ≤ b → b < W.heap.size → W'.heap[b]? = W.heap[b]?) : Grow k W' base sl pre := by
  obtain ⟨vs, hl, ho, hN⟩ := h
  refine ⟨vs, hl, ⟨ho.1, ?_⟩, fun i v T hv hT => (hN i v T hv hT).of fun b hp hlt => hb b hp.1 hlt⟩
  rcases ho.2 with h | ⟨g, cap, cur, e, hg, hc, h⟩
  · exact .inl h
  · exact .inr ⟨g, cap, cur, e, hg, (hb g hg (Array.getElem?_eq_some_iff.1 hc).1).trans hc, h⟩
theorem Grow.lt {k : Nat} {W : World} {base : Nat} {sl : Value} {pre : List (Tr k)} (h : Grow k W base sl pre) {g : Nat} (hg : sl.ownBlock = some g) : base ≤ g ∧ g < W.heap.size := by
  obtain ⟨vs, hl, ho, hN⟩ := h
  exact ho.lt g hg
theorem Grow.form {k : Nat} {W : World} {base : Nat} {sl : Value} {pre : List (Tr k)} (h : Grow k W base sl pre) : ∃ a cap, sl = .slice a pre.length cap := by
  obtain ⟨vs, hl, ho, hN⟩ := h
  rcases ho.2 with ⟨e, h0⟩ | ⟨g, cap, cur, e, _⟩
  · exact ⟨none, 0, by rw [e, h0]⟩
  · exact ⟨_, _, e⟩

theorem grow_snoc {k : Nat} {W W5 : World} {base lo g cap : Nat} {sl : Value} {pre : List (Tr k)} {vs : List (Value × Value × Value)} {c0 c1 c2 : Value} {T : Tr k} (hvl : vs.length = pre.length)
    (hN : ∀ (i : Nat) v T, vs[i]? = some v → pre[i]? = some T → Node k W (fun b => base ≤ b ∧ some b ≠ sl.ownBlock) (.agg #[v.1, v.2.1, v.2.2]) T)
    (hown : W5.ownsRow base 24 3 (.slice (some ⟨g, 0, none⟩) (pre.length + 1) cap) (pre.length + 1) (vs.flatMap trip ++ [c0, c1, c2]))
    (hsame : ∀ b, base ≤ b → b < W.heap.size → some b ≠ sl.ownBlock → b ≠ g → W5.heap[b]? = W.heap[b]?) (hg : sl.ownBlock = some g ∨ W.heap.size ≤ g)
    (hnew : Node k W (fun b => lo ≤ b) (.agg #[c0, c1, c2]) T) (hlo : base ≤ lo) (hol : ∀ g', sl.ownBlock = some g' → g' < lo) :
    Grow k W5 base (.slice (some ⟨g, 0, none⟩) (pre.length + 1) cap) (pre ++ [T]) := by
  have hG : ∀ b, base ≤ b ∧ some b ≠ sl.ownBlock → b < W.heap.size → b ≠ g := fun b hb hl e => by
    rcases hg with hg | hg
    · exact hb.2 (by rw [hg, e])
    · omega
  have step : ∀ {v : Value} {T : Tr k}, Node k W (fun b => base ≤ b ∧ some b ≠ sl.ownBlock) v T → Node k W5 (fun b => base ≤ b ∧ some b ≠ (Value.slice (some ⟨g, 0, none⟩) (pre.length + 1) cap).ownBlock) v T := fun h =>
    (h.imp (q := fun b => (base ≤ b ∧ some b ≠ sl.ownBlock) ∧ b ≠ g) (fun b hb hl => ⟨hb, hG b hb hl⟩)).of (fun b hb hl => hsame b hb.1.1 hl hb.1.2 hb.2) |>.imp (fun b hb _ => ⟨hb.1.1, fun e => hb.2 (by simpa [Value.ownBlock] using e)⟩)
  have hnew' : Node k W (fun b => base ≤ b ∧ some b ≠ sl.ownBlock) (.agg #[c0, c1, c2]) T := hnew.imp fun b hb _ => ⟨by omega, fun e => by have := hol b e.symm; omega⟩
  refine ⟨vs ++ [(c0, c1, c2)], by simp [hvl], by simpa [List.flatMap_append, trip] using hown, fun i v T' hv hT => ?_⟩
  by_cases hi : i < pre.length
  · rw [List.getElem?_append_left (by omega)] at hv hT
    exact step (hN i v T' hv hT)
  · have hiv : i = pre.length := by
      have := (List.getElem?_eq_some_iff.1 hT).1
      simp at this; omega
    subst hiv
    rw [List.getElem?_append_right (by omega)] at hv hT
    simp [hvl] at hv hT
    subst hv; subst hT
    exact step hnew'

theorem Grow.node {k : Nat} {W : World} {base : Nat} {sl : Value} {pre : List (Tr k)} (h : Grow k W base sl pre) (t : Int) (d : ByteArray) (hd : d.size ≤ 9000) (hp : pre.length ≤ 4000) :
    Node (k + 1) W (fun b => base ≤ b) (.agg #[.int .i64 t, .string d, sl]) (mk t d pre) := by
  obtain ⟨vs, hl, ho, hN⟩ := h
  rcases ho.2 with ⟨rfl, h0⟩ | ⟨g, cap, cur, rfl, hg, hc, _⟩
  · exact ⟨none, 0, by simp [h0], hd, hp, .inl (List.length_eq_zero_iff.1 h0)⟩
  · refine ⟨_, cap, rfl, hd, hp, .inr ⟨g, 0, rfl, hg, fun i T hT => ?_⟩⟩
    rw [kids_mk] at hT
    have hi := (List.getElem?_eq_some_iff.1 hT).1
    have hv : vs[i]? = some vs[i] := List.getElem?_eq_getElem (by omega)
    obtain ⟨t0, t1, t2⟩ := trip_get vs i _ hv
    have hcl : ∀ (j : Nat) u, (vs.flatMap trip)[j]? = some u → W.cell? ⟨g, 0 + j, none⟩ = some u := fun j u hj => by
      have := ho.cells (g := g) rfl j u hj
      rw [show (⟨g, 0, none⟩ : Addr).add j = ⟨g, 0 + j, none⟩ from by unfold Addr.add; split <;> simp_all] at this
      exact this
    refine ⟨_, _, _, ?_, ?_, ?_, (hN i _ T hv hT).imp fun b hb _ => hb.1⟩
    · exact hcl _ _ t0
    · exact hcl _ _ t1
    · exact hcl _ _ t2
end Go.Proofs.YthibodkemnkjeaaDoor
