/-
  What lies in memory of a tree: 'Node'; and small laws on it. Conditions: none.
-/
import Derived.Test.YthibodkemnkjeaaDoorTErrno
import Derived.Test.YthibodkemnkjeaaDoorTvLaws
namespace Go.Proofs.YthibodkemnkjeaaDoor
open Go.RowKit Tv

/-- the value v is the tree T in world W; the blocks of its lists are such as p says. -/
def Node : (n : Nat) → World → (Nat → Prop) → Value → Tr n → Prop
  | 0, _, _, _, t => Empty.elim t
  | n + 1, W, p, v, T => ∃ a cap, v = .agg #[.int .i64 (tag T), .string (dat T), .slice a (kids T).length cap] ∧ (dat T).size ≤ 9000 ∧ (kids T).length ≤ 4000 ∧
      (kids T = [] ∨ ∃ g off, a = some ⟨g, off, none⟩ ∧ p g ∧ ∀ (i : Nat) x, (kids T)[i]? = some x → ∃ c0 c1 c2, W.cell? ⟨g, off + i * 3, none⟩ = some c0 ∧ W.cell? ⟨g, off + i * 3 + 1, none⟩ = some c1 ∧ W.cell? ⟨g, off + i * 3 + 2, none⟩ = some c2 ∧ Node n W p (.agg #[c0, c1, c2]) x)

theorem Node.of : ∀ {n : Nat} {W W' : World} {p : Nat → Prop} {v : Value} {T : Tr n}, Node n W p v T → (∀ b, p b → b < W.heap.size → W'.heap[b]? = W.heap[b]?) → Node n W' p v T
  | 0, _, _, _, _, t, _, _ => Empty.elim t
  | n + 1, W, W', p, v, T, ⟨a, cap, hv, hd, hk, h⟩, hb => by
    refine ⟨a, cap, hv, hd, hk, ?_⟩
    rcases h with h | ⟨g, off, ha, hp, hx⟩
    · exact .inl h
    · refine .inr ⟨g, off, ha, hp, fun i x hi => ?_⟩
      obtain ⟨c0, c1, c2, h0, h1, h2, h3⟩ := hx i x hi
      have e : W'.heap[g]? = W.heap[g]? := hb g hp (lt_of_cell h0)
      exact ⟨c0, c1, c2, (World.cell?_of_block (w := W) (a := ⟨g, off + i * 3, none⟩) e).trans h0, (World.cell?_of_block (w := W) (a := ⟨g, off + i * 3 + 1, none⟩) e).trans h1, (World.cell?_of_block (w := W) (a := ⟨g, off + i * 3 + 2, none⟩) e).trans h2, Node.of h3 hb⟩
theorem Node.imp : ∀ {n : Nat} {W : World} {p q : Nat → Prop} {v : Value} {T : Tr n}, Node n W p v T → (∀ b, p b → b < W.heap.size → q b) → Node n W q v T
  | 0, _, _, _, _, t, _, _ => Empty.elim t
  | n + 1, W, p, q, v, T, ⟨a, cap, hv, hd, hk, h⟩, hb => by
    refine ⟨a, cap, hv, hd, hk, ?_⟩
    rcases h with h | ⟨g, off, ha, hp, hx⟩
    · exact .inl h
    · cases hks : kids T with
      | nil => exact .inl rfl
      | cons y ys =>
        rw [hks] at hx
        obtain ⟨_, _, _, h0, _, _, _⟩ := hx 0 y rfl
        refine .inr ⟨g, off, ha, hb g hp (lt_of_cell h0), fun i x hi => ?_⟩
        obtain ⟨c0, c1, c2, h0, h1, h2, h3⟩ := hx i x hi
        exact ⟨c0, c1, c2, h0, h1, h2, Node.imp h3 hb⟩
theorem Node.below {n : Nat} {W W' : World} {p : Nat → Prop} {v : Value} {T : Tr n} (h : Node n W p v T) (hb : Below W.heap.size W W') : Node n W' p v T := h.of fun b _ hl => hb.block b hl
theorem Node.but {n : Nat} {W W' : World} {p : Nat → Prop} {v : Value} {T : Tr n} {b : Nat} (h : Node n W p v T) (hb : But b W W') (hp : ¬ p b) : Node n W' p v T := h.of fun k hk hl => hb.block k hl (fun e => hp (e ▸ hk))
/-- no tree of no levels lies anywhere. -/
theorem Node.shape {n : Nat} {W : World} {p : Nat → Prop} {v : Value} {T : Tr (n + 1)} (h : Node (n + 1) W p v T) : ∃ a cap, v = .agg #[.int .i64 (tag T), .string (dat T), .slice a (kids T).length cap] ∧ (dat T).size ≤ 9000 ∧ (kids T).length ≤ 4000 ∧
      ∀ (i : Nat) (hi : i < (kids T).length), ∃ g off, a = some ⟨g, off, none⟩ ∧ p g ∧ ∃ t d a' len' cap', W.cell? ⟨g, off + i * 3, none⟩ = some (.int .i64 t) ∧ W.cell? ⟨g, off + i * 3 + 1, none⟩ = some (.string d) ∧ W.cell? ⟨g, off + i * 3 + 2, none⟩ = some (.slice a' len' cap') ∧
        Node n W p (.agg #[.int .i64 t, .string d, .slice a' len' cap']) (kids T)[i] := by
  obtain ⟨a, cap, hv, hd, hk, h⟩ := h
  refine ⟨a, cap, hv, hd, hk, fun i hi => ?_⟩
  rcases h with h | ⟨g, off, ha, hp, hx⟩
  · rw [h] at hi; cases hi
  · obtain ⟨c0, c1, c2, h0, h1, h2, h3⟩ := hx i _ (List.getElem?_eq_getElem hi)
    cases n with
    | zero => exact Empty.elim (kids T)[i]
    | succ m =>
      have h3' := h3
      obtain ⟨a', cap', e, _, _, _⟩ := h3'
      injection e with e
      have e' := congrArg Array.toList e
      simp only [List.cons.injEq, and_true] at e'
      obtain ⟨rfl, rfl, rfl⟩ := e'
      exact ⟨g, off, ha, hp, _, _, _, _, _, h0, h1, h2, h3⟩
end Go.Proofs.YthibodkemnkjeaaDoor
