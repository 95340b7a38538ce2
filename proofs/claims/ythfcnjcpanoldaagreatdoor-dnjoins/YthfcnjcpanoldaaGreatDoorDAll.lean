/-
  append(append(all, x...), y...), of names. Conditions: none.
-/
import Derived.Test.YthfcnjcpanoldaaGreatDoorDCut
namespace Go.Proofs.YthfcnjcpanoldaaGreatDoor.D
open Go Go.RowKit Go.Shelf Dp

theorem run_append_nil (W : World) (g n c : Nat) (ty : TypeId) (hn : n ≤ c) : (Builtin.append_ #[22, 22] ty #[.slice (some ⟨g, 0, none⟩) n c, .slice none 0 0]).run Tryz.prog W = .ok (.slice (some ⟨g, 0, none⟩) n c) W := by
  have h : ¬ c < n := by omega
  obtain ⟨i0, hi0, hz0, hz1, hz2⟩ := infoR
  simp [Builtin.append_, run_underlying Tryz.underlying22, Builtin.firstCells, Builtin.lenOf, sizeOf, typeInfo, hi0, h, storeCells, Result.andThen]
theorem run_append_nils (W : World) (ty : TypeId) : (Builtin.append_ #[22, 22] ty #[.slice none 0 0, .slice none 0 0]).run Tryz.prog W = .ok (.slice none 0 0) W := by
  obtain ⟨i0, hi0, hz0, hz1, hz2⟩ := infoR
  simp [Builtin.append_, run_underlying Tryz.underlying22, Builtin.firstCells, Builtin.lenOf, sizeOf, typeInfo, hi0, Result.andThen]
theorem grown_refl (W : World) (r : Option Nat) : W.grownBy W r := ⟨rfl, rfl, rfl, Nat.le_refl _, fun _ _ _ => rfl⟩
/-- append of a name to a list of one's own. -/
theorem wpList_app {ops : Array Oper} {rest : List Oper} {o : Oper} {a : Act} {Q : Exit → Act → World → Prop} {W : World} (hgd : o.guard = none) (s x : Operand)
    (ho : o.op = .call { callee := .builtin .append, args := #[s, x], argTypes := #[22, 22] }) (base : Nat) (v : Value) (n : Nat) (us : List Value) (hs : a.eval s = v) (hown : W.ownsRow base 42 1 v n us)
    (vx : Value) (X : Nm) (hx : a.eval x = vx) (hX : NOwn W vx X) (hn : n + X.length ≤ 1000) (hbase : base ≤ W.heap.size)
    (h : ∀ v' W' ux, Owns W ux X → W'.ownsRow base 42 1 v' (n + X.length) (us ++ ux) → W.grownBy W' v.ownBlock → wpList Tryz.prog ops Q rest (a.put o.dst v') W') : wpList Tryz.prog ops Q (o :: rest) a W := by
  obtain ⟨ux, bx, hox, hux⟩ := hX
  rcases hox.2 with ⟨rfl, h0⟩ | ⟨g, cap, cur, rfl, hg, hc, h1, h2, h3, h4⟩
  · have hX0 : X = [] := List.length_eq_zero_iff.1 h0
    subst hX0
    have hu0 : ux = [] := List.length_eq_zero_iff.1 hux.1
    subst hu0
    have hres : wpList Tryz.prog ops Q rest (a.put o.dst v) W := h v W [] hux (by simpa using hown) (grown_refl W _)
    refine wpList_plain hgd fun K hK => ?_
    unfold Oper.wp execOp
    rcases hown.2 with ⟨rfl, _⟩ | ⟨g, cap, cur, rfl, _, _, hcp, _⟩
    · simp only [ho, resolve, invoke, builtin, Sem.run_bind, Sem.run_pure, Result.andThen_ok, List.map_toArray, List.map_cons, List.map_nil, hs, hx, run_append_nils W o.type]
      exact hK _ _ hres
    · simp only [ho, resolve, invoke, builtin, Sem.run_bind, Sem.run_pure, Result.andThen_ok, List.map_toArray, List.map_cons, List.map_nil, hs, hx, run_append_nil W g n cap o.type hcp]
      exact hK _ _ hres
  · obtain ⟨i0, hi0, hz0, hz1, hz2⟩ := infoR
    refine wpList_append_own W hgd s x 22 ho base 42 i0 (.agg #[.slice none 0 0]) 1 24 Tryz.underlying22 hi0 hz0 hz1 hz2 rfl (by omega) v n us hs hown ⟨g, 0, none⟩ X.length cap ux hx (by rw [hux.1]; omega) (fun j u hj => hox.cells (g := g) rfl j u hj) (fun u hu => ?_) (by unfold maxLen; omega) (by omega) hbase (fun v' W' k1 k2 _ => h v' W' ux hux k1 k2)
    obtain ⟨i, hi⟩ := List.getElem?_of_mem hu
    have hil := (List.getElem?_eq_some_iff.1 hi).1
    obtain ⟨ua, uc, rfl⟩ := (hux.2 i u _ hi (List.getElem?_eq_getElem (by rw [← hux.1]; exact hil))).form
    rfl
theorem Owns.append {W : World} {us ws : List Value} {d e : Nm} (h : Owns W us d) (k : Owns W ws e) : Owns W (us ++ ws) (d ++ e) := by
  refine ⟨by simp [h.1, k.1], fun i v q hv hq => ?_⟩
  by_cases hi : i < d.length
  · rw [List.getElem?_append_left (by have := h.1; omega)] at hv
    rw [List.getElem?_append_left hi] at hq
    exact h.2 i v q hv hq
  · rw [List.getElem?_append_right (by have := h.1; omega)] at hv
    rw [List.getElem?_append_right (by omega), ← h.1] at hq
    exact k.2 _ v q hv hq
/-- a list of one's own that grows leaves lists of parts as they are. -/
theorem Owns.grow {V V2 : World} {ws us : List Value} {d : Nm} {base n : Nat} {sl : Value} (hO : Owns V ws d) (h : V.ownsRow base 42 1 sl n us) (hg : V.grownBy V2 sl.ownBlock) : Owns V2 ws d := by
  refine hO.of fun b c hb => hg.block b (Array.getElem?_eq_some_iff.1 hb).1 (fun e => ?_)
  rcases h.2 with ⟨rfl, _⟩ | ⟨g, cap, cur, rfl, _, hgb, _⟩
  · cases e
  · cases e
    rw [hb] at hgb
    cases hgb
theorem grow_below {w W W' : World} {base n : Nat} {v : Value} {xs : List Value} (hw : Below w.heap.size w W) (hB : w.heap.size ≤ base) (ho : W.ownsRow base 42 1 v n xs) (hg : W.grownBy W' v.ownBlock) : Below w.heap.size w W' :=
  ⟨hg.os.trans hw.os, hg.tape.trans hw.tape, hg.output.trans hw.output, Nat.le_trans hw.size hg.size, fun k hk => (hg.block k (Nat.lt_of_lt_of_le hk hw.size) (fun e => by have := (ho.lt k e.symm).1; omega)).trans (hw.block k hk)⟩
/-- what lies behind the two. -/
theorem all_of {W V1 V2 : World} {X Y : Nm} {v1 v2 : Value} {ux uy : List Value} (hX : Owns W ux X) (o1 : V1.ownsRow W.heap.size 42 1 v1 (0 + X.length) ([] ++ ux)) (g1 : W.grownBy V1 none) (hY : Owns V1 uy Y) (o2 : V2.ownsRow W.heap.size 42 1 v2 (0 + X.length + Y.length) ([] ++ ux ++ uy)) (g2 : V1.grownBy V2 v1.ownBlock) :
    Below W.heap.size W V2 ∧ NOwn V2 v2 (X ++ Y) := by
  have hb1 : Below W.heap.size W V1 := ⟨g1.os, g1.tape, g1.output, g1.size, fun k hk => g1.block k hk (by simp)⟩
  refine ⟨grow_below hb1 (Nat.le_refl _) o1 g2, ux ++ uy, W.heap.size, ?_, ?_⟩
  · rw [List.length_append]
    simpa using o2
  · exact ((hX.below hb1).append hY).grow o1 g2
end Go.Proofs.YthfcnjcpanoldaaGreatDoor.D
