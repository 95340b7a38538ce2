/-
  A tree among the arguments of a law, opened: whatever is handed in can be cut. Conditions: none.
-/
import Derived.Test.YthibodkemnkjeaaDoorTCut
import Derived.Deep.Strs
import Derived.Deep.Slices
import Derived.Carry
namespace Go.Proofs.YthibodkemnkjeaaDoor
open Go.RowKit Tv T Go.Shelf Go.Deep Go.Deep

theorem list_of {α : Type} (P : Nat → α → Prop) : ∀ m : Nat, (∀ i, i < m → ∃ x, P i x) → ∃ ks : List α, ks.length = m ∧ ∀ (i : Nat) x, ks[i]? = some x → P i x
  | 0, _ => ⟨[], rfl, fun i x h => by simp at h⟩
  | m + 1, h => by
    obtain ⟨ks, hl, hk⟩ := list_of P m fun i hi => h i (by omega)
    obtain ⟨x, hx⟩ := h m (by omega)
    refine ⟨ks ++ [x], by simp [hl], fun i y hy => ?_⟩
    by_cases hi : i < ks.length
    · rw [List.getElem?_append_left hi] at hy; exact hk i y hy
    · have hlt := (List.getElem?_eq_some_iff.1 hy).1
      have e : i = ks.length := by simp at hlt; omega
      subst e
      simp at hy
      subst hy
      rw [hl]; exact hx

theorem cNode : Tryd.prog.cellsOf 24 = 3 := by kernel_rfl
theorem cInt : Tryd.prog.cellsOf 3 = 1 := by kernel_rfl
theorem cStr : Tryd.prog.cellsOf 9 = 1 := by kernel_rfl
theorem cNodes : Tryd.prog.cellsOf 22 = 1 := by kernel_rfl

theorem cells?_three {w : World} {base : Nat} {a : Addr} {cs : List Value} (h : w.cells? base a 3 = some cs) : ∃ c0 c1 c2, cs = [c0, c1, c2] ∧ w.cell? a = some c0 ∧ w.cell? (a.add 1) = some c1 ∧ w.cell? (a.add 2) = some c2 := by
  unfold World.cells? at h
  split at h
  · rw [show List.range 3 = [0, 1, 2] from rfl] at h
    simp only [List.mapM_cons, List.mapM_nil, Option.pure_def, Option.bind_eq_bind, Option.bind_eq_some_iff] at h
    obtain ⟨c0, h0, r0, ⟨c1, h1, r1, ⟨c2, h2, r2, e2, e1⟩, e0⟩, e⟩ := h
    cases e2; cases e1; cases e0; cases e
    exact ⟨c0, c1, c2, rfl, by simpa [Addr.add] using h0, h1, h2⟩
  · cases h
theorem spot_none {w : World} {a : Addr} {v : Value} (h : w.cell? a = some v) : a.spot = none := by
  unfold World.cell? at h
  split at h
  · split at h
    · cases h
    · cases hs : a.spot with
      | none => rfl
      | some x => simp [hs] at *
  · cases h

theorem three_of {cs : List Value} (h : cs.length = 3) : ∃ c0 c1 c2, cs = [c0, c1, c2] := by
  rcases cs with _ | ⟨c0, _ | ⟨c1, _ | ⟨c2, _ | ⟨c3, r⟩⟩⟩⟩
  · cases h
  · cases h
  · cases h
  · exact ⟨_, _, _, rfl⟩
  · simp at h

theorem open_cut {H : Type} {enc : TypeId × Value → H} {W : World} {base : Nat} {sp : Nat → Bool} {hd : Bool} : ∀ (k fuel : Nat) (cs : List Value) (x : DataW H × List MemPlace), DataW.trod enc Tryd.prog W base sp hd fuel 24 cs = some x →
    ∃ t d a len cap, cs = [.int .i64 t, .string d, .slice a len cap] ∧ ∃ T : Tr (k + 1), CutOf (k + 1) W (.agg #[.int .i64 t, .string d, .slice a len cap]) T := by
  intro k
  induction k with
  | zero =>
    intro fuel cs x h
    obtain ⟨y0, y1, y2, n, rfl, hl, h0, h1, h2⟩ := trod_struct3 Tryd.underlying24 h
    rw [cNode] at hl
    obtain ⟨c0, c1, c2, rfl⟩ := three_of hl
    · skip
      rw [show (([c0, c1, c2] : List Value).drop 0).take (Tryd.prog.cellsOf 3) = [c0] by rw [cInt]; rfl] at h0
      rw [show (([c0, c1, c2] : List Value).drop 1).take (Tryd.prog.cellsOf 9) = [c1] by rw [cStr]; rfl] at h1
      rw [show (([c0, c1, c2] : List Value).drop 2).take (Tryd.prog.cellsOf 22) = [c2] by rw [cNodes]; rfl] at h2
      obtain ⟨t, e0, _, _⟩ := DataW.trod_int Tryd.underlying3 h0
      obtain ⟨d, e1, _, hd⟩ := DataW.trod_string Tryd.underlying9 h1
      cases e0; cases e1
      rcases open_slice Tryd.underlying22 h2 with ⟨e2, _⟩ | ⟨a, len, cap, m, n2, D, Pl, e2, hb, hlc, hcm, hm, _, hel⟩
      · cases e2
        exact ⟨t, d, none, 0, 0, rfl, mk t (cutD d) [], d, none, 0, 0, rfl, hd, Nat.zero_le _, rfl, rfl, .inl rfl⟩
      · cases e2
        exact ⟨t, d, some a, len, cap, rfl, mk t (cutD d) [], d, some a, len, cap, rfl, hd, by omega, rfl, rfl, .inl rfl⟩
  | succ k ih =>
    intro fuel cs x h
    obtain ⟨y0, y1, y2, n, rfl, hl, h0, h1, h2⟩ := trod_struct3 Tryd.underlying24 h
    rw [cNode] at hl
    obtain ⟨c0, c1, c2, rfl⟩ := three_of hl
    · skip
      rw [show (([c0, c1, c2] : List Value).drop 0).take (Tryd.prog.cellsOf 3) = [c0] by rw [cInt]; rfl] at h0
      rw [show (([c0, c1, c2] : List Value).drop 1).take (Tryd.prog.cellsOf 9) = [c1] by rw [cStr]; rfl] at h1
      rw [show (([c0, c1, c2] : List Value).drop 2).take (Tryd.prog.cellsOf 22) = [c2] by rw [cNodes]; rfl] at h2
      obtain ⟨t, e0, _, _⟩ := DataW.trod_int Tryd.underlying3 h0
      obtain ⟨d, e1, _, hd⟩ := DataW.trod_string Tryd.underlying9 h1
      cases e0; cases e1
      rcases open_slice Tryd.underlying22 h2 with ⟨e2, _⟩ | ⟨a, len, cap, m, n2, D, Pl, e2, hb, hlc, hcm, hm, _, hel⟩
      · cases e2
        exact ⟨t, d, none, 0, 0, rfl, mk t (cutD d) [], d, none, 0, 0, rfl, hd, Nat.zero_le _, rfl, by simp, .inl rfl⟩
      · cases e2
        by_cases hz : len = 0
        · cases hz
          exact ⟨t, d, some a, 0, cap, rfl, mk t (cutD d) [], d, some a, 0, cap, rfl, hd, Nat.zero_le _, rfl, by simp, .inl rfl⟩
        · have hlm : len ≤ m := by rw [hm]; split <;> omega
          have hs : a.spot = none := by
            obtain ⟨cs', hc, _⟩ := hel 0 (by omega)
            simp only [cNode] at hc
            obtain ⟨q0, q1, q2, _, hc0, _⟩ := cells?_three hc
            have := spot_none hc0
            simpa [Addr.add] using this
          obtain ⟨g, off, sp'⟩ := a
          have hs' : sp' = none := hs
          rw [hs'] at hel ⊢
          clear hs hs' h h2
          obtain ⟨ks, hkl, hks⟩ := list_of (fun i (X : Tr (k + 1)) => ∃ t' d' a' l' c', W.cell? ⟨g, off + i * 3, none⟩ = some (.int .i64 t') ∧ W.cell? ⟨g, off + i * 3 + 1, none⟩ = some (.string d') ∧ W.cell? ⟨g, off + i * 3 + 2, none⟩ = some (.slice a' l' c') ∧ CutOf (k + 1) W (.agg #[.int .i64 t', .string d', .slice a' l' c']) X) (min len 60) (fun i hi => by
            obtain ⟨cs', hc, ht⟩ := hel i (by omega)
            simp only [cNode, Addr.add_lit] at hc
            obtain ⟨q0, q1, q2, rfl, hc0, hc1, hc2⟩ := cells?_three hc
            rw [Addr.add_lit] at hc1 hc2
            obtain ⟨t', d', a', l', c', e, T', hT'⟩ := ih n2 _ _ ht
            cases e
            exact ⟨T', t', d', a', l', c', hc0, hc1, hc2, hT'⟩)
          exact ⟨t, d, some ⟨g, off, none⟩, len, cap, rfl, mk t (cutD d) ks, d, some ⟨g, off, none⟩, len, cap, rfl, hd, by omega, rfl, by rw [kids_mk, hkl, if_neg (by omega)], .inr ⟨g, off, rfl, hks⟩⟩
end Go.Proofs.YthibodkemnkjeaaDoor
