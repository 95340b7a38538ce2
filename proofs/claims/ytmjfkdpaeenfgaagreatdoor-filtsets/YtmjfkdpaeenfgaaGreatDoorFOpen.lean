/-
  What the law file's Cut leaves of a filter that lies in memory, and a filter among the arguments of a law, opened. Conditions: none.
-/
import Derived.Test.YtmjfkdpaeenfgaaGreatDoorG17
import Derived.Deep.Strs
import Derived.Deep.Slices
import Derived.Carry
import Derived.ChangeSame
namespace Go.Proofs.YtmjfkdpaeenfgaaGreatDoor.F
open Go Go.RowKit Go.Shelf Go.Deep Go.ChangeShapes Fp

theorem list_of {α : Type} (P : Nat → α → Prop) : ∀ m : Nat, (∀ i, i < m → ∃ x, P i x) → ∃ ks : List α, ks.length = m ∧ ∀ (i : Nat) x, ks[i]? = some x → P i x
  | 0, _ => ⟨[], rfl, fun i x h => by simp at h⟩
  | m + 1, h => by
    obtain ⟨ks, hl, hk⟩ := list_of P m fun i hi => h i (by omega)
    obtain ⟨x, hx⟩ := h m (by omega)
    refine ⟨ks ++ [x], by simp [hl], fun i y hy => ?_⟩
    by_cases hi : i < ks.length
    · rw [List.getElem?_append_left hi] at hy; exact hk i y hy
    · have hlt := (List.getElem?_eq_some_iff.1 hy).1
      have e : i = ks.length := by simp at hlt; omega
      subst e
      simp at hy
      subst hy
      rw [hl]; exact hx
theorem cFil : Tryz.prog.cellsOf 25 = 6 := by kernel_rfl
theorem cStr : Tryz.prog.cellsOf 9 = 1 := by kernel_rfl
theorem cInt : Tryz.prog.cellsOf 3 = 1 := by kernel_rfl
theorem cStrs : Tryz.prog.cellsOf 22 = 1 := by kernel_rfl
theorem cFils : Tryz.prog.cellsOf 23 = 1 := by kernel_rfl

/-- what is left of a text. -/
abbrev cutS (d : ByteArray) : ByteArray := d.extract 0 (min (d.size : Int) 61).toNat
theorem cutS_size (d : ByteArray) : (cutS d).size ≤ 61 := by rw [ByteArray.size_extract]; omega
/-- the fields d in world W, cut at so many levels, are the filter F. -/
def CutF : (k : Nat) → World → Fd → Fl k → Prop
  | 0, _, _, t => Empty.elim t
  | k + 1, W, d, F => (d.a.size ≤ maxLen ∧ d.v.size ≤ maxLen ∧ d.f.size ≤ maxLen ∧ d.sn ≤ maxLen ∧ d.ln ≤ maxLen) ∧ (kd F = d.k ∧ nm F = cutS d.a ∧ va F = cutS d.v ∧ fi F = cutS d.f) ∧
      (an F).length = min d.sn 10 ∧ (an F = [] ∨ ∃ g off, d.sa = some ⟨g, off, none⟩ ∧ ∀ (i : Nat) x, (an F)[i]? = some x → ∃ s : ByteArray, s.size ≤ maxLen ∧ W.cell? ⟨g, off + i, none⟩ = some (.string s) ∧ x = cutS s) ∧
      (ls F).length = (if k = 0 then 0 else min d.ln 10) ∧ (ls F = [] ∨ ∃ g off, d.la = some ⟨g, off, none⟩ ∧ ∀ (i : Nat) x, (ls F)[i]? = some x → ∃ e : Fd, At W g (off + i * 6) e ∧ CutF k W e x)
theorem CutF.below : ∀ {k : Nat} {W W' : World} {d : Fd} {F : Fl k}, CutF k W d F → Below W.heap.size W W' → CutF k W' d F
  | 0, _, _, _, t, _, _ => Empty.elim t
  | k + 1, W, W', d, F, ⟨h1, h2, h3, h4, h5, h6⟩, hb => by
    refine ⟨h1, h2, h3, ?_, h5, ?_⟩
    · rcases h4 with h | ⟨g, off, ha, hx⟩
      · exact .inl h
      · refine .inr ⟨g, off, ha, fun i x hi => ?_⟩
        obtain ⟨s, hs, hc, e⟩ := hx i x hi
        exact ⟨s, hs, (hb.cell (D.lt_cell hc)).trans hc, e⟩
    · rcases h6 with h | ⟨g, off, ha, hx⟩
      · exact .inl h
      · refine .inr ⟨g, off, ha, fun i x hi => ?_⟩
        obtain ⟨e, he, hN⟩ := hx i x hi
        exact ⟨e, he.of (hb.block _ he.lt), hN.below hb⟩
theorem CutF.drew {k : Nat} {W : World} {d : Fd} {F : Fl k} (h : CutF k W d F) : CutF k W.drew d F := h.below ⟨rfl, rfl, rfl, Nat.le_refl _, fun _ _ => rfl⟩

section
variable {H : Type} {enc : TypeId × Value → H} {P : Program} {w : World} {base : Nat} {spare : Nat → Bool} {held : Bool}
theorem trod_struct6 {t : TypeId} {f0 f1 f2 f3 f4 f5 : Field} {fuel : Nat} {cs : List Value} {x : DataW H × List MemPlace} (ht : P.underlying t = some (.struct #[f0, f1, f2, f3, f4, f5])) (h : DataW.trod enc P w base spare held fuel t cs = some x) :
    ∃ y0 y1 y2 y3 y4 y5 n, cs.length = P.cellsOf t ∧ DataW.trod enc P w base spare held n f0.type ((cs.drop f0.offset).take (P.cellsOf f0.type)) = some y0 ∧
      DataW.trod enc P w base spare held n f1.type ((cs.drop f1.offset).take (P.cellsOf f1.type)) = some y1 ∧ DataW.trod enc P w base spare held n f2.type ((cs.drop f2.offset).take (P.cellsOf f2.type)) = some y2 ∧
      DataW.trod enc P w base spare held n f3.type ((cs.drop f3.offset).take (P.cellsOf f3.type)) = some y3 ∧ DataW.trod enc P w base spare held n f4.type ((cs.drop f4.offset).take (P.cellsOf f4.type)) = some y4 ∧
      DataW.trod enc P w base spare held n f5.type ((cs.drop f5.offset).take (P.cellsOf f5.type)) = some y5 := by
  obtain ⟨xs, n, _, _, hl, hlen, hf⟩ := DataW.trod_struct ht h
  match xs, hlen with
  | [y0, y1, y2, y3, y4, y5], _ => exact ⟨y0, y1, y2, y3, y4, y5, n, hl, by simpa using hf 0 f0 rfl, by simpa using hf 1 f1 rfl, by simpa using hf 2 f2 rfl, by simpa using hf 3 f3 rfl, by simpa using hf 4 f4 rfl, by simpa using hf 5 f5 rfl⟩
end
theorem six_of {cs : List Value} (h : cs.length = 6) : ∃ c0 c1 c2 c3 c4 c5, cs = [c0, c1, c2, c3, c4, c5] := by
  rcases cs with _ | ⟨c0, _ | ⟨c1, _ | ⟨c2, _ | ⟨c3, _ | ⟨c4, _ | ⟨c5, _ | ⟨c6, r⟩⟩⟩⟩⟩⟩⟩
  all_goals first | exact ⟨_, _, _, _, _, _, rfl⟩ | (exfalso; simp at h)
theorem cells?_six {w : World} {base : Nat} {a : Addr} {cs : List Value} (h : w.cells? base a 6 = some cs) : ∃ c0 c1 c2 c3 c4 c5, cs = [c0, c1, c2, c3, c4, c5] ∧ w.cell? a = some c0 ∧ w.cell? (a.add 1) = some c1 ∧ w.cell? (a.add 2) = some c2 ∧ w.cell? (a.add 3) = some c3 ∧ w.cell? (a.add 4) = some c4 ∧ w.cell? (a.add 5) = some c5 := by
  unfold World.cells? at h
  split at h
  · rw [show List.range 6 = [0, 1, 2, 3, 4, 5] from rfl] at h
    simp only [List.mapM_cons, List.mapM_nil, Option.pure_def, Option.bind_eq_bind, Option.bind_eq_some_iff] at h
    obtain ⟨c0, h0, r0, ⟨c1, h1, r1, ⟨c2, h2, r2, ⟨c3, h3, r3, ⟨c4, h4, r4, ⟨c5, h5, r5, e5, e4⟩, e3⟩, e2⟩, e1⟩, e0⟩, e⟩ := h
    cases e5; cases e4; cases e3; cases e2; cases e1; cases e0; cases e
    exact ⟨c0, c1, c2, c3, c4, c5, rfl, by simpa [Addr.add] using h0, h1, h2, h3, h4, h5⟩
  · cases h
theorem spot_none {w : World} {a : Addr} {v : Value} (h : w.cell? a = some v) : a.spot = none := World.cell?_spot h

set_option linter.unusedSimpArgs false in
/-- a list of texts that was handed in. -/
theorem open_any {H : Type} {enc : TypeId × Value → H} {W : World} {base : Nat} {sp : Nat → Bool} {hd : Bool} {fuel : Nat} {v : Value} {x : DataW H × List MemPlace} (h : DataW.trod enc Tryz.prog W base sp hd fuel 22 [v] = some x) :
    ∃ sa sn sc, v = .slice sa sn sc ∧ sn ≤ maxLen ∧ ∃ xs : List ByteArray, xs.length = min sn 10 ∧ (xs = [] ∨ ∃ g off, sa = some ⟨g, off, none⟩ ∧ ∀ (i : Nat) x, xs[i]? = some x → ∃ s : ByteArray, s.size ≤ maxLen ∧ W.cell? ⟨g, off + i, none⟩ = some (.string s) ∧ x = cutS s) := by
  rcases open_strs Tryz.underlying22 Tryz.underlying9 cStr h with ⟨e, _⟩ | ⟨a, len, cap, m, Sx, e, hb, hlc, hcm, hm, _, hel⟩
  · cases e
    exact ⟨none, 0, 0, rfl, Nat.zero_le _, [], rfl, .inl rfl⟩
  · cases e
    have hlm : len ≤ m := by rw [hm]; split <;> omega
    by_cases hz : len = 0
    · cases hz
      exact ⟨some a, 0, cap, rfl, Nat.zero_le _, [], rfl, .inl rfl⟩
    · have hs : a.spot = none := by
        have := spot_none (hel 0 (by omega)).1
        simpa [Addr.add] using this
      obtain ⟨g, off, sp'⟩ := a
      have hs' : sp' = none := hs
      rw [hs'] at hel ⊢
      refine ⟨_, len, cap, rfl, by omega, (List.range (min len 10)).map fun i => cutS (Sx i), by simp, .inr ⟨g, off, rfl, fun i y hy => ?_⟩⟩
      have hlt := (List.getElem?_eq_some_iff.1 hy).1
      simp at hlt
      obtain ⟨h1, h2⟩ := hel i (by omega)
      rw [Addr.add_lit] at h1
      refine ⟨Sx i, h2, h1, ?_⟩
      simp [List.getElem?_map, List.getElem?_range, hlt] at hy
      have : i < min len 10 := by omega
      simp_all
theorem open_fil {H : Type} {enc : TypeId × Value → H} {W : World} {base : Nat} {sp : Nat → Bool} {hd : Bool} : ∀ (k fuel : Nat) (cs : List Value) (x : DataW H × List MemPlace), DataW.trod enc Tryz.prog W base sp hd fuel 25 cs = some x →
    ∃ d : Fd, cs = d.cs.toList ∧ ∃ F : Fl (k + 1), CutF (k + 1) W d F := by
  have key : ∀ (m : Nat) (Kid : List Value → Prop), (∀ fuel cs (x : DataW H × List MemPlace), DataW.trod enc Tryz.prog W base sp hd fuel 25 cs = some x → Kid cs) →
      ∀ fuel cs (x : DataW H × List MemPlace), DataW.trod enc Tryz.prog W base sp hd fuel 25 cs = some x →
      ∃ d : Fd, cs = d.cs.toList ∧ (d.a.size ≤ maxLen ∧ d.v.size ≤ maxLen ∧ d.f.size ≤ maxLen ∧ d.sn ≤ maxLen ∧ d.ln ≤ maxLen) ∧
        (∃ xs : List ByteArray, xs.length = min d.sn 10 ∧ (xs = [] ∨ ∃ g off, d.sa = some ⟨g, off, none⟩ ∧ ∀ (i : Nat) x, xs[i]? = some x → ∃ s : ByteArray, s.size ≤ maxLen ∧ W.cell? ⟨g, off + i, none⟩ = some (.string s) ∧ x = cutS s)) ∧
        (d.ln = 0 ∨ ∃ g off, d.la = some ⟨g, off, none⟩ ∧ ∀ i, i < d.ln → ∃ c0 c1 c2 c3 c4 c5, Kid [c0, c1, c2, c3, c4, c5] ∧ W.cell? ⟨g, off + i * 6, none⟩ = some c0 ∧ W.cell? ⟨g, off + i * 6 + 1, none⟩ = some c1 ∧ W.cell? ⟨g, off + i * 6 + 2, none⟩ = some c2 ∧ W.cell? ⟨g, off + i * 6 + 3, none⟩ = some c3 ∧ W.cell? ⟨g, off + i * 6 + 4, none⟩ = some c4 ∧ W.cell? ⟨g, off + i * 6 + 5, none⟩ = some c5) := by
    intro m Kid hK fuel cs x h
    obtain ⟨y0, y1, y2, y3, y4, y5, n, hl, h0, h1, h2, h3, h4, h5⟩ := trod_struct6 Tryz.underlying25 h
    rw [cFil] at hl
    obtain ⟨c0, c1, c2, c3, c4, c5, rfl⟩ := six_of hl
    have e0 : (([c0, c1, c2, c3, c4, c5] : List Value).drop 0).take (Tryz.prog.cellsOf 3) = [c0] := by rw [cInt]; rfl
    have e1 : (([c0, c1, c2, c3, c4, c5] : List Value).drop 1).take (Tryz.prog.cellsOf 9) = [c1] := by rw [cStr]; rfl
    have e2 : (([c0, c1, c2, c3, c4, c5] : List Value).drop 2).take (Tryz.prog.cellsOf 9) = [c2] := by rw [cStr]; rfl
    have e3 : (([c0, c1, c2, c3, c4, c5] : List Value).drop 3).take (Tryz.prog.cellsOf 22) = [c3] := by rw [cStrs]; rfl
    have e4 : (([c0, c1, c2, c3, c4, c5] : List Value).drop 4).take (Tryz.prog.cellsOf 9) = [c4] := by rw [cStr]; rfl
    have e5 : (([c0, c1, c2, c3, c4, c5] : List Value).drop 5).take (Tryz.prog.cellsOf 23) = [c5] := by rw [cFils]; rfl
    rw [e0] at h0
    rw [e1] at h1
    rw [e2] at h2
    rw [e3] at h3
    rw [e4] at h4
    rw [e5] at h5
    obtain ⟨t, q0, _, _⟩ := DataW.trod_int Tryz.underlying3 h0
    obtain ⟨a, q1, _, ha⟩ := DataW.trod_string Tryz.underlying9 h1
    obtain ⟨v, q2, _, hv⟩ := DataW.trod_string Tryz.underlying9 h2
    obtain ⟨sa, sn, sc, rfl, hsn, hxs⟩ := open_any h3
    obtain ⟨f, q4, _, hf⟩ := DataW.trod_string Tryz.underlying9 h4
    cases q0; cases q1; cases q2; cases q4
    rcases open_slice Tryz.underlying23 h5 with ⟨q5, _⟩ | ⟨ad, len, cap, m, n2, D, Pl, q5, hb, hlc, hcm, hm, _, hel⟩
    · cases q5
      exact ⟨⟨t, a, v, sa, sn, sc, f, none, 0, 0⟩, rfl, ⟨ha, hv, hf, hsn, Nat.zero_le _⟩, hxs, .inl rfl⟩
    · cases q5
      have hlm : len ≤ m := by rw [hm]; split <;> omega
      by_cases hz : len = 0
      · exact ⟨⟨t, a, v, sa, sn, sc, f, some ad, len, cap⟩, rfl, ⟨ha, hv, hf, hsn, by show len ≤ maxLen; omega⟩, hxs, .inl hz⟩
      · have hs : ad.spot = none := by
          obtain ⟨cs', hc, _⟩ := hel 0 (by omega)
          simp only [cFil] at hc
          obtain ⟨q0, q1, q2, q3, q4, q5, _, hc0, _⟩ := cells?_six hc
          have := spot_none hc0
          simpa [Addr.add] using this
        obtain ⟨g, off, sp'⟩ := ad
        have hs' : sp' = none := hs
        rw [hs'] at hel
        rw [hs']
        refine ⟨⟨t, a, v, sa, sn, sc, f, some ⟨g, off, none⟩, len, cap⟩, rfl, ⟨ha, hv, hf, hsn, by show len ≤ maxLen; omega⟩, hxs, .inr ⟨g, off, rfl, fun i hi => ?_⟩⟩
        obtain ⟨cs', hc, ht⟩ := hel i (by show i < m; have : i < len := hi; omega)
        simp only [cFil, Addr.add_lit] at hc
        obtain ⟨c0, c1, c2, c3, c4, c5, rfl, k0, k1, k2, k3, k4, k5⟩ := cells?_six hc
        rw [Addr.add_lit] at k1 k2 k3 k4 k5
        exact ⟨c0, c1, c2, c3, c4, c5, hK _ _ _ ht, k0, k1, k2, k3, k4, k5⟩
  intro k
  induction k with
  | zero =>
    intro fuel cs x h
    obtain ⟨d, rfl, h1, ⟨xs, hxl, hxs⟩, _⟩ := key 0 (fun _ => True) (fun _ _ _ _ => trivial) fuel cs x h
    exact ⟨d, rfl, mk d.k (cutS d.a) (cutS d.v) xs (cutS d.f) [], h1, ⟨rfl, rfl, rfl, rfl⟩, hxl, hxs, rfl, .inl rfl⟩
  | succ k ih =>
    intro fuel cs x h
    obtain ⟨d, rfl, h1, ⟨xs, hxl, hxs⟩, hks⟩ := key 0 (fun cs => ∃ d : Fd, cs = d.cs.toList ∧ ∃ F : Fl (k + 1), CutF (k + 1) W d F) ih fuel cs x h
    rcases hks with hz | ⟨g, off, ha, hel⟩
    · exact ⟨d, rfl, mk d.k (cutS d.a) (cutS d.v) xs (cutS d.f) [], h1, ⟨rfl, rfl, rfl, rfl⟩, hxl, hxs, by rw [hz]; rfl, .inl rfl⟩
    · obtain ⟨ks, hkl, hkx⟩ := list_of (fun i (X : Fl (k + 1)) => ∃ e : Fd, At W g (off + i * 6) e ∧ CutF (k + 1) W e X) (min d.ln 10) (fun i hi => by
        obtain ⟨c0, c1, c2, c3, c4, c5, ⟨e, he, X, hX⟩, k0, k1, k2, k3, k4, k5⟩ := hel i (by omega)
        cases he
        exact ⟨X, e, ⟨k0, k1, k2, k3, k4, k5⟩, hX⟩)
      exact ⟨d, rfl, mk d.k (cutS d.a) (cutS d.v) xs (cutS d.f) ks, h1, ⟨rfl, rfl, rfl, rfl⟩, hxl, hxs, by rw [if_neg (by omega)]; exact hkl, .inr ⟨g, off, ha, hkx⟩⟩
end Go.Proofs.YtmjfkdpaeenfgaaGreatDoor.F
