/-
  A name among the arguments of a law, opened. Conditions: none.
-/
import Derived.Test.YthfcnjcpanoldaaGreatDoorDShown
import Derived.Deep.SlicePairs
import Derived.Deep.Strs
import Derived.Deep.Slices
import Derived.Carry
import Derived.ChangeSame
namespace Go.Proofs.YthfcnjcpanoldaaGreatDoor.D
open Go Go.RowKit Go.Shelf Go.Deep Go.ChangeShapes Dp

theorem list_of {α : Type} (P : Nat → α → Prop) : ∀ m : Nat, (∀ i, i < m → ∃ x, P i x) → ∃ ks : List α, ks.length = m ∧ ∀ (i : Nat) x, ks[i]? = some x → P i x
  | 0, _ => ⟨[], rfl, fun i x h => by simp at h⟩
  | m + 1, h => by
    obtain ⟨ks, hl, hk⟩ := list_of P m fun i hi => h i (by omega)
    obtain ⟨x, hx⟩ := h m (by omega)
    refine ⟨ks ++ [x], by simp [hl], fun i y hy => ?_⟩
    by_cases hi : i < ks.length
    · rw [List.getElem?_append_left hi] at hy; exact hk i y hy
    · have hlt := (List.getElem?_eq_some_iff.1 hy).1
      have e : i = ks.length := by simp at hlt; omega
      subst e
      simp at hy
      subst hy
      rw [hl]; exact hx
theorem cAva : Tryz.prog.cellsOf 39 = 2 := by kernel_rfl
theorem cRdn : Tryz.prog.cellsOf 42 = 1 := by kernel_rfl
theorem cStr : Tryz.prog.cellsOf 9 = 1 := by kernel_rfl
theorem cAvas : Tryz.prog.cellsOf 40 = 1 := by kernel_rfl

/-- such parts as may be handed in. -/
def BigR (r : Rd) : Prop := r.length ≤ maxLen ∧ ∀ a ∈ r, a.1.size ≤ maxLen ∧ a.2.size ≤ maxLen
def Big (d : Nm) : Prop := d.length ≤ maxLen ∧ ∀ r ∈ d, BigR r
theorem open_rd {H : Type} {enc : TypeId × Value → H} {W : World} {base : Nat} {sp : Nat → Bool} {hd : Bool} {fuel : Nat} {v : Value} {x : DataW H × List MemPlace} (h : DataW.trod enc Tryz.prog W base sp hd fuel 40 [v] = some x) :
    ∃ r : Rd, Rdl W v r ∧ BigR r := by
  rcases open_slice_pairs Tryz.underlying40 Tryz.underlying39 cAva rfl rfl cStr cStr h with ⟨e, _⟩ | ⟨a, len, cap, m, n, V0, V1, D0, D1, P0, P1, e, hb, hlc, hcm, hm, _, hel⟩
  · cases e
    exact ⟨[], Rdl.nil W, Nat.zero_le _, fun a h => by cases h⟩
  · cases e
    have hlm : len ≤ m := by rw [hm]; split <;> omega
    have each : ∀ i, i < len → ∃ q : Av, W.cell? (a.add (i * 2)) = some (.string q.1) ∧ W.cell? (a.add (i * 2 + 1)) = some (.string q.2) ∧ q.1.size ≤ maxLen ∧ q.2.size ≤ maxLen := fun i hi => by
      obtain ⟨h0, h1, t0, t1⟩ := hel i (by omega)
      obtain ⟨s0, e0, _, z0⟩ := DataW.trod_string Tryz.underlying9 t0
      obtain ⟨s1, e1, _, z1⟩ := DataW.trod_string Tryz.underlying9 t1
      have e0' : V0 i = .string s0 := by simpa using e0
      have e1' : V1 i = .string s1 := by simpa using e1
      exact ⟨(s0, s1), by rw [h0, e0'], by rw [h1, e1'], z0, z1⟩
    obtain ⟨r, hl, hr⟩ := list_of _ len each
    have hbig : BigR r := ⟨by omega, fun q hq => by
      obtain ⟨i, hi⟩ := List.getElem?_of_mem hq
      exact (hr i q hi).2.2⟩
    refine ⟨r, ⟨some a, cap, by rw [hl], by omega, ?_⟩, hbig⟩
    by_cases h0 : len = 0
    · exact .inl (List.length_eq_zero_iff.1 (by omega))
    · obtain ⟨b, off, spot⟩ := a
      have hspot : spot = none := by
        obtain ⟨q, hq, _⟩ := each 0 (by omega)
        simpa [Addr.add] using World.cell?_spot hq
      subst hspot
      refine .inr ⟨b, off, rfl, fun i q hq => ?_⟩
      obtain ⟨k0, k1, _, _⟩ := hr i q hq
      rw [Addr.add_lit] at k0 k1
      exact ⟨k0, k1⟩
theorem open_name {H : Type} {enc : TypeId × Value → H} {W : World} {base : Nat} {sp : Nat → Bool} {hd : Bool} {fuel : Nat} {v : Value} {x : DataW H × List MemPlace} (h : DataW.trod enc Tryz.prog W base sp hd fuel 22 [v] = some x) :
    ∃ d : Nm, Nml W v d ∧ Big d := by
  rcases open_slice1 Tryz.underlying22 cRdn h with ⟨e, _⟩ | ⟨a, len, cap, m, n, V, D, Pl, e, hb, hlc, hcm, hm, _, hel⟩
  · cases e
    exact ⟨[], Nml.nil W, Nat.zero_le _, fun a h => by cases h⟩
  · cases e
    have hlm : len ≤ m := by rw [hm]; split <;> omega
    have each : ∀ i, i < len → ∃ q : Rd, ∃ u, W.cell? (a.add i) = some u ∧ Rdl W u q ∧ BigR q := fun i hi => by
      obtain ⟨h0, t0⟩ := hel i (by omega)
      obtain ⟨y0, n2, _, _, t1⟩ := trod_struct1 Tryz.underlying42 t0
      rw [show (([V i] : List Value).drop 0).take (Tryz.prog.cellsOf 40) = [V i] by rw [cAvas]; rfl] at t1
      obtain ⟨r, k1, k2⟩ := open_rd t1
      exact ⟨r, V i, h0, k1, k2⟩
    obtain ⟨d, hl, hr⟩ := list_of _ len each
    have hbig : Big d := ⟨by omega, fun q hq => by
      obtain ⟨i, hi⟩ := List.getElem?_of_mem hq
      obtain ⟨u, _, _, k⟩ := hr i q hi
      exact k⟩
    refine ⟨d, ⟨some a, cap, by rw [hl], by omega, ?_⟩, hbig⟩
    by_cases h0 : len = 0
    · exact .inl (List.length_eq_zero_iff.1 (by omega))
    · obtain ⟨b, off, spot⟩ := a
      have hspot : spot = none := by
        obtain ⟨q, u, hq, _⟩ := each 0 (by omega)
        simpa [Addr.add] using World.cell?_spot hq
      subst hspot
      refine .inr ⟨b, off, rfl, fun i q hq => ?_⟩
      obtain ⟨u, k0, k1, _⟩ := hr i q hq
      rw [Addr.add_lit] at k0
      exact ⟨u, k0, k1⟩

/-- what is left of a name. -/
def cutA (a : Av) : Av := (a.1.extract 0 21, a.2.extract 0 61)
def cutR (r : Rd) : Rd := (r.take 5).map cutA
def cutN (d : Nm) : Nm := (d.take 10).map cutR
theorem cutR_len (r : Rd) : (cutR r).length = min r.length 5 := by unfold cutR; rw [List.length_map, List.length_take]; omega
theorem cutN_len (d : Nm) : (cutN d).length = min d.length 10 := by unfold cutN; rw [List.length_map, List.length_take]; omega
theorem cutN_sm (d : Nm) : Sm (cutN d) ∧ (cutN d).length ≤ 10 := by
  refine ⟨⟨by rw [cutN_len]; omega, fun r hr => ?_⟩, by rw [cutN_len]; omega⟩
  unfold cutN at hr
  obtain ⟨q, _, rfl⟩ := List.mem_map.1 hr
  refine ⟨by rw [cutR_len]; omega, fun a ha => ?_⟩
  unfold cutR at ha
  obtain ⟨b, _, rfl⟩ := List.mem_map.1 ha
  unfold cutA
  dsimp only
  rw [ByteArray.size_extract, ByteArray.size_extract]
  omega
end Go.Proofs.YthfcnjcpanoldaaGreatDoor.D
