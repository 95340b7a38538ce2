/-
  What dn.readAva answers. Conditions: the package-level variables hold what the program's text lays ('Glob').
-/
import Derived.Test.YthfcnjcpanoldaaGreatDoorDPrint
namespace Go.Proofs.YthfcnjcpanoldaaGreatDoor.D
open Go Go.RowKit Go.Shelf Dp
attribute [local go_sem] Oper.semAt_some

abbrev avv (a : Av) : Value := .agg #[.string a.1, .string a.2]
/-- what a reader of a piece leaves: what is read, or an error. -/
def RdPost {α : Type} (z : Value) (Lies : World → Value → α → Prop) (Er : Value → Prop) (o : Option α) (w : World) (e : Ending) (w' : World) : Prop := Below w.heap.size w w' ∧
  ((∃ a v, o = some a ∧ e = .returned (.tuple #[v, .nilIface]) ∧ Lies w' v a) ∨ (o = none ∧ ∃ T x, e = .returned (.tuple #[z, .iface T x]) ∧ Er (.iface T x)))
/-- the result's cell read. -/
theorem finA {V : World} {B : Nat} {tmps : Array Value} {s t : ByteArray} {er : Value} {R : Ending → World → Prop} (t2 : tmps[2]?.getD undef = .pointer (some ⟨B, 0, none⟩)) (t3 : tmps[3]?.getD undef = er) (hc0 : V.cell? ⟨B, 0, none⟩ = some (.string s)) (hc1 : V.cell? ⟨B, 1, none⟩ = some (.string t))
    (hp : R (.returned (.tuple #[.agg #[.string s, .string t], er])) V) :
    bodyPost Tryz.prog Tryz.f77 R Exit.ret { tmps, defers := [] } V := by
  refine bodyPost_ret (v := .tuple #[.agg #[.string s, .string t], er]) ?_ rfl hp
  simp [results, Tryz.results77, go_sem, t2, t3, hc0, hc1]

theorem set2_cells {V : World} {B : Nat} {a0 a1 : Value} {t : TypeId} (h : V.heap[B]? = some (.cells #[a0, a1] t (0, 0))) (x y : Value) :
    ((V.setCell ⟨B, 0, none⟩ x).setCell ⟨B, 1, none⟩ y).cell? ⟨B, 0, none⟩ = some x ∧ ((V.setCell ⟨B, 0, none⟩ x).setCell ⟨B, 1, none⟩ y).cell? ⟨B, 1, none⟩ = some y := by
  have h1 := heap_setCell_same V B 0 _ _ x h
  have h2 := heap_setCell_same (V.setCell ⟨B, 0, none⟩ x) B 1 _ _ y h1
  simp [World.cell?, h2]
theorem set2_below {w V : World} {B : Nat} (h : Below w.heap.size w V) (hB : w.heap.size = B) (x y : Value) : Below w.heap.size w ((V.setCell ⟨B, 0, none⟩ x).setCell ⟨B, 1, none⟩ y) :=
  (h.setCell (by show w.heap.size ≤ B; omega) _).setCell (by show w.heap.size ≤ B; omega) _

set_option maxRecDepth 100000 in
set_option maxHeartbeats 2000000 in
theorem readAva_any (s : ByteArray) (a : Ad) (w : World) (g : Glob a w) (hs : s.size ≤ 1000) :
    Calls Tryz.prog 77 #[.string s] w (RdPost (avv (⟨#[]⟩, ⟨#[]⟩)) (fun _ v a => v = avv a) (Er0 a) (rdA s.data.toList) w) := by
  obtain ⟨W0, hW0⟩ : ∃ W0, W0 = w.alloc (.cells #[.string ⟨#[]⟩, .string ⟨#[]⟩] 39) := ⟨_, rfl⟩
  have HB := hide (show Below w.heap.size w W0 by rw [hW0]; exact (Below.refl w.heap.size w).alloc (Nat.le_refl _) _)
  have hx : W0.heap[w.heap.size]? = some (.cells #[.string ⟨#[]⟩, .string ⟨#[]⟩] 39 (0, 0)) := by rw [hW0]; exact World.alloc_heap_new _ _
  have Hx := hide hx
  have Hg := hide g
  have cl : Hid (∀ W, Below W0.heap.size W0 W → (W.cell? ⟨w.heap.size, 0, none⟩ = some (.string ⟨#[]⟩) ∧ W.cell? ⟨w.heap.size, 1, none⟩ = some (.string ⟨#[]⟩)) ∧ W.frozen? ⟨w.heap.size, 0, none⟩ = false ∧ W.frozen? ⟨w.heap.size, 1, none⟩ = false) := hide fun W hb => by
    have := (hb.block _ (Array.getElem?_eq_some_iff.1 hx).1).trans hx
    simp [World.cell?, World.frozen?, this]
  clear hx g
  cases hc : cutE s.data.toList with
  | none =>
    have Hr : Hid (rdA s.data.toList = none) := hide (by unfold rdA; rw [hc])
    have H := hide fun W => cut_none s W hc
    clear hc
    go_enter Tryz.func77, Tryz.ntmps77
    go_wp2_with fail
    rw [← hW0]
    refine ((unhide H) _).mono ?_
    rintro e w1 ⟨rfl, hb⟩
    have HB1 := hide ((unhide HB).trans (hb.mono (unhide HB).size))
    obtain ⟨⟨c0, c1⟩, f0, f1⟩ := (unhide cl) _ hb
    have cp := ((unhide Hg).below (Nat.le_refl _) (unhide HB1)).vp
    have hbx := hb
    clear hb hW0 H
    obtain ⟨B, hB⟩ : ∃ B, w.heap.size = B := ⟨_, rfl⟩
    have hgl : 3 < B := by rw [← hB]; exact lt_cell (unhide Hg).vp
    have Hlx : Hid (w1.heap[B]? = some (.cells #[.string ⟨#[]⟩, .string ⟨#[]⟩] 39 (0, 0))) := hide (by rw [← hB]; exact (hbx.block _ (Array.getElem?_eq_some_iff.1 (unhide Hx)).1).trans (unhide Hx))
    rw [hB] at c0 c1 f0 f1
    clear hbx Hx
    rw [hB]
    go_wp2
    go_region
    all_goals (go_wp2)
    all_goals exact finA rfl rfl (set2_cells (unhide Hlx) _ _).1 (set2_cells (unhide Hlx) _ _).2 ⟨(set2_below (unhide HB1) hB _ _).drew, .inr ⟨unhide Hr, _, _, rfl, .inr (.inr (.inl rfl))⟩⟩
  | some q =>
    obtain ⟨k, t⟩ := q
    have hln := cutE_len _ _ _ hc
    have hlz : s.size = k.length + 1 + t.length := by
      have := congrArg List.length hln
      rw [Array.length_toList, List.length_append, List.length_cons] at this
      show s.data.size = _
      omega
    have H := hide fun W => cut_some s k t W (by omega) hc
    have Hr : Hid (rdA s.data.toList = if (E.und true ⟨t.toArray⟩).2 = 0 ∧ okA (⟨k.toArray⟩, (E.und true ⟨t.toArray⟩).1) = true then some (⟨k.toArray⟩, (E.und true ⟨t.toArray⟩).1) else none) := hide (by unfold rdA; rw [hc])
    have hks : (⟨k.toArray⟩ : ByteArray).size ≤ 1000 := by show k.toArray.size ≤ 1000; rw [List.size_toArray]; omega
    have hts : (⟨t.toArray⟩ : ByteArray).size ≤ 1000 := by show t.toArray.size ≤ 1000; rw [List.size_toArray]; omega
    have HN := hide fun W g => E.readName_any ⟨t.toArray⟩ a.e W g hts
    have huc := E.und_cases true ⟨t.toArray⟩
    generalize (⟨k.toArray⟩ : ByteArray) = kk at *
    generalize E.und true ⟨t.toArray⟩ = un at *
    generalize (⟨t.toArray⟩ : ByteArray) = tt at *
    obtain ⟨uv, ue⟩ := un
    dsimp only at HN Hr huc
    clear hc hln hlz
    obtain ⟨B, hB⟩ : ∃ B, w.heap.size = B := ⟨_, rfl⟩
    have HCl := hide fun W => clone_any kk W (by omega)
    by_cases h0 : ue = 0
    · subst h0
      cases hok : okA (kk, uv)
      · have Hrr : Hid (rdA s.data.toList = none) := hide (by rw [unhide Hr, hok]; rfl)
        have HC := hide fun W g => checkAva_no kk uv a W g hks hok
        clear huc Hr hok
        go_enter Tryz.func77, Tryz.ntmps77
        go_wp2_with fail
        rw [← hW0]
        refine ((unhide H) _).mono ?_
        rintro e w1 ⟨rfl, hb1⟩
        clear hW0
        go_wp2_with fail
        refine ((unhide HN) _ ((unhide Hg).below (Nat.le_refl _) ((unhide HB).trans (hb1.mono (unhide HB).size))).ge).mono ?_
        rintro e w2 ⟨rfl, hb2⟩
        go_wp2_with fail
        refine ((unhide HCl) _).mono ?_
        rintro e w3 ⟨rfl, hb3⟩
        have hb4 : Below W0.heap.size W0 (w3.alloc (.cells #[.string kk, .string uv] 39)) := ((hb1.trans (hb2.mono hb1.size)).trans (hb3.mono (Nat.le_trans hb1.size hb2.size))).alloc (Nat.le_trans hb1.size (Nat.le_trans hb2.size hb3.size)) _
        have hbw := (unhide HB).trans (hb4.mono (unhide HB).size)
        have HB4 := hide hb4
        have HBw := hide hbw
        clear hb1 hb2 hb3 hb4 hbw H HN HCl
        go_wp2_with fail
        refine ((unhide HC) _ ((unhide Hg).below (Nat.le_refl _) (unhide HBw))).mono ?_
        rintro e w5 ⟨T, x, rfl, he, hb5⟩
        have hb6 := (unhide HB4).trans (hb5.mono (unhide HB4).size)
        have Hlx : Hid (w5.heap[B]? = some (.cells #[.string ⟨#[]⟩, .string ⟨#[]⟩] 39 (0, 0))) := hide (by rw [← hB]; exact (hb6.block _ (Array.getElem?_eq_some_iff.1 (unhide Hx)).1).trans (unhide Hx))
        have HB6 := hide ((unhide HB).trans (hb6.mono (unhide HB).size))
        obtain ⟨⟨c0, c1⟩, f0, f1⟩ := (unhide cl) _ hb6
        have He := hide he
        rw [hB] at c0 c1 f0 f1
        clear hb5 hb6 he HC
        go_wp2
        exact finA rfl rfl (set2_cells (unhide Hlx) _ _).1 (set2_cells (unhide Hlx) _ _).2 ⟨set2_below (unhide HB6) hB _ _, .inr ⟨unhide Hrr, _, _, rfl, unhide He⟩⟩
      · have Hrr : Hid (rdA s.data.toList = some (kk, uv)) := hide (by rw [unhide Hr, hok]; rfl)
        have HC := hide fun W => checkAva_ok kk uv W hks hok
        clear huc Hr hok
        go_enter Tryz.func77, Tryz.ntmps77
        go_wp2_with fail
        rw [← hW0]
        refine ((unhide H) _).mono ?_
        rintro e w1 ⟨rfl, hb1⟩
        clear hW0
        go_wp2_with fail
        refine ((unhide HN) _ ((unhide Hg).below (Nat.le_refl _) ((unhide HB).trans (hb1.mono (unhide HB).size))).ge).mono ?_
        rintro e w2 ⟨rfl, hb2⟩
        go_wp2_with fail
        refine ((unhide HCl) _).mono ?_
        rintro e w3 ⟨rfl, hb3⟩
        have hb4 : Below W0.heap.size W0 (w3.alloc (.cells #[.string kk, .string uv] 39)) := ((hb1.trans (hb2.mono hb1.size)).trans (hb3.mono (Nat.le_trans hb1.size hb2.size))).alloc (Nat.le_trans hb1.size (Nat.le_trans hb2.size hb3.size)) _
        have hn0 : (w3.alloc (.cells #[.string kk, .string uv] 39)).cell? ⟨w3.heap.size, 0, none⟩ = some (.string kk) := by rw [World.cell?_alloc_at _ _ _ _ rfl]; rfl
        have hn1 : (w3.alloc (.cells #[.string kk, .string uv] 39)).cell? ⟨w3.heap.size, 1, none⟩ = some (.string uv) := by rw [World.cell?_alloc_at _ _ _ _ rfl]; rfl
        have HB4 := hide hb4
        have Hn0 := hide hn0
        have Hn1 := hide hn1
        clear hb1 hb2 hb3 hb4 H HN HCl hn0 hn1
        go_wp2_with fail
        refine ((unhide HC) _).mono ?_
        rintro e w5 ⟨rfl, hb5⟩
        have hb6 := (unhide HB4).trans (hb5.mono (unhide HB4).size)
        have n0 := below_cell hb5 _ _ (unhide Hn0)
        have n1 := below_cell hb5 _ _ (unhide Hn1)
        have Hlx : Hid (w5.heap[B]? = some (.cells #[.string ⟨#[]⟩, .string ⟨#[]⟩] 39 (0, 0))) := hide (by rw [← hB]; exact (hb6.block _ (Array.getElem?_eq_some_iff.1 (unhide Hx)).1).trans (unhide Hx))
        have HB6 := hide ((unhide HB).trans (hb6.mono (unhide HB).size))
        obtain ⟨⟨c0, c1⟩, f0, f1⟩ := (unhide cl) _ hb6
        rw [hB] at c0 c1 f0 f1
        clear hb5 hb6 HC
        go_wp2
        exact finA rfl rfl (set2_cells (unhide Hlx) _ _).1 (set2_cells (unhide Hlx) _ _).2 ⟨set2_below (unhide HB6) hB _ _, .inl ⟨_, _, unhide Hrr, rfl, rfl⟩⟩
    · have Hrr : Hid (rdA s.data.toList = none) := hide (by rw [unhide Hr, if_neg (fun h => h0 h.1)])
      obtain rfl : ue = 60 := by
        rcases huc with h | h
        · exact absurd h.1 h0
        · exact (Prod.mk.inj h).2
      clear huc Hr h0
      go_enter Tryz.func77, Tryz.ntmps77
      go_wp2_with fail
      rw [← hW0]
      refine ((unhide H) _).mono ?_
      rintro e w1 ⟨rfl, hb1⟩
      clear hW0
      go_wp2_with fail
      refine ((unhide HN) _ ((unhide Hg).below (Nat.le_refl _) ((unhide HB).trans (hb1.mono (unhide HB).size))).ge).mono ?_
      rintro e w2 ⟨rfl, hb2⟩
      have hb6 := hb1.trans (hb2.mono hb1.size)
      have Hlx : Hid (w2.heap[B]? = some (.cells #[.string ⟨#[]⟩, .string ⟨#[]⟩] 39 (0, 0))) := hide (by rw [← hB]; exact (hb6.block _ (Array.getElem?_eq_some_iff.1 (unhide Hx)).1).trans (unhide Hx))
      have HB6 := hide ((unhide HB).trans (hb6.mono (unhide HB).size))
      obtain ⟨⟨c0, c1⟩, f0, f1⟩ := (unhide cl) _ hb6
      rw [hB] at c0 c1 f0 f1
      clear hb1 hb2 hb6 H HN HCl
      go_wp2
      exact finA rfl rfl (set2_cells (unhide Hlx) _ _).1 (set2_cells (unhide Hlx) _ _).2 ⟨set2_below (unhide HB6) hB _ _, .inr ⟨unhide Hrr, _, _, rfl, .inr (.inr (.inr ⟨_, rfl⟩))⟩⟩
end Go.Proofs.YthfcnjcpanoldaaGreatDoor.D
