/-
  FiltSets: the text of a set of filters is a sign, and their texts, one behind the other; their names are those of all, for any two filters, whether all must be. Conditions: the package-level variables hold what the program's text lays (the card ties them).
-/
import Derived.Test.YtmjfkdpaeenfgaaGreatDoorG31
import Derived.Test.YtmjfkdpaeenfgaaGreatDoorFCut
import Derived.Test.YtmjfkdpaeenfgaaGreatDoorFShrt
import Derived.Laws.DeepStrings4
namespace Go.Proofs.YtmjfkdpaeenfgaaGreatDoor.F.Sets
open Go Go.RowKit Go.Shelf Fp Go.ChangeShapes Go.WideShapes Go.ChangeAt Go.ChangeMaps
open Go.Proofs.YtmjfkdpaeenfgaaGreatDoor.D (hide unhide)

/-- a set of two. -/
abbrev stF (k : Int) (F G : Fl 8) : Fl 9 := mk k ⟨#[]⟩ ⟨#[]⟩ [] ⟨#[]⟩ [F, G]
abbrev stD (k : Int) (b : Nat) : Fd := ⟨k, ⟨#[]⟩, ⟨#[]⟩, none, 0, 0, ⟨#[]⟩, some ⟨b, 0, none⟩, 2, 2⟩
theorem st_node {k : Int} {W : World} {b : Nat} {e h : Fd} {F G : Fl 8} (hq : W.heap[b]? = some (.cells (e.cs ++ h.cs) 25 (0, 0))) (hN : FNode 8 W (fun _ => True) e F) (hM : FNode 8 W (fun _ => True) h G) : FNode 9 W (fun _ => True) (stD k b) (stF k F G) :=
  ⟨⟨rfl, rfl, rfl, rfl, rfl, rfl⟩, sm_mk (by decide) (by decide) (by decide) (by simp), .inl rfl, .inr ⟨b, 0, rfl, trivial, fun i K hK => by
    match i, hK with
    | 0, hK => cases hK; exact ⟨e, ⟨by simp [World.cell?, hq], by simp [World.cell?, hq], by simp [World.cell?, hq], by simp [World.cell?, hq], by simp [World.cell?, hq], by simp [World.cell?, hq]⟩, hN⟩
    | 1, hK => cases hK; exact ⟨h, ⟨by simp [World.cell?, hq], by simp [World.cell?, hq], by simp [World.cell?, hq], by simp [World.cell?, hq], by simp [World.cell?, hq], by simp [World.cell?, hq]⟩, hM⟩⟩⟩
theorem st_right {k : Int} (hk : k = 0 ∨ k = 1) (F G : Fl 8) : right 9 6 (stF k F G) = (right 8 5 F && right 8 5 G) := by
  show (decide (0 < 6) && fitB k ⟨#[]⟩ ⟨#[]⟩ [] ⟨#[]⟩ 2 && ([F, G].all (right 8 5))) = _
  rw [show fitB k ⟨#[]⟩ ⟨#[]⟩ [] ⟨#[]⟩ 2 = true by rcases hk with rfl | rfl <;> decide]
  simp
theorem st_text {k : Int} {sg : ByteArray} (hk : k = 0 ∧ sg = ⟨#[38]⟩ ∨ k = 1 ∧ sg = ⟨#[124]⟩) (F G : Fl 8) : (⟨(text 9 (stF k F G)).toArray⟩ : ByteArray) = ⟨#[40]⟩ ++ sg ++ ⟨(text 8 F).toArray⟩ ++ ⟨(text 8 G).toArray⟩ ++ ⟨#[41]⟩ := by
  refine ByteArray.ext (Array.ext' ?_)
  rw [E.data_app, E.data_app, E.data_app, E.data_app]
  rcases hk with ⟨rfl, rfl⟩ | ⟨rfl, rfl⟩
  · show 40 :: (([38] ++ (([F, G].map (text 8)).flatten)) ++ [41]) = [40] ++ [38] ++ text 8 F ++ text 8 G ++ [41]
    simp
  · show 40 :: (([124] ++ (([F, G].map (text 8)).flatten)) ++ [41]) = [40] ++ [124] ++ text 8 F ++ text 8 G ++ [41]
    simp
theorem st_names (k : Int) (F G : Fl 8) : names 9 (stF k F G) = names 8 F ++ names 8 G := by
  show [] ++ ([F, G].map (names 8)).flatten = _
  simp
theorem yes_prt {F : Fl 8} (h : right 8 6 F = true) : prtF F = .tuple #[.string ⟨(text 8 F).toArray⟩, .int .i64 0] := by unfold prtF; rw [h]; rfl
theorem any_prt (F : Fl 8) : ∃ tx ex, prtF F = .tuple #[.string tx, .int .i64 ex] := by
  unfold prtF
  split
  · exact ⟨_, _, rfl⟩
  · exact ⟨_, _, rfl⟩
theorem news_of {W : World} {g off : Nat} {xs : List ByteArray} (h : ∀ (i : Nat) x, xs[i]? = some x → W.cell? ⟨g, off + i, none⟩ = some (.string x)) : ∀ (j : Nat) (u : Value), (strs xs)[j]? = some u → W.cell? ((⟨g, off, none⟩ : Addr).add j) = some u := by
  intro j u hj
  rw [List.getElem?_map, Option.map_eq_some_iff] at hj
  obtain ⟨x, hx, rfl⟩ := hj
  rw [Addr.add_lit]
  exact h j x hx

/-- the boxes of the law. -/
structure StB (n0 nx : Nat) (k : Int) (e h : Fd) (F G : Fl 8) (W : World) : Prop where
  mk ::
  b0 : W.heap[n0]? = some (.cells e.cs 25 (0, 0))
  b1 : W.heap[n0 + 1]? = some (.cells h.cs 25 (0, 0))
  b2 : W.heap[nx]? = some (.cells (e.cs ++ h.cs) 25 (0, 0))
  b3 : W.heap[nx + 1]? = some (.cells (stD k nx).cs 25 (0, 0))
  nF : FNode 8 W (fun _ => True) e F
  nG : FNode 8 W (fun _ => True) h G
theorem StB.below {n0 nx : Nat} {k : Int} {e h : Fd} {F G : Fl 8} {W V : World} (s : StB n0 nx k e h F G W) (hb : Below W.heap.size W V) : StB n0 nx k e h F G V :=
  ⟨(hb.block _ (Array.getElem?_eq_some_iff.1 s.b0).1).trans s.b0, (hb.block _ (Array.getElem?_eq_some_iff.1 s.b1).1).trans s.b1, (hb.block _ (Array.getElem?_eq_some_iff.1 s.b2).1).trans s.b2, (hb.block _ (Array.getElem?_eq_some_iff.1 s.b3).1).trans s.b3, s.nF.below hb, s.nG.below hb⟩
theorem StB.node {n0 nx : Nat} {k : Int} {e h : Fd} {F G : Fl 8} {W : World} (s : StB n0 nx k e h F G W) : FNode 9 W (fun _ => True) (stD k nx) (stF k F G) := st_node s.b2 s.nF s.nG

set_option linter.unusedSimpArgs false in
set_option linter.unusedVariables false in
set_option maxRecDepth 100000 in
set_option maxHeartbeats 8000000 in
theorem walk (d : Fd) (F0 : Fl 8) (d2 : Fd) (G0 : Fl 8) (al : Bool) (a : Ad) (w : World) (g : Glob a w) (hC : CutF 8 w d F0) (hC2 : CutF 8 w d2 G0) :
    Calls Tryz.prog 7 #[d.val, d2.val, .bool al] w fun e w' => e = .returned (.bool true) ∧ Below w.heap.size w w' := by
  obtain ⟨W0, hW0⟩ : ∃ W0, W0 = (w.alloc d.obj).alloc d2.obj := ⟨_, rfl⟩
  have hb0 : Below w.heap.size w W0 := by rw [hW0]; exact ((Below.refl _ _).alloc (Nat.le_refl _) _).alloc (by simp) _
  have hq0 : W0.heap[w.heap.size]? = some (.cells d.cs 25 (0, 0)) := by rw [hW0]; exact (Below.heap_alloc _ _ _ (by simp)).trans (World.alloc_heap_new _ _)
  have hp0 : W0.heap[(w.heap.size + 1)]? = some (.cells d2.cs 25 (0, 0)) := by rw [hW0]; have := World.alloc_heap_new (w.alloc d.obj) d2.obj; rwa [World.size_alloc] at this
  have HSh := hide fun W (h : Below w.heap.size w W) => shown_true a W (g.below (Nat.le_refl _) h)
  have HC := hide fun W (h : Below w.heap.size w W) => Cut_any F0 W d (hC.below h)
  have HC2 := hide fun W (h : Below w.heap.size w W) => Cut_any G0 W d2 (hC2.below h)
  have Hg := hide g
  have H0 := hide (And.intro hb0 (And.intro hq0 hp0))
  have HW0 := hide hW0
  clear g hC hC2 hb0 hq0 hp0 hW0
  obtain ⟨dk, da, dv, dsa, dsn, dsc, df, dla, dln, dlc⟩ := d
  obtain ⟨bk, ba, bv, bsa, bsn, bsc, bf, bla, bln, blc⟩ := d2
  go_enter Tryz.func7, Tryz.ntmps7
  go_wp2_with fail
  rw [← (show W0 = _ from unhide HW0)]
  refine ((unhide HSh) _ (unhide H0).1).mono ?_
  rintro e w1 ⟨rfl, hb⟩
  have B1 := hide (step (unhide H0).1 hb)
  have hq := (hb.block _ (Array.getElem?_eq_some_iff.1 (unhide H0).2.1).1).trans (unhide H0).2.1
  have hp := (hb.block _ (Array.getElem?_eq_some_iff.1 (unhide H0).2.2).1).trans (unhide H0).2.2
  have Q := hide (And.intro hq hp)
  obtain ⟨⟨c0, c1, c2, c3, c4, c5⟩, _⟩ := box6 hq
  dsimp only at c0 c1 c2 c3 c4 c5
  clear hb hq hp H0 HSh HW0
  go_wp2_with fail
  refine ((unhide HC) _ (unhide B1)).mono ?_
  rintro e w2 ⟨hb, ⟨ek, ea, ev, esa, esn, esc, ef, ela, eln, elc⟩, rfl, hN⟩
  have hq := (hb.block _ (Array.getElem?_eq_some_iff.1 (unhide Q).1).1).trans (unhide Q).1
  have hp := (hb.block _ (Array.getElem?_eq_some_iff.1 (unhide Q).2).1).trans (unhide Q).2
  have hB1z : (w.heap.size + 1) < w1.heap.size := (Array.getElem?_eq_some_iff.1 (unhide Q).2).1
  have hlt2 : w.heap.size < w2.heap.size := (Array.getElem?_eq_some_iff.1 hq).1
  clear c0 c1 c2 c3 c4 c5
  obtain ⟨⟨c0, c1, c2, c3, c4, c5⟩, g0, g1, g2, g3, g4, g5⟩ := box6 hq
  dsimp only at c0 c1 c2 c3 c4 c5
  obtain ⟨X1, hX⟩ : ∃ X, X = set6 w2 w.heap.size ⟨ek, ea, ev, esa, esn, esc, ef, ela, eln, elc⟩ := ⟨_, rfl⟩
  have hXb := set6_but w2 w.heap.size ⟨ek, ea, ev, esa, esn, esc, ef, ela, eln, elc⟩
  have hXq := set6_blk hq ⟨ek, ea, ev, esa, esn, esc, ef, ela, eln, elc⟩
  rw [← hX] at hXb hXq
  dsimp only [set6] at hX
  have hXc := hX.symm
  clear hX
  have hXp := (hXb.block _ (Array.getElem?_eq_some_iff.1 hp).1 (by omega)).trans hp
  have hXw := (step (unhide B1) hb).trans (hXb.below (Nat.le_refl _) hlt2)
  have hXN := (hN.of (W' := X1) fun b h1 h2 => hXb.block b h2 (by omega)).imp (q := fun b => (w.heap.size + 1) < b) fun b h1 _ => by omega
  obtain ⟨⟨k0, k1, k2, k3, k4, k5⟩, _⟩ := box6 hXp
  dsimp only at k0 k1 k2 k3 k4 k5
  have HX := hide (And.intro hXw (And.intro hXq (And.intro hXp hXN)))
  clear hb hq hp hN hXb hXq hXp hXw hXN Q HC hlt2 hB1z
  generalize F0 = F at *
  go_wp2_with fail
  clear hXc k0 k1 k2 k3 k4 k5 g0 g1 g2 g3 g4 g5 c0 c1 c2 c3 c4 c5
  refine ((unhide HC2) _ (unhide HX).1).mono ?_
  rintro e w3 ⟨hb, ⟨hk, ha, hv, hsa, hsn, hsc, hf, hla, hln, hlc⟩, rfl, hN⟩
  have hq := (hb.block _ (Array.getElem?_eq_some_iff.1 (unhide HX).2.2.1).1).trans (unhide HX).2.2.1
  have hp := (hb.block _ (Array.getElem?_eq_some_iff.1 (unhide HX).2.1).1).trans (unhide HX).2.1
  have hlt3 : (w.heap.size + 1) < w3.heap.size := (Array.getElem?_eq_some_iff.1 hq).1
  have hltX : (w.heap.size + 1) < X1.heap.size := (Array.getElem?_eq_some_iff.1 (unhide HX).2.2.1).1
  obtain ⟨⟨c0, c1, c2, c3, c4, c5⟩, g0, g1, g2, g3, g4, g5⟩ := box6 hq
  dsimp only at c0 c1 c2 c3 c4 c5
  obtain ⟨X, hX⟩ : ∃ X, X = set6 w3 (w.heap.size + 1) ⟨hk, ha, hv, hsa, hsn, hsc, hf, hla, hln, hlc⟩ := ⟨_, rfl⟩
  have hXb := set6_but w3 (w.heap.size + 1) ⟨hk, ha, hv, hsa, hsn, hsc, hf, hla, hln, hlc⟩
  have hXq := set6_blk hq ⟨hk, ha, hv, hsa, hsn, hsc, hf, hla, hln, hlc⟩
  rw [← hX] at hXb hXq
  dsimp only [set6] at hX
  have hXc := hX.symm
  clear hX
  have hXp := (hXb.block _ (Array.getElem?_eq_some_iff.1 hp).1 (by omega)).trans hp
  have hXw := (step (unhide HX).1 hb).trans (hXb.below (by omega) hlt3)
  have hXN := (hN.of (W' := X) fun b h1 h2 => hXb.block b h2 (by omega)).imp (q := fun _ => True) fun b h1 _ => trivial
  have hXM := (((unhide HX).2.2.2.below hb).of (W' := X) fun b h1 h2 => hXb.block b h2 (by omega)).imp (q := fun _ => True) fun b h1 _ => trivial
  obtain ⟨⟨k0, k1, k2, k3, k4, k5⟩, _⟩ := box6 hXp
  obtain ⟨⟨l0, l1, l2, l3, l4, l5⟩, _⟩ := box6 hXq
  dsimp only at k0 k1 k2 k3 k4 k5 l0 l1 l2 l3 l4 l5
  have hXlt : (w.heap.size + 1) < X.heap.size := (Array.getElem?_eq_some_iff.1 hXq).1
  have hXlt0 : w.heap.size < X.heap.size := by omega
  have HY := hide (And.intro hXw (And.intro hXp (And.intro hXq (And.intro hXM hXN))))
  clear hb hq hp hN hXb hXq hXp hXw hXN hXM HX HC2 hlt3 hltX B1
  generalize G0 = G at *
  cases al
  go_wp2_with fail
  clear hXc k0 k1 k2 k3 k4 k5 l0 l1 l2 l3 l4 l5 g0 g1 g2 g3 g4 g5 c0 c1 c2 c3 c4 c5
  have hal1 : Below X.heap.size X (X.alloc (.cells #[.int .i64 ek, .string ea, .string ev, .slice esa esn esc, .string ef, .slice ela eln elc, .int .i64 hk, .string ha, .string hv, .slice hsa hsn hsc, .string hf, .slice hla hln hlc] 25)) := (Below.refl X.heap.size X).alloc (Nat.le_refl _) _
  have hal2 : Below X.heap.size X ((X.alloc (.cells #[.int .i64 ek, .string ea, .string ev, .slice esa esn esc, .string ef, .slice ela eln elc, .int .i64 hk, .string ha, .string hv, .slice hsa hsn hsc, .string hf, .slice hla hln hlc] 25)).alloc (.cells #[.int .i64 1, .string ⟨#[]⟩, .string ⟨#[]⟩, .slice none 0 0, .string ⟨#[]⟩, .slice (some ⟨X.heap.size, 0, none⟩) 2 2] 25)) := hal1.alloc hal1.size _
  have hq1 : ((X.alloc (.cells #[.int .i64 ek, .string ea, .string ev, .slice esa esn esc, .string ef, .slice ela eln elc, .int .i64 hk, .string ha, .string hv, .slice hsa hsn hsc, .string hf, .slice hla hln hlc] 25)).alloc (.cells #[.int .i64 1, .string ⟨#[]⟩, .string ⟨#[]⟩, .slice none 0 0, .string ⟨#[]⟩, .slice (some ⟨X.heap.size, 0, none⟩) 2 2] 25)).heap[X.heap.size]? = some (.cells (Fd.cs ⟨ek, ea, ev, esa, esn, esc, ef, ela, eln, elc⟩ ++ Fd.cs ⟨hk, ha, hv, hsa, hsn, hsc, hf, hla, hln, hlc⟩) 25 (0, 0)) := (Below.heap_alloc _ _ _ (by simp)).trans (World.alloc_heap_new X _)
  have hq2 : ((X.alloc (.cells #[.int .i64 ek, .string ea, .string ev, .slice esa esn esc, .string ef, .slice ela eln elc, .int .i64 hk, .string ha, .string hv, .slice hsa hsn hsc, .string hf, .slice hla hln hlc] 25)).alloc (.cells #[.int .i64 1, .string ⟨#[]⟩, .string ⟨#[]⟩, .slice none 0 0, .string ⟨#[]⟩, .slice (some ⟨X.heap.size, 0, none⟩) 2 2] 25)).heap[X.heap.size + 1]? = some (.cells (stD 1 X.heap.size).cs 25 (0, 0)) := by
    have := World.alloc_heap_new (X.alloc (.cells #[.int .i64 ek, .string ea, .string ev, .slice esa esn esc, .string ef, .slice ela eln elc, .int .i64 hk, .string ha, .string hv, .slice hsa hsn hsc, .string hf, .slice hla hln hlc] 25)) (.cells #[.int .i64 1, .string ⟨#[]⟩, .string ⟨#[]⟩, .slice none 0 0, .string ⟨#[]⟩, .slice (some ⟨X.heap.size, 0, none⟩) 2 2] 25)
    rwa [World.size_alloc] at this
  have hx0 := (hal2.block _ (Array.getElem?_eq_some_iff.1 (unhide HY).2.1).1).trans (unhide HY).2.1
  have hx1 := (hal2.block _ (Array.getElem?_eq_some_iff.1 (unhide HY).2.2.1).1).trans (unhide HY).2.2.1
  have hN0 := (unhide HY).2.2.2.1.below hal2
  have hM0 := (unhide HY).2.2.2.2.below hal2
  have B3 := hide (step (unhide HY).1 hal2)
  clear hal1 hal2 HY hXlt hXlt0
  generalize ((X.alloc (.cells #[.int .i64 ek, .string ea, .string ev, .slice esa esn esc, .string ef, .slice ela eln elc, .int .i64 hk, .string ha, .string hv, .slice hsa hsn hsc, .string hf, .slice hla hln hlc] 25)).alloc (.cells #[.int .i64 1, .string ⟨#[]⟩, .string ⟨#[]⟩, .slice none 0 0, .string ⟨#[]⟩, .slice (some ⟨X.heap.size, 0, none⟩) 2 2] 25)) = Y at *
  generalize X.heap.size = nx at *
  generalize hsg : (⟨#[124]⟩ : ByteArray) = sgb at *
  have S0 : ∃ kk : Int, (kk = 0 ∧ sgb = ⟨#[38]⟩ ∨ kk = 1 ∧ sgb = ⟨#[124]⟩) ∧ StB w.heap.size nx kk ⟨ek, ea, ev, esa, esn, esc, ef, ela, eln, elc⟩ ⟨hk, ha, hv, hsa, hsn, hsc, hf, hla, hln, hlc⟩ F G Y := ⟨1, by simp [← hsg], StB.mk hx0 hx1 hq1 hq2 hN0 hM0⟩
  have hsz : sgb.size = 1 := by rw [← hsg]; rfl
  clear hx0 hx1 hq1 hq2 hN0 hM0 hsg
  rotate_left
  go_wp2_with fail
  clear hXc k0 k1 k2 k3 k4 k5 l0 l1 l2 l3 l4 l5 g0 g1 g2 g3 g4 g5 c0 c1 c2 c3 c4 c5
  have hal1 : Below X.heap.size X (X.alloc (.cells #[.int .i64 ek, .string ea, .string ev, .slice esa esn esc, .string ef, .slice ela eln elc, .int .i64 hk, .string ha, .string hv, .slice hsa hsn hsc, .string hf, .slice hla hln hlc] 25)) := (Below.refl X.heap.size X).alloc (Nat.le_refl _) _
  have hal2 : Below X.heap.size X ((X.alloc (.cells #[.int .i64 ek, .string ea, .string ev, .slice esa esn esc, .string ef, .slice ela eln elc, .int .i64 hk, .string ha, .string hv, .slice hsa hsn hsc, .string hf, .slice hla hln hlc] 25)).alloc (.cells #[.int .i64 0, .string ⟨#[]⟩, .string ⟨#[]⟩, .slice none 0 0, .string ⟨#[]⟩, .slice (some ⟨X.heap.size, 0, none⟩) 2 2] 25)) := hal1.alloc hal1.size _
  have hq1 : ((X.alloc (.cells #[.int .i64 ek, .string ea, .string ev, .slice esa esn esc, .string ef, .slice ela eln elc, .int .i64 hk, .string ha, .string hv, .slice hsa hsn hsc, .string hf, .slice hla hln hlc] 25)).alloc (.cells #[.int .i64 0, .string ⟨#[]⟩, .string ⟨#[]⟩, .slice none 0 0, .string ⟨#[]⟩, .slice (some ⟨X.heap.size, 0, none⟩) 2 2] 25)).heap[X.heap.size]? = some (.cells (Fd.cs ⟨ek, ea, ev, esa, esn, esc, ef, ela, eln, elc⟩ ++ Fd.cs ⟨hk, ha, hv, hsa, hsn, hsc, hf, hla, hln, hlc⟩) 25 (0, 0)) := (Below.heap_alloc _ _ _ (by simp)).trans (World.alloc_heap_new X _)
  have hq2 : ((X.alloc (.cells #[.int .i64 ek, .string ea, .string ev, .slice esa esn esc, .string ef, .slice ela eln elc, .int .i64 hk, .string ha, .string hv, .slice hsa hsn hsc, .string hf, .slice hla hln hlc] 25)).alloc (.cells #[.int .i64 0, .string ⟨#[]⟩, .string ⟨#[]⟩, .slice none 0 0, .string ⟨#[]⟩, .slice (some ⟨X.heap.size, 0, none⟩) 2 2] 25)).heap[X.heap.size + 1]? = some (.cells (stD 0 X.heap.size).cs 25 (0, 0)) := by
    have := World.alloc_heap_new (X.alloc (.cells #[.int .i64 ek, .string ea, .string ev, .slice esa esn esc, .string ef, .slice ela eln elc, .int .i64 hk, .string ha, .string hv, .slice hsa hsn hsc, .string hf, .slice hla hln hlc] 25)) (.cells #[.int .i64 0, .string ⟨#[]⟩, .string ⟨#[]⟩, .slice none 0 0, .string ⟨#[]⟩, .slice (some ⟨X.heap.size, 0, none⟩) 2 2] 25)
    rwa [World.size_alloc] at this
  have hx0 := (hal2.block _ (Array.getElem?_eq_some_iff.1 (unhide HY).2.1).1).trans (unhide HY).2.1
  have hx1 := (hal2.block _ (Array.getElem?_eq_some_iff.1 (unhide HY).2.2.1).1).trans (unhide HY).2.2.1
  have hN0 := (unhide HY).2.2.2.1.below hal2
  have hM0 := (unhide HY).2.2.2.2.below hal2
  have B3 := hide (step (unhide HY).1 hal2)
  clear hal1 hal2 HY hXlt hXlt0
  generalize ((X.alloc (.cells #[.int .i64 ek, .string ea, .string ev, .slice esa esn esc, .string ef, .slice ela eln elc, .int .i64 hk, .string ha, .string hv, .slice hsa hsn hsc, .string hf, .slice hla hln hlc] 25)).alloc (.cells #[.int .i64 0, .string ⟨#[]⟩, .string ⟨#[]⟩, .slice none 0 0, .string ⟨#[]⟩, .slice (some ⟨X.heap.size, 0, none⟩) 2 2] 25)) = Y at *
  generalize X.heap.size = nx at *
  generalize hsg : (⟨#[38]⟩ : ByteArray) = sgb at *
  have S0 : ∃ kk : Int, (kk = 0 ∧ sgb = ⟨#[38]⟩ ∨ kk = 1 ∧ sgb = ⟨#[124]⟩) ∧ StB w.heap.size nx kk ⟨ek, ea, ev, esa, esn, esc, ef, ela, eln, elc⟩ ⟨hk, ha, hv, hsa, hsn, hsc, hf, hla, hln, hlc⟩ F G Y := ⟨0, by simp [← hsg], StB.mk hx0 hx1 hq1 hq2 hN0 hM0⟩
  have hsz : sgb.size = 1 := by rw [← hsg]; rfl
  clear hx0 hx1 hq1 hq2 hN0 hM0 hsg
  all_goals
    obtain ⟨kk, hkk, hS0⟩ := S0
    have Hkk := hide hkk
    have S0 := hide hS0
    have hk01 : kk = 0 ∨ kk = 1 := by omega
    clear hkk hS0
    cases hr : (right 8 5 F && right 8 5 G) with
    | false =>
      obtain ⟨tx, ex, hpx⟩ := any_prt F
      obtain ⟨ty, ey, hpy⟩ := any_prt G
      have HA := hide (print_any 7 F a Y _ _ ((unhide Hg).below (Nat.le_refl _) (unhide B3)) (unhide S0).nF (by omega))
      rw [hpx] at HA
      refine (unhide HA).mono ?_
      rintro e w4 ⟨rfl, hb⟩
      have B4 := hide (step (unhide B3) hb)
      have S4 := hide ((unhide S0).below hb)
      obtain ⟨⟨c0, c1, c2, c3, c4, c5⟩, _⟩ := box6 (unhide S4).b1
      dsimp only at c0 c1 c2 c3 c4 c5
      have HB := hide (print_any 7 G a w4 _ _ ((unhide Hg).below (Nat.le_refl _) (unhide B4)) (unhide S4).nG (by omega))
      rw [hpy] at HB
      clear hb HA hpx hpy S0 B3
      go_wp2_with fail
      refine (unhide HB).mono ?_
      rintro e w5 ⟨rfl, hb⟩
      have B5 := hide (step (unhide B4) hb)
      have S5 := hide ((unhide S4).below hb)
      clear c0 c1 c2 c3 c4 c5
      obtain ⟨⟨c0, c1, c2, c3, c4, c5⟩, _⟩ := box6 (unhide S5).b3
      dsimp only at c0 c1 c2 c3 c4 c5
      have HD := hide (print_any 8 (stF kk F G) a w5 _ _ ((unhide Hg).below (Nat.le_refl _) (unhide B5)) (unhide S5).node (by omega))
      rw [show prtF (stF kk F G) = .tuple #[.string ⟨#[]⟩, .int .i64 80] by unfold prtF; rw [st_right hk01, hr]; rfl] at HD
      clear hb HB S4 B4
      go_wp2_with fail
      refine (unhide HD).mono ?_
      rintro e w6 ⟨rfl, hb⟩
      have B6 := hide (step (unhide B5) hb)
      have S6 := hide ((unhide S5).below hb)
      clear c0 c1 c2 c3 c4 c5
      obtain ⟨⟨c0, c1, c2, c3, c4, c5⟩, _⟩ := box6 (unhide S6).b3
      dsimp only at c0 c1 c2 c3 c4 c5
      have HN := hide (names_any 8 (stF kk F G) a w6 _ _ ((unhide Hg).below (Nat.le_refl _) (unhide B6)) (unhide S6).node (by omega))
      rw [st_right hk01, hr, if_neg (by simp)] at HN
      clear hb HD S5 B5 hr
      go_wp2_with fail
      refine (unhide HN).mono ?_
      rintro e w7 ⟨hb, nv, rfl, hown⟩
      obtain ⟨na, nc, rfl, _⟩ := own_strs hown rfl
      have B7 := hide (step (unhide B6) hb)
      clear hb hown HN c0 c1 c2 c3 c4 c5
      go_wp2
      go_ret
      exact ⟨rfl, unhide B7⟩
    | true =>
      obtain ⟨hf5, hg5⟩ := Bool.and_eq_true_iff.1 hr
      have hf6 := right_mono 8 5 6 F (by omega) hf5
      have hg6 := right_mono 8 5 6 G (by omega) hg5
      have hfl : (⟨(text 8 F).toArray⟩ : ByteArray).size ≤ 100000000 := by show (text 8 F).toArray.size ≤ _; have := text_len 8 6 F hf6; simp; omega
      have hgl : (⟨(text 8 G).toArray⟩ : ByteArray).size ≤ 100000000 := by show (text 8 G).toArray.size ≤ _; have := text_len 8 6 G hg6; simp; omega
      have HA := hide (print_any 7 F a Y _ _ ((unhide Hg).below (Nat.le_refl _) (unhide B3)) (unhide S0).nF (by omega))
      rw [yes_prt hf6] at HA
      have hpz : prtF (stF kk F G) = .tuple #[.string (⟨#[40]⟩ ++ sgb ++ ⟨(text 8 F).toArray⟩ ++ ⟨(text 8 G).toArray⟩ ++ ⟨#[41]⟩), .int .i64 0] := by
        unfold prtF
        rw [st_right hk01, hr, if_pos rfl, st_text (unhide Hkk)]
      have hpy := yes_prt hg6
      have hxn : names 8 F ≠ [] := names_pos 8 6 F hf6
      have hyn : names 8 G ≠ [] := names_pos 8 6 G hg6
      have hxl := names_len 8 6 F hf6
      have hyl := names_len 8 6 G hg6
      generalize (⟨(text 8 F).toArray⟩ : ByteArray) = tf at *
      generalize (⟨(text 8 G).toArray⟩ : ByteArray) = tg at *
      have Hfl := hide hfl
      have Hgl := hide hgl
      clear hfl hgl
      refine (unhide HA).mono ?_
      rintro e w4 ⟨rfl, hb⟩
      have B4 := hide (step (unhide B3) hb)
      have S4 := hide ((unhide S0).below hb)
      obtain ⟨⟨c0, c1, c2, c3, c4, c5⟩, _⟩ := box6 (unhide S4).b1
      dsimp only at c0 c1 c2 c3 c4 c5
      have HB := hide (print_any 7 G a w4 _ _ ((unhide Hg).below (Nat.le_refl _) (unhide B4)) (unhide S4).nG (by omega))
      rw [hpy] at HB
      have Hpz := hide hpz
      have Hxy := hide (And.intro hxn (And.intro hyn (And.intro hxl hyl)))
      have Hrr := hide (And.intro hf6 (And.intro hg6 hr))
      clear hb HA hpy S0 B3 hpz hxn hyn hxl hyl hf5 hg5 hf6 hg6 hr
      go_wp2_with fail
      refine (unhide HB).mono ?_
      rintro e w5 ⟨rfl, hb⟩
      have B5 := hide (step (unhide B4) hb)
      have S5 := hide ((unhide S4).below hb)
      clear c0 c1 c2 c3 c4 c5
      obtain ⟨⟨c0, c1, c2, c3, c4, c5⟩, _⟩ := box6 (unhide S5).b3
      dsimp only at c0 c1 c2 c3 c4 c5
      have HD := hide (print_any 8 (stF kk F G) a w5 _ _ ((unhide Hg).below (Nat.le_refl _) (unhide B5)) (unhide S5).node (by omega))
      rw [unhide Hpz] at HD
      clear hb HB S4 B4 Hpz
      go_wp2_with fail
      refine (unhide HD).mono ?_
      rintro e w6 ⟨rfl, hb⟩
      have Bw6 := hide (step (unhide B5) hb)
      have S6 := hide ((unhide S5).below hb)
      clear hb HD S5 B5 c0 c1 c2 c3 c4 c5
      have hD : Below w6.heap.size w6 w6.drew := (Below.refl _ _).drew
      have hSd := (unhide S6).below hD
      have hSD : (fun w' : World => At w' w.heap.size 0 ⟨ek, ea, ev, esa, esn, esc, ef, ela, eln, elc⟩ ∧ At w' (w.heap.size + 1) 0 ⟨hk, ha, hv, hsa, hsn, hsc, hf, hla, hln, hlc⟩) w6.drew := ⟨At.box hSd.b0, At.box hSd.b1⟩
      have HSof : Hid (∀ V, Below w6.drew.heap.size w6.drew V → (fun w' : World => At w' w.heap.size 0 ⟨ek, ea, ev, esa, esn, esc, ef, ela, eln, elc⟩ ∧ At w' (w.heap.size + 1) 0 ⟨hk, ha, hv, hsa, hsn, hsc, hf, hla, hln, hlc⟩) V) := hide fun V hV => ⟨hSD.1.of (hV.block _ hSD.1.lt), hSD.2.of (hV.block _ hSD.2.lt)⟩
      have HG := fun V (h : Below w6.drew.heap.size w6.drew V) => (unhide Hg).below (Nat.le_refl _) (step (unhide Bw6) (hD.trans (h.mono (Nat.le_refl _))))
      have HN := fun V (h : Below w6.drew.heap.size w6.drew V) => names_any 7 F a V _ _ (HG V h) (hSd.below h).nF (by omega)
      have HN2 := fun V (h : Below w6.drew.heap.size w6.drew V) => names_any 7 G a V _ _ (HG V h) (hSd.below h).nG (by omega)
      have HZn := fun V (h : Below w6.drew.heap.size w6.drew V) => names_any 8 (stF kk F G) a V _ _ (HG V h) (hSd.below h).node (by omega)
      obtain ⟨hf6, hg6, hr⟩ := unhide Hrr
      obtain ⟨hxn, hyn, hxl, hyl⟩ := unhide Hxy
      rw [hf6, if_pos rfl] at HN
      rw [hg6, if_pos rfl] at HN2
      rw [st_right hk01, hr, if_pos rfl, st_names] at HZn
      have hSdb := hSd
      generalize names 8 F = xl at *
      generalize names 8 G = yl at *
      replace HN := hide HN
      replace HN2 := hide HN2
      replace HZn := hide HZn
      have Bd6 := hide hD
      have Hbz : Hid (∀ V, Below w6.drew.heap.size w6.drew V → V.heap[nx + 1]? = some (.cells (stD kk nx).cs 25 (0, 0))) := hide fun V h => (hSd.below h).b3
      clear hf6 hg6 hr Hrr Hxy hSd hSdb HG hD S6
      have hxp : 0 < xl.length := List.length_pos_iff.2 hxn
      have hyp : 0 < yl.length := List.length_pos_iff.2 hyn
      obtain ⟨i1, hi1, hs0, hs1, hs2⟩ := infoS
      have hfl := unhide Hfl
      have hgl := unhide Hgl
      have hn40 : (⟨#[40]⟩ : ByteArray).size = 1 := rfl
      go_wp2_with fail
      refine wp_region_held (S := fun w' : World => At w' w.heap.size 0 ⟨ek, ea, ev, esa, esn, esc, ef, ela, eln, elc⟩ ∧ At w' (w.heap.size + 1) 0 ⟨hk, ha, hv, hsa, hsn, hsc, hf, hla, hln, hlc⟩) (by kernel_rfl) ?_
      change wpAnyH _ _ _ _ _ 8 #[false, false, false, false, false, false, false, false] _ w6.drew
      have Bd : Hid (Below w6.drew.heap.size w6.drew w6.drew) := hide (Below.refl _ _)
      generalize w6.drew = d5 at *
      have hS := hSD
      have Bd5 := Bd
      clear Bd hSD
      refine wpAnyH_take (i := 0) (v := .slice none 0 0) rfl (by kernel_rfl) (by kernel_rfl) (by kernel_rfl) (fun _ _ _ h => h) (Or.inl ⟨by kernel_rfl, by rintro w1 ⟨⟨s0, s1, s2, s3, s4, s5⟩, ⟨k0, k1, k2, k3, k4, k5⟩⟩; dsimp only at s0 s1 s2 s3 s4 s5 k0 k1 k2 k3 k4 k5; go_simp; all_goals first | rfl | omega⟩) hS ?_
      simp only [Act.put, List.setIfInBounds_toArray, List.set_cons_zero, List.set_cons_succ, List.getElem_toArray, List.getElem_cons_zero, List.getElem_cons_succ]
      refine wpAnyH_take (i := 1) (v := .agg #[.int .i64 ek, .string ea, .string ev, .slice esa esn esc, .string ef, .slice ela eln elc]) rfl (by kernel_rfl) (by kernel_rfl) (by kernel_rfl) (fun _ _ _ h => h) (Or.inl ⟨by kernel_rfl, by rintro w1 ⟨⟨s0, s1, s2, s3, s4, s5⟩, ⟨k0, k1, k2, k3, k4, k5⟩⟩; dsimp only at s0 s1 s2 s3 s4 s5 k0 k1 k2 k3 k4 k5; go_simp; all_goals first | rfl | omega⟩) hS ?_
      simp only [Act.put, List.setIfInBounds_toArray, List.set_cons_zero, List.set_cons_succ, List.getElem_toArray, List.getElem_cons_zero, List.getElem_cons_succ]
      refine wpAnyH_take (i := 4) (v := .agg #[.int .i64 hk, .string ha, .string hv, .slice hsa hsn hsc, .string hf, .slice hla hln hlc]) rfl (by kernel_rfl) (by kernel_rfl) (by kernel_rfl) (fun _ _ _ h => h) (Or.inl ⟨by kernel_rfl, by rintro w1 ⟨⟨s0, s1, s2, s3, s4, s5⟩, ⟨k0, k1, k2, k3, k4, k5⟩⟩; dsimp only at s0 s1 s2 s3 s4 s5 k0 k1 k2 k3 k4 k5; go_simp; all_goals first | rfl | omega⟩) hS ?_
      simp only [Act.put, List.setIfInBounds_toArray, List.set_cons_zero, List.set_cons_succ, List.getElem_toArray, List.getElem_cons_zero, List.getElem_cons_succ]
      refine wpAnyH_ready (rs := [2]) (by kernel_rfl) (by simp) ?_
      refine AllReadyH.cons rfl (fun K hK => ?_) AllReadyH.nil
      rw [if_pos (by kernel_rfl)]
      go_wp2_with fail
      refine ((unhide HN) d5 (unhide Bd5)).mono ?_
      rintro e w7 ⟨hb, x, rfl, hown⟩
      have hSw7 := (unhide HSof) w7 (step (unhide Bd5) hb)
      have Bw7 := hide (step (unhide Bd5) hb)
      obtain ⟨ax, cx, rfl, hst⟩ := own_strs hown rfl
      obtain ⟨gx, ox, rfl, _, hcx⟩ := hst.resolve_left hxn
      clear hst hown hb
      go_wp2
      refine hK.out _ _ hSw7 (fun _ => ?_)
      clear hK K
      simp only [Act.put, List.setIfInBounds_toArray, List.set_cons_zero, List.set_cons_succ, List.getElem_toArray, List.getElem_cons_zero, List.getElem_cons_succ]
      refine wpAnyH_ready (rs := [3]) (by kernel_rfl) (by simp) ?_
      refine AllReadyH.cons rfl (fun K hK => ?_) AllReadyH.nil
      rw [if_pos (by kernel_rfl)]
      refine wp_append_lies _ (.tmp 56) (.tmp 58) 22 rfl d5.heap.size 9 i1 (.string ⟨#[]⟩) 1 16 Tryz.underlying22 hi1 hs0 hs1 hs2 rfl (by omega) (.slice none 0 0) 0 [] rfl (World.ownsRow_nil _ _ _ 1) ⟨gx, ox, none⟩ xl.length cx (strs xl) rfl (by simp) (news_of hcx) (by simp [Value.oneCell']) hxp (by unfold maxLen; omega) (by omega) ((unhide Bw7).size) w7.heap.size rfl ?_
      intro gg cp w8 hown hgrow hat hglt
      have hggd : d5.heap.size ≤ gg := by
        rcases hat with h | h
        · cases h
        · rw [h]; exact (unhide Bw7).size
      have hbn : Below w7.heap.size w7 w8 := ((Below.refl _ _).grown hgrow (Nat.le_refl _) (fun q hq => by cases hq))
      have hSw8 := (unhide HSof) w8 (step (unhide Bw7) hbn)
      have Bw8 := hide (step (unhide Bw7) hbn)
      rw [Nat.zero_add, List.nil_append] at hown
      clear hgrow hat hbn
      refine hK.out _ _ hSw8 (fun _ => ?_)
      clear hK K
      simp only [Act.put, List.setIfInBounds_toArray, List.set_cons_zero, List.set_cons_succ, List.getElem_toArray, List.getElem_cons_zero, List.getElem_cons_succ]
      refine wpAnyH_ready (rs := [5]) (by kernel_rfl) (by simp) ?_
      refine AllReadyH.cons rfl (fun K hK => ?_) AllReadyH.nil
      rw [if_pos (by kernel_rfl)]
      go_wp2_with fail
      refine ((unhide HN2) w8 (unhide Bw8)).mono ?_
      rintro e w9 ⟨hb, y, rfl, hownY⟩
      have hSw9 := (unhide HSof) w9 (step (unhide Bw8) hb)
      have Bw9 := hide (step (unhide Bw8) hb)
      obtain ⟨ay, cy, rfl, hst⟩ := own_strs hownY rfl
      have hownX := owns_below hown hb
      clear hown
      have hown := hownX
      clear hownX
      obtain ⟨gy, oy, rfl, _, hcy⟩ := hst.resolve_left hyn
      clear hst hownY
      clear hb
      go_wp2
      refine hK.out _ _ hSw9 (fun _ => ?_)
      clear hK K
      simp only [Act.put, List.setIfInBounds_toArray, List.set_cons_zero, List.set_cons_succ, List.getElem_toArray, List.getElem_cons_zero, List.getElem_cons_succ]
      refine wpAnyH_ready (rs := [6]) (by kernel_rfl) (by simp) ?_
      refine AllReadyH.cons rfl (fun K hK => ?_) AllReadyH.nil
      rw [if_pos (by kernel_rfl)]
      refine wp_append_lies _ (.tmp 59) (.tmp 61) 22 rfl d5.heap.size 9 i1 (.string ⟨#[]⟩) 1 16 Tryz.underlying22 hi1 hs0 hs1 hs2 rfl (by omega) (.slice (some ⟨gg, 0, none⟩) xl.length cp) xl.length (strs xl) rfl hown ⟨gy, oy, none⟩ yl.length cy (strs yl) rfl (by simp) (news_of hcy) (by simp [Value.oneCell']) hyp (by unfold maxLen; omega) (by omega) ((unhide Bw9).size) w9.heap.size rfl ?_
      intro g2 c2 w10 hown2 hgrow2 hat2 hglt2
      have hBw10 : Below d5.heap.size d5 w10 := (unhide Bw9).grown hgrow2 (unhide Bw9).size (fun q hq => by cases hq; exact hggd)
      have hSw10 := (unhide HSof) w10 hBw10
      have Bw10 := hide hBw10
      have hown3 : w10.ownsRow d5.heap.size 9 1 (.slice (some ⟨g2, 0, none⟩) (xl.length + yl.length) c2) (xl.length + yl.length) (strs (xl ++ yl)) := by rw [show strs (xl ++ yl) = strs xl ++ strs yl by simp [strs]]; exact hown2
      have TT := hide (txl_of hown3 (by simp))
      clear hown2 hgrow2 hat2 hown3
      refine hK.out _ _ hSw10 (fun _ => ?_)
      clear hK K
      simp only [Act.put, List.setIfInBounds_toArray, List.set_cons_zero, List.set_cons_succ, List.getElem_toArray, List.getElem_cons_zero, List.getElem_cons_succ]
      refine wpAnyH_take (i := 7) (v := .slice (some ⟨g2, 0, none⟩) (xl.length + yl.length) c2) rfl (by kernel_rfl) (by kernel_rfl) (by kernel_rfl) (fun _ _ _ h => h) (Or.inl ⟨by kernel_rfl, by rintro w1 ⟨⟨s0, s1, s2, s3, s4, s5⟩, ⟨k0, k1, k2, k3, k4, k5⟩⟩; dsimp only at s0 s1 s2 s3 s4 s5 k0 k1 k2 k3 k4 k5; go_simp; all_goals first | rfl | omega⟩) hSw10 ?_
      simp only [Act.put, List.setIfInBounds_toArray, List.set_cons_zero, List.set_cons_succ, List.getElem_toArray, List.getElem_cons_zero, List.getElem_cons_succ]
      refine wpAnyH_done (by kernel_rfl) ?_ _
      clear HSof hS
      have hbz := (unhide Hbz) w10 (unhide Bw10)
      obtain ⟨⟨c0, c1, c2, c3, c4, c5⟩, _⟩ := box6 hbz
      dsimp only at c0 c1 c2 c3 c4 c5
      clear hbz
      have HZ2 := hide ((unhide HZn) w10 (unhide Bw10))
      go_wp2_with fail
      refine (unhide HZ2).mono ?_
      rintro e w11 ⟨hb, nz, rfl, hownz⟩
      have hT := texts_any (xl ++ yl) (xl ++ yl) _ _ w11 (by rw [List.length_append]; omega) (by rw [List.length_append]; omega) (txl_of hownz rfl) ((unhide TT).below hb)
      rw [decide_eq_true rfl] at hT
      have HT := hide hT
      have B11 := hide (step (unhide Bw10) hb)
      clear hb hownz hT HZ2
      go_wp2_with fail
      refine (unhide HT).mono ?_
      rintro e w12 ⟨rfl, hb⟩
      have B12 := hide (step (unhide B11) hb)
      clear hb
      go_wp2
      go_ret
      exact ⟨rfl, step (unhide Bw6) (step (unhide Bd6) (unhide B12))⟩

set_option maxRecDepth 100000 in
/-- What the walk gives, for every argument. -/
theorem contract (H : Type) (enc : TypeId × Value → H) (W : World) (base : Nat) (args : Array Value) (ds gs : List (DataW H)) (before : List MemPlace)
    (hval : ∀ (j : Nat) t v, Tryz.f7.params[j]? = some t → args[j]? = some v → Value.okWide Tryz.prog W .any base t v)
    (hW : DataW.Whole enc Tryz.prog Tryz.f7.params.toList Rows.filtSetsSpec.vars false W args.toList ds gs before) (hL : laidMetH Tryz.prog Rows.filtSetsRow.laid W) :
    Calls Tryz.prog 7 args W fun e W' => ∃ v, e = .returned v ∧ Rows.filtSetsSpec.post enc Tryz.prog Tryz.f7 false true false false W args v W' := by
  obtain ⟨a, g⟩ := glob_of_laid hL
  have hW' := hW
  obtain ⟨p, q, hA0, hV, rfl, hfz, hnd⟩ := hW
  have hA : DataW.TrodAll enc Tryz.prog W 0 (fun _ => true) true Tryz.f7.params.toList args.toList ds p := hA0
  rw [Tryz.params7] at hA hval
  obtain ⟨v0, vs0, d0, ds0, p0, q0, hargs0, rfl, rfl, h0, r0⟩ := trodAll_cons hA
  obtain ⟨v1, vs1, d1, ds1, p1, q1, hargs1, rfl, rfl, h1, r1⟩ := trodAll_cons r0
  obtain ⟨v2, vs2, d2, ds2, p2, q2, hargs2, rfl, rfl, h2, r2⟩ := trodAll_cons r1
  obtain ⟨rfl, rfl, rfl⟩ := trodAll_nil r2
  obtain rfl : args = #[v0, v1, v2] := by cases args; simp_all
  obtain ⟨rfl, rfl⟩ := trodVars_none hV
  obtain ⟨cs0, rfl, _⟩ := okWide_struct Tryz.underlying25 (hval 0 25 v0 rfl rfl)
  have hk0 := h0
  obtain ⟨fu0, hf0⟩ := h0
  obtain ⟨D0, ec0, F0, hC0⟩ := open_fil 7 fu0 _ _ hf0
  have hlt0 := DataW.trod_lt _ _ _ _ hf0
  obtain rfl : cs0 = D0.cs := Array.ext' ec0
  obtain ⟨cs1, rfl, _⟩ := okWide_struct Tryz.underlying25 (hval 1 25 v1 rfl rfl)
  have hk1 := h1
  obtain ⟨fu1, hf1⟩ := h1
  obtain ⟨D1, ec1, F1, hC1⟩ := open_fil 7 fu1 _ _ hf1
  have hlt1 := DataW.trod_lt _ _ _ _ hf1
  obtain rfl : cs1 = D1.cs := Array.ext' ec1
  obtain ⟨x2, rfl, rfl, rfl⟩ := open_bool Tryz.underlying4 (hval 2 4 v2 rfl rfl) h2
  clear hA0
  simp only [List.append_nil] at hW'
  refine (walk D0 F0 D1 F1 x2 a W g hC0 hC1).mono fun e W' ⟨he, hg⟩ => ?_
  subst he
  refine ⟨_, rfl, _, _, _, [], (p0 ++ (p1 ++ ([] ++ []))), [], hW', ?_, ?_, ?_, hg.frame _, fun h => by cases h⟩
  · exact trodAll_cons_mk (shut_bool Tryz.underlying4 _) trodAll_mk0
  · exact trodAll_cons_mk (Below.trod (by kernel_rfl) (by kernel_rfl) (of_decide_eq_true (by kernel_rfl)) hk0 hg hlt0) (trodAll_cons_mk (Below.trod (by kernel_rfl) (by kernel_rfl) (of_decide_eq_true (by kernel_rfl)) hk1 hg hlt1) (trodAll_cons_mk (shut_bool Tryz.underlying4 _) (trodAll_mk0)))
  · rfl

theorem reads (os : Os) {H : Type} (enc : TypeId × Value → H) : ∃ places, DataW.whole enc Tryz.prog (({ World.holding Tryz.prog os ⟨#[.cells #[.string sentS0] 276, .cells #[.string sentS1] 276, .cells #[.string sentS2] 276, .cells #[.string sentS3] 276, .cells #[.string sentS4] 276, .cells #[.string sentS5] 276, .cells #[.string sentS6] 276, .cells #[.string sentS7] 276, .cells #[.string sentS8] 276, .cells #[.string sentS9] 276, .cells #[.string sentS10] 276, .cells #[.string sentS11] 276, .cells #[.string sentS12] 276], #[], []⟩ with heap := ((((((((((((((((World.holding Tryz.prog os ⟨#[.cells #[.string sentS0] 276, .cells #[.string sentS1] 276, .cells #[.string sentS2] 276, .cells #[.string sentS3] 276, .cells #[.string sentS4] 276, .cells #[.string sentS5] 276, .cells #[.string sentS6] 276, .cells #[.string sentS7] 276, .cells #[.string sentS8] 276, .cells #[.string sentS9] 276, .cells #[.string sentS10] 276, .cells #[.string sentS11] 276, .cells #[.string sentS12] 276], #[], []⟩).heap.modify 15 fun | .cells _ t frozen => .cells #[.iface 258 (.pointer (some ⟨(World.holding Tryz.prog default ⟨#[], #[], []⟩).heap.size + 0, 0, none⟩))] t frozen | o => o).modify 14 fun | .cells _ t frozen => .cells #[.iface 258 (.pointer (some ⟨(World.holding Tryz.prog default ⟨#[], #[], []⟩).heap.size + 1, 0, none⟩))] t frozen | o => o).modify 16 fun | .cells _ t frozen => .cells #[.iface 258 (.pointer (some ⟨(World.holding Tryz.prog default ⟨#[], #[], []⟩).heap.size + 2, 0, none⟩))] t frozen | o => o).modify 13 fun | .cells _ t frozen => .cells #[.iface 258 (.pointer (some ⟨(World.holding Tryz.prog default ⟨#[], #[], []⟩).heap.size + 3, 0, none⟩))] t frozen | o => o).modify 11 fun | .cells _ t frozen => .cells #[.iface 258 (.pointer (some ⟨(World.holding Tryz.prog default ⟨#[], #[], []⟩).heap.size + 4, 0, none⟩))] t frozen | o => o).modify 12 fun | .cells _ t frozen => .cells #[.iface 258 (.pointer (some ⟨(World.holding Tryz.prog default ⟨#[], #[], []⟩).heap.size + 5, 0, none⟩))] t frozen | o => o).modify 0 fun | .cells _ t frozen => .cells #[.iface 258 (.pointer (some ⟨(World.holding Tryz.prog default ⟨#[], #[], []⟩).heap.size + 6, 0, none⟩))] t frozen | o => o).modify 1 fun | .cells _ t frozen => .cells #[.iface 258 (.pointer (some ⟨(World.holding Tryz.prog default ⟨#[], #[], []⟩).heap.size + 7, 0, none⟩))] t frozen | o => o).modify 2 fun | .cells _ t frozen => .cells #[.iface 258 (.pointer (some ⟨(World.holding Tryz.prog default ⟨#[], #[], []⟩).heap.size + 8, 0, none⟩))] t frozen | o => o).modify 3 fun | .cells _ t frozen => .cells #[.iface 258 (.pointer (some ⟨(World.holding Tryz.prog default ⟨#[], #[], []⟩).heap.size + 9, 0, none⟩))] t frozen | o => o).modify 4 fun | .cells _ t frozen => .cells #[.iface 258 (.pointer (some ⟨(World.holding Tryz.prog default ⟨#[], #[], []⟩).heap.size + 10, 0, none⟩))] t frozen | o => o).modify 5 fun | .cells _ t frozen => .cells #[.iface 258 (.pointer (some ⟨(World.holding Tryz.prog default ⟨#[], #[], []⟩).heap.size + 11, 0, none⟩))] t frozen | o => o).modify 6 fun | .cells _ t frozen => .cells #[.iface 258 (.pointer (some ⟨(World.holding Tryz.prog default ⟨#[], #[], []⟩).heap.size + 12, 0, none⟩))] t frozen | o => o).modify 10 fun | .cells _ t frozen => .cells (([128,191,160,191,128,159,144,191,128,143,0,0,0,0,0,0,0,0,0,0,0,0,0,0,0,0,0,0,0,0,0,0] : List Nat).map fun (n : Nat) => Value.int .u8 (n : Int)).toArray t frozen | o => o).modify 9 fun | .cells _ t frozen => .cells ((Go.Pinned.utf8FirstZ : List Nat).map fun (n : Nat) => Value.int .u8 (n : Int)).toArray t frozen | o => o).modify 7 fun | .cells _ t frozen => .cells #[.iface 153 (.agg #[.pointer (some ⟨17, 47, none⟩)])] t frozen | o => o } : World).forCall (fun _ _ => 0) ⟨#[], #[.agg #[.int .i64 0, .string ⟨#[]⟩, .string ⟨#[]⟩, .slice none 0 0, .string ⟨#[]⟩, .slice none 0 0], .agg #[.int .i64 0, .string ⟨#[]⟩, .string ⟨#[]⟩, .slice none 0 0, .string ⟨#[]⟩, .slice none 0 0], .bool false], []⟩).memory Tryz.f7.params.toList Rows.filtSetsSpec.vars false #[Value.agg #[.int .i64 0, .string ⟨#[]⟩, .string ⟨#[]⟩, .slice none 0 0, .string ⟨#[]⟩, .slice none 0 0], Value.agg #[.int .i64 0, .string ⟨#[]⟩, .string ⟨#[]⟩, .slice none 0 0, .string ⟨#[]⟩, .slice none 0 0], Value.bool false].toList 8 = some ([.agg [.lit (.int .i64 0), .lit (.string []), .lit (.string []), .nil, .lit (.string []), .nil], .agg [.lit (.int .i64 0), .lit (.string []), .lit (.string []), .nil, .lit (.string []), .nil], .lit (.bool false)], [], places) :=
  ⟨[], by kernel_rfl⟩

set_option maxRecDepth 100000 in
theorem lifted (os : Os) (started : os.Started) (H : Type) (enc : TypeId × Value → H) (F : Stop.Interp) :
    ReturnsInHanded {} Tryz.checked os 7 .any ((OpenSpec.ofChange Rows.filtSetsSpec).preRow enc Tryz.prog Tryz.f7 Rows.filtSetsRow.domain false Rows.filtSetsRow.laid) (((OpenSpec.ofChange Rows.filtSetsSpec).at F).post enc Tryz.prog Tryz.f7 false true false false) := by
  obtain ⟨places, hx⟩ := reads os enc
  refine returnsInHanded_of_row (C := Tryz.checked) (s := OpenSpec.ofChange Rows.filtSetsSpec) own started (by kernel_rfl) Tryz.func7
    (witness_row_at (enc := enc) (C := Tryz.checked) false ({ World.holding Tryz.prog os ⟨#[.cells #[.string sentS0] 276, .cells #[.string sentS1] 276, .cells #[.string sentS2] 276, .cells #[.string sentS3] 276, .cells #[.string sentS4] 276, .cells #[.string sentS5] 276, .cells #[.string sentS6] 276, .cells #[.string sentS7] 276, .cells #[.string sentS8] 276, .cells #[.string sentS9] 276, .cells #[.string sentS10] 276, .cells #[.string sentS11] 276, .cells #[.string sentS12] 276], #[], []⟩ with heap := ((((((((((((((((World.holding Tryz.prog os ⟨#[.cells #[.string sentS0] 276, .cells #[.string sentS1] 276, .cells #[.string sentS2] 276, .cells #[.string sentS3] 276, .cells #[.string sentS4] 276, .cells #[.string sentS5] 276, .cells #[.string sentS6] 276, .cells #[.string sentS7] 276, .cells #[.string sentS8] 276, .cells #[.string sentS9] 276, .cells #[.string sentS10] 276, .cells #[.string sentS11] 276, .cells #[.string sentS12] 276], #[], []⟩).heap.modify 15 fun | .cells _ t frozen => .cells #[.iface 258 (.pointer (some ⟨(World.holding Tryz.prog default ⟨#[], #[], []⟩).heap.size + 0, 0, none⟩))] t frozen | o => o).modify 14 fun | .cells _ t frozen => .cells #[.iface 258 (.pointer (some ⟨(World.holding Tryz.prog default ⟨#[], #[], []⟩).heap.size + 1, 0, none⟩))] t frozen | o => o).modify 16 fun | .cells _ t frozen => .cells #[.iface 258 (.pointer (some ⟨(World.holding Tryz.prog default ⟨#[], #[], []⟩).heap.size + 2, 0, none⟩))] t frozen | o => o).modify 13 fun | .cells _ t frozen => .cells #[.iface 258 (.pointer (some ⟨(World.holding Tryz.prog default ⟨#[], #[], []⟩).heap.size + 3, 0, none⟩))] t frozen | o => o).modify 11 fun | .cells _ t frozen => .cells #[.iface 258 (.pointer (some ⟨(World.holding Tryz.prog default ⟨#[], #[], []⟩).heap.size + 4, 0, none⟩))] t frozen | o => o).modify 12 fun | .cells _ t frozen => .cells #[.iface 258 (.pointer (some ⟨(World.holding Tryz.prog default ⟨#[], #[], []⟩).heap.size + 5, 0, none⟩))] t frozen | o => o).modify 0 fun | .cells _ t frozen => .cells #[.iface 258 (.pointer (some ⟨(World.holding Tryz.prog default ⟨#[], #[], []⟩).heap.size + 6, 0, none⟩))] t frozen | o => o).modify 1 fun | .cells _ t frozen => .cells #[.iface 258 (.pointer (some ⟨(World.holding Tryz.prog default ⟨#[], #[], []⟩).heap.size + 7, 0, none⟩))] t frozen | o => o).modify 2 fun | .cells _ t frozen => .cells #[.iface 258 (.pointer (some ⟨(World.holding Tryz.prog default ⟨#[], #[], []⟩).heap.size + 8, 0, none⟩))] t frozen | o => o).modify 3 fun | .cells _ t frozen => .cells #[.iface 258 (.pointer (some ⟨(World.holding Tryz.prog default ⟨#[], #[], []⟩).heap.size + 9, 0, none⟩))] t frozen | o => o).modify 4 fun | .cells _ t frozen => .cells #[.iface 258 (.pointer (some ⟨(World.holding Tryz.prog default ⟨#[], #[], []⟩).heap.size + 10, 0, none⟩))] t frozen | o => o).modify 5 fun | .cells _ t frozen => .cells #[.iface 258 (.pointer (some ⟨(World.holding Tryz.prog default ⟨#[], #[], []⟩).heap.size + 11, 0, none⟩))] t frozen | o => o).modify 6 fun | .cells _ t frozen => .cells #[.iface 258 (.pointer (some ⟨(World.holding Tryz.prog default ⟨#[], #[], []⟩).heap.size + 12, 0, none⟩))] t frozen | o => o).modify 10 fun | .cells _ t frozen => .cells (([128,191,160,191,128,159,144,191,128,143,0,0,0,0,0,0,0,0,0,0,0,0,0,0,0,0,0,0,0,0,0,0] : List Nat).map fun (n : Nat) => Value.int .u8 (n : Int)).toArray t frozen | o => o).modify 9 fun | .cells _ t frozen => .cells ((Go.Pinned.utf8FirstZ : List Nat).map fun (n : Nat) => Value.int .u8 (n : Int)).toArray t frozen | o => o).modify 7 fun | .cells _ t frozen => .cells #[.iface 153 (.agg #[.pointer (some ⟨17, 47, none⟩)])] t frozen | o => o } : World) #[.agg #[.int .i64 0, .string ⟨#[]⟩, .string ⟨#[]⟩, .slice none 0 0, .string ⟨#[]⟩, .slice none 0 0], .agg #[.int .i64 0, .string ⟨#[]⟩, .string ⟨#[]⟩, .slice none 0 0, .string ⟨#[]⟩, .slice none 0 0], .bool false] rfl (by kernel_rfl) (by kernel_rfl) (by kernel_rfl)
      (OpenSpec.preRow_of_cond 8 hx (by kernel_rfl) (fun k hk => by cases hk) (by kernel_rfl) (laid_met os _))) ?_
  intro W base args ds gs before hval hW _ _ _ hL _ _
  exact contract H enc W base args ds gs before hval hW hL

theorem said : Rows.FiltSetsSaid :=
  OpenClaim.holds_of_cond 7 Tryz.f7 rfl rfl rfl rfl rfl rfl rfl ⟨rfl, rfl, rfl, rfl, rfl⟩ rfl rfl rfl rfl rfl (by kernel_rfl) Tryz.func7 (by kernel_rfl)
    (of_decide_eq_true (by kernel_rfl)) (by unfold Func.isWrapper; first | (rw [if_pos (by decide +kernel)]; kernel_rfl) | (rw [if_neg (by decide +kernel)]; exact ⟨rfl, rfl⟩))
    (fun os started H enc _ F => by rw [OpenClaim.pre_eq_preRow]; exact lifted os started H enc F)

theorem plain (f : FuncId) (fn : Func) (hf : Tryz.pinned.checked.prog.funcNamed "latiner/latinerlaw08.FiltSets" = some f) (hfn : Tryz.pinned.checked.prog.funcs[f]? = some fn) :
    true = Tryz.pinned.checked.prog.looks [] ∧ ∀ (j : Nat) t, fn.params[j]? = some t → Tryz.pinned.checked.prog.wantsStandIn t = false := by
  obtain rfl : f = 7 := Option.some.inj ((show Tryz.prog.funcNamed "latiner/latinerlaw08.FiltSets" = some 7 by kernel_rfl).symm.trans hf) |>.symm
  obtain rfl : fn = Tryz.f7 := (Option.some.inj (Tryz.func7.symm.trans hfn)).symm
  refine ⟨by kernel_rfl, fun j t ht => ?_⟩
  rw [Tryz.params7] at ht
  have hm : t = 25 ∨ t = 4 := by have := Array.mem_of_getElem? ht; simp at this; first | exact this | omega | (rcases this with h | h | h <;> simp [h]) | (rcases this with h | h | h | h <;> simp [h])
  rcases hm with rfl | rfl
  · exact (show Tryz.prog.wantsStandIn 25 = false by kernel_rfl)
  · exact (show Tryz.prog.wantsStandIn 4 = false by kernel_rfl)

/-- The card. -/
theorem card : Rows.FiltSetsCardSaid :=
  Claim7.holds_tied_plain_at .later [] _ _ _ _ said (fun _ h => by cases h) (by kernel_rfl) (fun _ h => by cases h) filtSets_row_tie rfl ⟨rfl, rfl⟩ (by kernel_rfl) rfl plain (by kernel_rfl)
end Go.Proofs.YtmjfkdpaeenfgaaGreatDoor.F.Sets

namespace Go.Proofs.YtmjfkdpaeenfgaaGreatDoor
theorem filtSets_holds : Rows.FiltSetsCardSaid := F.Sets.card
#print axioms filtSets_holds
end Go.Proofs.YtmjfkdpaeenfgaaGreatDoor
