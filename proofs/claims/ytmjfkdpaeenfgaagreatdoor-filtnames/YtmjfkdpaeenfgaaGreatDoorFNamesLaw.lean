/-
  FiltNames: all names of a right filter are attributes'; one that has no sets in it has its own alone, for any filter. Conditions: the package-level variables hold what the program's text lays (the card ties them).
-/
import Derived.Test.YtmjfkdpaeenfgaaGreatDoorG31
import Derived.Test.YtmjfkdpaeenfgaaGreatDoorFCut
import Derived.Test.YtmjfkdpaeenfgaaGreatDoorFNmP
import Derived.Laws.DeepStrings4
namespace Go.Proofs.YtmjfkdpaeenfgaaGreatDoor.F.Names
open Go Go.RowKit Go.Shelf Fp Go.ChangeShapes Go.WideShapes Go.ChangeAt Go.ChangeMaps
open Go.Proofs.YtmjfkdpaeenfgaaGreatDoor.D (hide unhide)

set_option linter.unusedSimpArgs false in
set_option linter.unusedVariables false in
set_option maxRecDepth 100000 in
set_option maxHeartbeats 8000000 in
theorem walk (d : Fd) (F0 : Fl 8) (a : Ad) (w : World) (g : Glob a w) (hC : CutF 8 w d F0) :
    Calls Tryz.prog 9 #[d.val] w fun e w' => e = .returned (.bool true) ∧ Below w.heap.size w w' := by
  have hb0 : Below w.heap.size w (w.alloc d.obj) := (Below.refl _ _).alloc (Nat.le_refl _) _
  have hq0 : (w.alloc d.obj).heap[w.heap.size]? = some (.cells d.cs 25 (0, 0)) := World.alloc_heap_new _ _
  have HSh := hide fun W (h : Below w.heap.size w W) => shown_true a W (g.below (Nat.le_refl _) h)
  have HC := hide fun W (h : Below w.heap.size w W) => Cut_any F0 W d (hC.below h)
  have Hg := hide g
  have H0 := hide (And.intro hb0 hq0)
  clear g hC hb0 hq0
  obtain ⟨dk, da, dv, dsa, dsn, dsc, df, dla, dln, dlc⟩ := d
  go_enter Tryz.func9, Tryz.ntmps9
  go_wp2_with fail
  refine ((unhide HSh) _ (unhide H0).1).mono ?_
  rintro e w1 ⟨rfl, hb⟩
  have hlt0 := (Array.getElem?_eq_some_iff.1 (unhide H0).2).1
  have B1 := hide (step (unhide H0).1 hb)
  have hq1 := (hb.block _ hlt0).trans (unhide H0).2
  have Q1 := hide hq1
  obtain ⟨⟨c0, c1, c2, c3, c4, c5⟩, _⟩ := box6 hq1
  dsimp only at c0 c1 c2 c3 c4 c5
  clear hb hq1 H0 HSh hlt0
  go_wp2_with fail
  refine ((unhide HC) _ (unhide B1)).mono ?_
  rintro e w2 ⟨hb, ⟨ek, ea, ev, esa, esn, esc, ef, ela, eln, elc⟩, rfl, hN⟩
  have hlt1 := (Array.getElem?_eq_some_iff.1 (unhide Q1)).1
  have hq2 := (hb.block _ hlt1).trans (unhide Q1)
  have hbw2 := step (unhide B1) hb
  have hlt2 : w.heap.size < w2.heap.size := (Array.getElem?_eq_some_iff.1 hq2).1
  clear c0 c1 c2 c3 c4 c5
  obtain ⟨⟨c0, c1, c2, c3, c4, c5⟩, g0, g1, g2, g3, g4, g5⟩ := box6 hq2
  dsimp only at c0 c1 c2 c3 c4 c5
  obtain ⟨X, hX⟩ : ∃ X, X = set6 w2 w.heap.size ⟨ek, ea, ev, esa, esn, esc, ef, ela, eln, elc⟩ := ⟨_, rfl⟩
  have hXb := set6_but w2 w.heap.size ⟨ek, ea, ev, esa, esn, esc, ef, ela, eln, elc⟩
  have hXq := set6_blk hq2 ⟨ek, ea, ev, esa, esn, esc, ef, ela, eln, elc⟩
  rw [← hX] at hXb hXq
  have hXN := hN.of (W' := X) fun b h1 h2 => hXb.block b h2 (by omega)
  dsimp only [set6] at hX
  have HX := hide (And.intro (hbw2.trans (hXb.below (Nat.le_refl _) hlt2)) (And.intro hXq hXN))
  have HXe := hide hX
  clear hb hN hq2 hbw2 hlt2 hXb hXq hXN hX hlt1 Q1 B1 HC
  generalize F0 = F at *
  go_wp2_with fail
  rw [← unhide HXe]
  clear HXe g0 g1 g2 g3 g4 g5
  clear c0 c1 c2 c3 c4 c5
  have hNX := (unhide HX).2.2
  have HNm := hide (names_any 7 F a X _ _ ((unhide Hg).below (Nat.le_refl _) (unhide HX).1) hNX (by omega))
  have HRt := hide fun W (h : Below X.heap.size X W) => right_any 7 F a W _ _ ((unhide Hg).below (Nat.le_refl _) (step (unhide HX).1 h)) (hNX.below h) (by omega)
  obtain ⟨⟨c0, c1, c2, c3, c4, c5⟩, _⟩ := box6 (unhide HX).2.1
  dsimp only at c0 c1 c2 c3 c4 c5
  clear hNX
  refine (unhide HNm).mono ?_
  rintro e w3 ⟨hb, nv, rfl, hown⟩
  have hxs : w3.ownsRow X.heap.size 9 1 nv (nmsF F).length (strs (nmsF F)) := hown
  obtain ⟨na, nc, rfl, hst⟩ := own_strs hxs rfl
  have hok := nmsF_ok (F := F)
  have hnl := nmsF_len F
  have hbx3 := (hb.block _ (Array.getElem?_eq_some_iff.1 (unhide HX).2.1).1).trans (unhide HX).2.1
  have hlf : right 8 6 F = true → nmsF F ≠ [] ∧ (2 < kd F → nmsF F = [nm F]) := fun h => by
    unfold nmsF
    rw [if_pos h]
    exact ⟨names_pos 8 6 F h, fun hk => names_leaf h hk⟩
  have hno : right 8 6 F = false → nmsF F = [] := fun h => by unfold nmsF; rw [h]; rfl
  have Hks := hide (And.intro hlf hno)
  have Hst := hide hst
  have B3 := hide hb
  have Hbx := hide hbx3
  have HIs := hide (unhide HX).2.2.is
  generalize nmsF F = nl at *
  clear hown hxs hst hb hbx3 hlf hno HNm
  have hni : (nl.length : Int) ≤ 100000 := by omega
  have HT := hide fun n W => isName_any n W
  clear c0 c1 c2 c3 c4 c5
  go_wp2
  go_loopw [5] (fun y wr => ∃ i : Nat, i ≤ nl.length ∧ y = .int .i64 i ∧ Hid (Below X.heap.size X wr) ∧ Hid (Below w3.heap.size w3 wr)) (fun y _ => nl.length - (intOf y).toNat)
  case atStart => exact ⟨0, Nat.zero_le _, rfl, B3, hide (Below.refl _ _)⟩
  case round =>
    obtain ⟨i, hi, rfl, hbX, hb3⟩ := hrel
    by_cases hlt : i < nl.length
    · have hlt' : (i : Int) < nl.length := by omega
      obtain ⟨g0, o0, rfl, _, hc⟩ := (unhide Hst).resolve_left (fun e => by rw [e] at hlt; cases hlt)
      have hx := List.getElem?_eq_getElem hlt
      have z1 := ((unhide hb3).cell (D.lt_cell (hc i _ hx))).trans (hc i _ hx)
      have HTx := hide fun W => (unhide HT) nl[i] W
      rw [hok _ (List.getElem_mem hlt)] at HTx
      generalize nl[i] = x at *
      clear hc hx hok
      go_wp2_with fail
      refine ((unhide HTx) _).mono ?_
      rintro e w4 ⟨rfl, hb⟩
      have hbX4 := hide (step (unhide hbX) hb)
      have hb34 := hide (step (unhide hb3) hb)
      clear hb HTx z1
      go_wp2
      go_roundw
      case rel => exact ⟨i + 1, by omega, by simp, hbX4, hb34⟩
      case measure => simp [intOf]; omega
    · have hge : ¬ (i : Int) < nl.length := by omega
      obtain rfl : i = nl.length := by omega
      have hbx := ((unhide hb3).block _ (Array.getElem?_eq_some_iff.1 (unhide Hbx)).1).trans (unhide Hbx)
      obtain ⟨⟨c0, c1, c2, c3, c4, c5⟩, _⟩ := box6 hbx
      dsimp only at c0 c1 c2 c3 c4 c5
      have HR := hide ((unhide HRt) wr (unhide hbX))
      have hbw := hide (step (unhide HX).1 (unhide hbX))
      clear HT hok hlt hi
      cases hr : right 8 6 F with
      | false =>
        rw [hr] at HR
        have hnil := (unhide Hks).2 hr
        subst hnil
        clear hr Hks hbx
        go_wp2_with fail
        refine (unhide HR).mono ?_
        rintro e w4 ⟨rfl, hb⟩
        have B4 := hide (step (unhide hbw) hb)
        clear hb
        go_wp2
        go_ret
        exact ⟨rfl, unhide B4⟩
      | true =>
        rw [hr] at HR
        obtain ⟨hne, hleaf⟩ := (unhide Hks).1 hr
        have hpos : (1 : Int) ≤ nl.length := by
          have : 0 < nl.length := List.length_pos_iff.2 hne
          omega
        have Hbx2 := hide hbx
        clear hr Hks hne hbx
        go_wp2_with fail
        refine (unhide HR).mono ?_
        rintro e w4 ⟨rfl, hb⟩
        have B4 := hide (step (unhide hbw) hb)
        have hbx4 := (hb.block _ (Array.getElem?_eq_some_iff.1 (unhide Hbx2)).1).trans (unhide Hbx2)
        clear c0 c1 c2 c3 c4 c5
        obtain ⟨⟨c0, c1, c2, c3, c4, c5⟩, _⟩ := box6 hbx4
        dsimp only at c0 c1 c2 c3 c4 c5
        by_cases hk : ek ≤ 2
        · clear hb hbx4 hleaf HR
          go_wp2
          go_ret
          exact ⟨rfl, unhide B4⟩
        · have hkd : 2 < kd F := by have := (unhide HIs).k; dsimp only at this; omega
          have hnm : ea = nm F := (unhide HIs).a
          have hnl2 := hleaf hkd
          rw [← hnm] at hnl2
          subst hnl2
          have hb4 := step (unhide hb3) hb
          have ht0 : TxL w3 (.slice na 1 nc) [ea] := ⟨na, nc, rfl, (unhide Hst).imp fun _ _ _ => trivial⟩
          have hal := (Below.refl w4.heap.size w4).alloc (Nat.le_refl _) (.cells #[.string ea] 9)
          have ht2 : TxL (w4.alloc (.cells #[.string ea] 9)) (.slice (some ⟨w4.heap.size, 0, none⟩) 1 1) [ea] := by
            have hq := World.alloc_heap_new w4 (.cells #[.string ea] 9)
            generalize w4.alloc (.cells #[.string ea] 9) = V at hq ⊢
            refine ⟨_, _, rfl, .inr ⟨_, _, rfl, trivial, fun i x hx => ?_⟩⟩
            match i, hx with
            | 0, hx => cases hx; simp [World.cell?, hq]
          have HX2 := hide (texts_any [ea] [ea] _ _ _ (by simp) (by simp) ((ht0.below hb4).below hal) ht2)
          rw [decide_eq_true rfl] at HX2
          have B5 := hide (step (unhide B4) hal)
          clear hb hbx4 hleaf HR hkd hnm hb4 ht0 hal ht2 B4
          go_wp2_with fail
          refine (unhide HX2).mono ?_
          rintro e w5 ⟨rfl, hb⟩
          have B6 := hide (step (unhide B5) hb)
          clear hb HX2 B5
          go_wp2
          go_ret
          exact ⟨rfl, unhide B6⟩

set_option maxRecDepth 100000 in
/-- What the walk gives, for every argument. -/
theorem contract (H : Type) (enc : TypeId × Value → H) (W : World) (base : Nat) (args : Array Value) (ds gs : List (DataW H)) (before : List MemPlace)
    (hval : ∀ (j : Nat) t v, Tryz.f9.params[j]? = some t → args[j]? = some v → Value.okWide Tryz.prog W .any base t v)
    (hW : DataW.Whole enc Tryz.prog Tryz.f9.params.toList Rows.filtNamesSpec.vars false W args.toList ds gs before) (hL : laidMetH Tryz.prog Rows.filtNamesRow.laid W) :
    Calls Tryz.prog 9 args W fun e W' => ∃ v, e = .returned v ∧ Rows.filtNamesSpec.post enc Tryz.prog Tryz.f9 false true false false W args v W' := by
  obtain ⟨a, g⟩ := glob_of_laid hL
  have hW' := hW
  obtain ⟨p, q, hA0, hV, rfl, hfz, hnd⟩ := hW
  have hA : DataW.TrodAll enc Tryz.prog W 0 (fun _ => true) true Tryz.f9.params.toList args.toList ds p := hA0
  rw [Tryz.params9] at hA hval
  obtain ⟨v0, vs0, d0, ds0, p0, q0, hargs0, rfl, rfl, h0, r0⟩ := trodAll_cons hA
  obtain ⟨rfl, rfl, rfl⟩ := trodAll_nil r0
  obtain rfl : args = #[v0] := by cases args; simp_all
  obtain ⟨rfl, rfl⟩ := trodVars_none hV
  obtain ⟨cs0, rfl, _⟩ := okWide_struct Tryz.underlying25 (hval 0 25 v0 rfl rfl)
  have hk0 := h0
  obtain ⟨fu0, hf0⟩ := h0
  obtain ⟨D0, ec0, F0, hC0⟩ := open_fil 7 fu0 _ _ hf0
  have hlt0 := DataW.trod_lt _ _ _ _ hf0
  obtain rfl : cs0 = D0.cs := Array.ext' ec0
  clear hA0
  simp only [List.append_nil] at hW'
  refine (walk D0 F0 a W g hC0).mono fun e W' ⟨he, hg⟩ => ?_
  subst he
  refine ⟨_, rfl, _, _, _, [], (p0 ++ []), [], hW', ?_, ?_, ?_, hg.frame _, fun h => by cases h⟩
  · exact trodAll_cons_mk (shut_bool Tryz.underlying4 _) trodAll_mk0
  · exact trodAll_cons_mk (Below.trod (by kernel_rfl) (by kernel_rfl) (of_decide_eq_true (by kernel_rfl)) hk0 hg hlt0) (trodAll_mk0)
  · rfl

theorem reads (os : Os) {H : Type} (enc : TypeId × Value → H) : ∃ places, DataW.whole enc Tryz.prog (({ World.holding Tryz.prog os ⟨#[.cells #[.string sentS0] 276, .cells #[.string sentS1] 276, .cells #[.string sentS2] 276, .cells #[.string sentS3] 276, .cells #[.string sentS4] 276, .cells #[.string sentS5] 276, .cells #[.string sentS6] 276, .cells #[.string sentS7] 276, .cells #[.string sentS8] 276, .cells #[.string sentS9] 276, .cells #[.string sentS10] 276, .cells #[.string sentS11] 276, .cells #[.string sentS12] 276], #[], []⟩ with heap := ((((((((((((((((World.holding Tryz.prog os ⟨#[.cells #[.string sentS0] 276, .cells #[.string sentS1] 276, .cells #[.string sentS2] 276, .cells #[.string sentS3] 276, .cells #[.string sentS4] 276, .cells #[.string sentS5] 276, .cells #[.string sentS6] 276, .cells #[.string sentS7] 276, .cells #[.string sentS8] 276, .cells #[.string sentS9] 276, .cells #[.string sentS10] 276, .cells #[.string sentS11] 276, .cells #[.string sentS12] 276], #[], []⟩).heap.modify 15 fun | .cells _ t frozen => .cells #[.iface 258 (.pointer (some ⟨(World.holding Tryz.prog default ⟨#[], #[], []⟩).heap.size + 0, 0, none⟩))] t frozen | o => o).modify 14 fun | .cells _ t frozen => .cells #[.iface 258 (.pointer (some ⟨(World.holding Tryz.prog default ⟨#[], #[], []⟩).heap.size + 1, 0, none⟩))] t frozen | o => o).modify 16 fun | .cells _ t frozen => .cells #[.iface 258 (.pointer (some ⟨(World.holding Tryz.prog default ⟨#[], #[], []⟩).heap.size + 2, 0, none⟩))] t frozen | o => o).modify 13 fun | .cells _ t frozen => .cells #[.iface 258 (.pointer (some ⟨(World.holding Tryz.prog default ⟨#[], #[], []⟩).heap.size + 3, 0, none⟩))] t frozen | o => o).modify 11 fun | .cells _ t frozen => .cells #[.iface 258 (.pointer (some ⟨(World.holding Tryz.prog default ⟨#[], #[], []⟩).heap.size + 4, 0, none⟩))] t frozen | o => o).modify 12 fun | .cells _ t frozen => .cells #[.iface 258 (.pointer (some ⟨(World.holding Tryz.prog default ⟨#[], #[], []⟩).heap.size + 5, 0, none⟩))] t frozen | o => o).modify 0 fun | .cells _ t frozen => .cells #[.iface 258 (.pointer (some ⟨(World.holding Tryz.prog default ⟨#[], #[], []⟩).heap.size + 6, 0, none⟩))] t frozen | o => o).modify 1 fun | .cells _ t frozen => .cells #[.iface 258 (.pointer (some ⟨(World.holding Tryz.prog default ⟨#[], #[], []⟩).heap.size + 7, 0, none⟩))] t frozen | o => o).modify 2 fun | .cells _ t frozen => .cells #[.iface 258 (.pointer (some ⟨(World.holding Tryz.prog default ⟨#[], #[], []⟩).heap.size + 8, 0, none⟩))] t frozen | o => o).modify 3 fun | .cells _ t frozen => .cells #[.iface 258 (.pointer (some ⟨(World.holding Tryz.prog default ⟨#[], #[], []⟩).heap.size + 9, 0, none⟩))] t frozen | o => o).modify 4 fun | .cells _ t frozen => .cells #[.iface 258 (.pointer (some ⟨(World.holding Tryz.prog default ⟨#[], #[], []⟩).heap.size + 10, 0, none⟩))] t frozen | o => o).modify 5 fun | .cells _ t frozen => .cells #[.iface 258 (.pointer (some ⟨(World.holding Tryz.prog default ⟨#[], #[], []⟩).heap.size + 11, 0, none⟩))] t frozen | o => o).modify 6 fun | .cells _ t frozen => .cells #[.iface 258 (.pointer (some ⟨(World.holding Tryz.prog default ⟨#[], #[], []⟩).heap.size + 12, 0, none⟩))] t frozen | o => o).modify 10 fun | .cells _ t frozen => .cells (([128,191,160,191,128,159,144,191,128,143,0,0,0,0,0,0,0,0,0,0,0,0,0,0,0,0,0,0,0,0,0,0] : List Nat).map fun (n : Nat) => Value.int .u8 (n : Int)).toArray t frozen | o => o).modify 9 fun | .cells _ t frozen => .cells ((Go.Pinned.utf8FirstZ : List Nat).map fun (n : Nat) => Value.int .u8 (n : Int)).toArray t frozen | o => o).modify 7 fun | .cells _ t frozen => .cells #[.iface 153 (.agg #[.pointer (some ⟨17, 47, none⟩)])] t frozen | o => o } : World).forCall (fun _ _ => 0) ⟨#[], #[.agg #[.int .i64 0, .string ⟨#[]⟩, .string ⟨#[]⟩, .slice none 0 0, .string ⟨#[]⟩, .slice none 0 0]], []⟩).memory Tryz.f9.params.toList Rows.filtNamesSpec.vars false #[Value.agg #[.int .i64 0, .string ⟨#[]⟩, .string ⟨#[]⟩, .slice none 0 0, .string ⟨#[]⟩, .slice none 0 0]].toList 8 = some ([.agg [.lit (.int .i64 0), .lit (.string []), .lit (.string []), .nil, .lit (.string []), .nil]], [], places) :=
  ⟨[], by kernel_rfl⟩

set_option maxRecDepth 100000 in
theorem lifted (os : Os) (started : os.Started) (H : Type) (enc : TypeId × Value → H) (F : Stop.Interp) :
    ReturnsInHanded {} Tryz.checked os 9 .any ((OpenSpec.ofChange Rows.filtNamesSpec).preRow enc Tryz.prog Tryz.f9 Rows.filtNamesRow.domain false Rows.filtNamesRow.laid) (((OpenSpec.ofChange Rows.filtNamesSpec).at F).post enc Tryz.prog Tryz.f9 false true false false) := by
  obtain ⟨places, hx⟩ := reads os enc
  refine returnsInHanded_of_row (C := Tryz.checked) (s := OpenSpec.ofChange Rows.filtNamesSpec) own started (by kernel_rfl) Tryz.func9
    (witness_row_at (enc := enc) (C := Tryz.checked) false ({ World.holding Tryz.prog os ⟨#[.cells #[.string sentS0] 276, .cells #[.string sentS1] 276, .cells #[.string sentS2] 276, .cells #[.string sentS3] 276, .cells #[.string sentS4] 276, .cells #[.string sentS5] 276, .cells #[.string sentS6] 276, .cells #[.string sentS7] 276, .cells #[.string sentS8] 276, .cells #[.string sentS9] 276, .cells #[.string sentS10] 276, .cells #[.string sentS11] 276, .cells #[.string sentS12] 276], #[], []⟩ with heap := ((((((((((((((((World.holding Tryz.prog os ⟨#[.cells #[.string sentS0] 276, .cells #[.string sentS1] 276, .cells #[.string sentS2] 276, .cells #[.string sentS3] 276, .cells #[.string sentS4] 276, .cells #[.string sentS5] 276, .cells #[.string sentS6] 276, .cells #[.string sentS7] 276, .cells #[.string sentS8] 276, .cells #[.string sentS9] 276, .cells #[.string sentS10] 276, .cells #[.string sentS11] 276, .cells #[.string sentS12] 276], #[], []⟩).heap.modify 15 fun | .cells _ t frozen => .cells #[.iface 258 (.pointer (some ⟨(World.holding Tryz.prog default ⟨#[], #[], []⟩).heap.size + 0, 0, none⟩))] t frozen | o => o).modify 14 fun | .cells _ t frozen => .cells #[.iface 258 (.pointer (some ⟨(World.holding Tryz.prog default ⟨#[], #[], []⟩).heap.size + 1, 0, none⟩))] t frozen | o => o).modify 16 fun | .cells _ t frozen => .cells #[.iface 258 (.pointer (some ⟨(World.holding Tryz.prog default ⟨#[], #[], []⟩).heap.size + 2, 0, none⟩))] t frozen | o => o).modify 13 fun | .cells _ t frozen => .cells #[.iface 258 (.pointer (some ⟨(World.holding Tryz.prog default ⟨#[], #[], []⟩).heap.size + 3, 0, none⟩))] t frozen | o => o).modify 11 fun | .cells _ t frozen => .cells #[.iface 258 (.pointer (some ⟨(World.holding Tryz.prog default ⟨#[], #[], []⟩).heap.size + 4, 0, none⟩))] t frozen | o => o).modify 12 fun | .cells _ t frozen => .cells #[.iface 258 (.pointer (some ⟨(World.holding Tryz.prog default ⟨#[], #[], []⟩).heap.size + 5, 0, none⟩))] t frozen | o => o).modify 0 fun | .cells _ t frozen => .cells #[.iface 258 (.pointer (some ⟨(World.holding Tryz.prog default ⟨#[], #[], []⟩).heap.size + 6, 0, none⟩))] t frozen | o => o).modify 1 fun | .cells _ t frozen => .cells #[.iface 258 (.pointer (some ⟨(World.holding Tryz.prog default ⟨#[], #[], []⟩).heap.size + 7, 0, none⟩))] t frozen | o => o).modify 2 fun | .cells _ t frozen => .cells #[.iface 258 (.pointer (some ⟨(World.holding Tryz.prog default ⟨#[], #[], []⟩).heap.size + 8, 0, none⟩))] t frozen | o => o).modify 3 fun | .cells _ t frozen => .cells #[.iface 258 (.pointer (some ⟨(World.holding Tryz.prog default ⟨#[], #[], []⟩).heap.size + 9, 0, none⟩))] t frozen | o => o).modify 4 fun | .cells _ t frozen => .cells #[.iface 258 (.pointer (some ⟨(World.holding Tryz.prog default ⟨#[], #[], []⟩).heap.size + 10, 0, none⟩))] t frozen | o => o).modify 5 fun | .cells _ t frozen => .cells #[.iface 258 (.pointer (some ⟨(World.holding Tryz.prog default ⟨#[], #[], []⟩).heap.size + 11, 0, none⟩))] t frozen | o => o).modify 6 fun | .cells _ t frozen => .cells #[.iface 258 (.pointer (some ⟨(World.holding Tryz.prog default ⟨#[], #[], []⟩).heap.size + 12, 0, none⟩))] t frozen | o => o).modify 10 fun | .cells _ t frozen => .cells (([128,191,160,191,128,159,144,191,128,143,0,0,0,0,0,0,0,0,0,0,0,0,0,0,0,0,0,0,0,0,0,0] : List Nat).map fun (n : Nat) => Value.int .u8 (n : Int)).toArray t frozen | o => o).modify 9 fun | .cells _ t frozen => .cells ((Go.Pinned.utf8FirstZ : List Nat).map fun (n : Nat) => Value.int .u8 (n : Int)).toArray t frozen | o => o).modify 7 fun | .cells _ t frozen => .cells #[.iface 153 (.agg #[.pointer (some ⟨17, 47, none⟩)])] t frozen | o => o } : World) #[.agg #[.int .i64 0, .string ⟨#[]⟩, .string ⟨#[]⟩, .slice none 0 0, .string ⟨#[]⟩, .slice none 0 0]] rfl (by kernel_rfl) (by kernel_rfl) (by kernel_rfl)
      (OpenSpec.preRow_of_cond 8 hx (by kernel_rfl) (fun k hk => by cases hk) (by kernel_rfl) (laid_met os _))) ?_
  intro W base args ds gs before hval hW _ _ _ hL _ _
  exact contract H enc W base args ds gs before hval hW hL

theorem said : Rows.FiltNamesSaid :=
  OpenClaim.holds_of_cond 9 Tryz.f9 rfl rfl rfl rfl rfl rfl rfl ⟨rfl, rfl, rfl, rfl, rfl⟩ rfl rfl rfl rfl rfl (by kernel_rfl) Tryz.func9 (by kernel_rfl)
    (of_decide_eq_true (by kernel_rfl)) (by unfold Func.isWrapper; first | (rw [if_pos (by decide +kernel)]; kernel_rfl) | (rw [if_neg (by decide +kernel)]; exact ⟨rfl, rfl⟩))
    (fun os started H enc _ F => by rw [OpenClaim.pre_eq_preRow]; exact lifted os started H enc F)

theorem plain (f : FuncId) (fn : Func) (hf : Tryz.pinned.checked.prog.funcNamed "latiner/latinerlaw08.FiltNames" = some f) (hfn : Tryz.pinned.checked.prog.funcs[f]? = some fn) :
    true = Tryz.pinned.checked.prog.looks [] ∧ ∀ (j : Nat) t, fn.params[j]? = some t → Tryz.pinned.checked.prog.wantsStandIn t = false := by
  obtain rfl : f = 9 := Option.some.inj ((show Tryz.prog.funcNamed "latiner/latinerlaw08.FiltNames" = some 9 by kernel_rfl).symm.trans hf) |>.symm
  obtain rfl : fn = Tryz.f9 := (Option.some.inj (Tryz.func9.symm.trans hfn)).symm
  refine ⟨by kernel_rfl, fun j t ht => ?_⟩
  rw [Tryz.params9] at ht
  have hm : t = 25 := by have := Array.mem_of_getElem? ht; simp at this; first | exact this | omega | (rcases this with h | h | h <;> simp [h]) | (rcases this with h | h | h | h <;> simp [h])
  subst hm
  exact (show Tryz.prog.wantsStandIn 25 = false by kernel_rfl)

/-- The card. -/
theorem card : Rows.FiltNamesCardSaid :=
  Claim7.holds_tied_plain_at .later [] _ _ _ _ said (fun _ h => by cases h) (by kernel_rfl) (fun _ h => by cases h) filtNames_row_tie rfl ⟨rfl, rfl⟩ (by kernel_rfl) rfl plain (by kernel_rfl)
end Go.Proofs.YtmjfkdpaeenfgaaGreatDoor.F.Names

namespace Go.Proofs.YtmjfkdpaeenfgaaGreatDoor
theorem filtNames_holds : Rows.FiltNamesCardSaid := F.Names.card
#print axioms filtNames_holds
end Go.Proofs.YtmjfkdpaeenfgaaGreatDoor
