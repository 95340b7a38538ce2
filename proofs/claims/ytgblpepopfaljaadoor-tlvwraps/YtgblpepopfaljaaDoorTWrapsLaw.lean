/-
  latinerlaw02.TlvWraps returns true at every tree: a tree in a tree of tag 48 has its bytes behind the tag and the length. Conditions: the package-level variables hold what the program's text lays (the card ties them).
-/
import Derived.Test.YtgblpepopfaljaaDoorTvBack
import Derived.Test.YtgblpepopfaljaaDoorTOpen
import Derived.Test.YtgblpepopfaljaaDoorTLaid
namespace Tv
theorem shape_mono : ∀ (n k : Nat) (X : Tr n), shape n k X = true → shape n (k + 1) X = true
  | 0, _, X, _ => Empty.elim X
  | n + 1, k, X, h => by
    obtain ⟨h1, h2, h3⟩ := shape_succ h
    unfold shape
    simp only [Bool.and_eq_true, decide_eq_true_eq, List.all_eq_true]
    refine ⟨⟨by omega, h2⟩, fun x hx => ?_⟩
    have := shape_mono n (k - 1) x (h3 x hx)
    rwa [show k - 1 + 1 = k + 1 - 1 by omega] at this
/-- a tree around a tree. -/
def wrap (X : Tr 13) : Tr 14 := mk 48 ⟨#[]⟩ [X]
theorem wrap_enc (X : Tr 13) : enc 14 (wrap X) = 48 :: (Sz.least (enc 13 X).length ++ enc 13 X) := by
  have : body (wrap X) = enc 13 X := by unfold body wrap; simp
  show enc (13 + 1) (wrap X) = _
  rw [enc_succ, this]
  rfl
theorem wrap_right {X : Tr 13} (h : right (wrap X) = true) : right X = true := by
  obtain ⟨h1, h2, h3⟩ := right_iff.1 h
  have hs : shape 13 11 X = true := (shape_succ h1).2.2 X (by simp [wrap])
  have hc : count 14 (wrap X) = 1 + count 13 X := by show 1 + ((kids (wrap X)).map (count 13)).sum = _; simp [wrap]
  rw [wrap_enc] at h3
  simp only [List.length_cons, List.length_append] at h3
  exact right_iff.2 ⟨shape_mono 13 11 X hs, by omega, by omega⟩
end Tv
namespace Go.Proofs.YtgblpepopfaljaaDoor.twraps
open Go.ChangeShapes Go.WideShapes Go.ChangeAt Go.ChangeMaps Go.RowKit Tv T Go.Shelf

theorem wrap_node (V : World) (b : Nat) (p : Nat → Prop) (X : Tr 13) (vt : Int) (vd : ByteArray) (va : Option Addr) (vl vc : Nat) (h : V.heap[b]? = some (.cells #[.int .i64 vt, .string vd, .slice va vl vc] 24 (0, 0))) (hN : Node 13 V p (.agg #[.int .i64 vt, .string vd, .slice va vl vc]) X) :
    Node 14 V (fun _ => True) (.agg #[.int .i64 48, .string ⟨#[]⟩, .slice (some ⟨b, 0, none⟩) 1 1]) (wrap X) := by
  obtain ⟨⟨c0, c1, c2⟩, _⟩ := cells3 h
  refine ⟨_, 1, rfl, Nat.zero_le _, by simp [wrap], .inr ⟨b, 0, rfl, trivial, fun i x hx => ?_⟩⟩
  match i, hx with
  | 0, hx =>
    obtain rfl := Option.some.inj hx
    exact ⟨_, _, _, c0, c1, c2, hN.imp fun _ _ _ => trivial⟩

theorem tail_ext (m ea : List UInt8) : ((ByteArray.extract ⟨(48 :: (m ++ ea)).toArray⟩ (1 + m.length) (m.length + ea.length + 1)).toList == ea) = true := by
  rw [beq_iff_eq, ByteArray.toList_eq, ByteArray.data_extract, Array.toList_extract]
  show ((48 :: (m ++ ea)).drop (1 + m.length)).take (m.length + ea.length + 1 - (1 + m.length)) = ea
  rw [Nat.add_comm 1 m.length, List.drop_succ_cons, List.drop_left, List.take_of_length_le (by omega)]

set_option maxRecDepth 100000 in
set_option maxHeartbeats 2000000 in
theorem walk (v : Value) (X : Tr 13) (A : Ads) (aS aF : Addr) (w : World) (g : Gl A aS aF w) (hC : CutOf 13 w v X) :
    Calls Tryd.prog 10 #[v] w fun e w' => e = .returned (.bool true) ∧ Below w.heap.size w w' := by
  have G := hide fun w' (h : Below w.heap.size w w') => g.below h
  have HC := hide fun w' (h : Below w.heap.size w w') => hC.below h
  obtain ⟨d, a, len, cap, rfl, _, _, _, _, _⟩ := hC
  clear g
  go_enter Tryd.func10, Tryd.ntmps10
  go_wp2_with fail
  have hb0 : Below w.heap.size w (w.alloc (.cells #[.int .i64 (tag X), .string d, .slice a len cap] 24)) := (Below.refl _ _).alloc (Nat.le_refl _) _
  have hq0 := World.alloc_heap_new w (.cells #[.int .i64 (tag X), .string d, .slice a len cap] 24)
  refine (shown_any A aS aF _ ((unhide G) _ hb0)).mono ?_
  rintro e w1 ⟨rfl, hb1⟩
  have hB1 := hb0.trans (hb1.mono hb0.size)
  have hq1 := (hb1.block w.heap.size (by simp)).trans hq0
  obtain ⟨⟨e0, e1, e2⟩, _⟩ := cells3 hq1
  have HB1 := hide hB1
  have HQ1 := hide hq1
  clear hb0 hb1 hq0 hB1 hq1
  go_wp2_with fail
  refine (Cut_any X w1 _ ((unhide HC) _ (unhide HB1))).mono ?_
  rintro e w2 ⟨hb2, v2, rfl, hN2⟩
  obtain ⟨vt, vd, va, vl, vc, rfl⟩ := hN2.agg
  have hlt1 := (Array.getElem?_eq_some_iff.1 (unhide HQ1)).1
  have hq2 := (hb2.block w.heap.size hlt1).trans (unhide HQ1)
  obtain ⟨⟨f0, f1, f2⟩, r0, r1, r2⟩ := cells3 hq2
  have HB2 := hide ((unhide HB1).trans (hb2.mono (unhide HB1).size))
  have HQ2 := hide hq2
  have HN2 := hide hN2
  have hlt2 : w.heap.size < w2.heap.size := Nat.lt_of_lt_of_le hlt1 hb2.size
  clear hb2 hq2 hN2 e0 e1 e2
  go_wp2_with fail
  have hbS := set3n (unhide HB2) (Nat.le_refl w.heap.size) (.int .i64 vt) (.string vd) (.slice va vl vc)
  have hNS := set3_node (unhide HN2) (b := w.heap.size) (by omega) (.int .i64 vt) (.string vd) (.slice va vl vc)
  have hzS : (((w2.setCell ⟨w.heap.size, 0, none⟩ (.int .i64 vt)).setCell ⟨w.heap.size, 1, none⟩ (.string vd)).setCell ⟨w.heap.size, 2, none⟩ (.slice va vl vc)).heap.size = w2.heap.size := by rw [size_setCell, size_setCell, size_setCell]
  rw [← hzS]
  generalize ((w2.setCell ⟨w.heap.size, 0, none⟩ (.int .i64 vt)).setCell ⟨w.heap.size, 1, none⟩ (.string vd)).setCell ⟨w.heap.size, 2, none⟩ (.slice va vl vc) = wS at *
  have hV := (hbS.alloc (o := .cells #[.int .i64 vt, .string vd, .slice va vl vc] 24) hbS.size)
  have hV2 := hV.alloc (o := .cells #[.int .i64 48, .string ⟨#[]⟩, .slice (some ⟨wS.heap.size, 0, none⟩) 1 1] 24) hV.size
  have hN3 := hNS.below (((Below.refl wS.heap.size wS).alloc (Nat.le_refl _) (.cells #[.int .i64 vt, .string vd, .slice va vl vc] 24)).alloc (by simp) (.cells #[.int .i64 48, .string ⟨#[]⟩, .slice (some ⟨wS.heap.size, 0, none⟩) 1 1] 24))
  have hk3 : ((wS.alloc (.cells #[.int .i64 vt, .string vd, .slice va vl vc] 24)).alloc (.cells #[.int .i64 48, .string ⟨#[]⟩, .slice (some ⟨wS.heap.size, 0, none⟩) 1 1] 24)).heap[wS.heap.size]? = some (.cells #[.int .i64 vt, .string vd, .slice va vl vc] 24 (0, 0)) := (Below.heap_alloc _ _ _ (by simp)).trans (World.alloc_heap_new wS _)
  have hy3 : ((wS.alloc (.cells #[.int .i64 vt, .string vd, .slice va vl vc] 24)).alloc (.cells #[.int .i64 48, .string ⟨#[]⟩, .slice (some ⟨wS.heap.size, 0, none⟩) 1 1] 24)).heap[wS.heap.size + 1]? = some (.cells #[.int .i64 48, .string ⟨#[]⟩, .slice (some ⟨wS.heap.size, 0, none⟩) 1 1] 24 (0, 0)) := by
    have := World.alloc_heap_new (wS.alloc (.cells #[.int .i64 vt, .string vd, .slice va vl vc] 24)) (.cells #[.int .i64 48, .string ⟨#[]⟩, .slice (some ⟨wS.heap.size, 0, none⟩) 1 1] 24)
    rwa [World.size_alloc] at this
  clear hzS HB2 HN2 HQ2 HB1 HQ1 HC hbS hNS hV f0 f1 f2 r0 r1 r2 hlt1
  generalize (wS.alloc (.cells #[.int .i64 vt, .string vd, .slice va vl vc] 24)).alloc (.cells #[.int .i64 48, .string ⟨#[]⟩, .slice (some ⟨wS.heap.size, 0, none⟩) 1 1] 24) = V3 at *
  have hE := encode_any 13 X A aS aF V3 _ _ ((unhide G) _ hV2) hN3 (by omega)
  refine hE.mono ?_
  rintro e V4 ⟨rfl, hb4⟩
  have hB4 := hV2.trans (hb4.mono hV2.size)
  have hN4 := hN3.below hb4
  have hk4 := (hb4.block _ (Array.getElem?_eq_some_iff.1 hk3).1).trans hk3
  have hy4 := (hb4.block _ (Array.getElem?_eq_some_iff.1 hy3).1).trans hy3
  have hY4 := wrap_node V4 _ _ X vt vd va vl vc hk4 hN4
  obtain ⟨⟨y0, y1, y2⟩, _⟩ := cells3 hy4
  have HB4 := hide hB4
  have HY4 := hide hY4
  have HQ4 := hide hy4
  clear hE hb4 hV2 hN3 hN4 hk3 hk4 hy3 hB4 hY4 hy4
  have hEY := encode_any 14 (wrap X) A aS aF V4 _ _ ((unhide G) _ (unhide HB4)) (unhide HY4) (by omega)
  have HEY := hide hEY
  clear hEY
  cases hrY : right (wrap X)
  · have eY : encT (wrap X) = .tuple #[.string ⟨#[]⟩, .int .i64 21] := by unfold encT; rw [hrY]; rfl
    rw [eY] at HEY
    have HrY := hide hrY
    clear eY hrY
    cases hrX : right X
    · rw [show encT X = .tuple #[.string ⟨#[]⟩, .int .i64 21] by unfold encT; rw [hrX]; rfl]
      clear hrX
      go_wp2_with fail
      refine (unhide HEY).mono ?_
      rintro e V5 ⟨rfl, hb5⟩
      have HB5 := hide ((unhide HB4).trans (hb5.mono (unhide HB4).size))
      clear hb5
      go_wp2
      go_ret
      exact ⟨rfl, unhide HB5⟩
    · rw [show encT X = .tuple #[txt (enc 13 X), .int .i64 0] by unfold encT; rw [if_pos hrX]]
      clear hrX
      by_cases h39 : (3900 : Int) < (enc 13 X).length
      · go_wp2_with fail
        refine (unhide HEY).mono ?_
        rintro e V5 ⟨rfl, hb5⟩
        have HB5 := hide ((unhide HB4).trans (hb5.mono (unhide HB4).size))
        clear hb5
        go_wp2
        go_ret
        exact ⟨rfl, unhide HB5⟩
      · go_wp2_with fail
        refine (unhide HEY).mono ?_
        rintro e V5 ⟨rfl, hb5⟩
        have HB5 := hide ((unhide HB4).trans (hb5.mono (unhide HB4).size))
        have hY5 := (unhide HY4).below hb5
        obtain ⟨⟨z0, z1, z2⟩, _⟩ := cells3 ((hb5.block _ (Array.getElem?_eq_some_iff.1 (unhide HQ4)).1).trans (unhide HQ4))
        have hRt := right_any 14 (wrap X) A aS aF V5 _ _ ((unhide G) _ (unhide HB5)) hY5 (by omega)
        rw [unhide HrY] at hRt
        have HRt := hide hRt
        clear hb5 hRt hY5
        go_wp2_with fail
        refine (unhide HRt).mono ?_
        rintro e V6 ⟨rfl, hb6⟩
        have HB6 := hide ((unhide HB5).trans (hb6.mono (unhide HB5).size))
        clear hb6
        go_wp2
        go_ret
        exact ⟨rfl, unhide HB6⟩
  · have hrX := wrap_right hrY
    have hl4 := (right_iff.1 hrX).2.2
    rw [show encT X = .tuple #[txt (enc 13 X), .int .i64 0] by unfold encT; rw [if_pos hrX]]
    have eY : encT (wrap X) = .tuple #[txt (48 :: (Sz.least (enc 13 X).length ++ enc 13 X)), .int .i64 0] := by unfold encT; rw [if_pos hrY, wrap_enc]
    rw [eY] at HEY
    clear eY hrY hrX
    have hSz := hide fun V => size_nat (enc 13 X).length V (by omega)
    have hl5 := least_len (enc 13 X).length
    have hl4' : (((enc 13 X).length : Nat) : Int) ≤ 4000 := by omega
    have hl5' : (((Sz.least (enc 13 X).length).length : Nat) : Int) ≤ 5 := by omega
    generalize enc 13 X = ea at *
    go_wp2_with fail
    refine (unhide HEY).mono ?_
    rintro e V5 ⟨rfl, hb5⟩
    have HB5 := hide ((unhide HB4).trans (hb5.mono (unhide HB4).size))
    clear hb5 HEY
    go_wp2_with fail
    refine ((unhide hSz) V5).mono ?_
    rintro e V6 ⟨rfl, hb6⟩
    have HB6 := hide ((unhide HB5).trans (hb6.mono (unhide HB5).size))
    clear hb6 hSz
    go_wp2
    go_ret
    exact ⟨congrArg (fun b => Ending.returned (.bool b)) (tail_ext _ ea), unhide HB6⟩

set_option maxRecDepth 100000 in
/-- What the walk gives, for every argument. -/
theorem contract (H : Type) (enc : TypeId × Value → H) (W : World) (base : Nat) (args : Array Value) (ds gs : List (DataW H)) (before : List MemPlace)
    (hval : ∀ (j : Nat) t v, Tryd.f10.params[j]? = some t → args[j]? = some v → Value.okWide Tryd.prog W .any base t v)
    (hW : DataW.Whole enc Tryd.prog Tryd.f10.params.toList Rows.tlvWrapsSpec.vars false W args.toList ds gs before) (hL : laidMetH Tryd.prog Rows.tlvWrapsRow.laid W) :
    Calls Tryd.prog 10 args W fun e W' => ∃ v, e = .returned v ∧ Rows.tlvWrapsSpec.post enc Tryd.prog Tryd.f10 false true false false W args v W' := by
  obtain ⟨A, aS, aF, g⟩ := glob_of_laid hL
  have hW' := hW
  obtain ⟨p, q, hA0, hV, rfl, hfz, hnd⟩ := hW
  have hA : DataW.TrodAll enc Tryd.prog W 0 (fun _ => true) true Tryd.f10.params.toList args.toList ds p := hA0
  rw [Tryd.params10] at hA hval
  obtain ⟨v0, vs0, d0, ds0, p0, q0, hargs0, rfl, rfl, h0, r0⟩ := trodAll_cons hA
  obtain ⟨rfl, rfl, rfl⟩ := trodAll_nil r0
  obtain rfl : args = #[v0] := by cases args; simp_all
  obtain ⟨rfl, rfl⟩ := trodVars_none hV
  obtain ⟨cs0, rfl, _⟩ := okWide_struct Tryd.underlying24 (hval 0 24 v0 rfl rfl)
  have hk0 := h0
  obtain ⟨fu0, hf0⟩ := h0
  obtain ⟨t0, b0, a0, l0, c0, ec0, T0, hC0⟩ := open_cut 12 fu0 _ _ hf0
  have hlt0 := DataW.trod_lt _ _ _ _ hf0
  obtain rfl : cs0 = #[.int .i64 t0, .string b0, .slice a0 l0 c0] := Array.ext' ec0
  clear hA0
  simp only [List.append_nil] at hW'
  refine (walk _ T0 A aS aF W g hC0).mono fun e W' ⟨he, hg⟩ => ?_
  subst he
  refine ⟨_, rfl, _, _, _, [], (p0 ++ []), [], hW', ?_, ?_, ?_, hg.frame _, fun h => by cases h⟩
  · exact trodAll_cons_mk (shut_bool Tryd.underlying4 _) trodAll_mk0
  · exact trodAll_cons_mk (Below.trod (by kernel_rfl) (by kernel_rfl) (of_decide_eq_true (by kernel_rfl)) hk0 hg hlt0) (trodAll_mk0)
  · rfl

theorem reads (os : Os) {H : Type} (enc : TypeId × Value → H) : ∃ places, DataW.whole enc Tryd.prog (({ World.holding Tryd.prog os ⟨#[.cells #[.string sentS0] 177, .cells #[.string sentS1] 177, .cells #[.string sentS2] 177, .cells #[.string sentS3] 177, .cells #[.string sentS4] 177, .cells #[.string sentS5] 177, .cells #[.string sentS6] 177, .cells #[.string sentS7] 177], #[], []⟩ with heap := (((((((((World.holding Tryd.prog os ⟨#[.cells #[.string sentS0] 177, .cells #[.string sentS1] 177, .cells #[.string sentS2] 177, .cells #[.string sentS3] 177, .cells #[.string sentS4] 177, .cells #[.string sentS5] 177, .cells #[.string sentS6] 177, .cells #[.string sentS7] 177], #[], []⟩).heap.modify 9 fun | .cells _ t frozen => .cells #[.iface 158 (.pointer (some ⟨(World.holding Tryd.prog default ⟨#[], #[], []⟩).heap.size + 0, 0, none⟩))] t frozen | o => o).modify 6 fun | .cells _ t frozen => .cells #[.iface 158 (.pointer (some ⟨(World.holding Tryd.prog default ⟨#[], #[], []⟩).heap.size + 1, 0, none⟩))] t frozen | o => o).modify 4 fun | .cells _ t frozen => .cells #[.iface 158 (.pointer (some ⟨(World.holding Tryd.prog default ⟨#[], #[], []⟩).heap.size + 2, 0, none⟩))] t frozen | o => o).modify 5 fun | .cells _ t frozen => .cells #[.iface 158 (.pointer (some ⟨(World.holding Tryd.prog default ⟨#[], #[], []⟩).heap.size + 3, 0, none⟩))] t frozen | o => o).modify 0 fun | .cells _ t frozen => .cells #[.iface 158 (.pointer (some ⟨(World.holding Tryd.prog default ⟨#[], #[], []⟩).heap.size + 4, 0, none⟩))] t frozen | o => o).modify 1 fun | .cells _ t frozen => .cells #[.iface 158 (.pointer (some ⟨(World.holding Tryd.prog default ⟨#[], #[], []⟩).heap.size + 5, 0, none⟩))] t frozen | o => o).modify 2 fun | .cells _ t frozen => .cells #[.iface 158 (.pointer (some ⟨(World.holding Tryd.prog default ⟨#[], #[], []⟩).heap.size + 6, 0, none⟩))] t frozen | o => o).modify 3 fun | .cells _ t frozen => .cells #[.iface 158 (.pointer (some ⟨(World.holding Tryd.prog default ⟨#[], #[], []⟩).heap.size + 7, 0, none⟩))] t frozen | o => o).modify 7 fun | .cells _ t frozen => .cells #[.iface 115 (.agg #[.pointer (some ⟨10, 48, none⟩)])] t frozen | o => o } : World).forCall (fun _ _ => 0) ⟨#[], #[.agg #[.int .i64 0, .string ⟨#[]⟩, .slice none 0 0]], []⟩).memory Tryd.f10.params.toList Rows.tlvWrapsSpec.vars false #[Value.agg #[.int .i64 0, .string ⟨#[]⟩, .slice none 0 0]].toList 8 = some ([.agg [.lit (.int .i64 0), .lit (.string []), .nil]], [], places) :=
  ⟨[], by kernel_rfl⟩

set_option maxRecDepth 100000 in
theorem lifted (os : Os) (started : os.Started) (H : Type) (enc : TypeId × Value → H) (F : Stop.Interp) :
    ReturnsInHanded {} Tryd.checked os 10 .any ((OpenSpec.ofChange Rows.tlvWrapsSpec).preRow enc Tryd.prog Tryd.f10 Rows.tlvWrapsRow.domain false Rows.tlvWrapsRow.laid) (((OpenSpec.ofChange Rows.tlvWrapsSpec).at F).post enc Tryd.prog Tryd.f10 false true false false) := by
  obtain ⟨places, hx⟩ := reads os enc
  refine returnsInHanded_of_row (C := Tryd.checked) (s := OpenSpec.ofChange Rows.tlvWrapsSpec) own started (by kernel_rfl) Tryd.func10
    (witness_row_at (enc := enc) (C := Tryd.checked) false ({ World.holding Tryd.prog os ⟨#[.cells #[.string sentS0] 177, .cells #[.string sentS1] 177, .cells #[.string sentS2] 177, .cells #[.string sentS3] 177, .cells #[.string sentS4] 177, .cells #[.string sentS5] 177, .cells #[.string sentS6] 177, .cells #[.string sentS7] 177], #[], []⟩ with heap := (((((((((World.holding Tryd.prog os ⟨#[.cells #[.string sentS0] 177, .cells #[.string sentS1] 177, .cells #[.string sentS2] 177, .cells #[.string sentS3] 177, .cells #[.string sentS4] 177, .cells #[.string sentS5] 177, .cells #[.string sentS6] 177, .cells #[.string sentS7] 177], #[], []⟩).heap.modify 9 fun | .cells _ t frozen => .cells #[.iface 158 (.pointer (some ⟨(World.holding Tryd.prog default ⟨#[], #[], []⟩).heap.size + 0, 0, none⟩))] t frozen | o => o).modify 6 fun | .cells _ t frozen => .cells #[.iface 158 (.pointer (some ⟨(World.holding Tryd.prog default ⟨#[], #[], []⟩).heap.size + 1, 0, none⟩))] t frozen | o => o).modify 4 fun | .cells _ t frozen => .cells #[.iface 158 (.pointer (some ⟨(World.holding Tryd.prog default ⟨#[], #[], []⟩).heap.size + 2, 0, none⟩))] t frozen | o => o).modify 5 fun | .cells _ t frozen => .cells #[.iface 158 (.pointer (some ⟨(World.holding Tryd.prog default ⟨#[], #[], []⟩).heap.size + 3, 0, none⟩))] t frozen | o => o).modify 0 fun | .cells _ t frozen => .cells #[.iface 158 (.pointer (some ⟨(World.holding Tryd.prog default ⟨#[], #[], []⟩).heap.size + 4, 0, none⟩))] t frozen | o => o).modify 1 fun | .cells _ t frozen => .cells #[.iface 158 (.pointer (some ⟨(World.holding Tryd.prog default ⟨#[], #[], []⟩).heap.size + 5, 0, none⟩))] t frozen | o => o).modify 2 fun | .cells _ t frozen => .cells #[.iface 158 (.pointer (some ⟨(World.holding Tryd.prog default ⟨#[], #[], []⟩).heap.size + 6, 0, none⟩))] t frozen | o => o).modify 3 fun | .cells _ t frozen => .cells #[.iface 158 (.pointer (some ⟨(World.holding Tryd.prog default ⟨#[], #[], []⟩).heap.size + 7, 0, none⟩))] t frozen | o => o).modify 7 fun | .cells _ t frozen => .cells #[.iface 115 (.agg #[.pointer (some ⟨10, 48, none⟩)])] t frozen | o => o } : World) #[.agg #[.int .i64 0, .string ⟨#[]⟩, .slice none 0 0]] rfl (by kernel_rfl) (by kernel_rfl) (by kernel_rfl)
      (OpenSpec.preRow_of_cond 8 hx (by kernel_rfl) (fun k hk => by cases hk) (by kernel_rfl) (laid_met os _))) ?_
  intro W base args ds gs before hval hW _ _ _ hL _ _
  exact contract H enc W base args ds gs before hval hW hL

theorem said : Rows.TlvWrapsSaid :=
  OpenClaim.holds_of_cond 10 Tryd.f10 rfl rfl rfl rfl rfl rfl rfl ⟨rfl, rfl, rfl, rfl, rfl⟩ rfl rfl rfl rfl rfl (by kernel_rfl) Tryd.func10 (by kernel_rfl)
    (of_decide_eq_true (by kernel_rfl)) (by unfold Func.isWrapper; first | (rw [if_pos (by decide +kernel)]; kernel_rfl) | (rw [if_neg (by decide +kernel)]; exact ⟨rfl, rfl⟩))
    (fun os started H enc _ F => by rw [OpenClaim.pre_eq_preRow]; exact lifted os started H enc F)

theorem plain (f : FuncId) (fn : Func) (hf : Tryd.pinned.checked.prog.funcNamed "latiner/latinerlaw02.TlvWraps" = some f) (hfn : Tryd.pinned.checked.prog.funcs[f]? = some fn) :
    true = Tryd.pinned.checked.prog.looks [] ∧ ∀ (j : Nat) t, fn.params[j]? = some t → Tryd.pinned.checked.prog.wantsStandIn t = false := by
  obtain rfl : f = 10 := Option.some.inj ((show Tryd.prog.funcNamed "latiner/latinerlaw02.TlvWraps" = some 10 by kernel_rfl).symm.trans hf) |>.symm
  obtain rfl : fn = Tryd.f10 := (Option.some.inj (Tryd.func10.symm.trans hfn)).symm
  refine ⟨by kernel_rfl, fun j t ht => ?_⟩
  rw [Tryd.params10] at ht
  have hm : t = 24 := by have := Array.mem_of_getElem? ht; simp at this; first | exact this | omega | (rcases this with h | h | h <;> simp [h]) | (rcases this with h | h | h | h <;> simp [h])
  subst hm
  exact (show Tryd.prog.wantsStandIn 24 = false by kernel_rfl)

/-- The card. -/
theorem card : Rows.TlvWrapsCardSaid :=
  Claim7.holds_tied_plain_at .later [] _ _ _ _ said (fun _ h => by cases h) (by kernel_rfl) (fun _ h => by cases h) tlvWraps_row_tie rfl ⟨rfl, rfl⟩ (by kernel_rfl) rfl plain (by kernel_rfl)
end Go.Proofs.YtgblpepopfaljaaDoor.twraps

namespace Go.Proofs.YtgblpepopfaljaaDoor
theorem tlvWraps_holds : Rows.TlvWrapsCardSaid := twraps.card
#print axioms tlvWraps_holds
end Go.Proofs.YtgblpepopfaljaaDoor
