/-
  latinerlaw02.TlvCuts returns true at every tree and place: a beginning of a tree's bytes that is not all of them is too short. Conditions: the package-level variables hold what the program's text lays (the card ties them).
-/
import Derived.Test.YthibodkemnkjeaaDoorTBox
import Derived.Test.YthibodkemnkjeaaDoorTLaid
namespace Go.Proofs.YthibodkemnkjeaaDoor.tcuts
open Go.ChangeShapes Go.WideShapes Go.ChangeAt Go.ChangeMaps Go.RowKit Tv T Go.Shelf

set_option maxRecDepth 100000 in
set_option maxHeartbeats 2000000 in
theorem walk (v : Value) (X : Tr 13) (at_ : Int) (A : Ads) (aS aF : Addr) (w : World) (g : Gl A aS aF w) (hC : CutOf 13 w v X) :
    Calls Tryd.prog 7 #[v, .int .i64 at_] w fun e w' => e = .returned (.bool true) ∧ Below w.heap.size w w' := by
  have G := hide fun w' (h : Below w.heap.size w w') => g.below h
  have HC := hide fun w' (h : Below w.heap.size w w') => hC.below h
  obtain ⟨d, a, len, cap, rfl, _, _, _, _, _⟩ := hC
  clear g
  go_enter Tryd.func7, Tryd.ntmps7
  go_wp2_with fail
  have hb0 : Below w.heap.size w (w.alloc (.cells #[.int .i64 (tag X), .string d, .slice a len cap] 24)) := (Below.refl _ _).alloc (Nat.le_refl _) _
  have hq0 := World.alloc_heap_new w (.cells #[.int .i64 (tag X), .string d, .slice a len cap] 24)
  refine (shown_any A aS aF _ ((unhide G) _ hb0)).mono ?_
  rintro e w1 ⟨rfl, hb1⟩
  have hB1 := hb0.trans (hb1.mono hb0.size)
  have hq1 := (hb1.block w.heap.size (by simp)).trans hq0
  obtain ⟨⟨e0, e1, e2⟩, _⟩ := cells3 hq1
  have HB1 := hide hB1
  have HQ1 := hide hq1
  clear hb0 hb1 hq0 hB1 hq1
  go_wp2_with fail
  refine (Cut_any X w1 _ ((unhide HC) _ (unhide HB1))).mono ?_
  rintro e w2 ⟨hb2, v2, rfl, hN2⟩
  obtain ⟨vt, vd, va, vl, vc, rfl⟩ := hN2.agg
  have hlt1 := (Array.getElem?_eq_some_iff.1 (unhide HQ1)).1
  have hq2 := (hb2.block w.heap.size hlt1).trans (unhide HQ1)
  obtain ⟨⟨f0, f1, f2⟩, r0, r1, r2⟩ := cells3 hq2
  have HB2 := hide ((unhide HB1).trans (hb2.mono (unhide HB1).size))
  have hXS := BX.mk' (B := w.heap.size + 1) (A := #[.int .i64 (tag X), .string d, .slice a len cap]) hq2 hN2 (fun k hk => by omega) (by omega)
  have HXS := hide hXS
  clear hb2 hq2 hN2 e0 e1 e2 hXS
  go_wp2_with fail
  have hbS := set3n (unhide HB2) (Nat.le_refl w.heap.size) (.int .i64 vt) (.string vd) (.slice va vl vc)
  have hXS := unhide HXS
  clear HXS HB2 HB1 HQ1 HC f0 f1 f2 r0 r1 r2 hlt1
  generalize ((w2.setCell ⟨w.heap.size, 0, none⟩ (.int .i64 vt)).setCell ⟨w.heap.size, 1, none⟩ (.string vd)).setCell ⟨w.heap.size, 2, none⟩ (.slice va vl vc) = wS at *
  refine (encode_any 13 X A aS aF wS _ _ ((unhide G) _ hbS) hXS.n (by omega)).mono ?_
  rintro e w3 ⟨rfl, hb3⟩
  have HB3 := hide (hbS.trans (hb3.mono hbS.size))
  clear hXS hb3 hbS
  cases hr : right X
  · rw [encT_no hr]
    clear hr
    go_wp2
    go_ret
    exact ⟨rfl, unhide HB3⟩
  · rw [encT_yes hr]
    have hl4 := (right_iff.1 hr).2.2
    have hdc := fun k hk => dec_cut X hr k hk
    have hwm := whole_more X hr 97 []
    generalize enc 13 X = ea at *
    have hS : ((⟨ea.toArray⟩ : ByteArray).size : Int) ≤ 4000 := by show ((ea.toArray.size : Nat) : Int) ≤ 4000; simp; omega
    have hE : (⟨ea.toArray⟩ : ByteArray).data.toList = ea := by simp
    have hZ : (⟨ea.toArray⟩ : ByteArray).size = ea.length := by show ea.toArray.size = _; simp
    generalize (⟨ea.toArray⟩ : ByteArray) = S at *
    by_cases h0 : at_ < 0
    · go_wp2
      go_ret
      exact ⟨rfl, unhide HB3⟩
    · by_cases h1 : (S.size : Int) ≤ at_
      · have d0 : decide (at_ < 0) = false := decide_eq_false h0
        go_wp2
        go_ret
        exact ⟨rfl, unhide HB3⟩
      · obtain ⟨k, rfl⟩ := Int.eq_ofNat_of_zero_le (Int.not_lt.1 h0)
        have hk : k < ea.length := by omega
        have hD : decT (S.extract 0 k).data.toList 0 = .error 10 := by
          rw [ByteArray.data_extract, Array.toList_extract, hE]
          exact hdc k hk
        have hW : wholeT (S ++ (⟨#[97]⟩ : ByteArray)).data.toList = .error 11 := by
          rw [ByteArray.data_append, Array.toList_append, hE]
          exact hwm
        have z1 : (S.extract 0 k).size ≤ 9000 := by rw [ByteArray.size_extract]; omega
        have z2 : (S ++ (⟨#[97]⟩ : ByteArray)).size ≤ 9000 := by rw [ByteArray.size_append]; show S.size + 1 ≤ 9000; omega
        have H1 := hide fun V (hb : Below w.heap.size w V) => decodeT_any (S.extract 0 k) 0 A aS aF V ((unhide G) _ hb) z1
        have H2 := hide fun V (hb : Below w.heap.size w V) => whole_any (S ++ (⟨#[97]⟩ : ByteArray)) A aS aF V ((unhide G) _ hb) z2
        rw [hD] at H1
        rw [hW] at H2
        have k1 : (k : Int) < S.size := by omega
        have k0 : ¬ (k : Int) < 0 := by omega
        clear hdc hwm hD hW z1 z2 hE hZ h0 h1 hk hl4
        go_wp2_with fail
        refine ((unhide H1) _ (unhide HB3)).mono ?_
        rintro e w4 ⟨hb4, rfl⟩
        have HB4 := hide ((unhide HB3).trans (hb4.mono (unhide HB3).size))
        clear hb4
        go_wp2_with fail
        have HB4' := hide ((unhide HB4).alloc (unhide HB4).size (.cells #[.int .i64 0, .string ⟨#[]⟩, .slice none 0 0] 24))
        refine ((unhide H2) _ (unhide HB4')).mono ?_
        rintro e w5 ⟨hb5, rfl⟩
        have HB5 := hide ((unhide HB4').trans (hb5.mono (unhide HB4').size))
        clear hb5
        go_wp2
        go_ret
        exact ⟨rfl, (unhide HB5).alloc (unhide HB5).size _⟩

set_option maxRecDepth 100000 in
/-- What the walk gives, for every argument. -/
theorem contract (H : Type) (enc : TypeId × Value → H) (W : World) (base : Nat) (args : Array Value) (ds gs : List (DataW H)) (before : List MemPlace)
    (hval : ∀ (j : Nat) t v, Tryd.f7.params[j]? = some t → args[j]? = some v → Value.okWide Tryd.prog W .any base t v)
    (hW : DataW.Whole enc Tryd.prog Tryd.f7.params.toList Rows.tlvCutsSpec.vars false W args.toList ds gs before) (hL : laidMetH Tryd.prog Rows.tlvCutsRow.laid W) :
    Calls Tryd.prog 7 args W fun e W' => ∃ v, e = .returned v ∧ Rows.tlvCutsSpec.post enc Tryd.prog Tryd.f7 false true false false W args v W' := by
  obtain ⟨A, aS, aF, g⟩ := glob_of_laid hL
  have hW' := hW
  obtain ⟨p, q, hA0, hV, rfl, hfz, hnd⟩ := hW
  have hA : DataW.TrodAll enc Tryd.prog W 0 (fun _ => true) true Tryd.f7.params.toList args.toList ds p := hA0
  rw [Tryd.params7] at hA hval
  obtain ⟨v0, vs0, d0, ds0, p0, q0, hargs0, rfl, rfl, h0, r0⟩ := trodAll_cons hA
  obtain ⟨v1, vs1, d1, ds1, p1, q1, hargs1, rfl, rfl, h1, r1⟩ := trodAll_cons r0
  obtain ⟨rfl, rfl, rfl⟩ := trodAll_nil r1
  obtain rfl : args = #[v0, v1] := by cases args; simp_all
  obtain ⟨rfl, rfl⟩ := trodVars_none hV
  obtain ⟨cs0, rfl, _⟩ := okWide_struct Tryd.underlying24 (hval 0 24 v0 rfl rfl)
  have hk0 := h0
  obtain ⟨fu0, hf0⟩ := h0
  obtain ⟨t0, b0, a0, l0, c0, ec0, T0, hC0⟩ := open_cut 12 fu0 _ _ hf0
  have hlt0 := DataW.trod_lt _ _ _ _ hf0
  obtain rfl : cs0 = #[.int .i64 t0, .string b0, .slice a0 l0 c0] := Array.ext' ec0
  obtain ⟨x1, rfl, rfl, rfl, wf1⟩ := open_int Tryd.underlying3 (hval 1 3 v1 rfl rfl) h1
  clear hA0
  simp only [List.append_nil] at hW'
  refine (walk _ T0 x1 A aS aF W g hC0).mono fun e W' ⟨he, hg⟩ => ?_
  subst he
  refine ⟨_, rfl, _, _, _, [], (p0 ++ ([] ++ [])), [], hW', ?_, ?_, ?_, hg.frame _, fun h => by cases h⟩
  · exact trodAll_cons_mk (shut_bool Tryd.underlying4 _) trodAll_mk0
  · exact trodAll_cons_mk (Below.trod (by kernel_rfl) (by kernel_rfl) (of_decide_eq_true (by kernel_rfl)) hk0 hg hlt0) (trodAll_cons_mk (shut_int Tryd.underlying3 wf1) (trodAll_mk0))
  · rfl

theorem reads (os : Os) {H : Type} (enc : TypeId × Value → H) : ∃ places, DataW.whole enc Tryd.prog (({ World.holding Tryd.prog os ⟨#[.cells #[.string sentS0] 177, .cells #[.string sentS1] 177, .cells #[.string sentS2] 177, .cells #[.string sentS3] 177, .cells #[.string sentS4] 177, .cells #[.string sentS5] 177, .cells #[.string sentS6] 177, .cells #[.string sentS7] 177], #[], []⟩ with heap := (((((((((World.holding Tryd.prog os ⟨#[.cells #[.string sentS0] 177, .cells #[.string sentS1] 177, .cells #[.string sentS2] 177, .cells #[.string sentS3] 177, .cells #[.string sentS4] 177, .cells #[.string sentS5] 177, .cells #[.string sentS6] 177, .cells #[.string sentS7] 177], #[], []⟩).heap.modify 9 fun | .cells _ t frozen => .cells #[.iface 158 (.pointer (some ⟨(World.holding Tryd.prog default ⟨#[], #[], []⟩).heap.size + 0, 0, none⟩))] t frozen | o => o).modify 6 fun | .cells _ t frozen => .cells #[.iface 158 (.pointer (some ⟨(World.holding Tryd.prog default ⟨#[], #[], []⟩).heap.size + 1, 0, none⟩))] t frozen | o => o).modify 4 fun | .cells _ t frozen => .cells #[.iface 158 (.pointer (some ⟨(World.holding Tryd.prog default ⟨#[], #[], []⟩).heap.size + 2, 0, none⟩))] t frozen | o => o).modify 5 fun | .cells _ t frozen => .cells #[.iface 158 (.pointer (some ⟨(World.holding Tryd.prog default ⟨#[], #[], []⟩).heap.size + 3, 0, none⟩))] t frozen | o => o).modify 0 fun | .cells _ t frozen => .cells #[.iface 158 (.pointer (some ⟨(World.holding Tryd.prog default ⟨#[], #[], []⟩).heap.size + 4, 0, none⟩))] t frozen | o => o).modify 1 fun | .cells _ t frozen => .cells #[.iface 158 (.pointer (some ⟨(World.holding Tryd.prog default ⟨#[], #[], []⟩).heap.size + 5, 0, none⟩))] t frozen | o => o).modify 2 fun | .cells _ t frozen => .cells #[.iface 158 (.pointer (some ⟨(World.holding Tryd.prog default ⟨#[], #[], []⟩).heap.size + 6, 0, none⟩))] t frozen | o => o).modify 3 fun | .cells _ t frozen => .cells #[.iface 158 (.pointer (some ⟨(World.holding Tryd.prog default ⟨#[], #[], []⟩).heap.size + 7, 0, none⟩))] t frozen | o => o).modify 7 fun | .cells _ t frozen => .cells #[.iface 115 (.agg #[.pointer (some ⟨10, 48, none⟩)])] t frozen | o => o } : World).forCall (fun _ _ => 0) ⟨#[], #[.agg #[.int .i64 0, .string ⟨#[]⟩, .slice none 0 0], .int .i64 0], []⟩).memory Tryd.f7.params.toList Rows.tlvCutsSpec.vars false #[Value.agg #[.int .i64 0, .string ⟨#[]⟩, .slice none 0 0], Value.int .i64 0].toList 8 = some ([.agg [.lit (.int .i64 0), .lit (.string []), .nil], .lit (.int .i64 0)], [], places) :=
  ⟨[], by kernel_rfl⟩

set_option maxRecDepth 100000 in
theorem lifted (os : Os) (started : os.Started) (H : Type) (enc : TypeId × Value → H) (F : Stop.Interp) :
    ReturnsInHanded {} Tryd.checked os 7 .any ((OpenSpec.ofChange Rows.tlvCutsSpec).preRow enc Tryd.prog Tryd.f7 Rows.tlvCutsRow.domain false Rows.tlvCutsRow.laid) (((OpenSpec.ofChange Rows.tlvCutsSpec).at F).post enc Tryd.prog Tryd.f7 false true false false) := by
  obtain ⟨places, hx⟩ := reads os enc
  refine returnsInHanded_of_row (C := Tryd.checked) (s := OpenSpec.ofChange Rows.tlvCutsSpec) own started (by kernel_rfl) Tryd.func7
    (witness_row_at (enc := enc) (C := Tryd.checked) false ({ World.holding Tryd.prog os ⟨#[.cells #[.string sentS0] 177, .cells #[.string sentS1] 177, .cells #[.string sentS2] 177, .cells #[.string sentS3] 177, .cells #[.string sentS4] 177, .cells #[.string sentS5] 177, .cells #[.string sentS6] 177, .cells #[.string sentS7] 177], #[], []⟩ with heap := (((((((((World.holding Tryd.prog os ⟨#[.cells #[.string sentS0] 177, .cells #[.string sentS1] 177, .cells #[.string sentS2] 177, .cells #[.string sentS3] 177, .cells #[.string sentS4] 177, .cells #[.string sentS5] 177, .cells #[.string sentS6] 177, .cells #[.string sentS7] 177], #[], []⟩).heap.modify 9 fun | .cells _ t frozen => .cells #[.iface 158 (.pointer (some ⟨(World.holding Tryd.prog default ⟨#[], #[], []⟩).heap.size + 0, 0, none⟩))] t frozen | o => o).modify 6 fun | .cells _ t frozen => .cells #[.iface 158 (.pointer (some ⟨(World.holding Tryd.prog default ⟨#[], #[], []⟩).heap.size + 1, 0, none⟩))] t frozen | o => o).modify 4 fun | .cells _ t frozen => .cells #[.iface 158 (.pointer (some ⟨(World.holding Tryd.prog default ⟨#[], #[], []⟩).heap.size + 2, 0, none⟩))] t frozen | o => o).modify 5 fun | .cells _ t frozen => .cells #[.iface 158 (.pointer (some ⟨(World.holding Tryd.prog default ⟨#[], #[], []⟩).heap.size + 3, 0, none⟩))] t frozen | o => o).modify 0 fun | .cells _ t frozen => .cells #[.iface 158 (.pointer (some ⟨(World.holding Tryd.prog default ⟨#[], #[], []⟩).heap.size + 4, 0, none⟩))] t frozen | o => o).modify 1 fun | .cells _ t frozen => .cells #[.iface 158 (.pointer (some ⟨(World.holding Tryd.prog default ⟨#[], #[], []⟩).heap.size + 5, 0, none⟩))] t frozen | o => o).modify 2 fun | .cells _ t frozen => .cells #[.iface 158 (.pointer (some ⟨(World.holding Tryd.prog default ⟨#[], #[], []⟩).heap.size + 6, 0, none⟩))] t frozen | o => o).modify 3 fun | .cells _ t frozen => .cells #[.iface 158 (.pointer (some ⟨(World.holding Tryd.prog default ⟨#[], #[], []⟩).heap.size + 7, 0, none⟩))] t frozen | o => o).modify 7 fun | .cells _ t frozen => .cells #[.iface 115 (.agg #[.pointer (some ⟨10, 48, none⟩)])] t frozen | o => o } : World) #[.agg #[.int .i64 0, .string ⟨#[]⟩, .slice none 0 0], .int .i64 0] rfl (by kernel_rfl) (by kernel_rfl) (by kernel_rfl)
      (OpenSpec.preRow_of_cond 8 hx (by kernel_rfl) (fun k hk => by cases hk) (by kernel_rfl) (laid_met os _))) ?_
  intro W base args ds gs before hval hW _ _ _ hL _ _
  exact contract H enc W base args ds gs before hval hW hL

theorem said : Rows.TlvCutsSaid :=
  OpenClaim.holds_of_cond 7 Tryd.f7 rfl rfl rfl rfl rfl rfl rfl ⟨rfl, rfl, rfl, rfl, rfl⟩ rfl rfl rfl rfl rfl (by kernel_rfl) Tryd.func7 (by kernel_rfl)
    (of_decide_eq_true (by kernel_rfl)) (by unfold Func.isWrapper; first | (rw [if_pos (by decide +kernel)]; kernel_rfl) | (rw [if_neg (by decide +kernel)]; exact ⟨rfl, rfl⟩))
    (fun os started H enc _ F => by rw [OpenClaim.pre_eq_preRow]; exact lifted os started H enc F)

theorem plain (f : FuncId) (fn : Func) (hf : Tryd.pinned.checked.prog.funcNamed "latiner/latinerlaw02.TlvCuts" = some f) (hfn : Tryd.pinned.checked.prog.funcs[f]? = some fn) :
    true = Tryd.pinned.checked.prog.looks [] ∧ ∀ (j : Nat) t, fn.params[j]? = some t → Tryd.pinned.checked.prog.wantsStandIn t = false := by
  obtain rfl : f = 7 := Option.some.inj ((show Tryd.prog.funcNamed "latiner/latinerlaw02.TlvCuts" = some 7 by kernel_rfl).symm.trans hf) |>.symm
  obtain rfl : fn = Tryd.f7 := (Option.some.inj (Tryd.func7.symm.trans hfn)).symm
  refine ⟨by kernel_rfl, fun j t ht => ?_⟩
  rw [Tryd.params7] at ht
  have hm : t = 24 ∨ t = 3 := by have := Array.mem_of_getElem? ht; simp at this; first | exact this | omega | (rcases this with h | h | h <;> simp [h]) | (rcases this with h | h | h | h <;> simp [h])
  rcases hm with rfl | rfl
  · exact (show Tryd.prog.wantsStandIn 24 = false by kernel_rfl)
  · exact (show Tryd.prog.wantsStandIn 3 = false by kernel_rfl)

/-- The card. -/
theorem card : Rows.TlvCutsCardSaid :=
  Claim7.holds_tied_plain_at .later [] _ _ _ _ said (fun _ h => by cases h) (by kernel_rfl) (fun _ h => by cases h) tlvCuts_row_tie rfl ⟨rfl, rfl⟩ (by kernel_rfl) rfl plain (by kernel_rfl)
end Go.Proofs.YthibodkemnkjeaaDoor.tcuts

namespace Go.Proofs.YthibodkemnkjeaaDoor
theorem tlvCuts_holds : Rows.TlvCutsCardSaid := tcuts.card
#print axioms tlvCuts_holds
end Go.Proofs.YthibodkemnkjeaaDoor
