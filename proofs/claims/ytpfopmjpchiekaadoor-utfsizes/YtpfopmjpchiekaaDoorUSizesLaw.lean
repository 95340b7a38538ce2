/-
  latinerlaw04.UtfSizes returns true at every number: a sign has one byte below 128, two below 2048, three below 65536, else four. Conditions: the package-level variables hold what the program's text lays (the card ties them).
-/
import Derived.Test.YtpfopmjpchiekaaDoorULaid
import Derived.Test.YtpfopmjpchiekaaDoorURight
import Derived.Laws.DeepStrings4
namespace Go.Proofs.YtpfopmjpchiekaaDoor.U.sizes
open Go Go.RowKit Go.ChangeShapes Go.WideShapes Go.ChangeAt Go.ChangeMaps

set_option maxRecDepth 100000 in
theorem no1 (n : Int) (w : World) (e1 : Hid (Keeps w 10 #[] (.bool true))) (e2 : Hid (KText w [n] ⟨#[]⟩ 40)) (h : n < 0) :
    Calls Tryd.prog 8 #[.int .i64 n] w fun e w' => e = .returned (.bool true) ∧ Below w.heap.size w w' := by
  go_enter Tryd.func8, Tryd.ntmps8
  go_wp2_with fail
  refine ((unhide e1) _ (Below.refl _ _)).mono ?_
  rintro e w1 ⟨rfl, hb⟩
  have B1 := hide hb
  clear hb
  go_wp2_with fail
  refine ((unhide e2) _ _ (stepA (unhide B1) _) (lies_lit w1 [n])).mono ?_
  rintro e w2 ⟨rfl, hb⟩
  have B2 := hide (step (stepA (unhide B1) _) hb)
  clear hb
  go_wp2
  go_ret
  exact ⟨rfl, unhide B2⟩

set_option maxRecDepth 100000 in
theorem no2 (n : Int) (w : World) (e1 : Hid (Keeps w 10 #[] (.bool true))) (e2 : Hid (KText w [n] ⟨#[]⟩ 40)) (h0 : ¬ n < 0) (h : 1114111 < n) :
    Calls Tryd.prog 8 #[.int .i64 n] w fun e w' => e = .returned (.bool true) ∧ Below w.heap.size w w' := by
  go_enter Tryd.func8, Tryd.ntmps8
  go_wp2_with fail
  refine ((unhide e1) _ (Below.refl _ _)).mono ?_
  rintro e w1 ⟨rfl, hb⟩
  have B1 := hide hb
  clear hb
  go_wp2_with fail
  refine ((unhide e2) _ _ (stepA (unhide B1) _) (lies_lit w1 [n])).mono ?_
  rintro e w2 ⟨rfl, hb⟩
  have B2 := hide (step (stepA (unhide B1) _) hb)
  clear hb
  go_wp2
  go_ret
  exact ⟨rfl, unhide B2⟩

set_option maxRecDepth 100000 in
theorem no3 (n : Int) (w : World) (e1 : Hid (Keeps w 10 #[] (.bool true))) (e2 : Hid (KText w [n] ⟨#[]⟩ 40)) (h0 : ¬ n < 0) (_h1 : ¬ 1114111 < n) (h : 55296 ≤ n) (h2 : n ≤ 57343) :
    Calls Tryd.prog 8 #[.int .i64 n] w fun e w' => e = .returned (.bool true) ∧ Below w.heap.size w w' := by
  go_enter Tryd.func8, Tryd.ntmps8
  go_wp2_with fail
  refine ((unhide e1) _ (Below.refl _ _)).mono ?_
  rintro e w1 ⟨rfl, hb⟩
  have B1 := hide hb
  clear hb
  go_wp2_with fail
  refine ((unhide e2) _ _ (stepA (unhide B1) _) (lies_lit w1 [n])).mono ?_
  rintro e w2 ⟨rfl, hb⟩
  have B2 := hide (step (stepA (unhide B1) _) hb)
  clear hb
  go_wp2
  go_ret
  exact ⟨rfl, unhide B2⟩

set_option maxRecDepth 100000 in
theorem yes1 (n : Int) (t : ByteArray) (w : World) (hz : (t.size : Int) = 1) (e1 : Hid (Keeps w 10 #[] (.bool true))) (e2 : Hid (KText w [n] t 0)) (e3 : Hid (Keeps w 17 #[.string t] (.bool true))) (e4 : Hid (Keeps w 17 #[.string ⟨#[255]⟩] (.bool false)))
    (_h1 : ¬ 128 ≤ n) (_h2 : ¬ 2048 ≤ n) (_h3 : ¬ 65536 ≤ n) :
    Calls Tryd.prog 8 #[.int .i64 n] w fun e w' => e = .returned (.bool true) ∧ Below w.heap.size w w' := by
  go_enter Tryd.func8, Tryd.ntmps8
  go_wp2_with fail
  refine ((unhide e1) _ (Below.refl _ _)).mono ?_
  rintro e w1 ⟨rfl, hb⟩
  have B1 := hide hb
  clear hb
  go_wp2_with fail
  refine ((unhide e2) _ _ (stepA (unhide B1) _) (lies_lit w1 [n])).mono ?_
  rintro e w2 ⟨rfl, hb⟩
  have B2 := hide (step (stepA (unhide B1) _) hb)
  clear hb
  go_wp2_with fail
  refine ((unhide e3) _ (unhide B2)).mono ?_
  rintro e w3 ⟨rfl, hb⟩
  have B3 := hide (step (unhide B2) hb)
  clear hb
  go_wp2_with fail
  refine ((unhide e4) _ (unhide B3)).mono ?_
  rintro e w4 ⟨rfl, hb⟩
  have B4 := hide (step (unhide B3) hb)
  clear hb
  go_wp2
  go_ret
  exact ⟨rfl, unhide B4⟩

set_option maxRecDepth 100000 in
theorem yes2 (n : Int) (t u : ByteArray) (w : World) (hz : (t.size : Int) = 2) (hu : t.extract 0 1 ++ ⟨#[255]⟩ = u) (e1 : Hid (Keeps w 10 #[] (.bool true))) (e2 : Hid (KText w [n] t 0)) (e3 : Hid (Keeps w 17 #[.string t] (.bool true))) (e4 : Hid (Keeps w 17 #[.string u] (.bool false)))
    (_h1 : 128 ≤ n) (_h2 : ¬ 2048 ≤ n) (_h3 : ¬ 65536 ≤ n) :
    Calls Tryd.prog 8 #[.int .i64 n] w fun e w' => e = .returned (.bool true) ∧ Below w.heap.size w w' := by
  go_enter Tryd.func8, Tryd.ntmps8
  go_wp2_with fail
  refine ((unhide e1) _ (Below.refl _ _)).mono ?_
  rintro e w1 ⟨rfl, hb⟩
  have B1 := hide hb
  clear hb
  go_wp2_with fail
  refine ((unhide e2) _ _ (stepA (unhide B1) _) (lies_lit w1 [n])).mono ?_
  rintro e w2 ⟨rfl, hb⟩
  have B2 := hide (step (stepA (unhide B1) _) hb)
  clear hb
  go_wp2_with fail
  refine ((unhide e3) _ (unhide B2)).mono ?_
  rintro e w3 ⟨rfl, hb⟩
  have B3 := hide (step (unhide B2) hb)
  clear hb
  go_wp2_with fail
  refine ((unhide e4) _ (unhide B3)).mono ?_
  rintro e w4 ⟨rfl, hb⟩
  have B4 := hide (step (unhide B3) hb)
  clear hb
  go_wp2
  go_ret
  exact ⟨rfl, unhide B4⟩

set_option maxRecDepth 100000 in
theorem yes3 (n : Int) (t u : ByteArray) (w : World) (hz : (t.size : Int) = 3) (hu : t.extract 0 2 ++ ⟨#[255]⟩ = u) (e1 : Hid (Keeps w 10 #[] (.bool true))) (e2 : Hid (KText w [n] t 0)) (e3 : Hid (Keeps w 17 #[.string t] (.bool true))) (e4 : Hid (Keeps w 17 #[.string u] (.bool false)))
    (_h1 : 128 ≤ n) (_h2 : 2048 ≤ n) (_h3 : ¬ 65536 ≤ n) :
    Calls Tryd.prog 8 #[.int .i64 n] w fun e w' => e = .returned (.bool true) ∧ Below w.heap.size w w' := by
  go_enter Tryd.func8, Tryd.ntmps8
  go_wp2_with fail
  refine ((unhide e1) _ (Below.refl _ _)).mono ?_
  rintro e w1 ⟨rfl, hb⟩
  have B1 := hide hb
  clear hb
  go_wp2_with fail
  refine ((unhide e2) _ _ (stepA (unhide B1) _) (lies_lit w1 [n])).mono ?_
  rintro e w2 ⟨rfl, hb⟩
  have B2 := hide (step (stepA (unhide B1) _) hb)
  clear hb
  go_wp2_with fail
  refine ((unhide e3) _ (unhide B2)).mono ?_
  rintro e w3 ⟨rfl, hb⟩
  have B3 := hide (step (unhide B2) hb)
  clear hb
  go_wp2_with fail
  refine ((unhide e4) _ (unhide B3)).mono ?_
  rintro e w4 ⟨rfl, hb⟩
  have B4 := hide (step (unhide B3) hb)
  clear hb
  go_wp2
  go_ret
  exact ⟨rfl, unhide B4⟩

set_option maxRecDepth 100000 in
theorem yes4 (n : Int) (t u : ByteArray) (w : World) (hz : (t.size : Int) = 4) (hu : t.extract 0 3 ++ ⟨#[255]⟩ = u) (e1 : Hid (Keeps w 10 #[] (.bool true))) (e2 : Hid (KText w [n] t 0)) (e3 : Hid (Keeps w 17 #[.string t] (.bool true))) (e4 : Hid (Keeps w 17 #[.string u] (.bool false)))
    (_h1 : 128 ≤ n) (_h2 : 2048 ≤ n) (_h3 : 65536 ≤ n) :
    Calls Tryd.prog 8 #[.int .i64 n] w fun e w' => e = .returned (.bool true) ∧ Below w.heap.size w w' := by
  go_enter Tryd.func8, Tryd.ntmps8
  go_wp2_with fail
  refine ((unhide e1) _ (Below.refl _ _)).mono ?_
  rintro e w1 ⟨rfl, hb⟩
  have B1 := hide hb
  clear hb
  go_wp2_with fail
  refine ((unhide e2) _ _ (stepA (unhide B1) _) (lies_lit w1 [n])).mono ?_
  rintro e w2 ⟨rfl, hb⟩
  have B2 := hide (step (stepA (unhide B1) _) hb)
  clear hb
  go_wp2_with fail
  refine ((unhide e3) _ (unhide B2)).mono ?_
  rintro e w3 ⟨rfl, hb⟩
  have B3 := hide (step (unhide B2) hb)
  clear hb
  go_wp2_with fail
  refine ((unhide e4) _ (unhide B3)).mono ?_
  rintro e w4 ⟨rfl, hb⟩
  have B4 := hide (step (unhide B3) hb)
  clear hb
  go_wp2
  go_ret
  exact ⟨rfl, unhide B4⟩

theorem walk (n : Int) (aU aS : Addr) (w : World) (g : Glob aU aS w) :
    Calls Tryd.prog 8 #[.int .i64 n] w fun e w' => e = .returned (.bool true) ∧ Below w.heap.size w w' := by
  have e1 := hide (K_shown g)
  have e2 := K_text g [n] (by simp)
  by_cases hn : isg n = true
  · obtain ⟨m, rfl, hm⟩ := isg_nat hn
    have hs := isg_sg.1 hn
    have hb : byt [(m : Int)] = Ut.enc m := by simp [byt, Ut.fl]
    rw [txt_ok (by simpa using hn), hb] at e2
    have hl := Ut.enc_length m
    have e3 := K_right g ⟨(Ut.enc m).toArray⟩ (by rw [size_mk]; have := Ut.enc_le m; omega)
    rw [bad_of_is (by rw [data_mk]; exact is_enc hs)] at e3
    have hu : ∀ k, (bad ((⟨(Ut.enc m).toArray⟩ : ByteArray).extract 0 k ++ ⟨#[255]⟩)).isNone = false := fun k => bad_none_false (no255 (by rw [data_append]; simp))
    have e4 := fun k => K_right g ((⟨(Ut.enc m).toArray⟩ : ByteArray).extract 0 k ++ ⟨#[255]⟩) (by
      rw [ByteArray.size_append, ByteArray.size_extract, size_mk]
      have := Ut.enc_le m
      show _ + 1 ≤ 1000
      omega)
    simp only [hu] at e4
    have e40 := K_right g ⟨#[255]⟩ (by show 1 ≤ 1000; omega)
    rw [bad_none_false (no255 (by simp))] at e40
    have hz : (((⟨(Ut.enc m).toArray⟩ : ByteArray).size : Nat) : Int) = ((Ut.enc m).length : Int) := by rw [size_mk]
    by_cases h1 : m < 128
    · rw [if_pos h1] at hl
      exact yes1 _ _ w (hz.trans (by omega)) e1 e2 e3 e40 (by omega) (by omega) (by omega)
    rw [if_neg h1] at hl
    by_cases h2 : m < 2048
    · rw [if_pos h2] at hl
      exact yes2 _ _ _ w (hz.trans (by omega)) rfl e1 e2 e3 (e4 1) (by omega) (by omega) (by omega)
    rw [if_neg h2] at hl
    by_cases h3 : m < 65536
    · rw [if_pos h3] at hl
      exact yes3 _ _ _ w (hz.trans (by omega)) rfl e1 e2 e3 (e4 2) (by omega) (by omega) (by omega)
    · rw [if_neg h3] at hl
      exact yes4 _ _ _ w (hz.trans (by omega)) rfl e1 e2 e3 (e4 3) (by omega) (by omega) (by omega)
  · have hn' : isg n = false := by simpa using hn
    rw [txt_no (by simpa using hn')] at e2
    have hr := of_decide_eq_false hn'
    by_cases h0 : n < 0
    · exact no1 n w e1 e2 h0
    by_cases h1 : 1114111 < n
    · exact no2 n w e1 e2 h0 h1
    · exact no3 n w e1 e2 h0 h1 (by omega) (by omega)

set_option maxRecDepth 100000 in
/-- What the walk gives, for every argument. -/
theorem contract (H : Type) (enc : TypeId × Value → H) (W : World) (base : Nat) (args : Array Value) (ds gs : List (DataW H)) (before : List MemPlace)
    (hval : ∀ (j : Nat) t v, Tryd.f8.params[j]? = some t → args[j]? = some v → Value.okWide Tryd.prog W .any base t v)
    (hW : DataW.Whole enc Tryd.prog Tryd.f8.params.toList Rows.utfSizesSpec.vars false W args.toList ds gs before) (hL : laidMetH Tryd.prog Rows.utfSizesRow.laid W) :
    Calls Tryd.prog 8 args W fun e W' => ∃ v, e = .returned v ∧ Rows.utfSizesSpec.post enc Tryd.prog Tryd.f8 false true false false W args v W' := by
  obtain ⟨aU, aS, g⟩ := glob_of_laid hL
  have hW' := hW
  obtain ⟨p, q, hA0, hV, rfl, hfz, hnd⟩ := hW
  have hA : DataW.TrodAll enc Tryd.prog W 0 (fun _ => true) true Tryd.f8.params.toList args.toList ds p := hA0
  rw [Tryd.params8] at hA hval
  obtain ⟨v0, vs0, d0, ds0, p0, q0, hargs0, rfl, rfl, h0, r0⟩ := trodAll_cons hA
  obtain ⟨rfl, rfl, rfl⟩ := trodAll_nil r0
  obtain rfl : args = #[v0] := by cases args; simp_all
  obtain ⟨rfl, rfl⟩ := trodVars_none hV
  obtain ⟨x0, rfl, rfl, rfl, wf0⟩ := open_int Tryd.underlying3 (hval 0 3 v0 rfl rfl) h0
  clear hA0
  simp only [List.append_nil] at hW'
  refine (walk x0 aU aS W g).mono fun e W' ⟨he, hg⟩ => ?_
  subst he
  refine ⟨_, rfl, _, _, _, [], [], [], hW', ?_, ?_, ?_, hg.frame _, fun h => by cases h⟩
  · exact trodAll_cons_mk (shut_bool Tryd.underlying4 _) trodAll_mk0
  · exact trodAll_cons_mk (shut_int Tryd.underlying3 wf0) (trodAll_mk0)
  · rfl

theorem reads (os : Os) {H : Type} (enc : TypeId × Value → H) : ∃ places, DataW.whole enc Tryd.prog (({ World.holding Tryd.prog os ⟨#[.cells #[.string sentS0] 126, .cells #[.string sentS1] 126], #[], []⟩ with heap := (((World.holding Tryd.prog os ⟨#[.cells #[.string sentS0] 126, .cells #[.string sentS1] 126], #[], []⟩).heap.modify 0 fun | .cells _ t frozen => .cells #[.iface 104 (.pointer (some ⟨(World.holding Tryd.prog default ⟨#[], #[], []⟩).heap.size + 0, 0, none⟩))] t frozen | o => o).modify 1 fun | .cells _ t frozen => .cells #[.iface 104 (.pointer (some ⟨(World.holding Tryd.prog default ⟨#[], #[], []⟩).heap.size + 1, 0, none⟩))] t frozen | o => o).modify 2 fun | .cells _ t frozen => .cells #[.iface 90 (.agg #[.pointer (some ⟨3, 39, none⟩)])] t frozen | o => o } : World).forCall (fun _ _ => 0) ⟨#[], #[.int .i64 0], []⟩).memory Tryd.f8.params.toList Rows.utfSizesSpec.vars false #[Value.int .i64 0].toList 8 = some ([.lit (.int .i64 0)], [], places) :=
  ⟨[], by kernel_rfl⟩

set_option maxRecDepth 100000 in
theorem lifted (os : Os) (started : os.Started) (H : Type) (enc : TypeId × Value → H) (F : Stop.Interp) :
    ReturnsInHanded {} Tryd.checked os 8 .any ((OpenSpec.ofChange Rows.utfSizesSpec).preRow enc Tryd.prog Tryd.f8 Rows.utfSizesRow.domain false Rows.utfSizesRow.laid) (((OpenSpec.ofChange Rows.utfSizesSpec).at F).post enc Tryd.prog Tryd.f8 false true false false) := by
  obtain ⟨places, hx⟩ := reads os enc
  refine returnsInHanded_of_row (C := Tryd.checked) (s := OpenSpec.ofChange Rows.utfSizesSpec) own started (by kernel_rfl) Tryd.func8
    (witness_row_at (enc := enc) (C := Tryd.checked) false ({ World.holding Tryd.prog os ⟨#[.cells #[.string sentS0] 126, .cells #[.string sentS1] 126], #[], []⟩ with heap := (((World.holding Tryd.prog os ⟨#[.cells #[.string sentS0] 126, .cells #[.string sentS1] 126], #[], []⟩).heap.modify 0 fun | .cells _ t frozen => .cells #[.iface 104 (.pointer (some ⟨(World.holding Tryd.prog default ⟨#[], #[], []⟩).heap.size + 0, 0, none⟩))] t frozen | o => o).modify 1 fun | .cells _ t frozen => .cells #[.iface 104 (.pointer (some ⟨(World.holding Tryd.prog default ⟨#[], #[], []⟩).heap.size + 1, 0, none⟩))] t frozen | o => o).modify 2 fun | .cells _ t frozen => .cells #[.iface 90 (.agg #[.pointer (some ⟨3, 39, none⟩)])] t frozen | o => o } : World) #[.int .i64 0] rfl (by kernel_rfl) (by kernel_rfl) (by kernel_rfl)
      (OpenSpec.preRow_of_cond 8 hx (by kernel_rfl) (fun k hk => by cases hk) (by kernel_rfl) (laid_met os _))) ?_
  intro W base args ds gs before hval hW _ _ _ hL _ _
  exact contract H enc W base args ds gs before hval hW hL

theorem said : Rows.UtfSizesSaid :=
  OpenClaim.holds_of_cond 8 Tryd.f8 rfl rfl rfl rfl rfl rfl rfl ⟨rfl, rfl, rfl, rfl, rfl⟩ rfl rfl rfl rfl rfl (by kernel_rfl) Tryd.func8 (by kernel_rfl)
    (of_decide_eq_true (by kernel_rfl)) (by unfold Func.isWrapper; first | (rw [if_pos (by decide +kernel)]; kernel_rfl) | (rw [if_neg (by decide +kernel)]; exact ⟨rfl, rfl⟩))
    (fun os started H enc _ F => by rw [OpenClaim.pre_eq_preRow]; exact lifted os started H enc F)

theorem plain (f : FuncId) (fn : Func) (hf : Tryd.pinned.checked.prog.funcNamed "latiner/latinerlaw04.UtfSizes" = some f) (hfn : Tryd.pinned.checked.prog.funcs[f]? = some fn) :
    true = Tryd.pinned.checked.prog.looks [] ∧ ∀ (j : Nat) t, fn.params[j]? = some t → Tryd.pinned.checked.prog.wantsStandIn t = false := by
  obtain rfl : f = 8 := Option.some.inj ((show Tryd.prog.funcNamed "latiner/latinerlaw04.UtfSizes" = some 8 by kernel_rfl).symm.trans hf) |>.symm
  obtain rfl : fn = Tryd.f8 := (Option.some.inj (Tryd.func8.symm.trans hfn)).symm
  refine ⟨by kernel_rfl, fun j t ht => ?_⟩
  rw [Tryd.params8] at ht
  have hm : t = 3 := by have := Array.mem_of_getElem? ht; simp at this; first | exact this | omega | (rcases this with h | h | h <;> simp [h]) | (rcases this with h | h | h | h <;> simp [h])
  subst hm
  exact (show Tryd.prog.wantsStandIn 3 = false by kernel_rfl)

/-- The card. -/
theorem card : Rows.UtfSizesCardSaid :=
  Claim7.holds_tied_plain_at .later [] _ _ _ _ said (fun _ h => by cases h) (by kernel_rfl) (fun _ h => by cases h) utfSizes_row_tie rfl ⟨rfl, rfl⟩ (by kernel_rfl) rfl plain (by kernel_rfl)
end Go.Proofs.YtpfopmjpchiekaaDoor.U.sizes

namespace Go.Proofs.YtpfopmjpchiekaaDoor
theorem utfSizes_holds : Rows.UtfSizesCardSaid := U.sizes.card
#print axioms utfSizes_holds
end Go.Proofs.YtpfopmjpchiekaaDoor
