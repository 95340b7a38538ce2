/-
  latinerlaw06.EscApart returns true at every two texts: no two values are printed alike, in filters, or in names. Conditions: the package-level variables hold what the program's text lays (the card ties them).
-/
import Derived.Test.YtgapoofalnakmaaDoorELaid
import Derived.Laws.DeepStrings4
namespace Go.Proofs.YtgapoofalnakmaaDoor.E.apart
open Go Go.RowKit Go.ChangeShapes Go.WideShapes Go.ChangeAt Go.ChangeMaps Ec

set_option maxRecDepth 100000 in
set_option maxHeartbeats 2000000 in
theorem wne (s t p q bp bq hp hq : ByteArray) (w : World) (n1 : (p.toList == q.toList) = false) (n2 : (bp.toList == bq.toList) = false) (n3 : (hp.toList == hq.toList) = false) (e0 : Hid (Keeps w 9 #[] (.bool true))) (e1 : Hid (Keeps w 10 #[.string s] (.string p))) (e2 : Hid (Keeps w 10 #[.string t] (.string q))) (e3 : Hid (Keeps w 15 #[.string p] (.string bp))) (e4 : Hid (Keeps w 15 #[.string q] (.string bq))) (e5 : Hid (Keeps w 17 #[.string p] (.string hp))) (e6 : Hid (Keeps w 17 #[.string q] (.string hq))) :
    Calls Tryd.prog 7 #[.string s, .string t] w fun e w' => e = .returned (.bool true) ∧ Below w.heap.size w w' := by
  go_enter Tryd.func7, Tryd.ntmps7
  go_wp2_with fail
  refine ((unhide e0) _ (Below.refl _ _)).mono ?_
  rintro e w1 ⟨rfl, hb⟩
  have B1 := hide (step (Below.refl _ _) hb)
  clear hb
  go_wp2_with fail
  refine ((unhide e1) _ (unhide B1)).mono ?_
  rintro e w2 ⟨rfl, hb⟩
  have B2 := hide (step (unhide B1) hb)
  clear hb
  go_wp2_with fail
  refine ((unhide e2) _ (unhide B2)).mono ?_
  rintro e w3 ⟨rfl, hb⟩
  have B3 := hide (step (unhide B2) hb)
  clear hb
  go_wp2_with fail
  refine ((unhide e3) _ (unhide B3)).mono ?_
  rintro e w4 ⟨rfl, hb⟩
  have B4 := hide (step (unhide B3) hb)
  clear hb
  go_wp2_with fail
  refine ((unhide e4) _ (unhide B4)).mono ?_
  rintro e w5 ⟨rfl, hb⟩
  have B5 := hide (step (unhide B4) hb)
  clear hb
  go_wp2_with fail
  refine ((unhide e5) _ (unhide B5)).mono ?_
  rintro e w6 ⟨rfl, hb⟩
  have B6 := hide (step (unhide B5) hb)
  clear hb
  go_wp2_with fail
  refine ((unhide e6) _ (unhide B6)).mono ?_
  rintro e w7 ⟨rfl, hb⟩
  have B7 := hide (step (unhide B6) hb)
  clear hb
  go_wp2
  go_ret
  exact ⟨rfl, unhide B7⟩

set_option maxRecDepth 100000 in
set_option maxHeartbeats 2000000 in
theorem weq (s t p bp hp : ByteArray) (w : World) (e0 : Hid (Keeps w 9 #[] (.bool true))) (e1 : Hid (Keeps w 10 #[.string s] (.string p))) (e2 : Hid (Keeps w 10 #[.string t] (.string p))) (e3 : Hid (Keeps w 15 #[.string p] (.string bp))) (e5 : Hid (Keeps w 17 #[.string p] (.string hp))) :
    Calls Tryd.prog 7 #[.string s, .string t] w fun e w' => e = .returned (.bool true) ∧ Below w.heap.size w w' := by
  go_enter Tryd.func7, Tryd.ntmps7
  go_wp2_with fail
  refine ((unhide e0) _ (Below.refl _ _)).mono ?_
  rintro e w1 ⟨rfl, hb⟩
  have B1 := hide (step (Below.refl _ _) hb)
  clear hb
  go_wp2_with fail
  refine ((unhide e1) _ (unhide B1)).mono ?_
  rintro e w2 ⟨rfl, hb⟩
  have B2 := hide (step (unhide B1) hb)
  clear hb
  go_wp2_with fail
  refine ((unhide e2) _ (unhide B2)).mono ?_
  rintro e w3 ⟨rfl, hb⟩
  have B3 := hide (step (unhide B2) hb)
  clear hb
  go_wp2_with fail
  refine ((unhide e3) _ (unhide B3)).mono ?_
  rintro e w4 ⟨rfl, hb⟩
  have B4 := hide (step (unhide B3) hb)
  clear hb
  go_wp2_with fail
  refine ((unhide e3) _ (unhide B4)).mono ?_
  rintro e w5 ⟨rfl, hb⟩
  have B5 := hide (step (unhide B4) hb)
  clear hb
  go_wp2_with fail
  refine ((unhide e5) _ (unhide B5)).mono ?_
  rintro e w6 ⟨rfl, hb⟩
  have B6 := hide (step (unhide B5) hb)
  clear hb
  go_wp2_with fail
  refine ((unhide e5) _ (unhide B6)).mono ?_
  rintro e w7 ⟨rfl, hb⟩
  have B7 := hide (step (unhide B6) hb)
  clear hb
  go_wp2
  go_ret
  exact ⟨rfl, unhide B7⟩

theorem walk (s t : ByteArray) (a : Ad) (w : World) (g : Glob a w) (wf : s.size ≤ maxLen) (wf2 : t.size ≤ maxLen) :
    Calls Tryd.prog 7 #[.string s, .string t] w fun e w' => e = .returned (.bool true) ∧ Below w.heap.size w w' := by
  have hz := cut_size s
  have hz2 := cut_size t
  by_cases h : s.extract 0 100 = t.extract 0 100
  · exact weq s t _ _ _ w (K_shown g) (K_cut s wf) (by rw [h]; exact K_cut t wf2) (K_filter w _ (by omega)) (K_name w _ (by omega))
  · exact wne s t _ _ _ _ _ _ w (toList_ne h) (toList_ne (pri_ne _ h)) (toList_ne (pri_ne _ h)) (K_shown g) (K_cut s wf) (K_cut t wf2) (K_filter w _ (by omega)) (K_filter w _ (by omega)) (K_name w _ (by omega)) (K_name w _ (by omega))

set_option maxRecDepth 100000 in
/-- What the walk gives, for every argument. -/
theorem contract (H : Type) (enc : TypeId × Value → H) (W : World) (base : Nat) (args : Array Value) (ds gs : List (DataW H)) (before : List MemPlace)
    (hval : ∀ (j : Nat) t v, Tryd.f7.params[j]? = some t → args[j]? = some v → Value.okWide Tryd.prog W .any base t v)
    (hW : DataW.Whole enc Tryd.prog Tryd.f7.params.toList Rows.escApartSpec.vars false W args.toList ds gs before) (hL : laidMetH Tryd.prog Rows.escApartRow.laid W) :
    Calls Tryd.prog 7 args W fun e W' => ∃ v, e = .returned v ∧ Rows.escApartSpec.post enc Tryd.prog Tryd.f7 false true false false W args v W' := by
  obtain ⟨a, g⟩ := glob_of_laid hL
  have hW' := hW
  obtain ⟨p, q, hA0, hV, rfl, hfz, hnd⟩ := hW
  have hA : DataW.TrodAll enc Tryd.prog W 0 (fun _ => true) true Tryd.f7.params.toList args.toList ds p := hA0
  rw [Tryd.params7] at hA hval
  obtain ⟨v0, vs0, d0, ds0, p0, q0, hargs0, rfl, rfl, h0, r0⟩ := trodAll_cons hA
  obtain ⟨v1, vs1, d1, ds1, p1, q1, hargs1, rfl, rfl, h1, r1⟩ := trodAll_cons r0
  obtain ⟨rfl, rfl, rfl⟩ := trodAll_nil r1
  obtain rfl : args = #[v0, v1] := by cases args; simp_all
  obtain ⟨rfl, rfl⟩ := trodVars_none hV
  obtain ⟨x0, rfl, rfl, rfl, wf0⟩ := open_string Tryd.underlying9 (hval 0 9 v0 rfl rfl) h0
  obtain ⟨x1, rfl, rfl, rfl, wf1⟩ := open_string Tryd.underlying9 (hval 1 9 v1 rfl rfl) h1
  clear hA0
  simp only [List.append_nil] at hW'
  refine (walk x0 x1 a W g wf0 wf1).mono fun e W' ⟨he, hg⟩ => ?_
  subst he
  refine ⟨_, rfl, _, _, _, [], [], [], hW', ?_, ?_, ?_, hg.frame _, fun h => by cases h⟩
  · exact trodAll_cons_mk (shut_bool Tryd.underlying4 _) trodAll_mk0
  · exact trodAll_cons_mk (shut_string Tryd.underlying9 wf0) (trodAll_cons_mk (shut_string Tryd.underlying9 wf1) (trodAll_mk0))
  · rfl

theorem reads (os : Os) {H : Type} (enc : TypeId × Value → H) : ∃ places, DataW.whole enc Tryd.prog (({ World.holding Tryd.prog os ⟨#[.cells #[.string sentS0] 173, .cells #[.string sentS1] 173, .cells #[.string sentS2] 173, .cells #[.string sentS3] 173, .cells #[.string sentS4] 173, .cells #[.string sentS5] 173], #[], []⟩ with heap := (((((((World.holding Tryd.prog os ⟨#[.cells #[.string sentS0] 173, .cells #[.string sentS1] 173, .cells #[.string sentS2] 173, .cells #[.string sentS3] 173, .cells #[.string sentS4] 173, .cells #[.string sentS5] 173], #[], []⟩).heap.modify 5 fun | .cells _ t frozen => .cells #[.iface 151 (.pointer (some ⟨(World.holding Tryd.prog default ⟨#[], #[], []⟩).heap.size + 0, 0, none⟩))] t frozen | o => o).modify 4 fun | .cells _ t frozen => .cells #[.iface 151 (.pointer (some ⟨(World.holding Tryd.prog default ⟨#[], #[], []⟩).heap.size + 1, 0, none⟩))] t frozen | o => o).modify 6 fun | .cells _ t frozen => .cells #[.iface 151 (.pointer (some ⟨(World.holding Tryd.prog default ⟨#[], #[], []⟩).heap.size + 2, 0, none⟩))] t frozen | o => o).modify 3 fun | .cells _ t frozen => .cells #[.iface 151 (.pointer (some ⟨(World.holding Tryd.prog default ⟨#[], #[], []⟩).heap.size + 3, 0, none⟩))] t frozen | o => o).modify 0 fun | .cells _ t frozen => .cells #[.iface 151 (.pointer (some ⟨(World.holding Tryd.prog default ⟨#[], #[], []⟩).heap.size + 4, 0, none⟩))] t frozen | o => o).modify 1 fun | .cells _ t frozen => .cells #[.iface 151 (.pointer (some ⟨(World.holding Tryd.prog default ⟨#[], #[], []⟩).heap.size + 5, 0, none⟩))] t frozen | o => o).modify 2 fun | .cells _ t frozen => .cells #[.iface 104 (.agg #[.pointer (some ⟨7, 36, none⟩)])] t frozen | o => o } : World).forCall (fun _ _ => 0) ⟨#[], #[.string ⟨#[]⟩, .string ⟨#[]⟩], []⟩).memory Tryd.f7.params.toList Rows.escApartSpec.vars false #[Value.string ⟨#[]⟩, Value.string ⟨#[]⟩].toList 8 = some ([.lit (.string []), .lit (.string [])], [], places) :=
  ⟨[], by kernel_rfl⟩

set_option maxRecDepth 100000 in
theorem lifted (os : Os) (started : os.Started) (H : Type) (enc : TypeId × Value → H) (F : Stop.Interp) :
    ReturnsInHanded {} Tryd.checked os 7 .any ((OpenSpec.ofChange Rows.escApartSpec).preRow enc Tryd.prog Tryd.f7 Rows.escApartRow.domain false Rows.escApartRow.laid) (((OpenSpec.ofChange Rows.escApartSpec).at F).post enc Tryd.prog Tryd.f7 false true false false) := by
  obtain ⟨places, hx⟩ := reads os enc
  refine returnsInHanded_of_row (C := Tryd.checked) (s := OpenSpec.ofChange Rows.escApartSpec) own started (by kernel_rfl) Tryd.func7
    (witness_row_at (enc := enc) (C := Tryd.checked) false ({ World.holding Tryd.prog os ⟨#[.cells #[.string sentS0] 173, .cells #[.string sentS1] 173, .cells #[.string sentS2] 173, .cells #[.string sentS3] 173, .cells #[.string sentS4] 173, .cells #[.string sentS5] 173], #[], []⟩ with heap := (((((((World.holding Tryd.prog os ⟨#[.cells #[.string sentS0] 173, .cells #[.string sentS1] 173, .cells #[.string sentS2] 173, .cells #[.string sentS3] 173, .cells #[.string sentS4] 173, .cells #[.string sentS5] 173], #[], []⟩).heap.modify 5 fun | .cells _ t frozen => .cells #[.iface 151 (.pointer (some ⟨(World.holding Tryd.prog default ⟨#[], #[], []⟩).heap.size + 0, 0, none⟩))] t frozen | o => o).modify 4 fun | .cells _ t frozen => .cells #[.iface 151 (.pointer (some ⟨(World.holding Tryd.prog default ⟨#[], #[], []⟩).heap.size + 1, 0, none⟩))] t frozen | o => o).modify 6 fun | .cells _ t frozen => .cells #[.iface 151 (.pointer (some ⟨(World.holding Tryd.prog default ⟨#[], #[], []⟩).heap.size + 2, 0, none⟩))] t frozen | o => o).modify 3 fun | .cells _ t frozen => .cells #[.iface 151 (.pointer (some ⟨(World.holding Tryd.prog default ⟨#[], #[], []⟩).heap.size + 3, 0, none⟩))] t frozen | o => o).modify 0 fun | .cells _ t frozen => .cells #[.iface 151 (.pointer (some ⟨(World.holding Tryd.prog default ⟨#[], #[], []⟩).heap.size + 4, 0, none⟩))] t frozen | o => o).modify 1 fun | .cells _ t frozen => .cells #[.iface 151 (.pointer (some ⟨(World.holding Tryd.prog default ⟨#[], #[], []⟩).heap.size + 5, 0, none⟩))] t frozen | o => o).modify 2 fun | .cells _ t frozen => .cells #[.iface 104 (.agg #[.pointer (some ⟨7, 36, none⟩)])] t frozen | o => o } : World) #[.string ⟨#[]⟩, .string ⟨#[]⟩] rfl (by kernel_rfl) (by kernel_rfl) (by kernel_rfl)
      (OpenSpec.preRow_of_cond 8 hx (by kernel_rfl) (fun k hk => by cases hk) (by kernel_rfl) (laid_met os _))) ?_
  intro W base args ds gs before hval hW _ _ _ hL _ _
  exact contract H enc W base args ds gs before hval hW hL

theorem said : Rows.EscApartSaid :=
  OpenClaim.holds_of_cond 7 Tryd.f7 rfl rfl rfl rfl rfl rfl rfl ⟨rfl, rfl, rfl, rfl, rfl⟩ rfl rfl rfl rfl rfl (by kernel_rfl) Tryd.func7 (by kernel_rfl)
    (of_decide_eq_true (by kernel_rfl)) (by unfold Func.isWrapper; first | (rw [if_pos (by decide +kernel)]; kernel_rfl) | (rw [if_neg (by decide +kernel)]; exact ⟨rfl, rfl⟩))
    (fun os started H enc _ F => by rw [OpenClaim.pre_eq_preRow]; exact lifted os started H enc F)

theorem plain (f : FuncId) (fn : Func) (hf : Tryd.pinned.checked.prog.funcNamed "latiner/latinerlaw06.EscApart" = some f) (hfn : Tryd.pinned.checked.prog.funcs[f]? = some fn) :
    true = Tryd.pinned.checked.prog.looks [] ∧ ∀ (j : Nat) t, fn.params[j]? = some t → Tryd.pinned.checked.prog.wantsStandIn t = false := by
  obtain rfl : f = 7 := Option.some.inj ((show Tryd.prog.funcNamed "latiner/latinerlaw06.EscApart" = some 7 by kernel_rfl).symm.trans hf) |>.symm
  obtain rfl : fn = Tryd.f7 := (Option.some.inj (Tryd.func7.symm.trans hfn)).symm
  refine ⟨by kernel_rfl, fun j t ht => ?_⟩
  rw [Tryd.params7] at ht
  have hm : t = 9 := by have := Array.mem_of_getElem? ht; simp at this; first | exact this | omega | (rcases this with h | h | h <;> simp [h]) | (rcases this with h | h | h | h <;> simp [h])
  subst hm
  exact (show Tryd.prog.wantsStandIn 9 = false by kernel_rfl)

/-- The card. -/
theorem card : Rows.EscApartCardSaid :=
  Claim7.holds_tied_plain_at .later [] _ _ _ _ said (fun _ h => by cases h) (by kernel_rfl) (fun _ h => by cases h) escApart_row_tie rfl ⟨rfl, rfl⟩ (by kernel_rfl) rfl plain (by kernel_rfl)
end Go.Proofs.YtgapoofalnakmaaDoor.E.apart

namespace Go.Proofs.YtgapoofalnakmaaDoor
theorem escApart_holds : Rows.EscApartCardSaid := E.apart.card
#print axioms escApart_holds
end Go.Proofs.YtgapoofalnakmaaDoor
