/-
  latinerlaw03.PrimCodes returns true at every number, text and boolean: the program answers as the document does. Conditions: the package-level variables hold what the program's text lays (the card ties them).
-/
import Derived.Test.YtjgphpjbcabdeaaDoorPRefRead
import Derived.Test.YtjgphpjbcabdeaaDoorPLaid
namespace Go.Proofs.YtjgphpjbcabdeaaDoor.P.codes
open Go.ChangeShapes Go.WideShapes Go.ChangeAt Go.ChangeMaps Go.RowKit

set_option maxRecDepth 100000 in
theorem walk (n : Int) (s : ByteArray) (b : Bool) (aB : Addr) (w : World) (g : Glob aB w) (wf : s.size ≤ maxLen) :
    Calls Tryd.prog 3 #[.int .i64 n, .string s, .bool b] w fun e w' => e = .returned (.bool true) ∧ Below w.heap.size w w' := by
  have e1 := hide (K_shown g)
  have e2 := hide (K_cut (w := w) s wf)
  have hz := cut_size s
  generalize s.extract 0 10 = t at *
  have hz' : t.size ≤ 1000 := by omega
  have e3 := hide (K_int g n)
  have e4 : Hid (Keeps w 12 #[.int .i64 n] (.tuple #[str (Pr.enc n), .int .i64 (intA n)])) := hide (keep0 fun w1 => refInt_any n w1)
  have e5 := hide (K_readInt g t hz')
  have e6 : Hid (Keeps w 14 #[.string t] (.tuple #[.int .i64 (Pr.dec t.data.toList).1, .int .i64 (Pr.dec t.data.toList).2])) := hide (keep0 fun w1 => refReadInt_any t w1 hz')
  have e7 := hide (K_readBool g t hz')
  have e8 : Hid (Keeps w 16 #[.string t] (.tuple #[.bool (rb t.data.toList).1, .int .i64 (rb t.data.toList).2])) := hide (keep0 fun w1 => refReadBool_any t w1 hz')
  have e9 := hide (K_bool (w := w) b)
  have e10 : Hid (Keeps w 18 #[.bool b] (.string ⟨#[if b then 255 else 0]⟩)) := hide (keep0 fun w1 => refBool_any b w1)
  generalize (Pr.enc n) = en at *
  generalize intA n = ea at *
  generalize (Pr.dec t.data.toList) = dd at *
  generalize rb t.data.toList = rr at *
  generalize (⟨#[if b then 255 else 0]⟩ : ByteArray) = bb at *
  obtain ⟨d1, d2⟩ := dd
  obtain ⟨r1, r2⟩ := rr
  clear g wf hz hz'
  go_enter Tryd.func3, Tryd.ntmps3
  go_wp2_with fail
  refine ((unhide e1) _ (Below.refl _ _)).mono ?_
  rintro e w1 ⟨rfl, hb1⟩
  go_wp2_with fail
  refine ((unhide e2) _ hb1).mono ?_
  rintro e w2 ⟨rfl, hb2⟩
  go_wp2_with fail
  refine ((unhide e3) _ hb2).mono ?_
  rintro e w3 ⟨rfl, hb3⟩
  go_wp2_with fail
  refine ((unhide e4) _ hb3).mono ?_
  rintro e w4 ⟨rfl, hb4⟩
  go_wp2_with fail
  refine ((unhide e5) _ hb4).mono ?_
  rintro e w5 ⟨rfl, hb5⟩
  go_wp2_with fail
  refine ((unhide e6) _ hb5).mono ?_
  rintro e w6 ⟨rfl, hb6⟩
  go_wp2_with fail
  refine ((unhide e7) _ hb6).mono ?_
  rintro e w7 ⟨rfl, hb7⟩
  go_wp2_with fail
  refine ((unhide e8) _ hb7).mono ?_
  rintro e w8 ⟨rfl, hb8⟩
  go_wp2_with fail
  refine ((unhide e9) _ hb8).mono ?_
  rintro e w9 ⟨rfl, hb9⟩
  go_wp2_with fail
  refine ((unhide e10) _ hb9).mono ?_
  rintro e w10 ⟨rfl, hb10⟩
  go_wp2
  all_goals go_ret
  all_goals refine ⟨?_, hb10⟩
  all_goals rfl

set_option maxRecDepth 100000 in
/-- What the walk gives, for every argument. -/
theorem contract (H : Type) (enc : TypeId × Value → H) (W : World) (base : Nat) (args : Array Value) (ds gs : List (DataW H)) (before : List MemPlace)
    (hval : ∀ (j : Nat) t v, Tryd.f3.params[j]? = some t → args[j]? = some v → Value.okWide Tryd.prog W .any base t v)
    (hW : DataW.Whole enc Tryd.prog Tryd.f3.params.toList Rows.primCodesSpec.vars false W args.toList ds gs before) (hL : laidMetH Tryd.prog Rows.primCodesRow.laid W) :
    Calls Tryd.prog 3 args W fun e W' => ∃ v, e = .returned v ∧ Rows.primCodesSpec.post enc Tryd.prog Tryd.f3 false true false false W args v W' := by
  obtain ⟨aB, g⟩ := glob_of_laid hL
  have hW' := hW
  obtain ⟨p, q, hA0, hV, rfl, hfz, hnd⟩ := hW
  have hA : DataW.TrodAll enc Tryd.prog W 0 (fun _ => true) true Tryd.f3.params.toList args.toList ds p := hA0
  rw [Tryd.params3] at hA hval
  obtain ⟨v0, vs0, d0, ds0, p0, q0, hargs0, rfl, rfl, h0, r0⟩ := trodAll_cons hA
  obtain ⟨v1, vs1, d1, ds1, p1, q1, hargs1, rfl, rfl, h1, r1⟩ := trodAll_cons r0
  obtain ⟨v2, vs2, d2, ds2, p2, q2, hargs2, rfl, rfl, h2, r2⟩ := trodAll_cons r1
  obtain ⟨rfl, rfl, rfl⟩ := trodAll_nil r2
  obtain rfl : args = #[v0, v1, v2] := by cases args; simp_all
  obtain ⟨rfl, rfl⟩ := trodVars_none hV
  obtain ⟨x0, rfl, rfl, rfl, wf0⟩ := open_int Tryd.underlying3 (hval 0 3 v0 rfl rfl) h0
  obtain ⟨x1, rfl, rfl, rfl, wf1⟩ := open_string Tryd.underlying9 (hval 1 9 v1 rfl rfl) h1
  obtain ⟨x2, rfl, rfl, rfl⟩ := open_bool Tryd.underlying4 (hval 2 4 v2 rfl rfl) h2
  clear hA0
  simp only [List.append_nil] at hW'
  refine (walk x0 x1 x2 aB W g wf1).mono fun e W' ⟨he, hg⟩ => ?_
  subst he
  refine ⟨_, rfl, _, _, _, [], [], [], hW', ?_, ?_, ?_, hg.frame _, fun h => by cases h⟩
  · exact trodAll_cons_mk (shut_bool Tryd.underlying4 _) trodAll_mk0
  · exact trodAll_cons_mk (shut_int Tryd.underlying3 wf0) (trodAll_cons_mk (shut_string Tryd.underlying9 wf1) (trodAll_cons_mk (shut_bool Tryd.underlying4 _) (trodAll_mk0)))
  · rfl

theorem reads (os : Os) {H : Type} (enc : TypeId × Value → H) : ∃ places, DataW.whole enc Tryd.prog (({ World.holding Tryd.prog os ⟨#[.cells #[.string sentS0] 116], #[], []⟩ with heap := ((World.holding Tryd.prog os ⟨#[.cells #[.string sentS0] 116], #[], []⟩).heap.modify 0 fun | .cells _ t frozen => .cells #[.iface 95 (.pointer (some ⟨(World.holding Tryd.prog default ⟨#[], #[], []⟩).heap.size + 0, 0, none⟩))] t frozen | o => o).modify 1 fun | .cells _ t frozen => .cells #[.iface 81 (.agg #[.pointer (some ⟨2, 41, none⟩)])] t frozen | o => o } : World).forCall (fun _ _ => 0) ⟨#[], #[.int .i64 0, .string ⟨#[]⟩, .bool false], []⟩).memory Tryd.f3.params.toList Rows.primCodesSpec.vars false #[Value.int .i64 0, Value.string ⟨#[]⟩, Value.bool false].toList 8 = some ([.lit (.int .i64 0), .lit (.string []), .lit (.bool false)], [], places) :=
  ⟨[], by kernel_rfl⟩

set_option maxRecDepth 100000 in
theorem lifted (os : Os) (started : os.Started) (H : Type) (enc : TypeId × Value → H) (F : Stop.Interp) :
    ReturnsInHanded {} Tryd.checked os 3 .any ((OpenSpec.ofChange Rows.primCodesSpec).preRow enc Tryd.prog Tryd.f3 Rows.primCodesRow.domain false Rows.primCodesRow.laid) (((OpenSpec.ofChange Rows.primCodesSpec).at F).post enc Tryd.prog Tryd.f3 false true false false) := by
  obtain ⟨places, hx⟩ := reads os enc
  refine returnsInHanded_of_row (C := Tryd.checked) (s := OpenSpec.ofChange Rows.primCodesSpec) own started (by kernel_rfl) Tryd.func3
    (witness_row_at (enc := enc) (C := Tryd.checked) false ({ World.holding Tryd.prog os ⟨#[.cells #[.string sentS0] 116], #[], []⟩ with heap := ((World.holding Tryd.prog os ⟨#[.cells #[.string sentS0] 116], #[], []⟩).heap.modify 0 fun | .cells _ t frozen => .cells #[.iface 95 (.pointer (some ⟨(World.holding Tryd.prog default ⟨#[], #[], []⟩).heap.size + 0, 0, none⟩))] t frozen | o => o).modify 1 fun | .cells _ t frozen => .cells #[.iface 81 (.agg #[.pointer (some ⟨2, 41, none⟩)])] t frozen | o => o } : World) #[.int .i64 0, .string ⟨#[]⟩, .bool false] rfl (by kernel_rfl) (by kernel_rfl) (by kernel_rfl)
      (OpenSpec.preRow_of_cond 8 hx (by kernel_rfl) (fun k hk => by cases hk) (by kernel_rfl) (laid_met os _))) ?_
  intro W base args ds gs before hval hW _ _ _ hL _ _
  exact contract H enc W base args ds gs before hval hW hL

theorem said : Rows.PrimCodesSaid :=
  OpenClaim.holds_of_cond 3 Tryd.f3 rfl rfl rfl rfl rfl rfl rfl ⟨rfl, rfl, rfl, rfl, rfl⟩ rfl rfl rfl rfl rfl (by kernel_rfl) Tryd.func3 (by kernel_rfl)
    (of_decide_eq_true (by kernel_rfl)) (by unfold Func.isWrapper; first | (rw [if_pos (by decide +kernel)]; kernel_rfl) | (rw [if_neg (by decide +kernel)]; exact ⟨rfl, rfl⟩))
    (fun os started H enc _ F => by rw [OpenClaim.pre_eq_preRow]; exact lifted os started H enc F)

theorem plain (f : FuncId) (fn : Func) (hf : Tryd.pinned.checked.prog.funcNamed "latiner/latinerlaw03.PrimCodes" = some f) (hfn : Tryd.pinned.checked.prog.funcs[f]? = some fn) :
    true = Tryd.pinned.checked.prog.looks [] ∧ ∀ (j : Nat) t, fn.params[j]? = some t → Tryd.pinned.checked.prog.wantsStandIn t = false := by
  obtain rfl : f = 3 := Option.some.inj ((show Tryd.prog.funcNamed "latiner/latinerlaw03.PrimCodes" = some 3 by kernel_rfl).symm.trans hf) |>.symm
  obtain rfl : fn = Tryd.f3 := (Option.some.inj (Tryd.func3.symm.trans hfn)).symm
  refine ⟨by kernel_rfl, fun j t ht => ?_⟩
  rw [Tryd.params3] at ht
  have hm : t = 3 ∨ t = 9 ∨ t = 4 := by have := Array.mem_of_getElem? ht; simp at this; first | exact this | omega | (rcases this with h | h | h <;> simp [h]) | (rcases this with h | h | h | h <;> simp [h])
  rcases hm with rfl | rfl | rfl
  · exact (show Tryd.prog.wantsStandIn 3 = false by kernel_rfl)
  · exact (show Tryd.prog.wantsStandIn 9 = false by kernel_rfl)
  · exact (show Tryd.prog.wantsStandIn 4 = false by kernel_rfl)

/-- The card. -/
theorem card : Rows.PrimCodesCardSaid :=
  Claim7.holds_tied_plain_at .later [] _ _ _ _ said (fun _ h => by cases h) (by kernel_rfl) (fun _ h => by cases h) primCodes_row_tie rfl ⟨rfl, rfl⟩ (by kernel_rfl) rfl plain (by kernel_rfl)
end Go.Proofs.YtjgphpjbcabdeaaDoor.P.codes

namespace Go.Proofs.YtjgphpjbcabdeaaDoor
theorem primCodes_holds : Rows.PrimCodesCardSaid := P.codes.card
#print axioms primCodes_holds
end Go.Proofs.YtjgphpjbcabdeaaDoor
