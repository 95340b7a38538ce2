/-
  latinerlaw03.PrimSizes returns true at every number: a number has one byte from -128 to 127, and one more each time that these are multiplied by 256. Conditions: the package-level variables hold what the program's text lays (the card ties them).
-/
import Derived.Test.YtjgphpjbcabdeaaDoorPShown
import Derived.Test.YtjgphpjbcabdeaaDoorPLaid
namespace Go.Proofs.YtjgphpjbcabdeaaDoor.P.sizes
open Go.ChangeShapes Go.WideShapes Go.ChangeAt Go.ChangeMaps Go.RowKit

theorem len (n : Int) : (⟨(Pr.enc n).toArray⟩ : ByteArray).size = Pr.wd n := by
  show (Pr.enc n).toArray.size = _
  rw [List.size_toArray, Pr.enc_length]

set_option maxRecDepth 100000 in
theorem w0 (n : Int) (w : World) (l : ByteArray) (hr : n < -2147483648 ∨ 2147483647 < n) (e1 : Hid (Keeps w 9 #[] (.bool true))) (e2 : Hid (Keeps w 11 #[.int .i64 n] (.tuple #[.string l, .int .i64 30]))) :
    Calls Tryd.prog 6 #[.int .i64 n] w fun e w' => e = .returned (.bool true) ∧ Below w.heap.size w w' := by
  have HR := hide hr
  clear hr
  go_enter Tryd.func6, Tryd.ntmps6
  go_wp2_with fail
  refine ((unhide e1) _ (Below.refl _ _)).mono ?_
  rintro e w1 ⟨rfl, hb1⟩
  go_wp2_with fail
  refine ((unhide e2) _ hb1).mono ?_
  rintro e w2 ⟨rfl, hb2⟩
  go_wp2
  all_goals go_ret
  all_goals refine ⟨?_, hb2⟩
  · show Ending.returned (.bool (decide (n < -2147483648) || decide (2147483647 < n))) = _
    have := unhide HR
    simp only [Ending.returned.injEq, Value.bool.injEq, Bool.or_eq_true, decide_eq_true_eq]
    exact this
  · rfl

set_option maxRecDepth 100000 in
theorem w1n (n : Int) (w : World) (l : ByteArray) (hl : (l.size : Int) = 1) (h1 : -128 ≤ n) (h2 : n < 0) (e1 : Hid (Keeps w 9 #[] (.bool true))) (e2 : Hid (Keeps w 11 #[.int .i64 n] (.tuple #[.string l, .int .i64 0]))) :
    Calls Tryd.prog 6 #[.int .i64 n] w fun e w' => e = .returned (.bool true) ∧ Below w.heap.size w w' := by
  go_enter Tryd.func6, Tryd.ntmps6
  go_wp2_with fail
  refine ((unhide e1) _ (Below.refl _ _)).mono ?_
  rintro e w1 ⟨rfl, hb1⟩
  go_wp2_with fail
  refine ((unhide e2) _ hb1).mono ?_
  rintro e w2 ⟨rfl, hb2⟩
  go_wp2
  refine wp_loop_rounds 1 ?_
  rw [rounds_succ]
  go_wp2
  go_ret
  exact ⟨rfl, hb2⟩

set_option maxRecDepth 100000 in
theorem w1p (n : Int) (w : World) (l : ByteArray) (hl : (l.size : Int) = 1) (h1 : 0 ≤ n) (h2 : n < 128) (e1 : Hid (Keeps w 9 #[] (.bool true))) (e2 : Hid (Keeps w 11 #[.int .i64 n] (.tuple #[.string l, .int .i64 0]))) :
    Calls Tryd.prog 6 #[.int .i64 n] w fun e w' => e = .returned (.bool true) ∧ Below w.heap.size w w' := by
  go_enter Tryd.func6, Tryd.ntmps6
  go_wp2_with fail
  refine ((unhide e1) _ (Below.refl _ _)).mono ?_
  rintro e w1 ⟨rfl, hb1⟩
  go_wp2_with fail
  refine ((unhide e2) _ hb1).mono ?_
  rintro e w2 ⟨rfl, hb2⟩
  go_wp2
  refine wp_loop_rounds 1 ?_
  rw [rounds_succ]
  go_wp2
  go_ret
  exact ⟨rfl, hb2⟩

set_option maxRecDepth 100000 in
theorem w2n (n : Int) (w : World) (l : ByteArray) (hl : (l.size : Int) = 2) (h1 : -32768 ≤ n) (h2 : n < -128) (e1 : Hid (Keeps w 9 #[] (.bool true))) (e2 : Hid (Keeps w 11 #[.int .i64 n] (.tuple #[.string l, .int .i64 0]))) :
    Calls Tryd.prog 6 #[.int .i64 n] w fun e w' => e = .returned (.bool true) ∧ Below w.heap.size w w' := by
  go_enter Tryd.func6, Tryd.ntmps6
  go_wp2_with fail
  refine ((unhide e1) _ (Below.refl _ _)).mono ?_
  rintro e w1 ⟨rfl, hb1⟩
  go_wp2_with fail
  refine ((unhide e2) _ hb1).mono ?_
  rintro e w2 ⟨rfl, hb2⟩
  go_wp2
  refine wp_loop_rounds 2 ?_
  rw [rounds_succ]
  go_wp2
  rw [rounds_succ]
  go_wp2
  go_ret
  exact ⟨rfl, hb2⟩

set_option maxRecDepth 100000 in
theorem w2p (n : Int) (w : World) (l : ByteArray) (hl : (l.size : Int) = 2) (h1 : 128 ≤ n) (h2 : n < 32768) (e1 : Hid (Keeps w 9 #[] (.bool true))) (e2 : Hid (Keeps w 11 #[.int .i64 n] (.tuple #[.string l, .int .i64 0]))) :
    Calls Tryd.prog 6 #[.int .i64 n] w fun e w' => e = .returned (.bool true) ∧ Below w.heap.size w w' := by
  go_enter Tryd.func6, Tryd.ntmps6
  go_wp2_with fail
  refine ((unhide e1) _ (Below.refl _ _)).mono ?_
  rintro e w1 ⟨rfl, hb1⟩
  go_wp2_with fail
  refine ((unhide e2) _ hb1).mono ?_
  rintro e w2 ⟨rfl, hb2⟩
  go_wp2
  refine wp_loop_rounds 2 ?_
  rw [rounds_succ]
  go_wp2
  rw [rounds_succ]
  go_wp2
  go_ret
  exact ⟨rfl, hb2⟩

set_option maxRecDepth 100000 in
theorem w3n (n : Int) (w : World) (l : ByteArray) (hl : (l.size : Int) = 3) (h1 : -8388608 ≤ n) (h2 : n < -32768) (e1 : Hid (Keeps w 9 #[] (.bool true))) (e2 : Hid (Keeps w 11 #[.int .i64 n] (.tuple #[.string l, .int .i64 0]))) :
    Calls Tryd.prog 6 #[.int .i64 n] w fun e w' => e = .returned (.bool true) ∧ Below w.heap.size w w' := by
  go_enter Tryd.func6, Tryd.ntmps6
  go_wp2_with fail
  refine ((unhide e1) _ (Below.refl _ _)).mono ?_
  rintro e w1 ⟨rfl, hb1⟩
  go_wp2_with fail
  refine ((unhide e2) _ hb1).mono ?_
  rintro e w2 ⟨rfl, hb2⟩
  go_wp2
  refine wp_loop_rounds 3 ?_
  rw [rounds_succ]
  go_wp2
  rw [rounds_succ]
  go_wp2
  rw [rounds_succ]
  go_wp2
  go_ret
  exact ⟨rfl, hb2⟩

set_option maxRecDepth 100000 in
theorem w3p (n : Int) (w : World) (l : ByteArray) (hl : (l.size : Int) = 3) (h1 : 32768 ≤ n) (h2 : n < 8388608) (e1 : Hid (Keeps w 9 #[] (.bool true))) (e2 : Hid (Keeps w 11 #[.int .i64 n] (.tuple #[.string l, .int .i64 0]))) :
    Calls Tryd.prog 6 #[.int .i64 n] w fun e w' => e = .returned (.bool true) ∧ Below w.heap.size w w' := by
  go_enter Tryd.func6, Tryd.ntmps6
  go_wp2_with fail
  refine ((unhide e1) _ (Below.refl _ _)).mono ?_
  rintro e w1 ⟨rfl, hb1⟩
  go_wp2_with fail
  refine ((unhide e2) _ hb1).mono ?_
  rintro e w2 ⟨rfl, hb2⟩
  go_wp2
  refine wp_loop_rounds 3 ?_
  rw [rounds_succ]
  go_wp2
  rw [rounds_succ]
  go_wp2
  rw [rounds_succ]
  go_wp2
  go_ret
  exact ⟨rfl, hb2⟩

set_option maxRecDepth 100000 in
theorem w4n (n : Int) (w : World) (l : ByteArray) (hl : (l.size : Int) = 4) (h1 : -2147483648 ≤ n) (h2 : n < -8388608) (e1 : Hid (Keeps w 9 #[] (.bool true))) (e2 : Hid (Keeps w 11 #[.int .i64 n] (.tuple #[.string l, .int .i64 0]))) :
    Calls Tryd.prog 6 #[.int .i64 n] w fun e w' => e = .returned (.bool true) ∧ Below w.heap.size w w' := by
  go_enter Tryd.func6, Tryd.ntmps6
  go_wp2_with fail
  refine ((unhide e1) _ (Below.refl _ _)).mono ?_
  rintro e w1 ⟨rfl, hb1⟩
  go_wp2_with fail
  refine ((unhide e2) _ hb1).mono ?_
  rintro e w2 ⟨rfl, hb2⟩
  go_wp2
  refine wp_loop_rounds 4 ?_
  rw [rounds_succ]
  go_wp2
  rw [rounds_succ]
  go_wp2
  rw [rounds_succ]
  go_wp2
  rw [rounds_succ]
  go_wp2
  go_ret
  exact ⟨rfl, hb2⟩

set_option maxRecDepth 100000 in
theorem w4p (n : Int) (w : World) (l : ByteArray) (hl : (l.size : Int) = 4) (h1 : 8388608 ≤ n) (h2 : n < 2147483648) (e1 : Hid (Keeps w 9 #[] (.bool true))) (e2 : Hid (Keeps w 11 #[.int .i64 n] (.tuple #[.string l, .int .i64 0]))) :
    Calls Tryd.prog 6 #[.int .i64 n] w fun e w' => e = .returned (.bool true) ∧ Below w.heap.size w w' := by
  go_enter Tryd.func6, Tryd.ntmps6
  go_wp2_with fail
  refine ((unhide e1) _ (Below.refl _ _)).mono ?_
  rintro e w1 ⟨rfl, hb1⟩
  go_wp2_with fail
  refine ((unhide e2) _ hb1).mono ?_
  rintro e w2 ⟨rfl, hb2⟩
  go_wp2
  refine wp_loop_rounds 4 ?_
  rw [rounds_succ]
  go_wp2
  rw [rounds_succ]
  go_wp2
  rw [rounds_succ]
  go_wp2
  rw [rounds_succ]
  go_wp2
  go_ret
  exact ⟨rfl, hb2⟩

theorem walk (n : Int) (aB : Addr) (w : World) (g : Glob aB w) :
    Calls Tryd.prog 6 #[.int .i64 n] w fun e w' => e = .returned (.bool true) ∧ Below w.heap.size w w' := by
  have e1 := hide (K_shown g)
  have e2 := hide (K_int g n)
  have hl := len n
  unfold intA at e2
  rcases Pr.wd_cases n with ⟨e, hr⟩ | ⟨e, hr⟩ | ⟨e, hr⟩ | ⟨e, hr⟩ | ⟨e, hr⟩ <;> rw [e] at e2 hl
  · by_cases hn : n < 0
    · exact w1n n w _ (by rw [hl]; rfl) (by omega) (by omega) e1 e2
    · exact w1p n w _ (by rw [hl]; rfl) (by omega) (by omega) e1 e2
  · by_cases hn : n < 0
    · exact w2n n w _ (by rw [hl]; rfl) (by omega) (by omega) e1 e2
    · exact w2p n w _ (by rw [hl]; rfl) (by omega) (by omega) e1 e2
  · by_cases hn : n < 0
    · exact w3n n w _ (by rw [hl]; rfl) (by omega) (by omega) e1 e2
    · exact w3p n w _ (by rw [hl]; rfl) (by omega) (by omega) e1 e2
  · by_cases hn : n < 0
    · exact w4n n w _ (by rw [hl]; rfl) (by omega) (by omega) e1 e2
    · exact w4p n w _ (by rw [hl]; rfl) (by omega) (by omega) e1 e2
  · exact w0 n w _ (by omega) e1 e2

set_option maxRecDepth 100000 in
/-- What the walk gives, for every argument. -/
theorem contract (H : Type) (enc : TypeId × Value → H) (W : World) (base : Nat) (args : Array Value) (ds gs : List (DataW H)) (before : List MemPlace)
    (hval : ∀ (j : Nat) t v, Tryd.f6.params[j]? = some t → args[j]? = some v → Value.okWide Tryd.prog W .any base t v)
    (hW : DataW.Whole enc Tryd.prog Tryd.f6.params.toList Rows.primSizesSpec.vars false W args.toList ds gs before) (hL : laidMetH Tryd.prog Rows.primSizesRow.laid W) :
    Calls Tryd.prog 6 args W fun e W' => ∃ v, e = .returned v ∧ Rows.primSizesSpec.post enc Tryd.prog Tryd.f6 false true false false W args v W' := by
  obtain ⟨aB, g⟩ := glob_of_laid hL
  have hW' := hW
  obtain ⟨p, q, hA0, hV, rfl, hfz, hnd⟩ := hW
  have hA : DataW.TrodAll enc Tryd.prog W 0 (fun _ => true) true Tryd.f6.params.toList args.toList ds p := hA0
  rw [Tryd.params6] at hA hval
  obtain ⟨v0, vs0, d0, ds0, p0, q0, hargs0, rfl, rfl, h0, r0⟩ := trodAll_cons hA
  obtain ⟨rfl, rfl, rfl⟩ := trodAll_nil r0
  obtain rfl : args = #[v0] := by cases args; simp_all
  obtain ⟨rfl, rfl⟩ := trodVars_none hV
  obtain ⟨x0, rfl, rfl, rfl, wf0⟩ := open_int Tryd.underlying3 (hval 0 3 v0 rfl rfl) h0
  clear hA0
  simp only [List.append_nil] at hW'
  refine (walk x0 aB W g).mono fun e W' ⟨he, hg⟩ => ?_
  subst he
  refine ⟨_, rfl, _, _, _, [], [], [], hW', ?_, ?_, ?_, hg.frame _, fun h => by cases h⟩
  · exact trodAll_cons_mk (shut_bool Tryd.underlying4 _) trodAll_mk0
  · exact trodAll_cons_mk (shut_int Tryd.underlying3 wf0) (trodAll_mk0)
  · rfl

theorem reads (os : Os) {H : Type} (enc : TypeId × Value → H) : ∃ places, DataW.whole enc Tryd.prog (({ World.holding Tryd.prog os ⟨#[.cells #[.string sentS0] 116], #[], []⟩ with heap := ((World.holding Tryd.prog os ⟨#[.cells #[.string sentS0] 116], #[], []⟩).heap.modify 0 fun | .cells _ t frozen => .cells #[.iface 95 (.pointer (some ⟨(World.holding Tryd.prog default ⟨#[], #[], []⟩).heap.size + 0, 0, none⟩))] t frozen | o => o).modify 1 fun | .cells _ t frozen => .cells #[.iface 81 (.agg #[.pointer (some ⟨2, 41, none⟩)])] t frozen | o => o } : World).forCall (fun _ _ => 0) ⟨#[], #[.int .i64 0], []⟩).memory Tryd.f6.params.toList Rows.primSizesSpec.vars false #[Value.int .i64 0].toList 8 = some ([.lit (.int .i64 0)], [], places) :=
  ⟨[], by kernel_rfl⟩

set_option maxRecDepth 100000 in
theorem lifted (os : Os) (started : os.Started) (H : Type) (enc : TypeId × Value → H) (F : Stop.Interp) :
    ReturnsInHanded {} Tryd.checked os 6 .any ((OpenSpec.ofChange Rows.primSizesSpec).preRow enc Tryd.prog Tryd.f6 Rows.primSizesRow.domain false Rows.primSizesRow.laid) (((OpenSpec.ofChange Rows.primSizesSpec).at F).post enc Tryd.prog Tryd.f6 false true false false) := by
  obtain ⟨places, hx⟩ := reads os enc
  refine returnsInHanded_of_row (C := Tryd.checked) (s := OpenSpec.ofChange Rows.primSizesSpec) own started (by kernel_rfl) Tryd.func6
    (witness_row_at (enc := enc) (C := Tryd.checked) false ({ World.holding Tryd.prog os ⟨#[.cells #[.string sentS0] 116], #[], []⟩ with heap := ((World.holding Tryd.prog os ⟨#[.cells #[.string sentS0] 116], #[], []⟩).heap.modify 0 fun | .cells _ t frozen => .cells #[.iface 95 (.pointer (some ⟨(World.holding Tryd.prog default ⟨#[], #[], []⟩).heap.size + 0, 0, none⟩))] t frozen | o => o).modify 1 fun | .cells _ t frozen => .cells #[.iface 81 (.agg #[.pointer (some ⟨2, 41, none⟩)])] t frozen | o => o } : World) #[.int .i64 0] rfl (by kernel_rfl) (by kernel_rfl) (by kernel_rfl)
      (OpenSpec.preRow_of_cond 8 hx (by kernel_rfl) (fun k hk => by cases hk) (by kernel_rfl) (laid_met os _))) ?_
  intro W base args ds gs before hval hW _ _ _ hL _ _
  exact contract H enc W base args ds gs before hval hW hL

theorem said : Rows.PrimSizesSaid :=
  OpenClaim.holds_of_cond 6 Tryd.f6 rfl rfl rfl rfl rfl rfl rfl ⟨rfl, rfl, rfl, rfl, rfl⟩ rfl rfl rfl rfl rfl (by kernel_rfl) Tryd.func6 (by kernel_rfl)
    (of_decide_eq_true (by kernel_rfl)) (by unfold Func.isWrapper; first | (rw [if_pos (by decide +kernel)]; kernel_rfl) | (rw [if_neg (by decide +kernel)]; exact ⟨rfl, rfl⟩))
    (fun os started H enc _ F => by rw [OpenClaim.pre_eq_preRow]; exact lifted os started H enc F)

theorem plain (f : FuncId) (fn : Func) (hf : Tryd.pinned.checked.prog.funcNamed "latiner/latinerlaw03.PrimSizes" = some f) (hfn : Tryd.pinned.checked.prog.funcs[f]? = some fn) :
    true = Tryd.pinned.checked.prog.looks [] ∧ ∀ (j : Nat) t, fn.params[j]? = some t → Tryd.pinned.checked.prog.wantsStandIn t = false := by
  obtain rfl : f = 6 := Option.some.inj ((show Tryd.prog.funcNamed "latiner/latinerlaw03.PrimSizes" = some 6 by kernel_rfl).symm.trans hf) |>.symm
  obtain rfl : fn = Tryd.f6 := (Option.some.inj (Tryd.func6.symm.trans hfn)).symm
  refine ⟨by kernel_rfl, fun j t ht => ?_⟩
  rw [Tryd.params6] at ht
  have hm : t = 3 := by have := Array.mem_of_getElem? ht; simp at this; first | exact this | omega | (rcases this with h | h | h <;> simp [h]) | (rcases this with h | h | h | h <;> simp [h])
  subst hm
  exact (show Tryd.prog.wantsStandIn 3 = false by kernel_rfl)

/-- The card. -/
theorem card : Rows.PrimSizesCardSaid :=
  Claim7.holds_tied_plain_at .later [] _ _ _ _ said (fun _ h => by cases h) (by kernel_rfl) (fun _ h => by cases h) primSizes_row_tie rfl ⟨rfl, rfl⟩ (by kernel_rfl) rfl plain (by kernel_rfl)
end Go.Proofs.YtjgphpjbcabdeaaDoor.P.sizes

namespace Go.Proofs.YtjgphpjbcabdeaaDoor
theorem primSizes_holds : Rows.PrimSizesCardSaid := P.sizes.card
#print axioms primSizes_holds
end Go.Proofs.YtjgphpjbcabdeaaDoor
