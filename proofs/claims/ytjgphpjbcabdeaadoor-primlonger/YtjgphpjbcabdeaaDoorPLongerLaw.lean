/-
  latinerlaw03.PrimLonger returns true at every number: a number's bytes with one more ahead that says nothing are none. Conditions: the package-level variables hold what the program's text lays (the card ties them).
-/
import Derived.Test.YtjgphpjbcabdeaaDoorPShown
import Derived.Test.YtjgphpjbcabdeaaDoorPLaid
namespace Go.Proofs.YtjgphpjbcabdeaaDoor.P.longer
open Go.ChangeShapes Go.WideShapes Go.ChangeAt Go.ChangeMaps Go.RowKit

theorem len (n : Int) : (⟨(Pr.enc n).toArray⟩ : ByteArray).size = Pr.wd n := by
  show (Pr.enc n).toArray.size = _
  rw [List.size_toArray, Pr.enc_length]

set_option maxRecDepth 100000 in
theorem wn (n : Int) (w : World) (l m : ByteArray) (hn : n < 0) (hl : (l.size : Int) ≤ 4) (hm : (⟨#[255]⟩ : ByteArray) ++ l = m) (e1 : Hid (Keeps w 9 #[] (.bool true))) (e2 : Hid (Keeps w 11 #[.int .i64 n] (.tuple #[.string l, .int .i64 0])))
    (e3 : Hid (Keeps w 13 #[.string m] (.tuple #[.int .i64 0, .int .i64 30]))) :
    Calls Tryd.prog 7 #[.int .i64 n] w fun e w' => e = .returned (.bool true) ∧ Below w.heap.size w w' := by
  go_enter Tryd.func7, Tryd.ntmps7
  go_wp2_with fail
  refine ((unhide e1) _ (Below.refl _ _)).mono ?_
  rintro e w1 ⟨rfl, hb1⟩
  go_wp2_with fail
  refine ((unhide e2) _ hb1).mono ?_
  rintro e w2 ⟨rfl, hb2⟩
  go_wp2_with fail
  refine ((unhide e3) _ hb2).mono ?_
  rintro e w3 ⟨rfl, hb3⟩
  go_wp2
  go_ret
  exact ⟨rfl, hb3⟩

set_option maxRecDepth 100000 in
theorem wp (n : Int) (w : World) (l m : ByteArray) (hn : ¬ n < 0) (hl : (l.size : Int) ≤ 4) (hm : (⟨#[0]⟩ : ByteArray) ++ l = m) (e1 : Hid (Keeps w 9 #[] (.bool true))) (e2 : Hid (Keeps w 11 #[.int .i64 n] (.tuple #[.string l, .int .i64 0])))
    (e3 : Hid (Keeps w 13 #[.string m] (.tuple #[.int .i64 0, .int .i64 30]))) :
    Calls Tryd.prog 7 #[.int .i64 n] w fun e w' => e = .returned (.bool true) ∧ Below w.heap.size w w' := by
  go_enter Tryd.func7, Tryd.ntmps7
  go_wp2_with fail
  refine ((unhide e1) _ (Below.refl _ _)).mono ?_
  rintro e w1 ⟨rfl, hb1⟩
  go_wp2_with fail
  refine ((unhide e2) _ hb1).mono ?_
  rintro e w2 ⟨rfl, hb2⟩
  go_wp2_with fail
  refine ((unhide e3) _ hb2).mono ?_
  rintro e w3 ⟨rfl, hb3⟩
  go_wp2
  go_ret
  exact ⟨rfl, hb3⟩

set_option maxRecDepth 100000 in
theorem w0 (n : Int) (w : World) (e1 : Hid (Keeps w 9 #[] (.bool true))) (e2 : Hid (Keeps w 11 #[.int .i64 n] (.tuple #[.string ⟨#[]⟩, .int .i64 30]))) :
    Calls Tryd.prog 7 #[.int .i64 n] w fun e w' => e = .returned (.bool true) ∧ Below w.heap.size w w' := by
  go_enter Tryd.func7, Tryd.ntmps7
  go_wp2_with fail
  refine ((unhide e1) _ (Below.refl _ _)).mono ?_
  rintro e w1 ⟨rfl, hb1⟩
  go_wp2_with fail
  refine ((unhide e2) _ hb1).mono ?_
  rintro e w2 ⟨rfl, hb2⟩
  go_wp2
  go_ret
  exact ⟨rfl, hb2⟩

theorem ahead (b : UInt8) (l : List UInt8) : ((⟨#[b]⟩ : ByteArray) ++ ⟨l.toArray⟩).data.toList = b :: l := by
  rw [ByteArray.data_append]; simp
theorem ahead_size (b : UInt8) (l : List UInt8) (h : l.length ≤ 4) : ((⟨#[b]⟩ : ByteArray) ++ ⟨l.toArray⟩).size ≤ 1000 := by
  have e := congrArg List.length (ahead b l)
  simp at e
  show ((⟨#[b]⟩ : ByteArray) ++ ⟨l.toArray⟩).data.size ≤ 1000
  simp
  omega

theorem walk (n : Int) (aB : Addr) (w : World) (g : Glob aB w) :
    Calls Tryd.prog 7 #[.int .i64 n] w fun e w' => e = .returned (.bool true) ∧ Below w.heap.size w w' := by
  have e1 := hide (K_shown g)
  have e2 := hide (K_int g n)
  unfold intA at e2
  by_cases h : Pr.wd n = 0
  · rw [if_pos h, show Pr.enc n = [] by unfold Pr.enc; rw [h]; rfl] at e2
    exact w0 n w e1 e2
  · rw [if_neg h] at e2
    have hl : (⟨(Pr.enc n).toArray⟩ : ByteArray).size ≤ 4 := by rw [len]; exact Pr.wd_le n
    have hd := Pr.dec_longer n h
    have hw : (Pr.enc n).length ≤ 4 := by rw [Pr.enc_length]; exact Pr.wd_le n
    by_cases hn : n < 0
    · rw [if_pos hn] at hd
      have e3 := K_readInt g ((⟨#[255]⟩ : ByteArray) ++ ⟨(Pr.enc n).toArray⟩) (ahead_size _ _ hw)
      rw [ahead, hd] at e3
      exact wn n w _ _ hn (by omega) rfl e1 e2 e3
    · rw [if_neg hn] at hd
      have e3 := K_readInt g ((⟨#[0]⟩ : ByteArray) ++ ⟨(Pr.enc n).toArray⟩) (ahead_size _ _ hw)
      rw [ahead, hd] at e3
      exact wp n w _ _ hn (by omega) rfl e1 e2 e3

set_option maxRecDepth 100000 in
/-- What the walk gives, for every argument. -/
theorem contract (H : Type) (enc : TypeId × Value → H) (W : World) (base : Nat) (args : Array Value) (ds gs : List (DataW H)) (before : List MemPlace)
    (hval : ∀ (j : Nat) t v, Tryd.f7.params[j]? = some t → args[j]? = some v → Value.okWide Tryd.prog W .any base t v)
    (hW : DataW.Whole enc Tryd.prog Tryd.f7.params.toList Rows.primLongerSpec.vars false W args.toList ds gs before) (hL : laidMetH Tryd.prog Rows.primLongerRow.laid W) :
    Calls Tryd.prog 7 args W fun e W' => ∃ v, e = .returned v ∧ Rows.primLongerSpec.post enc Tryd.prog Tryd.f7 false true false false W args v W' := by
  obtain ⟨aB, g⟩ := glob_of_laid hL
  have hW' := hW
  obtain ⟨p, q, hA0, hV, rfl, hfz, hnd⟩ := hW
  have hA : DataW.TrodAll enc Tryd.prog W 0 (fun _ => true) true Tryd.f7.params.toList args.toList ds p := hA0
  rw [Tryd.params7] at hA hval
  obtain ⟨v0, vs0, d0, ds0, p0, q0, hargs0, rfl, rfl, h0, r0⟩ := trodAll_cons hA
  obtain ⟨rfl, rfl, rfl⟩ := trodAll_nil r0
  obtain rfl : args = #[v0] := by cases args; simp_all
  obtain ⟨rfl, rfl⟩ := trodVars_none hV
  obtain ⟨x0, rfl, rfl, rfl, wf0⟩ := open_int Tryd.underlying3 (hval 0 3 v0 rfl rfl) h0
  clear hA0
  simp only [List.append_nil] at hW'
  refine (walk x0 aB W g).mono fun e W' ⟨he, hg⟩ => ?_
  subst he
  refine ⟨_, rfl, _, _, _, [], [], [], hW', ?_, ?_, ?_, hg.frame _, fun h => by cases h⟩
  · exact trodAll_cons_mk (shut_bool Tryd.underlying4 _) trodAll_mk0
  · exact trodAll_cons_mk (shut_int Tryd.underlying3 wf0) (trodAll_mk0)
  · rfl

theorem reads (os : Os) {H : Type} (enc : TypeId × Value → H) : ∃ places, DataW.whole enc Tryd.prog (({ World.holding Tryd.prog os ⟨#[.cells #[.string sentS0] 116], #[], []⟩ with heap := ((World.holding Tryd.prog os ⟨#[.cells #[.string sentS0] 116], #[], []⟩).heap.modify 0 fun | .cells _ t frozen => .cells #[.iface 95 (.pointer (some ⟨(World.holding Tryd.prog default ⟨#[], #[], []⟩).heap.size + 0, 0, none⟩))] t frozen | o => o).modify 1 fun | .cells _ t frozen => .cells #[.iface 81 (.agg #[.pointer (some ⟨2, 41, none⟩)])] t frozen | o => o } : World).forCall (fun _ _ => 0) ⟨#[], #[.int .i64 0], []⟩).memory Tryd.f7.params.toList Rows.primLongerSpec.vars false #[Value.int .i64 0].toList 8 = some ([.lit (.int .i64 0)], [], places) :=
  ⟨[], by kernel_rfl⟩

set_option maxRecDepth 100000 in
theorem lifted (os : Os) (started : os.Started) (H : Type) (enc : TypeId × Value → H) (F : Stop.Interp) :
    ReturnsInHanded {} Tryd.checked os 7 .any ((OpenSpec.ofChange Rows.primLongerSpec).preRow enc Tryd.prog Tryd.f7 Rows.primLongerRow.domain false Rows.primLongerRow.laid) (((OpenSpec.ofChange Rows.primLongerSpec).at F).post enc Tryd.prog Tryd.f7 false true false false) := by
  obtain ⟨places, hx⟩ := reads os enc
  refine returnsInHanded_of_row (C := Tryd.checked) (s := OpenSpec.ofChange Rows.primLongerSpec) own started (by kernel_rfl) Tryd.func7
    (witness_row_at (enc := enc) (C := Tryd.checked) false ({ World.holding Tryd.prog os ⟨#[.cells #[.string sentS0] 116], #[], []⟩ with heap := ((World.holding Tryd.prog os ⟨#[.cells #[.string sentS0] 116], #[], []⟩).heap.modify 0 fun | .cells _ t frozen => .cells #[.iface 95 (.pointer (some ⟨(World.holding Tryd.prog default ⟨#[], #[], []⟩).heap.size + 0, 0, none⟩))] t frozen | o => o).modify 1 fun | .cells _ t frozen => .cells #[.iface 81 (.agg #[.pointer (some ⟨2, 41, none⟩)])] t frozen | o => o } : World) #[.int .i64 0] rfl (by kernel_rfl) (by kernel_rfl) (by kernel_rfl)
      (OpenSpec.preRow_of_cond 8 hx (by kernel_rfl) (fun k hk => by cases hk) (by kernel_rfl) (laid_met os _))) ?_
  intro W base args ds gs before hval hW _ _ _ hL _ _
  exact contract H enc W base args ds gs before hval hW hL

theorem said : Rows.PrimLongerSaid :=
  OpenClaim.holds_of_cond 7 Tryd.f7 rfl rfl rfl rfl rfl rfl rfl ⟨rfl, rfl, rfl, rfl, rfl⟩ rfl rfl rfl rfl rfl (by kernel_rfl) Tryd.func7 (by kernel_rfl)
    (of_decide_eq_true (by kernel_rfl)) (by unfold Func.isWrapper; first | (rw [if_pos (by decide +kernel)]; kernel_rfl) | (rw [if_neg (by decide +kernel)]; exact ⟨rfl, rfl⟩))
    (fun os started H enc _ F => by rw [OpenClaim.pre_eq_preRow]; exact lifted os started H enc F)

theorem plain (f : FuncId) (fn : Func) (hf : Tryd.pinned.checked.prog.funcNamed "latiner/latinerlaw03.PrimLonger" = some f) (hfn : Tryd.pinned.checked.prog.funcs[f]? = some fn) :
    true = Tryd.pinned.checked.prog.looks [] ∧ ∀ (j : Nat) t, fn.params[j]? = some t → Tryd.pinned.checked.prog.wantsStandIn t = false := by
  obtain rfl : f = 7 := Option.some.inj ((show Tryd.prog.funcNamed "latiner/latinerlaw03.PrimLonger" = some 7 by kernel_rfl).symm.trans hf) |>.symm
  obtain rfl : fn = Tryd.f7 := (Option.some.inj (Tryd.func7.symm.trans hfn)).symm
  refine ⟨by kernel_rfl, fun j t ht => ?_⟩
  rw [Tryd.params7] at ht
  have hm : t = 3 := by have := Array.mem_of_getElem? ht; simp at this; first | exact this | omega | (rcases this with h | h | h <;> simp [h]) | (rcases this with h | h | h | h <;> simp [h])
  subst hm
  exact (show Tryd.prog.wantsStandIn 3 = false by kernel_rfl)

/-- The card. -/
theorem card : Rows.PrimLongerCardSaid :=
  Claim7.holds_tied_plain_at .later [] _ _ _ _ said (fun _ h => by cases h) (by kernel_rfl) (fun _ h => by cases h) primLonger_row_tie rfl ⟨rfl, rfl⟩ (by kernel_rfl) rfl plain (by kernel_rfl)
end Go.Proofs.YtjgphpjbcabdeaaDoor.P.longer

namespace Go.Proofs.YtjgphpjbcabdeaaDoor
theorem primLonger_holds : Rows.PrimLongerCardSaid := P.longer.card
#print axioms primLonger_holds
end Go.Proofs.YtjgphpjbcabdeaaDoor
