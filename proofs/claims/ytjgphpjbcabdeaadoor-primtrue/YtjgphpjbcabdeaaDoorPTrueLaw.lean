/-
  latinerlaw03.PrimTrue returns true at every text: one byte is a boolean, true but for 00, and nothing else is. Conditions: the package-level variables hold what the program's text lays (the card ties them).
-/
import Derived.Test.YtjgphpjbcabdeaaDoorPShown
import Derived.Test.YtjgphpjbcabdeaaDoorPLaid
import Derived.BigQuiet
namespace Go.Proofs.YtjgphpjbcabdeaaDoor.P.tru
open Go.ChangeShapes Go.WideShapes Go.ChangeAt Go.ChangeMaps Go.RowKit

theorem first1 (x : UInt8) : (⟨#[x]⟩ : ByteArray)[0]'(Nat.zero_lt_one) = x := rfl
theorem below_drewN {B : Nat} {u w : World} (h : Below B u w) (n : Nat) : Below B u (w.drewN n) := ⟨h.os, h.tape, h.output, h.size, h.block⟩
set_option maxRecDepth 100000 in
theorem w0 (s : ByteArray) (x : UInt8) (hx : x = 0) (w : World) (e1 : Hid (Keeps w 9 #[] (.bool true))) (e2 : Hid (Keeps w 10 #[.string s] (.string ⟨#[x]⟩)))
    (e3 : Hid (Keeps w 15 #[.string ⟨#[x]⟩] (.tuple #[.bool false, .int .i64 0]))) :
    Calls Tryd.prog 8 #[.string s] w fun e w' => e = .returned (.bool true) ∧ Below w.heap.size w w' := by
  subst hx
  have q0 := first1 0
  go_enter Tryd.func8, Tryd.ntmps8
  go_wp2_with fail
  refine ((unhide e1) _ (Below.refl _ _)).mono ?_
  rintro e w1 ⟨rfl, hb1⟩
  go_wp2_with fail
  refine ((unhide e2) _ hb1).mono ?_
  rintro e w2 ⟨rfl, hb2⟩
  go_wp2_with fail
  refine ((unhide e3) _ hb2).mono ?_
  rintro e w3 ⟨rfl, hb3⟩
  go_wp2_with fail
  go_quiet ((focus (go_at_call 17; exact Calls.quiet_of_same (bool_any _ _))))
  go_wp2
  go_ret
  exact ⟨rfl, below_drewN hb3 _⟩

set_option maxRecDepth 100000 in
theorem w255 (s : ByteArray) (x : UInt8) (hx : x = 255) (w : World) (e1 : Hid (Keeps w 9 #[] (.bool true))) (e2 : Hid (Keeps w 10 #[.string s] (.string ⟨#[x]⟩)))
    (e3 : Hid (Keeps w 15 #[.string ⟨#[x]⟩] (.tuple #[.bool true, .int .i64 0]))) :
    Calls Tryd.prog 8 #[.string s] w fun e w' => e = .returned (.bool true) ∧ Below w.heap.size w w' := by
  subst hx
  have q0 := first1 255
  go_enter Tryd.func8, Tryd.ntmps8
  go_wp2_with fail
  refine ((unhide e1) _ (Below.refl _ _)).mono ?_
  rintro e w1 ⟨rfl, hb1⟩
  go_wp2_with fail
  refine ((unhide e2) _ hb1).mono ?_
  rintro e w2 ⟨rfl, hb2⟩
  go_wp2_with fail
  refine ((unhide e3) _ hb2).mono ?_
  rintro e w3 ⟨rfl, hb3⟩
  go_wp2_with fail
  go_quiet ((focus (go_at_call 17; exact Calls.quiet_of_same (bool_any _ _))))
  go_wp2
  go_ret
  exact ⟨rfl, below_drewN hb3 _⟩

set_option maxRecDepth 100000 in
theorem wx (s : ByteArray) (x : UInt8) (h0 : x ≠ 0) (hx : x ≠ 255) (w : World) (e1 : Hid (Keeps w 9 #[] (.bool true))) (e2 : Hid (Keeps w 10 #[.string s] (.string ⟨#[x]⟩)))
    (e3 : Hid (Keeps w 15 #[.string ⟨#[x]⟩] (.tuple #[.bool true, .int .i64 0]))) :
    Calls Tryd.prog 8 #[.string s] w fun e w' => e = .returned (.bool true) ∧ Below w.heap.size w w' := by
  have n0 : x.toNat ≠ 0 := fun h => h0 (UInt8.toNat.inj h)
  have n1 : x.toNat ≠ 255 := fun h => hx (UInt8.toNat.inj h)
  have p0 : (0 : Int) < x.toNat := by omega
  have p1 : ((x.toNat : Int) == 0) = false := beq_eq_false_iff_ne.2 (by omega)
  have p2 : ((x.toNat : Int) == 255) = false := beq_eq_false_iff_ne.2 (by omega)
  have p3 : decide (0 < x.toNat) = true := decide_eq_true (by omega)
  have p4 : (255 == x) = false := beq_eq_false_iff_ne.2 (fun h => hx h.symm)
  have q0 := first1 x
  clear n0 n1
  go_enter Tryd.func8, Tryd.ntmps8
  go_wp2_with fail
  refine ((unhide e1) _ (Below.refl _ _)).mono ?_
  rintro e w1 ⟨rfl, hb1⟩
  go_wp2_with fail
  refine ((unhide e2) _ hb1).mono ?_
  rintro e w2 ⟨rfl, hb2⟩
  go_wp2_with fail
  refine ((unhide e3) _ hb2).mono ?_
  rintro e w3 ⟨rfl, hb3⟩
  go_wp2_with fail
  go_quiet ((focus (go_at_call 17; exact Calls.quiet_of_same (bool_any _ _))))
  go_wp2
  go_ret
  exact ⟨rfl, below_drewN hb3 _⟩

theorem walk (s : ByteArray) (aB : Addr) (w : World) (g : Glob aB w) (wf : s.size ≤ maxLen) :
    Calls Tryd.prog 8 #[.string s] w fun e w' => e = .returned (.bool true) ∧ Below w.heap.size w w' := by
  have e1 := hide (K_shown g)
  have e2 := hide (K_cut (w := w) s wf)
  have hz := cut_size s
  generalize s.extract 0 10 = t at *
  clear wf
  have e3 := hide (K_readBool g t (by omega))
  by_cases h : t.size = 1
  · obtain ⟨x, rfl⟩ := one_of_size h
    by_cases h0 : x = 0
    · exact w0 s x h0 w e1 e2 (by subst h0; exact e3)
    · have hb : (x != 0) = true := by simpa using h0
      have e3' : Hid (Keeps w 15 #[.string ⟨#[x]⟩] (.tuple #[.bool (x != 0), .int .i64 0])) := e3
      rw [hb] at e3'
      by_cases hx : x = 255
      · exact w255 s x hx w e1 e2 e3'
      · exact wx s x h0 hx w e1 e2 e3'
  · rw [rb_no (by simpa using h)] at e3
    clear g
    have t1 : ((t.size : Int) == 1) = false := beq_eq_false_iff_ne.2 (by omega)
    have hz' : (t.size : Int) ≤ 10 := by omega
    clear h hz
    go_enter Tryd.func8, Tryd.ntmps8
    go_wp2_with fail
    refine ((unhide e1) _ (Below.refl _ _)).mono ?_
    rintro e w1 ⟨rfl, hb1⟩
    go_wp2_with fail
    refine ((unhide e2) _ hb1).mono ?_
    rintro e w2 ⟨rfl, hb2⟩
    go_wp2_with fail
    refine ((unhide e3) _ hb2).mono ?_
    rintro e w3 ⟨rfl, hb3⟩
    go_wp2
    go_ret
    exact ⟨rfl, hb3⟩

set_option maxRecDepth 100000 in
/-- What the walk gives, for every argument. -/
theorem contract (H : Type) (enc : TypeId × Value → H) (W : World) (base : Nat) (args : Array Value) (ds gs : List (DataW H)) (before : List MemPlace)
    (hval : ∀ (j : Nat) t v, Tryd.f8.params[j]? = some t → args[j]? = some v → Value.okWide Tryd.prog W .any base t v)
    (hW : DataW.Whole enc Tryd.prog Tryd.f8.params.toList Rows.primTrueSpec.vars false W args.toList ds gs before) (hL : laidMetH Tryd.prog Rows.primTrueRow.laid W) :
    Calls Tryd.prog 8 args W fun e W' => ∃ v, e = .returned v ∧ Rows.primTrueSpec.post enc Tryd.prog Tryd.f8 false true false false W args v W' := by
  obtain ⟨aB, g⟩ := glob_of_laid hL
  have hW' := hW
  obtain ⟨p, q, hA0, hV, rfl, hfz, hnd⟩ := hW
  have hA : DataW.TrodAll enc Tryd.prog W 0 (fun _ => true) true Tryd.f8.params.toList args.toList ds p := hA0
  rw [Tryd.params8] at hA hval
  obtain ⟨v0, vs0, d0, ds0, p0, q0, hargs0, rfl, rfl, h0, r0⟩ := trodAll_cons hA
  obtain ⟨rfl, rfl, rfl⟩ := trodAll_nil r0
  obtain rfl : args = #[v0] := by cases args; simp_all
  obtain ⟨rfl, rfl⟩ := trodVars_none hV
  obtain ⟨x0, rfl, rfl, rfl, wf0⟩ := open_string Tryd.underlying9 (hval 0 9 v0 rfl rfl) h0
  clear hA0
  simp only [List.append_nil] at hW'
  refine (walk x0 aB W g wf0).mono fun e W' ⟨he, hg⟩ => ?_
  subst he
  refine ⟨_, rfl, _, _, _, [], [], [], hW', ?_, ?_, ?_, hg.frame _, fun h => by cases h⟩
  · exact trodAll_cons_mk (shut_bool Tryd.underlying4 _) trodAll_mk0
  · exact trodAll_cons_mk (shut_string Tryd.underlying9 wf0) (trodAll_mk0)
  · rfl

theorem reads (os : Os) {H : Type} (enc : TypeId × Value → H) : ∃ places, DataW.whole enc Tryd.prog (({ World.holding Tryd.prog os ⟨#[.cells #[.string sentS0] 116], #[], []⟩ with heap := ((World.holding Tryd.prog os ⟨#[.cells #[.string sentS0] 116], #[], []⟩).heap.modify 0 fun | .cells _ t frozen => .cells #[.iface 95 (.pointer (some ⟨(World.holding Tryd.prog default ⟨#[], #[], []⟩).heap.size + 0, 0, none⟩))] t frozen | o => o).modify 1 fun | .cells _ t frozen => .cells #[.iface 81 (.agg #[.pointer (some ⟨2, 41, none⟩)])] t frozen | o => o } : World).forCall (fun _ _ => 0) ⟨#[], #[.string ⟨#[]⟩], []⟩).memory Tryd.f8.params.toList Rows.primTrueSpec.vars false #[Value.string ⟨#[]⟩].toList 8 = some ([.lit (.string [])], [], places) :=
  ⟨[], by kernel_rfl⟩

set_option maxRecDepth 100000 in
theorem lifted (os : Os) (started : os.Started) (H : Type) (enc : TypeId × Value → H) (F : Stop.Interp) :
    ReturnsInHanded {} Tryd.checked os 8 .any ((OpenSpec.ofChange Rows.primTrueSpec).preRow enc Tryd.prog Tryd.f8 Rows.primTrueRow.domain false Rows.primTrueRow.laid) (((OpenSpec.ofChange Rows.primTrueSpec).at F).post enc Tryd.prog Tryd.f8 false true false false) := by
  obtain ⟨places, hx⟩ := reads os enc
  refine returnsInHanded_of_row (C := Tryd.checked) (s := OpenSpec.ofChange Rows.primTrueSpec) own started (by kernel_rfl) Tryd.func8
    (witness_row_at (enc := enc) (C := Tryd.checked) false ({ World.holding Tryd.prog os ⟨#[.cells #[.string sentS0] 116], #[], []⟩ with heap := ((World.holding Tryd.prog os ⟨#[.cells #[.string sentS0] 116], #[], []⟩).heap.modify 0 fun | .cells _ t frozen => .cells #[.iface 95 (.pointer (some ⟨(World.holding Tryd.prog default ⟨#[], #[], []⟩).heap.size + 0, 0, none⟩))] t frozen | o => o).modify 1 fun | .cells _ t frozen => .cells #[.iface 81 (.agg #[.pointer (some ⟨2, 41, none⟩)])] t frozen | o => o } : World) #[.string ⟨#[]⟩] rfl (by kernel_rfl) (by kernel_rfl) (by kernel_rfl)
      (OpenSpec.preRow_of_cond 8 hx (by kernel_rfl) (fun k hk => by cases hk) (by kernel_rfl) (laid_met os _))) ?_
  intro W base args ds gs before hval hW _ _ _ hL _ _
  exact contract H enc W base args ds gs before hval hW hL

theorem said : Rows.PrimTrueSaid :=
  OpenClaim.holds_of_cond 8 Tryd.f8 rfl rfl rfl rfl rfl rfl rfl ⟨rfl, rfl, rfl, rfl, rfl⟩ rfl rfl rfl rfl rfl (by kernel_rfl) Tryd.func8 (by kernel_rfl)
    (of_decide_eq_true (by kernel_rfl)) (by unfold Func.isWrapper; first | (rw [if_pos (by decide +kernel)]; kernel_rfl) | (rw [if_neg (by decide +kernel)]; exact ⟨rfl, rfl⟩))
    (fun os started H enc _ F => by rw [OpenClaim.pre_eq_preRow]; exact lifted os started H enc F)

theorem plain (f : FuncId) (fn : Func) (hf : Tryd.pinned.checked.prog.funcNamed "latiner/latinerlaw03.PrimTrue" = some f) (hfn : Tryd.pinned.checked.prog.funcs[f]? = some fn) :
    true = Tryd.pinned.checked.prog.looks [] ∧ ∀ (j : Nat) t, fn.params[j]? = some t → Tryd.pinned.checked.prog.wantsStandIn t = false := by
  obtain rfl : f = 8 := Option.some.inj ((show Tryd.prog.funcNamed "latiner/latinerlaw03.PrimTrue" = some 8 by kernel_rfl).symm.trans hf) |>.symm
  obtain rfl : fn = Tryd.f8 := (Option.some.inj (Tryd.func8.symm.trans hfn)).symm
  refine ⟨by kernel_rfl, fun j t ht => ?_⟩
  rw [Tryd.params8] at ht
  have hm : t = 9 := by have := Array.mem_of_getElem? ht; simp at this; first | exact this | omega | (rcases this with h | h | h <;> simp [h]) | (rcases this with h | h | h | h <;> simp [h])
  subst hm
  exact (show Tryd.prog.wantsStandIn 9 = false by kernel_rfl)

/-- The card. -/
theorem card : Rows.PrimTrueCardSaid :=
  Claim7.holds_tied_plain_at .later [] _ _ _ _ said (fun _ h => by cases h) (by kernel_rfl) (fun _ h => by cases h) primTrue_row_tie rfl ⟨rfl, rfl⟩ (by kernel_rfl) rfl plain (by kernel_rfl)
end Go.Proofs.YtjgphpjbcabdeaaDoor.P.tru

namespace Go.Proofs.YtjgphpjbcabdeaaDoor
theorem primTrue_holds : Rows.PrimTrueCardSaid := P.tru.card
#print axioms primTrue_holds
end Go.Proofs.YtjgphpjbcabdeaaDoor
