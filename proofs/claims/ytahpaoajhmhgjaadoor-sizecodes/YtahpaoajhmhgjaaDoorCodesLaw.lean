/-
  latinerlaw01.SizeCodes returns true at every number, text and place: the program's Encode, Decode, Size and IsLeast answer as the document's. Conditions: the package-level variables hold what the program's text lays (the card ties them).
-/
import Derived.Test.YtahpaoajhmhgjaaDoorUni
import Derived.Test.YtahpaoajhmhgjaaDoorRefDec
import Derived.Test.YtahpaoajhmhgjaaDoorLaid
namespace Go.Proofs.YtahpaoajhmhgjaaDoor.codes
open Go.ChangeShapes Go.WideShapes Go.ChangeAt Go.ChangeMaps Go.RowKit

theorem refIsLeast_any (s : ByteArray) (a : Int) (w : World) (hs : s.size ≤ 1000) :
    Calls Tryd.prog 18 #[.string s, .int .i64 a] w fun e w' => e = .returned (.bool (isL s.data.toList a)) ∧ Below w.heap.size w w' := by
  obtain ⟨n, p, E, hd⟩ : ∃ n p E, Sz.dec s.data.toList a = (n, p, E) := ⟨_, _, _, rfl⟩
  obtain ⟨h1, h2⟩ := Sz.dec_shape _ _ _ _ _ hd
  by_cases hE : E = 0
  · obtain ⟨k, n', p', rfl, rfl, rfl, hkp, hpl, hn, _, _⟩ := h2 hE
    clear h1 h2
    subst hE
    have e : isL s.data.toList k = ((s.extract k p').toList == Sz.least n') := by
      unfold isL
      rw [hd, ext_list]
      simp only [decide_true, Bool.true_and, Int.toNat_natCast]
      rw [show ((p' : Int) - k).toNat = p' - k by omega]
    rw [e]
    exact refIsLeast_yes s k p' n' w hs hd hn (by omega) (by simpa using hpl)
  · have e : isL s.data.toList a = false := by
      unfold isL
      rw [hd]
      simp [hE]
    rw [e]
    exact refIsLeast_no s a w hs n p E hd hE

set_option maxRecDepth 100000 in
set_option maxHeartbeats 2000000 in
theorem walk_yes (n : Int) (s : ByteArray) (a : Int) (aS aF : Addr) (w : World) (g : Glob aS aF w) (hs : s.size ≤ maxLen) (hn : 0 ≤ n ∧ n ≤ 16777215) :
    Calls Tryd.prog 3 #[.int .i64 n, .string s, .int .i64 a] w fun e w' => e = .returned (.bool true) ∧ Below w.heap.size w w' := by
  have e1 := K_shown g
  have e2 := K_cut (w := w) s hs
  have c1 := cut_size s
  generalize s.extract 0 100 = S at *
  have e5 := K_decode g S a (by omega)
  have e6 : Keeps w 14 #[.string S, .int .i64 a] (tup (Sz.dec S.data.toList a)) := keep_same fun w1 => refDecode_any S a w1 (by omega)
  have e9 := K_isLeast g S a (by omega)
  have e10 : Keeps w 18 #[.string S, .int .i64 a] (.bool (isL S.data.toList a)) := keep g fun w1 _ => refIsLeast_any S a w1 (by omega)
  have e3 := K_encode g n hn.1 hn.2
  have e4 : Keeps w 12 #[.int .i64 n] (.tuple #[.string (lst n.toNat), .int .i64 0]) := keep g fun w1 _ => refEncode_ok n w1 hn.1 hn.2
  have e7 := K_size g n hn.1 hn.2
  have e8 : Keeps w 16 #[.int .i64 n] (.tuple #[.int .i64 ((Sz.least n.toNat).length : Nat), .int .i64 0]) := keep g fun w1 _ => refSize_ok n w1 hn.1 hn.2
  rw [sz_length] at e7
  generalize ((Sz.least n.toNat).length : Int) = z at *
  generalize lst n.toNat = L at *
  generalize isL S.data.toList a = b at *
  generalize Sz.dec S.data.toList a = d at *
  obtain ⟨d1, d2, d3⟩ := d
  clear g hn
  have hb0 := Below.refl w.heap.size w
  go_enter Tryd.func3, Tryd.ntmps3
  go_wp2_with fail
  refine (e1 _ hb0).mono ?_
  rintro e w1 ⟨rfl, hb1⟩
  go_wp2_with fail
  refine (e2 _ hb1).mono ?_
  rintro e w2 ⟨rfl, hb2⟩
  go_wp2_with fail
  refine (e3 _ hb2).mono ?_
  rintro e w3 ⟨rfl, hb3⟩
  go_wp2_with fail
  refine (e4 _ hb3).mono ?_
  rintro e w4 ⟨rfl, hb4⟩
  go_wp2_with fail
  refine (e5 _ hb4).mono ?_
  rintro e w5 ⟨rfl, hb5⟩
  go_wp2_with fail
  refine (e6 _ hb5).mono ?_
  rintro e w6 ⟨rfl, hb6⟩
  go_wp2_with fail
  refine (e7 _ hb6).mono ?_
  rintro e w7 ⟨rfl, hb7⟩
  go_wp2_with fail
  refine (e8 _ hb7).mono ?_
  rintro e w8 ⟨rfl, hb8⟩
  go_wp2_with fail
  refine (e9 _ hb8).mono ?_
  rintro e w9 ⟨rfl, hb9⟩
  go_wp2_with fail
  refine (e10 _ hb9).mono ?_
  rintro e w10 ⟨rfl, hb10⟩
  go_wp2
  go_ret
  exact ⟨by simp, hb10⟩

set_option maxRecDepth 100000 in
set_option maxHeartbeats 2000000 in
theorem walk_none (n : Int) (s : ByteArray) (a : Int) (aS aF : Addr) (w : World) (g : Glob aS aF w) (hs : s.size ≤ maxLen) (hn : ¬ (0 ≤ n ∧ n ≤ 16777215)) :
    Calls Tryd.prog 3 #[.int .i64 n, .string s, .int .i64 a] w fun e w' => e = .returned (.bool true) ∧ Below w.heap.size w w' := by
  have e1 := K_shown g
  have e2 := K_cut (w := w) s hs
  have c1 := cut_size s
  generalize s.extract 0 100 = S at *
  have e5 := K_decode g S a (by omega)
  have e6 : Keeps w 14 #[.string S, .int .i64 a] (tup (Sz.dec S.data.toList a)) := keep_same fun w1 => refDecode_any S a w1 (by omega)
  have e9 := K_isLeast g S a (by omega)
  have e10 : Keeps w 18 #[.string S, .int .i64 a] (.bool (isL S.data.toList a)) := keep g fun w1 _ => refIsLeast_any S a w1 (by omega)
  have e3 := K_encode_no g n hn
  have e4 : Keeps w 12 #[.int .i64 n] (.tuple #[.string ⟨#[]⟩, .int .i64 12]) := keep g fun w1 _ => refEncode_no n w1 hn
  have e7 := K_size_no g n hn
  have e8 : Keeps w 16 #[.int .i64 n] (.tuple #[.int .i64 0, .int .i64 12]) := keep g fun w1 _ => refSize_no n w1 hn
  generalize isL S.data.toList a = b at *
  generalize Sz.dec S.data.toList a = d at *
  obtain ⟨d1, d2, d3⟩ := d
  clear g hn
  have hb0 := Below.refl w.heap.size w
  go_enter Tryd.func3, Tryd.ntmps3
  go_wp2_with fail
  refine (e1 _ hb0).mono ?_
  rintro e w1 ⟨rfl, hb1⟩
  go_wp2_with fail
  refine (e2 _ hb1).mono ?_
  rintro e w2 ⟨rfl, hb2⟩
  go_wp2_with fail
  refine (e3 _ hb2).mono ?_
  rintro e w3 ⟨rfl, hb3⟩
  go_wp2_with fail
  refine (e4 _ hb3).mono ?_
  rintro e w4 ⟨rfl, hb4⟩
  go_wp2_with fail
  refine (e5 _ hb4).mono ?_
  rintro e w5 ⟨rfl, hb5⟩
  go_wp2_with fail
  refine (e6 _ hb5).mono ?_
  rintro e w6 ⟨rfl, hb6⟩
  go_wp2_with fail
  refine (e7 _ hb6).mono ?_
  rintro e w7 ⟨rfl, hb7⟩
  go_wp2_with fail
  refine (e8 _ hb7).mono ?_
  rintro e w8 ⟨rfl, hb8⟩
  go_wp2_with fail
  refine (e9 _ hb8).mono ?_
  rintro e w9 ⟨rfl, hb9⟩
  go_wp2_with fail
  refine (e10 _ hb9).mono ?_
  rintro e w10 ⟨rfl, hb10⟩
  go_wp2
  go_ret
  exact ⟨by simp, hb10⟩

theorem walk (n : Int) (s : ByteArray) (a : Int) (aS aF : Addr) (w : World) (g : Glob aS aF w) (hs : s.size ≤ maxLen) :
    Calls Tryd.prog 3 #[.int .i64 n, .string s, .int .i64 a] w fun e w' => e = .returned (.bool true) ∧ Below w.heap.size w w' := by
  by_cases hn : 0 ≤ n ∧ n ≤ 16777215
  · exact walk_yes n s a aS aF w g hs hn
  · exact walk_none n s a aS aF w g hs hn

set_option maxRecDepth 100000 in
/-- What the walk gives, for every argument. -/
theorem contract (H : Type) (enc : TypeId × Value → H) (W : World) (base : Nat) (args : Array Value) (ds gs : List (DataW H)) (before : List MemPlace)
    (hval : ∀ (j : Nat) t v, Tryd.f3.params[j]? = some t → args[j]? = some v → Value.okWide Tryd.prog W .any base t v)
    (hW : DataW.Whole enc Tryd.prog Tryd.f3.params.toList Rows.sizeCodesSpec.vars false W args.toList ds gs before) (hL : laidMetH Tryd.prog Rows.sizeCodesRow.laid W) :
    Calls Tryd.prog 3 args W fun e W' => ∃ v, e = .returned v ∧ Rows.sizeCodesSpec.post enc Tryd.prog Tryd.f3 false true false false W args v W' := by
  obtain ⟨aS, aF, g⟩ := glob_of_laid hL
  have hW' := hW
  obtain ⟨p, q, hA0, hV, rfl, hfz, hnd⟩ := hW
  have hA : DataW.TrodAll enc Tryd.prog W 0 (fun _ => true) true Tryd.f3.params.toList args.toList ds p := hA0
  rw [Tryd.params3] at hA hval
  obtain ⟨v0, vs0, d0, ds0, p0, q0, hargs0, rfl, rfl, h0, r0⟩ := trodAll_cons hA
  obtain ⟨v1, vs1, d1, ds1, p1, q1, hargs1, rfl, rfl, h1, r1⟩ := trodAll_cons r0
  obtain ⟨v2, vs2, d2, ds2, p2, q2, hargs2, rfl, rfl, h2, r2⟩ := trodAll_cons r1
  obtain ⟨rfl, rfl, rfl⟩ := trodAll_nil r2
  obtain rfl : args = #[v0, v1, v2] := by cases args; simp_all
  obtain ⟨rfl, rfl⟩ := trodVars_none hV
  obtain ⟨x0, rfl, rfl, rfl, wf0⟩ := open_int Tryd.underlying3 (hval 0 3 v0 rfl rfl) h0
  obtain ⟨x1, rfl, rfl, rfl, wf1⟩ := open_string Tryd.underlying9 (hval 1 9 v1 rfl rfl) h1
  obtain ⟨x2, rfl, rfl, rfl, wf2⟩ := open_int Tryd.underlying3 (hval 2 3 v2 rfl rfl) h2
  clear hA0
  simp only [List.append_nil] at hW'
  refine (walk x0 x1 x2 aS aF W g wf1).mono fun e W' ⟨he, hg⟩ => ?_
  subst he
  refine ⟨_, rfl, _, _, _, [], [], [], hW', ?_, ?_, ?_, hg.frame _, fun h => by cases h⟩
  · exact trodAll_cons_mk (shut_bool Tryd.underlying4 _) trodAll_mk0
  · exact trodAll_cons_mk (shut_int Tryd.underlying3 wf0) (trodAll_cons_mk (shut_string Tryd.underlying9 wf1) (trodAll_cons_mk (shut_int Tryd.underlying3 wf2) (trodAll_mk0)))
  · rfl

theorem reads (os : Os) {H : Type} (enc : TypeId × Value → H) : ∃ places, DataW.whole enc Tryd.prog (({ World.holding Tryd.prog os ⟨#[.cells #[.string shortS] 117, .cells #[.string formS] 117], #[], []⟩ with heap := (((World.holding Tryd.prog os ⟨#[.cells #[.string shortS] 117, .cells #[.string formS] 117], #[], []⟩).heap.modify 1 fun | .cells _ t frozen => .cells #[.iface 96 (.pointer (some ⟨(World.holding Tryd.prog default ⟨#[], #[], []⟩).heap.size, 0, none⟩))] t frozen | o => o).modify 0 fun | .cells _ t frozen => .cells #[.iface 96 (.pointer (some ⟨(World.holding Tryd.prog default ⟨#[], #[], []⟩).heap.size + 1, 0, none⟩))] t frozen | o => o).modify 2 fun | .cells _ t frozen => .cells #[.iface 81 (.agg #[.pointer (some ⟨3, 38, none⟩)])] t frozen | o => o } : World).forCall (fun _ _ => 0) ⟨#[], #[.int .i64 0, .string ⟨#[]⟩, .int .i64 0], []⟩).memory Tryd.f3.params.toList Rows.sizeCodesSpec.vars false #[Value.int .i64 0, Value.string ⟨#[]⟩, Value.int .i64 0].toList 8 = some ([.lit (.int .i64 0), .lit (.string []), .lit (.int .i64 0)], [], places) :=
  ⟨[], by kernel_rfl⟩

set_option maxRecDepth 100000 in
theorem lifted (os : Os) (started : os.Started) (H : Type) (enc : TypeId × Value → H) (F : Stop.Interp) :
    ReturnsInHanded {} Tryd.checked os 3 .any ((OpenSpec.ofChange Rows.sizeCodesSpec).preRow enc Tryd.prog Tryd.f3 Rows.sizeCodesRow.domain false Rows.sizeCodesRow.laid) (((OpenSpec.ofChange Rows.sizeCodesSpec).at F).post enc Tryd.prog Tryd.f3 false true false false) := by
  obtain ⟨places, hx⟩ := reads os enc
  refine returnsInHanded_of_row (C := Tryd.checked) (s := OpenSpec.ofChange Rows.sizeCodesSpec) own started (by kernel_rfl) Tryd.func3
    (witness_row_at (enc := enc) (C := Tryd.checked) false ({ World.holding Tryd.prog os ⟨#[.cells #[.string shortS] 117, .cells #[.string formS] 117], #[], []⟩ with heap := (((World.holding Tryd.prog os ⟨#[.cells #[.string shortS] 117, .cells #[.string formS] 117], #[], []⟩).heap.modify 1 fun | .cells _ t frozen => .cells #[.iface 96 (.pointer (some ⟨(World.holding Tryd.prog default ⟨#[], #[], []⟩).heap.size, 0, none⟩))] t frozen | o => o).modify 0 fun | .cells _ t frozen => .cells #[.iface 96 (.pointer (some ⟨(World.holding Tryd.prog default ⟨#[], #[], []⟩).heap.size + 1, 0, none⟩))] t frozen | o => o).modify 2 fun | .cells _ t frozen => .cells #[.iface 81 (.agg #[.pointer (some ⟨3, 38, none⟩)])] t frozen | o => o } : World) #[.int .i64 0, .string ⟨#[]⟩, .int .i64 0] rfl (by kernel_rfl) (by kernel_rfl) (by kernel_rfl)
      (OpenSpec.preRow_of_cond 8 hx (by kernel_rfl) (fun k hk => by cases hk) (by kernel_rfl) (laid_met os _))) ?_
  intro W base args ds gs before hval hW _ _ _ hL _ _
  exact contract H enc W base args ds gs before hval hW hL

theorem said : Rows.SizeCodesSaid :=
  OpenClaim.holds_of_cond 3 Tryd.f3 rfl rfl rfl rfl rfl rfl rfl ⟨rfl, rfl, rfl, rfl, rfl⟩ rfl rfl rfl rfl rfl (by kernel_rfl) Tryd.func3 (by kernel_rfl)
    (of_decide_eq_true (by kernel_rfl)) (by unfold Func.isWrapper; first | (rw [if_pos (by decide +kernel)]; kernel_rfl) | (rw [if_neg (by decide +kernel)]; exact ⟨rfl, rfl⟩))
    (fun os started H enc _ F => by rw [OpenClaim.pre_eq_preRow]; exact lifted os started H enc F)

theorem plain (f : FuncId) (fn : Func) (hf : Tryd.pinned.checked.prog.funcNamed "latiner/latinerlaw01.SizeCodes" = some f) (hfn : Tryd.pinned.checked.prog.funcs[f]? = some fn) :
    true = Tryd.pinned.checked.prog.looks [] ∧ ∀ (j : Nat) t, fn.params[j]? = some t → Tryd.pinned.checked.prog.wantsStandIn t = false := by
  obtain rfl : f = 3 := Option.some.inj ((show Tryd.prog.funcNamed "latiner/latinerlaw01.SizeCodes" = some 3 by kernel_rfl).symm.trans hf) |>.symm
  obtain rfl : fn = Tryd.f3 := (Option.some.inj (Tryd.func3.symm.trans hfn)).symm
  refine ⟨by kernel_rfl, fun j t ht => ?_⟩
  rw [Tryd.params3] at ht
  have hm : t = 3 ∨ t = 9 := by have := Array.mem_of_getElem? ht; simp at this; first | exact this | omega | (rcases this with h | h | h <;> simp [h]) | (rcases this with h | h | h | h <;> simp [h])
  rcases hm with rfl | rfl
  · exact (show Tryd.prog.wantsStandIn 3 = false by kernel_rfl)
  · exact (show Tryd.prog.wantsStandIn 9 = false by kernel_rfl)

/-- The card. -/
theorem card : Rows.SizeCodesCardSaid :=
  Claim7.holds_tied_plain_at .later [] _ _ _ _ said (fun _ h => by cases h) (by kernel_rfl) (fun _ h => by cases h) sizeCodes_row_tie rfl ⟨rfl, rfl⟩ (by kernel_rfl) rfl plain (by kernel_rfl)
end Go.Proofs.YtahpaoajhmhgjaaDoor.codes

namespace Go.Proofs.YtahpaoajhmhgjaaDoor
theorem sizeCodes_holds : Rows.SizeCodesCardSaid := codes.card
#print axioms sizeCodes_holds
end Go.Proofs.YtahpaoajhmhgjaaDoor
