/-
  latinerlaw03.PrimBack returns true at every number, text and boolean: numbers and their bytes tell each other; so booleans. Conditions: the package-level variables hold what the program's text lays (the card ties them).
-/
import Derived.Test.YtjgphpjbcabdeaaDoorPShown
import Derived.Test.YtjgphpjbcabdeaaDoorPLaid
namespace Go.Proofs.YtjgphpjbcabdeaaDoor.P.back
open Go.ChangeShapes Go.WideShapes Go.ChangeAt Go.ChangeMaps Go.RowKit

set_option maxRecDepth 100000 in
theorem wyy (n k : Int) (s t l _u bb : ByteArray) (b : Bool) (w : World) (hl1 : 1 ≤ (l.size : Int)) (hl4 : (l.size : Int) ≤ 4) (e1 : Hid (Keeps w 9 #[] (.bool true))) (e2 : Hid (Keeps w 10 #[.string s] (.string t)))
    (e3 : Hid (Keeps w 11 #[.int .i64 n] (.tuple #[.string l, .int .i64 0]))) (e4 : Hid (Keeps w 13 #[.string l] (.tuple #[.int .i64 n, .int .i64 0])))
    (e5 : Hid (Keeps w 13 #[.string t] (.tuple #[.int .i64 k, .int .i64 0]))) (e6 : Hid (Keeps w 11 #[.int .i64 k] (.tuple #[.string t, .int .i64 0])))
    (e7 : Hid (Keeps w 17 #[.bool b] (.string bb))) (e8 : Hid (Keeps w 15 #[.string bb] (.tuple #[.bool b, .int .i64 0]))) :
    Calls Tryd.prog 4 #[.int .i64 n, .string s, .bool b] w fun e w' => e = .returned (.bool true) ∧ Below w.heap.size w w' := by
  go_enter Tryd.func4, Tryd.ntmps4
  go_wp2_with fail
  refine ((unhide e1) _ (Below.refl _ _)).mono ?_
  rintro e w1 ⟨rfl, hb1⟩
  go_wp2_with fail
  refine ((unhide e2) _ hb1).mono ?_
  rintro e w2 ⟨rfl, hb2⟩
  go_wp2_with fail
  refine ((unhide e3) _ hb2).mono ?_
  rintro e w3 ⟨rfl, hb3⟩
  go_wp2_with fail
  refine ((unhide e4) _ hb3).mono ?_
  rintro e w4 ⟨rfl, hb4⟩
  go_wp2_with fail
  refine ((unhide e5) _ hb4).mono ?_
  rintro e w5 ⟨rfl, hb5⟩
  go_wp2_with fail
  refine ((unhide e6) _ hb5).mono ?_
  rintro e w6 ⟨rfl, hb6⟩
  go_wp2_with fail
  refine ((unhide e7) _ hb6).mono ?_
  rintro e w7 ⟨rfl, hb7⟩
  go_wp2_with fail
  refine ((unhide e8) _ hb7).mono ?_
  rintro e w8 ⟨rfl, hb8⟩
  go_wp2
  all_goals go_ret
  all_goals refine ⟨?_, hb8⟩
  all_goals rfl

set_option maxRecDepth 100000 in
theorem wyn (n _k : Int) (s t l u bb : ByteArray) (b : Bool) (w : World) (hl1 : 1 ≤ (l.size : Int)) (hl4 : (l.size : Int) ≤ 4) (e1 : Hid (Keeps w 9 #[] (.bool true))) (e2 : Hid (Keeps w 10 #[.string s] (.string t)))
    (e3 : Hid (Keeps w 11 #[.int .i64 n] (.tuple #[.string l, .int .i64 0]))) (e4 : Hid (Keeps w 13 #[.string l] (.tuple #[.int .i64 n, .int .i64 0])))
    (e5 : Hid (Keeps w 13 #[.string t] (.tuple #[.int .i64 0, .int .i64 30]))) (e6 : Hid (Keeps w 11 #[.int .i64 0] (.tuple #[.string u, .int .i64 0])))
    (e7 : Hid (Keeps w 17 #[.bool b] (.string bb))) (e8 : Hid (Keeps w 15 #[.string bb] (.tuple #[.bool b, .int .i64 0]))) :
    Calls Tryd.prog 4 #[.int .i64 n, .string s, .bool b] w fun e w' => e = .returned (.bool true) ∧ Below w.heap.size w w' := by
  go_enter Tryd.func4, Tryd.ntmps4
  go_wp2_with fail
  refine ((unhide e1) _ (Below.refl _ _)).mono ?_
  rintro e w1 ⟨rfl, hb1⟩
  go_wp2_with fail
  refine ((unhide e2) _ hb1).mono ?_
  rintro e w2 ⟨rfl, hb2⟩
  go_wp2_with fail
  refine ((unhide e3) _ hb2).mono ?_
  rintro e w3 ⟨rfl, hb3⟩
  go_wp2_with fail
  refine ((unhide e4) _ hb3).mono ?_
  rintro e w4 ⟨rfl, hb4⟩
  go_wp2_with fail
  refine ((unhide e5) _ hb4).mono ?_
  rintro e w5 ⟨rfl, hb5⟩
  go_wp2_with fail
  refine ((unhide e6) _ hb5).mono ?_
  rintro e w6 ⟨rfl, hb6⟩
  go_wp2_with fail
  refine ((unhide e7) _ hb6).mono ?_
  rintro e w7 ⟨rfl, hb7⟩
  go_wp2_with fail
  refine ((unhide e8) _ hb7).mono ?_
  rintro e w8 ⟨rfl, hb8⟩
  go_wp2
  all_goals go_ret
  all_goals refine ⟨?_, hb8⟩
  all_goals rfl

set_option maxRecDepth 100000 in
theorem wny (n k : Int) (s t l _u bb : ByteArray) (b : Bool) (w : World)  (e1 : Hid (Keeps w 9 #[] (.bool true))) (e2 : Hid (Keeps w 10 #[.string s] (.string t)))
    (e3 : Hid (Keeps w 11 #[.int .i64 n] (.tuple #[.string l, .int .i64 30]))) (e4 : Hid (Keeps w 13 #[.string l] (.tuple #[.int .i64 0, .int .i64 30])))
    (e5 : Hid (Keeps w 13 #[.string t] (.tuple #[.int .i64 k, .int .i64 0]))) (e6 : Hid (Keeps w 11 #[.int .i64 k] (.tuple #[.string t, .int .i64 0])))
    (e7 : Hid (Keeps w 17 #[.bool b] (.string bb))) (e8 : Hid (Keeps w 15 #[.string bb] (.tuple #[.bool b, .int .i64 0]))) :
    Calls Tryd.prog 4 #[.int .i64 n, .string s, .bool b] w fun e w' => e = .returned (.bool true) ∧ Below w.heap.size w w' := by
  go_enter Tryd.func4, Tryd.ntmps4
  go_wp2_with fail
  refine ((unhide e1) _ (Below.refl _ _)).mono ?_
  rintro e w1 ⟨rfl, hb1⟩
  go_wp2_with fail
  refine ((unhide e2) _ hb1).mono ?_
  rintro e w2 ⟨rfl, hb2⟩
  go_wp2_with fail
  refine ((unhide e3) _ hb2).mono ?_
  rintro e w3 ⟨rfl, hb3⟩
  go_wp2_with fail
  refine ((unhide e4) _ hb3).mono ?_
  rintro e w4 ⟨rfl, hb4⟩
  go_wp2_with fail
  refine ((unhide e5) _ hb4).mono ?_
  rintro e w5 ⟨rfl, hb5⟩
  go_wp2_with fail
  refine ((unhide e6) _ hb5).mono ?_
  rintro e w6 ⟨rfl, hb6⟩
  go_wp2_with fail
  refine ((unhide e7) _ hb6).mono ?_
  rintro e w7 ⟨rfl, hb7⟩
  go_wp2_with fail
  refine ((unhide e8) _ hb7).mono ?_
  rintro e w8 ⟨rfl, hb8⟩
  go_wp2
  all_goals go_ret
  all_goals refine ⟨?_, hb8⟩
  all_goals rfl

set_option maxRecDepth 100000 in
theorem wnn (n _k : Int) (s t l u bb : ByteArray) (b : Bool) (w : World)  (e1 : Hid (Keeps w 9 #[] (.bool true))) (e2 : Hid (Keeps w 10 #[.string s] (.string t)))
    (e3 : Hid (Keeps w 11 #[.int .i64 n] (.tuple #[.string l, .int .i64 30]))) (e4 : Hid (Keeps w 13 #[.string l] (.tuple #[.int .i64 0, .int .i64 30])))
    (e5 : Hid (Keeps w 13 #[.string t] (.tuple #[.int .i64 0, .int .i64 30]))) (e6 : Hid (Keeps w 11 #[.int .i64 0] (.tuple #[.string u, .int .i64 0])))
    (e7 : Hid (Keeps w 17 #[.bool b] (.string bb))) (e8 : Hid (Keeps w 15 #[.string bb] (.tuple #[.bool b, .int .i64 0]))) :
    Calls Tryd.prog 4 #[.int .i64 n, .string s, .bool b] w fun e w' => e = .returned (.bool true) ∧ Below w.heap.size w w' := by
  go_enter Tryd.func4, Tryd.ntmps4
  go_wp2_with fail
  refine ((unhide e1) _ (Below.refl _ _)).mono ?_
  rintro e w1 ⟨rfl, hb1⟩
  go_wp2_with fail
  refine ((unhide e2) _ hb1).mono ?_
  rintro e w2 ⟨rfl, hb2⟩
  go_wp2_with fail
  refine ((unhide e3) _ hb2).mono ?_
  rintro e w3 ⟨rfl, hb3⟩
  go_wp2_with fail
  refine ((unhide e4) _ hb3).mono ?_
  rintro e w4 ⟨rfl, hb4⟩
  go_wp2_with fail
  refine ((unhide e5) _ hb4).mono ?_
  rintro e w5 ⟨rfl, hb5⟩
  go_wp2_with fail
  refine ((unhide e6) _ hb5).mono ?_
  rintro e w6 ⟨rfl, hb6⟩
  go_wp2_with fail
  refine ((unhide e7) _ hb6).mono ?_
  rintro e w7 ⟨rfl, hb7⟩
  go_wp2_with fail
  refine ((unhide e8) _ hb7).mono ?_
  rintro e w8 ⟨rfl, hb8⟩
  go_wp2
  all_goals go_ret
  all_goals refine ⟨?_, hb8⟩
  all_goals rfl

abbrev en (n : Int) : ByteArray := ⟨(Pr.enc n).toArray⟩
theorem len (n : Int) : (en n).size = Pr.wd n := by
  show (Pr.enc n).toArray.size = _
  rw [List.size_toArray, Pr.enc_length]
theorem lst (n : Int) : (en n).data.toList = Pr.enc n := by simp
theorem en_of {k : Int} {t : ByteArray} (h : Pr.enc k = t.data.toList) : en k = t := bytes_inj (by rw [lst, h])

theorem walk (n : Int) (s : ByteArray) (b : Bool) (aB : Addr) (w : World) (g : Glob aB w) (wf : s.size ≤ maxLen) :
    Calls Tryd.prog 4 #[.int .i64 n, .string s, .bool b] w fun e w' => e = .returned (.bool true) ∧ Below w.heap.size w w' := by
  have e1 := hide (K_shown g)
  have e2 := hide (K_cut (w := w) s wf)
  have hz := cut_size s
  generalize s.extract 0 10 = t at *
  have e3 : Keeps w 11 #[.int .i64 n] (.tuple #[.string (en n), .int .i64 (intA n)]) := K_int g n
  have hle := Pr.wd_le n
  have hln := len n
  have e4 := K_readInt g (en n) (by omega)
  rw [lst] at e4
  have e5 := K_readInt g t (by omega)
  have e7 := hide (K_bool (w := w) b)
  have e8 : Hid (Keeps w 15 #[.string ⟨#[if b then 255 else 0]⟩] (.tuple #[.bool b, .int .i64 0])) := by
    have := K_readBool g ⟨#[if b then 255 else 0]⟩ (by show 1 ≤ 1000; omega)
    cases b
    · exact this
    · exact this
  unfold intA at e3
  by_cases hn : Pr.wd n = 0
  · rw [if_pos hn] at e3
    have he : Pr.enc n = [] := by unfold Pr.enc; rw [hn]; rfl
    rw [he, Pr.dec_none] at e4
    rcases Pr.dec_shape t.data.toList with hd | hd
    · obtain ⟨h1, h2, _, _⟩ := Pr.dec_ok _ _ hd
      rw [hd] at e5
      have e6 : Keeps w 11 #[.int .i64 (Pr.val t.data.toList)] (.tuple #[.string (en (Pr.val t.data.toList)), .int .i64 (intA (Pr.val t.data.toList))]) := K_int g _
      unfold intA at e6
      rw [if_neg h2, en_of h1] at e6
      exact wny n _ s t _ t _ b w e1 e2 e3 e4 e5 e6 e7 e8
    · rw [hd] at e5
      have e6 : Keeps w 11 #[.int .i64 0] (.tuple #[.string (en 0), .int .i64 0]) := K_int g 0
      exact wnn n 0 s t _ _ _ b w e1 e2 e3 e4 e5 e6 e7 e8
  · rw [if_neg hn] at e3
    rw [Pr.dec_enc n hn] at e4
    rcases Pr.dec_shape t.data.toList with hd | hd
    · obtain ⟨h1, h2, _, _⟩ := Pr.dec_ok _ _ hd
      rw [hd] at e5
      have e6 : Keeps w 11 #[.int .i64 (Pr.val t.data.toList)] (.tuple #[.string (en (Pr.val t.data.toList)), .int .i64 (intA (Pr.val t.data.toList))]) := K_int g _
      unfold intA at e6
      rw [if_neg h2, en_of h1] at e6
      exact wyy n _ s t _ t _ b w (by omega) (by omega) e1 e2 e3 e4 e5 e6 e7 e8
    · rw [hd] at e5
      have e6 : Keeps w 11 #[.int .i64 0] (.tuple #[.string (en 0), .int .i64 0]) := K_int g 0
      exact wyn n 0 s t _ _ _ b w (by omega) (by omega) e1 e2 e3 e4 e5 e6 e7 e8

set_option maxRecDepth 100000 in
/-- What the walk gives, for every argument. -/
theorem contract (H : Type) (enc : TypeId × Value → H) (W : World) (base : Nat) (args : Array Value) (ds gs : List (DataW H)) (before : List MemPlace)
    (hval : ∀ (j : Nat) t v, Tryd.f4.params[j]? = some t → args[j]? = some v → Value.okWide Tryd.prog W .any base t v)
    (hW : DataW.Whole enc Tryd.prog Tryd.f4.params.toList Rows.primBackSpec.vars false W args.toList ds gs before) (hL : laidMetH Tryd.prog Rows.primBackRow.laid W) :
    Calls Tryd.prog 4 args W fun e W' => ∃ v, e = .returned v ∧ Rows.primBackSpec.post enc Tryd.prog Tryd.f4 false true false false W args v W' := by
  obtain ⟨aB, g⟩ := glob_of_laid hL
  have hW' := hW
  obtain ⟨p, q, hA0, hV, rfl, hfz, hnd⟩ := hW
  have hA : DataW.TrodAll enc Tryd.prog W 0 (fun _ => true) true Tryd.f4.params.toList args.toList ds p := hA0
  rw [Tryd.params4] at hA hval
  obtain ⟨v0, vs0, d0, ds0, p0, q0, hargs0, rfl, rfl, h0, r0⟩ := trodAll_cons hA
  obtain ⟨v1, vs1, d1, ds1, p1, q1, hargs1, rfl, rfl, h1, r1⟩ := trodAll_cons r0
  obtain ⟨v2, vs2, d2, ds2, p2, q2, hargs2, rfl, rfl, h2, r2⟩ := trodAll_cons r1
  obtain ⟨rfl, rfl, rfl⟩ := trodAll_nil r2
  obtain rfl : args = #[v0, v1, v2] := by cases args; simp_all
  obtain ⟨rfl, rfl⟩ := trodVars_none hV
  obtain ⟨x0, rfl, rfl, rfl, wf0⟩ := open_int Tryd.underlying3 (hval 0 3 v0 rfl rfl) h0
  obtain ⟨x1, rfl, rfl, rfl, wf1⟩ := open_string Tryd.underlying9 (hval 1 9 v1 rfl rfl) h1
  obtain ⟨x2, rfl, rfl, rfl⟩ := open_bool Tryd.underlying4 (hval 2 4 v2 rfl rfl) h2
  clear hA0
  simp only [List.append_nil] at hW'
  refine (walk x0 x1 x2 aB W g wf1).mono fun e W' ⟨he, hg⟩ => ?_
  subst he
  refine ⟨_, rfl, _, _, _, [], [], [], hW', ?_, ?_, ?_, hg.frame _, fun h => by cases h⟩
  · exact trodAll_cons_mk (shut_bool Tryd.underlying4 _) trodAll_mk0
  · exact trodAll_cons_mk (shut_int Tryd.underlying3 wf0) (trodAll_cons_mk (shut_string Tryd.underlying9 wf1) (trodAll_cons_mk (shut_bool Tryd.underlying4 _) (trodAll_mk0)))
  · rfl

theorem reads (os : Os) {H : Type} (enc : TypeId × Value → H) : ∃ places, DataW.whole enc Tryd.prog (({ World.holding Tryd.prog os ⟨#[.cells #[.string sentS0] 116], #[], []⟩ with heap := ((World.holding Tryd.prog os ⟨#[.cells #[.string sentS0] 116], #[], []⟩).heap.modify 0 fun | .cells _ t frozen => .cells #[.iface 95 (.pointer (some ⟨(World.holding Tryd.prog default ⟨#[], #[], []⟩).heap.size + 0, 0, none⟩))] t frozen | o => o).modify 1 fun | .cells _ t frozen => .cells #[.iface 81 (.agg #[.pointer (some ⟨2, 41, none⟩)])] t frozen | o => o } : World).forCall (fun _ _ => 0) ⟨#[], #[.int .i64 0, .string ⟨#[]⟩, .bool false], []⟩).memory Tryd.f4.params.toList Rows.primBackSpec.vars false #[Value.int .i64 0, Value.string ⟨#[]⟩, Value.bool false].toList 8 = some ([.lit (.int .i64 0), .lit (.string []), .lit (.bool false)], [], places) :=
  ⟨[], by kernel_rfl⟩

set_option maxRecDepth 100000 in
theorem lifted (os : Os) (started : os.Started) (H : Type) (enc : TypeId × Value → H) (F : Stop.Interp) :
    ReturnsInHanded {} Tryd.checked os 4 .any ((OpenSpec.ofChange Rows.primBackSpec).preRow enc Tryd.prog Tryd.f4 Rows.primBackRow.domain false Rows.primBackRow.laid) (((OpenSpec.ofChange Rows.primBackSpec).at F).post enc Tryd.prog Tryd.f4 false true false false) := by
  obtain ⟨places, hx⟩ := reads os enc
  refine returnsInHanded_of_row (C := Tryd.checked) (s := OpenSpec.ofChange Rows.primBackSpec) own started (by kernel_rfl) Tryd.func4
    (witness_row_at (enc := enc) (C := Tryd.checked) false ({ World.holding Tryd.prog os ⟨#[.cells #[.string sentS0] 116], #[], []⟩ with heap := ((World.holding Tryd.prog os ⟨#[.cells #[.string sentS0] 116], #[], []⟩).heap.modify 0 fun | .cells _ t frozen => .cells #[.iface 95 (.pointer (some ⟨(World.holding Tryd.prog default ⟨#[], #[], []⟩).heap.size + 0, 0, none⟩))] t frozen | o => o).modify 1 fun | .cells _ t frozen => .cells #[.iface 81 (.agg #[.pointer (some ⟨2, 41, none⟩)])] t frozen | o => o } : World) #[.int .i64 0, .string ⟨#[]⟩, .bool false] rfl (by kernel_rfl) (by kernel_rfl) (by kernel_rfl)
      (OpenSpec.preRow_of_cond 8 hx (by kernel_rfl) (fun k hk => by cases hk) (by kernel_rfl) (laid_met os _))) ?_
  intro W base args ds gs before hval hW _ _ _ hL _ _
  exact contract H enc W base args ds gs before hval hW hL

theorem said : Rows.PrimBackSaid :=
  OpenClaim.holds_of_cond 4 Tryd.f4 rfl rfl rfl rfl rfl rfl rfl ⟨rfl, rfl, rfl, rfl, rfl⟩ rfl rfl rfl rfl rfl (by kernel_rfl) Tryd.func4 (by kernel_rfl)
    (of_decide_eq_true (by kernel_rfl)) (by unfold Func.isWrapper; first | (rw [if_pos (by decide +kernel)]; kernel_rfl) | (rw [if_neg (by decide +kernel)]; exact ⟨rfl, rfl⟩))
    (fun os started H enc _ F => by rw [OpenClaim.pre_eq_preRow]; exact lifted os started H enc F)

theorem plain (f : FuncId) (fn : Func) (hf : Tryd.pinned.checked.prog.funcNamed "latiner/latinerlaw03.PrimBack" = some f) (hfn : Tryd.pinned.checked.prog.funcs[f]? = some fn) :
    true = Tryd.pinned.checked.prog.looks [] ∧ ∀ (j : Nat) t, fn.params[j]? = some t → Tryd.pinned.checked.prog.wantsStandIn t = false := by
  obtain rfl : f = 4 := Option.some.inj ((show Tryd.prog.funcNamed "latiner/latinerlaw03.PrimBack" = some 4 by kernel_rfl).symm.trans hf) |>.symm
  obtain rfl : fn = Tryd.f4 := (Option.some.inj (Tryd.func4.symm.trans hfn)).symm
  refine ⟨by kernel_rfl, fun j t ht => ?_⟩
  rw [Tryd.params4] at ht
  have hm : t = 3 ∨ t = 9 ∨ t = 4 := by have := Array.mem_of_getElem? ht; simp at this; first | exact this | omega | (rcases this with h | h | h <;> simp [h]) | (rcases this with h | h | h | h <;> simp [h])
  rcases hm with rfl | rfl | rfl
  · exact (show Tryd.prog.wantsStandIn 3 = false by kernel_rfl)
  · exact (show Tryd.prog.wantsStandIn 9 = false by kernel_rfl)
  · exact (show Tryd.prog.wantsStandIn 4 = false by kernel_rfl)

/-- The card. -/
theorem card : Rows.PrimBackCardSaid :=
  Claim7.holds_tied_plain_at .later [] _ _ _ _ said (fun _ h => by cases h) (by kernel_rfl) (fun _ h => by cases h) primBack_row_tie rfl ⟨rfl, rfl⟩ (by kernel_rfl) rfl plain (by kernel_rfl)
end Go.Proofs.YtjgphpjbcabdeaaDoor.P.back

namespace Go.Proofs.YtjgphpjbcabdeaaDoor
theorem primBack_holds : Rows.PrimBackCardSaid := P.back.card
#print axioms primBack_holds
end Go.Proofs.YtjgphpjbcabdeaaDoor
