/-
  latinerlaw04.UtfBad returns true at every two texts: what stands ahead of the bad place is right, and with its byte, and no more, it is not; right texts, one behind the other, are right. Conditions: the package-level variables hold what the program's text lays (the card ties them).
-/
import Derived.Test.YtpfopmjpchiekaaDoorULaid
import Derived.Test.YtpfopmjpchiekaaDoorURight
import Derived.Laws.DeepStrings4
namespace Go.Proofs.YtpfopmjpchiekaaDoor.U.bad
open Go Go.RowKit Go.ChangeShapes Go.WideShapes Go.ChangeAt Go.ChangeMaps

set_option maxRecDepth 100000 in
set_option maxHeartbeats 2000000 in
theorem wn (s t p q : ByteArray) (w : World) (e0 : Hid (Keeps w 10 #[] (.bool true))) (e1 : Hid (Keeps w 11 #[.string s] (.string p))) (e2 : Hid (Keeps w 11 #[.string t] (.string q))) (e3 : Hid (Keeps w 19 #[.string p] (.int .i64 (-1)))) (e4 : Hid (Keeps w 19 #[.string (p ++ q)] (.int .i64 (-1)))) (e5 : Hid (Keeps w 19 #[.string q] (.int .i64 (-1)))) (e6 : Hid (Keeps w 17 #[.string p] (.bool true))) (hz : (p.size : Int) ≤ 100) (hy : (q.size : Int) ≤ 100) :
    Calls Tryd.prog 5 #[.string s, .string t] w fun e w' => e = .returned (.bool true) ∧ Below w.heap.size w w' := by
  go_enter Tryd.func5, Tryd.ntmps5
  go_wp2_with fail
  refine ((unhide e0) _ (Below.refl _ _)).mono ?_
  rintro e w1 ⟨rfl, hb⟩
  have B1 := hide (step (Below.refl _ _) hb)
  clear hb
  go_wp2_with fail
  refine ((unhide e1) _ (unhide B1)).mono ?_
  rintro e w2 ⟨rfl, hb⟩
  have B2 := hide (step (unhide B1) hb)
  clear hb
  go_wp2_with fail
  refine ((unhide e2) _ (unhide B2)).mono ?_
  rintro e w3 ⟨rfl, hb⟩
  have B3 := hide (step (unhide B2) hb)
  clear hb
  go_wp2_with fail
  refine ((unhide e3) _ (unhide B3)).mono ?_
  rintro e w4 ⟨rfl, hb⟩
  have B4 := hide (step (unhide B3) hb)
  clear hb
  go_wp2_with fail
  refine ((unhide e4) _ (unhide B4)).mono ?_
  rintro e w5 ⟨rfl, hb⟩
  have B5 := hide (step (unhide B4) hb)
  clear hb
  go_wp2_with fail
  refine ((unhide e5) _ (unhide B5)).mono ?_
  rintro e w6 ⟨rfl, hb⟩
  have B6 := hide (step (unhide B5) hb)
  clear hb
  go_wp2_with fail
  refine ((unhide e6) _ (unhide B6)).mono ?_
  rintro e w7 ⟨rfl, hb⟩
  have B7 := hide (step (unhide B6) hb)
  clear hb
  go_wp2
  go_ret
  exact ⟨rfl, unhide B7⟩

set_option maxRecDepth 100000 in
set_option maxHeartbeats 2000000 in
theorem wy (s t p q : ByteArray) (w : World) (e0 : Hid (Keeps w 10 #[] (.bool true))) (e1 : Hid (Keeps w 11 #[.string s] (.string p))) (e2 : Hid (Keeps w 11 #[.string t] (.string q))) (k : Nat) (hk : (k : Int) ≤ 100) (e3 : Hid (Keeps w 19 #[.string p] (.int .i64 (-1)))) (e4 : Hid (Keeps w 19 #[.string (p ++ q)] (.int .i64 ((p.size : Int) + k)))) (e5 : Hid (Keeps w 19 #[.string q] (.int .i64 (k : Int)))) (e6 : Hid (Keeps w 17 #[.string p] (.bool true))) (hz : (p.size : Int) ≤ 100) (hy : (q.size : Int) ≤ 100) :
    Calls Tryd.prog 5 #[.string s, .string t] w fun e w' => e = .returned (.bool true) ∧ Below w.heap.size w w' := by
  go_enter Tryd.func5, Tryd.ntmps5
  go_wp2_with fail
  refine ((unhide e0) _ (Below.refl _ _)).mono ?_
  rintro e w1 ⟨rfl, hb⟩
  have B1 := hide (step (Below.refl _ _) hb)
  clear hb
  go_wp2_with fail
  refine ((unhide e1) _ (unhide B1)).mono ?_
  rintro e w2 ⟨rfl, hb⟩
  have B2 := hide (step (unhide B1) hb)
  clear hb
  go_wp2_with fail
  refine ((unhide e2) _ (unhide B2)).mono ?_
  rintro e w3 ⟨rfl, hb⟩
  have B3 := hide (step (unhide B2) hb)
  clear hb
  go_wp2_with fail
  refine ((unhide e3) _ (unhide B3)).mono ?_
  rintro e w4 ⟨rfl, hb⟩
  have B4 := hide (step (unhide B3) hb)
  clear hb
  go_wp2_with fail
  refine ((unhide e4) _ (unhide B4)).mono ?_
  rintro e w5 ⟨rfl, hb⟩
  have B5 := hide (step (unhide B4) hb)
  clear hb
  go_wp2_with fail
  refine ((unhide e5) _ (unhide B5)).mono ?_
  rintro e w6 ⟨rfl, hb⟩
  have B6 := hide (step (unhide B5) hb)
  clear hb
  go_wp2_with fail
  refine ((unhide e6) _ (unhide B6)).mono ?_
  rintro e w7 ⟨rfl, hb⟩
  have B7 := hide (step (unhide B6) hb)
  clear hb
  go_wp2
  go_ret
  exact ⟨rfl, unhide B7⟩

set_option maxRecDepth 100000 in
set_option maxHeartbeats 2000000 in
theorem wb (s t p q : ByteArray) (w : World) (e0 : Hid (Keeps w 10 #[] (.bool true))) (e1 : Hid (Keeps w 11 #[.string s] (.string p))) (e2 : Hid (Keeps w 11 #[.string t] (.string q))) (k : Nat) (hk : (k : Int) < p.size) (e3 : Hid (Keeps w 19 #[.string p] (.int .i64 (k : Int)))) (e4 : Hid (Keeps w 17 #[.string p] (.bool false))) (e5 : Hid (Keeps w 17 #[.string (p.extract 0 k)] (.bool true))) (e6 : Hid (Keeps w 17 #[.string (p.extract 0 (k + 1))] (.bool false))) (hz : (p.size : Int) ≤ 100) :
    Calls Tryd.prog 5 #[.string s, .string t] w fun e w' => e = .returned (.bool true) ∧ Below w.heap.size w w' := by
  go_enter Tryd.func5, Tryd.ntmps5
  go_wp2_with fail
  refine ((unhide e0) _ (Below.refl _ _)).mono ?_
  rintro e w1 ⟨rfl, hb⟩
  have B1 := hide (step (Below.refl _ _) hb)
  clear hb
  go_wp2_with fail
  refine ((unhide e1) _ (unhide B1)).mono ?_
  rintro e w2 ⟨rfl, hb⟩
  have B2 := hide (step (unhide B1) hb)
  clear hb
  go_wp2_with fail
  refine ((unhide e2) _ (unhide B2)).mono ?_
  rintro e w3 ⟨rfl, hb⟩
  have B3 := hide (step (unhide B2) hb)
  clear hb
  go_wp2_with fail
  refine ((unhide e3) _ (unhide B3)).mono ?_
  rintro e w4 ⟨rfl, hb⟩
  have B4 := hide (step (unhide B3) hb)
  clear hb
  go_wp2_with fail
  refine ((unhide e4) _ (unhide B4)).mono ?_
  rintro e w5 ⟨rfl, hb⟩
  have B5 := hide (step (unhide B4) hb)
  clear hb
  go_wp2_with fail
  refine ((unhide e5) _ (unhide B5)).mono ?_
  rintro e w6 ⟨rfl, hb⟩
  have B6 := hide (step (unhide B5) hb)
  clear hb
  go_wp2_with fail
  refine ((unhide e6) _ (unhide B6)).mono ?_
  rintro e w7 ⟨rfl, hb⟩
  have B7 := hide (step (unhide B6) hb)
  clear hb
  go_wp2
  go_ret
  exact ⟨rfl, unhide B7⟩

theorem one_byte {x : UInt8} {r : List UInt8} (h : Ut.dc (x :: r) = none) (cs : List Nat) : ¬ Ut.Is [x] cs [] := fun hi => by
  have hx : 128 ≤ x.toNat := by
    unfold Ut.dc at h
    rw [if_neg (by simp)] at h
    rcases Nat.lt_or_ge x.toNat 128 with hl | hl
    · rw [if_pos (by simpa [Ut.g] using hl)] at h; cases h
    · exact hl
  have hn : Ut.dc [x] = none := by
    unfold Ut.dc
    rw [if_neg (List.cons_ne_nil _ _), if_neg (show ¬ Ut.g [x] 0 < 128 from (show ¬ x.toNat < 128 by omega)), if_neg (fun h => absurd h.2.1 (by simp)), if_neg (fun h => absurd h.2.1 (by simp)), if_neg (fun h => absurd h.2.1 (by simp))]
  have := (Ut.is_inj hi (cs' := []) (r' := [x]) ⟨by simp, hn, rfl⟩).2
  cases this
theorem ext_list (p : ByteArray) (k : Nat) : (p.extract 0 k).data.toList = p.data.toList.take k := by
  simp

theorem walk (s t : ByteArray) (aU aS : Addr) (w : World) (g : Glob aU aS w) (wf : s.size ≤ maxLen) (wf' : t.size ≤ maxLen) :
    Calls Tryd.prog 5 #[.string s, .string t] w fun e w' => e = .returned (.bool true) ∧ Below w.heap.size w w' := by
  have e0 := hide (K_shown g)
  have e1 := hide (K_cut (w := w) s wf)
  have e2 := hide (K_cut (w := w) t wf')
  have hz := cut_size s
  have hy := cut_size t
  generalize s.extract 0 100 = p at *
  generalize t.extract 0 100 = q at *
  obtain ⟨cs, r, hi⟩ := Ut.is_ex p.data.toList
  obtain ⟨ds, r', hj⟩ := Ut.is_ex q.data.toList
  have e3 := K_bad g p (by omega)
  have eR := K_right g p (by omega)
  have eB := K_bad g (p ++ q) (by rw [ByteArray.size_append]; omega)
  have eQ := K_bad g q (by omega)
  have hlp : p.size = (Ut.fl cs).length + r.length := by rw [← List.length_append, ← hi.eq, len_toList]
  have hlq : q.size = (Ut.fl ds).length + r'.length := by rw [← List.length_append, ← hj.eq, len_toList]
  by_cases h0 : r = []
  · subst h0
    have hij := hi.behind hj
    rw [← data_append] at hij
    rw [bad_is hi, if_pos rfl] at e3 eR
    rw [bad_is hij] at eB
    rw [bad_is hj] at eQ
    by_cases h1 : r' = []
    · rw [if_pos h1] at eB eQ
      exact wn s t p q w e0 e1 e2 e3 eB eQ eR (by omega) (by omega)
    · rw [if_neg h1] at eB eQ
      have hl : (Ut.fl (cs ++ ds)).length = p.size + (Ut.fl ds).length := by rw [Ut.fl_append, List.length_append, hlp]; simp
      have eB' : Keeps w 19 #[.string (p ++ q)] (.int .i64 ((p.size : Int) + ((Ut.fl ds).length : Int))) := by
        have := eB
        rw [hl] at this
        exact this
      exact wy s t p q w e0 e1 e2 _ (by omega) e3 eB' eQ eR (by omega) (by omega)
  · rw [bad_is hi, if_neg h0] at e3 eR
    have hr : 1 ≤ r.length := by
      cases r with
      | nil => exact absurd rfl h0
      | cons _ _ => simp
    have e5 := K_right g (p.extract 0 (Ut.fl cs).length) (by rw [ByteArray.size_extract]; omega)
    have e6 := K_right g (p.extract 0 ((Ut.fl cs).length + 1)) (by rw [ByteArray.size_extract]; omega)
    have t5 : (p.extract 0 (Ut.fl cs).length).data.toList = Ut.fl cs := by rw [ext_list, hi.eq]; simp
    rw [bad_of_is (cs := cs) (by rw [t5]; exact is_fl hi.all)] at e5
    cases r with
    | nil => exact absurd rfl h0
    | cons x r =>
      have t6 : (p.extract 0 ((Ut.fl cs).length + 1)).data.toList = Ut.fl cs ++ [x] := by rw [ext_list, hi.eq, List.take_append, List.take_of_length_le (by omega), show (Ut.fl cs).length + 1 - (Ut.fl cs).length = 1 by omega]; rfl
      rw [bad_none_false (fun es he => by
        rw [t6] at he
        obtain ⟨fs, r2, hf⟩ := Ut.is_ex [x]
        have := Ut.is_inj he ((is_fl hi.all).behind hf)
        obtain ⟨_, h2⟩ := this
        subst h2
        exact one_byte hi.none fs hf)] at e6
      exact wb s t p q w e0 e1 e2 _ (by simp at hlp; omega) e3 eR e5 e6 (by omega)

set_option maxRecDepth 100000 in
/-- What the walk gives, for every argument. -/
theorem contract (H : Type) (enc : TypeId × Value → H) (W : World) (base : Nat) (args : Array Value) (ds gs : List (DataW H)) (before : List MemPlace)
    (hval : ∀ (j : Nat) t v, Tryd.f5.params[j]? = some t → args[j]? = some v → Value.okWide Tryd.prog W .any base t v)
    (hW : DataW.Whole enc Tryd.prog Tryd.f5.params.toList Rows.utfBadSpec.vars false W args.toList ds gs before) (hL : laidMetH Tryd.prog Rows.utfBadRow.laid W) :
    Calls Tryd.prog 5 args W fun e W' => ∃ v, e = .returned v ∧ Rows.utfBadSpec.post enc Tryd.prog Tryd.f5 false true false false W args v W' := by
  obtain ⟨aU, aS, g⟩ := glob_of_laid hL
  have hW' := hW
  obtain ⟨p, q, hA0, hV, rfl, hfz, hnd⟩ := hW
  have hA : DataW.TrodAll enc Tryd.prog W 0 (fun _ => true) true Tryd.f5.params.toList args.toList ds p := hA0
  rw [Tryd.params5] at hA hval
  obtain ⟨v0, vs0, d0, ds0, p0, q0, hargs0, rfl, rfl, h0, r0⟩ := trodAll_cons hA
  obtain ⟨v1, vs1, d1, ds1, p1, q1, hargs1, rfl, rfl, h1, r1⟩ := trodAll_cons r0
  obtain ⟨rfl, rfl, rfl⟩ := trodAll_nil r1
  obtain rfl : args = #[v0, v1] := by cases args; simp_all
  obtain ⟨rfl, rfl⟩ := trodVars_none hV
  obtain ⟨x0, rfl, rfl, rfl, wf0⟩ := open_string Tryd.underlying9 (hval 0 9 v0 rfl rfl) h0
  obtain ⟨x1, rfl, rfl, rfl, wf1⟩ := open_string Tryd.underlying9 (hval 1 9 v1 rfl rfl) h1
  clear hA0
  simp only [List.append_nil] at hW'
  refine (walk x0 x1 aU aS W g wf0 wf1).mono fun e W' ⟨he, hg⟩ => ?_
  subst he
  refine ⟨_, rfl, _, _, _, [], [], [], hW', ?_, ?_, ?_, hg.frame _, fun h => by cases h⟩
  · exact trodAll_cons_mk (shut_bool Tryd.underlying4 _) trodAll_mk0
  · exact trodAll_cons_mk (shut_string Tryd.underlying9 wf0) (trodAll_cons_mk (shut_string Tryd.underlying9 wf1) (trodAll_mk0))
  · rfl

theorem reads (os : Os) {H : Type} (enc : TypeId × Value → H) : ∃ places, DataW.whole enc Tryd.prog (({ World.holding Tryd.prog os ⟨#[.cells #[.string sentS0] 126, .cells #[.string sentS1] 126], #[], []⟩ with heap := (((World.holding Tryd.prog os ⟨#[.cells #[.string sentS0] 126, .cells #[.string sentS1] 126], #[], []⟩).heap.modify 0 fun | .cells _ t frozen => .cells #[.iface 104 (.pointer (some ⟨(World.holding Tryd.prog default ⟨#[], #[], []⟩).heap.size + 0, 0, none⟩))] t frozen | o => o).modify 1 fun | .cells _ t frozen => .cells #[.iface 104 (.pointer (some ⟨(World.holding Tryd.prog default ⟨#[], #[], []⟩).heap.size + 1, 0, none⟩))] t frozen | o => o).modify 2 fun | .cells _ t frozen => .cells #[.iface 90 (.agg #[.pointer (some ⟨3, 39, none⟩)])] t frozen | o => o } : World).forCall (fun _ _ => 0) ⟨#[], #[.string ⟨#[]⟩, .string ⟨#[]⟩], []⟩).memory Tryd.f5.params.toList Rows.utfBadSpec.vars false #[Value.string ⟨#[]⟩, Value.string ⟨#[]⟩].toList 8 = some ([.lit (.string []), .lit (.string [])], [], places) :=
  ⟨[], by kernel_rfl⟩

set_option maxRecDepth 100000 in
theorem lifted (os : Os) (started : os.Started) (H : Type) (enc : TypeId × Value → H) (F : Stop.Interp) :
    ReturnsInHanded {} Tryd.checked os 5 .any ((OpenSpec.ofChange Rows.utfBadSpec).preRow enc Tryd.prog Tryd.f5 Rows.utfBadRow.domain false Rows.utfBadRow.laid) (((OpenSpec.ofChange Rows.utfBadSpec).at F).post enc Tryd.prog Tryd.f5 false true false false) := by
  obtain ⟨places, hx⟩ := reads os enc
  refine returnsInHanded_of_row (C := Tryd.checked) (s := OpenSpec.ofChange Rows.utfBadSpec) own started (by kernel_rfl) Tryd.func5
    (witness_row_at (enc := enc) (C := Tryd.checked) false ({ World.holding Tryd.prog os ⟨#[.cells #[.string sentS0] 126, .cells #[.string sentS1] 126], #[], []⟩ with heap := (((World.holding Tryd.prog os ⟨#[.cells #[.string sentS0] 126, .cells #[.string sentS1] 126], #[], []⟩).heap.modify 0 fun | .cells _ t frozen => .cells #[.iface 104 (.pointer (some ⟨(World.holding Tryd.prog default ⟨#[], #[], []⟩).heap.size + 0, 0, none⟩))] t frozen | o => o).modify 1 fun | .cells _ t frozen => .cells #[.iface 104 (.pointer (some ⟨(World.holding Tryd.prog default ⟨#[], #[], []⟩).heap.size + 1, 0, none⟩))] t frozen | o => o).modify 2 fun | .cells _ t frozen => .cells #[.iface 90 (.agg #[.pointer (some ⟨3, 39, none⟩)])] t frozen | o => o } : World) #[.string ⟨#[]⟩, .string ⟨#[]⟩] rfl (by kernel_rfl) (by kernel_rfl) (by kernel_rfl)
      (OpenSpec.preRow_of_cond 8 hx (by kernel_rfl) (fun k hk => by cases hk) (by kernel_rfl) (laid_met os _))) ?_
  intro W base args ds gs before hval hW _ _ _ hL _ _
  exact contract H enc W base args ds gs before hval hW hL

theorem said : Rows.UtfBadSaid :=
  OpenClaim.holds_of_cond 5 Tryd.f5 rfl rfl rfl rfl rfl rfl rfl ⟨rfl, rfl, rfl, rfl, rfl⟩ rfl rfl rfl rfl rfl (by kernel_rfl) Tryd.func5 (by kernel_rfl)
    (of_decide_eq_true (by kernel_rfl)) (by unfold Func.isWrapper; first | (rw [if_pos (by decide +kernel)]; kernel_rfl) | (rw [if_neg (by decide +kernel)]; exact ⟨rfl, rfl⟩))
    (fun os started H enc _ F => by rw [OpenClaim.pre_eq_preRow]; exact lifted os started H enc F)

theorem plain (f : FuncId) (fn : Func) (hf : Tryd.pinned.checked.prog.funcNamed "latiner/latinerlaw04.UtfBad" = some f) (hfn : Tryd.pinned.checked.prog.funcs[f]? = some fn) :
    true = Tryd.pinned.checked.prog.looks [] ∧ ∀ (j : Nat) t, fn.params[j]? = some t → Tryd.pinned.checked.prog.wantsStandIn t = false := by
  obtain rfl : f = 5 := Option.some.inj ((show Tryd.prog.funcNamed "latiner/latinerlaw04.UtfBad" = some 5 by kernel_rfl).symm.trans hf) |>.symm
  obtain rfl : fn = Tryd.f5 := (Option.some.inj (Tryd.func5.symm.trans hfn)).symm
  refine ⟨by kernel_rfl, fun j t ht => ?_⟩
  rw [Tryd.params5] at ht
  have hm : t = 9 := by have := Array.mem_of_getElem? ht; simp at this; first | exact this | omega | (rcases this with h | h | h <;> simp [h]) | (rcases this with h | h | h | h <;> simp [h])
  subst hm
  exact (show Tryd.prog.wantsStandIn 9 = false by kernel_rfl)

/-- The card. -/
theorem card : Rows.UtfBadCardSaid :=
  Claim7.holds_tied_plain_at .later [] _ _ _ _ said (fun _ h => by cases h) (by kernel_rfl) (fun _ h => by cases h) utfBad_row_tie rfl ⟨rfl, rfl⟩ (by kernel_rfl) rfl plain (by kernel_rfl)
end Go.Proofs.YtpfopmjpchiekaaDoor.U.bad

namespace Go.Proofs.YtpfopmjpchiekaaDoor
theorem utfBad_holds : Rows.UtfBadCardSaid := U.bad.card
#print axioms utfBad_holds
end Go.Proofs.YtpfopmjpchiekaaDoor
