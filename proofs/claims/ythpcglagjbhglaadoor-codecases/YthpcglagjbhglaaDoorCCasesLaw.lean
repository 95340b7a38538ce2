/-
  latinerlaw05.CodeCases returns true at every text: digits in great letters tell what they tell in small ones. Conditions: the package-level variables hold what the program's text lays (the card ties them).
-/
import Derived.Test.YthpcglagjbhglaaDoorCLaid
import Derived.Laws.DeepStrings4
namespace Go.Proofs.YthpcglagjbhglaaDoor.C.cases
open Go Go.RowKit Go.ChangeShapes Go.WideShapes Go.ChangeAt Go.ChangeMaps Cd

set_option maxRecDepth 100000 in
set_option maxHeartbeats 2000000 in
theorem wk (s p h : ByteArray) (w : World) (hs : h.size ≤ 1000) (e0 : Hid (Keeps w 9 #[] (.bool true))) (e1 : Hid (Keeps w 10 #[.string s] (.string p))) (e2 : Hid (Keeps w 17 #[.string p] (.string h))) (e3 : Hid (Keeps w 13 #[.string ⟨(h.data.toList.map up).toArray⟩] (.tuple #[.string p, .int .i64 0]))) :
    Calls Tryd.prog 7 #[.string s] w fun e w' => e = .returned (.bool true) ∧ Below w.heap.size w w' := by
  go_enter Tryd.func7, Tryd.ntmps7
  go_wp2_with fail
  refine ((unhide e0) _ (Below.refl _ _)).mono ?_
  rintro e w1 ⟨rfl, hb⟩
  have B1 := hide (step (Below.refl _ _) hb)
  clear hb
  go_wp2_with fail
  refine ((unhide e1) _ (unhide B1)).mono ?_
  rintro e w2 ⟨rfl, hb⟩
  have B2 := hide (step (unhide B1) hb)
  clear hb
  go_wp2_with fail
  refine ((unhide e2) _ (unhide B2)).mono ?_
  rintro e w3 ⟨rfl, hb⟩
  have B3 := hide (step (unhide B2) hb)
  clear hb
  obtain ⟨i0, hi0, hz0, hz1, hz2⟩ := infoB
  go_wp2
  go_loopw [5, 6] (fun sl ix wr => ∃ j : Nat, j ≤ h.size ∧ ix = .int .i64 (j : Int) ∧ wr.ownsRow w3.heap.size 5 1 sl j (cells ((h.data.toList.take j).map up)) ∧ Bel w3.heap.size w3 wr)
    (fun _ ix _ => h.size - (intOf ix).toNat)
  case atStart =>
    exact ⟨0, Nat.zero_le _, rfl, World.ownsRow_nil _ _ _ _, bel_refl _ _⟩
  case round =>
    obtain ⟨j, hj, rfl, ho, hb⟩ := hrel
    have HOWN := hide ho
    have HBEL := hide hb
    clear ho hb
    by_cases hlt : j < h.size
    · have hlt' : (j : Int) < h.size := by omega
      have hjj : (j : Int) ≤ 1000 := by omega
      have hl : j < h.data.toList.length := by simpa using hlt
      obtain ⟨c, hc⟩ : ∃ c, h[j] = c := ⟨_, rfl⟩
      have htk : h.data.toList.take (j + 1) = h.data.toList.take j ++ [c] := by
        rw [List.take_succ_eq_append_getElem hl, ← hc]
        rfl
      have HT := hide htk
      have hcl := c.toNat_lt
      clear htk
      by_cases hab : 97 ≤ c.toNat ∧ c.toNat ≤ 102
      · have HU : Hid (((up c).toNat : Int) = (c.toNat : Int) - 32) := by
          show _ = _
          unfold up
          rw [if_pos hab, UInt8.toNat_ofNat']
          omega
        have a1 : (97 : Int) ≤ c.toNat := by omega
        have a2 : (c.toNat : Int) ≤ 102 := by omega
        have a3 : ((c.toNat : Int) - 97 + 65) = (c.toNat : Int) - 32 := by omega
        clear hab
        have HN := hide (news wr [.int .u8 ((c.toNat : Int) - 32)] 5)
        have HO := hide ((unhide HOWN).alloc (.cells #[.int .u8 ((c.toNat : Int) - 32)] 5))
        go_wp2_with (at_builtin; refine wpList_append_lies _ rfl (.tmp 33) (.tmp 35) 29 rfl w3.heap.size 5 i0 (.int .u8 0) 1 1 Tryd.underlying29 hi0 hz0 hz1 hz2 rfl (by omega) u5 j _ rfl (unhide HO) ⟨wr.heap.size, 0, none⟩ 1 1 [.int .u8 ((c.toNat : Int) - 32)] rfl rfl (unhide HN) (by simp [Value.oneCell']) (by omega) (by unfold maxLen; omega) (by omega) (by have := (unhide HBEL).1.size; simp; omega) (wr.heap.size + 1) (by simp) ?_; intro gg cp w4 hown hgrow hat hglt; replace hown := hide hown; replace hgrow := hide hgrow; clear hat)
        go_roundw
        case rel =>
          refine ⟨j + 1, by omega, by simp, ?_, add_below2 (unhide HBEL) (unhide HOWN) (unhide hgrow) (Nat.le_refl _)⟩
          rw [unhide HT, List.map_append, cells_append]
          have := unhide hown
          rw [show cells ([c].map up) = [.int .u8 ((c.toNat : Int) - 32)] by simp only [cells, List.map_cons, List.map_nil, unhide HU]]
          exact this
        case measure => simp [intOf]; omega
      · by_cases hlo : 97 ≤ c.toNat
        · have HU : Hid (((up c).toNat : Int) = (c.toNat : Int)) := by
            show _ = _
            unfold up
            rw [if_neg hab]
          have a1 : (97 : Int) ≤ c.toNat := by omega
          have a2 : ¬ (c.toNat : Int) ≤ 102 := by omega
          clear hab hlo
          have HN := hide (news wr [.int .u8 (c.toNat : Int)] 5)
          have HO := hide ((unhide HOWN).alloc (.cells #[.int .u8 (c.toNat : Int)] 5))
          go_wp2_with (at_builtin; refine wpList_append_lies _ rfl (.tmp 33) (.tmp 35) 29 rfl w3.heap.size 5 i0 (.int .u8 0) 1 1 Tryd.underlying29 hi0 hz0 hz1 hz2 rfl (by omega) u5 j _ rfl (unhide HO) ⟨wr.heap.size, 0, none⟩ 1 1 [.int .u8 (c.toNat : Int)] rfl rfl (unhide HN) (by simp [Value.oneCell']) (by omega) (by unfold maxLen; omega) (by omega) (by have := (unhide HBEL).1.size; simp; omega) (wr.heap.size + 1) (by simp) ?_; intro gg cp w4 hown hgrow hat hglt; replace hown := hide hown; replace hgrow := hide hgrow; clear hat)
          go_roundw
          case rel =>
            refine ⟨j + 1, by omega, by simp, ?_, add_below2 (unhide HBEL) (unhide HOWN) (unhide hgrow) (Nat.le_refl _)⟩
            rw [unhide HT, List.map_append, cells_append]
            have := unhide hown
            rw [show cells ([c].map up) = [.int .u8 (c.toNat : Int)] by simp only [cells, List.map_cons, List.map_nil, unhide HU]]
            exact this
          case measure => simp [intOf]; omega
        · have HU : Hid (((up c).toNat : Int) = (c.toNat : Int)) := by
            show _ = _
            unfold up
            rw [if_neg hab]
          have a1 : ¬ (97 : Int) ≤ c.toNat := by omega
          clear hab hlo
          have HN := hide (news wr [.int .u8 (c.toNat : Int)] 5)
          have HO := hide ((unhide HOWN).alloc (.cells #[.int .u8 (c.toNat : Int)] 5))
          go_wp2_with (at_builtin; refine wpList_append_lies _ rfl (.tmp 33) (.tmp 35) 29 rfl w3.heap.size 5 i0 (.int .u8 0) 1 1 Tryd.underlying29 hi0 hz0 hz1 hz2 rfl (by omega) u5 j _ rfl (unhide HO) ⟨wr.heap.size, 0, none⟩ 1 1 [.int .u8 (c.toNat : Int)] rfl rfl (unhide HN) (by simp [Value.oneCell']) (by omega) (by unfold maxLen; omega) (by omega) (by have := (unhide HBEL).1.size; simp; omega) (wr.heap.size + 1) (by simp) ?_; intro gg cp w4 hown hgrow hat hglt; replace hown := hide hown; replace hgrow := hide hgrow; clear hat)
          go_roundw
          case rel =>
            refine ⟨j + 1, by omega, by simp, ?_, add_below2 (unhide HBEL) (unhide HOWN) (unhide hgrow) (Nat.le_refl _)⟩
            rw [unhide HT, List.map_append, cells_append]
            have := unhide hown
            rw [show cells ([c].map up) = [.int .u8 (c.toNat : Int)] by simp only [cells, List.map_cons, List.map_nil, unhide HU]]
            exact this
          case measure => simp [intOf]; omega
    · have hge : ¬ (j : Int) < h.size := by omega
      have he : j = h.size := by omega
      subst he
      have hcv : (convert 29 9 u5).run Tryd.prog wr = .ok (.string ⟨(h.data.toList.map up).toArray⟩) wr := by
        have := unhide HOWN
        rw [List.take_of_length_le (by simp)] at this
        exact conv_row this (by simp)
      clear hj hlt
      go_wp2_with fail
      refine ((unhide e3) _ (step (unhide B3) (unhide HBEL).1)).mono ?_
      rintro e w4 ⟨rfl, hb⟩
      have B4 := hide (step (step (unhide B3) (unhide HBEL).1) hb)
      clear hb
      go_wp2
      go_ret
      exact ⟨rfl, unhide B4⟩

theorem walk (s : ByteArray) (a : Ad) (w : World) (g : Glob a w) (wf : s.size ≤ maxLen) :
    Calls Tryd.prog 7 #[.string s] w fun e w' => e = .returned (.bool true) ∧ Below w.heap.size w w' := by
  have hz := cut_size s
  have c1 := K_cut (w := w) s wf
  generalize s.extract 0 200 = p at *
  have hsz : (⟨((pri kH p).data.toList.map up).toArray⟩ : ByteArray).size = 2 * p.size := by
    show (((pri kH p).data.toList.map up).toArray).size = _
    rw [List.size_toArray, List.length_map, pri_data, Cd.size_H, Array.length_toList]
    rfl
  have k3 := K_unhex g ⟨((pri kH p).data.toList.map up).toArray⟩ (by rw [hsz]; omega)
  rw [show und kH ⟨((pri kH p).data.toList.map up).toArray⟩ = (p, 0) by
    unfold und
    show (match dec kH ((pri kH p).data.toList.map up) with | some t => ((⟨t.toArray⟩ : ByteArray), (0 : Int)) | none => (⟨#[]⟩, 50)) = _
    rw [pri_data, cases_H]] at k3
  exact wk s p _ w (by rw [pri_size_H]; omega) (K_shown g) c1 (K_hex w p (by omega)) k3

set_option maxRecDepth 100000 in
/-- What the walk gives, for every argument. -/
theorem contract (H : Type) (enc : TypeId × Value → H) (W : World) (base : Nat) (args : Array Value) (ds gs : List (DataW H)) (before : List MemPlace)
    (hval : ∀ (j : Nat) t v, Tryd.f7.params[j]? = some t → args[j]? = some v → Value.okWide Tryd.prog W .any base t v)
    (hW : DataW.Whole enc Tryd.prog Tryd.f7.params.toList Rows.codeCasesSpec.vars false W args.toList ds gs before) (hL : laidMetH Tryd.prog Rows.codeCasesRow.laid W) :
    Calls Tryd.prog 7 args W fun e W' => ∃ v, e = .returned v ∧ Rows.codeCasesSpec.post enc Tryd.prog Tryd.f7 false true false false W args v W' := by
  obtain ⟨a, g⟩ := glob_of_laid hL
  have hW' := hW
  obtain ⟨p, q, hA0, hV, rfl, hfz, hnd⟩ := hW
  have hA : DataW.TrodAll enc Tryd.prog W 0 (fun _ => true) true Tryd.f7.params.toList args.toList ds p := hA0
  rw [Tryd.params7] at hA hval
  obtain ⟨v0, vs0, d0, ds0, p0, q0, hargs0, rfl, rfl, h0, r0⟩ := trodAll_cons hA
  obtain ⟨rfl, rfl, rfl⟩ := trodAll_nil r0
  obtain rfl : args = #[v0] := by cases args; simp_all
  obtain ⟨rfl, rfl⟩ := trodVars_none hV
  obtain ⟨x0, rfl, rfl, rfl, wf0⟩ := open_string Tryd.underlying9 (hval 0 9 v0 rfl rfl) h0
  clear hA0
  simp only [List.append_nil] at hW'
  refine (walk x0 a W g wf0).mono fun e W' ⟨he, hg⟩ => ?_
  subst he
  refine ⟨_, rfl, _, _, _, [], [], [], hW', ?_, ?_, ?_, hg.frame _, fun h => by cases h⟩
  · exact trodAll_cons_mk (shut_bool Tryd.underlying4 _) trodAll_mk0
  · exact trodAll_cons_mk (shut_string Tryd.underlying9 wf0) (trodAll_mk0)
  · rfl

theorem reads (os : Os) {H : Type} (enc : TypeId × Value → H) : ∃ places, DataW.whole enc Tryd.prog (({ World.holding Tryd.prog os ⟨#[.cells #[.string sentS0] 121, .cells #[.string sentS1] 121, .cells #[.string sentS2] 121], #[], []⟩ with heap := ((((World.holding Tryd.prog os ⟨#[.cells #[.string sentS0] 121, .cells #[.string sentS1] 121, .cells #[.string sentS2] 121], #[], []⟩).heap.modify 1 fun | .cells _ t frozen => .cells #[.iface 99 (.pointer (some ⟨(World.holding Tryd.prog default ⟨#[], #[], []⟩).heap.size + 0, 0, none⟩))] t frozen | o => o).modify 0 fun | .cells _ t frozen => .cells #[.iface 99 (.pointer (some ⟨(World.holding Tryd.prog default ⟨#[], #[], []⟩).heap.size + 1, 0, none⟩))] t frozen | o => o).modify 2 fun | .cells _ t frozen => .cells #[.iface 99 (.pointer (some ⟨(World.holding Tryd.prog default ⟨#[], #[], []⟩).heap.size + 2, 0, none⟩))] t frozen | o => o).modify 3 fun | .cells _ t frozen => .cells #[.iface 84 (.agg #[.pointer (some ⟨4, 35, none⟩)])] t frozen | o => o } : World).forCall (fun _ _ => 0) ⟨#[], #[.string ⟨#[]⟩], []⟩).memory Tryd.f7.params.toList Rows.codeCasesSpec.vars false #[Value.string ⟨#[]⟩].toList 8 = some ([.lit (.string [])], [], places) :=
  ⟨[], by kernel_rfl⟩

set_option maxRecDepth 100000 in
theorem lifted (os : Os) (started : os.Started) (H : Type) (enc : TypeId × Value → H) (F : Stop.Interp) :
    ReturnsInHanded {} Tryd.checked os 7 .any ((OpenSpec.ofChange Rows.codeCasesSpec).preRow enc Tryd.prog Tryd.f7 Rows.codeCasesRow.domain false Rows.codeCasesRow.laid) (((OpenSpec.ofChange Rows.codeCasesSpec).at F).post enc Tryd.prog Tryd.f7 false true false false) := by
  obtain ⟨places, hx⟩ := reads os enc
  refine returnsInHanded_of_row (C := Tryd.checked) (s := OpenSpec.ofChange Rows.codeCasesSpec) own started (by kernel_rfl) Tryd.func7
    (witness_row_at (enc := enc) (C := Tryd.checked) false ({ World.holding Tryd.prog os ⟨#[.cells #[.string sentS0] 121, .cells #[.string sentS1] 121, .cells #[.string sentS2] 121], #[], []⟩ with heap := ((((World.holding Tryd.prog os ⟨#[.cells #[.string sentS0] 121, .cells #[.string sentS1] 121, .cells #[.string sentS2] 121], #[], []⟩).heap.modify 1 fun | .cells _ t frozen => .cells #[.iface 99 (.pointer (some ⟨(World.holding Tryd.prog default ⟨#[], #[], []⟩).heap.size + 0, 0, none⟩))] t frozen | o => o).modify 0 fun | .cells _ t frozen => .cells #[.iface 99 (.pointer (some ⟨(World.holding Tryd.prog default ⟨#[], #[], []⟩).heap.size + 1, 0, none⟩))] t frozen | o => o).modify 2 fun | .cells _ t frozen => .cells #[.iface 99 (.pointer (some ⟨(World.holding Tryd.prog default ⟨#[], #[], []⟩).heap.size + 2, 0, none⟩))] t frozen | o => o).modify 3 fun | .cells _ t frozen => .cells #[.iface 84 (.agg #[.pointer (some ⟨4, 35, none⟩)])] t frozen | o => o } : World) #[.string ⟨#[]⟩] rfl (by kernel_rfl) (by kernel_rfl) (by kernel_rfl)
      (OpenSpec.preRow_of_cond 8 hx (by kernel_rfl) (fun k hk => by cases hk) (by kernel_rfl) (laid_met os _))) ?_
  intro W base args ds gs before hval hW _ _ _ hL _ _
  exact contract H enc W base args ds gs before hval hW hL

theorem said : Rows.CodeCasesSaid :=
  OpenClaim.holds_of_cond 7 Tryd.f7 rfl rfl rfl rfl rfl rfl rfl ⟨rfl, rfl, rfl, rfl, rfl⟩ rfl rfl rfl rfl rfl (by kernel_rfl) Tryd.func7 (by kernel_rfl)
    (of_decide_eq_true (by kernel_rfl)) (by unfold Func.isWrapper; first | (rw [if_pos (by decide +kernel)]; kernel_rfl) | (rw [if_neg (by decide +kernel)]; exact ⟨rfl, rfl⟩))
    (fun os started H enc _ F => by rw [OpenClaim.pre_eq_preRow]; exact lifted os started H enc F)

theorem plain (f : FuncId) (fn : Func) (hf : Tryd.pinned.checked.prog.funcNamed "latiner/latinerlaw05.CodeCases" = some f) (hfn : Tryd.pinned.checked.prog.funcs[f]? = some fn) :
    true = Tryd.pinned.checked.prog.looks [] ∧ ∀ (j : Nat) t, fn.params[j]? = some t → Tryd.pinned.checked.prog.wantsStandIn t = false := by
  obtain rfl : f = 7 := Option.some.inj ((show Tryd.prog.funcNamed "latiner/latinerlaw05.CodeCases" = some 7 by kernel_rfl).symm.trans hf) |>.symm
  obtain rfl : fn = Tryd.f7 := (Option.some.inj (Tryd.func7.symm.trans hfn)).symm
  refine ⟨by kernel_rfl, fun j t ht => ?_⟩
  rw [Tryd.params7] at ht
  have hm : t = 9 := by have := Array.mem_of_getElem? ht; simp at this; first | exact this | omega | (rcases this with h | h | h <;> simp [h]) | (rcases this with h | h | h | h <;> simp [h])
  subst hm
  exact (show Tryd.prog.wantsStandIn 9 = false by kernel_rfl)

/-- The card. -/
theorem card : Rows.CodeCasesCardSaid :=
  Claim7.holds_tied_plain_at .later [] _ _ _ _ said (fun _ h => by cases h) (by kernel_rfl) (fun _ h => by cases h) codeCases_row_tie rfl ⟨rfl, rfl⟩ (by kernel_rfl) rfl plain (by kernel_rfl)
end Go.Proofs.YthpcglagjbhglaaDoor.C.cases

namespace Go.Proofs.YthpcglagjbhglaaDoor
theorem codeCases_holds : Rows.CodeCasesCardSaid := C.cases.card
#print axioms codeCases_holds
end Go.Proofs.YthpcglagjbhglaaDoor
