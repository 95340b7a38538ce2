/-
  latinerlaw06.EscPlain returns true at every text: a value of letters alone is printed as it is, and read as it is. Conditions: the package-level variables hold what the program's text lays (the card ties them).
-/
import Derived.Test.YtgapoofalnakmaaDoorELaid
import Derived.Laws.DeepStrings4
namespace Go.Proofs.YtgapoofalnakmaaDoor.E.plain
open Go Go.RowKit Go.ChangeShapes Go.WideShapes Go.ChangeAt Go.ChangeMaps Ec

set_option maxRecDepth 100000 in
set_option maxHeartbeats 2000000 in
theorem wk (s p : ByteArray) (w : World) (hp : (p.size : Int) ≤ 100) (fa nc : ByteArray) (nf : 0 < p.size → (fa.toList == []) = false) (nn : 0 < p.size → (nc.toList == []) = false) (e0 : Hid (Keeps w 9 #[] (.bool true))) (e1 : Hid (Keeps w 10 #[.string s] (.string p))) (e2 : Hid (Keeps w 15 #[.string p] (.string fa))) (e3 : Hid (Keeps w 17 #[.string p] (.string nc))) (lw : Hid ((∀ i (h : i < p.size), 97 ≤ (p[i]).toNat ∧ (p[i]).toNat ≤ 122) → Keeps w 11 #[.string p] (.tuple #[.string p, .int .i64 0]) ∧ Keeps w 13 #[.string p] (.tuple #[.string p, .int .i64 0]) ∧ fa = p ∧ nc = p)) :
    Calls Tryd.prog 8 #[.string s] w fun e w' => e = .returned (.bool true) ∧ Below w.heap.size w w' := by
  go_enter Tryd.func8, Tryd.ntmps8
  go_wp2_with fail
  refine ((unhide e0) _ (Below.refl _ _)).mono ?_
  rintro e w1 ⟨rfl, hb⟩
  have B1 := hide (step (Below.refl _ _) hb)
  clear hb
  go_wp2_with fail
  refine ((unhide e1) _ (unhide B1)).mono ?_
  rintro e w2 ⟨rfl, hb⟩
  have B2 := hide (step (unhide B1) hb)
  clear hb
  have Hnf := hide nf
  have Hnn := hide nn
  clear nf nn
  go_wp2
  go_loopw [4] (fun ix wr => ∃ j : Nat, j ≤ p.size ∧ ix = .int .i64 (j : Int) ∧ (∀ i (h : i < p.size), i < j → 97 ≤ (p[i]).toNat ∧ (p[i]).toNat ≤ 122) ∧ wr = w2)
    (fun ix _ => p.size - (intOf ix).toNat)
  case atStart => exact ⟨0, Nat.zero_le _, rfl, fun i _ h => by omega, rfl⟩
  case round =>
    obtain ⟨j, hj, rfl, hl, rfl⟩ := hrel
    have Hl := hide hl
    clear hl
    by_cases hlt : j < p.size
    · have hlt' : (j : Int) < p.size := by omega
      obtain ⟨y, hy⟩ : ∃ y, p[j] = y := ⟨_, rfl⟩
      have Hy := hide hy
      by_cases a1 : (97 : Int) ≤ y.toNat
      · by_cases a2 : (y.toNat : Int) ≤ 122
        · go_wp2
          go_roundw
          case rel =>
            refine ⟨j + 1, by omega, by simp, fun i hi h => ?_, by first | rfl | trivial⟩
            by_cases e : i = j
            · subst e
              have := unhide Hy
              rw [this]
              omega
            · exact unhide Hl i hi (by omega)
          case measure => simp [intOf]; omega
        · have nf := unhide Hnf (by omega)
          have nn := unhide Hnn (by omega)
          go_wp2_with fail
          refine ((unhide e2) _ (unhide B2)).mono ?_
          rintro e w3 ⟨rfl, hb⟩
          have B3 := hide (step (unhide B2) hb)
          clear hb
          go_wp2_with fail
          refine ((unhide e3) _ (unhide B3)).mono ?_
          rintro e w4 ⟨rfl, hb⟩
          have B4 := hide (step (unhide B3) hb)
          clear hb
          go_wp2
          go_ret
          exact ⟨rfl, unhide B4⟩
      · have nf := unhide Hnf (by omega)
        have nn := unhide Hnn (by omega)
        go_wp2_with fail
        refine ((unhide e2) _ (unhide B2)).mono ?_
        rintro e w3 ⟨rfl, hb⟩
        have B3 := hide (step (unhide B2) hb)
        clear hb
        go_wp2_with fail
        refine ((unhide e3) _ (unhide B3)).mono ?_
        rintro e w4 ⟨rfl, hb⟩
        have B4 := hide (step (unhide B3) hb)
        clear hb
        go_wp2
        go_ret
        exact ⟨rfl, unhide B4⟩
    · have hge : ¬ (j : Int) < p.size := by omega
      obtain ⟨q1, q2, rfl, q4⟩ := unhide lw (fun i h => unhide Hl i h (by omega))
      subst q4
      have Q1 := hide q1
      have Q2 := hide q2
      clear q1 q2 Hnf Hnn lw Hl
      go_wp2_with fail
      refine ((unhide Q1) _ (unhide B2)).mono ?_
      rintro e w3 ⟨rfl, hb⟩
      have B3 := hide (step (unhide B2) hb)
      clear hb
      go_wp2_with fail
      refine ((unhide Q2) _ (unhide B3)).mono ?_
      rintro e w4 ⟨rfl, hb⟩
      have B4 := hide (step (unhide B3) hb)
      clear hb
      go_wp2_with fail
      refine ((unhide e2) _ (unhide B4)).mono ?_
      rintro e w5 ⟨rfl, hb⟩
      have B5 := hide (step (unhide B4) hb)
      clear hb
      go_wp2_with fail
      refine ((unhide e3) _ (unhide B5)).mono ?_
      rintro e w6 ⟨rfl, hb⟩
      have B6 := hide (step (unhide B5) hb)
      clear hb
      go_wp2
      go_ret
      exact ⟨rfl, unhide B6⟩

theorem walk (s : ByteArray) (a : Ad) (w : World) (g : Glob a w) (wf : s.size ≤ maxLen) :
    Calls Tryd.prog 8 #[.string s] w fun e w' => e = .returned (.bool true) ∧ Below w.heap.size w w' := by
  have hz := cut_size s
  have c1 := K_cut (w := w) s wf
  generalize s.extract 0 100 = p at *
  have ne : ∀ nm, 0 < p.size → ((pri nm p).toList == []) = false := fun nm h => by
    rw [beq_eq_false_iff_ne, ByteArray.toList_eq]
    intro e
    have h1 := (pri_size nm p).1
    have h2 := len_toList (pri nm p)
    rw [e] at h2
    have : (pri nm p).size = 0 := h2.symm
    omega
  refine wk s p w (by omega) _ _ (ne false) (ne true) (K_shown g) c1 (K_filter w p (by omega)) (K_name w p (by omega)) (hide fun h => ?_)
  have hl : ∀ x ∈ p.data.toList, 97 ≤ x.toNat ∧ x.toNat ≤ 122 := fun x hx => by
    obtain ⟨i, hi, rfl⟩ := List.getElem_of_mem hx
    exact h i (by rw [len_toList] at hi; exact hi)
  have k1 := K_readFilter g p (by omega)
  have k2 := K_readName g p (by omega)
  rw [und_low _ hl] at k1 k2
  exact ⟨k1, k2, pri_low _ hl, pri_low _ hl⟩

set_option maxRecDepth 100000 in
/-- What the walk gives, for every argument. -/
theorem contract (H : Type) (enc : TypeId × Value → H) (W : World) (base : Nat) (args : Array Value) (ds gs : List (DataW H)) (before : List MemPlace)
    (hval : ∀ (j : Nat) t v, Tryd.f8.params[j]? = some t → args[j]? = some v → Value.okWide Tryd.prog W .any base t v)
    (hW : DataW.Whole enc Tryd.prog Tryd.f8.params.toList Rows.escPlainSpec.vars false W args.toList ds gs before) (hL : laidMetH Tryd.prog Rows.escPlainRow.laid W) :
    Calls Tryd.prog 8 args W fun e W' => ∃ v, e = .returned v ∧ Rows.escPlainSpec.post enc Tryd.prog Tryd.f8 false true false false W args v W' := by
  obtain ⟨a, g⟩ := glob_of_laid hL
  have hW' := hW
  obtain ⟨p, q, hA0, hV, rfl, hfz, hnd⟩ := hW
  have hA : DataW.TrodAll enc Tryd.prog W 0 (fun _ => true) true Tryd.f8.params.toList args.toList ds p := hA0
  rw [Tryd.params8] at hA hval
  obtain ⟨v0, vs0, d0, ds0, p0, q0, hargs0, rfl, rfl, h0, r0⟩ := trodAll_cons hA
  obtain ⟨rfl, rfl, rfl⟩ := trodAll_nil r0
  obtain rfl : args = #[v0] := by cases args; simp_all
  obtain ⟨rfl, rfl⟩ := trodVars_none hV
  obtain ⟨x0, rfl, rfl, rfl, wf0⟩ := open_string Tryd.underlying9 (hval 0 9 v0 rfl rfl) h0
  clear hA0
  simp only [List.append_nil] at hW'
  refine (walk x0 a W g wf0).mono fun e W' ⟨he, hg⟩ => ?_
  subst he
  refine ⟨_, rfl, _, _, _, [], [], [], hW', ?_, ?_, ?_, hg.frame _, fun h => by cases h⟩
  · exact trodAll_cons_mk (shut_bool Tryd.underlying4 _) trodAll_mk0
  · exact trodAll_cons_mk (shut_string Tryd.underlying9 wf0) (trodAll_mk0)
  · rfl

theorem reads (os : Os) {H : Type} (enc : TypeId × Value → H) : ∃ places, DataW.whole enc Tryd.prog (({ World.holding Tryd.prog os ⟨#[.cells #[.string sentS0] 173, .cells #[.string sentS1] 173, .cells #[.string sentS2] 173, .cells #[.string sentS3] 173, .cells #[.string sentS4] 173, .cells #[.string sentS5] 173], #[], []⟩ with heap := (((((((World.holding Tryd.prog os ⟨#[.cells #[.string sentS0] 173, .cells #[.string sentS1] 173, .cells #[.string sentS2] 173, .cells #[.string sentS3] 173, .cells #[.string sentS4] 173, .cells #[.string sentS5] 173], #[], []⟩).heap.modify 5 fun | .cells _ t frozen => .cells #[.iface 151 (.pointer (some ⟨(World.holding Tryd.prog default ⟨#[], #[], []⟩).heap.size + 0, 0, none⟩))] t frozen | o => o).modify 4 fun | .cells _ t frozen => .cells #[.iface 151 (.pointer (some ⟨(World.holding Tryd.prog default ⟨#[], #[], []⟩).heap.size + 1, 0, none⟩))] t frozen | o => o).modify 6 fun | .cells _ t frozen => .cells #[.iface 151 (.pointer (some ⟨(World.holding Tryd.prog default ⟨#[], #[], []⟩).heap.size + 2, 0, none⟩))] t frozen | o => o).modify 3 fun | .cells _ t frozen => .cells #[.iface 151 (.pointer (some ⟨(World.holding Tryd.prog default ⟨#[], #[], []⟩).heap.size + 3, 0, none⟩))] t frozen | o => o).modify 0 fun | .cells _ t frozen => .cells #[.iface 151 (.pointer (some ⟨(World.holding Tryd.prog default ⟨#[], #[], []⟩).heap.size + 4, 0, none⟩))] t frozen | o => o).modify 1 fun | .cells _ t frozen => .cells #[.iface 151 (.pointer (some ⟨(World.holding Tryd.prog default ⟨#[], #[], []⟩).heap.size + 5, 0, none⟩))] t frozen | o => o).modify 2 fun | .cells _ t frozen => .cells #[.iface 104 (.agg #[.pointer (some ⟨7, 36, none⟩)])] t frozen | o => o } : World).forCall (fun _ _ => 0) ⟨#[], #[.string ⟨#[]⟩], []⟩).memory Tryd.f8.params.toList Rows.escPlainSpec.vars false #[Value.string ⟨#[]⟩].toList 8 = some ([.lit (.string [])], [], places) :=
  ⟨[], by kernel_rfl⟩

set_option maxRecDepth 100000 in
theorem lifted (os : Os) (started : os.Started) (H : Type) (enc : TypeId × Value → H) (F : Stop.Interp) :
    ReturnsInHanded {} Tryd.checked os 8 .any ((OpenSpec.ofChange Rows.escPlainSpec).preRow enc Tryd.prog Tryd.f8 Rows.escPlainRow.domain false Rows.escPlainRow.laid) (((OpenSpec.ofChange Rows.escPlainSpec).at F).post enc Tryd.prog Tryd.f8 false true false false) := by
  obtain ⟨places, hx⟩ := reads os enc
  refine returnsInHanded_of_row (C := Tryd.checked) (s := OpenSpec.ofChange Rows.escPlainSpec) own started (by kernel_rfl) Tryd.func8
    (witness_row_at (enc := enc) (C := Tryd.checked) false ({ World.holding Tryd.prog os ⟨#[.cells #[.string sentS0] 173, .cells #[.string sentS1] 173, .cells #[.string sentS2] 173, .cells #[.string sentS3] 173, .cells #[.string sentS4] 173, .cells #[.string sentS5] 173], #[], []⟩ with heap := (((((((World.holding Tryd.prog os ⟨#[.cells #[.string sentS0] 173, .cells #[.string sentS1] 173, .cells #[.string sentS2] 173, .cells #[.string sentS3] 173, .cells #[.string sentS4] 173, .cells #[.string sentS5] 173], #[], []⟩).heap.modify 5 fun | .cells _ t frozen => .cells #[.iface 151 (.pointer (some ⟨(World.holding Tryd.prog default ⟨#[], #[], []⟩).heap.size + 0, 0, none⟩))] t frozen | o => o).modify 4 fun | .cells _ t frozen => .cells #[.iface 151 (.pointer (some ⟨(World.holding Tryd.prog default ⟨#[], #[], []⟩).heap.size + 1, 0, none⟩))] t frozen | o => o).modify 6 fun | .cells _ t frozen => .cells #[.iface 151 (.pointer (some ⟨(World.holding Tryd.prog default ⟨#[], #[], []⟩).heap.size + 2, 0, none⟩))] t frozen | o => o).modify 3 fun | .cells _ t frozen => .cells #[.iface 151 (.pointer (some ⟨(World.holding Tryd.prog default ⟨#[], #[], []⟩).heap.size + 3, 0, none⟩))] t frozen | o => o).modify 0 fun | .cells _ t frozen => .cells #[.iface 151 (.pointer (some ⟨(World.holding Tryd.prog default ⟨#[], #[], []⟩).heap.size + 4, 0, none⟩))] t frozen | o => o).modify 1 fun | .cells _ t frozen => .cells #[.iface 151 (.pointer (some ⟨(World.holding Tryd.prog default ⟨#[], #[], []⟩).heap.size + 5, 0, none⟩))] t frozen | o => o).modify 2 fun | .cells _ t frozen => .cells #[.iface 104 (.agg #[.pointer (some ⟨7, 36, none⟩)])] t frozen | o => o } : World) #[.string ⟨#[]⟩] rfl (by kernel_rfl) (by kernel_rfl) (by kernel_rfl)
      (OpenSpec.preRow_of_cond 8 hx (by kernel_rfl) (fun k hk => by cases hk) (by kernel_rfl) (laid_met os _))) ?_
  intro W base args ds gs before hval hW _ _ _ hL _ _
  exact contract H enc W base args ds gs before hval hW hL

theorem said : Rows.EscPlainSaid :=
  OpenClaim.holds_of_cond 8 Tryd.f8 rfl rfl rfl rfl rfl rfl rfl ⟨rfl, rfl, rfl, rfl, rfl⟩ rfl rfl rfl rfl rfl (by kernel_rfl) Tryd.func8 (by kernel_rfl)
    (of_decide_eq_true (by kernel_rfl)) (by unfold Func.isWrapper; first | (rw [if_pos (by decide +kernel)]; kernel_rfl) | (rw [if_neg (by decide +kernel)]; exact ⟨rfl, rfl⟩))
    (fun os started H enc _ F => by rw [OpenClaim.pre_eq_preRow]; exact lifted os started H enc F)

theorem plain (f : FuncId) (fn : Func) (hf : Tryd.pinned.checked.prog.funcNamed "latiner/latinerlaw06.EscPlain" = some f) (hfn : Tryd.pinned.checked.prog.funcs[f]? = some fn) :
    true = Tryd.pinned.checked.prog.looks [] ∧ ∀ (j : Nat) t, fn.params[j]? = some t → Tryd.pinned.checked.prog.wantsStandIn t = false := by
  obtain rfl : f = 8 := Option.some.inj ((show Tryd.prog.funcNamed "latiner/latinerlaw06.EscPlain" = some 8 by kernel_rfl).symm.trans hf) |>.symm
  obtain rfl : fn = Tryd.f8 := (Option.some.inj (Tryd.func8.symm.trans hfn)).symm
  refine ⟨by kernel_rfl, fun j t ht => ?_⟩
  rw [Tryd.params8] at ht
  have hm : t = 9 := by have := Array.mem_of_getElem? ht; simp at this; first | exact this | omega | (rcases this with h | h | h <;> simp [h]) | (rcases this with h | h | h | h <;> simp [h])
  subst hm
  exact (show Tryd.prog.wantsStandIn 9 = false by kernel_rfl)

/-- The card. -/
theorem card : Rows.EscPlainCardSaid :=
  Claim7.holds_tied_plain_at .later [] _ _ _ _ said (fun _ h => by cases h) (by kernel_rfl) (fun _ h => by cases h) escPlain_row_tie rfl ⟨rfl, rfl⟩ (by kernel_rfl) rfl plain (by kernel_rfl)
end Go.Proofs.YtgapoofalnakmaaDoor.E.plain

namespace Go.Proofs.YtgapoofalnakmaaDoor
theorem escPlain_holds : Rows.EscPlainCardSaid := E.plain.card
#print axioms escPlain_holds
end Go.Proofs.YtgapoofalnakmaaDoor
