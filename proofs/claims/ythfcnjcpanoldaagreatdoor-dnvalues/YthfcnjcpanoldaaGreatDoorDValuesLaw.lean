/-
  DnValues: a name of one part has the text of its type, a sign, and its value as in a name, for any two texts. Conditions: the package-level variables hold what the program's text lays (the card ties them).
-/
import Derived.Test.YthfcnjcpanoldaaGreatDoorDLaid
import Derived.Test.YthfcnjcpanoldaaGreatDoorDOne
import Derived.Laws.DeepStrings4
namespace Go.Proofs.YthfcnjcpanoldaaGreatDoor.D.Values
open Go Go.RowKit Go.Shelf Dp Go.ChangeShapes Go.WideShapes Go.ChangeAt Go.ChangeMaps

set_option maxRecDepth 100000 in
set_option maxHeartbeats 2000000 in
theorem walk (x0 x1 : ByteArray) (a : Ad) (w : World) (g : Glob a w) (h0 : x0.size ≤ maxLen) (h1 : x1.size ≤ maxLen) :
    Calls Tryz.prog 8 #[.string x0, .string x1] w fun e w' => e = .returned (.bool true) ∧ Below w.heap.size w w' := by
  unfold maxLen at h0 h1
  have hk : x0.extract 0 (min (x0.size : Int) 100).toNat = x0.extract 0 100 := ext_min x0 100
  have hv : x1.extract 0 (min (x1.size : Int) 100).toNat = x1.extract 0 100 := ext_min x1 100
  have zk := ext_size x0 100
  have zv := ext_size x1 100
  generalize x0.extract 0 100 = k at *
  generalize x1.extract 0 100 = v at *
  have HSh := hide (shown_true a w g)
  have Hg := hide g
  have HT := hide fun W => isType_any k W (by omega)
  have HP := hide fun u W g h => print_any [[(k, v)]] u a W g h (sm_one (by omega) (by omega))
  have HN := hide fun W => E.name_any v W (by omega)
  have hpi : pri [[(k, v)]] = if okA (k, v) then (prB (k, v), 0) else (⟨#[]⟩, 70) := by unfold pri; rw [okN_one, pr_one]
  rw [hpi] at HP
  have hps := (E.pri_size true v).2
  have hpb := prB_eq (k, v)
  dsimp only at hpb
  have hoa : okA (k, v) = (isTy k && decide (v.size ≤ 60)) := rfl
  rw [hoa] at HP
  generalize isTy k = b at *
  clear g hpi hoa
  by_cases hz : v.size ≤ 60
  · have hz' : ¬ (60 : Int) < v.size := by omega
    cases b
    · rw [Bool.false_and, if_neg (by simp)] at HP
      dsimp only at HP
      clear hpb hz zv
      go_enter Tryz.func8, Tryz.ntmps8
      go_wp2_with fail
      refine (unhide HSh).mono ?_
      rintro e w1 ⟨rfl, hb⟩
      have B1 := hide (((Below.alloc ((Below.alloc hb hb.size (.cells #[.string k, .string v] 39))) (Nat.le_trans hb.size (by simp)) (.cells #[.slice (some ⟨w1.heap.size, 0, none⟩) 1 1] 42))))
      clear hb HSh
      go_wp2_with fail
      refine ((unhide HP) _ _ ((unhide Hg).below (Nat.le_refl _) (unhide B1)) (one_lies w1 k v)).mono ?_
      rintro e w2 ⟨rfl, hb⟩
      have B2 := hide (step (unhide B1) hb)
      clear hb B1 HP
      go_wp2_with fail
      refine ((unhide HT) _).mono ?_
      rintro e w3 ⟨rfl, hb⟩
      have B3 := hide (step (unhide B2) hb)
      clear hb B2
      go_wp2
      go_ret
      exact ⟨rfl, unhide B3⟩
    · rw [decide_eq_true hz, Bool.and_self, if_pos rfl] at HP
      dsimp only at HP
      have Hpb := hide hpb
      have Hs1 : Hid (k.size ≤ 9223372036854775806) := hide (by omega)
      have Hs2 : Hid (k.size + 1 + (E.pri true v).size ≤ 9223372036854775807) := hide (by omega)
      generalize E.pri true v = pv at *
      rw [← hpb] at HP
      clear hpb hz zv hps
      go_enter Tryz.func8, Tryz.ntmps8
      go_wp2_with fail
      refine (unhide HSh).mono ?_
      rintro e w1 ⟨rfl, hb⟩
      have B1 := hide (((Below.alloc ((Below.alloc hb hb.size (.cells #[.string k, .string v] 39))) (Nat.le_trans hb.size (by simp)) (.cells #[.slice (some ⟨w1.heap.size, 0, none⟩) 1 1] 42))))
      clear hb HSh
      go_wp2_with fail
      refine ((unhide HP) _ _ ((unhide Hg).below (Nat.le_refl _) (unhide B1)) (one_lies w1 k v)).mono ?_
      rintro e w2 ⟨rfl, hb⟩
      have B2 := hide (step (unhide B1) hb)
      clear hb B1 HP
      go_wp2_with fail
      refine ((unhide HT) _).mono ?_
      rintro e w3 ⟨rfl, hb⟩
      have B3 := hide (step (unhide B2) hb)
      clear hb B2
      have hs1 := unhide Hs1
      go_wp2_with fail
      refine ((unhide HN) _).mono ?_
      rintro e w4 ⟨rfl, hb⟩
      have B4 := hide (step (unhide B3) hb)
      clear hb B3 hs1
      have hs2 := unhide Hs2
      go_wp2
      go_ret
      exact ⟨rfl, unhide B4⟩
  · have hz' : (60 : Int) < v.size := by omega
    rw [decide_eq_false hz, Bool.and_false, if_neg (by simp)] at HP
    dsimp only at HP
    clear hpb hz zv
    cases b
    all_goals
      go_enter Tryz.func8, Tryz.ntmps8
      go_wp2_with fail
      refine (unhide HSh).mono ?_
      rintro e w1 ⟨rfl, hb⟩
      have B1 := hide (((Below.alloc ((Below.alloc hb hb.size (.cells #[.string k, .string v] 39))) (Nat.le_trans hb.size (by simp)) (.cells #[.slice (some ⟨w1.heap.size, 0, none⟩) 1 1] 42))))
      clear hb HSh
      go_wp2_with fail
      refine ((unhide HP) _ _ ((unhide Hg).below (Nat.le_refl _) (unhide B1)) (one_lies w1 k v)).mono ?_
      rintro e w2 ⟨rfl, hb⟩
      have B2 := hide (step (unhide B1) hb)
      clear hb B1 HP
      go_wp2_with fail
      refine ((unhide HT) _).mono ?_
      rintro e w3 ⟨rfl, hb⟩
      have B3 := hide (step (unhide B2) hb)
      clear hb B2
      go_wp2
      go_ret
      exact ⟨rfl, unhide B3⟩

set_option maxRecDepth 100000 in
/-- What the walk gives, for every argument. -/
theorem contract (H : Type) (enc : TypeId × Value → H) (W : World) (base : Nat) (args : Array Value) (ds gs : List (DataW H)) (before : List MemPlace)
    (hval : ∀ (j : Nat) t v, Tryz.f8.params[j]? = some t → args[j]? = some v → Value.okWide Tryz.prog W .any base t v)
    (hW : DataW.Whole enc Tryz.prog Tryz.f8.params.toList Rows.dnValuesSpec.vars false W args.toList ds gs before) (hL : laidMetH Tryz.prog Rows.dnValuesRow.laid W) :
    Calls Tryz.prog 8 args W fun e W' => ∃ v, e = .returned v ∧ Rows.dnValuesSpec.post enc Tryz.prog Tryz.f8 false true false false W args v W' := by
  obtain ⟨a, g⟩ := glob_of_laid hL
  have hW' := hW
  obtain ⟨p, q, hA0, hV, rfl, hfz, hnd⟩ := hW
  have hA : DataW.TrodAll enc Tryz.prog W 0 (fun _ => true) true Tryz.f8.params.toList args.toList ds p := hA0
  rw [Tryz.params8] at hA hval
  obtain ⟨v0, vs0, d0, ds0, p0, q0, hargs0, rfl, rfl, h0, r0⟩ := trodAll_cons hA
  obtain ⟨v1, vs1, d1, ds1, p1, q1, hargs1, rfl, rfl, h1, r1⟩ := trodAll_cons r0
  obtain ⟨rfl, rfl, rfl⟩ := trodAll_nil r1
  obtain rfl : args = #[v0, v1] := by cases args; simp_all
  obtain ⟨rfl, rfl⟩ := trodVars_none hV
  obtain ⟨x0, rfl, rfl, rfl, wf0⟩ := open_string Tryz.underlying9 (hval 0 9 v0 rfl rfl) h0
  obtain ⟨x1, rfl, rfl, rfl, wf1⟩ := open_string Tryz.underlying9 (hval 1 9 v1 rfl rfl) h1
  clear hA0
  simp only [List.append_nil] at hW'
  refine (walk x0 x1 a W g wf0 wf1).mono fun e W' ⟨he, hg⟩ => ?_
  subst he
  refine ⟨_, rfl, _, _, _, [], [], [], hW', ?_, ?_, ?_, hg.frame _, fun h => by cases h⟩
  · exact trodAll_cons_mk (shut_bool Tryz.underlying4 _) trodAll_mk0
  · exact trodAll_cons_mk (shut_string Tryz.underlying9 wf0) (trodAll_cons_mk (shut_string Tryz.underlying9 wf1) (trodAll_mk0))
  · rfl

theorem reads (os : Os) {H : Type} (enc : TypeId × Value → H) : ∃ places, DataW.whole enc Tryz.prog (({ World.holding Tryz.prog os ⟨#[.cells #[.string sentS0] 237, .cells #[.string sentS1] 237, .cells #[.string sentS2] 237, .cells #[.string sentS3] 237, .cells #[.string sentS4] 237, .cells #[.string sentS5] 237, .cells #[.string sentS6] 237, .cells #[.string sentS7] 237, .cells #[.string sentS8] 237, .cells #[.string sentS9] 237], #[], []⟩ with heap := (((((((((((World.holding Tryz.prog os ⟨#[.cells #[.string sentS0] 237, .cells #[.string sentS1] 237, .cells #[.string sentS2] 237, .cells #[.string sentS3] 237, .cells #[.string sentS4] 237, .cells #[.string sentS5] 237, .cells #[.string sentS6] 237, .cells #[.string sentS7] 237, .cells #[.string sentS8] 237, .cells #[.string sentS9] 237], #[], []⟩).heap.modify 10 fun | .cells _ t frozen => .cells #[.iface 219 (.pointer (some ⟨(World.holding Tryz.prog default ⟨#[], #[], []⟩).heap.size + 0, 0, none⟩))] t frozen | o => o).modify 9 fun | .cells _ t frozen => .cells #[.iface 219 (.pointer (some ⟨(World.holding Tryz.prog default ⟨#[], #[], []⟩).heap.size + 1, 0, none⟩))] t frozen | o => o).modify 11 fun | .cells _ t frozen => .cells #[.iface 219 (.pointer (some ⟨(World.holding Tryz.prog default ⟨#[], #[], []⟩).heap.size + 2, 0, none⟩))] t frozen | o => o).modify 8 fun | .cells _ t frozen => .cells #[.iface 219 (.pointer (some ⟨(World.holding Tryz.prog default ⟨#[], #[], []⟩).heap.size + 3, 0, none⟩))] t frozen | o => o).modify 6 fun | .cells _ t frozen => .cells #[.iface 219 (.pointer (some ⟨(World.holding Tryz.prog default ⟨#[], #[], []⟩).heap.size + 4, 0, none⟩))] t frozen | o => o).modify 7 fun | .cells _ t frozen => .cells #[.iface 219 (.pointer (some ⟨(World.holding Tryz.prog default ⟨#[], #[], []⟩).heap.size + 5, 0, none⟩))] t frozen | o => o).modify 0 fun | .cells _ t frozen => .cells #[.iface 219 (.pointer (some ⟨(World.holding Tryz.prog default ⟨#[], #[], []⟩).heap.size + 6, 0, none⟩))] t frozen | o => o).modify 1 fun | .cells _ t frozen => .cells #[.iface 219 (.pointer (some ⟨(World.holding Tryz.prog default ⟨#[], #[], []⟩).heap.size + 7, 0, none⟩))] t frozen | o => o).modify 2 fun | .cells _ t frozen => .cells #[.iface 219 (.pointer (some ⟨(World.holding Tryz.prog default ⟨#[], #[], []⟩).heap.size + 8, 0, none⟩))] t frozen | o => o).modify 3 fun | .cells _ t frozen => .cells #[.iface 219 (.pointer (some ⟨(World.holding Tryz.prog default ⟨#[], #[], []⟩).heap.size + 9, 0, none⟩))] t frozen | o => o).modify 4 fun | .cells _ t frozen => .cells #[.iface 135 (.agg #[.pointer (some ⟨12, 45, none⟩)])] t frozen | o => o } : World).forCall (fun _ _ => 0) ⟨#[], #[.string ⟨#[]⟩, .string ⟨#[]⟩], []⟩).memory Tryz.f8.params.toList Rows.dnValuesSpec.vars false #[Value.string ⟨#[]⟩, Value.string ⟨#[]⟩].toList 8 = some ([.lit (.string []), .lit (.string [])], [], places) :=
  ⟨[], by kernel_rfl⟩

set_option maxRecDepth 100000 in
theorem lifted (os : Os) (started : os.Started) (H : Type) (enc : TypeId × Value → H) (F : Stop.Interp) :
    ReturnsInHanded {} Tryz.checked os 8 .any ((OpenSpec.ofChange Rows.dnValuesSpec).preRow enc Tryz.prog Tryz.f8 Rows.dnValuesRow.domain false Rows.dnValuesRow.laid) (((OpenSpec.ofChange Rows.dnValuesSpec).at F).post enc Tryz.prog Tryz.f8 false true false false) := by
  obtain ⟨places, hx⟩ := reads os enc
  refine returnsInHanded_of_row (C := Tryz.checked) (s := OpenSpec.ofChange Rows.dnValuesSpec) own started (by kernel_rfl) Tryz.func8
    (witness_row_at (enc := enc) (C := Tryz.checked) false ({ World.holding Tryz.prog os ⟨#[.cells #[.string sentS0] 237, .cells #[.string sentS1] 237, .cells #[.string sentS2] 237, .cells #[.string sentS3] 237, .cells #[.string sentS4] 237, .cells #[.string sentS5] 237, .cells #[.string sentS6] 237, .cells #[.string sentS7] 237, .cells #[.string sentS8] 237, .cells #[.string sentS9] 237], #[], []⟩ with heap := (((((((((((World.holding Tryz.prog os ⟨#[.cells #[.string sentS0] 237, .cells #[.string sentS1] 237, .cells #[.string sentS2] 237, .cells #[.string sentS3] 237, .cells #[.string sentS4] 237, .cells #[.string sentS5] 237, .cells #[.string sentS6] 237, .cells #[.string sentS7] 237, .cells #[.string sentS8] 237, .cells #[.string sentS9] 237], #[], []⟩).heap.modify 10 fun | .cells _ t frozen => .cells #[.iface 219 (.pointer (some ⟨(World.holding Tryz.prog default ⟨#[], #[], []⟩).heap.size + 0, 0, none⟩))] t frozen | o => o).modify 9 fun | .cells _ t frozen => .cells #[.iface 219 (.pointer (some ⟨(World.holding Tryz.prog default ⟨#[], #[], []⟩).heap.size + 1, 0, none⟩))] t frozen | o => o).modify 11 fun | .cells _ t frozen => .cells #[.iface 219 (.pointer (some ⟨(World.holding Tryz.prog default ⟨#[], #[], []⟩).heap.size + 2, 0, none⟩))] t frozen | o => o).modify 8 fun | .cells _ t frozen => .cells #[.iface 219 (.pointer (some ⟨(World.holding Tryz.prog default ⟨#[], #[], []⟩).heap.size + 3, 0, none⟩))] t frozen | o => o).modify 6 fun | .cells _ t frozen => .cells #[.iface 219 (.pointer (some ⟨(World.holding Tryz.prog default ⟨#[], #[], []⟩).heap.size + 4, 0, none⟩))] t frozen | o => o).modify 7 fun | .cells _ t frozen => .cells #[.iface 219 (.pointer (some ⟨(World.holding Tryz.prog default ⟨#[], #[], []⟩).heap.size + 5, 0, none⟩))] t frozen | o => o).modify 0 fun | .cells _ t frozen => .cells #[.iface 219 (.pointer (some ⟨(World.holding Tryz.prog default ⟨#[], #[], []⟩).heap.size + 6, 0, none⟩))] t frozen | o => o).modify 1 fun | .cells _ t frozen => .cells #[.iface 219 (.pointer (some ⟨(World.holding Tryz.prog default ⟨#[], #[], []⟩).heap.size + 7, 0, none⟩))] t frozen | o => o).modify 2 fun | .cells _ t frozen => .cells #[.iface 219 (.pointer (some ⟨(World.holding Tryz.prog default ⟨#[], #[], []⟩).heap.size + 8, 0, none⟩))] t frozen | o => o).modify 3 fun | .cells _ t frozen => .cells #[.iface 219 (.pointer (some ⟨(World.holding Tryz.prog default ⟨#[], #[], []⟩).heap.size + 9, 0, none⟩))] t frozen | o => o).modify 4 fun | .cells _ t frozen => .cells #[.iface 135 (.agg #[.pointer (some ⟨12, 45, none⟩)])] t frozen | o => o } : World) #[.string ⟨#[]⟩, .string ⟨#[]⟩] rfl (by kernel_rfl) (by kernel_rfl) (by kernel_rfl)
      (OpenSpec.preRow_of_cond 8 hx (by kernel_rfl) (fun k hk => by cases hk) (by kernel_rfl) (laid_met os _))) ?_
  intro W base args ds gs before hval hW _ _ _ hL _ _
  exact contract H enc W base args ds gs before hval hW hL

theorem said : Rows.DnValuesSaid :=
  OpenClaim.holds_of_cond 8 Tryz.f8 rfl rfl rfl rfl rfl rfl rfl ⟨rfl, rfl, rfl, rfl, rfl⟩ rfl rfl rfl rfl rfl (by kernel_rfl) Tryz.func8 (by kernel_rfl)
    (of_decide_eq_true (by kernel_rfl)) (by unfold Func.isWrapper; first | (rw [if_pos (by decide +kernel)]; kernel_rfl) | (rw [if_neg (by decide +kernel)]; exact ⟨rfl, rfl⟩))
    (fun os started H enc _ F => by rw [OpenClaim.pre_eq_preRow]; exact lifted os started H enc F)

theorem plain (f : FuncId) (fn : Func) (hf : Tryz.pinned.checked.prog.funcNamed "latiner/latinerlaw07.DnValues" = some f) (hfn : Tryz.pinned.checked.prog.funcs[f]? = some fn) :
    true = Tryz.pinned.checked.prog.looks [] ∧ ∀ (j : Nat) t, fn.params[j]? = some t → Tryz.pinned.checked.prog.wantsStandIn t = false := by
  obtain rfl : f = 8 := Option.some.inj ((show Tryz.prog.funcNamed "latiner/latinerlaw07.DnValues" = some 8 by kernel_rfl).symm.trans hf) |>.symm
  obtain rfl : fn = Tryz.f8 := (Option.some.inj (Tryz.func8.symm.trans hfn)).symm
  refine ⟨by kernel_rfl, fun j t ht => ?_⟩
  rw [Tryz.params8] at ht
  have hm : t = 9 := by have := Array.mem_of_getElem? ht; simp at this; first | exact this | omega | (rcases this with h | h | h <;> simp [h]) | (rcases this with h | h | h | h <;> simp [h])
  subst hm
  exact (show Tryz.prog.wantsStandIn 9 = false by kernel_rfl)

/-- The card. -/
theorem card : Rows.DnValuesCardSaid :=
  Claim7.holds_tied_plain_at .later [] _ _ _ _ said (fun _ h => by cases h) (by kernel_rfl) (fun _ h => by cases h) dnValues_row_tie rfl ⟨rfl, rfl⟩ (by kernel_rfl) rfl plain (by kernel_rfl)
end Go.Proofs.YthfcnjcpanoldaaGreatDoor.D.Values

namespace Go.Proofs.YthfcnjcpanoldaaGreatDoor
theorem dnValues_holds : Rows.DnValuesCardSaid := D.Values.card
#print axioms dnValues_holds
end Go.Proofs.YthfcnjcpanoldaaGreatDoor
