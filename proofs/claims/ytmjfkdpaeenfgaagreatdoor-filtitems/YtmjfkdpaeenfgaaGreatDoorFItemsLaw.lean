/-
  FiltItems: the text of a filter that has a name is that, a sign, and its value as in a filter, for any two texts and kind. Conditions: the package-level variables hold what the program's text lays (the card ties them).
-/
import Derived.Test.YtmjfkdpaeenfgaaGreatDoorG31
import Derived.Laws.DeepStrings4
namespace Go.Proofs.YtmjfkdpaeenfgaaGreatDoor.F.Items
open Go Go.RowKit Go.Shelf Fp Go.ChangeShapes Go.WideShapes Go.ChangeAt Go.ChangeMaps
open Go.Proofs.YtmjfkdpaeenfgaaGreatDoor.D (hide unhide)

set_option linter.unusedSimpArgs false in
set_option maxRecDepth 100000 in
set_option maxHeartbeats 4000000 in
theorem walk (x0 x1 : ByteArray) (x2 : Int) (a : Ad) (w : World) (g : Glob a w) (h0 : x0.size ≤ maxLen) (h1 : x1.size ≤ maxLen) :
    Calls Tryz.prog 6 #[.string x0, .string x1, .int .i64 x2] w fun e w' => e = .returned (.bool true) ∧ Below w.heap.size w w' := by
  unfold maxLen at h0 h1
  have hk : x0.extract 0 (min (x0.size : Int) 61).toNat = x0.extract 0 61 := ext_min x0 61
  have hv : x1.extract 0 (min (x1.size : Int) 61).toNat = x1.extract 0 61 := ext_min x1 61
  have zn := ext_size x0 61
  have zv := ext_size x1 61
  generalize x0.extract 0 61 = n at *
  generalize x1.extract 0 61 = v at *
  have HSh := hide (shown_true a w g)
  have Hg := hide g
  have HT := hide fun W => isName_any n W
  have HF := hide fun W => E.filter_any v W (by omega)
  have hps := (E.pri_size false v).2
  have Hs1 : Hid (¬ 9223372036854775807 < (⟨#[40]⟩ : ByteArray).size + n.size) := hide (by show ¬ 9223372036854775807 < 1 + n.size; omega)
  have Hs2 : Hid (n.size ≤ 61) := hide zn
  have Hs3 : Hid ((E.pri false v).size ≤ 200) := hide (by omega)
  clear g
  by_cases k3 : x2 = 3
  · subst k3
    obtain ⟨b, hb0⟩ : ∃ b, okName n = b := ⟨_, rfl⟩
    rw [hb0] at HT
    have HP := hide fun W g => print_any 7 (itF 3 n v) a W _ _ g (itF_node W (by omega) (by omega)) (by omega)
    rw [itF_prt (sg := ⟨#[61]⟩) (by simp)] at HP
    rw [hb0] at HP
    clear hb0
    by_cases hz : v.size ≤ 60
    · have hz' : ¬ (60 : Int) < v.size := by omega
      cases b
      · rw [Bool.false_and, if_neg (by simp)] at HP
        clear hz hps HF Hs1 Hs2 Hs3 zv zn
        go_enter Tryz.func6, Tryz.ntmps6
        go_wp2_with fail
        refine (unhide HSh).mono ?_
        rintro e w1 ⟨rfl, hb⟩
        have B1 := hide hb
        clear hb HSh
        go_wp2_with fail
        refine ((unhide HP) _ ((unhide Hg).below (Nat.le_refl _) (unhide B1))).mono ?_
        rintro e w2 ⟨rfl, hb⟩
        have B2 := hide (step (unhide B1) hb)
        clear hb B1 HP
        go_wp2_with fail
        refine ((unhide HT) _).mono ?_
        rintro e w3 ⟨rfl, hb⟩
        have B3 := hide (step (unhide B2) hb)
        clear hb B2
        go_wp2
        go_ret
        exact ⟨rfl, unhide B3⟩
      · rw [decide_eq_true hz, Bool.and_self, if_pos rfl] at HP
        have Hz := hide zv
        clear hz hps zv zn
        go_enter Tryz.func6, Tryz.ntmps6
        go_wp2_with fail
        refine (unhide HSh).mono ?_
        rintro e w1 ⟨rfl, hb⟩
        have B1 := hide hb
        clear hb HSh
        go_wp2_with fail
        refine ((unhide HP) _ ((unhide Hg).below (Nat.le_refl _) (unhide B1))).mono ?_
        rintro e w2 ⟨rfl, hb⟩
        have B2 := hide (step (unhide B1) hb)
        clear hb B1 HP
        go_wp2_with fail
        refine ((unhide HT) _).mono ?_
        rintro e w3 ⟨rfl, hb⟩
        have B3 := hide (step (unhide B2) hb)
        clear hb B2
        have hs1 := unhide Hs1
        have hs2 := unhide Hs2
        go_wp2_with fail
        refine ((unhide HF) _).mono ?_
        rintro e w4 ⟨rfl, hb⟩
        have B4 := hide (step (unhide B3) hb)
        clear hb B3
        have hs3 := unhide Hs3
        go_wp2
        go_ret
        exact ⟨rfl, unhide B4⟩
    · have hz' : (60 : Int) < v.size := by omega
      rw [decide_eq_false hz, Bool.and_false, if_neg (by simp)] at HP
      clear hz hps HF Hs1 Hs2 Hs3 zv zn
      cases b
      all_goals
        go_enter Tryz.func6, Tryz.ntmps6
        go_wp2_with fail
        refine (unhide HSh).mono ?_
        rintro e w1 ⟨rfl, hb⟩
        have B1 := hide hb
        clear hb HSh
        go_wp2_with fail
        refine ((unhide HP) _ ((unhide Hg).below (Nat.le_refl _) (unhide B1))).mono ?_
        rintro e w2 ⟨rfl, hb⟩
        have B2 := hide (step (unhide B1) hb)
        clear hb B1 HP
        go_wp2_with fail
        refine ((unhide HT) _).mono ?_
        rintro e w3 ⟨rfl, hb⟩
        have B3 := hide (step (unhide B2) hb)
        clear hb B2
        go_wp2
        go_ret
        exact ⟨rfl, unhide B3⟩
  by_cases k5 : x2 = 5
  · subst k5
    obtain ⟨b, hb0⟩ : ∃ b, okName n = b := ⟨_, rfl⟩
    rw [hb0] at HT
    have HP := hide fun W g => print_any 7 (itF 5 n v) a W _ _ g (itF_node W (by omega) (by omega)) (by omega)
    rw [itF_prt (sg := ⟨#[62, 61]⟩) (by simp)] at HP
    rw [hb0] at HP
    clear hb0
    by_cases hz : v.size ≤ 60
    · have hz' : ¬ (60 : Int) < v.size := by omega
      cases b
      · rw [Bool.false_and, if_neg (by simp)] at HP
        clear hz hps HF Hs1 Hs2 Hs3 zv zn
        go_enter Tryz.func6, Tryz.ntmps6
        go_wp2_with fail
        refine (unhide HSh).mono ?_
        rintro e w1 ⟨rfl, hb⟩
        have B1 := hide hb
        clear hb HSh
        go_wp2_with fail
        refine ((unhide HP) _ ((unhide Hg).below (Nat.le_refl _) (unhide B1))).mono ?_
        rintro e w2 ⟨rfl, hb⟩
        have B2 := hide (step (unhide B1) hb)
        clear hb B1 HP
        go_wp2_with fail
        refine ((unhide HT) _).mono ?_
        rintro e w3 ⟨rfl, hb⟩
        have B3 := hide (step (unhide B2) hb)
        clear hb B2
        go_wp2
        go_ret
        exact ⟨rfl, unhide B3⟩
      · rw [decide_eq_true hz, Bool.and_self, if_pos rfl] at HP
        have Hz := hide zv
        clear hz hps zv zn
        go_enter Tryz.func6, Tryz.ntmps6
        go_wp2_with fail
        refine (unhide HSh).mono ?_
        rintro e w1 ⟨rfl, hb⟩
        have B1 := hide hb
        clear hb HSh
        go_wp2_with fail
        refine ((unhide HP) _ ((unhide Hg).below (Nat.le_refl _) (unhide B1))).mono ?_
        rintro e w2 ⟨rfl, hb⟩
        have B2 := hide (step (unhide B1) hb)
        clear hb B1 HP
        go_wp2_with fail
        refine ((unhide HT) _).mono ?_
        rintro e w3 ⟨rfl, hb⟩
        have B3 := hide (step (unhide B2) hb)
        clear hb B2
        have hs1 := unhide Hs1
        have hs2 := unhide Hs2
        go_wp2_with fail
        refine ((unhide HF) _).mono ?_
        rintro e w4 ⟨rfl, hb⟩
        have B4 := hide (step (unhide B3) hb)
        clear hb B3
        have hs3 := unhide Hs3
        go_wp2
        go_ret
        exact ⟨rfl, unhide B4⟩
    · have hz' : (60 : Int) < v.size := by omega
      rw [decide_eq_false hz, Bool.and_false, if_neg (by simp)] at HP
      clear hz hps HF Hs1 Hs2 Hs3 zv zn
      cases b
      all_goals
        go_enter Tryz.func6, Tryz.ntmps6
        go_wp2_with fail
        refine (unhide HSh).mono ?_
        rintro e w1 ⟨rfl, hb⟩
        have B1 := hide hb
        clear hb HSh
        go_wp2_with fail
        refine ((unhide HP) _ ((unhide Hg).below (Nat.le_refl _) (unhide B1))).mono ?_
        rintro e w2 ⟨rfl, hb⟩
        have B2 := hide (step (unhide B1) hb)
        clear hb B1 HP
        go_wp2_with fail
        refine ((unhide HT) _).mono ?_
        rintro e w3 ⟨rfl, hb⟩
        have B3 := hide (step (unhide B2) hb)
        clear hb B2
        go_wp2
        go_ret
        exact ⟨rfl, unhide B3⟩
  by_cases k6 : x2 = 6
  · subst k6
    obtain ⟨b, hb0⟩ : ∃ b, okName n = b := ⟨_, rfl⟩
    rw [hb0] at HT
    have HP := hide fun W g => print_any 7 (itF 6 n v) a W _ _ g (itF_node W (by omega) (by omega)) (by omega)
    rw [itF_prt (sg := ⟨#[60, 61]⟩) (by simp)] at HP
    rw [hb0] at HP
    clear hb0
    by_cases hz : v.size ≤ 60
    · have hz' : ¬ (60 : Int) < v.size := by omega
      cases b
      · rw [Bool.false_and, if_neg (by simp)] at HP
        clear hz hps HF Hs1 Hs2 Hs3 zv zn
        go_enter Tryz.func6, Tryz.ntmps6
        go_wp2_with fail
        refine (unhide HSh).mono ?_
        rintro e w1 ⟨rfl, hb⟩
        have B1 := hide hb
        clear hb HSh
        go_wp2_with fail
        refine ((unhide HP) _ ((unhide Hg).below (Nat.le_refl _) (unhide B1))).mono ?_
        rintro e w2 ⟨rfl, hb⟩
        have B2 := hide (step (unhide B1) hb)
        clear hb B1 HP
        go_wp2_with fail
        refine ((unhide HT) _).mono ?_
        rintro e w3 ⟨rfl, hb⟩
        have B3 := hide (step (unhide B2) hb)
        clear hb B2
        go_wp2
        go_ret
        exact ⟨rfl, unhide B3⟩
      · rw [decide_eq_true hz, Bool.and_self, if_pos rfl] at HP
        have Hz := hide zv
        clear hz hps zv zn
        go_enter Tryz.func6, Tryz.ntmps6
        go_wp2_with fail
        refine (unhide HSh).mono ?_
        rintro e w1 ⟨rfl, hb⟩
        have B1 := hide hb
        clear hb HSh
        go_wp2_with fail
        refine ((unhide HP) _ ((unhide Hg).below (Nat.le_refl _) (unhide B1))).mono ?_
        rintro e w2 ⟨rfl, hb⟩
        have B2 := hide (step (unhide B1) hb)
        clear hb B1 HP
        go_wp2_with fail
        refine ((unhide HT) _).mono ?_
        rintro e w3 ⟨rfl, hb⟩
        have B3 := hide (step (unhide B2) hb)
        clear hb B2
        have hs1 := unhide Hs1
        have hs2 := unhide Hs2
        go_wp2_with fail
        refine ((unhide HF) _).mono ?_
        rintro e w4 ⟨rfl, hb⟩
        have B4 := hide (step (unhide B3) hb)
        clear hb B3
        have hs3 := unhide Hs3
        go_wp2
        go_ret
        exact ⟨rfl, unhide B4⟩
    · have hz' : (60 : Int) < v.size := by omega
      rw [decide_eq_false hz, Bool.and_false, if_neg (by simp)] at HP
      clear hz hps HF Hs1 Hs2 Hs3 zv zn
      cases b
      all_goals
        go_enter Tryz.func6, Tryz.ntmps6
        go_wp2_with fail
        refine (unhide HSh).mono ?_
        rintro e w1 ⟨rfl, hb⟩
        have B1 := hide hb
        clear hb HSh
        go_wp2_with fail
        refine ((unhide HP) _ ((unhide Hg).below (Nat.le_refl _) (unhide B1))).mono ?_
        rintro e w2 ⟨rfl, hb⟩
        have B2 := hide (step (unhide B1) hb)
        clear hb B1 HP
        go_wp2_with fail
        refine ((unhide HT) _).mono ?_
        rintro e w3 ⟨rfl, hb⟩
        have B3 := hide (step (unhide B2) hb)
        clear hb B2
        go_wp2
        go_ret
        exact ⟨rfl, unhide B3⟩
  by_cases k8 : x2 = 8
  · subst k8
    obtain ⟨b, hb0⟩ : ∃ b, okName n = b := ⟨_, rfl⟩
    rw [hb0] at HT
    have HP := hide fun W g => print_any 7 (itF 8 n v) a W _ _ g (itF_node W (by omega) (by omega)) (by omega)
    rw [itF_prt (sg := ⟨#[126, 61]⟩) (by simp)] at HP
    rw [hb0] at HP
    clear hb0
    by_cases hz : v.size ≤ 60
    · have hz' : ¬ (60 : Int) < v.size := by omega
      cases b
      · rw [Bool.false_and, if_neg (by simp)] at HP
        clear hz hps HF Hs1 Hs2 Hs3 zv zn
        go_enter Tryz.func6, Tryz.ntmps6
        go_wp2_with fail
        refine (unhide HSh).mono ?_
        rintro e w1 ⟨rfl, hb⟩
        have B1 := hide hb
        clear hb HSh
        go_wp2_with fail
        refine ((unhide HP) _ ((unhide Hg).below (Nat.le_refl _) (unhide B1))).mono ?_
        rintro e w2 ⟨rfl, hb⟩
        have B2 := hide (step (unhide B1) hb)
        clear hb B1 HP
        go_wp2_with fail
        refine ((unhide HT) _).mono ?_
        rintro e w3 ⟨rfl, hb⟩
        have B3 := hide (step (unhide B2) hb)
        clear hb B2
        go_wp2
        go_ret
        exact ⟨rfl, unhide B3⟩
      · rw [decide_eq_true hz, Bool.and_self, if_pos rfl] at HP
        have Hz := hide zv
        clear hz hps zv zn
        go_enter Tryz.func6, Tryz.ntmps6
        go_wp2_with fail
        refine (unhide HSh).mono ?_
        rintro e w1 ⟨rfl, hb⟩
        have B1 := hide hb
        clear hb HSh
        go_wp2_with fail
        refine ((unhide HP) _ ((unhide Hg).below (Nat.le_refl _) (unhide B1))).mono ?_
        rintro e w2 ⟨rfl, hb⟩
        have B2 := hide (step (unhide B1) hb)
        clear hb B1 HP
        go_wp2_with fail
        refine ((unhide HT) _).mono ?_
        rintro e w3 ⟨rfl, hb⟩
        have B3 := hide (step (unhide B2) hb)
        clear hb B2
        have hs1 := unhide Hs1
        have hs2 := unhide Hs2
        go_wp2_with fail
        refine ((unhide HF) _).mono ?_
        rintro e w4 ⟨rfl, hb⟩
        have B4 := hide (step (unhide B3) hb)
        clear hb B3
        have hs3 := unhide Hs3
        go_wp2
        go_ret
        exact ⟨rfl, unhide B4⟩
    · have hz' : (60 : Int) < v.size := by omega
      rw [decide_eq_false hz, Bool.and_false, if_neg (by simp)] at HP
      clear hz hps HF Hs1 Hs2 Hs3 zv zn
      cases b
      all_goals
        go_enter Tryz.func6, Tryz.ntmps6
        go_wp2_with fail
        refine (unhide HSh).mono ?_
        rintro e w1 ⟨rfl, hb⟩
        have B1 := hide hb
        clear hb HSh
        go_wp2_with fail
        refine ((unhide HP) _ ((unhide Hg).below (Nat.le_refl _) (unhide B1))).mono ?_
        rintro e w2 ⟨rfl, hb⟩
        have B2 := hide (step (unhide B1) hb)
        clear hb B1 HP
        go_wp2_with fail
        refine ((unhide HT) _).mono ?_
        rintro e w3 ⟨rfl, hb⟩
        have B3 := hide (step (unhide B2) hb)
        clear hb B2
        go_wp2
        go_ret
        exact ⟨rfl, unhide B3⟩
  have t3 : (x2 == 3) = false := beq_eq_false_iff_ne.2 k3
  have t5 : (x2 == 5) = false := beq_eq_false_iff_ne.2 k5
  have t6 : (x2 == 6) = false := beq_eq_false_iff_ne.2 k6
  have t8 : (x2 == 8) = false := beq_eq_false_iff_ne.2 k8
  clear k3 k5 k6 k8 HF HT hps Hs1 Hs2 Hs3 zn zv
  go_enter Tryz.func6, Tryz.ntmps6
  go_wp2_with fail
  refine (unhide HSh).mono ?_
  rintro e w1 ⟨rfl, hb⟩
  have B1 := hide hb
  clear hb HSh
  go_wp2
  go_ret
  exact ⟨rfl, unhide B1⟩

set_option maxRecDepth 100000 in
/-- What the walk gives, for every argument. -/
theorem contract (H : Type) (enc : TypeId × Value → H) (W : World) (base : Nat) (args : Array Value) (ds gs : List (DataW H)) (before : List MemPlace)
    (hval : ∀ (j : Nat) t v, Tryz.f6.params[j]? = some t → args[j]? = some v → Value.okWide Tryz.prog W .any base t v)
    (hW : DataW.Whole enc Tryz.prog Tryz.f6.params.toList Rows.filtItemsSpec.vars false W args.toList ds gs before) (hL : laidMetH Tryz.prog Rows.filtItemsRow.laid W) :
    Calls Tryz.prog 6 args W fun e W' => ∃ v, e = .returned v ∧ Rows.filtItemsSpec.post enc Tryz.prog Tryz.f6 false true false false W args v W' := by
  obtain ⟨a, g⟩ := glob_of_laid hL
  have hW' := hW
  obtain ⟨p, q, hA0, hV, rfl, hfz, hnd⟩ := hW
  have hA : DataW.TrodAll enc Tryz.prog W 0 (fun _ => true) true Tryz.f6.params.toList args.toList ds p := hA0
  rw [Tryz.params6] at hA hval
  obtain ⟨v0, vs0, d0, ds0, p0, q0, hargs0, rfl, rfl, h0, r0⟩ := trodAll_cons hA
  obtain ⟨v1, vs1, d1, ds1, p1, q1, hargs1, rfl, rfl, h1, r1⟩ := trodAll_cons r0
  obtain ⟨v2, vs2, d2, ds2, p2, q2, hargs2, rfl, rfl, h2, r2⟩ := trodAll_cons r1
  obtain ⟨rfl, rfl, rfl⟩ := trodAll_nil r2
  obtain rfl : args = #[v0, v1, v2] := by cases args; simp_all
  obtain ⟨rfl, rfl⟩ := trodVars_none hV
  obtain ⟨x0, rfl, rfl, rfl, wf0⟩ := open_string Tryz.underlying9 (hval 0 9 v0 rfl rfl) h0
  obtain ⟨x1, rfl, rfl, rfl, wf1⟩ := open_string Tryz.underlying9 (hval 1 9 v1 rfl rfl) h1
  obtain ⟨x2, rfl, rfl, rfl, wf2⟩ := open_int Tryz.underlying3 (hval 2 3 v2 rfl rfl) h2
  clear hA0
  simp only [List.append_nil] at hW'
  refine (walk x0 x1 x2 a W g wf0 wf1).mono fun e W' ⟨he, hg⟩ => ?_
  subst he
  refine ⟨_, rfl, _, _, _, [], [], [], hW', ?_, ?_, ?_, hg.frame _, fun h => by cases h⟩
  · exact trodAll_cons_mk (shut_bool Tryz.underlying4 _) trodAll_mk0
  · exact trodAll_cons_mk (shut_string Tryz.underlying9 wf0) (trodAll_cons_mk (shut_string Tryz.underlying9 wf1) (trodAll_cons_mk (shut_int Tryz.underlying3 wf2) (trodAll_mk0)))
  · rfl

theorem reads (os : Os) {H : Type} (enc : TypeId × Value → H) : ∃ places, DataW.whole enc Tryz.prog (({ World.holding Tryz.prog os ⟨#[.cells #[.string sentS0] 276, .cells #[.string sentS1] 276, .cells #[.string sentS2] 276, .cells #[.string sentS3] 276, .cells #[.string sentS4] 276, .cells #[.string sentS5] 276, .cells #[.string sentS6] 276, .cells #[.string sentS7] 276, .cells #[.string sentS8] 276, .cells #[.string sentS9] 276, .cells #[.string sentS10] 276, .cells #[.string sentS11] 276, .cells #[.string sentS12] 276], #[], []⟩ with heap := ((((((((((((((((World.holding Tryz.prog os ⟨#[.cells #[.string sentS0] 276, .cells #[.string sentS1] 276, .cells #[.string sentS2] 276, .cells #[.string sentS3] 276, .cells #[.string sentS4] 276, .cells #[.string sentS5] 276, .cells #[.string sentS6] 276, .cells #[.string sentS7] 276, .cells #[.string sentS8] 276, .cells #[.string sentS9] 276, .cells #[.string sentS10] 276, .cells #[.string sentS11] 276, .cells #[.string sentS12] 276], #[], []⟩).heap.modify 15 fun | .cells _ t frozen => .cells #[.iface 258 (.pointer (some ⟨(World.holding Tryz.prog default ⟨#[], #[], []⟩).heap.size + 0, 0, none⟩))] t frozen | o => o).modify 14 fun | .cells _ t frozen => .cells #[.iface 258 (.pointer (some ⟨(World.holding Tryz.prog default ⟨#[], #[], []⟩).heap.size + 1, 0, none⟩))] t frozen | o => o).modify 16 fun | .cells _ t frozen => .cells #[.iface 258 (.pointer (some ⟨(World.holding Tryz.prog default ⟨#[], #[], []⟩).heap.size + 2, 0, none⟩))] t frozen | o => o).modify 13 fun | .cells _ t frozen => .cells #[.iface 258 (.pointer (some ⟨(World.holding Tryz.prog default ⟨#[], #[], []⟩).heap.size + 3, 0, none⟩))] t frozen | o => o).modify 11 fun | .cells _ t frozen => .cells #[.iface 258 (.pointer (some ⟨(World.holding Tryz.prog default ⟨#[], #[], []⟩).heap.size + 4, 0, none⟩))] t frozen | o => o).modify 12 fun | .cells _ t frozen => .cells #[.iface 258 (.pointer (some ⟨(World.holding Tryz.prog default ⟨#[], #[], []⟩).heap.size + 5, 0, none⟩))] t frozen | o => o).modify 0 fun | .cells _ t frozen => .cells #[.iface 258 (.pointer (some ⟨(World.holding Tryz.prog default ⟨#[], #[], []⟩).heap.size + 6, 0, none⟩))] t frozen | o => o).modify 1 fun | .cells _ t frozen => .cells #[.iface 258 (.pointer (some ⟨(World.holding Tryz.prog default ⟨#[], #[], []⟩).heap.size + 7, 0, none⟩))] t frozen | o => o).modify 2 fun | .cells _ t frozen => .cells #[.iface 258 (.pointer (some ⟨(World.holding Tryz.prog default ⟨#[], #[], []⟩).heap.size + 8, 0, none⟩))] t frozen | o => o).modify 3 fun | .cells _ t frozen => .cells #[.iface 258 (.pointer (some ⟨(World.holding Tryz.prog default ⟨#[], #[], []⟩).heap.size + 9, 0, none⟩))] t frozen | o => o).modify 4 fun | .cells _ t frozen => .cells #[.iface 258 (.pointer (some ⟨(World.holding Tryz.prog default ⟨#[], #[], []⟩).heap.size + 10, 0, none⟩))] t frozen | o => o).modify 5 fun | .cells _ t frozen => .cells #[.iface 258 (.pointer (some ⟨(World.holding Tryz.prog default ⟨#[], #[], []⟩).heap.size + 11, 0, none⟩))] t frozen | o => o).modify 6 fun | .cells _ t frozen => .cells #[.iface 258 (.pointer (some ⟨(World.holding Tryz.prog default ⟨#[], #[], []⟩).heap.size + 12, 0, none⟩))] t frozen | o => o).modify 10 fun | .cells _ t frozen => .cells (([128,191,160,191,128,159,144,191,128,143,0,0,0,0,0,0,0,0,0,0,0,0,0,0,0,0,0,0,0,0,0,0] : List Nat).map fun (n : Nat) => Value.int .u8 (n : Int)).toArray t frozen | o => o).modify 9 fun | .cells _ t frozen => .cells ((Go.Pinned.utf8FirstZ : List Nat).map fun (n : Nat) => Value.int .u8 (n : Int)).toArray t frozen | o => o).modify 7 fun | .cells _ t frozen => .cells #[.iface 153 (.agg #[.pointer (some ⟨17, 47, none⟩)])] t frozen | o => o } : World).forCall (fun _ _ => 0) ⟨#[], #[.string ⟨#[]⟩, .string ⟨#[]⟩, .int .i64 0], []⟩).memory Tryz.f6.params.toList Rows.filtItemsSpec.vars false #[Value.string ⟨#[]⟩, Value.string ⟨#[]⟩, Value.int .i64 0].toList 8 = some ([.lit (.string []), .lit (.string []), .lit (.int .i64 0)], [], places) :=
  ⟨[], by kernel_rfl⟩

set_option maxRecDepth 100000 in
theorem lifted (os : Os) (started : os.Started) (H : Type) (enc : TypeId × Value → H) (F : Stop.Interp) :
    ReturnsInHanded {} Tryz.checked os 6 .any ((OpenSpec.ofChange Rows.filtItemsSpec).preRow enc Tryz.prog Tryz.f6 Rows.filtItemsRow.domain false Rows.filtItemsRow.laid) (((OpenSpec.ofChange Rows.filtItemsSpec).at F).post enc Tryz.prog Tryz.f6 false true false false) := by
  obtain ⟨places, hx⟩ := reads os enc
  refine returnsInHanded_of_row (C := Tryz.checked) (s := OpenSpec.ofChange Rows.filtItemsSpec) own started (by kernel_rfl) Tryz.func6
    (witness_row_at (enc := enc) (C := Tryz.checked) false ({ World.holding Tryz.prog os ⟨#[.cells #[.string sentS0] 276, .cells #[.string sentS1] 276, .cells #[.string sentS2] 276, .cells #[.string sentS3] 276, .cells #[.string sentS4] 276, .cells #[.string sentS5] 276, .cells #[.string sentS6] 276, .cells #[.string sentS7] 276, .cells #[.string sentS8] 276, .cells #[.string sentS9] 276, .cells #[.string sentS10] 276, .cells #[.string sentS11] 276, .cells #[.string sentS12] 276], #[], []⟩ with heap := ((((((((((((((((World.holding Tryz.prog os ⟨#[.cells #[.string sentS0] 276, .cells #[.string sentS1] 276, .cells #[.string sentS2] 276, .cells #[.string sentS3] 276, .cells #[.string sentS4] 276, .cells #[.string sentS5] 276, .cells #[.string sentS6] 276, .cells #[.string sentS7] 276, .cells #[.string sentS8] 276, .cells #[.string sentS9] 276, .cells #[.string sentS10] 276, .cells #[.string sentS11] 276, .cells #[.string sentS12] 276], #[], []⟩).heap.modify 15 fun | .cells _ t frozen => .cells #[.iface 258 (.pointer (some ⟨(World.holding Tryz.prog default ⟨#[], #[], []⟩).heap.size + 0, 0, none⟩))] t frozen | o => o).modify 14 fun | .cells _ t frozen => .cells #[.iface 258 (.pointer (some ⟨(World.holding Tryz.prog default ⟨#[], #[], []⟩).heap.size + 1, 0, none⟩))] t frozen | o => o).modify 16 fun | .cells _ t frozen => .cells #[.iface 258 (.pointer (some ⟨(World.holding Tryz.prog default ⟨#[], #[], []⟩).heap.size + 2, 0, none⟩))] t frozen | o => o).modify 13 fun | .cells _ t frozen => .cells #[.iface 258 (.pointer (some ⟨(World.holding Tryz.prog default ⟨#[], #[], []⟩).heap.size + 3, 0, none⟩))] t frozen | o => o).modify 11 fun | .cells _ t frozen => .cells #[.iface 258 (.pointer (some ⟨(World.holding Tryz.prog default ⟨#[], #[], []⟩).heap.size + 4, 0, none⟩))] t frozen | o => o).modify 12 fun | .cells _ t frozen => .cells #[.iface 258 (.pointer (some ⟨(World.holding Tryz.prog default ⟨#[], #[], []⟩).heap.size + 5, 0, none⟩))] t frozen | o => o).modify 0 fun | .cells _ t frozen => .cells #[.iface 258 (.pointer (some ⟨(World.holding Tryz.prog default ⟨#[], #[], []⟩).heap.size + 6, 0, none⟩))] t frozen | o => o).modify 1 fun | .cells _ t frozen => .cells #[.iface 258 (.pointer (some ⟨(World.holding Tryz.prog default ⟨#[], #[], []⟩).heap.size + 7, 0, none⟩))] t frozen | o => o).modify 2 fun | .cells _ t frozen => .cells #[.iface 258 (.pointer (some ⟨(World.holding Tryz.prog default ⟨#[], #[], []⟩).heap.size + 8, 0, none⟩))] t frozen | o => o).modify 3 fun | .cells _ t frozen => .cells #[.iface 258 (.pointer (some ⟨(World.holding Tryz.prog default ⟨#[], #[], []⟩).heap.size + 9, 0, none⟩))] t frozen | o => o).modify 4 fun | .cells _ t frozen => .cells #[.iface 258 (.pointer (some ⟨(World.holding Tryz.prog default ⟨#[], #[], []⟩).heap.size + 10, 0, none⟩))] t frozen | o => o).modify 5 fun | .cells _ t frozen => .cells #[.iface 258 (.pointer (some ⟨(World.holding Tryz.prog default ⟨#[], #[], []⟩).heap.size + 11, 0, none⟩))] t frozen | o => o).modify 6 fun | .cells _ t frozen => .cells #[.iface 258 (.pointer (some ⟨(World.holding Tryz.prog default ⟨#[], #[], []⟩).heap.size + 12, 0, none⟩))] t frozen | o => o).modify 10 fun | .cells _ t frozen => .cells (([128,191,160,191,128,159,144,191,128,143,0,0,0,0,0,0,0,0,0,0,0,0,0,0,0,0,0,0,0,0,0,0] : List Nat).map fun (n : Nat) => Value.int .u8 (n : Int)).toArray t frozen | o => o).modify 9 fun | .cells _ t frozen => .cells ((Go.Pinned.utf8FirstZ : List Nat).map fun (n : Nat) => Value.int .u8 (n : Int)).toArray t frozen | o => o).modify 7 fun | .cells _ t frozen => .cells #[.iface 153 (.agg #[.pointer (some ⟨17, 47, none⟩)])] t frozen | o => o } : World) #[.string ⟨#[]⟩, .string ⟨#[]⟩, .int .i64 0] rfl (by kernel_rfl) (by kernel_rfl) (by kernel_rfl)
      (OpenSpec.preRow_of_cond 8 hx (by kernel_rfl) (fun k hk => by cases hk) (by kernel_rfl) (laid_met os _))) ?_
  intro W base args ds gs before hval hW _ _ _ hL _ _
  exact contract H enc W base args ds gs before hval hW hL

theorem said : Rows.FiltItemsSaid :=
  OpenClaim.holds_of_cond 6 Tryz.f6 rfl rfl rfl rfl rfl rfl rfl ⟨rfl, rfl, rfl, rfl, rfl⟩ rfl rfl rfl rfl rfl (by kernel_rfl) Tryz.func6 (by kernel_rfl)
    (of_decide_eq_true (by kernel_rfl)) (by unfold Func.isWrapper; first | (rw [if_pos (by decide +kernel)]; kernel_rfl) | (rw [if_neg (by decide +kernel)]; exact ⟨rfl, rfl⟩))
    (fun os started H enc _ F => by rw [OpenClaim.pre_eq_preRow]; exact lifted os started H enc F)

theorem plain (f : FuncId) (fn : Func) (hf : Tryz.pinned.checked.prog.funcNamed "latiner/latinerlaw08.FiltItems" = some f) (hfn : Tryz.pinned.checked.prog.funcs[f]? = some fn) :
    true = Tryz.pinned.checked.prog.looks [] ∧ ∀ (j : Nat) t, fn.params[j]? = some t → Tryz.pinned.checked.prog.wantsStandIn t = false := by
  obtain rfl : f = 6 := Option.some.inj ((show Tryz.prog.funcNamed "latiner/latinerlaw08.FiltItems" = some 6 by kernel_rfl).symm.trans hf) |>.symm
  obtain rfl : fn = Tryz.f6 := (Option.some.inj (Tryz.func6.symm.trans hfn)).symm
  refine ⟨by kernel_rfl, fun j t ht => ?_⟩
  rw [Tryz.params6] at ht
  have hm : t = 9 ∨ t = 3 := by have := Array.mem_of_getElem? ht; simp at this; first | exact this | omega | (rcases this with h | h | h <;> simp [h]) | (rcases this with h | h | h | h <;> simp [h])
  rcases hm with rfl | rfl
  · exact (show Tryz.prog.wantsStandIn 9 = false by kernel_rfl)
  · exact (show Tryz.prog.wantsStandIn 3 = false by kernel_rfl)

/-- The card. -/
theorem card : Rows.FiltItemsCardSaid :=
  Claim7.holds_tied_plain_at .later [] _ _ _ _ said (fun _ h => by cases h) (by kernel_rfl) (fun _ h => by cases h) filtItems_row_tie rfl ⟨rfl, rfl⟩ (by kernel_rfl) rfl plain (by kernel_rfl)
end Go.Proofs.YtmjfkdpaeenfgaaGreatDoor.F.Items

namespace Go.Proofs.YtmjfkdpaeenfgaaGreatDoor
theorem filtItems_holds : Rows.FiltItemsCardSaid := F.Items.card
#print axioms filtItems_holds
end Go.Proofs.YtmjfkdpaeenfgaaGreatDoor
