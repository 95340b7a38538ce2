/-
  DnTells: which names are right, the same, under each other, their texts, names of texts, types: as the document says, for any two names and a text. Conditions: the package-level variables hold what the program's text lays (the card ties them).
-/
import Derived.Test.YthfcnjcpanoldaaGreatDoorDLaid
import Derived.Test.YthfcnjcpanoldaaGreatDoorDCut
import Derived.Laws.DeepStrings4
import Derived.Test.YthfcnjcpanoldaaGreatDoorDRef6
namespace Go.Proofs.YthfcnjcpanoldaaGreatDoor.D.Tells
open Go Go.RowKit Go.Shelf Dp Go.ChangeShapes Go.WideShapes Go.ChangeAt Go.ChangeMaps

set_option maxRecDepth 100000 in
set_option maxHeartbeats 800000 in
theorem walk (v0 : Value) (d0 : Nm) (v1 : Value) (d1 : Nm) (x2 : ByteArray) (a : Ad) (w : World) (g : Glob a w) (h0 : Nml w v0 d0) (hG0 : Big d0) (h1 : Nml w v1 d1) (hG1 : Big d1) (h2 : x2.size ≤ maxLen) :
    Calls Tryz.prog 3 #[v0, v1, .string x2] w fun e w' => e = .returned (.bool true) ∧ Below w.heap.size w w' := by
  obtain ⟨X, hXs, hXl, hC0⟩ := cut_ex d0 hG0
  obtain ⟨Y, hYs, hYl, hC1⟩ := cut_ex d1 hG1
  have HC0 := hide hC0
  have HC1 := hide hC1
  have HSh := hide (shown_true a w g)
  have Hg := hide g
  have N0 := hide h0
  have N1 := hide h1
  have B0 := hide (Below.refl w.heap.size w)
  have HCu : Hid (∀ W, Calls Tryz.prog 12 #[.string x2] W fun e w' => e = .returned (.string (x2.extract 0 300)) ∧ Below W.heap.size W w') := hide fun W => (cut_any x2 W h2).mono (fun e w' ⟨h1, h2⟩ => ⟨h1, by rw [h2]; exact Below.refl _ _⟩)
  have hSs := cut_shrt x2
  have hSz : (x2.extract 0 300).size ≤ 300 := by rw [ByteArray.size_extract]; omega
  generalize x2.extract 0 300 = S at *
  have HP := hide fun v W g h => print_any X v a W g h hXs
  have HPr := hide fun v W h => refPrint_any X v W h hXs
  have HR := hide fun v W g h => right_any X v a W g h hXs
  have HRr : Hid (∀ v W, Nml W v X → Calls Tryz.prog 20 #[v] W fun e w' => e = .returned (.bool (okN X)) ∧ Below W.heap.size W w') := hide fun v W h => (refRight_any X v W h hXs).mono (fun e w' ⟨h1, h2⟩ => ⟨h1, by rw [h2]; exact Below.refl _ _⟩)
  have HPa := hide fun W g => parse_any S a W g hSs
  have HPar := hide fun W => refParse_any S W (by omega)
  have HCa := hide fun W g => canon_any S a W g hSs
  have HCar := hide fun W => refCanon_any S W (by omega)
  have HS := hide fun u v W h k => same_any X Y u v W h k hXs
  have HSr := hide fun u v W h k => refSame_any X Y u v W h k hXs
  have HSx := hide fun u v W h k => same_any X X u v W h k hXs
  rw [decide_eq_true rfl] at HSx
  have HU := hide fun u v W h k => isUnder_any X Y u v W h k hXs (by omega)
  have HUr := hide fun u v W h k => refIsUnder_any X Y u v W h k hXs (by omega)
  have HT := hide fun W => isType_any S W (by omega)
  have HTr : Hid (∀ W, Calls Tryz.prog 26 #[.string S] W fun e w' => e = .returned (.bool (isTy S)) ∧ Below W.heap.size W w') := hide fun W => (refIsType_any S W (by omega)).mono (fun e w' ⟨h1, h2⟩ => ⟨h1, by rw [h2]; exact Below.refl _ _⟩)
  generalize okN X = b0 at *
  generalize decide (X = Y) = b1 at *
  generalize under X Y = b2 at *
  generalize isTy S = b3 at *
  generalize pri X = pp at *
  obtain ⟨pt, pe⟩ := pp
  generalize can S.data.toList = cc at *
  obtain ⟨ct, ce⟩ := cc
  dsimp only at HP HPr HCa HCar
  clear hC0 hC1 g h0 h1 hG0 hG1 h2 hXl hYl hSz hSs hYs
  cases hr : rdN S.data.toList with
  | none =>
    rw [hr] at HPa HPar
    have HSP := hide fun u v W h k => refSame_any [] [] u v W h k ⟨by simp, fun r hr => by cases hr⟩
    rw [decide_eq_true rfl] at HSP
    clear hr hXs
    go_enter Tryz.func3, Tryz.ntmps3
    go_wp2_with fail
    first | with_reducible refine ((unhide HSh)).mono ?_ | refine ((unhide HSh)).mono ?_
    rintro e w1 ⟨rfl, hb⟩
    have B1 := hide (step (unhide B0) hb)
    replace N0 := hide ((unhide N0).below hb)
    replace N1 := hide ((unhide N1).below hb)
    clear hb B0
    clear HSh
    go_wp2_with fail
    refine ((unhide HC0) _ _ (unhide N0)).mono ?_
    rintro e w2 ⟨hb, vx, rfl, Ox⟩
    have B2 := hide (step (unhide B1) hb)
    replace N1 := hide ((unhide N1).below hb)
    clear hb B1
    replace Ox := hide Ox
    have Nx := hide (unhide Ox).nml
    clear HC0
    go_wp2_with fail
    refine ((unhide HC1) _ _ (unhide N1)).mono ?_
    rintro e w3 ⟨hb, vy, rfl, Oy⟩
    have B3 := hide (step (unhide B2) hb)
    replace Ox := hide ((unhide Ox).below hb)
    replace Nx := hide ((unhide Nx).below hb)
    clear hb B2
    replace Oy := hide Oy
    have Ny := hide (unhide Oy).nml
    clear HC1
    clear Ox Oy
    go_wp2_with fail
    first | with_reducible refine ((unhide HCu) _).mono ?_ | refine ((unhide HCu) _).mono ?_
    rintro e w4 ⟨rfl, hb⟩
    have B4 := hide (step (unhide B3) hb)
    replace Nx := hide ((unhide Nx).below hb)
    replace Ny := hide ((unhide Ny).below hb)
    clear hb B3
    clear HCu
    go_wp2_with fail
    first | with_reducible refine ((unhide HP) _ _ ((unhide Hg).below (Nat.le_refl _) (unhide B4)) (unhide Nx)).mono ?_ | refine ((unhide HP) _ _ ((unhide Hg).below (Nat.le_refl _) (unhide B4)) (unhide Nx)).mono ?_
    rintro e w5 ⟨rfl, hb⟩
    have B5 := hide (step (unhide B4) hb)
    replace Nx := hide ((unhide Nx).below hb)
    replace Ny := hide ((unhide Ny).below hb)
    clear hb B4
    clear HP
    go_wp2_with fail
    first | with_reducible refine ((unhide HPr) _ _ (unhide Nx)).mono ?_ | refine ((unhide HPr) _ _ (unhide Nx)).mono ?_
    rintro e w6 ⟨rfl, hb⟩
    have B6 := hide (step (unhide B5) hb)
    replace Nx := hide ((unhide Nx).below hb)
    replace Ny := hide ((unhide Ny).below hb)
    clear hb B5
    clear HPr
    go_wp2_with fail
    refine ((unhide HPa) _ ((unhide Hg).below (Nat.le_refl _) (unhide B6))).mono ?_
    rintro e w7 ⟨hb, ⟨_, _, hf, _⟩ | ⟨_, rfl⟩⟩
    · cases hf
    have B7 := hide (step (unhide B6) hb)
    replace Nx := hide ((unhide Nx).below hb)
    replace Ny := hide ((unhide Ny).below hb)
    clear hb B6
    clear HPa
    go_wp2_with fail
    refine ((unhide HPar) _).mono ?_
    rintro e w8 ⟨hb, ⟨_, _, hf, _⟩ | ⟨_, rfl⟩⟩
    · cases hf
    have B8 := hide (step (unhide B7) hb)
    replace Nx := hide ((unhide Nx).below hb)
    replace Ny := hide ((unhide Ny).below hb)
    clear hb B7
    clear HPar
    go_wp2_with fail
    first | with_reducible refine ((unhide HCa) _ ((unhide Hg).below (Nat.le_refl _) (unhide B8))).mono ?_ | refine ((unhide HCa) _ ((unhide Hg).below (Nat.le_refl _) (unhide B8))).mono ?_
    rintro e w9 ⟨rfl, hb⟩
    have B9 := hide (step (unhide B8) hb)
    replace Nx := hide ((unhide Nx).below hb)
    replace Ny := hide ((unhide Ny).below hb)
    clear hb B8
    clear HCa
    go_wp2_with fail
    first | with_reducible refine ((unhide HCar) _).mono ?_ | refine ((unhide HCar) _).mono ?_
    rintro e w10 ⟨rfl, hb⟩
    have B10 := hide (step (unhide B9) hb)
    replace Nx := hide ((unhide Nx).below hb)
    replace Ny := hide ((unhide Ny).below hb)
    clear hb B9
    clear HCar
    go_wp2_with fail
    first | with_reducible refine ((unhide HR) _ _ ((unhide Hg).below (Nat.le_refl _) (unhide B10)) (unhide Nx)).mono ?_ | refine ((unhide HR) _ _ ((unhide Hg).below (Nat.le_refl _) (unhide B10)) (unhide Nx)).mono ?_
    rintro e w11 ⟨rfl, hb⟩
    have B11 := hide (step (unhide B10) hb)
    replace Nx := hide ((unhide Nx).below hb)
    replace Ny := hide ((unhide Ny).below hb)
    clear hb B10
    clear HR
    go_wp2_with fail
    first | with_reducible refine ((unhide HRr) _ _ (unhide Nx)).mono ?_ | refine ((unhide HRr) _ _ (unhide Nx)).mono ?_
    rintro e w12 ⟨rfl, hb⟩
    have B12 := hide (step (unhide B11) hb)
    replace Nx := hide ((unhide Nx).below hb)
    replace Ny := hide ((unhide Ny).below hb)
    clear hb B11
    clear HRr
    go_wp2_with fail
    first | with_reducible refine ((unhide HS) _ _ _ (unhide Nx) (unhide Ny)).mono ?_ | refine ((unhide HS) _ _ _ (unhide Nx) (unhide Ny)).mono ?_
    rintro e w13 ⟨rfl, hb⟩
    have B13 := hide (step (unhide B12) hb)
    replace Nx := hide ((unhide Nx).below hb)
    replace Ny := hide ((unhide Ny).below hb)
    clear hb B12
    go_wp2_with fail
    first | with_reducible refine ((unhide HSr) _ _ _ (unhide Nx) (unhide Ny)).mono ?_ | refine ((unhide HSr) _ _ _ (unhide Nx) (unhide Ny)).mono ?_
    rintro e w14 ⟨rfl, hb⟩
    have B14 := hide (step (unhide B13) hb)
    replace Nx := hide ((unhide Nx).below hb)
    replace Ny := hide ((unhide Ny).below hb)
    clear hb B13
    go_wp2_with fail
    first | with_reducible refine ((unhide HSx) _ _ _ (unhide Nx) (unhide Nx)).mono ?_ | refine ((unhide HSx) _ _ _ (unhide Nx) (unhide Nx)).mono ?_
    rintro e w15 ⟨rfl, hb⟩
    have B15 := hide (step (unhide B14) hb)
    replace Nx := hide ((unhide Nx).below hb)
    replace Ny := hide ((unhide Ny).below hb)
    clear hb B14
    go_wp2_with fail
    first | with_reducible refine ((unhide HU) _ _ _ (unhide Nx) (unhide Ny)).mono ?_ | refine ((unhide HU) _ _ _ (unhide Nx) (unhide Ny)).mono ?_
    rintro e w16 ⟨rfl, hb⟩
    have B16 := hide (step (unhide B15) hb)
    replace Nx := hide ((unhide Nx).below hb)
    replace Ny := hide ((unhide Ny).below hb)
    clear hb B15
    go_wp2_with fail
    first | with_reducible refine ((unhide HUr) _ _ _ (unhide Nx) (unhide Ny)).mono ?_ | refine ((unhide HUr) _ _ _ (unhide Nx) (unhide Ny)).mono ?_
    rintro e w17 ⟨rfl, hb⟩
    have B17 := hide (step (unhide B16) hb)
    replace Nx := hide ((unhide Nx).below hb)
    replace Ny := hide ((unhide Ny).below hb)
    clear hb B16
    go_wp2_with fail
    first | with_reducible refine ((unhide HSP) _ _ _ (Nml.nil _) (Nml.nil _)).mono ?_ | refine ((unhide HSP) _ _ _ (Nml.nil _) (Nml.nil _)).mono ?_
    rintro e w18 ⟨rfl, hb⟩
    have B18 := hide (step (unhide B17) hb)
    replace Nx := hide ((unhide Nx).below hb)
    replace Ny := hide ((unhide Ny).below hb)
    clear hb B17
    go_wp2_with fail
    first | with_reducible refine ((unhide HT) _).mono ?_ | refine ((unhide HT) _).mono ?_
    rintro e w19 ⟨rfl, hb⟩
    have B19 := hide (step (unhide B18) hb)
    replace Nx := hide ((unhide Nx).below hb)
    replace Ny := hide ((unhide Ny).below hb)
    clear hb B18
    go_wp2_with fail
    first | with_reducible refine ((unhide HTr) _).mono ?_ | refine ((unhide HTr) _).mono ?_
    rintro e w20 ⟨rfl, hb⟩
    have B20 := hide (step (unhide B19) hb)
    replace Nx := hide ((unhide Nx).below hb)
    replace Ny := hide ((unhide Ny).below hb)
    clear hb B19
    go_wp2
    go_ret
    exact ⟨rfl, unhide B20⟩
  | some P =>
    rw [hr] at HPa HPar
    have HSP := hide fun u v W h k => refSame_any P P u v W h k (sm_ok (rdN_ok hr))
    rw [decide_eq_true rfl] at HSP
    clear hr hXs
    go_enter Tryz.func3, Tryz.ntmps3
    go_wp2_with fail
    first | with_reducible refine ((unhide HSh)).mono ?_ | refine ((unhide HSh)).mono ?_
    rintro e w1 ⟨rfl, hb⟩
    have B1 := hide (step (unhide B0) hb)
    replace N0 := hide ((unhide N0).below hb)
    replace N1 := hide ((unhide N1).below hb)
    clear hb B0
    clear HSh
    go_wp2_with fail
    refine ((unhide HC0) _ _ (unhide N0)).mono ?_
    rintro e w2 ⟨hb, vx, rfl, Ox⟩
    have B2 := hide (step (unhide B1) hb)
    replace N1 := hide ((unhide N1).below hb)
    clear hb B1
    replace Ox := hide Ox
    have Nx := hide (unhide Ox).nml
    clear HC0
    go_wp2_with fail
    refine ((unhide HC1) _ _ (unhide N1)).mono ?_
    rintro e w3 ⟨hb, vy, rfl, Oy⟩
    have B3 := hide (step (unhide B2) hb)
    replace Ox := hide ((unhide Ox).below hb)
    replace Nx := hide ((unhide Nx).below hb)
    clear hb B2
    replace Oy := hide Oy
    have Ny := hide (unhide Oy).nml
    clear HC1
    clear Ox Oy
    go_wp2_with fail
    first | with_reducible refine ((unhide HCu) _).mono ?_ | refine ((unhide HCu) _).mono ?_
    rintro e w4 ⟨rfl, hb⟩
    have B4 := hide (step (unhide B3) hb)
    replace Nx := hide ((unhide Nx).below hb)
    replace Ny := hide ((unhide Ny).below hb)
    clear hb B3
    clear HCu
    go_wp2_with fail
    first | with_reducible refine ((unhide HP) _ _ ((unhide Hg).below (Nat.le_refl _) (unhide B4)) (unhide Nx)).mono ?_ | refine ((unhide HP) _ _ ((unhide Hg).below (Nat.le_refl _) (unhide B4)) (unhide Nx)).mono ?_
    rintro e w5 ⟨rfl, hb⟩
    have B5 := hide (step (unhide B4) hb)
    replace Nx := hide ((unhide Nx).below hb)
    replace Ny := hide ((unhide Ny).below hb)
    clear hb B4
    clear HP
    go_wp2_with fail
    first | with_reducible refine ((unhide HPr) _ _ (unhide Nx)).mono ?_ | refine ((unhide HPr) _ _ (unhide Nx)).mono ?_
    rintro e w6 ⟨rfl, hb⟩
    have B6 := hide (step (unhide B5) hb)
    replace Nx := hide ((unhide Nx).below hb)
    replace Ny := hide ((unhide Ny).below hb)
    clear hb B5
    clear HPr
    go_wp2_with fail
    refine ((unhide HPa) _ ((unhide Hg).below (Nat.le_refl _) (unhide B6))).mono ?_
    rintro e w7 ⟨hb, ⟨dp, vp, hf, rfl, Op⟩ | ⟨hf, _⟩⟩
    case inr => cases hf
    cases hf
    have B7 := hide (step (unhide B6) hb)
    replace Nx := hide ((unhide Nx).below hb)
    replace Ny := hide ((unhide Ny).below hb)
    clear hb B6
    have Np := hide Op.nml
    obtain ⟨ap, cp, rfl, _, _⟩ := Op.nml
    clear Op
    clear HPa
    go_wp2_with fail
    refine ((unhide HPar) _).mono ?_
    rintro e w8 ⟨hb, ⟨dq, vq, hf, rfl, Oq⟩ | ⟨hf, _⟩⟩
    case inr => cases hf
    cases hf
    have B8 := hide (step (unhide B7) hb)
    replace Nx := hide ((unhide Nx).below hb)
    replace Ny := hide ((unhide Ny).below hb)
    replace Np := hide ((unhide Np).below hb)
    clear hb B7
    have Nq := hide Oq.nml
    obtain ⟨aq, cq, rfl, _, _⟩ := Oq.nml
    clear Oq
    clear HPar
    go_wp2_with fail
    first | with_reducible refine ((unhide HCa) _ ((unhide Hg).below (Nat.le_refl _) (unhide B8))).mono ?_ | refine ((unhide HCa) _ ((unhide Hg).below (Nat.le_refl _) (unhide B8))).mono ?_
    rintro e w9 ⟨rfl, hb⟩
    have B9 := hide (step (unhide B8) hb)
    replace Nx := hide ((unhide Nx).below hb)
    replace Ny := hide ((unhide Ny).below hb)
    replace Np := hide ((unhide Np).below hb)
    replace Nq := hide ((unhide Nq).below hb)
    clear hb B8
    clear HCa
    go_wp2_with fail
    first | with_reducible refine ((unhide HCar) _).mono ?_ | refine ((unhide HCar) _).mono ?_
    rintro e w10 ⟨rfl, hb⟩
    have B10 := hide (step (unhide B9) hb)
    replace Nx := hide ((unhide Nx).below hb)
    replace Ny := hide ((unhide Ny).below hb)
    replace Np := hide ((unhide Np).below hb)
    replace Nq := hide ((unhide Nq).below hb)
    clear hb B9
    clear HCar
    go_wp2_with fail
    first | with_reducible refine ((unhide HR) _ _ ((unhide Hg).below (Nat.le_refl _) (unhide B10)) (unhide Nx)).mono ?_ | refine ((unhide HR) _ _ ((unhide Hg).below (Nat.le_refl _) (unhide B10)) (unhide Nx)).mono ?_
    rintro e w11 ⟨rfl, hb⟩
    have B11 := hide (step (unhide B10) hb)
    replace Nx := hide ((unhide Nx).below hb)
    replace Ny := hide ((unhide Ny).below hb)
    replace Np := hide ((unhide Np).below hb)
    replace Nq := hide ((unhide Nq).below hb)
    clear hb B10
    clear HR
    go_wp2_with fail
    first | with_reducible refine ((unhide HRr) _ _ (unhide Nx)).mono ?_ | refine ((unhide HRr) _ _ (unhide Nx)).mono ?_
    rintro e w12 ⟨rfl, hb⟩
    have B12 := hide (step (unhide B11) hb)
    replace Nx := hide ((unhide Nx).below hb)
    replace Ny := hide ((unhide Ny).below hb)
    replace Np := hide ((unhide Np).below hb)
    replace Nq := hide ((unhide Nq).below hb)
    clear hb B11
    clear HRr
    go_wp2_with fail
    first | with_reducible refine ((unhide HS) _ _ _ (unhide Nx) (unhide Ny)).mono ?_ | refine ((unhide HS) _ _ _ (unhide Nx) (unhide Ny)).mono ?_
    rintro e w13 ⟨rfl, hb⟩
    have B13 := hide (step (unhide B12) hb)
    replace Nx := hide ((unhide Nx).below hb)
    replace Ny := hide ((unhide Ny).below hb)
    replace Np := hide ((unhide Np).below hb)
    replace Nq := hide ((unhide Nq).below hb)
    clear hb B12
    go_wp2_with fail
    first | with_reducible refine ((unhide HSr) _ _ _ (unhide Nx) (unhide Ny)).mono ?_ | refine ((unhide HSr) _ _ _ (unhide Nx) (unhide Ny)).mono ?_
    rintro e w14 ⟨rfl, hb⟩
    have B14 := hide (step (unhide B13) hb)
    replace Nx := hide ((unhide Nx).below hb)
    replace Ny := hide ((unhide Ny).below hb)
    replace Np := hide ((unhide Np).below hb)
    replace Nq := hide ((unhide Nq).below hb)
    clear hb B13
    go_wp2_with fail
    first | with_reducible refine ((unhide HSx) _ _ _ (unhide Nx) (unhide Nx)).mono ?_ | refine ((unhide HSx) _ _ _ (unhide Nx) (unhide Nx)).mono ?_
    rintro e w15 ⟨rfl, hb⟩
    have B15 := hide (step (unhide B14) hb)
    replace Nx := hide ((unhide Nx).below hb)
    replace Ny := hide ((unhide Ny).below hb)
    replace Np := hide ((unhide Np).below hb)
    replace Nq := hide ((unhide Nq).below hb)
    clear hb B14
    go_wp2_with fail
    first | with_reducible refine ((unhide HU) _ _ _ (unhide Nx) (unhide Ny)).mono ?_ | refine ((unhide HU) _ _ _ (unhide Nx) (unhide Ny)).mono ?_
    rintro e w16 ⟨rfl, hb⟩
    have B16 := hide (step (unhide B15) hb)
    replace Nx := hide ((unhide Nx).below hb)
    replace Ny := hide ((unhide Ny).below hb)
    replace Np := hide ((unhide Np).below hb)
    replace Nq := hide ((unhide Nq).below hb)
    clear hb B15
    go_wp2_with fail
    first | with_reducible refine ((unhide HUr) _ _ _ (unhide Nx) (unhide Ny)).mono ?_ | refine ((unhide HUr) _ _ _ (unhide Nx) (unhide Ny)).mono ?_
    rintro e w17 ⟨rfl, hb⟩
    have B17 := hide (step (unhide B16) hb)
    replace Nx := hide ((unhide Nx).below hb)
    replace Ny := hide ((unhide Ny).below hb)
    replace Np := hide ((unhide Np).below hb)
    replace Nq := hide ((unhide Nq).below hb)
    clear hb B16
    go_wp2_with fail
    first | with_reducible refine ((unhide HSP) _ _ _ (unhide Np) (unhide Nq)).mono ?_ | refine ((unhide HSP) _ _ _ (unhide Np) (unhide Nq)).mono ?_
    rintro e w18 ⟨rfl, hb⟩
    have B18 := hide (step (unhide B17) hb)
    replace Nx := hide ((unhide Nx).below hb)
    replace Ny := hide ((unhide Ny).below hb)
    replace Np := hide ((unhide Np).below hb)
    replace Nq := hide ((unhide Nq).below hb)
    clear hb B17
    go_wp2_with fail
    first | with_reducible refine ((unhide HT) _).mono ?_ | refine ((unhide HT) _).mono ?_
    rintro e w19 ⟨rfl, hb⟩
    have B19 := hide (step (unhide B18) hb)
    replace Nx := hide ((unhide Nx).below hb)
    replace Ny := hide ((unhide Ny).below hb)
    replace Np := hide ((unhide Np).below hb)
    replace Nq := hide ((unhide Nq).below hb)
    clear hb B18
    go_wp2_with fail
    first | with_reducible refine ((unhide HTr) _).mono ?_ | refine ((unhide HTr) _).mono ?_
    rintro e w20 ⟨rfl, hb⟩
    have B20 := hide (step (unhide B19) hb)
    replace Nx := hide ((unhide Nx).below hb)
    replace Ny := hide ((unhide Ny).below hb)
    replace Np := hide ((unhide Np).below hb)
    replace Nq := hide ((unhide Nq).below hb)
    clear hb B19
    go_wp2
    go_ret
    exact ⟨rfl, unhide B20⟩


set_option maxRecDepth 100000 in
/-- What the walk gives, for every argument. -/
theorem contract (H : Type) (enc : TypeId × Value → H) (W : World) (base : Nat) (args : Array Value) (ds gs : List (DataW H)) (before : List MemPlace)
    (hval : ∀ (j : Nat) t v, Tryz.f3.params[j]? = some t → args[j]? = some v → Value.okWide Tryz.prog W .any base t v)
    (hW : DataW.Whole enc Tryz.prog Tryz.f3.params.toList Rows.dnTellsSpec.vars false W args.toList ds gs before) (hL : laidMetH Tryz.prog Rows.dnTellsRow.laid W) :
    Calls Tryz.prog 3 args W fun e W' => ∃ v, e = .returned v ∧ Rows.dnTellsSpec.post enc Tryz.prog Tryz.f3 false true false false W args v W' := by
  obtain ⟨a, g⟩ := glob_of_laid hL
  have hW' := hW
  obtain ⟨p, q, hA0, hV, rfl, hfz, hnd⟩ := hW
  have hA : DataW.TrodAll enc Tryz.prog W 0 (fun _ => true) true Tryz.f3.params.toList args.toList ds p := hA0
  rw [Tryz.params3] at hA hval
  obtain ⟨v0, vs0, d0, ds0, p0, q0, hargs0, rfl, rfl, h0, r0⟩ := trodAll_cons hA
  obtain ⟨v1, vs1, d1, ds1, p1, q1, hargs1, rfl, rfl, h1, r1⟩ := trodAll_cons r0
  obtain ⟨v2, vs2, d2, ds2, p2, q2, hargs2, rfl, rfl, h2, r2⟩ := trodAll_cons r1
  obtain ⟨rfl, rfl, rfl⟩ := trodAll_nil r2
  obtain rfl : args = #[v0, v1, v2] := by cases args; simp_all
  obtain ⟨rfl, rfl⟩ := trodVars_none hV
  obtain ⟨a0, n0, c0, rfl⟩ := okWide_slice Tryz.underlying22 (hval 0 22 v0 rfl rfl)
  have hk0 := h0
  obtain ⟨fu0, hf0⟩ := h0
  obtain ⟨l0, hL0, hG0⟩ := open_name (fuel := fu0) hf0
  have hlt0 := DataW.trod_lt _ _ _ _ hf0
  obtain ⟨a1, n1, c1, rfl⟩ := okWide_slice Tryz.underlying22 (hval 1 22 v1 rfl rfl)
  have hk1 := h1
  obtain ⟨fu1, hf1⟩ := h1
  obtain ⟨l1, hL1, hG1⟩ := open_name (fuel := fu1) hf1
  have hlt1 := DataW.trod_lt _ _ _ _ hf1
  obtain ⟨x2, rfl, rfl, rfl, wf2⟩ := open_string Tryz.underlying9 (hval 2 9 v2 rfl rfl) h2
  clear hA0
  simp only [List.append_nil] at hW'
  refine (walk (.slice a0 n0 c0) l0 (.slice a1 n1 c1) l1 x2 a W g hL0 hG0 hL1 hG1 wf2).mono fun e W' ⟨he, hg⟩ => ?_
  subst he
  refine ⟨_, rfl, _, _, _, [], (p0 ++ (p1 ++ ([] ++ []))), [], hW', ?_, ?_, ?_, hg.frame _, fun h => by cases h⟩
  · exact trodAll_cons_mk (shut_bool Tryz.underlying4 _) trodAll_mk0
  · exact trodAll_cons_mk (Below.trod (by kernel_rfl) (by kernel_rfl) (of_decide_eq_true (by kernel_rfl)) hk0 hg hlt0) (trodAll_cons_mk (Below.trod (by kernel_rfl) (by kernel_rfl) (of_decide_eq_true (by kernel_rfl)) hk1 hg hlt1) (trodAll_cons_mk (shut_string Tryz.underlying9 wf2) (trodAll_mk0)))
  · rfl

theorem reads (os : Os) {H : Type} (enc : TypeId × Value → H) : ∃ places, DataW.whole enc Tryz.prog (({ World.holding Tryz.prog os ⟨#[.cells #[.string sentS0] 237, .cells #[.string sentS1] 237, .cells #[.string sentS2] 237, .cells #[.string sentS3] 237, .cells #[.string sentS4] 237, .cells #[.string sentS5] 237, .cells #[.string sentS6] 237, .cells #[.string sentS7] 237, .cells #[.string sentS8] 237, .cells #[.string sentS9] 237], #[], []⟩ with heap := (((((((((((World.holding Tryz.prog os ⟨#[.cells #[.string sentS0] 237, .cells #[.string sentS1] 237, .cells #[.string sentS2] 237, .cells #[.string sentS3] 237, .cells #[.string sentS4] 237, .cells #[.string sentS5] 237, .cells #[.string sentS6] 237, .cells #[.string sentS7] 237, .cells #[.string sentS8] 237, .cells #[.string sentS9] 237], #[], []⟩).heap.modify 10 fun | .cells _ t frozen => .cells #[.iface 219 (.pointer (some ⟨(World.holding Tryz.prog default ⟨#[], #[], []⟩).heap.size + 0, 0, none⟩))] t frozen | o => o).modify 9 fun | .cells _ t frozen => .cells #[.iface 219 (.pointer (some ⟨(World.holding Tryz.prog default ⟨#[], #[], []⟩).heap.size + 1, 0, none⟩))] t frozen | o => o).modify 11 fun | .cells _ t frozen => .cells #[.iface 219 (.pointer (some ⟨(World.holding Tryz.prog default ⟨#[], #[], []⟩).heap.size + 2, 0, none⟩))] t frozen | o => o).modify 8 fun | .cells _ t frozen => .cells #[.iface 219 (.pointer (some ⟨(World.holding Tryz.prog default ⟨#[], #[], []⟩).heap.size + 3, 0, none⟩))] t frozen | o => o).modify 6 fun | .cells _ t frozen => .cells #[.iface 219 (.pointer (some ⟨(World.holding Tryz.prog default ⟨#[], #[], []⟩).heap.size + 4, 0, none⟩))] t frozen | o => o).modify 7 fun | .cells _ t frozen => .cells #[.iface 219 (.pointer (some ⟨(World.holding Tryz.prog default ⟨#[], #[], []⟩).heap.size + 5, 0, none⟩))] t frozen | o => o).modify 0 fun | .cells _ t frozen => .cells #[.iface 219 (.pointer (some ⟨(World.holding Tryz.prog default ⟨#[], #[], []⟩).heap.size + 6, 0, none⟩))] t frozen | o => o).modify 1 fun | .cells _ t frozen => .cells #[.iface 219 (.pointer (some ⟨(World.holding Tryz.prog default ⟨#[], #[], []⟩).heap.size + 7, 0, none⟩))] t frozen | o => o).modify 2 fun | .cells _ t frozen => .cells #[.iface 219 (.pointer (some ⟨(World.holding Tryz.prog default ⟨#[], #[], []⟩).heap.size + 8, 0, none⟩))] t frozen | o => o).modify 3 fun | .cells _ t frozen => .cells #[.iface 219 (.pointer (some ⟨(World.holding Tryz.prog default ⟨#[], #[], []⟩).heap.size + 9, 0, none⟩))] t frozen | o => o).modify 4 fun | .cells _ t frozen => .cells #[.iface 135 (.agg #[.pointer (some ⟨12, 45, none⟩)])] t frozen | o => o } : World).forCall (fun _ _ => 0) ⟨#[], #[.slice none 0 0, .slice none 0 0, .string ⟨#[]⟩], []⟩).memory Tryz.f3.params.toList Rows.dnTellsSpec.vars false #[Value.slice none 0 0, Value.slice none 0 0, Value.string ⟨#[]⟩].toList 8 = some ([.nil, .nil, .lit (.string [])], [], places) :=
  ⟨[], by kernel_rfl⟩

set_option maxRecDepth 100000 in
theorem lifted (os : Os) (started : os.Started) (H : Type) (enc : TypeId × Value → H) (F : Stop.Interp) :
    ReturnsInHanded {} Tryz.checked os 3 .any ((OpenSpec.ofChange Rows.dnTellsSpec).preRow enc Tryz.prog Tryz.f3 Rows.dnTellsRow.domain false Rows.dnTellsRow.laid) (((OpenSpec.ofChange Rows.dnTellsSpec).at F).post enc Tryz.prog Tryz.f3 false true false false) := by
  obtain ⟨places, hx⟩ := reads os enc
  refine returnsInHanded_of_row (C := Tryz.checked) (s := OpenSpec.ofChange Rows.dnTellsSpec) own started (by kernel_rfl) Tryz.func3
    (witness_row_at (enc := enc) (C := Tryz.checked) false ({ World.holding Tryz.prog os ⟨#[.cells #[.string sentS0] 237, .cells #[.string sentS1] 237, .cells #[.string sentS2] 237, .cells #[.string sentS3] 237, .cells #[.string sentS4] 237, .cells #[.string sentS5] 237, .cells #[.string sentS6] 237, .cells #[.string sentS7] 237, .cells #[.string sentS8] 237, .cells #[.string sentS9] 237], #[], []⟩ with heap := (((((((((((World.holding Tryz.prog os ⟨#[.cells #[.string sentS0] 237, .cells #[.string sentS1] 237, .cells #[.string sentS2] 237, .cells #[.string sentS3] 237, .cells #[.string sentS4] 237, .cells #[.string sentS5] 237, .cells #[.string sentS6] 237, .cells #[.string sentS7] 237, .cells #[.string sentS8] 237, .cells #[.string sentS9] 237], #[], []⟩).heap.modify 10 fun | .cells _ t frozen => .cells #[.iface 219 (.pointer (some ⟨(World.holding Tryz.prog default ⟨#[], #[], []⟩).heap.size + 0, 0, none⟩))] t frozen | o => o).modify 9 fun | .cells _ t frozen => .cells #[.iface 219 (.pointer (some ⟨(World.holding Tryz.prog default ⟨#[], #[], []⟩).heap.size + 1, 0, none⟩))] t frozen | o => o).modify 11 fun | .cells _ t frozen => .cells #[.iface 219 (.pointer (some ⟨(World.holding Tryz.prog default ⟨#[], #[], []⟩).heap.size + 2, 0, none⟩))] t frozen | o => o).modify 8 fun | .cells _ t frozen => .cells #[.iface 219 (.pointer (some ⟨(World.holding Tryz.prog default ⟨#[], #[], []⟩).heap.size + 3, 0, none⟩))] t frozen | o => o).modify 6 fun | .cells _ t frozen => .cells #[.iface 219 (.pointer (some ⟨(World.holding Tryz.prog default ⟨#[], #[], []⟩).heap.size + 4, 0, none⟩))] t frozen | o => o).modify 7 fun | .cells _ t frozen => .cells #[.iface 219 (.pointer (some ⟨(World.holding Tryz.prog default ⟨#[], #[], []⟩).heap.size + 5, 0, none⟩))] t frozen | o => o).modify 0 fun | .cells _ t frozen => .cells #[.iface 219 (.pointer (some ⟨(World.holding Tryz.prog default ⟨#[], #[], []⟩).heap.size + 6, 0, none⟩))] t frozen | o => o).modify 1 fun | .cells _ t frozen => .cells #[.iface 219 (.pointer (some ⟨(World.holding Tryz.prog default ⟨#[], #[], []⟩).heap.size + 7, 0, none⟩))] t frozen | o => o).modify 2 fun | .cells _ t frozen => .cells #[.iface 219 (.pointer (some ⟨(World.holding Tryz.prog default ⟨#[], #[], []⟩).heap.size + 8, 0, none⟩))] t frozen | o => o).modify 3 fun | .cells _ t frozen => .cells #[.iface 219 (.pointer (some ⟨(World.holding Tryz.prog default ⟨#[], #[], []⟩).heap.size + 9, 0, none⟩))] t frozen | o => o).modify 4 fun | .cells _ t frozen => .cells #[.iface 135 (.agg #[.pointer (some ⟨12, 45, none⟩)])] t frozen | o => o } : World) #[.slice none 0 0, .slice none 0 0, .string ⟨#[]⟩] rfl (by kernel_rfl) (by kernel_rfl) (by kernel_rfl)
      (OpenSpec.preRow_of_cond 8 hx (by kernel_rfl) (fun k hk => by cases hk) (by kernel_rfl) (laid_met os _))) ?_
  intro W base args ds gs before hval hW _ _ _ hL _ _
  exact contract H enc W base args ds gs before hval hW hL

theorem said : Rows.DnTellsSaid :=
  OpenClaim.holds_of_cond 3 Tryz.f3 rfl rfl rfl rfl rfl rfl rfl ⟨rfl, rfl, rfl, rfl, rfl⟩ rfl rfl rfl rfl rfl (by kernel_rfl) Tryz.func3 (by kernel_rfl)
    (of_decide_eq_true (by kernel_rfl)) (by unfold Func.isWrapper; first | (rw [if_pos (by decide +kernel)]; kernel_rfl) | (rw [if_neg (by decide +kernel)]; exact ⟨rfl, rfl⟩))
    (fun os started H enc _ F => by rw [OpenClaim.pre_eq_preRow]; exact lifted os started H enc F)

theorem plain (f : FuncId) (fn : Func) (hf : Tryz.pinned.checked.prog.funcNamed "latiner/latinerlaw07.DnTells" = some f) (hfn : Tryz.pinned.checked.prog.funcs[f]? = some fn) :
    true = Tryz.pinned.checked.prog.looks [] ∧ ∀ (j : Nat) t, fn.params[j]? = some t → Tryz.pinned.checked.prog.wantsStandIn t = false := by
  obtain rfl : f = 3 := Option.some.inj ((show Tryz.prog.funcNamed "latiner/latinerlaw07.DnTells" = some 3 by kernel_rfl).symm.trans hf) |>.symm
  obtain rfl : fn = Tryz.f3 := (Option.some.inj (Tryz.func3.symm.trans hfn)).symm
  refine ⟨by kernel_rfl, fun j t ht => ?_⟩
  rw [Tryz.params3] at ht
  have hm : t = 22 ∨ t = 9 := by have := Array.mem_of_getElem? ht; simp at this; first | exact this | omega | (rcases this with h | h | h <;> simp [h]) | (rcases this with h | h | h | h <;> simp [h])
  rcases hm with rfl | rfl
  · exact (show Tryz.prog.wantsStandIn 22 = false by kernel_rfl)
  · exact (show Tryz.prog.wantsStandIn 9 = false by kernel_rfl)

/-- The card. -/
theorem card : Rows.DnTellsCardSaid :=
  Claim7.holds_tied_plain_at .later [] _ _ _ _ said (fun _ h => by cases h) (by kernel_rfl) (fun _ h => by cases h) dnTells_row_tie rfl ⟨rfl, rfl⟩ (by kernel_rfl) rfl plain (by kernel_rfl)
end Go.Proofs.YthfcnjcpanoldaaGreatDoor.D.Tells

namespace Go.Proofs.YthfcnjcpanoldaaGreatDoor
theorem dnTells_holds : Rows.DnTellsCardSaid := D.Tells.card
#print axioms dnTells_holds
end Go.Proofs.YthfcnjcpanoldaaGreatDoor
