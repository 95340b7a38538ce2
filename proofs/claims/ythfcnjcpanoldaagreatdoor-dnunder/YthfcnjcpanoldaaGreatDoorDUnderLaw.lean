/-
  DnUnder: each name is under itself, and under none; what is under a name that is under another one is under that, for any three names. Conditions: the package-level variables hold what the program's text lays (the card ties them).
-/
import Derived.Test.YthfcnjcpanoldaaGreatDoorDLaid
import Derived.Test.YthfcnjcpanoldaaGreatDoorDCut
import Derived.Laws.DeepStrings4
import Derived.Test.YthfcnjcpanoldaaGreatDoorDAll
namespace Go.Proofs.YthfcnjcpanoldaaGreatDoor.D.Under
open Go Go.RowKit Go.Shelf Dp Go.ChangeShapes Go.WideShapes Go.ChangeAt Go.ChangeMaps

set_option maxRecDepth 100000 in
set_option maxHeartbeats 800000 in
theorem walk (v0 : Value) (d0 : Nm) (v1 : Value) (d1 : Nm) (v2 : Value) (d2 : Nm) (a : Ad) (w : World) (g : Glob a w) (h0 : Nml w v0 d0) (hG0 : Big d0) (h1 : Nml w v1 d1) (hG1 : Big d1) (h2 : Nml w v2 d2) (hG2 : Big d2) :
    Calls Tryz.prog 5 #[v0, v1, v2] w fun e w' => e = .returned (.bool true) ∧ Below w.heap.size w w' := by
  obtain ⟨X, hXs, hXl, hC0⟩ := cut_ex d0 hG0
  obtain ⟨Y, hYs, hYl, hC1⟩ := cut_ex d1 hG1
  obtain ⟨Z, hZs, hZl, hC2⟩ := cut_ex d2 hG2
  have HC0 := hide hC0
  have HC1 := hide hC1
  have HC2 := hide hC2
  have HSh := hide (shown_true a w g)
  have N0 := hide h0
  have N1 := hide h1
  have N2 := hide h2
  have B0 := hide (Below.refl w.heap.size w)
  have hAs : Sm (X ++ Y) := ⟨by rw [List.length_append]; omega, fun r hr => by
    rcases List.mem_append.1 hr with h | h
    · exact hXs.2 r h
    · exact hYs.2 r h⟩
  have UXX := hide fun u v W h k => isUnder_any X X u v W h k hXs (by omega)
  have UXN := hide fun u v W h k => isUnder_any X [] u v W h k hXs (by simp)
  have UAY := hide fun u v W h k => isUnder_any (X ++ Y) Y u v W h k hAs (by omega)
  have UXY := hide fun u v W h k => isUnder_any X Y u v W h k hXs (by omega)
  have UYX := hide fun u v W h k => isUnder_any Y X u v W h k hYs (by omega)
  have UYZ := hide fun u v W h k => isUnder_any Y Z u v W h k hYs (by omega)
  have UXZ := hide fun u v W h k => isUnder_any X Z u v W h k hXs (by omega)
  have SXY := hide fun u v W h k => same_any X Y u v W h k hXs
  rw [under_self] at UXX
  rw [under_nil] at UXN
  rw [under_app] at UAY
  rw [← under_both X Y] at SXY
  have hT := hide (fun h k => under_trans (x := X) (y := Y) (z := Z) h k)
  generalize under X Y = b1 at *
  generalize under Y Z = b2 at *
  generalize under Y X = b3 at *
  generalize under X Z = b4 at *
  clear hC0 hC1 hC2 g h0 h1 h2 hG0 hG1 hG2 hXs hYs hZs hAs hZl
  cases b1
  · rw [Bool.false_and] at SXY
    clear hT UYZ UXZ UYX
    go_enter Tryz.func5, Tryz.ntmps5
    go_wp2_with fail
    first | with_reducible refine ((unhide HSh)).mono ?_ | refine ((unhide HSh)).mono ?_
    rintro e w1 ⟨rfl, hb⟩
    have B1 := hide (step (unhide B0) hb)
    replace N0 := hide ((unhide N0).below hb)
    replace N1 := hide ((unhide N1).below hb)
    replace N2 := hide ((unhide N2).below hb)
    clear hb B0
    clear HSh
    go_wp2_with fail
    refine ((unhide HC0) _ _ (unhide N0)).mono ?_
    rintro e w2 ⟨hb, vx, rfl, Ox⟩
    have B2 := hide (step (unhide B1) hb)
    replace N1 := hide ((unhide N1).below hb)
    replace N2 := hide ((unhide N2).below hb)
    clear hb B1
    replace Ox := hide Ox
    have Nx := hide (unhide Ox).nml
    clear HC0
    go_wp2_with fail
    refine ((unhide HC1) _ _ (unhide N1)).mono ?_
    rintro e w3 ⟨hb, vy, rfl, Oy⟩
    have B3 := hide (step (unhide B2) hb)
    replace N2 := hide ((unhide N2).below hb)
    replace Ox := hide ((unhide Ox).below hb)
    replace Nx := hide ((unhide Nx).below hb)
    clear hb B2
    replace Oy := hide Oy
    have Ny := hide (unhide Oy).nml
    clear HC1
    go_wp2_with fail
    refine ((unhide HC2) _ _ (unhide N2)).mono ?_
    rintro e w4 ⟨hb, vz, rfl, Oz⟩
    have B4 := hide (step (unhide B3) hb)
    replace Ox := hide ((unhide Ox).below hb)
    replace Nx := hide ((unhide Nx).below hb)
    replace Oy := hide ((unhide Oy).below hb)
    replace Ny := hide ((unhide Ny).below hb)
    clear hb B3
    replace Oz := hide Oz
    have Nz := hide (unhide Oz).nml
    clear HC2
    clear Oz
    go_wp2_with (at_builtin; first
      | (refine wpList_app rfl (.tmp 17) (.tmp 18) rfl w4.heap.size (.slice none 0 0) 0 [] rfl (World.ownsRow_nil _ _ _ _) vx X rfl (unhide Ox) (by omega) (Nat.le_refl _) ?_; intro v1 V1 ux q1 q2 q3; have hq3 := q3; have OY := hide ((unhide Oy).below (⟨hq3.os, hq3.tape, hq3.output, hq3.size, fun k hk => hq3.block k hk (by simp [Value.ownBlock])⟩ : Below w4.heap.size w4 V1)); have Q1 := hide q1; have Q2 := hide q2; have Q3 := hide q3; have hz3 := hq3.size; clear q1 q2 q3 hq3)
      | (refine wpList_app rfl (.tmp 19) (.tmp 20) rfl w4.heap.size v1 (0 + X.length) ([] ++ ux) rfl (unhide Q2) vy Y rfl (unhide OY) (by omega) hz3 ?_; intro v2 V2 uy r1 r2 r3; obtain ⟨hb, Oa⟩ := all_of (unhide Q1) (unhide Q2) (unhide Q3) r1 r2 r3; clear r1 r2 r3 Q1 Q2 Q3 OY hz3))
    have B5 := hide (step (unhide B4) hb)
    replace Ox := hide ((unhide Ox).below hb)
    replace Nx := hide ((unhide Nx).below hb)
    replace Oy := hide ((unhide Oy).below hb)
    replace Ny := hide ((unhide Ny).below hb)
    replace Nz := hide ((unhide Nz).below hb)
    have Na := hide Oa.nml
    clear hb B4 Oa Ox Oy
    first | with_reducible refine ((unhide UXY) _ _ _ (unhide Nx) (unhide Ny)).mono ?_ | refine ((unhide UXY) _ _ _ (unhide Nx) (unhide Ny)).mono ?_
    rintro e w6 ⟨rfl, hb⟩
    have B6 := hide (step (unhide B5) hb)
    replace Nx := hide ((unhide Nx).below hb)
    replace Ny := hide ((unhide Ny).below hb)
    replace Nz := hide ((unhide Nz).below hb)
    replace Na := hide ((unhide Na).below hb)
    clear hb B5
    go_wp2_with fail
    first | with_reducible refine ((unhide UXX) _ _ _ (unhide Nx) (unhide Nx)).mono ?_ | refine ((unhide UXX) _ _ _ (unhide Nx) (unhide Nx)).mono ?_
    rintro e w7 ⟨rfl, hb⟩
    have B7 := hide (step (unhide B6) hb)
    replace Nx := hide ((unhide Nx).below hb)
    replace Ny := hide ((unhide Ny).below hb)
    replace Nz := hide ((unhide Nz).below hb)
    replace Na := hide ((unhide Na).below hb)
    clear hb B6
    go_wp2_with fail
    first | with_reducible refine ((unhide UXN) _ _ _ (unhide Nx) (Nml.nil _)).mono ?_ | refine ((unhide UXN) _ _ _ (unhide Nx) (Nml.nil _)).mono ?_
    rintro e w8 ⟨rfl, hb⟩
    have B8 := hide (step (unhide B7) hb)
    replace Nx := hide ((unhide Nx).below hb)
    replace Ny := hide ((unhide Ny).below hb)
    replace Nz := hide ((unhide Nz).below hb)
    replace Na := hide ((unhide Na).below hb)
    clear hb B7
    go_wp2_with fail
    first | with_reducible refine ((unhide UAY) _ _ _ (unhide Na) (unhide Ny)).mono ?_ | refine ((unhide UAY) _ _ _ (unhide Na) (unhide Ny)).mono ?_
    rintro e w9 ⟨rfl, hb⟩
    have B9 := hide (step (unhide B8) hb)
    replace Nx := hide ((unhide Nx).below hb)
    replace Ny := hide ((unhide Ny).below hb)
    replace Nz := hide ((unhide Nz).below hb)
    replace Na := hide ((unhide Na).below hb)
    clear hb B8
    go_wp2_with fail
    first | with_reducible refine ((unhide UXY) _ _ _ (unhide Nx) (unhide Ny)).mono ?_ | refine ((unhide UXY) _ _ _ (unhide Nx) (unhide Ny)).mono ?_
    rintro e w10 ⟨rfl, hb⟩
    have B10 := hide (step (unhide B9) hb)
    replace Nx := hide ((unhide Nx).below hb)
    replace Ny := hide ((unhide Ny).below hb)
    replace Nz := hide ((unhide Nz).below hb)
    replace Na := hide ((unhide Na).below hb)
    clear hb B9
    go_wp2_with fail
    first | with_reducible refine ((unhide SXY) _ _ _ (unhide Nx) (unhide Ny)).mono ?_ | refine ((unhide SXY) _ _ _ (unhide Nx) (unhide Ny)).mono ?_
    rintro e w11 ⟨rfl, hb⟩
    have B11 := hide (step (unhide B10) hb)
    replace Nx := hide ((unhide Nx).below hb)
    replace Ny := hide ((unhide Ny).below hb)
    replace Nz := hide ((unhide Nz).below hb)
    replace Na := hide ((unhide Na).below hb)
    clear hb B10
    go_wp2
    go_ret
    exact ⟨rfl, unhide B11⟩
  · rw [Bool.true_and] at SXY
    cases b2
    · clear hT UXZ
      cases b3
      all_goals
        go_enter Tryz.func5, Tryz.ntmps5
        go_wp2_with fail
        first | with_reducible refine ((unhide HSh)).mono ?_ | refine ((unhide HSh)).mono ?_
        rintro e w1 ⟨rfl, hb⟩
        have B1 := hide (step (unhide B0) hb)
        replace N0 := hide ((unhide N0).below hb)
        replace N1 := hide ((unhide N1).below hb)
        replace N2 := hide ((unhide N2).below hb)
        clear hb B0
        clear HSh
        go_wp2_with fail
        refine ((unhide HC0) _ _ (unhide N0)).mono ?_
        rintro e w2 ⟨hb, vx, rfl, Ox⟩
        have B2 := hide (step (unhide B1) hb)
        replace N1 := hide ((unhide N1).below hb)
        replace N2 := hide ((unhide N2).below hb)
        clear hb B1
        replace Ox := hide Ox
        have Nx := hide (unhide Ox).nml
        clear HC0
        go_wp2_with fail
        refine ((unhide HC1) _ _ (unhide N1)).mono ?_
        rintro e w3 ⟨hb, vy, rfl, Oy⟩
        have B3 := hide (step (unhide B2) hb)
        replace N2 := hide ((unhide N2).below hb)
        replace Ox := hide ((unhide Ox).below hb)
        replace Nx := hide ((unhide Nx).below hb)
        clear hb B2
        replace Oy := hide Oy
        have Ny := hide (unhide Oy).nml
        clear HC1
        go_wp2_with fail
        refine ((unhide HC2) _ _ (unhide N2)).mono ?_
        rintro e w4 ⟨hb, vz, rfl, Oz⟩
        have B4 := hide (step (unhide B3) hb)
        replace Ox := hide ((unhide Ox).below hb)
        replace Nx := hide ((unhide Nx).below hb)
        replace Oy := hide ((unhide Oy).below hb)
        replace Ny := hide ((unhide Ny).below hb)
        clear hb B3
        replace Oz := hide Oz
        have Nz := hide (unhide Oz).nml
        clear HC2
        clear Oz
        go_wp2_with (at_builtin; first
          | (refine wpList_app rfl (.tmp 17) (.tmp 18) rfl w4.heap.size (.slice none 0 0) 0 [] rfl (World.ownsRow_nil _ _ _ _) vx X rfl (unhide Ox) (by omega) (Nat.le_refl _) ?_; intro v1 V1 ux q1 q2 q3; have hq3 := q3; have OY := hide ((unhide Oy).below (⟨hq3.os, hq3.tape, hq3.output, hq3.size, fun k hk => hq3.block k hk (by simp [Value.ownBlock])⟩ : Below w4.heap.size w4 V1)); have Q1 := hide q1; have Q2 := hide q2; have Q3 := hide q3; have hz3 := hq3.size; clear q1 q2 q3 hq3)
          | (refine wpList_app rfl (.tmp 19) (.tmp 20) rfl w4.heap.size v1 (0 + X.length) ([] ++ ux) rfl (unhide Q2) vy Y rfl (unhide OY) (by omega) hz3 ?_; intro v2 V2 uy r1 r2 r3; obtain ⟨hb, Oa⟩ := all_of (unhide Q1) (unhide Q2) (unhide Q3) r1 r2 r3; clear r1 r2 r3 Q1 Q2 Q3 OY hz3))
        have B5 := hide (step (unhide B4) hb)
        replace Ox := hide ((unhide Ox).below hb)
        replace Nx := hide ((unhide Nx).below hb)
        replace Oy := hide ((unhide Oy).below hb)
        replace Ny := hide ((unhide Ny).below hb)
        replace Nz := hide ((unhide Nz).below hb)
        have Na := hide Oa.nml
        clear hb B4 Oa Ox Oy
        first | with_reducible refine ((unhide UXY) _ _ _ (unhide Nx) (unhide Ny)).mono ?_ | refine ((unhide UXY) _ _ _ (unhide Nx) (unhide Ny)).mono ?_
        rintro e w6 ⟨rfl, hb⟩
        have B6 := hide (step (unhide B5) hb)
        replace Nx := hide ((unhide Nx).below hb)
        replace Ny := hide ((unhide Ny).below hb)
        replace Nz := hide ((unhide Nz).below hb)
        replace Na := hide ((unhide Na).below hb)
        clear hb B5
        go_wp2_with fail
        first | with_reducible refine ((unhide UYZ) _ _ _ (unhide Ny) (unhide Nz)).mono ?_ | refine ((unhide UYZ) _ _ _ (unhide Ny) (unhide Nz)).mono ?_
        rintro e w7 ⟨rfl, hb⟩
        have B7 := hide (step (unhide B6) hb)
        replace Nx := hide ((unhide Nx).below hb)
        replace Ny := hide ((unhide Ny).below hb)
        replace Nz := hide ((unhide Nz).below hb)
        replace Na := hide ((unhide Na).below hb)
        clear hb B6
        go_wp2_with fail
        first | with_reducible refine ((unhide UXX) _ _ _ (unhide Nx) (unhide Nx)).mono ?_ | refine ((unhide UXX) _ _ _ (unhide Nx) (unhide Nx)).mono ?_
        rintro e w8 ⟨rfl, hb⟩
        have B8 := hide (step (unhide B7) hb)
        replace Nx := hide ((unhide Nx).below hb)
        replace Ny := hide ((unhide Ny).below hb)
        replace Nz := hide ((unhide Nz).below hb)
        replace Na := hide ((unhide Na).below hb)
        clear hb B7
        go_wp2_with fail
        first | with_reducible refine ((unhide UXN) _ _ _ (unhide Nx) (Nml.nil _)).mono ?_ | refine ((unhide UXN) _ _ _ (unhide Nx) (Nml.nil _)).mono ?_
        rintro e w9 ⟨rfl, hb⟩
        have B9 := hide (step (unhide B8) hb)
        replace Nx := hide ((unhide Nx).below hb)
        replace Ny := hide ((unhide Ny).below hb)
        replace Nz := hide ((unhide Nz).below hb)
        replace Na := hide ((unhide Na).below hb)
        clear hb B8
        go_wp2_with fail
        first | with_reducible refine ((unhide UAY) _ _ _ (unhide Na) (unhide Ny)).mono ?_ | refine ((unhide UAY) _ _ _ (unhide Na) (unhide Ny)).mono ?_
        rintro e w10 ⟨rfl, hb⟩
        have B10 := hide (step (unhide B9) hb)
        replace Nx := hide ((unhide Nx).below hb)
        replace Ny := hide ((unhide Ny).below hb)
        replace Nz := hide ((unhide Nz).below hb)
        replace Na := hide ((unhide Na).below hb)
        clear hb B9
        go_wp2_with fail
        first | with_reducible refine ((unhide UXY) _ _ _ (unhide Nx) (unhide Ny)).mono ?_ | refine ((unhide UXY) _ _ _ (unhide Nx) (unhide Ny)).mono ?_
        rintro e w11 ⟨rfl, hb⟩
        have B11 := hide (step (unhide B10) hb)
        replace Nx := hide ((unhide Nx).below hb)
        replace Ny := hide ((unhide Ny).below hb)
        replace Nz := hide ((unhide Nz).below hb)
        replace Na := hide ((unhide Na).below hb)
        clear hb B10
        go_wp2_with fail
        first | with_reducible refine ((unhide UYX) _ _ _ (unhide Ny) (unhide Nx)).mono ?_ | refine ((unhide UYX) _ _ _ (unhide Ny) (unhide Nx)).mono ?_
        rintro e w12 ⟨rfl, hb⟩
        have B12 := hide (step (unhide B11) hb)
        replace Nx := hide ((unhide Nx).below hb)
        replace Ny := hide ((unhide Ny).below hb)
        replace Nz := hide ((unhide Nz).below hb)
        replace Na := hide ((unhide Na).below hb)
        clear hb B11
        go_wp2_with fail
        first | with_reducible refine ((unhide SXY) _ _ _ (unhide Nx) (unhide Ny)).mono ?_ | refine ((unhide SXY) _ _ _ (unhide Nx) (unhide Ny)).mono ?_
        rintro e w13 ⟨rfl, hb⟩
        have B13 := hide (step (unhide B12) hb)
        replace Nx := hide ((unhide Nx).below hb)
        replace Ny := hide ((unhide Ny).below hb)
        replace Nz := hide ((unhide Nz).below hb)
        replace Na := hide ((unhide Na).below hb)
        clear hb B12
        go_wp2
        go_ret
        exact ⟨rfl, unhide B13⟩
    · have h4 := (unhide hT) rfl rfl
      rw [h4] at UXZ
      clear hT h4
      cases b3
      all_goals
        go_enter Tryz.func5, Tryz.ntmps5
        go_wp2_with fail
        first | with_reducible refine ((unhide HSh)).mono ?_ | refine ((unhide HSh)).mono ?_
        rintro e w1 ⟨rfl, hb⟩
        have B1 := hide (step (unhide B0) hb)
        replace N0 := hide ((unhide N0).below hb)
        replace N1 := hide ((unhide N1).below hb)
        replace N2 := hide ((unhide N2).below hb)
        clear hb B0
        clear HSh
        go_wp2_with fail
        refine ((unhide HC0) _ _ (unhide N0)).mono ?_
        rintro e w2 ⟨hb, vx, rfl, Ox⟩
        have B2 := hide (step (unhide B1) hb)
        replace N1 := hide ((unhide N1).below hb)
        replace N2 := hide ((unhide N2).below hb)
        clear hb B1
        replace Ox := hide Ox
        have Nx := hide (unhide Ox).nml
        clear HC0
        go_wp2_with fail
        refine ((unhide HC1) _ _ (unhide N1)).mono ?_
        rintro e w3 ⟨hb, vy, rfl, Oy⟩
        have B3 := hide (step (unhide B2) hb)
        replace N2 := hide ((unhide N2).below hb)
        replace Ox := hide ((unhide Ox).below hb)
        replace Nx := hide ((unhide Nx).below hb)
        clear hb B2
        replace Oy := hide Oy
        have Ny := hide (unhide Oy).nml
        clear HC1
        go_wp2_with fail
        refine ((unhide HC2) _ _ (unhide N2)).mono ?_
        rintro e w4 ⟨hb, vz, rfl, Oz⟩
        have B4 := hide (step (unhide B3) hb)
        replace Ox := hide ((unhide Ox).below hb)
        replace Nx := hide ((unhide Nx).below hb)
        replace Oy := hide ((unhide Oy).below hb)
        replace Ny := hide ((unhide Ny).below hb)
        clear hb B3
        replace Oz := hide Oz
        have Nz := hide (unhide Oz).nml
        clear HC2
        clear Oz
        go_wp2_with (at_builtin; first
          | (refine wpList_app rfl (.tmp 17) (.tmp 18) rfl w4.heap.size (.slice none 0 0) 0 [] rfl (World.ownsRow_nil _ _ _ _) vx X rfl (unhide Ox) (by omega) (Nat.le_refl _) ?_; intro v1 V1 ux q1 q2 q3; have hq3 := q3; have OY := hide ((unhide Oy).below (⟨hq3.os, hq3.tape, hq3.output, hq3.size, fun k hk => hq3.block k hk (by simp [Value.ownBlock])⟩ : Below w4.heap.size w4 V1)); have Q1 := hide q1; have Q2 := hide q2; have Q3 := hide q3; have hz3 := hq3.size; clear q1 q2 q3 hq3)
          | (refine wpList_app rfl (.tmp 19) (.tmp 20) rfl w4.heap.size v1 (0 + X.length) ([] ++ ux) rfl (unhide Q2) vy Y rfl (unhide OY) (by omega) hz3 ?_; intro v2 V2 uy r1 r2 r3; obtain ⟨hb, Oa⟩ := all_of (unhide Q1) (unhide Q2) (unhide Q3) r1 r2 r3; clear r1 r2 r3 Q1 Q2 Q3 OY hz3))
        have B5 := hide (step (unhide B4) hb)
        replace Ox := hide ((unhide Ox).below hb)
        replace Nx := hide ((unhide Nx).below hb)
        replace Oy := hide ((unhide Oy).below hb)
        replace Ny := hide ((unhide Ny).below hb)
        replace Nz := hide ((unhide Nz).below hb)
        have Na := hide Oa.nml
        clear hb B4 Oa Ox Oy
        first | with_reducible refine ((unhide UXY) _ _ _ (unhide Nx) (unhide Ny)).mono ?_ | refine ((unhide UXY) _ _ _ (unhide Nx) (unhide Ny)).mono ?_
        rintro e w6 ⟨rfl, hb⟩
        have B6 := hide (step (unhide B5) hb)
        replace Nx := hide ((unhide Nx).below hb)
        replace Ny := hide ((unhide Ny).below hb)
        replace Nz := hide ((unhide Nz).below hb)
        replace Na := hide ((unhide Na).below hb)
        clear hb B5
        go_wp2_with fail
        first | with_reducible refine ((unhide UYZ) _ _ _ (unhide Ny) (unhide Nz)).mono ?_ | refine ((unhide UYZ) _ _ _ (unhide Ny) (unhide Nz)).mono ?_
        rintro e w7 ⟨rfl, hb⟩
        have B7 := hide (step (unhide B6) hb)
        replace Nx := hide ((unhide Nx).below hb)
        replace Ny := hide ((unhide Ny).below hb)
        replace Nz := hide ((unhide Nz).below hb)
        replace Na := hide ((unhide Na).below hb)
        clear hb B6
        go_wp2_with fail
        first | with_reducible refine ((unhide UXX) _ _ _ (unhide Nx) (unhide Nx)).mono ?_ | refine ((unhide UXX) _ _ _ (unhide Nx) (unhide Nx)).mono ?_
        rintro e w8 ⟨rfl, hb⟩
        have B8 := hide (step (unhide B7) hb)
        replace Nx := hide ((unhide Nx).below hb)
        replace Ny := hide ((unhide Ny).below hb)
        replace Nz := hide ((unhide Nz).below hb)
        replace Na := hide ((unhide Na).below hb)
        clear hb B7
        go_wp2_with fail
        first | with_reducible refine ((unhide UXN) _ _ _ (unhide Nx) (Nml.nil _)).mono ?_ | refine ((unhide UXN) _ _ _ (unhide Nx) (Nml.nil _)).mono ?_
        rintro e w9 ⟨rfl, hb⟩
        have B9 := hide (step (unhide B8) hb)
        replace Nx := hide ((unhide Nx).below hb)
        replace Ny := hide ((unhide Ny).below hb)
        replace Nz := hide ((unhide Nz).below hb)
        replace Na := hide ((unhide Na).below hb)
        clear hb B8
        go_wp2_with fail
        first | with_reducible refine ((unhide UAY) _ _ _ (unhide Na) (unhide Ny)).mono ?_ | refine ((unhide UAY) _ _ _ (unhide Na) (unhide Ny)).mono ?_
        rintro e w10 ⟨rfl, hb⟩
        have B10 := hide (step (unhide B9) hb)
        replace Nx := hide ((unhide Nx).below hb)
        replace Ny := hide ((unhide Ny).below hb)
        replace Nz := hide ((unhide Nz).below hb)
        replace Na := hide ((unhide Na).below hb)
        clear hb B9
        go_wp2_with fail
        first | with_reducible refine ((unhide UXZ) _ _ _ (unhide Nx) (unhide Nz)).mono ?_ | refine ((unhide UXZ) _ _ _ (unhide Nx) (unhide Nz)).mono ?_
        rintro e w11 ⟨rfl, hb⟩
        have B11 := hide (step (unhide B10) hb)
        replace Nx := hide ((unhide Nx).below hb)
        replace Ny := hide ((unhide Ny).below hb)
        replace Nz := hide ((unhide Nz).below hb)
        replace Na := hide ((unhide Na).below hb)
        clear hb B10
        go_wp2_with fail
        first | with_reducible refine ((unhide UXY) _ _ _ (unhide Nx) (unhide Ny)).mono ?_ | refine ((unhide UXY) _ _ _ (unhide Nx) (unhide Ny)).mono ?_
        rintro e w12 ⟨rfl, hb⟩
        have B12 := hide (step (unhide B11) hb)
        replace Nx := hide ((unhide Nx).below hb)
        replace Ny := hide ((unhide Ny).below hb)
        replace Nz := hide ((unhide Nz).below hb)
        replace Na := hide ((unhide Na).below hb)
        clear hb B11
        go_wp2_with fail
        first | with_reducible refine ((unhide UYX) _ _ _ (unhide Ny) (unhide Nx)).mono ?_ | refine ((unhide UYX) _ _ _ (unhide Ny) (unhide Nx)).mono ?_
        rintro e w13 ⟨rfl, hb⟩
        have B13 := hide (step (unhide B12) hb)
        replace Nx := hide ((unhide Nx).below hb)
        replace Ny := hide ((unhide Ny).below hb)
        replace Nz := hide ((unhide Nz).below hb)
        replace Na := hide ((unhide Na).below hb)
        clear hb B12
        go_wp2_with fail
        first | with_reducible refine ((unhide SXY) _ _ _ (unhide Nx) (unhide Ny)).mono ?_ | refine ((unhide SXY) _ _ _ (unhide Nx) (unhide Ny)).mono ?_
        rintro e w14 ⟨rfl, hb⟩
        have B14 := hide (step (unhide B13) hb)
        replace Nx := hide ((unhide Nx).below hb)
        replace Ny := hide ((unhide Ny).below hb)
        replace Nz := hide ((unhide Nz).below hb)
        replace Na := hide ((unhide Na).below hb)
        clear hb B13
        go_wp2
        go_ret
        exact ⟨rfl, unhide B14⟩


set_option maxRecDepth 100000 in
/-- What the walk gives, for every argument. -/
theorem contract (H : Type) (enc : TypeId × Value → H) (W : World) (base : Nat) (args : Array Value) (ds gs : List (DataW H)) (before : List MemPlace)
    (hval : ∀ (j : Nat) t v, Tryz.f5.params[j]? = some t → args[j]? = some v → Value.okWide Tryz.prog W .any base t v)
    (hW : DataW.Whole enc Tryz.prog Tryz.f5.params.toList Rows.dnUnderSpec.vars false W args.toList ds gs before) (hL : laidMetH Tryz.prog Rows.dnUnderRow.laid W) :
    Calls Tryz.prog 5 args W fun e W' => ∃ v, e = .returned v ∧ Rows.dnUnderSpec.post enc Tryz.prog Tryz.f5 false true false false W args v W' := by
  obtain ⟨a, g⟩ := glob_of_laid hL
  have hW' := hW
  obtain ⟨p, q, hA0, hV, rfl, hfz, hnd⟩ := hW
  have hA : DataW.TrodAll enc Tryz.prog W 0 (fun _ => true) true Tryz.f5.params.toList args.toList ds p := hA0
  rw [Tryz.params5] at hA hval
  obtain ⟨v0, vs0, d0, ds0, p0, q0, hargs0, rfl, rfl, h0, r0⟩ := trodAll_cons hA
  obtain ⟨v1, vs1, d1, ds1, p1, q1, hargs1, rfl, rfl, h1, r1⟩ := trodAll_cons r0
  obtain ⟨v2, vs2, d2, ds2, p2, q2, hargs2, rfl, rfl, h2, r2⟩ := trodAll_cons r1
  obtain ⟨rfl, rfl, rfl⟩ := trodAll_nil r2
  obtain rfl : args = #[v0, v1, v2] := by cases args; simp_all
  obtain ⟨rfl, rfl⟩ := trodVars_none hV
  obtain ⟨a0, n0, c0, rfl⟩ := okWide_slice Tryz.underlying22 (hval 0 22 v0 rfl rfl)
  have hk0 := h0
  obtain ⟨fu0, hf0⟩ := h0
  obtain ⟨l0, hL0, hG0⟩ := open_name (fuel := fu0) hf0
  have hlt0 := DataW.trod_lt _ _ _ _ hf0
  obtain ⟨a1, n1, c1, rfl⟩ := okWide_slice Tryz.underlying22 (hval 1 22 v1 rfl rfl)
  have hk1 := h1
  obtain ⟨fu1, hf1⟩ := h1
  obtain ⟨l1, hL1, hG1⟩ := open_name (fuel := fu1) hf1
  have hlt1 := DataW.trod_lt _ _ _ _ hf1
  obtain ⟨a2, n2, c2, rfl⟩ := okWide_slice Tryz.underlying22 (hval 2 22 v2 rfl rfl)
  have hk2 := h2
  obtain ⟨fu2, hf2⟩ := h2
  obtain ⟨l2, hL2, hG2⟩ := open_name (fuel := fu2) hf2
  have hlt2 := DataW.trod_lt _ _ _ _ hf2
  clear hA0
  simp only [List.append_nil] at hW'
  refine (walk (.slice a0 n0 c0) l0 (.slice a1 n1 c1) l1 (.slice a2 n2 c2) l2 a W g hL0 hG0 hL1 hG1 hL2 hG2).mono fun e W' ⟨he, hg⟩ => ?_
  subst he
  refine ⟨_, rfl, _, _, _, [], (p0 ++ (p1 ++ (p2 ++ []))), [], hW', ?_, ?_, ?_, hg.frame _, fun h => by cases h⟩
  · exact trodAll_cons_mk (shut_bool Tryz.underlying4 _) trodAll_mk0
  · exact trodAll_cons_mk (Below.trod (by kernel_rfl) (by kernel_rfl) (of_decide_eq_true (by kernel_rfl)) hk0 hg hlt0) (trodAll_cons_mk (Below.trod (by kernel_rfl) (by kernel_rfl) (of_decide_eq_true (by kernel_rfl)) hk1 hg hlt1) (trodAll_cons_mk (Below.trod (by kernel_rfl) (by kernel_rfl) (of_decide_eq_true (by kernel_rfl)) hk2 hg hlt2) (trodAll_mk0)))
  · rfl

theorem reads (os : Os) {H : Type} (enc : TypeId × Value → H) : ∃ places, DataW.whole enc Tryz.prog (({ World.holding Tryz.prog os ⟨#[.cells #[.string sentS0] 237, .cells #[.string sentS1] 237, .cells #[.string sentS2] 237, .cells #[.string sentS3] 237, .cells #[.string sentS4] 237, .cells #[.string sentS5] 237, .cells #[.string sentS6] 237, .cells #[.string sentS7] 237, .cells #[.string sentS8] 237, .cells #[.string sentS9] 237], #[], []⟩ with heap := (((((((((((World.holding Tryz.prog os ⟨#[.cells #[.string sentS0] 237, .cells #[.string sentS1] 237, .cells #[.string sentS2] 237, .cells #[.string sentS3] 237, .cells #[.string sentS4] 237, .cells #[.string sentS5] 237, .cells #[.string sentS6] 237, .cells #[.string sentS7] 237, .cells #[.string sentS8] 237, .cells #[.string sentS9] 237], #[], []⟩).heap.modify 10 fun | .cells _ t frozen => .cells #[.iface 219 (.pointer (some ⟨(World.holding Tryz.prog default ⟨#[], #[], []⟩).heap.size + 0, 0, none⟩))] t frozen | o => o).modify 9 fun | .cells _ t frozen => .cells #[.iface 219 (.pointer (some ⟨(World.holding Tryz.prog default ⟨#[], #[], []⟩).heap.size + 1, 0, none⟩))] t frozen | o => o).modify 11 fun | .cells _ t frozen => .cells #[.iface 219 (.pointer (some ⟨(World.holding Tryz.prog default ⟨#[], #[], []⟩).heap.size + 2, 0, none⟩))] t frozen | o => o).modify 8 fun | .cells _ t frozen => .cells #[.iface 219 (.pointer (some ⟨(World.holding Tryz.prog default ⟨#[], #[], []⟩).heap.size + 3, 0, none⟩))] t frozen | o => o).modify 6 fun | .cells _ t frozen => .cells #[.iface 219 (.pointer (some ⟨(World.holding Tryz.prog default ⟨#[], #[], []⟩).heap.size + 4, 0, none⟩))] t frozen | o => o).modify 7 fun | .cells _ t frozen => .cells #[.iface 219 (.pointer (some ⟨(World.holding Tryz.prog default ⟨#[], #[], []⟩).heap.size + 5, 0, none⟩))] t frozen | o => o).modify 0 fun | .cells _ t frozen => .cells #[.iface 219 (.pointer (some ⟨(World.holding Tryz.prog default ⟨#[], #[], []⟩).heap.size + 6, 0, none⟩))] t frozen | o => o).modify 1 fun | .cells _ t frozen => .cells #[.iface 219 (.pointer (some ⟨(World.holding Tryz.prog default ⟨#[], #[], []⟩).heap.size + 7, 0, none⟩))] t frozen | o => o).modify 2 fun | .cells _ t frozen => .cells #[.iface 219 (.pointer (some ⟨(World.holding Tryz.prog default ⟨#[], #[], []⟩).heap.size + 8, 0, none⟩))] t frozen | o => o).modify 3 fun | .cells _ t frozen => .cells #[.iface 219 (.pointer (some ⟨(World.holding Tryz.prog default ⟨#[], #[], []⟩).heap.size + 9, 0, none⟩))] t frozen | o => o).modify 4 fun | .cells _ t frozen => .cells #[.iface 135 (.agg #[.pointer (some ⟨12, 45, none⟩)])] t frozen | o => o } : World).forCall (fun _ _ => 0) ⟨#[], #[.slice none 0 0, .slice none 0 0, .slice none 0 0], []⟩).memory Tryz.f5.params.toList Rows.dnUnderSpec.vars false #[Value.slice none 0 0, Value.slice none 0 0, Value.slice none 0 0].toList 8 = some ([.nil, .nil, .nil], [], places) :=
  ⟨[], by kernel_rfl⟩

set_option maxRecDepth 100000 in
theorem lifted (os : Os) (started : os.Started) (H : Type) (enc : TypeId × Value → H) (F : Stop.Interp) :
    ReturnsInHanded {} Tryz.checked os 5 .any ((OpenSpec.ofChange Rows.dnUnderSpec).preRow enc Tryz.prog Tryz.f5 Rows.dnUnderRow.domain false Rows.dnUnderRow.laid) (((OpenSpec.ofChange Rows.dnUnderSpec).at F).post enc Tryz.prog Tryz.f5 false true false false) := by
  obtain ⟨places, hx⟩ := reads os enc
  refine returnsInHanded_of_row (C := Tryz.checked) (s := OpenSpec.ofChange Rows.dnUnderSpec) own started (by kernel_rfl) Tryz.func5
    (witness_row_at (enc := enc) (C := Tryz.checked) false ({ World.holding Tryz.prog os ⟨#[.cells #[.string sentS0] 237, .cells #[.string sentS1] 237, .cells #[.string sentS2] 237, .cells #[.string sentS3] 237, .cells #[.string sentS4] 237, .cells #[.string sentS5] 237, .cells #[.string sentS6] 237, .cells #[.string sentS7] 237, .cells #[.string sentS8] 237, .cells #[.string sentS9] 237], #[], []⟩ with heap := (((((((((((World.holding Tryz.prog os ⟨#[.cells #[.string sentS0] 237, .cells #[.string sentS1] 237, .cells #[.string sentS2] 237, .cells #[.string sentS3] 237, .cells #[.string sentS4] 237, .cells #[.string sentS5] 237, .cells #[.string sentS6] 237, .cells #[.string sentS7] 237, .cells #[.string sentS8] 237, .cells #[.string sentS9] 237], #[], []⟩).heap.modify 10 fun | .cells _ t frozen => .cells #[.iface 219 (.pointer (some ⟨(World.holding Tryz.prog default ⟨#[], #[], []⟩).heap.size + 0, 0, none⟩))] t frozen | o => o).modify 9 fun | .cells _ t frozen => .cells #[.iface 219 (.pointer (some ⟨(World.holding Tryz.prog default ⟨#[], #[], []⟩).heap.size + 1, 0, none⟩))] t frozen | o => o).modify 11 fun | .cells _ t frozen => .cells #[.iface 219 (.pointer (some ⟨(World.holding Tryz.prog default ⟨#[], #[], []⟩).heap.size + 2, 0, none⟩))] t frozen | o => o).modify 8 fun | .cells _ t frozen => .cells #[.iface 219 (.pointer (some ⟨(World.holding Tryz.prog default ⟨#[], #[], []⟩).heap.size + 3, 0, none⟩))] t frozen | o => o).modify 6 fun | .cells _ t frozen => .cells #[.iface 219 (.pointer (some ⟨(World.holding Tryz.prog default ⟨#[], #[], []⟩).heap.size + 4, 0, none⟩))] t frozen | o => o).modify 7 fun | .cells _ t frozen => .cells #[.iface 219 (.pointer (some ⟨(World.holding Tryz.prog default ⟨#[], #[], []⟩).heap.size + 5, 0, none⟩))] t frozen | o => o).modify 0 fun | .cells _ t frozen => .cells #[.iface 219 (.pointer (some ⟨(World.holding Tryz.prog default ⟨#[], #[], []⟩).heap.size + 6, 0, none⟩))] t frozen | o => o).modify 1 fun | .cells _ t frozen => .cells #[.iface 219 (.pointer (some ⟨(World.holding Tryz.prog default ⟨#[], #[], []⟩).heap.size + 7, 0, none⟩))] t frozen | o => o).modify 2 fun | .cells _ t frozen => .cells #[.iface 219 (.pointer (some ⟨(World.holding Tryz.prog default ⟨#[], #[], []⟩).heap.size + 8, 0, none⟩))] t frozen | o => o).modify 3 fun | .cells _ t frozen => .cells #[.iface 219 (.pointer (some ⟨(World.holding Tryz.prog default ⟨#[], #[], []⟩).heap.size + 9, 0, none⟩))] t frozen | o => o).modify 4 fun | .cells _ t frozen => .cells #[.iface 135 (.agg #[.pointer (some ⟨12, 45, none⟩)])] t frozen | o => o } : World) #[.slice none 0 0, .slice none 0 0, .slice none 0 0] rfl (by kernel_rfl) (by kernel_rfl) (by kernel_rfl)
      (OpenSpec.preRow_of_cond 8 hx (by kernel_rfl) (fun k hk => by cases hk) (by kernel_rfl) (laid_met os _))) ?_
  intro W base args ds gs before hval hW _ _ _ hL _ _
  exact contract H enc W base args ds gs before hval hW hL

theorem said : Rows.DnUnderSaid :=
  OpenClaim.holds_of_cond 5 Tryz.f5 rfl rfl rfl rfl rfl rfl rfl ⟨rfl, rfl, rfl, rfl, rfl⟩ rfl rfl rfl rfl rfl (by kernel_rfl) Tryz.func5 (by kernel_rfl)
    (of_decide_eq_true (by kernel_rfl)) (by unfold Func.isWrapper; first | (rw [if_pos (by decide +kernel)]; kernel_rfl) | (rw [if_neg (by decide +kernel)]; exact ⟨rfl, rfl⟩))
    (fun os started H enc _ F => by rw [OpenClaim.pre_eq_preRow]; exact lifted os started H enc F)

theorem plain (f : FuncId) (fn : Func) (hf : Tryz.pinned.checked.prog.funcNamed "latiner/latinerlaw07.DnUnder" = some f) (hfn : Tryz.pinned.checked.prog.funcs[f]? = some fn) :
    true = Tryz.pinned.checked.prog.looks [] ∧ ∀ (j : Nat) t, fn.params[j]? = some t → Tryz.pinned.checked.prog.wantsStandIn t = false := by
  obtain rfl : f = 5 := Option.some.inj ((show Tryz.prog.funcNamed "latiner/latinerlaw07.DnUnder" = some 5 by kernel_rfl).symm.trans hf) |>.symm
  obtain rfl : fn = Tryz.f5 := (Option.some.inj (Tryz.func5.symm.trans hfn)).symm
  refine ⟨by kernel_rfl, fun j t ht => ?_⟩
  rw [Tryz.params5] at ht
  have hm : t = 22 := by have := Array.mem_of_getElem? ht; simp at this; first | exact this | omega | (rcases this with h | h | h <;> simp [h]) | (rcases this with h | h | h | h <;> simp [h])
  subst hm
  exact (show Tryz.prog.wantsStandIn 22 = false by kernel_rfl)

/-- The card. -/
theorem card : Rows.DnUnderCardSaid :=
  Claim7.holds_tied_plain_at .later [] _ _ _ _ said (fun _ h => by cases h) (by kernel_rfl) (fun _ h => by cases h) dnUnder_row_tie rfl ⟨rfl, rfl⟩ (by kernel_rfl) rfl plain (by kernel_rfl)
end Go.Proofs.YthfcnjcpanoldaaGreatDoor.D.Under

namespace Go.Proofs.YthfcnjcpanoldaaGreatDoor
theorem dnUnder_holds : Rows.DnUnderCardSaid := D.Under.card
#print axioms dnUnder_holds
end Go.Proofs.YthfcnjcpanoldaaGreatDoor
