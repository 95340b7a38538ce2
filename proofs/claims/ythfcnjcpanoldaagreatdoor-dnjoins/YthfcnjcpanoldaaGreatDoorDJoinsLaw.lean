/-
  DnJoins: the texts of two names that are not of none, with a comma between, are that of both, if they are not too many, for any two names. Conditions: the package-level variables hold what the program's text lays (the card ties them).
-/
import Derived.Test.YthfcnjcpanoldaaGreatDoorDLaid
import Derived.Test.YthfcnjcpanoldaaGreatDoorDCut
import Derived.Laws.DeepStrings4
import Derived.Test.YthfcnjcpanoldaaGreatDoorDAll
namespace Go.Proofs.YthfcnjcpanoldaaGreatDoor.D.Joins
open Go Go.RowKit Go.Shelf Dp Go.ChangeShapes Go.WideShapes Go.ChangeAt Go.ChangeMaps

theorem pri_ok {X : Nm} (h : okN X = true) : pri X = (pr X, 0) := by unfold pri; rw [h]; rfl
theorem pri_no {X : Nm} (h : okN X = false) : pri X = (⟨#[]⟩, 70) := by unfold pri; rw [h]; rfl
theorem app_no {X Y : Nm} (h : okN X = false ∨ okN Y = false) : okN (X ++ Y) = false := by
  rw [okN_app]
  unfold okN at h
  by_cases hl : (X ++ Y).length ≤ 8
  · have h1 : X.length ≤ 8 ∧ Y.length ≤ 8 := by rw [List.length_append] at hl; omega
    rw [decide_eq_true h1.1, decide_eq_true h1.2, Bool.true_and, Bool.true_and] at h
    rcases h with h | h <;> rw [h] <;> simp
  · rw [decide_eq_false hl]; rfl
theorem app_ok {X Y : Nm} (hx : okN X = true) (hy : okN Y = true) : okN (X ++ Y) = decide ((X ++ Y).length ≤ 8) := by
  rw [okN_app]
  unfold okN at hx hy
  rw [Bool.and_eq_true] at hx hy
  rw [hx.2, hy.2]
  simp
theorem pr_app {X Y : Nm} (hx : X ≠ []) (hy : Y ≠ []) : pr (X ++ Y) = pr X ++ ⟨#[44]⟩ ++ pr Y := by
  refine ByteArray.ext (Array.ext' ?_)
  rw [E.data_app, E.data_app]
  show prL (X ++ Y) = prL X ++ [44] ++ prL Y
  rw [prL_app hx hy]
  simp
theorem pr_size {X : Nm} (h : okN X = true) : (pr X).size ≤ 4856 := by
  have := prL_len h
  rw [← pr_data, E.len_toList] at this
  exact this

set_option maxRecDepth 100000 in
set_option maxHeartbeats 800000 in
theorem walk (v0 : Value) (d0 : Nm) (v1 : Value) (d1 : Nm) (a : Ad) (w : World) (g : Glob a w) (h0 : Nml w v0 d0) (hG0 : Big d0) (h1 : Nml w v1 d1) (hG1 : Big d1) :
    Calls Tryz.prog 6 #[v0, v1] w fun e w' => e = .returned (.bool true) ∧ Below w.heap.size w w' := by
  obtain ⟨X, hXs, hXl, hC0⟩ := cut_ex d0 hG0
  obtain ⟨Y, hYs, hYl, hC1⟩ := cut_ex d1 hG1
  have HC0 := hide hC0
  have HC1 := hide hC1
  have HSh := hide (shown_true a w g)
  have Hg := hide g
  have N0 := hide h0
  have N1 := hide h1
  have B0 := hide (Below.refl w.heap.size w)
  have hAs : Sm (X ++ Y) := ⟨by rw [List.length_append]; omega, fun r hr => by
    rcases List.mem_append.1 hr with h | h
    · exact hXs.2 r h
    · exact hYs.2 r h⟩
  have PX := hide fun v W g h => print_any X v a W g h hXs
  have PY := hide fun v W g h => print_any Y v a W g h hYs
  have PA := hide fun v W g h => print_any (X ++ Y) v a W g h hAs
  clear hC0 hC1 g h0 h1 hG0 hG1 hXs hYs hAs
  cases kx : okN X
  · rw [pri_no kx] at PX
    rw [pri_no (app_no (.inl kx))] at PA
    dsimp only at PX PA
    generalize pri Y = py at *
    obtain ⟨sy, ey⟩ := py
    dsimp only at PY
    clear kx
    go_enter Tryz.func6, Tryz.ntmps6
    go_wp2_with fail
    first | with_reducible refine ((unhide HSh)).mono ?_ | refine ((unhide HSh)).mono ?_
    rintro e w1 ⟨rfl, hb⟩
    have B1 := hide (step (unhide B0) hb)
    replace N0 := hide ((unhide N0).below hb)
    replace N1 := hide ((unhide N1).below hb)
    clear hb B0
    clear HSh
    go_wp2_with fail
    refine ((unhide HC0) _ _ (unhide N0)).mono ?_
    rintro e w2 ⟨hb, vx, rfl, Ox⟩
    have B2 := hide (step (unhide B1) hb)
    replace N1 := hide ((unhide N1).below hb)
    clear hb B1
    replace Ox := hide Ox
    have Nx := hide (unhide Ox).nml
    clear HC0
    go_wp2_with fail
    refine ((unhide HC1) _ _ (unhide N1)).mono ?_
    rintro e w3 ⟨hb, vy, rfl, Oy⟩
    have B3 := hide (step (unhide B2) hb)
    replace Ox := hide ((unhide Ox).below hb)
    replace Nx := hide ((unhide Nx).below hb)
    clear hb B2
    replace Oy := hide Oy
    have Ny := hide (unhide Oy).nml
    clear HC1
    go_wp2_with fail
    first | with_reducible refine ((unhide PX) _ _ ((unhide Hg).below (Nat.le_refl _) (unhide B3)) (unhide Nx)).mono ?_ | refine ((unhide PX) _ _ ((unhide Hg).below (Nat.le_refl _) (unhide B3)) (unhide Nx)).mono ?_
    rintro e w4 ⟨rfl, hb⟩
    have B4 := hide (step (unhide B3) hb)
    replace Ox := hide ((unhide Ox).below hb)
    replace Nx := hide ((unhide Nx).below hb)
    replace Oy := hide ((unhide Oy).below hb)
    replace Ny := hide ((unhide Ny).below hb)
    clear hb B3
    clear PX
    go_wp2_with fail
    first | with_reducible refine ((unhide PY) _ _ ((unhide Hg).below (Nat.le_refl _) (unhide B4)) (unhide Ny)).mono ?_ | refine ((unhide PY) _ _ ((unhide Hg).below (Nat.le_refl _) (unhide B4)) (unhide Ny)).mono ?_
    rintro e w5 ⟨rfl, hb⟩
    have B5 := hide (step (unhide B4) hb)
    replace Ox := hide ((unhide Ox).below hb)
    replace Nx := hide ((unhide Nx).below hb)
    replace Oy := hide ((unhide Oy).below hb)
    replace Ny := hide ((unhide Ny).below hb)
    clear hb B4
    clear PY
    go_wp2_with (at_builtin; first
      | (refine wpList_app rfl (.tmp 28) (.tmp 29) rfl w5.heap.size (.slice none 0 0) 0 [] rfl (World.ownsRow_nil _ _ _ _) vx X rfl (unhide Ox) (by omega) (Nat.le_refl _) ?_; intro v1 V1 ux q1 q2 q3; have hq3 := q3; have OY := hide ((unhide Oy).below (⟨hq3.os, hq3.tape, hq3.output, hq3.size, fun k hk => hq3.block k hk (by simp [Value.ownBlock])⟩ : Below w5.heap.size w5 V1)); have Q1 := hide q1; have Q2 := hide q2; have Q3 := hide q3; have hz3 := hq3.size; clear q1 q2 q3 hq3)
      | (refine wpList_app rfl (.tmp 30) (.tmp 31) rfl w5.heap.size v1 (0 + X.length) ([] ++ ux) rfl (unhide Q2) vy Y rfl (unhide OY) (by omega) hz3 ?_; intro v2 V2 uy r1 r2 r3; obtain ⟨hb, Oa⟩ := all_of (unhide Q1) (unhide Q2) (unhide Q3) r1 r2 r3; clear r1 r2 r3 Q1 Q2 Q3 OY hz3))
    have B6 := hide (step (unhide B5) hb)
    replace Ox := hide ((unhide Ox).below hb)
    replace Nx := hide ((unhide Nx).below hb)
    replace Oy := hide ((unhide Oy).below hb)
    replace Ny := hide ((unhide Ny).below hb)
    have Na := hide Oa.nml
    clear hb B5 Oa Ox Oy
    first | with_reducible refine ((unhide PA) _ _ ((unhide Hg).below (Nat.le_refl _) (unhide B6)) (unhide Na)).mono ?_ | refine ((unhide PA) _ _ ((unhide Hg).below (Nat.le_refl _) (unhide B6)) (unhide Na)).mono ?_
    rintro e w7 ⟨rfl, hb⟩
    have B7 := hide (step (unhide B6) hb)
    replace Nx := hide ((unhide Nx).below hb)
    replace Ny := hide ((unhide Ny).below hb)
    replace Na := hide ((unhide Na).below hb)
    clear hb B6
    clear PA
    clear Nx Ny Na
    go_wp2
    go_ret
    exact ⟨rfl, unhide B7⟩
  · cases ky : okN Y
    · rw [pri_ok kx] at PX
      rw [pri_no ky] at PY
      rw [pri_no (app_no (.inr ky))] at PA
      dsimp only at PX PY PA
      generalize pr X = sx at *
      clear kx ky
      go_enter Tryz.func6, Tryz.ntmps6
      go_wp2_with fail
      first | with_reducible refine ((unhide HSh)).mono ?_ | refine ((unhide HSh)).mono ?_
      rintro e w1 ⟨rfl, hb⟩
      have B1 := hide (step (unhide B0) hb)
      replace N0 := hide ((unhide N0).below hb)
      replace N1 := hide ((unhide N1).below hb)
      clear hb B0
      clear HSh
      go_wp2_with fail
      refine ((unhide HC0) _ _ (unhide N0)).mono ?_
      rintro e w2 ⟨hb, vx, rfl, Ox⟩
      have B2 := hide (step (unhide B1) hb)
      replace N1 := hide ((unhide N1).below hb)
      clear hb B1
      replace Ox := hide Ox
      have Nx := hide (unhide Ox).nml
      clear HC0
      go_wp2_with fail
      refine ((unhide HC1) _ _ (unhide N1)).mono ?_
      rintro e w3 ⟨hb, vy, rfl, Oy⟩
      have B3 := hide (step (unhide B2) hb)
      replace Ox := hide ((unhide Ox).below hb)
      replace Nx := hide ((unhide Nx).below hb)
      clear hb B2
      replace Oy := hide Oy
      have Ny := hide (unhide Oy).nml
      clear HC1
      go_wp2_with fail
      first | with_reducible refine ((unhide PX) _ _ ((unhide Hg).below (Nat.le_refl _) (unhide B3)) (unhide Nx)).mono ?_ | refine ((unhide PX) _ _ ((unhide Hg).below (Nat.le_refl _) (unhide B3)) (unhide Nx)).mono ?_
      rintro e w4 ⟨rfl, hb⟩
      have B4 := hide (step (unhide B3) hb)
      replace Ox := hide ((unhide Ox).below hb)
      replace Nx := hide ((unhide Nx).below hb)
      replace Oy := hide ((unhide Oy).below hb)
      replace Ny := hide ((unhide Ny).below hb)
      clear hb B3
      clear PX
      go_wp2_with fail
      first | with_reducible refine ((unhide PY) _ _ ((unhide Hg).below (Nat.le_refl _) (unhide B4)) (unhide Ny)).mono ?_ | refine ((unhide PY) _ _ ((unhide Hg).below (Nat.le_refl _) (unhide B4)) (unhide Ny)).mono ?_
      rintro e w5 ⟨rfl, hb⟩
      have B5 := hide (step (unhide B4) hb)
      replace Ox := hide ((unhide Ox).below hb)
      replace Nx := hide ((unhide Nx).below hb)
      replace Oy := hide ((unhide Oy).below hb)
      replace Ny := hide ((unhide Ny).below hb)
      clear hb B4
      clear PY
      go_wp2_with (at_builtin; first
        | (refine wpList_app rfl (.tmp 28) (.tmp 29) rfl w5.heap.size (.slice none 0 0) 0 [] rfl (World.ownsRow_nil _ _ _ _) vx X rfl (unhide Ox) (by omega) (Nat.le_refl _) ?_; intro v1 V1 ux q1 q2 q3; have hq3 := q3; have OY := hide ((unhide Oy).below (⟨hq3.os, hq3.tape, hq3.output, hq3.size, fun k hk => hq3.block k hk (by simp [Value.ownBlock])⟩ : Below w5.heap.size w5 V1)); have Q1 := hide q1; have Q2 := hide q2; have Q3 := hide q3; have hz3 := hq3.size; clear q1 q2 q3 hq3)
        | (refine wpList_app rfl (.tmp 30) (.tmp 31) rfl w5.heap.size v1 (0 + X.length) ([] ++ ux) rfl (unhide Q2) vy Y rfl (unhide OY) (by omega) hz3 ?_; intro v2 V2 uy r1 r2 r3; obtain ⟨hb, Oa⟩ := all_of (unhide Q1) (unhide Q2) (unhide Q3) r1 r2 r3; clear r1 r2 r3 Q1 Q2 Q3 OY hz3))
      have B6 := hide (step (unhide B5) hb)
      replace Ox := hide ((unhide Ox).below hb)
      replace Nx := hide ((unhide Nx).below hb)
      replace Oy := hide ((unhide Oy).below hb)
      replace Ny := hide ((unhide Ny).below hb)
      have Na := hide Oa.nml
      clear hb B5 Oa Ox Oy
      first | with_reducible refine ((unhide PA) _ _ ((unhide Hg).below (Nat.le_refl _) (unhide B6)) (unhide Na)).mono ?_ | refine ((unhide PA) _ _ ((unhide Hg).below (Nat.le_refl _) (unhide B6)) (unhide Na)).mono ?_
      rintro e w7 ⟨rfl, hb⟩
      have B7 := hide (step (unhide B6) hb)
      replace Nx := hide ((unhide Nx).below hb)
      replace Ny := hide ((unhide Ny).below hb)
      replace Na := hide ((unhide Na).below hb)
      clear hb B6
      clear PA
      clear Nx Ny Na
      go_wp2
      go_ret
      exact ⟨rfl, unhide B7⟩
    · rw [pri_ok kx] at PX
      rw [pri_ok ky] at PY
      dsimp only at PX PY
      have hzx := pr_size kx
      have hzy := pr_size ky
      by_cases hX0 : X = []
      · have hpa : pri (X ++ Y) = (pr Y, 0) := by rw [hX0, List.nil_append, pri_ok ky]
        have hpn : pr X = ⟨#[]⟩ := by rw [hX0]; rfl
        rw [hpa] at PA
        rw [hpn] at PX
        dsimp only at PA
        generalize pr Y = sy at *
        have hsz : sy.size ≤ 9223372036854775807 := by omega
        have hap : (⟨#[]⟩ : ByteArray) ++ sy = sy := by refine ByteArray.ext (Array.ext' ?_); rw [E.data_app]; rfl
        have HX := hide (show (X.length : Int) = 0 by rw [hX0]; rfl)
        clear kx ky hzx hzy hpn hX0 hpa
        go_enter Tryz.func6, Tryz.ntmps6
        go_wp2_with fail
        first | with_reducible refine ((unhide HSh)).mono ?_ | refine ((unhide HSh)).mono ?_
        rintro e w1 ⟨rfl, hb⟩
        have B1 := hide (step (unhide B0) hb)
        replace N0 := hide ((unhide N0).below hb)
        replace N1 := hide ((unhide N1).below hb)
        clear hb B0
        clear HSh
        go_wp2_with fail
        refine ((unhide HC0) _ _ (unhide N0)).mono ?_
        rintro e w2 ⟨hb, vx, rfl, Ox⟩
        have B2 := hide (step (unhide B1) hb)
        replace N1 := hide ((unhide N1).below hb)
        clear hb B1
        replace Ox := hide Ox
        have Nx := hide (unhide Ox).nml
        clear HC0
        go_wp2_with fail
        refine ((unhide HC1) _ _ (unhide N1)).mono ?_
        rintro e w3 ⟨hb, vy, rfl, Oy⟩
        have B3 := hide (step (unhide B2) hb)
        replace Ox := hide ((unhide Ox).below hb)
        replace Nx := hide ((unhide Nx).below hb)
        clear hb B2
        replace Oy := hide Oy
        have Ny := hide (unhide Oy).nml
        clear HC1
        go_wp2_with fail
        first | with_reducible refine ((unhide PX) _ _ ((unhide Hg).below (Nat.le_refl _) (unhide B3)) (unhide Nx)).mono ?_ | refine ((unhide PX) _ _ ((unhide Hg).below (Nat.le_refl _) (unhide B3)) (unhide Nx)).mono ?_
        rintro e w4 ⟨rfl, hb⟩
        have B4 := hide (step (unhide B3) hb)
        replace Ox := hide ((unhide Ox).below hb)
        replace Nx := hide ((unhide Nx).below hb)
        replace Oy := hide ((unhide Oy).below hb)
        replace Ny := hide ((unhide Ny).below hb)
        clear hb B3
        clear PX
        go_wp2_with fail
        first | with_reducible refine ((unhide PY) _ _ ((unhide Hg).below (Nat.le_refl _) (unhide B4)) (unhide Ny)).mono ?_ | refine ((unhide PY) _ _ ((unhide Hg).below (Nat.le_refl _) (unhide B4)) (unhide Ny)).mono ?_
        rintro e w5 ⟨rfl, hb⟩
        have B5 := hide (step (unhide B4) hb)
        replace Ox := hide ((unhide Ox).below hb)
        replace Nx := hide ((unhide Nx).below hb)
        replace Oy := hide ((unhide Oy).below hb)
        replace Ny := hide ((unhide Ny).below hb)
        clear hb B4
        clear PY
        go_wp2_with (at_builtin; first
          | (refine wpList_app rfl (.tmp 28) (.tmp 29) rfl w5.heap.size (.slice none 0 0) 0 [] rfl (World.ownsRow_nil _ _ _ _) vx X rfl (unhide Ox) (by omega) (Nat.le_refl _) ?_; intro v1 V1 ux q1 q2 q3; have hq3 := q3; have OY := hide ((unhide Oy).below (⟨hq3.os, hq3.tape, hq3.output, hq3.size, fun k hk => hq3.block k hk (by simp [Value.ownBlock])⟩ : Below w5.heap.size w5 V1)); have Q1 := hide q1; have Q2 := hide q2; have Q3 := hide q3; have hz3 := hq3.size; clear q1 q2 q3 hq3)
          | (refine wpList_app rfl (.tmp 30) (.tmp 31) rfl w5.heap.size v1 (0 + X.length) ([] ++ ux) rfl (unhide Q2) vy Y rfl (unhide OY) (by omega) hz3 ?_; intro v2 V2 uy r1 r2 r3; obtain ⟨hb, Oa⟩ := all_of (unhide Q1) (unhide Q2) (unhide Q3) r1 r2 r3; clear r1 r2 r3 Q1 Q2 Q3 OY hz3))
        have B6 := hide (step (unhide B5) hb)
        replace Ox := hide ((unhide Ox).below hb)
        replace Nx := hide ((unhide Nx).below hb)
        replace Oy := hide ((unhide Oy).below hb)
        replace Ny := hide ((unhide Ny).below hb)
        have Na := hide Oa.nml
        clear hb B5 Oa Ox Oy
        first | with_reducible refine ((unhide PA) _ _ ((unhide Hg).below (Nat.le_refl _) (unhide B6)) (unhide Na)).mono ?_ | refine ((unhide PA) _ _ ((unhide Hg).below (Nat.le_refl _) (unhide B6)) (unhide Na)).mono ?_
        rintro e w7 ⟨rfl, hb⟩
        have B7 := hide (step (unhide B6) hb)
        replace Nx := hide ((unhide Nx).below hb)
        replace Ny := hide ((unhide Ny).below hb)
        replace Na := hide ((unhide Na).below hb)
        clear hb B6
        clear PA
        obtain ⟨ax, cx, rfl, _, _⟩ := (unhide Nx)
        obtain ⟨ay, cy, rfl, _, _⟩ := (unhide Ny)
        obtain ⟨aa, ca, rfl, _, _⟩ := (unhide Na)
        clear Nx Ny Na
        have hx0 := unhide HX
        go_wp2
        go_ret
        exact ⟨rfl, unhide B7⟩
      · by_cases hY0 : Y = []
        · have hpa : pri (X ++ Y) = (pr X, 0) := by rw [hY0, List.append_nil, pri_ok kx]
          have hpn : pr Y = ⟨#[]⟩ := by rw [hY0]; rfl
          rw [hpa] at PA
          rw [hpn] at PY
          dsimp only at PA
          generalize pr X = sx at *
          have hsz : sx.size ≤ 9223372036854775807 := by omega
          have hap : sx ++ (⟨#[]⟩ : ByteArray) = sx := by refine ByteArray.ext (Array.ext' ?_); rw [E.data_app]; simp
          have HX := hide (show ((X.length : Int) == 0) = false by rw [beq_eq_false_iff_ne]; have := List.length_pos_iff.2 hX0; omega)
          have HY := hide (show (Y.length : Int) = 0 by rw [hY0]; rfl)
          clear kx ky hzx hzy hpn hX0 hpa hY0
          go_enter Tryz.func6, Tryz.ntmps6
          go_wp2_with fail
          first | with_reducible refine ((unhide HSh)).mono ?_ | refine ((unhide HSh)).mono ?_
          rintro e w1 ⟨rfl, hb⟩
          have B1 := hide (step (unhide B0) hb)
          replace N0 := hide ((unhide N0).below hb)
          replace N1 := hide ((unhide N1).below hb)
          clear hb B0
          clear HSh
          go_wp2_with fail
          refine ((unhide HC0) _ _ (unhide N0)).mono ?_
          rintro e w2 ⟨hb, vx, rfl, Ox⟩
          have B2 := hide (step (unhide B1) hb)
          replace N1 := hide ((unhide N1).below hb)
          clear hb B1
          replace Ox := hide Ox
          have Nx := hide (unhide Ox).nml
          clear HC0
          go_wp2_with fail
          refine ((unhide HC1) _ _ (unhide N1)).mono ?_
          rintro e w3 ⟨hb, vy, rfl, Oy⟩
          have B3 := hide (step (unhide B2) hb)
          replace Ox := hide ((unhide Ox).below hb)
          replace Nx := hide ((unhide Nx).below hb)
          clear hb B2
          replace Oy := hide Oy
          have Ny := hide (unhide Oy).nml
          clear HC1
          go_wp2_with fail
          first | with_reducible refine ((unhide PX) _ _ ((unhide Hg).below (Nat.le_refl _) (unhide B3)) (unhide Nx)).mono ?_ | refine ((unhide PX) _ _ ((unhide Hg).below (Nat.le_refl _) (unhide B3)) (unhide Nx)).mono ?_
          rintro e w4 ⟨rfl, hb⟩
          have B4 := hide (step (unhide B3) hb)
          replace Ox := hide ((unhide Ox).below hb)
          replace Nx := hide ((unhide Nx).below hb)
          replace Oy := hide ((unhide Oy).below hb)
          replace Ny := hide ((unhide Ny).below hb)
          clear hb B3
          clear PX
          go_wp2_with fail
          first | with_reducible refine ((unhide PY) _ _ ((unhide Hg).below (Nat.le_refl _) (unhide B4)) (unhide Ny)).mono ?_ | refine ((unhide PY) _ _ ((unhide Hg).below (Nat.le_refl _) (unhide B4)) (unhide Ny)).mono ?_
          rintro e w5 ⟨rfl, hb⟩
          have B5 := hide (step (unhide B4) hb)
          replace Ox := hide ((unhide Ox).below hb)
          replace Nx := hide ((unhide Nx).below hb)
          replace Oy := hide ((unhide Oy).below hb)
          replace Ny := hide ((unhide Ny).below hb)
          clear hb B4
          clear PY
          go_wp2_with (at_builtin; first
            | (refine wpList_app rfl (.tmp 28) (.tmp 29) rfl w5.heap.size (.slice none 0 0) 0 [] rfl (World.ownsRow_nil _ _ _ _) vx X rfl (unhide Ox) (by omega) (Nat.le_refl _) ?_; intro v1 V1 ux q1 q2 q3; have hq3 := q3; have OY := hide ((unhide Oy).below (⟨hq3.os, hq3.tape, hq3.output, hq3.size, fun k hk => hq3.block k hk (by simp [Value.ownBlock])⟩ : Below w5.heap.size w5 V1)); have Q1 := hide q1; have Q2 := hide q2; have Q3 := hide q3; have hz3 := hq3.size; clear q1 q2 q3 hq3)
            | (refine wpList_app rfl (.tmp 30) (.tmp 31) rfl w5.heap.size v1 (0 + X.length) ([] ++ ux) rfl (unhide Q2) vy Y rfl (unhide OY) (by omega) hz3 ?_; intro v2 V2 uy r1 r2 r3; obtain ⟨hb, Oa⟩ := all_of (unhide Q1) (unhide Q2) (unhide Q3) r1 r2 r3; clear r1 r2 r3 Q1 Q2 Q3 OY hz3))
          have B6 := hide (step (unhide B5) hb)
          replace Ox := hide ((unhide Ox).below hb)
          replace Nx := hide ((unhide Nx).below hb)
          replace Oy := hide ((unhide Oy).below hb)
          replace Ny := hide ((unhide Ny).below hb)
          have Na := hide Oa.nml
          clear hb B5 Oa Ox Oy
          first | with_reducible refine ((unhide PA) _ _ ((unhide Hg).below (Nat.le_refl _) (unhide B6)) (unhide Na)).mono ?_ | refine ((unhide PA) _ _ ((unhide Hg).below (Nat.le_refl _) (unhide B6)) (unhide Na)).mono ?_
          rintro e w7 ⟨rfl, hb⟩
          have B7 := hide (step (unhide B6) hb)
          replace Nx := hide ((unhide Nx).below hb)
          replace Ny := hide ((unhide Ny).below hb)
          replace Na := hide ((unhide Na).below hb)
          clear hb B6
          clear PA
          obtain ⟨ax, cx, rfl, _, _⟩ := (unhide Nx)
          obtain ⟨ay, cy, rfl, _, _⟩ := (unhide Ny)
          obtain ⟨aa, ca, rfl, _, _⟩ := (unhide Na)
          clear Nx Ny Na
          have hx0 := unhide HX
          have hy0 := unhide HY
          go_wp2
          go_ret
          exact ⟨rfl, unhide B7⟩
        · have hA := app_ok kx ky
          have hxl : ((X.length : Int) == 0) = false := by rw [beq_eq_false_iff_ne]; have := List.length_pos_iff.2 hX0; omega
          have hyl : ((Y.length : Int) == 0) = false := by rw [beq_eq_false_iff_ne]; have := List.length_pos_iff.2 hY0; omega
          have hpa := pr_app hX0 hY0
          by_cases h8 : X.length + Y.length ≤ 8
          · have h8' : (X.length : Int) + Y.length ≤ 8 := by omega
            have hAk : okN (X ++ Y) = true := by rw [hA, decide_eq_true (by rw [List.length_append]; exact h8)]
            rw [pri_ok hAk, hpa] at PA
            dsimp only at PA
            generalize pr X = sx at *
            generalize pr Y = sy at *
            have hs1 : sx.size ≤ 9223372036854775806 := by omega
            have hs2 : sx.size + 1 + sy.size ≤ 9223372036854775807 := by omega
            clear kx ky hzx hzy hX0 hY0 hA hAk hpa
            go_enter Tryz.func6, Tryz.ntmps6
            go_wp2_with fail
            first | with_reducible refine ((unhide HSh)).mono ?_ | refine ((unhide HSh)).mono ?_
            rintro e w1 ⟨rfl, hb⟩
            have B1 := hide (step (unhide B0) hb)
            replace N0 := hide ((unhide N0).below hb)
            replace N1 := hide ((unhide N1).below hb)
            clear hb B0
            clear HSh
            go_wp2_with fail
            refine ((unhide HC0) _ _ (unhide N0)).mono ?_
            rintro e w2 ⟨hb, vx, rfl, Ox⟩
            have B2 := hide (step (unhide B1) hb)
            replace N1 := hide ((unhide N1).below hb)
            clear hb B1
            replace Ox := hide Ox
            have Nx := hide (unhide Ox).nml
            clear HC0
            go_wp2_with fail
            refine ((unhide HC1) _ _ (unhide N1)).mono ?_
            rintro e w3 ⟨hb, vy, rfl, Oy⟩
            have B3 := hide (step (unhide B2) hb)
            replace Ox := hide ((unhide Ox).below hb)
            replace Nx := hide ((unhide Nx).below hb)
            clear hb B2
            replace Oy := hide Oy
            have Ny := hide (unhide Oy).nml
            clear HC1
            go_wp2_with fail
            first | with_reducible refine ((unhide PX) _ _ ((unhide Hg).below (Nat.le_refl _) (unhide B3)) (unhide Nx)).mono ?_ | refine ((unhide PX) _ _ ((unhide Hg).below (Nat.le_refl _) (unhide B3)) (unhide Nx)).mono ?_
            rintro e w4 ⟨rfl, hb⟩
            have B4 := hide (step (unhide B3) hb)
            replace Ox := hide ((unhide Ox).below hb)
            replace Nx := hide ((unhide Nx).below hb)
            replace Oy := hide ((unhide Oy).below hb)
            replace Ny := hide ((unhide Ny).below hb)
            clear hb B3
            clear PX
            go_wp2_with fail
            first | with_reducible refine ((unhide PY) _ _ ((unhide Hg).below (Nat.le_refl _) (unhide B4)) (unhide Ny)).mono ?_ | refine ((unhide PY) _ _ ((unhide Hg).below (Nat.le_refl _) (unhide B4)) (unhide Ny)).mono ?_
            rintro e w5 ⟨rfl, hb⟩
            have B5 := hide (step (unhide B4) hb)
            replace Ox := hide ((unhide Ox).below hb)
            replace Nx := hide ((unhide Nx).below hb)
            replace Oy := hide ((unhide Oy).below hb)
            replace Ny := hide ((unhide Ny).below hb)
            clear hb B4
            clear PY
            go_wp2_with (at_builtin; first
              | (refine wpList_app rfl (.tmp 28) (.tmp 29) rfl w5.heap.size (.slice none 0 0) 0 [] rfl (World.ownsRow_nil _ _ _ _) vx X rfl (unhide Ox) (by omega) (Nat.le_refl _) ?_; intro v1 V1 ux q1 q2 q3; have hq3 := q3; have OY := hide ((unhide Oy).below (⟨hq3.os, hq3.tape, hq3.output, hq3.size, fun k hk => hq3.block k hk (by simp [Value.ownBlock])⟩ : Below w5.heap.size w5 V1)); have Q1 := hide q1; have Q2 := hide q2; have Q3 := hide q3; have hz3 := hq3.size; clear q1 q2 q3 hq3)
              | (refine wpList_app rfl (.tmp 30) (.tmp 31) rfl w5.heap.size v1 (0 + X.length) ([] ++ ux) rfl (unhide Q2) vy Y rfl (unhide OY) (by omega) hz3 ?_; intro v2 V2 uy r1 r2 r3; obtain ⟨hb, Oa⟩ := all_of (unhide Q1) (unhide Q2) (unhide Q3) r1 r2 r3; clear r1 r2 r3 Q1 Q2 Q3 OY hz3))
            have B6 := hide (step (unhide B5) hb)
            replace Ox := hide ((unhide Ox).below hb)
            replace Nx := hide ((unhide Nx).below hb)
            replace Oy := hide ((unhide Oy).below hb)
            replace Ny := hide ((unhide Ny).below hb)
            have Na := hide Oa.nml
            clear hb B5 Oa Ox Oy
            first | with_reducible refine ((unhide PA) _ _ ((unhide Hg).below (Nat.le_refl _) (unhide B6)) (unhide Na)).mono ?_ | refine ((unhide PA) _ _ ((unhide Hg).below (Nat.le_refl _) (unhide B6)) (unhide Na)).mono ?_
            rintro e w7 ⟨rfl, hb⟩
            have B7 := hide (step (unhide B6) hb)
            replace Nx := hide ((unhide Nx).below hb)
            replace Ny := hide ((unhide Ny).below hb)
            replace Na := hide ((unhide Na).below hb)
            clear hb B6
            clear PA
            obtain ⟨ax, cx, rfl, _, _⟩ := (unhide Nx)
            obtain ⟨ay, cy, rfl, _, _⟩ := (unhide Ny)
            obtain ⟨aa, ca, rfl, _, _⟩ := (unhide Na)
            clear Nx Ny Na
            go_wp2
            go_ret
            exact ⟨rfl, unhide B7⟩
          · have H8 := hide (show (8 : Int) < (X.length : Int) + Y.length by omega)
            have hAk : okN (X ++ Y) = false := by rw [hA, decide_eq_false (by rw [List.length_append]; exact h8)]
            rw [pri_no hAk] at PA
            dsimp only at PA
            generalize pr X = sx at *
            generalize pr Y = sy at *
            clear kx ky hzx hzy hX0 hY0 hA hAk hpa
            go_enter Tryz.func6, Tryz.ntmps6
            go_wp2_with fail
            first | with_reducible refine ((unhide HSh)).mono ?_ | refine ((unhide HSh)).mono ?_
            rintro e w1 ⟨rfl, hb⟩
            have B1 := hide (step (unhide B0) hb)
            replace N0 := hide ((unhide N0).below hb)
            replace N1 := hide ((unhide N1).below hb)
            clear hb B0
            clear HSh
            go_wp2_with fail
            refine ((unhide HC0) _ _ (unhide N0)).mono ?_
            rintro e w2 ⟨hb, vx, rfl, Ox⟩
            have B2 := hide (step (unhide B1) hb)
            replace N1 := hide ((unhide N1).below hb)
            clear hb B1
            replace Ox := hide Ox
            have Nx := hide (unhide Ox).nml
            clear HC0
            go_wp2_with fail
            refine ((unhide HC1) _ _ (unhide N1)).mono ?_
            rintro e w3 ⟨hb, vy, rfl, Oy⟩
            have B3 := hide (step (unhide B2) hb)
            replace Ox := hide ((unhide Ox).below hb)
            replace Nx := hide ((unhide Nx).below hb)
            clear hb B2
            replace Oy := hide Oy
            have Ny := hide (unhide Oy).nml
            clear HC1
            go_wp2_with fail
            first | with_reducible refine ((unhide PX) _ _ ((unhide Hg).below (Nat.le_refl _) (unhide B3)) (unhide Nx)).mono ?_ | refine ((unhide PX) _ _ ((unhide Hg).below (Nat.le_refl _) (unhide B3)) (unhide Nx)).mono ?_
            rintro e w4 ⟨rfl, hb⟩
            have B4 := hide (step (unhide B3) hb)
            replace Ox := hide ((unhide Ox).below hb)
            replace Nx := hide ((unhide Nx).below hb)
            replace Oy := hide ((unhide Oy).below hb)
            replace Ny := hide ((unhide Ny).below hb)
            clear hb B3
            clear PX
            go_wp2_with fail
            first | with_reducible refine ((unhide PY) _ _ ((unhide Hg).below (Nat.le_refl _) (unhide B4)) (unhide Ny)).mono ?_ | refine ((unhide PY) _ _ ((unhide Hg).below (Nat.le_refl _) (unhide B4)) (unhide Ny)).mono ?_
            rintro e w5 ⟨rfl, hb⟩
            have B5 := hide (step (unhide B4) hb)
            replace Ox := hide ((unhide Ox).below hb)
            replace Nx := hide ((unhide Nx).below hb)
            replace Oy := hide ((unhide Oy).below hb)
            replace Ny := hide ((unhide Ny).below hb)
            clear hb B4
            clear PY
            go_wp2_with (at_builtin; first
              | (refine wpList_app rfl (.tmp 28) (.tmp 29) rfl w5.heap.size (.slice none 0 0) 0 [] rfl (World.ownsRow_nil _ _ _ _) vx X rfl (unhide Ox) (by omega) (Nat.le_refl _) ?_; intro v1 V1 ux q1 q2 q3; have hq3 := q3; have OY := hide ((unhide Oy).below (⟨hq3.os, hq3.tape, hq3.output, hq3.size, fun k hk => hq3.block k hk (by simp [Value.ownBlock])⟩ : Below w5.heap.size w5 V1)); have Q1 := hide q1; have Q2 := hide q2; have Q3 := hide q3; have hz3 := hq3.size; clear q1 q2 q3 hq3)
              | (refine wpList_app rfl (.tmp 30) (.tmp 31) rfl w5.heap.size v1 (0 + X.length) ([] ++ ux) rfl (unhide Q2) vy Y rfl (unhide OY) (by omega) hz3 ?_; intro v2 V2 uy r1 r2 r3; obtain ⟨hb, Oa⟩ := all_of (unhide Q1) (unhide Q2) (unhide Q3) r1 r2 r3; clear r1 r2 r3 Q1 Q2 Q3 OY hz3))
            have B6 := hide (step (unhide B5) hb)
            replace Ox := hide ((unhide Ox).below hb)
            replace Nx := hide ((unhide Nx).below hb)
            replace Oy := hide ((unhide Oy).below hb)
            replace Ny := hide ((unhide Ny).below hb)
            have Na := hide Oa.nml
            clear hb B5 Oa Ox Oy
            first | with_reducible refine ((unhide PA) _ _ ((unhide Hg).below (Nat.le_refl _) (unhide B6)) (unhide Na)).mono ?_ | refine ((unhide PA) _ _ ((unhide Hg).below (Nat.le_refl _) (unhide B6)) (unhide Na)).mono ?_
            rintro e w7 ⟨rfl, hb⟩
            have B7 := hide (step (unhide B6) hb)
            replace Nx := hide ((unhide Nx).below hb)
            replace Ny := hide ((unhide Ny).below hb)
            replace Na := hide ((unhide Na).below hb)
            clear hb B6
            clear PA
            obtain ⟨ax, cx, rfl, _, _⟩ := (unhide Nx)
            obtain ⟨ay, cy, rfl, _, _⟩ := (unhide Ny)
            obtain ⟨aa, ca, rfl, _, _⟩ := (unhide Na)
            clear Nx Ny Na
            have h8x := unhide H8
            go_wp2
            go_ret
            exact ⟨by simp; omega, unhide B7⟩


set_option maxRecDepth 100000 in
/-- What the walk gives, for every argument. -/
theorem contract (H : Type) (enc : TypeId × Value → H) (W : World) (base : Nat) (args : Array Value) (ds gs : List (DataW H)) (before : List MemPlace)
    (hval : ∀ (j : Nat) t v, Tryz.f6.params[j]? = some t → args[j]? = some v → Value.okWide Tryz.prog W .any base t v)
    (hW : DataW.Whole enc Tryz.prog Tryz.f6.params.toList Rows.dnJoinsSpec.vars false W args.toList ds gs before) (hL : laidMetH Tryz.prog Rows.dnJoinsRow.laid W) :
    Calls Tryz.prog 6 args W fun e W' => ∃ v, e = .returned v ∧ Rows.dnJoinsSpec.post enc Tryz.prog Tryz.f6 false true false false W args v W' := by
  obtain ⟨a, g⟩ := glob_of_laid hL
  have hW' := hW
  obtain ⟨p, q, hA0, hV, rfl, hfz, hnd⟩ := hW
  have hA : DataW.TrodAll enc Tryz.prog W 0 (fun _ => true) true Tryz.f6.params.toList args.toList ds p := hA0
  rw [Tryz.params6] at hA hval
  obtain ⟨v0, vs0, d0, ds0, p0, q0, hargs0, rfl, rfl, h0, r0⟩ := trodAll_cons hA
  obtain ⟨v1, vs1, d1, ds1, p1, q1, hargs1, rfl, rfl, h1, r1⟩ := trodAll_cons r0
  obtain ⟨rfl, rfl, rfl⟩ := trodAll_nil r1
  obtain rfl : args = #[v0, v1] := by cases args; simp_all
  obtain ⟨rfl, rfl⟩ := trodVars_none hV
  obtain ⟨a0, n0, c0, rfl⟩ := okWide_slice Tryz.underlying22 (hval 0 22 v0 rfl rfl)
  have hk0 := h0
  obtain ⟨fu0, hf0⟩ := h0
  obtain ⟨l0, hL0, hG0⟩ := open_name (fuel := fu0) hf0
  have hlt0 := DataW.trod_lt _ _ _ _ hf0
  obtain ⟨a1, n1, c1, rfl⟩ := okWide_slice Tryz.underlying22 (hval 1 22 v1 rfl rfl)
  have hk1 := h1
  obtain ⟨fu1, hf1⟩ := h1
  obtain ⟨l1, hL1, hG1⟩ := open_name (fuel := fu1) hf1
  have hlt1 := DataW.trod_lt _ _ _ _ hf1
  clear hA0
  simp only [List.append_nil] at hW'
  refine (walk (.slice a0 n0 c0) l0 (.slice a1 n1 c1) l1 a W g hL0 hG0 hL1 hG1).mono fun e W' ⟨he, hg⟩ => ?_
  subst he
  refine ⟨_, rfl, _, _, _, [], (p0 ++ (p1 ++ [])), [], hW', ?_, ?_, ?_, hg.frame _, fun h => by cases h⟩
  · exact trodAll_cons_mk (shut_bool Tryz.underlying4 _) trodAll_mk0
  · exact trodAll_cons_mk (Below.trod (by kernel_rfl) (by kernel_rfl) (of_decide_eq_true (by kernel_rfl)) hk0 hg hlt0) (trodAll_cons_mk (Below.trod (by kernel_rfl) (by kernel_rfl) (of_decide_eq_true (by kernel_rfl)) hk1 hg hlt1) (trodAll_mk0))
  · rfl

theorem reads (os : Os) {H : Type} (enc : TypeId × Value → H) : ∃ places, DataW.whole enc Tryz.prog (({ World.holding Tryz.prog os ⟨#[.cells #[.string sentS0] 237, .cells #[.string sentS1] 237, .cells #[.string sentS2] 237, .cells #[.string sentS3] 237, .cells #[.string sentS4] 237, .cells #[.string sentS5] 237, .cells #[.string sentS6] 237, .cells #[.string sentS7] 237, .cells #[.string sentS8] 237, .cells #[.string sentS9] 237], #[], []⟩ with heap := (((((((((((World.holding Tryz.prog os ⟨#[.cells #[.string sentS0] 237, .cells #[.string sentS1] 237, .cells #[.string sentS2] 237, .cells #[.string sentS3] 237, .cells #[.string sentS4] 237, .cells #[.string sentS5] 237, .cells #[.string sentS6] 237, .cells #[.string sentS7] 237, .cells #[.string sentS8] 237, .cells #[.string sentS9] 237], #[], []⟩).heap.modify 10 fun | .cells _ t frozen => .cells #[.iface 219 (.pointer (some ⟨(World.holding Tryz.prog default ⟨#[], #[], []⟩).heap.size + 0, 0, none⟩))] t frozen | o => o).modify 9 fun | .cells _ t frozen => .cells #[.iface 219 (.pointer (some ⟨(World.holding Tryz.prog default ⟨#[], #[], []⟩).heap.size + 1, 0, none⟩))] t frozen | o => o).modify 11 fun | .cells _ t frozen => .cells #[.iface 219 (.pointer (some ⟨(World.holding Tryz.prog default ⟨#[], #[], []⟩).heap.size + 2, 0, none⟩))] t frozen | o => o).modify 8 fun | .cells _ t frozen => .cells #[.iface 219 (.pointer (some ⟨(World.holding Tryz.prog default ⟨#[], #[], []⟩).heap.size + 3, 0, none⟩))] t frozen | o => o).modify 6 fun | .cells _ t frozen => .cells #[.iface 219 (.pointer (some ⟨(World.holding Tryz.prog default ⟨#[], #[], []⟩).heap.size + 4, 0, none⟩))] t frozen | o => o).modify 7 fun | .cells _ t frozen => .cells #[.iface 219 (.pointer (some ⟨(World.holding Tryz.prog default ⟨#[], #[], []⟩).heap.size + 5, 0, none⟩))] t frozen | o => o).modify 0 fun | .cells _ t frozen => .cells #[.iface 219 (.pointer (some ⟨(World.holding Tryz.prog default ⟨#[], #[], []⟩).heap.size + 6, 0, none⟩))] t frozen | o => o).modify 1 fun | .cells _ t frozen => .cells #[.iface 219 (.pointer (some ⟨(World.holding Tryz.prog default ⟨#[], #[], []⟩).heap.size + 7, 0, none⟩))] t frozen | o => o).modify 2 fun | .cells _ t frozen => .cells #[.iface 219 (.pointer (some ⟨(World.holding Tryz.prog default ⟨#[], #[], []⟩).heap.size + 8, 0, none⟩))] t frozen | o => o).modify 3 fun | .cells _ t frozen => .cells #[.iface 219 (.pointer (some ⟨(World.holding Tryz.prog default ⟨#[], #[], []⟩).heap.size + 9, 0, none⟩))] t frozen | o => o).modify 4 fun | .cells _ t frozen => .cells #[.iface 135 (.agg #[.pointer (some ⟨12, 45, none⟩)])] t frozen | o => o } : World).forCall (fun _ _ => 0) ⟨#[], #[.slice none 0 0, .slice none 0 0], []⟩).memory Tryz.f6.params.toList Rows.dnJoinsSpec.vars false #[Value.slice none 0 0, Value.slice none 0 0].toList 8 = some ([.nil, .nil], [], places) :=
  ⟨[], by kernel_rfl⟩

set_option maxRecDepth 100000 in
theorem lifted (os : Os) (started : os.Started) (H : Type) (enc : TypeId × Value → H) (F : Stop.Interp) :
    ReturnsInHanded {} Tryz.checked os 6 .any ((OpenSpec.ofChange Rows.dnJoinsSpec).preRow enc Tryz.prog Tryz.f6 Rows.dnJoinsRow.domain false Rows.dnJoinsRow.laid) (((OpenSpec.ofChange Rows.dnJoinsSpec).at F).post enc Tryz.prog Tryz.f6 false true false false) := by
  obtain ⟨places, hx⟩ := reads os enc
  refine returnsInHanded_of_row (C := Tryz.checked) (s := OpenSpec.ofChange Rows.dnJoinsSpec) own started (by kernel_rfl) Tryz.func6
    (witness_row_at (enc := enc) (C := Tryz.checked) false ({ World.holding Tryz.prog os ⟨#[.cells #[.string sentS0] 237, .cells #[.string sentS1] 237, .cells #[.string sentS2] 237, .cells #[.string sentS3] 237, .cells #[.string sentS4] 237, .cells #[.string sentS5] 237, .cells #[.string sentS6] 237, .cells #[.string sentS7] 237, .cells #[.string sentS8] 237, .cells #[.string sentS9] 237], #[], []⟩ with heap := (((((((((((World.holding Tryz.prog os ⟨#[.cells #[.string sentS0] 237, .cells #[.string sentS1] 237, .cells #[.string sentS2] 237, .cells #[.string sentS3] 237, .cells #[.string sentS4] 237, .cells #[.string sentS5] 237, .cells #[.string sentS6] 237, .cells #[.string sentS7] 237, .cells #[.string sentS8] 237, .cells #[.string sentS9] 237], #[], []⟩).heap.modify 10 fun | .cells _ t frozen => .cells #[.iface 219 (.pointer (some ⟨(World.holding Tryz.prog default ⟨#[], #[], []⟩).heap.size + 0, 0, none⟩))] t frozen | o => o).modify 9 fun | .cells _ t frozen => .cells #[.iface 219 (.pointer (some ⟨(World.holding Tryz.prog default ⟨#[], #[], []⟩).heap.size + 1, 0, none⟩))] t frozen | o => o).modify 11 fun | .cells _ t frozen => .cells #[.iface 219 (.pointer (some ⟨(World.holding Tryz.prog default ⟨#[], #[], []⟩).heap.size + 2, 0, none⟩))] t frozen | o => o).modify 8 fun | .cells _ t frozen => .cells #[.iface 219 (.pointer (some ⟨(World.holding Tryz.prog default ⟨#[], #[], []⟩).heap.size + 3, 0, none⟩))] t frozen | o => o).modify 6 fun | .cells _ t frozen => .cells #[.iface 219 (.pointer (some ⟨(World.holding Tryz.prog default ⟨#[], #[], []⟩).heap.size + 4, 0, none⟩))] t frozen | o => o).modify 7 fun | .cells _ t frozen => .cells #[.iface 219 (.pointer (some ⟨(World.holding Tryz.prog default ⟨#[], #[], []⟩).heap.size + 5, 0, none⟩))] t frozen | o => o).modify 0 fun | .cells _ t frozen => .cells #[.iface 219 (.pointer (some ⟨(World.holding Tryz.prog default ⟨#[], #[], []⟩).heap.size + 6, 0, none⟩))] t frozen | o => o).modify 1 fun | .cells _ t frozen => .cells #[.iface 219 (.pointer (some ⟨(World.holding Tryz.prog default ⟨#[], #[], []⟩).heap.size + 7, 0, none⟩))] t frozen | o => o).modify 2 fun | .cells _ t frozen => .cells #[.iface 219 (.pointer (some ⟨(World.holding Tryz.prog default ⟨#[], #[], []⟩).heap.size + 8, 0, none⟩))] t frozen | o => o).modify 3 fun | .cells _ t frozen => .cells #[.iface 219 (.pointer (some ⟨(World.holding Tryz.prog default ⟨#[], #[], []⟩).heap.size + 9, 0, none⟩))] t frozen | o => o).modify 4 fun | .cells _ t frozen => .cells #[.iface 135 (.agg #[.pointer (some ⟨12, 45, none⟩)])] t frozen | o => o } : World) #[.slice none 0 0, .slice none 0 0] rfl (by kernel_rfl) (by kernel_rfl) (by kernel_rfl)
      (OpenSpec.preRow_of_cond 8 hx (by kernel_rfl) (fun k hk => by cases hk) (by kernel_rfl) (laid_met os _))) ?_
  intro W base args ds gs before hval hW _ _ _ hL _ _
  exact contract H enc W base args ds gs before hval hW hL

theorem said : Rows.DnJoinsSaid :=
  OpenClaim.holds_of_cond 6 Tryz.f6 rfl rfl rfl rfl rfl rfl rfl ⟨rfl, rfl, rfl, rfl, rfl⟩ rfl rfl rfl rfl rfl (by kernel_rfl) Tryz.func6 (by kernel_rfl)
    (of_decide_eq_true (by kernel_rfl)) (by unfold Func.isWrapper; first | (rw [if_pos (by decide +kernel)]; kernel_rfl) | (rw [if_neg (by decide +kernel)]; exact ⟨rfl, rfl⟩))
    (fun os started H enc _ F => by rw [OpenClaim.pre_eq_preRow]; exact lifted os started H enc F)

theorem plain (f : FuncId) (fn : Func) (hf : Tryz.pinned.checked.prog.funcNamed "latiner/latinerlaw07.DnJoins" = some f) (hfn : Tryz.pinned.checked.prog.funcs[f]? = some fn) :
    true = Tryz.pinned.checked.prog.looks [] ∧ ∀ (j : Nat) t, fn.params[j]? = some t → Tryz.pinned.checked.prog.wantsStandIn t = false := by
  obtain rfl : f = 6 := Option.some.inj ((show Tryz.prog.funcNamed "latiner/latinerlaw07.DnJoins" = some 6 by kernel_rfl).symm.trans hf) |>.symm
  obtain rfl : fn = Tryz.f6 := (Option.some.inj (Tryz.func6.symm.trans hfn)).symm
  refine ⟨by kernel_rfl, fun j t ht => ?_⟩
  rw [Tryz.params6] at ht
  have hm : t = 22 := by have := Array.mem_of_getElem? ht; simp at this; first | exact this | omega | (rcases this with h | h | h <;> simp [h]) | (rcases this with h | h | h | h <;> simp [h])
  subst hm
  exact (show Tryz.prog.wantsStandIn 22 = false by kernel_rfl)

/-- The card. -/
theorem card : Rows.DnJoinsCardSaid :=
  Claim7.holds_tied_plain_at .later [] _ _ _ _ said (fun _ h => by cases h) (by kernel_rfl) (fun _ h => by cases h) dnJoins_row_tie rfl ⟨rfl, rfl⟩ (by kernel_rfl) rfl plain (by kernel_rfl)
end Go.Proofs.YthfcnjcpanoldaaGreatDoor.D.Joins

namespace Go.Proofs.YthfcnjcpanoldaaGreatDoor
theorem dnJoins_holds : Rows.DnJoinsCardSaid := D.Joins.card
#print axioms dnJoins_holds
end Go.Proofs.YthfcnjcpanoldaaGreatDoor
