/-
  DnBack: names are read from their texts; what is read, printed, is read alike, for any name and text. Conditions: the package-level variables hold what the program's text lays (the card ties them).
-/
import Derived.Test.YthfcnjcpanoldaaGreatDoorDLaid
import Derived.Test.YthfcnjcpanoldaaGreatDoorDCut
import Derived.Laws.DeepStrings4
namespace Go.Proofs.YthfcnjcpanoldaaGreatDoor.D.Back
open Go Go.RowKit Go.Shelf Dp Go.ChangeShapes Go.WideShapes Go.ChangeAt Go.ChangeMaps

theorem pri_ok {X : Nm} (h : okN X = true) : pri X = (pr X, 0) := by unfold pri; rw [h]; rfl
theorem pri_no {X : Nm} (h : okN X = false) : pri X = (⟨#[]⟩, 70) := by unfold pri; rw [h]; rfl
theorem can_some {l : List UInt8} {d : Nm} (h : rdN l = some d) : can l = (pr d, 0) := by unfold can; rw [h]
theorem can_none {l : List UInt8} (h : rdN l = none) : can l = (⟨#[]⟩, 70) := by unfold can; rw [h]

set_option maxRecDepth 100000 in
set_option maxHeartbeats 800000 in
theorem walk (v0 : Value) (d0 : Nm) (x1 : ByteArray) (a : Ad) (w : World) (g : Glob a w) (h0 : Nml w v0 d0) (hG0 : Big d0) (h1 : x1.size ≤ maxLen) :
    Calls Tryz.prog 4 #[v0, .string x1] w fun e w' => e = .returned (.bool true) ∧ Below w.heap.size w w' := by
  obtain ⟨X, hXs, hXl, hC⟩ := cut_ex d0 hG0
  have HC := hide hC
  have HSh := hide (shown_true a w g)
  have Hg := hide g
  have N0 := hide h0
  have B0 := hide (Below.refl w.heap.size w)
  have HCu := hide fun W => cut_any x1 W h1
  have hSs := cut_shrt x1
  generalize x1.extract 0 300 = S at *
  have HP := hide fun v W g h => print_any X v a W g h hXs
  have HR := hide fun v W g h => right_any X v a W g h hXs
  have HPaS := hide fun W g => parse_any S a W g hSs
  have HCaS := hide fun W g => canon_any S a W g hSs
  have HPa0 := hide fun W g => parse_any ⟨#[]⟩ a W g (shrt_of (by simp))
  rw [show rdN (⟨#[]⟩ : ByteArray).data.toList = some [] from rfl] at HPa0
  have HCa0 := hide fun W g => canon_any ⟨#[]⟩ a W g (shrt_of (by simp))
  rw [show can (⟨#[]⟩ : ByteArray).data.toList = (⟨#[]⟩, 0) from rfl] at HCa0
  have hlx : (X.length : Int) ≤ 10 := by omega
  clear hC g h0 hG0 hSs h1 hXl
  cases hk : okN X
  · rw [pri_no hk] at HP
    rw [hk] at HR
    dsimp only at HP
    cases hr : rdN S.data.toList with
    | none =>
      rw [hr] at HPaS
      rw [can_none hr] at HCaS
      dsimp only at HCaS
      clear hr hk
      go_enter Tryz.func4, Tryz.ntmps4
      go_wp2_with fail
      first | with_reducible refine ((unhide HSh)).mono ?_ | refine ((unhide HSh)).mono ?_
      rintro e w1 ⟨rfl, hb⟩
      have B1 := hide (step (unhide B0) hb)
      replace N0 := hide ((unhide N0).below hb)
      clear hb B0
      clear HSh
      go_wp2_with fail
      refine ((unhide HC) _ _ (unhide N0)).mono ?_
      rintro e w2 ⟨hb, vx, rfl, Ox⟩
      have B2 := hide (step (unhide B1) hb)
      clear hb B1
      replace Ox := hide Ox
      have Nx := hide (unhide Ox).nml
      clear HC
      clear Ox
      obtain ⟨ax, cx, rfl, hcx, _⟩ := (unhide Nx)
      go_wp2_with fail
      first | with_reducible refine (((unhide HCu) _).mono (R' := fun e w' => e = .returned (.string S) ∧ Below w2.heap.size w2 w') (fun e w' ⟨h1, h2⟩ => ⟨h1, by rw [h2]; exact Below.refl _ _⟩)).mono ?_ | refine (((unhide HCu) _).mono (R' := fun e w' => e = .returned (.string S) ∧ Below w2.heap.size w2 w') (fun e w' ⟨h1, h2⟩ => ⟨h1, by rw [h2]; exact Below.refl _ _⟩)).mono ?_
      rintro e w3 ⟨rfl, hb⟩
      have B3 := hide (step (unhide B2) hb)
      replace Nx := hide ((unhide Nx).below hb)
      clear hb B2
      clear HCu
      go_wp2_with fail
      first | with_reducible refine ((unhide HP) _ _ ((unhide Hg).below (Nat.le_refl _) (unhide B3)) (unhide Nx)).mono ?_ | refine ((unhide HP) _ _ ((unhide Hg).below (Nat.le_refl _) (unhide B3)) (unhide Nx)).mono ?_
      rintro e w4 ⟨rfl, hb⟩
      have B4 := hide (step (unhide B3) hb)
      replace Nx := hide ((unhide Nx).below hb)
      clear hb B3
      clear HP
      go_wp2_with fail
      refine ((unhide HPa0) _ ((unhide Hg).below (Nat.le_refl _) (unhide B4))).mono ?_
      rintro e w5 ⟨hb, ⟨dy, vy, hf, rfl, Oy⟩ | ⟨hf, _⟩⟩
      case inr => cases hf
      cases hf
      have B5 := hide (step (unhide B4) hb)
      replace Nx := hide ((unhide Nx).below hb)
      clear hb B4
      have Ny := hide Oy.nml
      obtain ⟨ay, cy, rfl, _, _⟩ := Oy.nml
      clear Oy
      clear Ny
      go_wp2_with fail
      refine ((unhide HPaS) _ ((unhide Hg).below (Nat.le_refl _) (unhide B5))).mono ?_
      rintro e w6 ⟨hb, ⟨_, _, hf, _⟩ | ⟨_, rfl⟩⟩
      · cases hf
      have B6 := hide (step (unhide B5) hb)
      replace Nx := hide ((unhide Nx).below hb)
      clear hb B5
      clear HPaS
      go_wp2_with fail
      first | with_reducible refine ((unhide HCaS) _ ((unhide Hg).below (Nat.le_refl _) (unhide B6))).mono ?_ | refine ((unhide HCaS) _ ((unhide Hg).below (Nat.le_refl _) (unhide B6))).mono ?_
      rintro e w7 ⟨rfl, hb⟩
      have B7 := hide (step (unhide B6) hb)
      replace Nx := hide ((unhide Nx).below hb)
      clear hb B6
      clear HCaS
      go_wp2_with fail
      refine ((unhide HPa0) _ ((unhide Hg).below (Nat.le_refl _) (unhide B7))).mono ?_
      rintro e w8 ⟨hb, ⟨dq, vq, hf, rfl, Oq⟩ | ⟨hf, _⟩⟩
      case inr => cases hf
      cases hf
      have B8 := hide (step (unhide B7) hb)
      replace Nx := hide ((unhide Nx).below hb)
      clear hb B7
      have Nq := hide Oq.nml
      obtain ⟨aq, cq, rfl, _, _⟩ := Oq.nml
      clear Oq
      clear Nq
      go_wp2_with fail
      first | with_reducible refine ((unhide HCa0) _ ((unhide Hg).below (Nat.le_refl _) (unhide B8))).mono ?_ | refine ((unhide HCa0) _ ((unhide Hg).below (Nat.le_refl _) (unhide B8))).mono ?_
      rintro e w9 ⟨rfl, hb⟩
      have B9 := hide (step (unhide B8) hb)
      replace Nx := hide ((unhide Nx).below hb)
      clear hb B8
      clear HCa0
      go_wp2_with fail
      first | with_reducible refine ((unhide HR) _ _ ((unhide Hg).below (Nat.le_refl _) (unhide B9)) (unhide Nx)).mono ?_ | refine ((unhide HR) _ _ ((unhide Hg).below (Nat.le_refl _) (unhide B9)) (unhide Nx)).mono ?_
      rintro e w10 ⟨rfl, hb⟩
      have B10 := hide (step (unhide B9) hb)
      replace Nx := hide ((unhide Nx).below hb)
      clear hb B9
      clear HR
      go_wp2
      go_ret
      exact ⟨rfl, unhide B10⟩
    | some P =>
      have hPk := rdN_ok hr
      rw [hr] at HPaS
      rw [can_some hr] at HCaS
      dsimp only at HCaS
      have HPaU := hide fun W g => parse_any (pr P) a W g (shrt_pr hPk)
      rw [pr_data, rdN_pr hPk] at HPaU
      have HCaU := hide fun W g => canon_any (pr P) a W g (shrt_pr hPk)
      rw [pr_data, can_some (rdN_pr hPk)] at HCaU
      dsimp only at HCaU
      have HRP := hide fun v W g h => right_any P v a W g h (sm_ok hPk)
      rw [hPk] at HRP
      have HSP := hide fun u v W h k => same_any P P u v W h k (sm_ok hPk)
      rw [decide_eq_true rfl] at HSP
      generalize pr P = tp at *
      clear hPk hr hk
      go_enter Tryz.func4, Tryz.ntmps4
      go_wp2_with fail
      first | with_reducible refine ((unhide HSh)).mono ?_ | refine ((unhide HSh)).mono ?_
      rintro e w1 ⟨rfl, hb⟩
      have B1 := hide (step (unhide B0) hb)
      replace N0 := hide ((unhide N0).below hb)
      clear hb B0
      clear HSh
      go_wp2_with fail
      refine ((unhide HC) _ _ (unhide N0)).mono ?_
      rintro e w2 ⟨hb, vx, rfl, Ox⟩
      have B2 := hide (step (unhide B1) hb)
      clear hb B1
      replace Ox := hide Ox
      have Nx := hide (unhide Ox).nml
      clear HC
      clear Ox
      obtain ⟨ax, cx, rfl, hcx, _⟩ := (unhide Nx)
      go_wp2_with fail
      first | with_reducible refine (((unhide HCu) _).mono (R' := fun e w' => e = .returned (.string S) ∧ Below w2.heap.size w2 w') (fun e w' ⟨h1, h2⟩ => ⟨h1, by rw [h2]; exact Below.refl _ _⟩)).mono ?_ | refine (((unhide HCu) _).mono (R' := fun e w' => e = .returned (.string S) ∧ Below w2.heap.size w2 w') (fun e w' ⟨h1, h2⟩ => ⟨h1, by rw [h2]; exact Below.refl _ _⟩)).mono ?_
      rintro e w3 ⟨rfl, hb⟩
      have B3 := hide (step (unhide B2) hb)
      replace Nx := hide ((unhide Nx).below hb)
      clear hb B2
      clear HCu
      go_wp2_with fail
      first | with_reducible refine ((unhide HP) _ _ ((unhide Hg).below (Nat.le_refl _) (unhide B3)) (unhide Nx)).mono ?_ | refine ((unhide HP) _ _ ((unhide Hg).below (Nat.le_refl _) (unhide B3)) (unhide Nx)).mono ?_
      rintro e w4 ⟨rfl, hb⟩
      have B4 := hide (step (unhide B3) hb)
      replace Nx := hide ((unhide Nx).below hb)
      clear hb B3
      clear HP
      go_wp2_with fail
      refine ((unhide HPa0) _ ((unhide Hg).below (Nat.le_refl _) (unhide B4))).mono ?_
      rintro e w5 ⟨hb, ⟨dy, vy, hf, rfl, Oy⟩ | ⟨hf, _⟩⟩
      case inr => cases hf
      cases hf
      have B5 := hide (step (unhide B4) hb)
      replace Nx := hide ((unhide Nx).below hb)
      clear hb B4
      have Ny := hide Oy.nml
      obtain ⟨ay, cy, rfl, _, _⟩ := Oy.nml
      clear Oy
      clear Ny
      go_wp2_with fail
      refine ((unhide HPaS) _ ((unhide Hg).below (Nat.le_refl _) (unhide B5))).mono ?_
      rintro e w6 ⟨hb, ⟨dp, vp, hf, rfl, Op⟩ | ⟨hf, _⟩⟩
      case inr => cases hf
      cases hf
      have B6 := hide (step (unhide B5) hb)
      replace Nx := hide ((unhide Nx).below hb)
      clear hb B5
      have Np := hide Op.nml
      obtain ⟨ap, cp, rfl, _, _⟩ := Op.nml
      clear Op
      clear HPaS
      go_wp2_with fail
      first | with_reducible refine ((unhide HCaS) _ ((unhide Hg).below (Nat.le_refl _) (unhide B6))).mono ?_ | refine ((unhide HCaS) _ ((unhide Hg).below (Nat.le_refl _) (unhide B6))).mono ?_
      rintro e w7 ⟨rfl, hb⟩
      have B7 := hide (step (unhide B6) hb)
      replace Nx := hide ((unhide Nx).below hb)
      replace Np := hide ((unhide Np).below hb)
      clear hb B6
      clear HCaS
      go_wp2_with fail
      refine ((unhide HPaU) _ ((unhide Hg).below (Nat.le_refl _) (unhide B7))).mono ?_
      rintro e w8 ⟨hb, ⟨dq, vq, hf, rfl, Oq⟩ | ⟨hf, _⟩⟩
      case inr => cases hf
      cases hf
      have B8 := hide (step (unhide B7) hb)
      replace Nx := hide ((unhide Nx).below hb)
      replace Np := hide ((unhide Np).below hb)
      clear hb B7
      have Nq := hide Oq.nml
      obtain ⟨aq, cq, rfl, _, _⟩ := Oq.nml
      clear Oq
      clear HPaU
      go_wp2_with fail
      first | with_reducible refine ((unhide HCaU) _ ((unhide Hg).below (Nat.le_refl _) (unhide B8))).mono ?_ | refine ((unhide HCaU) _ ((unhide Hg).below (Nat.le_refl _) (unhide B8))).mono ?_
      rintro e w9 ⟨rfl, hb⟩
      have B9 := hide (step (unhide B8) hb)
      replace Nx := hide ((unhide Nx).below hb)
      replace Np := hide ((unhide Np).below hb)
      replace Nq := hide ((unhide Nq).below hb)
      clear hb B8
      clear HCaU
      go_wp2_with fail
      first | with_reducible refine ((unhide HR) _ _ ((unhide Hg).below (Nat.le_refl _) (unhide B9)) (unhide Nx)).mono ?_ | refine ((unhide HR) _ _ ((unhide Hg).below (Nat.le_refl _) (unhide B9)) (unhide Nx)).mono ?_
      rintro e w10 ⟨rfl, hb⟩
      have B10 := hide (step (unhide B9) hb)
      replace Nx := hide ((unhide Nx).below hb)
      replace Np := hide ((unhide Np).below hb)
      replace Nq := hide ((unhide Nq).below hb)
      clear hb B9
      clear HR
      go_wp2_with fail
      first | with_reducible refine ((unhide HRP) _ _ ((unhide Hg).below (Nat.le_refl _) (unhide B10)) (unhide Np)).mono ?_ | refine ((unhide HRP) _ _ ((unhide Hg).below (Nat.le_refl _) (unhide B10)) (unhide Np)).mono ?_
      rintro e w11 ⟨rfl, hb⟩
      have B11 := hide (step (unhide B10) hb)
      replace Nx := hide ((unhide Nx).below hb)
      replace Np := hide ((unhide Np).below hb)
      replace Nq := hide ((unhide Nq).below hb)
      clear hb B10
      clear HRP
      go_wp2_with fail
      first | with_reducible refine ((unhide HSP) _ _ _ (unhide Np) (unhide Nq)).mono ?_ | refine ((unhide HSP) _ _ _ (unhide Np) (unhide Nq)).mono ?_
      rintro e w12 ⟨rfl, hb⟩
      have B12 := hide (step (unhide B11) hb)
      replace Nx := hide ((unhide Nx).below hb)
      replace Np := hide ((unhide Np).below hb)
      replace Nq := hide ((unhide Nq).below hb)
      clear hb B11
      clear HSP
      go_wp2
      go_ret
      exact ⟨rfl, unhide B12⟩
  · rw [pri_ok hk] at HP
    rw [hk] at HR
    dsimp only at HP
    have HPaX := hide fun W g => parse_any (pr X) a W g (shrt_pr hk)
    rw [pr_data, rdN_pr hk] at HPaX
    have HSX := hide fun u v W h k => same_any X X u v W h k hXs
    rw [decide_eq_true rfl] at HSX
    generalize pr X = tx at *
    cases hr : rdN S.data.toList with
    | none =>
      rw [hr] at HPaS
      rw [can_none hr] at HCaS
      dsimp only at HCaS
      clear hr hk
      go_enter Tryz.func4, Tryz.ntmps4
      go_wp2_with fail
      first | with_reducible refine ((unhide HSh)).mono ?_ | refine ((unhide HSh)).mono ?_
      rintro e w1 ⟨rfl, hb⟩
      have B1 := hide (step (unhide B0) hb)
      replace N0 := hide ((unhide N0).below hb)
      clear hb B0
      clear HSh
      go_wp2_with fail
      refine ((unhide HC) _ _ (unhide N0)).mono ?_
      rintro e w2 ⟨hb, vx, rfl, Ox⟩
      have B2 := hide (step (unhide B1) hb)
      clear hb B1
      replace Ox := hide Ox
      have Nx := hide (unhide Ox).nml
      clear HC
      clear Ox
      obtain ⟨ax, cx, rfl, hcx, _⟩ := (unhide Nx)
      go_wp2_with fail
      first | with_reducible refine (((unhide HCu) _).mono (R' := fun e w' => e = .returned (.string S) ∧ Below w2.heap.size w2 w') (fun e w' ⟨h1, h2⟩ => ⟨h1, by rw [h2]; exact Below.refl _ _⟩)).mono ?_ | refine (((unhide HCu) _).mono (R' := fun e w' => e = .returned (.string S) ∧ Below w2.heap.size w2 w') (fun e w' ⟨h1, h2⟩ => ⟨h1, by rw [h2]; exact Below.refl _ _⟩)).mono ?_
      rintro e w3 ⟨rfl, hb⟩
      have B3 := hide (step (unhide B2) hb)
      replace Nx := hide ((unhide Nx).below hb)
      clear hb B2
      clear HCu
      go_wp2_with fail
      first | with_reducible refine ((unhide HP) _ _ ((unhide Hg).below (Nat.le_refl _) (unhide B3)) (unhide Nx)).mono ?_ | refine ((unhide HP) _ _ ((unhide Hg).below (Nat.le_refl _) (unhide B3)) (unhide Nx)).mono ?_
      rintro e w4 ⟨rfl, hb⟩
      have B4 := hide (step (unhide B3) hb)
      replace Nx := hide ((unhide Nx).below hb)
      clear hb B3
      clear HP
      go_wp2_with fail
      refine ((unhide HPaX) _ ((unhide Hg).below (Nat.le_refl _) (unhide B4))).mono ?_
      rintro e w5 ⟨hb, ⟨dy, vy, hf, rfl, Oy⟩ | ⟨hf, _⟩⟩
      case inr => cases hf
      cases hf
      have B5 := hide (step (unhide B4) hb)
      replace Nx := hide ((unhide Nx).below hb)
      clear hb B4
      have Ny := hide Oy.nml
      obtain ⟨ay, cy, rfl, _, _⟩ := Oy.nml
      clear Oy
      clear HPaX
      go_wp2_with fail
      first | with_reducible refine ((unhide HSX) _ _ _ (unhide Nx) (unhide Ny)).mono ?_ | refine ((unhide HSX) _ _ _ (unhide Nx) (unhide Ny)).mono ?_
      rintro e w6 ⟨rfl, hb⟩
      have B6 := hide (step (unhide B5) hb)
      replace Nx := hide ((unhide Nx).below hb)
      replace Ny := hide ((unhide Ny).below hb)
      clear hb B5
      clear HSX
      clear Ny
      go_wp2_with fail
      refine ((unhide HPaS) _ ((unhide Hg).below (Nat.le_refl _) (unhide B6))).mono ?_
      rintro e w7 ⟨hb, ⟨_, _, hf, _⟩ | ⟨_, rfl⟩⟩
      · cases hf
      have B7 := hide (step (unhide B6) hb)
      replace Nx := hide ((unhide Nx).below hb)
      clear hb B6
      clear HPaS
      go_wp2_with fail
      first | with_reducible refine ((unhide HCaS) _ ((unhide Hg).below (Nat.le_refl _) (unhide B7))).mono ?_ | refine ((unhide HCaS) _ ((unhide Hg).below (Nat.le_refl _) (unhide B7))).mono ?_
      rintro e w8 ⟨rfl, hb⟩
      have B8 := hide (step (unhide B7) hb)
      replace Nx := hide ((unhide Nx).below hb)
      clear hb B7
      clear HCaS
      go_wp2_with fail
      refine ((unhide HPa0) _ ((unhide Hg).below (Nat.le_refl _) (unhide B8))).mono ?_
      rintro e w9 ⟨hb, ⟨dq, vq, hf, rfl, Oq⟩ | ⟨hf, _⟩⟩
      case inr => cases hf
      cases hf
      have B9 := hide (step (unhide B8) hb)
      replace Nx := hide ((unhide Nx).below hb)
      clear hb B8
      have Nq := hide Oq.nml
      obtain ⟨aq, cq, rfl, _, _⟩ := Oq.nml
      clear Oq
      clear Nq
      go_wp2_with fail
      first | with_reducible refine ((unhide HCa0) _ ((unhide Hg).below (Nat.le_refl _) (unhide B9))).mono ?_ | refine ((unhide HCa0) _ ((unhide Hg).below (Nat.le_refl _) (unhide B9))).mono ?_
      rintro e w10 ⟨rfl, hb⟩
      have B10 := hide (step (unhide B9) hb)
      replace Nx := hide ((unhide Nx).below hb)
      clear hb B9
      clear HCa0
      go_wp2_with fail
      first | with_reducible refine ((unhide HR) _ _ ((unhide Hg).below (Nat.le_refl _) (unhide B10)) (unhide Nx)).mono ?_ | refine ((unhide HR) _ _ ((unhide Hg).below (Nat.le_refl _) (unhide B10)) (unhide Nx)).mono ?_
      rintro e w11 ⟨rfl, hb⟩
      have B11 := hide (step (unhide B10) hb)
      replace Nx := hide ((unhide Nx).below hb)
      clear hb B10
      clear HR
      go_wp2
      go_ret
      exact ⟨rfl, unhide B11⟩
    | some P =>
      have hPk := rdN_ok hr
      rw [hr] at HPaS
      rw [can_some hr] at HCaS
      dsimp only at HCaS
      have HPaU := hide fun W g => parse_any (pr P) a W g (shrt_pr hPk)
      rw [pr_data, rdN_pr hPk] at HPaU
      have HCaU := hide fun W g => canon_any (pr P) a W g (shrt_pr hPk)
      rw [pr_data, can_some (rdN_pr hPk)] at HCaU
      dsimp only at HCaU
      have HRP := hide fun v W g h => right_any P v a W g h (sm_ok hPk)
      rw [hPk] at HRP
      have HSP := hide fun u v W h k => same_any P P u v W h k (sm_ok hPk)
      rw [decide_eq_true rfl] at HSP
      generalize pr P = tp at *
      clear hPk hr hk
      go_enter Tryz.func4, Tryz.ntmps4
      go_wp2_with fail
      first | with_reducible refine ((unhide HSh)).mono ?_ | refine ((unhide HSh)).mono ?_
      rintro e w1 ⟨rfl, hb⟩
      have B1 := hide (step (unhide B0) hb)
      replace N0 := hide ((unhide N0).below hb)
      clear hb B0
      clear HSh
      go_wp2_with fail
      refine ((unhide HC) _ _ (unhide N0)).mono ?_
      rintro e w2 ⟨hb, vx, rfl, Ox⟩
      have B2 := hide (step (unhide B1) hb)
      clear hb B1
      replace Ox := hide Ox
      have Nx := hide (unhide Ox).nml
      clear HC
      clear Ox
      obtain ⟨ax, cx, rfl, hcx, _⟩ := (unhide Nx)
      go_wp2_with fail
      first | with_reducible refine (((unhide HCu) _).mono (R' := fun e w' => e = .returned (.string S) ∧ Below w2.heap.size w2 w') (fun e w' ⟨h1, h2⟩ => ⟨h1, by rw [h2]; exact Below.refl _ _⟩)).mono ?_ | refine (((unhide HCu) _).mono (R' := fun e w' => e = .returned (.string S) ∧ Below w2.heap.size w2 w') (fun e w' ⟨h1, h2⟩ => ⟨h1, by rw [h2]; exact Below.refl _ _⟩)).mono ?_
      rintro e w3 ⟨rfl, hb⟩
      have B3 := hide (step (unhide B2) hb)
      replace Nx := hide ((unhide Nx).below hb)
      clear hb B2
      clear HCu
      go_wp2_with fail
      first | with_reducible refine ((unhide HP) _ _ ((unhide Hg).below (Nat.le_refl _) (unhide B3)) (unhide Nx)).mono ?_ | refine ((unhide HP) _ _ ((unhide Hg).below (Nat.le_refl _) (unhide B3)) (unhide Nx)).mono ?_
      rintro e w4 ⟨rfl, hb⟩
      have B4 := hide (step (unhide B3) hb)
      replace Nx := hide ((unhide Nx).below hb)
      clear hb B3
      clear HP
      go_wp2_with fail
      refine ((unhide HPaX) _ ((unhide Hg).below (Nat.le_refl _) (unhide B4))).mono ?_
      rintro e w5 ⟨hb, ⟨dy, vy, hf, rfl, Oy⟩ | ⟨hf, _⟩⟩
      case inr => cases hf
      cases hf
      have B5 := hide (step (unhide B4) hb)
      replace Nx := hide ((unhide Nx).below hb)
      clear hb B4
      have Ny := hide Oy.nml
      obtain ⟨ay, cy, rfl, _, _⟩ := Oy.nml
      clear Oy
      clear HPaX
      go_wp2_with fail
      first | with_reducible refine ((unhide HSX) _ _ _ (unhide Nx) (unhide Ny)).mono ?_ | refine ((unhide HSX) _ _ _ (unhide Nx) (unhide Ny)).mono ?_
      rintro e w6 ⟨rfl, hb⟩
      have B6 := hide (step (unhide B5) hb)
      replace Nx := hide ((unhide Nx).below hb)
      replace Ny := hide ((unhide Ny).below hb)
      clear hb B5
      clear HSX
      clear Ny
      go_wp2_with fail
      refine ((unhide HPaS) _ ((unhide Hg).below (Nat.le_refl _) (unhide B6))).mono ?_
      rintro e w7 ⟨hb, ⟨dp, vp, hf, rfl, Op⟩ | ⟨hf, _⟩⟩
      case inr => cases hf
      cases hf
      have B7 := hide (step (unhide B6) hb)
      replace Nx := hide ((unhide Nx).below hb)
      clear hb B6
      have Np := hide Op.nml
      obtain ⟨ap, cp, rfl, _, _⟩ := Op.nml
      clear Op
      clear HPaS
      go_wp2_with fail
      first | with_reducible refine ((unhide HCaS) _ ((unhide Hg).below (Nat.le_refl _) (unhide B7))).mono ?_ | refine ((unhide HCaS) _ ((unhide Hg).below (Nat.le_refl _) (unhide B7))).mono ?_
      rintro e w8 ⟨rfl, hb⟩
      have B8 := hide (step (unhide B7) hb)
      replace Nx := hide ((unhide Nx).below hb)
      replace Np := hide ((unhide Np).below hb)
      clear hb B7
      clear HCaS
      go_wp2_with fail
      refine ((unhide HPaU) _ ((unhide Hg).below (Nat.le_refl _) (unhide B8))).mono ?_
      rintro e w9 ⟨hb, ⟨dq, vq, hf, rfl, Oq⟩ | ⟨hf, _⟩⟩
      case inr => cases hf
      cases hf
      have B9 := hide (step (unhide B8) hb)
      replace Nx := hide ((unhide Nx).below hb)
      replace Np := hide ((unhide Np).below hb)
      clear hb B8
      have Nq := hide Oq.nml
      obtain ⟨aq, cq, rfl, _, _⟩ := Oq.nml
      clear Oq
      clear HPaU
      go_wp2_with fail
      first | with_reducible refine ((unhide HCaU) _ ((unhide Hg).below (Nat.le_refl _) (unhide B9))).mono ?_ | refine ((unhide HCaU) _ ((unhide Hg).below (Nat.le_refl _) (unhide B9))).mono ?_
      rintro e w10 ⟨rfl, hb⟩
      have B10 := hide (step (unhide B9) hb)
      replace Nx := hide ((unhide Nx).below hb)
      replace Np := hide ((unhide Np).below hb)
      replace Nq := hide ((unhide Nq).below hb)
      clear hb B9
      clear HCaU
      go_wp2_with fail
      first | with_reducible refine ((unhide HR) _ _ ((unhide Hg).below (Nat.le_refl _) (unhide B10)) (unhide Nx)).mono ?_ | refine ((unhide HR) _ _ ((unhide Hg).below (Nat.le_refl _) (unhide B10)) (unhide Nx)).mono ?_
      rintro e w11 ⟨rfl, hb⟩
      have B11 := hide (step (unhide B10) hb)
      replace Nx := hide ((unhide Nx).below hb)
      replace Np := hide ((unhide Np).below hb)
      replace Nq := hide ((unhide Nq).below hb)
      clear hb B10
      clear HR
      go_wp2_with fail
      first | with_reducible refine ((unhide HRP) _ _ ((unhide Hg).below (Nat.le_refl _) (unhide B11)) (unhide Np)).mono ?_ | refine ((unhide HRP) _ _ ((unhide Hg).below (Nat.le_refl _) (unhide B11)) (unhide Np)).mono ?_
      rintro e w12 ⟨rfl, hb⟩
      have B12 := hide (step (unhide B11) hb)
      replace Nx := hide ((unhide Nx).below hb)
      replace Np := hide ((unhide Np).below hb)
      replace Nq := hide ((unhide Nq).below hb)
      clear hb B11
      clear HRP
      go_wp2_with fail
      first | with_reducible refine ((unhide HSP) _ _ _ (unhide Np) (unhide Nq)).mono ?_ | refine ((unhide HSP) _ _ _ (unhide Np) (unhide Nq)).mono ?_
      rintro e w13 ⟨rfl, hb⟩
      have B13 := hide (step (unhide B12) hb)
      replace Nx := hide ((unhide Nx).below hb)
      replace Np := hide ((unhide Np).below hb)
      replace Nq := hide ((unhide Nq).below hb)
      clear hb B12
      clear HSP
      go_wp2
      go_ret
      exact ⟨rfl, unhide B13⟩


set_option maxRecDepth 100000 in
/-- What the walk gives, for every argument. -/
theorem contract (H : Type) (enc : TypeId × Value → H) (W : World) (base : Nat) (args : Array Value) (ds gs : List (DataW H)) (before : List MemPlace)
    (hval : ∀ (j : Nat) t v, Tryz.f4.params[j]? = some t → args[j]? = some v → Value.okWide Tryz.prog W .any base t v)
    (hW : DataW.Whole enc Tryz.prog Tryz.f4.params.toList Rows.dnBackSpec.vars false W args.toList ds gs before) (hL : laidMetH Tryz.prog Rows.dnBackRow.laid W) :
    Calls Tryz.prog 4 args W fun e W' => ∃ v, e = .returned v ∧ Rows.dnBackSpec.post enc Tryz.prog Tryz.f4 false true false false W args v W' := by
  obtain ⟨a, g⟩ := glob_of_laid hL
  have hW' := hW
  obtain ⟨p, q, hA0, hV, rfl, hfz, hnd⟩ := hW
  have hA : DataW.TrodAll enc Tryz.prog W 0 (fun _ => true) true Tryz.f4.params.toList args.toList ds p := hA0
  rw [Tryz.params4] at hA hval
  obtain ⟨v0, vs0, d0, ds0, p0, q0, hargs0, rfl, rfl, h0, r0⟩ := trodAll_cons hA
  obtain ⟨v1, vs1, d1, ds1, p1, q1, hargs1, rfl, rfl, h1, r1⟩ := trodAll_cons r0
  obtain ⟨rfl, rfl, rfl⟩ := trodAll_nil r1
  obtain rfl : args = #[v0, v1] := by cases args; simp_all
  obtain ⟨rfl, rfl⟩ := trodVars_none hV
  obtain ⟨a0, n0, c0, rfl⟩ := okWide_slice Tryz.underlying22 (hval 0 22 v0 rfl rfl)
  have hk0 := h0
  obtain ⟨fu0, hf0⟩ := h0
  obtain ⟨l0, hL0, hG0⟩ := open_name (fuel := fu0) hf0
  have hlt0 := DataW.trod_lt _ _ _ _ hf0
  obtain ⟨x1, rfl, rfl, rfl, wf1⟩ := open_string Tryz.underlying9 (hval 1 9 v1 rfl rfl) h1
  clear hA0
  simp only [List.append_nil] at hW'
  refine (walk (.slice a0 n0 c0) l0 x1 a W g hL0 hG0 wf1).mono fun e W' ⟨he, hg⟩ => ?_
  subst he
  refine ⟨_, rfl, _, _, _, [], (p0 ++ ([] ++ [])), [], hW', ?_, ?_, ?_, hg.frame _, fun h => by cases h⟩
  · exact trodAll_cons_mk (shut_bool Tryz.underlying4 _) trodAll_mk0
  · exact trodAll_cons_mk (Below.trod (by kernel_rfl) (by kernel_rfl) (of_decide_eq_true (by kernel_rfl)) hk0 hg hlt0) (trodAll_cons_mk (shut_string Tryz.underlying9 wf1) (trodAll_mk0))
  · rfl

theorem reads (os : Os) {H : Type} (enc : TypeId × Value → H) : ∃ places, DataW.whole enc Tryz.prog (({ World.holding Tryz.prog os ⟨#[.cells #[.string sentS0] 237, .cells #[.string sentS1] 237, .cells #[.string sentS2] 237, .cells #[.string sentS3] 237, .cells #[.string sentS4] 237, .cells #[.string sentS5] 237, .cells #[.string sentS6] 237, .cells #[.string sentS7] 237, .cells #[.string sentS8] 237, .cells #[.string sentS9] 237], #[], []⟩ with heap := (((((((((((World.holding Tryz.prog os ⟨#[.cells #[.string sentS0] 237, .cells #[.string sentS1] 237, .cells #[.string sentS2] 237, .cells #[.string sentS3] 237, .cells #[.string sentS4] 237, .cells #[.string sentS5] 237, .cells #[.string sentS6] 237, .cells #[.string sentS7] 237, .cells #[.string sentS8] 237, .cells #[.string sentS9] 237], #[], []⟩).heap.modify 10 fun | .cells _ t frozen => .cells #[.iface 219 (.pointer (some ⟨(World.holding Tryz.prog default ⟨#[], #[], []⟩).heap.size + 0, 0, none⟩))] t frozen | o => o).modify 9 fun | .cells _ t frozen => .cells #[.iface 219 (.pointer (some ⟨(World.holding Tryz.prog default ⟨#[], #[], []⟩).heap.size + 1, 0, none⟩))] t frozen | o => o).modify 11 fun | .cells _ t frozen => .cells #[.iface 219 (.pointer (some ⟨(World.holding Tryz.prog default ⟨#[], #[], []⟩).heap.size + 2, 0, none⟩))] t frozen | o => o).modify 8 fun | .cells _ t frozen => .cells #[.iface 219 (.pointer (some ⟨(World.holding Tryz.prog default ⟨#[], #[], []⟩).heap.size + 3, 0, none⟩))] t frozen | o => o).modify 6 fun | .cells _ t frozen => .cells #[.iface 219 (.pointer (some ⟨(World.holding Tryz.prog default ⟨#[], #[], []⟩).heap.size + 4, 0, none⟩))] t frozen | o => o).modify 7 fun | .cells _ t frozen => .cells #[.iface 219 (.pointer (some ⟨(World.holding Tryz.prog default ⟨#[], #[], []⟩).heap.size + 5, 0, none⟩))] t frozen | o => o).modify 0 fun | .cells _ t frozen => .cells #[.iface 219 (.pointer (some ⟨(World.holding Tryz.prog default ⟨#[], #[], []⟩).heap.size + 6, 0, none⟩))] t frozen | o => o).modify 1 fun | .cells _ t frozen => .cells #[.iface 219 (.pointer (some ⟨(World.holding Tryz.prog default ⟨#[], #[], []⟩).heap.size + 7, 0, none⟩))] t frozen | o => o).modify 2 fun | .cells _ t frozen => .cells #[.iface 219 (.pointer (some ⟨(World.holding Tryz.prog default ⟨#[], #[], []⟩).heap.size + 8, 0, none⟩))] t frozen | o => o).modify 3 fun | .cells _ t frozen => .cells #[.iface 219 (.pointer (some ⟨(World.holding Tryz.prog default ⟨#[], #[], []⟩).heap.size + 9, 0, none⟩))] t frozen | o => o).modify 4 fun | .cells _ t frozen => .cells #[.iface 135 (.agg #[.pointer (some ⟨12, 45, none⟩)])] t frozen | o => o } : World).forCall (fun _ _ => 0) ⟨#[], #[.slice none 0 0, .string ⟨#[]⟩], []⟩).memory Tryz.f4.params.toList Rows.dnBackSpec.vars false #[Value.slice none 0 0, Value.string ⟨#[]⟩].toList 8 = some ([.nil, .lit (.string [])], [], places) :=
  ⟨[], by kernel_rfl⟩

set_option maxRecDepth 100000 in
theorem lifted (os : Os) (started : os.Started) (H : Type) (enc : TypeId × Value → H) (F : Stop.Interp) :
    ReturnsInHanded {} Tryz.checked os 4 .any ((OpenSpec.ofChange Rows.dnBackSpec).preRow enc Tryz.prog Tryz.f4 Rows.dnBackRow.domain false Rows.dnBackRow.laid) (((OpenSpec.ofChange Rows.dnBackSpec).at F).post enc Tryz.prog Tryz.f4 false true false false) := by
  obtain ⟨places, hx⟩ := reads os enc
  refine returnsInHanded_of_row (C := Tryz.checked) (s := OpenSpec.ofChange Rows.dnBackSpec) own started (by kernel_rfl) Tryz.func4
    (witness_row_at (enc := enc) (C := Tryz.checked) false ({ World.holding Tryz.prog os ⟨#[.cells #[.string sentS0] 237, .cells #[.string sentS1] 237, .cells #[.string sentS2] 237, .cells #[.string sentS3] 237, .cells #[.string sentS4] 237, .cells #[.string sentS5] 237, .cells #[.string sentS6] 237, .cells #[.string sentS7] 237, .cells #[.string sentS8] 237, .cells #[.string sentS9] 237], #[], []⟩ with heap := (((((((((((World.holding Tryz.prog os ⟨#[.cells #[.string sentS0] 237, .cells #[.string sentS1] 237, .cells #[.string sentS2] 237, .cells #[.string sentS3] 237, .cells #[.string sentS4] 237, .cells #[.string sentS5] 237, .cells #[.string sentS6] 237, .cells #[.string sentS7] 237, .cells #[.string sentS8] 237, .cells #[.string sentS9] 237], #[], []⟩).heap.modify 10 fun | .cells _ t frozen => .cells #[.iface 219 (.pointer (some ⟨(World.holding Tryz.prog default ⟨#[], #[], []⟩).heap.size + 0, 0, none⟩))] t frozen | o => o).modify 9 fun | .cells _ t frozen => .cells #[.iface 219 (.pointer (some ⟨(World.holding Tryz.prog default ⟨#[], #[], []⟩).heap.size + 1, 0, none⟩))] t frozen | o => o).modify 11 fun | .cells _ t frozen => .cells #[.iface 219 (.pointer (some ⟨(World.holding Tryz.prog default ⟨#[], #[], []⟩).heap.size + 2, 0, none⟩))] t frozen | o => o).modify 8 fun | .cells _ t frozen => .cells #[.iface 219 (.pointer (some ⟨(World.holding Tryz.prog default ⟨#[], #[], []⟩).heap.size + 3, 0, none⟩))] t frozen | o => o).modify 6 fun | .cells _ t frozen => .cells #[.iface 219 (.pointer (some ⟨(World.holding Tryz.prog default ⟨#[], #[], []⟩).heap.size + 4, 0, none⟩))] t frozen | o => o).modify 7 fun | .cells _ t frozen => .cells #[.iface 219 (.pointer (some ⟨(World.holding Tryz.prog default ⟨#[], #[], []⟩).heap.size + 5, 0, none⟩))] t frozen | o => o).modify 0 fun | .cells _ t frozen => .cells #[.iface 219 (.pointer (some ⟨(World.holding Tryz.prog default ⟨#[], #[], []⟩).heap.size + 6, 0, none⟩))] t frozen | o => o).modify 1 fun | .cells _ t frozen => .cells #[.iface 219 (.pointer (some ⟨(World.holding Tryz.prog default ⟨#[], #[], []⟩).heap.size + 7, 0, none⟩))] t frozen | o => o).modify 2 fun | .cells _ t frozen => .cells #[.iface 219 (.pointer (some ⟨(World.holding Tryz.prog default ⟨#[], #[], []⟩).heap.size + 8, 0, none⟩))] t frozen | o => o).modify 3 fun | .cells _ t frozen => .cells #[.iface 219 (.pointer (some ⟨(World.holding Tryz.prog default ⟨#[], #[], []⟩).heap.size + 9, 0, none⟩))] t frozen | o => o).modify 4 fun | .cells _ t frozen => .cells #[.iface 135 (.agg #[.pointer (some ⟨12, 45, none⟩)])] t frozen | o => o } : World) #[.slice none 0 0, .string ⟨#[]⟩] rfl (by kernel_rfl) (by kernel_rfl) (by kernel_rfl)
      (OpenSpec.preRow_of_cond 8 hx (by kernel_rfl) (fun k hk => by cases hk) (by kernel_rfl) (laid_met os _))) ?_
  intro W base args ds gs before hval hW _ _ _ hL _ _
  exact contract H enc W base args ds gs before hval hW hL

theorem said : Rows.DnBackSaid :=
  OpenClaim.holds_of_cond 4 Tryz.f4 rfl rfl rfl rfl rfl rfl rfl ⟨rfl, rfl, rfl, rfl, rfl⟩ rfl rfl rfl rfl rfl (by kernel_rfl) Tryz.func4 (by kernel_rfl)
    (of_decide_eq_true (by kernel_rfl)) (by unfold Func.isWrapper; first | (rw [if_pos (by decide +kernel)]; kernel_rfl) | (rw [if_neg (by decide +kernel)]; exact ⟨rfl, rfl⟩))
    (fun os started H enc _ F => by rw [OpenClaim.pre_eq_preRow]; exact lifted os started H enc F)

theorem plain (f : FuncId) (fn : Func) (hf : Tryz.pinned.checked.prog.funcNamed "latiner/latinerlaw07.DnBack" = some f) (hfn : Tryz.pinned.checked.prog.funcs[f]? = some fn) :
    true = Tryz.pinned.checked.prog.looks [] ∧ ∀ (j : Nat) t, fn.params[j]? = some t → Tryz.pinned.checked.prog.wantsStandIn t = false := by
  obtain rfl : f = 4 := Option.some.inj ((show Tryz.prog.funcNamed "latiner/latinerlaw07.DnBack" = some 4 by kernel_rfl).symm.trans hf) |>.symm
  obtain rfl : fn = Tryz.f4 := (Option.some.inj (Tryz.func4.symm.trans hfn)).symm
  refine ⟨by kernel_rfl, fun j t ht => ?_⟩
  rw [Tryz.params4] at ht
  have hm : t = 22 ∨ t = 9 := by have := Array.mem_of_getElem? ht; simp at this; first | exact this | omega | (rcases this with h | h | h <;> simp [h]) | (rcases this with h | h | h | h <;> simp [h])
  rcases hm with rfl | rfl
  · exact (show Tryz.prog.wantsStandIn 22 = false by kernel_rfl)
  · exact (show Tryz.prog.wantsStandIn 9 = false by kernel_rfl)

/-- The card. -/
theorem card : Rows.DnBackCardSaid :=
  Claim7.holds_tied_plain_at .later [] _ _ _ _ said (fun _ h => by cases h) (by kernel_rfl) (fun _ h => by cases h) dnBack_row_tie rfl ⟨rfl, rfl⟩ (by kernel_rfl) rfl plain (by kernel_rfl)
end Go.Proofs.YthfcnjcpanoldaaGreatDoor.D.Back

namespace Go.Proofs.YthfcnjcpanoldaaGreatDoor
theorem dnBack_holds : Rows.DnBackCardSaid := D.Back.card
#print axioms dnBack_holds
end Go.Proofs.YthfcnjcpanoldaaGreatDoor
