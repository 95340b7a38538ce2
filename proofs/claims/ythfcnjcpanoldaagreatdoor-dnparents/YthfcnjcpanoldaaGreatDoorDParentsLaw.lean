/-
  DnParents: what is left of a right name without its first part is right, above it, and its text is the end of its, for any name. Conditions: the package-level variables hold what the program's text lays (the card ties them).
-/
import Derived.Test.YthfcnjcpanoldaaGreatDoorDLaid
import Derived.Test.YthfcnjcpanoldaaGreatDoorDCut
import Derived.Laws.DeepStrings4
namespace Go.Proofs.YthfcnjcpanoldaaGreatDoor.D.Parents
open Go Go.RowKit Go.Shelf Dp Go.ChangeShapes Go.WideShapes Go.ChangeAt Go.ChangeMaps

theorem pri_ok {X : Nm} (h : okN X = true) : pri X = (pr X, 0) := by unfold pri; rw [h]; rfl
theorem pri_no {X : Nm} (h : okN X = false) : pri X = (⟨#[]⟩, 70) := by unfold pri; rw [h]; rfl
/-- the text of a name ends with that of what is left of it. -/
theorem ends {r : Rd} {Y : Nm} (h : okN (r :: Y) = true) : ∃ A : List UInt8, A ≠ [] ∧ prL (r :: Y) = A ++ prL Y := by
  have hr := (okN_all h).2 r (by simp)
  by_cases hY : Y = []
  · subst hY
    refine ⟨prR r, prR_ne hr, ?_⟩
    unfold prL
    simp [jn_one, jn_nil]
  · refine ⟨prR r ++ [44], by simp, ?_⟩
    unfold prL
    rw [List.map_cons, jn_cons' 44 _ (by simpa using hY)]
    simp
theorem ends_text {X Y : Nm} {r : Rd} (hX : X = r :: Y) (h : okN X = true) : (pr Y).size < (pr X).size ∧ (pr X).extract ((pr X).size - (pr Y).size) (pr X).size = pr Y := by
  subst hX
  obtain ⟨A, hA, e⟩ := ends h
  have h1 : (pr (r :: Y)).data.toList = A ++ (pr Y).data.toList := e
  have z : ∀ s : ByteArray, s.size = s.data.toList.length := fun s => (Array.length_toList).symm
  have hl : 0 < A.length := List.length_pos_iff.2 hA
  refine ⟨by rw [z, z, h1, List.length_append]; omega, ?_⟩
  refine ByteArray.ext (Array.ext' ?_)
  rw [ext_list, z, z (pr Y), List.take_length, h1, List.length_append, Nat.add_sub_cancel, List.drop_left]
theorem under_tail (r : Rd) (Y : Nm) : under (r :: Y) Y = true ∧ under Y (r :: Y) = false := by
  refine ⟨(under_iff _ _).2 ⟨[r], rfl⟩, ?_⟩
  unfold under
  rw [decide_eq_false (by simp)]
  rfl

set_option maxRecDepth 100000 in
set_option maxHeartbeats 800000 in
theorem walk (v0 : Value) (d0 : Nm) (a : Ad) (w : World) (g : Glob a w) (h0 : Nml w v0 d0) (hG0 : Big d0) :
    Calls Tryz.prog 7 #[v0] w fun e w' => e = .returned (.bool true) ∧ Below w.heap.size w w' := by
  obtain ⟨X, hXs, hXl, hC⟩ := cut_ex d0 hG0
  have HC := hide hC
  have HSh := hide (shown_true a w g)
  have Hg := hide g
  have N0 := hide h0
  have B0 := hide (Below.refl w.heap.size w)
  clear hC g h0 hG0
  have HP := hide fun v W g h => print_any X v a W g h hXs
  cases hk : okN X
  · rw [pri_no hk] at HP
    go_enter Tryz.func7, Tryz.ntmps7
    go_wp2_with fail
    first | with_reducible refine ((unhide HSh)).mono ?_ | refine ((unhide HSh)).mono ?_
    rintro e w1 ⟨rfl, hb⟩
    have B1 := hide (step (unhide B0) hb)
    replace N0 := hide ((unhide N0).below hb)
    clear hb B0
    clear HSh
    go_wp2_with fail
    refine ((unhide HC) _ _ (unhide N0)).mono ?_
    rintro e w2 ⟨hb, vx, rfl, Ox⟩
    have B2 := hide (step (unhide B1) hb)
    clear hb B1
    replace Ox := hide Ox
    have Nx := hide (unhide Ox).nml
    clear HC
    clear Ox
    obtain ⟨ax, cx, rfl, _, _⟩ := (unhide Nx)
    go_wp2_with fail
    first | with_reducible refine ((unhide HP) _ _ ((unhide Hg).below (Nat.le_refl _) (unhide B2)) (unhide Nx)).mono ?_ | refine ((unhide HP) _ _ ((unhide Hg).below (Nat.le_refl _) (unhide B2)) (unhide Nx)).mono ?_
    rintro e w3 ⟨rfl, hb⟩
    have B3 := hide (step (unhide B2) hb)
    replace Nx := hide ((unhide Nx).below hb)
    clear hb B2
    go_wp2
    go_ret
    exact ⟨rfl, unhide B3⟩
  · rw [pri_ok hk] at HP
    dsimp only at HP
    by_cases hX0 : X = []
    · subst hX0
      have hpn : pr [] = ⟨#[]⟩ := rfl
      rw [hpn] at HP
      go_enter Tryz.func7, Tryz.ntmps7
      go_wp2_with fail
      first | with_reducible refine ((unhide HSh)).mono ?_ | refine ((unhide HSh)).mono ?_
      rintro e w1 ⟨rfl, hb⟩
      have B1 := hide (step (unhide B0) hb)
      replace N0 := hide ((unhide N0).below hb)
      clear hb B0
      clear HSh
      go_wp2_with fail
      refine ((unhide HC) _ _ (unhide N0)).mono ?_
      rintro e w2 ⟨hb, vx, rfl, Ox⟩
      have B2 := hide (step (unhide B1) hb)
      clear hb B1
      replace Ox := hide Ox
      have Nx := hide (unhide Ox).nml
      clear HC
      clear Ox
      obtain ⟨ax, cx, rfl, _, _⟩ := (unhide Nx)
      go_wp2_with fail
      first | with_reducible refine ((unhide HP) _ _ ((unhide Hg).below (Nat.le_refl _) (unhide B2)) (unhide Nx)).mono ?_ | refine ((unhide HP) _ _ ((unhide Hg).below (Nat.le_refl _) (unhide B2)) (unhide Nx)).mono ?_
      rintro e w3 ⟨rfl, hb⟩
      have B3 := hide (step (unhide B2) hb)
      replace Nx := hide ((unhide Nx).below hb)
      clear hb B2
      go_wp2
      go_ret
      exact ⟨rfl, unhide B3⟩
    · obtain ⟨r, Y, hXY⟩ := List.exists_cons_of_ne_nil hX0
      obtain ⟨e1, e2⟩ := ends_text hXY hk
      obtain ⟨u1, u2⟩ := under_tail r Y
      rw [← hXY] at u1 u2
      have hYd : Y = X.drop 1 := by rw [hXY]; rfl
      have hYs : Sm Y := by rw [hYd]; exact sm_drop hXs 1
      have hYk : okN Y = true := okN_tail (r := r) (by rw [← hXY]; exact hk)
      have hlen : X.length = Y.length + 1 := by rw [hXY]; rfl
      have HPY := hide fun v W g h => print_any Y v a W g h hYs
      rw [pri_ok hYk] at HPY
      have HU := hide fun u v W h k => isUnder_any X Y u v W h k hXs (by have := hYs.1; omega)
      have HV := hide fun u v W h k => isUnder_any Y X u v W h k hYs (by have := hXs.1; omega)
      rw [u1] at HU
      rw [u2] at HV
      have hzX := prL_len hk
      have hzX2 : (pr X).size ≤ 4856 := by rw [← pr_data, E.len_toList] at hzX; exact hzX
      generalize pr X = sx at *
      generalize pr Y = sy at *
      dsimp only at HPY
      have e1' : (sy.size : Int) < sx.size := by omega
      have w1' : wrap64 ((sx.size : Int) - sy.size) = (sx.size : Int) - sy.size := by unfold wrap64; omega
      have w2' : (0 : Int) ≤ (sx.size : Int) - sy.size := by omega
      have w3' : (sx.size : Int) - sy.size ≤ sx.size := by omega
      have e2' := e2
      have Z := hide (And.intro e1' (And.intro w1' (And.intro w2' (And.intro w3' e2'))))
      have HL := hide (And.intro hlen hYd)
      clear u1 u2 hYs e1 e2 hYk hXY hX0 hlen hYd hzX hzX2 e1' w1' w2' w3' e2'
      go_enter Tryz.func7, Tryz.ntmps7
      go_wp2_with fail
      first | with_reducible refine ((unhide HSh)).mono ?_ | refine ((unhide HSh)).mono ?_
      rintro e w1 ⟨rfl, hb⟩
      have B1 := hide (step (unhide B0) hb)
      replace N0 := hide ((unhide N0).below hb)
      clear hb B0
      clear HSh
      go_wp2_with fail
      refine ((unhide HC) _ _ (unhide N0)).mono ?_
      rintro e w2 ⟨hb, vx, rfl, Ox⟩
      have B2 := hide (step (unhide B1) hb)
      clear hb B1
      replace Ox := hide Ox
      have Nx := hide (unhide Ox).nml
      clear HC
      clear Ox
      obtain ⟨ax, cx, rfl, hcx, _⟩ := (unhide Nx)
      have hcx' : (X.length : Int) ≤ cx := by omega
      have hcx1 : (1 : Int) ≤ X.length := by have := (unhide HL).1; omega
      by_cases hcm : cx = 1
      · subst hcm
        have hY0 : Hid (Y = []) := hide (List.length_eq_zero_iff.1 (by have := (unhide HL).1; omega))
        have Ny : Hid (Nml w2 (.slice ax 0 0) Y) := hide (by have h2 := unhide hY0; rw [h2]; exact ⟨ax, 0, rfl, Nat.le_refl _, .inl rfl⟩)
        go_wp2_with fail
        first | with_reducible refine ((unhide HP) _ _ ((unhide Hg).below (Nat.le_refl _) (unhide B2)) (unhide Nx)).mono ?_ | refine ((unhide HP) _ _ ((unhide Hg).below (Nat.le_refl _) (unhide B2)) (unhide Nx)).mono ?_
        rintro e w3 ⟨rfl, hb⟩
        have B3 := hide (step (unhide B2) hb)
        replace Nx := hide ((unhide Nx).below hb)
        replace Ny := hide ((unhide Ny).below hb)
        clear hb B2
        clear HP
        go_wp2_with fail
        first | with_reducible refine ((unhide HPY) _ _ ((unhide Hg).below (Nat.le_refl _) (unhide B3)) (unhide Ny)).mono ?_ | refine ((unhide HPY) _ _ ((unhide Hg).below (Nat.le_refl _) (unhide B3)) (unhide Ny)).mono ?_
        rintro e w4 ⟨rfl, hb⟩
        have B4 := hide (step (unhide B3) hb)
        replace Nx := hide ((unhide Nx).below hb)
        replace Ny := hide ((unhide Ny).below hb)
        clear hb B3
        clear HPY
        go_wp2_with fail
        first | with_reducible refine ((unhide HU) _ _ _ (unhide Nx) (unhide Ny)).mono ?_ | refine ((unhide HU) _ _ _ (unhide Nx) (unhide Ny)).mono ?_
        rintro e w5 ⟨rfl, hb⟩
        have B5 := hide (step (unhide B4) hb)
        replace Nx := hide ((unhide Nx).below hb)
        replace Ny := hide ((unhide Ny).below hb)
        clear hb B4
        clear HU
        go_wp2_with fail
        first | with_reducible refine ((unhide HV) _ _ _ (unhide Ny) (unhide Nx)).mono ?_ | refine ((unhide HV) _ _ _ (unhide Ny) (unhide Nx)).mono ?_
        rintro e w6 ⟨rfl, hb⟩
        have B6 := hide (step (unhide B5) hb)
        replace Nx := hide ((unhide Nx).below hb)
        replace Ny := hide ((unhide Ny).below hb)
        clear hb B5
        clear HV
        obtain ⟨e1', w1', w2', w3', e2'⟩ := unhide Z
        go_wp2
        go_ret
        exact ⟨rfl, unhide B6⟩
      · have hcm2 : ¬ cx - 1 = 0 := by have := (unhide HL).1; omega
        have Ny : Hid (Nml w2 (.slice (ax.map fun p => p.add 1) (X.length - 1) (cx - 1)) Y) := hide (by rw [(unhide HL).2]; exact (unhide Nx).tail 1 (by have := (unhide HL).1; omega))
        go_wp2_with fail
        first | with_reducible refine ((unhide HP) _ _ ((unhide Hg).below (Nat.le_refl _) (unhide B2)) (unhide Nx)).mono ?_ | refine ((unhide HP) _ _ ((unhide Hg).below (Nat.le_refl _) (unhide B2)) (unhide Nx)).mono ?_
        rintro e w3 ⟨rfl, hb⟩
        have B3 := hide (step (unhide B2) hb)
        replace Nx := hide ((unhide Nx).below hb)
        replace Ny := hide ((unhide Ny).below hb)
        clear hb B2
        clear HP
        go_wp2_with fail
        first | with_reducible refine ((unhide HPY) _ _ ((unhide Hg).below (Nat.le_refl _) (unhide B3)) (unhide Ny)).mono ?_ | refine ((unhide HPY) _ _ ((unhide Hg).below (Nat.le_refl _) (unhide B3)) (unhide Ny)).mono ?_
        rintro e w4 ⟨rfl, hb⟩
        have B4 := hide (step (unhide B3) hb)
        replace Nx := hide ((unhide Nx).below hb)
        replace Ny := hide ((unhide Ny).below hb)
        clear hb B3
        clear HPY
        go_wp2_with fail
        first | with_reducible refine ((unhide HU) _ _ _ (unhide Nx) (unhide Ny)).mono ?_ | refine ((unhide HU) _ _ _ (unhide Nx) (unhide Ny)).mono ?_
        rintro e w5 ⟨rfl, hb⟩
        have B5 := hide (step (unhide B4) hb)
        replace Nx := hide ((unhide Nx).below hb)
        replace Ny := hide ((unhide Ny).below hb)
        clear hb B4
        clear HU
        go_wp2_with fail
        first | with_reducible refine ((unhide HV) _ _ _ (unhide Ny) (unhide Nx)).mono ?_ | refine ((unhide HV) _ _ _ (unhide Ny) (unhide Nx)).mono ?_
        rintro e w6 ⟨rfl, hb⟩
        have B6 := hide (step (unhide B5) hb)
        replace Nx := hide ((unhide Nx).below hb)
        replace Ny := hide ((unhide Ny).below hb)
        clear hb B5
        clear HV
        obtain ⟨e1', w1', w2', w3', e2'⟩ := unhide Z
        go_wp2
        go_ret
        exact ⟨rfl, unhide B6⟩


set_option maxRecDepth 100000 in
/-- What the walk gives, for every argument. -/
theorem contract (H : Type) (enc : TypeId × Value → H) (W : World) (base : Nat) (args : Array Value) (ds gs : List (DataW H)) (before : List MemPlace)
    (hval : ∀ (j : Nat) t v, Tryz.f7.params[j]? = some t → args[j]? = some v → Value.okWide Tryz.prog W .any base t v)
    (hW : DataW.Whole enc Tryz.prog Tryz.f7.params.toList Rows.dnParentsSpec.vars false W args.toList ds gs before) (hL : laidMetH Tryz.prog Rows.dnParentsRow.laid W) :
    Calls Tryz.prog 7 args W fun e W' => ∃ v, e = .returned v ∧ Rows.dnParentsSpec.post enc Tryz.prog Tryz.f7 false true false false W args v W' := by
  obtain ⟨a, g⟩ := glob_of_laid hL
  have hW' := hW
  obtain ⟨p, q, hA0, hV, rfl, hfz, hnd⟩ := hW
  have hA : DataW.TrodAll enc Tryz.prog W 0 (fun _ => true) true Tryz.f7.params.toList args.toList ds p := hA0
  rw [Tryz.params7] at hA hval
  obtain ⟨v0, vs0, d0, ds0, p0, q0, hargs0, rfl, rfl, h0, r0⟩ := trodAll_cons hA
  obtain ⟨rfl, rfl, rfl⟩ := trodAll_nil r0
  obtain rfl : args = #[v0] := by cases args; simp_all
  obtain ⟨rfl, rfl⟩ := trodVars_none hV
  obtain ⟨a0, n0, c0, rfl⟩ := okWide_slice Tryz.underlying22 (hval 0 22 v0 rfl rfl)
  have hk0 := h0
  obtain ⟨fu0, hf0⟩ := h0
  obtain ⟨l0, hL0, hG0⟩ := open_name (fuel := fu0) hf0
  have hlt0 := DataW.trod_lt _ _ _ _ hf0
  clear hA0
  simp only [List.append_nil] at hW'
  refine (walk (.slice a0 n0 c0) l0 a W g hL0 hG0).mono fun e W' ⟨he, hg⟩ => ?_
  subst he
  refine ⟨_, rfl, _, _, _, [], (p0 ++ []), [], hW', ?_, ?_, ?_, hg.frame _, fun h => by cases h⟩
  · exact trodAll_cons_mk (shut_bool Tryz.underlying4 _) trodAll_mk0
  · exact trodAll_cons_mk (Below.trod (by kernel_rfl) (by kernel_rfl) (of_decide_eq_true (by kernel_rfl)) hk0 hg hlt0) (trodAll_mk0)
  · rfl

theorem reads (os : Os) {H : Type} (enc : TypeId × Value → H) : ∃ places, DataW.whole enc Tryz.prog (({ World.holding Tryz.prog os ⟨#[.cells #[.string sentS0] 237, .cells #[.string sentS1] 237, .cells #[.string sentS2] 237, .cells #[.string sentS3] 237, .cells #[.string sentS4] 237, .cells #[.string sentS5] 237, .cells #[.string sentS6] 237, .cells #[.string sentS7] 237, .cells #[.string sentS8] 237, .cells #[.string sentS9] 237], #[], []⟩ with heap := (((((((((((World.holding Tryz.prog os ⟨#[.cells #[.string sentS0] 237, .cells #[.string sentS1] 237, .cells #[.string sentS2] 237, .cells #[.string sentS3] 237, .cells #[.string sentS4] 237, .cells #[.string sentS5] 237, .cells #[.string sentS6] 237, .cells #[.string sentS7] 237, .cells #[.string sentS8] 237, .cells #[.string sentS9] 237], #[], []⟩).heap.modify 10 fun | .cells _ t frozen => .cells #[.iface 219 (.pointer (some ⟨(World.holding Tryz.prog default ⟨#[], #[], []⟩).heap.size + 0, 0, none⟩))] t frozen | o => o).modify 9 fun | .cells _ t frozen => .cells #[.iface 219 (.pointer (some ⟨(World.holding Tryz.prog default ⟨#[], #[], []⟩).heap.size + 1, 0, none⟩))] t frozen | o => o).modify 11 fun | .cells _ t frozen => .cells #[.iface 219 (.pointer (some ⟨(World.holding Tryz.prog default ⟨#[], #[], []⟩).heap.size + 2, 0, none⟩))] t frozen | o => o).modify 8 fun | .cells _ t frozen => .cells #[.iface 219 (.pointer (some ⟨(World.holding Tryz.prog default ⟨#[], #[], []⟩).heap.size + 3, 0, none⟩))] t frozen | o => o).modify 6 fun | .cells _ t frozen => .cells #[.iface 219 (.pointer (some ⟨(World.holding Tryz.prog default ⟨#[], #[], []⟩).heap.size + 4, 0, none⟩))] t frozen | o => o).modify 7 fun | .cells _ t frozen => .cells #[.iface 219 (.pointer (some ⟨(World.holding Tryz.prog default ⟨#[], #[], []⟩).heap.size + 5, 0, none⟩))] t frozen | o => o).modify 0 fun | .cells _ t frozen => .cells #[.iface 219 (.pointer (some ⟨(World.holding Tryz.prog default ⟨#[], #[], []⟩).heap.size + 6, 0, none⟩))] t frozen | o => o).modify 1 fun | .cells _ t frozen => .cells #[.iface 219 (.pointer (some ⟨(World.holding Tryz.prog default ⟨#[], #[], []⟩).heap.size + 7, 0, none⟩))] t frozen | o => o).modify 2 fun | .cells _ t frozen => .cells #[.iface 219 (.pointer (some ⟨(World.holding Tryz.prog default ⟨#[], #[], []⟩).heap.size + 8, 0, none⟩))] t frozen | o => o).modify 3 fun | .cells _ t frozen => .cells #[.iface 219 (.pointer (some ⟨(World.holding Tryz.prog default ⟨#[], #[], []⟩).heap.size + 9, 0, none⟩))] t frozen | o => o).modify 4 fun | .cells _ t frozen => .cells #[.iface 135 (.agg #[.pointer (some ⟨12, 45, none⟩)])] t frozen | o => o } : World).forCall (fun _ _ => 0) ⟨#[], #[.slice none 0 0], []⟩).memory Tryz.f7.params.toList Rows.dnParentsSpec.vars false #[Value.slice none 0 0].toList 8 = some ([.nil], [], places) :=
  ⟨[], by kernel_rfl⟩

set_option maxRecDepth 100000 in
theorem lifted (os : Os) (started : os.Started) (H : Type) (enc : TypeId × Value → H) (F : Stop.Interp) :
    ReturnsInHanded {} Tryz.checked os 7 .any ((OpenSpec.ofChange Rows.dnParentsSpec).preRow enc Tryz.prog Tryz.f7 Rows.dnParentsRow.domain false Rows.dnParentsRow.laid) (((OpenSpec.ofChange Rows.dnParentsSpec).at F).post enc Tryz.prog Tryz.f7 false true false false) := by
  obtain ⟨places, hx⟩ := reads os enc
  refine returnsInHanded_of_row (C := Tryz.checked) (s := OpenSpec.ofChange Rows.dnParentsSpec) own started (by kernel_rfl) Tryz.func7
    (witness_row_at (enc := enc) (C := Tryz.checked) false ({ World.holding Tryz.prog os ⟨#[.cells #[.string sentS0] 237, .cells #[.string sentS1] 237, .cells #[.string sentS2] 237, .cells #[.string sentS3] 237, .cells #[.string sentS4] 237, .cells #[.string sentS5] 237, .cells #[.string sentS6] 237, .cells #[.string sentS7] 237, .cells #[.string sentS8] 237, .cells #[.string sentS9] 237], #[], []⟩ with heap := (((((((((((World.holding Tryz.prog os ⟨#[.cells #[.string sentS0] 237, .cells #[.string sentS1] 237, .cells #[.string sentS2] 237, .cells #[.string sentS3] 237, .cells #[.string sentS4] 237, .cells #[.string sentS5] 237, .cells #[.string sentS6] 237, .cells #[.string sentS7] 237, .cells #[.string sentS8] 237, .cells #[.string sentS9] 237], #[], []⟩).heap.modify 10 fun | .cells _ t frozen => .cells #[.iface 219 (.pointer (some ⟨(World.holding Tryz.prog default ⟨#[], #[], []⟩).heap.size + 0, 0, none⟩))] t frozen | o => o).modify 9 fun | .cells _ t frozen => .cells #[.iface 219 (.pointer (some ⟨(World.holding Tryz.prog default ⟨#[], #[], []⟩).heap.size + 1, 0, none⟩))] t frozen | o => o).modify 11 fun | .cells _ t frozen => .cells #[.iface 219 (.pointer (some ⟨(World.holding Tryz.prog default ⟨#[], #[], []⟩).heap.size + 2, 0, none⟩))] t frozen | o => o).modify 8 fun | .cells _ t frozen => .cells #[.iface 219 (.pointer (some ⟨(World.holding Tryz.prog default ⟨#[], #[], []⟩).heap.size + 3, 0, none⟩))] t frozen | o => o).modify 6 fun | .cells _ t frozen => .cells #[.iface 219 (.pointer (some ⟨(World.holding Tryz.prog default ⟨#[], #[], []⟩).heap.size + 4, 0, none⟩))] t frozen | o => o).modify 7 fun | .cells _ t frozen => .cells #[.iface 219 (.pointer (some ⟨(World.holding Tryz.prog default ⟨#[], #[], []⟩).heap.size + 5, 0, none⟩))] t frozen | o => o).modify 0 fun | .cells _ t frozen => .cells #[.iface 219 (.pointer (some ⟨(World.holding Tryz.prog default ⟨#[], #[], []⟩).heap.size + 6, 0, none⟩))] t frozen | o => o).modify 1 fun | .cells _ t frozen => .cells #[.iface 219 (.pointer (some ⟨(World.holding Tryz.prog default ⟨#[], #[], []⟩).heap.size + 7, 0, none⟩))] t frozen | o => o).modify 2 fun | .cells _ t frozen => .cells #[.iface 219 (.pointer (some ⟨(World.holding Tryz.prog default ⟨#[], #[], []⟩).heap.size + 8, 0, none⟩))] t frozen | o => o).modify 3 fun | .cells _ t frozen => .cells #[.iface 219 (.pointer (some ⟨(World.holding Tryz.prog default ⟨#[], #[], []⟩).heap.size + 9, 0, none⟩))] t frozen | o => o).modify 4 fun | .cells _ t frozen => .cells #[.iface 135 (.agg #[.pointer (some ⟨12, 45, none⟩)])] t frozen | o => o } : World) #[.slice none 0 0] rfl (by kernel_rfl) (by kernel_rfl) (by kernel_rfl)
      (OpenSpec.preRow_of_cond 8 hx (by kernel_rfl) (fun k hk => by cases hk) (by kernel_rfl) (laid_met os _))) ?_
  intro W base args ds gs before hval hW _ _ _ hL _ _
  exact contract H enc W base args ds gs before hval hW hL

theorem said : Rows.DnParentsSaid :=
  OpenClaim.holds_of_cond 7 Tryz.f7 rfl rfl rfl rfl rfl rfl rfl ⟨rfl, rfl, rfl, rfl, rfl⟩ rfl rfl rfl rfl rfl (by kernel_rfl) Tryz.func7 (by kernel_rfl)
    (of_decide_eq_true (by kernel_rfl)) (by unfold Func.isWrapper; first | (rw [if_pos (by decide +kernel)]; kernel_rfl) | (rw [if_neg (by decide +kernel)]; exact ⟨rfl, rfl⟩))
    (fun os started H enc _ F => by rw [OpenClaim.pre_eq_preRow]; exact lifted os started H enc F)

theorem plain (f : FuncId) (fn : Func) (hf : Tryz.pinned.checked.prog.funcNamed "latiner/latinerlaw07.DnParents" = some f) (hfn : Tryz.pinned.checked.prog.funcs[f]? = some fn) :
    true = Tryz.pinned.checked.prog.looks [] ∧ ∀ (j : Nat) t, fn.params[j]? = some t → Tryz.pinned.checked.prog.wantsStandIn t = false := by
  obtain rfl : f = 7 := Option.some.inj ((show Tryz.prog.funcNamed "latiner/latinerlaw07.DnParents" = some 7 by kernel_rfl).symm.trans hf) |>.symm
  obtain rfl : fn = Tryz.f7 := (Option.some.inj (Tryz.func7.symm.trans hfn)).symm
  refine ⟨by kernel_rfl, fun j t ht => ?_⟩
  rw [Tryz.params7] at ht
  have hm : t = 22 := by have := Array.mem_of_getElem? ht; simp at this; first | exact this | omega | (rcases this with h | h | h <;> simp [h]) | (rcases this with h | h | h | h <;> simp [h])
  subst hm
  exact (show Tryz.prog.wantsStandIn 22 = false by kernel_rfl)

/-- The card. -/
theorem card : Rows.DnParentsCardSaid :=
  Claim7.holds_tied_plain_at .later [] _ _ _ _ said (fun _ h => by cases h) (by kernel_rfl) (fun _ h => by cases h) dnParents_row_tie rfl ⟨rfl, rfl⟩ (by kernel_rfl) rfl plain (by kernel_rfl)
end Go.Proofs.YthfcnjcpanoldaaGreatDoor.D.Parents

namespace Go.Proofs.YthfcnjcpanoldaaGreatDoor
theorem dnParents_holds : Rows.DnParentsCardSaid := D.Parents.card
#print axioms dnParents_holds
end Go.Proofs.YthfcnjcpanoldaaGreatDoor
