/-
  Several texts in one: FDoor, FParse, FTexts, FShown. Each says what it proves, and its conditions.
-/
import Derived.Test.YtmjfkdpaeenfgaaGreatDoorG29
import Derived.Test.YtmjfkdpaeenfgaaGreatDoorG17
import Derived.BigQuiet
import Derived.Test.YtmjfkdpaeenfgaaGreatDoorG27
import Derived.KernelRfl
/-
  What filt.Print answers. Conditions: the package-level variables hold what the program's text lays.
-/
namespace Go.Proofs.YtmjfkdpaeenfgaaGreatDoor.F
open Go Go.RowKit Go.Shelf Fp
open Go.Proofs.YtmjfkdpaeenfgaaGreatDoor.D (hide unhide)
attribute [local go_sem] Oper.semAt_some

/-- what Print gives. -/
def prtF {n : Nat} (F : Fl (n + 1)) : Value := if right (n + 1) 6 F then .tuple #[.string ⟨(text (n + 1) F).toArray⟩, .int .i64 0] else .tuple #[.string ⟨#[]⟩, .int .i64 80]

set_option linter.unusedSimpArgs false in
set_option maxRecDepth 100000 in
set_option maxHeartbeats 2000000 in
theorem print_any (n : Nat) (F : Fl (n + 1)) (A : Ad) (w : World) (p : Nat → Prop) (d : Fd) (g : Glob A w) (hN : FNode (n + 1) w p d F) (hn : n ≤ 99) :
    Calls Tryz.prog 14 #[d.val] w fun e w' => e = .returned (prtF F) ∧ Below w.heap.size w w' := by
  have hb0 : Below w.heap.size w (w.alloc d.obj) := (Below.refl _ _).alloc (Nat.le_refl _) _
  have hbx := At.new w d
  have H := hide (check_any n F A (w.alloc d.obj) p d (g.alloc d.obj) (hN.below hb0) hn)
  have HT := hide fun (W : World) (B : Nat) (hb : Below w.heap.size w W) (hB : SignsAt W B) (hr : right (n + 1) 6 F = true) => text_any (n + 1) 6 F W p d B (Nat.le_refl _) hr (hN.below hb) hB
  have HG := hide g
  have HB := hide hb0
  have HX := hide hbx
  obtain ⟨k, a, v, sa, sn, sc, f, la, ln, lc⟩ := d
  unfold prtF
  cases hr : right (n + 1) 6 F
  · rw [hr] at H
    clear hN hb0 hbx g HT
    rw [if_neg (by simp)]
    go_enter Tryz.func14, Tryz.ntmps14
    go_wp2_with fail
    refine (unhide H).mono ?_
    rintro e w1 ⟨hb, hp⟩
    rw [if_neg (by simp)] at hp
    obtain ⟨u, rfl, hE⟩ := hp
    obtain ⟨T, x, rfl⟩ := hE.form
    have HB1 := hide ((unhide HB).trans (hb.mono (unhide HB).size))
    have HO := hide (errnoOf_any _ A w1 ((unhide HG).next (unhide HB1)) hE)
    clear hb hE H
    go_wp2_with fail
    refine (unhide HO).mono ?_
    rintro e w2 ⟨rfl, hb⟩
    have HB2 := hide ((unhide HB1).trans (hb.mono (unhide HB1).size))
    clear hb
    go_wp2
    go_ret2
    exact ⟨rfl, unhide HB2⟩
  · rw [hr] at H
    have HR := hide hr
    clear hN hb0 hbx g hr
    rw [if_pos rfl]
    obtain ⟨tx, htx⟩ : ∃ tx : ByteArray, tx = ⟨(text (n + 1) F).toArray⟩ := ⟨_, rfl⟩
    rw [← htx] at HT ⊢
    clear htx
    go_enter Tryz.func14, Tryz.ntmps14
    go_wp2_with fail
    refine (unhide H).mono ?_
    rintro e w1 ⟨hb, hp⟩
    rw [if_pos rfl] at hp
    subst hp
    have hB1 := (unhide HB).trans (hb.mono (unhide HB).size)
    have hS : At w1.drew w.heap.size 0 ⟨k, a, v, sa, sn, sc, f, la, ln, lc⟩ := ((unhide HX).of (hb.block _ (unhide HX).lt)).of rfl
    have HB1 := hide (show Below w.heap.size w w1.drew from hB1.drew)
    clear hb H hB1
    go_wp2_with fail
    refine wp_region_held (S := fun w' => At w' w.heap.size 0 ⟨k, a, v, sa, sn, sc, f, la, ln, lc⟩) (by kernel_rfl) ?_
    change wpAnyH _ _ _ _ _ 6 #[false, false, false, false, false, false] _ w1.drew
    refine wpAnyH_take (i := 2) (v := .agg #[.int .i64 k, .string a, .string v, .slice sa sn sc, .string f, .slice la ln lc]) rfl (by kernel_rfl) (by kernel_rfl) (by kernel_rfl) (fun _ _ _ h => h) (Or.inl ⟨by kernel_rfl, by
      intro w2 hS1
      obtain ⟨c0, c1, c2, c3, c4, c5⟩ := hS1
      dsimp only at c0 c1 c2 c3 c4 c5
      go_simp
      try rfl⟩) hS ?_
    simp only [Act.put, List.setIfInBounds_toArray, List.set_cons_zero, List.set_cons_succ, List.getElem_toArray, List.getElem_cons_zero, List.getElem_cons_succ]
    refine wpAnyH_ready (rs := [0]) (by kernel_rfl) (by simp) ?_
    refine AllReadyH.cons rfl (fun K hK => ?_) AllReadyH.nil
    rw [if_pos (by kernel_rfl)]
    go_wp2_with fail
    refine (signs_any _).mono ?_
    rintro e w2 ⟨rfl, hb, hsg⟩
    have hS2 : At w2 w.heap.size 0 ⟨k, a, v, sa, sn, sc, f, la, ln, lc⟩ := hS.of (hb.block _ hS.lt)
    have HB2 := hide ((unhide HB1).trans (hb.mono (unhide HB1).size))
    have HTT := hide ((unhide HT) w2 _ (unhide HB2) hsg (unhide HR))
    generalize w1.drew.heap.size = bb at *
    clear hb hsg HT
    go_wp2
    refine hK.out _ _ hS2 (fun _ => ?_)
    clear hK K
    simp only [Act.put, List.setIfInBounds_toArray, List.set_cons_zero, List.set_cons_succ, List.getElem_toArray, List.getElem_cons_zero, List.getElem_cons_succ]
    refine wpAnyH_take (i := 1) (v := .agg #[.map (some bb)]) rfl (by kernel_rfl) (by kernel_rfl) (by kernel_rfl) (fun _ _ _ h => h) (Or.inl ⟨by kernel_rfl, by intro w3 hS1; go_simp; try rfl⟩) hS2 ?_
    simp only [Act.put, List.setIfInBounds_toArray, List.set_cons_zero, List.set_cons_succ, List.getElem_toArray, List.getElem_cons_zero, List.getElem_cons_succ]
    refine wpAnyH_ready (rs := [3]) (by kernel_rfl) (by simp) ?_
    refine AllReadyH.cons rfl (fun K hK => ?_) AllReadyH.nil
    rw [if_pos (by kernel_rfl)]
    go_wp2_with fail
    refine (unhide HTT).mono ?_
    rintro e w3 ⟨rfl, hb⟩
    have hS3 : At w3 w.heap.size 0 ⟨k, a, v, sa, sn, sc, f, la, ln, lc⟩ := hS2.of (hb.block _ hS2.lt)
    have HB3 := hide ((unhide HB2).trans (hb.mono (unhide HB2).size))
    clear hb HTT
    go_wp2
    refine hK.out _ _ hS3 (fun _ => ?_)
    clear hK K
    simp only [Act.put, List.setIfInBounds_toArray, List.set_cons_zero, List.set_cons_succ, List.getElem_toArray, List.getElem_cons_zero, List.getElem_cons_succ]
    refine wpAnyH_take (i := 4) (v := .string tx) rfl (by kernel_rfl) (by kernel_rfl) (by kernel_rfl) (fun _ _ _ h => h) (Or.inl ⟨by kernel_rfl, by intro w4 hS1; go_simp; try rfl⟩) hS3 ?_
    simp only [Act.put, List.setIfInBounds_toArray, List.set_cons_zero, List.set_cons_succ, List.getElem_toArray, List.getElem_cons_zero, List.getElem_cons_succ]
    refine wpAnyH_take (i := 5) (v := .int .i64 0) rfl (by kernel_rfl) (by kernel_rfl) (by kernel_rfl) (fun _ _ _ h => h) (Or.inl ⟨by kernel_rfl, by intro w4 hS1; go_simp; try rfl⟩) hS3 ?_
    simp only [Act.put, List.setIfInBounds_toArray, List.set_cons_zero, List.set_cons_succ, List.getElem_toArray, List.getElem_cons_zero, List.getElem_cons_succ]
    refine wpAnyH_done (by kernel_rfl) ?_ _
    go_wp2
    go_ret2
    exact ⟨rfl, unhide HB3⟩
end Go.Proofs.YtmjfkdpaeenfgaaGreatDoor.F

/-
  What filt.Parse answers. Conditions: the package-level variables hold what the program's text lays; the pieces of the text that are read as values are not large ('Shrt').
-/
namespace Go.Proofs.YtmjfkdpaeenfgaaGreatDoor.F
open Go Go.RowKit Go.Shelf Fp
open Go.Proofs.YtmjfkdpaeenfgaaGreatDoor.D (hide unhide ext_list)
attribute [local go_sem] Oper.semAt_some

/-- what read leaves. -/
def ReadPost (A : Ad) (o : Option (Fl 8)) (w : World) (e : Ending) (w' : World) : Prop := Below w.heap.size w w' ∧ match o with
  | some F => ∃ d : Fd, e = .returned (.tuple #[d.val, .nilIface]) ∧ FNode 8 w' (fun b => w.heap.size ≤ b) d F
  | none => ∃ T x, e = .returned (.tuple #[zfd.val, .iface T x]) ∧ IsErr A (.iface T x)
/-- the reader's block, laid. -/
abbrev rdObj (s : ByteArray) (kb : Nat) : Obj := .cells #[.string s, .int .i64 0, .map (some kb)] 85
theorem env_first (A : Ad) (w w1 : World) (s : ByteArray) (kb : Nat) (g : Glob A w) (hb : Below w.heap.size w w1) (hk : KindsAt w1 kb) : Env A w w1.heap.size kb s 0 (w1.alloc (rdObj s kb)) := by
  have hk1 := hk.lt
  exact ⟨g, hb.alloc hb.size _, hb.size, ⟨World.alloc_heap_new w1 _⟩, hk.of (Below.heap_alloc _ _ _ hk1), by omega⟩
theorem rdT_none {l : List UInt8} (h : rdF 6 l = none) : rdT l = none := by unfold rdT; rw [h]
theorem rdT_more {l r : List UInt8} {F : Fl 8} (h : rdF 6 l = some (F, r)) (hr : r ≠ []) : rdT l = none := by
  unfold rdT; rw [h]
  cases r with
  | nil => exact absurd rfl hr
  | cons x xs => rfl
theorem rdT_some {l r : List UInt8} {F : Fl 8} (h : rdF 6 l = some (F, r)) (hr : r = []) : rdT l = some F := by
  unfold rdT; rw [h, hr]
set_option linter.unusedSimpArgs false in
set_option maxRecDepth 100000 in
set_option maxHeartbeats 2000000 in
theorem read_any (A : Ad) (s : ByteArray) (hS : Shrt s) (w : World) (g : Glob A w) :
    Calls Tryz.prog 35 #[.string s] w (ReadPost A (rdT s.data.toList) w) := by
  have HK := hide fun W => kinds_any W
  have Hg := hide g
  have HS := hide hS
  have hs := hS.1
  have hb0 : Below w.heap.size w (w.alloc zfd.obj) := (Below.refl _ _).alloc (Nat.le_refl _) _
  have hq0 : (w.alloc zfd.obj).heap[w.heap.size]? = some (.cells zfd.cs 25 (0, 0)) := World.alloc_heap_new _ _
  have hz0 : (w.alloc zfd.obj).heap.size = w.heap.size + 1 := by simp
  have H0 := hide (And.intro hb0 (And.intro hq0 hz0))
  clear g hS hb0 hq0 hz0
  go_enter Tryz.func35, Tryz.ntmps35
  go_wp2_with fail
  refine ((unhide HK) _).mono ?_
  rintro e w1 ⟨rfl, hb1, hk1⟩
  have hz0 : (w.alloc zfd.obj).heap.size = w.heap.size + 1 := (unhide H0).2.2
  have hb1' : Below w.heap.size w w1 := (unhide H0).1.trans (hb1.mono (by show w.heap.size ≤ (w.alloc zfd.obj).heap.size; omega))
  have hq1 : w1.heap[w.heap.size]? = some (.cells zfd.cs 25 (0, 0)) := (hb1.block _ (by show w.heap.size < (w.alloc zfd.obj).heap.size; omega)).trans (unhide H0).2.1
  have hE := env_first A w w1 s _ (unhide Hg) hb1' hk1
  have hR : w.heap.size < w1.heap.size := by have := hb1.size; show w.heap.size < w1.heap.size; have h2 : (w.alloc zfd.obj).heap.size ≤ w1.heap.size := this; omega
  have hF := filter_any A w w1.heap.size _ s (unhide HS) 6 1 (by omega) (by omega) 0 _ hE (Nat.zero_le _)
  rw [List.drop_zero] at hF
  have HF := hide hF
  have HE := hide hE
  have H1 := hide (And.intro hb1' hq1)
  clear hb1 hk1 hb1' hq1 hE hF hz0
  generalize (w.alloc zfd.obj).heap.size = kb at *
  go_wp2_with fail
  refine (unhide HF).mono ?_
  rintro e w2 ⟨hb2, h2⟩
  have hmx : Tryz.prog.follows .mixedOrders = true := by kernel_rfl
  have HC := hide fun W => end_any s W
  obtain ⟨hb1, hq1⟩ := unhide H1
  have hb3 := hb1.trans ((((Below.refl w1.heap.size w1).alloc (Nat.le_refl _) (rdObj s kb)).mono (by omega)).trans (hb2.below (B := w.heap.size) (by omega) (by simp)))
  have hq2 : w2.heap[w.heap.size]? = some (.cells zfd.cs 25 (0, 0)) := (hb2.block _ (by simp; omega) (by omega)).trans ((Below.heap_alloc _ _ _ hR).trans hq1)
  have hz2 : w1.heap.size < w2.heap.size := by have := hb2.size; simp at this; omega
  have hE2 := unhide HE
  have HB := hide (And.intro hb3 hq2)
  clear hb1 hq1 hb3 hq2 H1 HF
  cases ho : rdF 6 s.data.toList with
  | none =>
    rw [ho] at h2
    obtain ⟨⟨dk, da, dv, dsa, dsn, dsc, df, dla, dln, dlc⟩, T, x, rfl, hEr⟩ := h2
    have HEr := hide hEr
    have Ho := hide ho
    clear ho hEr hb2 hE2 HE
    go_wp2_with fail
    obtain ⟨V, hV⟩ : ∃ V, V = w2.alloc (Fd.obj ⟨dk, da, dv, dsa, dsn, dsc, df, dla, dln, dlc⟩) := ⟨_, rfl⟩
    have hb2V : Below w2.heap.size w2 V := by rw [hV]; exact (Below.refl _ _).alloc (Nat.le_refl _) _
    have hBV := hide (And.intro ((unhide HB).1.trans (hb2V.mono (unhide HB).1.size)) ((hb2V.block _ (by omega)).trans (unhide HB).2))
    have hVz : w.heap.size < V.heap.size := by have := hb2V.size; omega
    change Code.wp _ _ _ _ (w2.alloc (Fd.obj ⟨dk, da, dv, dsa, dsn, dsc, df, dla, dln, dlc⟩))
    rw [← hV]
    clear hV hb2V HB H0
    have hne : Nonempty (Kw V) := kwNonempty V
    refine wp_region_kw0 (by kernel_rfl) (by kernel_rfl) ?_
    repeat (go_big_quiet_step (first | with_reducible exact (unhide HC) _))
    refine wpQuiet_nil ?_
    rintro w' ⟨z, rfl⟩
    have hq := (z.b.block _ hVz).trans (unhide hBV).2
    have hbw := (unhide hBV).1.trans (z.b.mono (unhide hBV).1.size)
    obtain ⟨⟨c0, c1, c2, c3, c4, c5⟩, g0, g1, g2, g3, g4, g5⟩ := box6 hq
    dsimp only at c0 c1 c2 c3 c4 c5
    have HQ := hide (And.intro hbw (And.intro (unhide HEr) (And.intro hq (unhide Ho))))
    have hwz : w.heap.size < z.w.heap.size := (Array.getElem?_eq_some_iff.1 hq).1
    generalize z.w = W3 at *
    clear hne hBV hVz HC HEr hq hbw
    go_wp2
    obtain ⟨hbw, hEr, hq, ho⟩ := unhide HQ
    refine bodyPost_ret (v := .tuple #[zfd.val, .iface T x]) (by simp [results, Tryz.results35, go_sem, c0, c1, c2, c3, c4, c5]) rfl ?_
    rw [rdT_none ho]
    have hb := set6_but W3 w.heap.size zfd
    exact ⟨hbw.trans (hb.below (Nat.le_refl _) hwz), T, x, rfl, hEr⟩
  | some Fr =>
    obtain ⟨F, r⟩ := Fr
    rw [ho] at h2
    obtain ⟨⟨dk, da, dv, dsa, dsn, dsc, df, dla, dln, dlc⟩, rfl, hN, q, hr2, hq, hrd⟩ := h2
    subst hrd
    have hE3 := hE2.but hb2 hr2
    have Ho := hide ho
    have HN := hide (And.intro hE3 hN)
    clear ho hb2 hE2 HE hN hr2 hE3
    go_wp2_with fail
    obtain ⟨V, hV⟩ : ∃ V, V = w2.alloc (Fd.obj ⟨dk, da, dv, dsa, dsn, dsc, df, dla, dln, dlc⟩) := ⟨_, rfl⟩
    have hb2V : Below w2.heap.size w2 V := by rw [hV]; exact (Below.refl _ _).alloc (Nat.le_refl _) _
    have hBV := hide (And.intro ((unhide HB).1.trans (hb2V.mono (unhide HB).1.size)) ((hb2V.block _ (by omega)).trans (unhide HB).2))
    have hVz : w.heap.size < V.heap.size := by have := hb2V.size; omega
    have hdb : V.heap[w2.heap.size]? = some (.cells (Fd.cs ⟨dk, da, dv, dsa, dsn, dsc, df, dla, dln, dlc⟩) 25 (0, 0)) := by rw [hV]; exact World.alloc_heap_new _ _
    have hEV := (unhide HN).1.below hb2V
    have hNV := (unhide HN).2.below hb2V
    change Code.wp _ _ _ _ (w2.alloc (Fd.obj ⟨dk, da, dv, dsa, dsn, dsc, df, dla, dln, dlc⟩))
    rw [← hV]
    clear hV hb2V HB H0 HN
    obtain ⟨⟨k0, k1, k2⟩, f1⟩ := hEV.r.cells
    have q0 := fun z : Kw V => Kw.cell z k0 (D.lt_cell k0)
    have q1 := fun z : Kw V => Kw.cell z k1 (D.lt_cell k1)
    have hne : Nonempty (Kw V) := kwNonempty V
    have HN := hide (And.intro hEV (And.intro hNV hdb))
    clear hEV hNV hdb k0 k1 k2 f1
    have HC := hide fun z : Kw V => z.call (end_any s z.w)
    by_cases hlt : q < s.size
    · have hlti : (q : Int) < s.size := by omega
      refine wp_region_kw0 (by kernel_rfl) (by kernel_rfl) ?_
      repeat (go_big_quiet_step (first | with_reducible exact (unhide HC) _))
      refine wpQuiet_nil ?_
      rintro w' ⟨z, rfl⟩
      have hq4 := (z.b.block _ hVz).trans (unhide hBV).2
      have hbw := (unhide hBV).1.trans (z.b.mono (unhide hBV).1.size)
      obtain ⟨⟨c0, c1, c2, c3, c4, c5⟩, g0, g1, g2, g3, g4, g5⟩ := box6 hq4
      dsimp only at c0 c1 c2 c3 c4 c5
      have hwz : w.heap.size < z.w.heap.size := (Array.getElem?_eq_some_iff.1 hq4).1
      have hE4 := (unhide HN).1.below z.b
      obtain ⟨⟨k0, k1, k2⟩, f1⟩ := hE4.r.cells
      have hmo := hE4.glob.vmo
      have HQ := hide (And.intro hbw (And.intro hq4 (unhide Ho)))
      generalize z.w = W3 at *
      clear hne q0 q1 hBV hVz HC HN hq4 hbw hE4 hlti
      go_wp2
      obtain ⟨hbw, hq4, ho⟩ := unhide HQ
      refine bodyPost_ret (v := .tuple #[zfd.val, flt q (sen A.mo)]) (by simp [results, Tryz.results35, go_sem, c0, c1, c2, c3, c4, c5]) rfl ?_
      rw [rdT_more ho (by
        intro e
        have := congrArg List.length e
        rw [List.length_drop, Array.length_toList] at this
        have h2 : s.data.size = s.size := rfl
        simp at this
        omega)]
      have hb := set6_but W3 w.heap.size zfd
      exact ⟨hbw.trans (hb.below (Nat.le_refl _) hwz), _, _, rfl, (IsErr.sen (isS_mo A)).wrap _⟩
    · have hlti : ¬ (q : Int) < s.size := by omega
      refine wp_region_kw0 (by kernel_rfl) (by kernel_rfl) ?_
      repeat (go_big_quiet_step (first | with_reducible exact (unhide HC) _))
      refine wpQuiet_nil ?_
      rintro w' ⟨z, rfl⟩
      have hq4 := (z.b.block _ hVz).trans (unhide hBV).2
      have hbw := (unhide hBV).1.trans (z.b.mono (unhide hBV).1.size)
      obtain ⟨⟨c0, c1, c2, c3, c4, c5⟩, g0, g1, g2, g3, g4, g5⟩ := box6 hq4
      dsimp only at c0 c1 c2 c3 c4 c5
      have hwz : w.heap.size < z.w.heap.size := (Array.getElem?_eq_some_iff.1 hq4).1
      have hdb := (z.b.block _ (Array.getElem?_eq_some_iff.1 (unhide HN).2.2).1).trans (unhide HN).2.2
      obtain ⟨⟨k0, k1, k2, k3, k4, k5⟩, _⟩ := box6 hdb
      dsimp only at k0 k1 k2 k3 k4 k5
      have HQ := hide (And.intro hbw (And.intro hq4 (And.intro (unhide Ho) ((unhide HN).2.1.below z.b))))
      generalize z.w = W3 at *
      clear hne q0 q1 hBV hVz HC HN hq4 hbw hlti hdb
      go_wp2
      obtain ⟨hbw, hq4, ho, hN⟩ := unhide HQ
      refine bodyPost_ret (v := .tuple #[Fd.val ⟨dk, da, dv, dsa, dsn, dsc, df, dla, dln, dlc⟩, .nilIface]) (by simp [results, Tryz.results35, go_sem, c0, c1, c2, c3, c4, c5]) rfl ?_
      rw [rdT_some ho (by rw [List.drop_eq_nil_iff, Array.length_toList]; have h2 : s.data.size = s.size := rfl; omega)]
      have hb := set6_but W3 w.heap.size ⟨dk, da, dv, dsa, dsn, dsc, df, dla, dln, dlc⟩
      exact ⟨hbw.trans (hb.below (Nat.le_refl _) hwz), _, rfl, (hN.of fun b h1 h2 => hb.block b h2 (by simp at h1; omega)).imp fun b h1 _ => by simp at h1; omega⟩
/-- what Parse gives. -/
def ParsePost (o : Option (Fl 8)) (w : World) (e : Ending) (w' : World) : Prop := Below w.heap.size w w' ∧ match o with
  | some F => ∃ d : Fd, e = .returned (.tuple #[d.val, .int .i64 0]) ∧ FNode 8 w' (fun b => w.heap.size ≤ b) d F
  | none => e = .returned (.tuple #[zfd.val, .int .i64 80])
set_option linter.unusedSimpArgs false in
set_option maxRecDepth 100000 in
set_option maxHeartbeats 2000000 in
theorem parse_any (A : Ad) (s : ByteArray) (hS : Shrt s) (w : World) (g : Glob A w) :
    Calls Tryz.prog 16 #[.string s] w (ParsePost (rdT s.data.toList) w) := by
  have hb0 : Below w.heap.size w (w.alloc zfd.obj) := (Below.refl _ _).alloc (Nat.le_refl _) _
  have hq0 : (w.alloc zfd.obj).heap[w.heap.size]? = some (.cells zfd.cs 25 (0, 0)) := World.alloc_heap_new _ _
  have HR := hide (read_any A s hS (w.alloc zfd.obj) (g.alloc _))
  have hz0 : (w.alloc zfd.obj).heap.size = w.heap.size + 1 := by simp
  have H0 := hide (And.intro hb0 (And.intro hq0 (And.intro hz0 g)))
  generalize ho : rdT s.data.toList = o at *
  clear g hS hb0 hq0 hz0 ho
  go_enter Tryz.func16, Tryz.ntmps16
  go_wp2_with fail
  refine (unhide HR).mono ?_
  rintro e w1 ⟨hb1, h1⟩
  obtain ⟨hb0, hq0, hz0, g⟩ := unhide H0
  have hb1' : Below w.heap.size w w1 := hb0.trans (hb1.mono (by omega))
  have hq1 : w1.heap[w.heap.size]? = some (.cells zfd.cs 25 (0, 0)) := (hb1.block _ (by omega)).trans hq0
  have hz1 : w.heap.size < w1.heap.size := (Array.getElem?_eq_some_iff.1 hq1).1
  have hN1 : ∀ d F, FNode 8 w1 (fun b => (w.alloc zfd.obj).heap.size ≤ b) d F → FNode 8 w1 (fun b => w.heap.size + 1 ≤ b) d F := fun d F h => by rwa [hz0] at h
  have g1 := g.next hb1'
  cases o with
  | none =>
    obtain ⟨T, x, rfl, hE⟩ := h1
    have HX := hide (And.intro hb1' (And.intro hq1 hz1))
    have HO := hide fun (W : World) (h : Below w1.heap.size w1 W) => errnoOf_any _ A W (g1.next h) hE
    clear HR H0 hb0 hq0 hz0 g hb1' hq1 hz1 hN1 hb1 hE g1
    go_wp2_with fail
    refine ((unhide HO) _ ((Below.refl _ _).alloc (Nat.le_refl _) _)).mono ?_
    rintro e w2 ⟨rfl, hb⟩
    obtain ⟨hb1', hq1, hz1⟩ := unhide HX
    have hb2 : Below w1.heap.size w1 w2 := ((Below.refl w1.heap.size w1).alloc (Nat.le_refl _) _).trans (hb.mono (by simp))
    have hq2 := (hb2.block _ hz1).trans hq1
    obtain ⟨⟨c0, c1, c2, c3, c4, c5⟩, g0, g1, g2, g3, g4, g5⟩ := box6 hq2
    dsimp only at c0 c1 c2 c3 c4 c5
    have HF := hide (And.intro (hb1'.trans (hb2.mono hb1'.size)) (Nat.lt_of_lt_of_le hz1 hb2.size))
    clear hb hb1' hq1 hz1 hb2 hq2 HX HO
    go_wp2
    obtain ⟨hb2, hz2⟩ := unhide HF
    refine bodyPost_ret (v := .tuple #[zfd.val, .int .i64 80]) (by simp [results, Tryz.results16, go_sem, c0, c1, c2, c3, c4, c5]) rfl ?_
    exact ⟨hb2.trans ((set6_but w2 w.heap.size zfd).below (Nat.le_refl _) hz2), rfl⟩
  | some F =>
    obtain ⟨⟨dk, da, dv, dsa, dsn, dsc, df, dla, dln, dlc⟩, rfl, hN⟩ := h1
    have hN := hN1 _ _ hN
    have hal : Below w1.heap.size w1 (w1.alloc (Fd.obj ⟨dk, da, dv, dsa, dsn, dsc, df, dla, dln, dlc⟩)) := (Below.refl _ _).alloc (Nat.le_refl _) _
    have hq2 := (hal.block _ hz1).trans hq1
    have hdb : (w1.alloc (Fd.obj ⟨dk, da, dv, dsa, dsn, dsc, df, dla, dln, dlc⟩)).heap[w1.heap.size]? = some (.cells (Fd.cs ⟨dk, da, dv, dsa, dsn, dsc, df, dla, dln, dlc⟩) 25 (0, 0)) := World.alloc_heap_new _ _
    have hb2 := hb1'.trans (hal.mono hb1'.size)
    have hz2 : w.heap.size < (w1.alloc (Fd.obj ⟨dk, da, dv, dsa, dsn, dsc, df, dla, dln, dlc⟩)).heap.size := Nat.lt_of_lt_of_le hz1 hal.size
    have hN2 := hN.below hal
    have HF := hide (And.intro hb2 (And.intro hz2 hN2))
    obtain ⟨⟨c0, c1, c2, c3, c4, c5⟩, g0, g1, g2, g3, g4, g5⟩ := box6 hq2
    obtain ⟨⟨k0, k1, k2, k3, k4, k5⟩, _⟩ := box6 hdb
    dsimp only at c0 c1 c2 c3 c4 c5 k0 k1 k2 k3 k4 k5
    clear HR H0 hb0 hq0 hz0 g hb1' hq1 hz1 hN1 hb1 hN hal hq2 hdb hb2 hz2 hN2
    go_wp2
    obtain ⟨hb2, hz2, hN2⟩ := unhide HF
    refine bodyPost_ret (v := .tuple #[Fd.val ⟨dk, da, dv, dsa, dsn, dsc, df, dla, dln, dlc⟩, .int .i64 0]) (by simp [results, Tryz.results16, go_sem, c0, c1, c2, c3, c4, c5]) rfl ?_
    have hb := set6_but (w1.alloc (Fd.obj ⟨dk, da, dv, dsa, dsn, dsc, df, dla, dln, dlc⟩)) w.heap.size ⟨dk, da, dv, dsa, dsn, dsc, df, dla, dln, dlc⟩
    exact ⟨hb2.trans (hb.below (Nat.le_refl _) hz2), _, rfl, (hN2.of fun b h1 h2 => hb.block b h2 (by omega)).imp fun b h1 _ => by omega⟩
end Go.Proofs.YtmjfkdpaeenfgaaGreatDoor.F

/-
  What the document's Texts answers: are two lists of texts the same? Conditions: none.
-/
namespace Go.Proofs.YtmjfkdpaeenfgaaGreatDoor.F
open Go Go.RowKit Go.Shelf Fp
open Go.Proofs.YtmjfkdpaeenfgaaGreatDoor.D (hide unhide)

/-- a list of texts lies at a value. -/
def TxL (W : World) (v : Value) (xs : List ByteArray) : Prop := ∃ a c, v = .slice a xs.length c ∧ Strs W (fun _ => True) a xs
theorem TxL.below {W W' : World} {v : Value} {xs : List ByteArray} (h : TxL W v xs) (hb : Below W.heap.size W W') : TxL W' v xs := by
  obtain ⟨a, c, e, h⟩ := h
  exact ⟨a, c, e, h.of fun b _ hl => hb.block b hl⟩
theorem below_drewN {B : Nat} {u w : World} (h : Below B u w) (n : Nat) : Below B u (w.drewN n) := ⟨h.os, h.tape, h.output, h.size, h.block⟩
theorem prefix_eq {A B : List ByteArray} (hl : A.length = B.length) (h : ∀ j, j < A.length → A[j]? = B[j]?) : A = B := by
  apply List.ext_getElem?
  intro i
  rcases Nat.lt_or_ge i A.length with hi | hi
  · exact h i hi
  · rw [List.getElem?_eq_none hi, List.getElem?_eq_none (by omega)]

set_option maxRecDepth 10000000 in
set_option maxHeartbeats 2000000 in
theorem texts_any (A B : List ByteArray) (u v : Value) (w : World) (hA : A.length ≤ 100000) (hB : B.length ≤ 100000) (hu : TxL w u A) (hv : TxL w v B) :
    Calls Tryz.prog 22 #[u, v] w fun e w' => e = .returned (.bool (decide (A = B))) ∧ Below w.heap.size w w' := by
  obtain ⟨a, c, rfl, hc⟩ := hu
  obtain ⟨a', c', rfl, hc'⟩ := hv
  by_cases hn : A.length = B.length
  · rw [← hn]
    have hAi : (A.length : Int) ≤ 100000 := by omega
    go_enter Tryz.func22, Tryz.ntmps22
    go_wp2
    go_loopw [5] (fun ix wr => ∃ j : Nat, j ≤ A.length ∧ ix = .int .i64 (j : Int) ∧ (∀ i, i < j → A[i]? = B[i]?) ∧ Below w.heap.size w wr)
      (fun ix _ => A.length - (intOf ix).toNat)
    case atStart =>
      exact ⟨0, Nat.zero_le _, rfl, fun i h => by omega, Below.refl _ _⟩
    case round =>
      obtain ⟨j, hj, rfl, hpre, hb⟩ := hrel
      by_cases hlt : j < A.length
      · obtain ⟨x, hx⟩ : ∃ n, A[j]? = some n := ⟨_, List.getElem?_eq_getElem hlt⟩
        obtain ⟨y, hy⟩ : ∃ n, B[j]? = some n := ⟨_, List.getElem?_eq_getElem (by omega)⟩
        obtain ⟨b, o, rfl, hcell⟩ : ∃ b o, a = some ⟨b, o, none⟩ ∧ ∀ (i : Nat) n, A[i]? = some n → w.cell? ⟨b, o + i, none⟩ = some (.string n) := by
          rcases hc with rfl | ⟨b, o, h1, _, h2⟩
          · simp at hlt
          · exact ⟨b, o, h1, h2⟩
        obtain ⟨b', o', rfl, hcell'⟩ : ∃ b o, a' = some ⟨b, o, none⟩ ∧ ∀ (i : Nat) n, B[i]? = some n → w.cell? ⟨b, o + i, none⟩ = some (.string n) := by
          rcases hc' with rfl | ⟨b, o, h1, _, h2⟩
          · exact absurd hlt (by rw [hn]; simp)
          · exact ⟨b, o, h1, h2⟩
        have hcj : wr.cell? ⟨b, o + j, none⟩ = some (.string x) := (hb.cell (D.lt_cell (hcell j x hx))).trans (hcell j x hx)
        have hcj' : wr.cell? ⟨b', o' + j, none⟩ = some (.string y) := (hb.cell (D.lt_cell (hcell' j y hy))).trans (hcell' j y hy)
        have hlt' : (j : Int) < A.length := by omega
        have Hpre := hide hpre
        have HB := hide hb
        have Hx := hide hx
        have Hy := hide hy
        have Hn := hide hn
        clear hpre hb hx hy hcell hcell' hc hc' hn hB
        by_cases hxy : x = y
        · skip
          have t1 : (x.toList == y.toList) = true := by simp [hxy]
          have Hxy := hide hxy
          clear hxy
          go_wp2
          go_quiet (fail)
          go_wp2
          go_roundw
          case rel =>
            refine ⟨j + 1, by omega, by simp, fun i hi => ?_, below_drewN (unhide HB) _⟩
            by_cases e : i = j
            · subst e; rw [unhide Hx, unhide Hy, unhide Hxy]
            · exact unhide Hpre i (by omega)
          case measure => simp [intOf]; omega
        · skip
          have t1 : (x.toList == y.toList) = false := by rw [beq_eq_false_iff_ne, ByteArray.toList_eq, ByteArray.toList_eq]; exact fun e => hxy (ByteArray.ext (Array.toList_inj.1 e))
          have Hxy := hide hxy
          clear hxy
          go_wp2
          go_quiet (fail)
          go_wp2
          go_ret
          refine ⟨?_, below_drewN (unhide HB) _⟩
          rw [decide_eq_false]
          · rfl
          · intro e
            have hx := unhide Hx
            have hy := unhide Hy
            rw [e, hy] at hx
            exact unhide Hxy (Option.some.inj hx).symm
      · have hge : ¬ (j : Int) < A.length := by omega
        have hAB : A = B := prefix_eq hn (fun i hi => hpre i (by omega))
        have HB := hide hb
        have HAB := hide hAB
        clear hpre hb hAB hc hc' hn
        go_wp2
        go_ret
        refine ⟨?_, unhide HB⟩
        rw [decide_eq_true (unhide HAB)]
        rfl
  · have t0 : ((A.length : Int) != (B.length : Int)) = true := by simp; omega
    have hne : A ≠ B := fun e => hn (by rw [e])
    rw [decide_eq_false hne]
    clear hc hc' hn hne
    go_enter Tryz.func22, Tryz.ntmps22
    go_wp2
    go_ret
    exact ⟨rfl, Below.refl _ _⟩
end Go.Proofs.YtmjfkdpaeenfgaaGreatDoor.F

/-
  The law file's shown() and cut(). Conditions: the package-level variables hold what the program's text lays.
-/
namespace Go.Proofs.YtmjfkdpaeenfgaaGreatDoor.F
open Go Go.RowKit Go.Shelf Fp
open Go.Proofs.YtmjfkdpaeenfgaaGreatDoor.D (hide unhide ext_list)
attribute [local go_sem] Oper.semAt_some

theorem step {w w1 w2 : World} (h : Below w.heap.size w w1) (k : Below w1.heap.size w1 w2) : Below w.heap.size w w2 := h.trans (k.mono h.size)
/-- the filter that is shown. -/
def x0F {n : Nat} : Fl (n + 1) := mk 4 ⟨#[98]⟩ ⟨#[120]⟩ [] ⟨#[121]⟩ []
def x1F {n : Nat} : Fl (n + 1) := mk 3 ⟨#[97]⟩ ⟨#[49]⟩ [] ⟨#[]⟩ []
def x2F {n : Nat} : Fl (n + 2) := mk 2 ⟨#[]⟩ ⟨#[]⟩ [] ⟨#[]⟩ [x0F]
def xF : Fl 8 := mk 0 ⟨#[]⟩ ⟨#[]⟩ [] ⟨#[]⟩ [x1F, x2F]
abbrev xS : ByteArray := ⟨#[40, 38, 40, 97, 61, 49, 41, 40, 33, 40, 98, 61, 120, 42, 121, 41, 41, 41]⟩
theorem xF_prt : prtF xF = .tuple #[.string xS, .int .i64 0] := by kernel_rfl
theorem xF_rd : rdT xS.data.toList = some xF := by kernel_rfl
theorem xF_right : right 8 6 xF = true := by kernel_rfl
theorem xF_names : names 8 xF = [⟨#[97]⟩, ⟨#[98]⟩] := by kernel_rfl
theorem xF_same : same 8 xF xF = true := by kernel_rfl
abbrev yS : ByteArray := ⟨#[40, 97, 61, 42, 41]⟩
def yF : Fl 8 := mk 7 ⟨#[97]⟩ ⟨#[]⟩ [] ⟨#[]⟩ []
theorem yF_rd : rdT yS.data.toList = some yF := by kernel_rfl
theorem zF_rd : rdT (⟨#[40, 97, 61, 42, 42, 41]⟩ : ByteArray).data.toList = none := by kernel_rfl
theorem nm_yes : okName ⟨#[99, 110, 59, 108, 97, 110, 103, 45, 100, 101]⟩ = true := by kernel_rfl
theorem nm_no : okName ⟨#[99, 110, 59]⟩ = false := by kernel_rfl
abbrev d0F : Fd := ⟨4, ⟨#[98]⟩, ⟨#[120]⟩, none, 0, 0, ⟨#[121]⟩, none, 0, 0⟩
abbrev d1F : Fd := ⟨3, ⟨#[97]⟩, ⟨#[49]⟩, none, 0, 0, ⟨#[]⟩, none, 0, 0⟩
abbrev d2F (b : Nat) : Fd := ⟨2, ⟨#[]⟩, ⟨#[]⟩, none, 0, 0, ⟨#[]⟩, some ⟨b, 0, none⟩, 1, 1⟩
abbrev dxF (b : Nat) : Fd := ⟨0, ⟨#[]⟩, ⟨#[]⟩, none, 0, 0, ⟨#[]⟩, some ⟨b + 1, 0, none⟩, 2, 2⟩
theorem sm_mk {n : Nat} {k : Int} {a v f : ByteArray} {l : List (Fl n)} (ha : a.size ≤ 60) (hv : v.size ≤ 60) (hf : f.size ≤ 60) (hl : l.length ≤ 10) : Sm (mk k a v [] f l) :=
  ⟨by rw [nm_mk]; omega, by rw [va_mk]; omega, by rw [fi_mk]; omega, by simp, (fun x hx => by cases hx), by rw [ls_mk]; omega⟩
theorem xF_lies {W : World} {b : Nat} (h0 : W.heap[b]? = some (.cells d0F.cs 25 (0, 0))) (h1 : W.heap[b + 1]? = some (.cells (d1F.cs ++ (d2F b).cs) 25 (0, 0))) :
    FNode 8 W (fun _ => True) (dxF b) xF := by
  have hN0 : ∀ n, FNode (n + 1) W (fun _ => True) d0F x0F := fun n => ⟨⟨rfl, rfl, rfl, rfl, rfl, rfl⟩, sm_mk (by decide) (by decide) (by decide) (by simp), .inl rfl, .inl rfl⟩
  have hN1 : ∀ n, FNode (n + 1) W (fun _ => True) d1F x1F := fun n => ⟨⟨rfl, rfl, rfl, rfl, rfl, rfl⟩, sm_mk (by decide) (by decide) (by decide) (by simp), .inl rfl, .inl rfl⟩
  have hN2 : ∀ n, FNode (n + 2) W (fun _ => True) (d2F b) x2F := fun n => ⟨⟨rfl, rfl, rfl, rfl, rfl, rfl⟩, sm_mk (by decide) (by decide) (by decide) (by simp), .inl rfl, .inr ⟨b, 0, rfl, trivial, fun i F hF => by
    match i, hF with
    | 0, hF => cases hF; exact ⟨d0F, At.box h0, hN0 _⟩⟩⟩
  refine ⟨⟨rfl, rfl, rfl, rfl, rfl, rfl⟩, sm_mk (by decide) (by decide) (by decide) (by simp), .inl rfl, .inr ⟨b + 1, 0, rfl, trivial, fun i F hF => ?_⟩⟩
  match i, hF with
  | 0, hF => cases hF; exact ⟨d1F, ⟨by simp [World.cell?, h1], by simp [World.cell?, h1], by simp [World.cell?, h1], by simp [World.cell?, h1], by simp [World.cell?, h1], by simp [World.cell?, h1]⟩, hN1 _⟩
  | 1, hF => cases hF; exact ⟨d2F b, ⟨by simp [World.cell?, h1], by simp [World.cell?, h1], by simp [World.cell?, h1], by simp [World.cell?, h1], by simp [World.cell?, h1], by simp [World.cell?, h1]⟩, hN2 _⟩
/-- short texts have short pieces. -/
theorem pc_small {q : List UInt8} (h : q.length ≤ 1000) : Pc q := by
  refine ⟨by omega, ?_⟩
  cases hc : cutB 61 q with
  | none => trivial
  | some x =>
    obtain ⟨a, t⟩ := x
    obtain ⟨e, _⟩ := cutB_some 61 _ _ _ hc
    have hl := congrArg List.length e
    rw [List.length_append, List.length_cons] at hl
    show if (kindOf a).2 = 3 then ∀ q ∈ spl 42 t, q.length ≤ 1000 else t.length ≤ 1000
    split
    · intro y hy
      have := spl_small 42 t y hy
      omega
    · omega
theorem shrt_small {s : ByteArray} (h : s.size ≤ 1000) : Shrt s := by
  refine ⟨by omega, fun p hp _ _ q c hc => pc_small ?_⟩
  obtain ⟨e, _⟩ := cutB_some 41 _ _ _ hc
  have hl := congrArg List.length e
  rw [List.length_append, List.length_cons, List.length_drop, Array.length_toList] at hl
  have h2 : s.data.size = s.size := rfl
  omega
/-- the world in which the filter lies that is shown. -/
structure ShF (w W : World) : Prop where
  bel : Below w.heap.size w W
  b0 : W.heap[w.heap.size]? = some (.cells d0F.cs 25 (0, 0))
  b1 : W.heap[w.heap.size + 1]? = some (.cells (d1F.cs ++ (d2F w.heap.size).cs) 25 (0, 0))
  b2 : W.heap[w.heap.size + 1 + 1]? = some (.cells (dxF w.heap.size).cs 25 (0, 0))
theorem ShF.next {w W V : World} (h : ShF w W) (hb : Below W.heap.size W V) : ShF w V :=
  ⟨h.bel.trans (hb.mono h.bel.size), (hb.block _ (Array.getElem?_eq_some_iff.1 h.b0).1).trans h.b0, (hb.block _ (Array.getElem?_eq_some_iff.1 h.b1).1).trans h.b1, (hb.block _ (Array.getElem?_eq_some_iff.1 h.b2).1).trans h.b2⟩
theorem ShF.alloc {w W : World} (h : ShF w W) (o : Obj) : ShF w (W.alloc o) := h.next ((Below.refl _ _).alloc (Nat.le_refl _) _)
theorem ShF.first (w : World) : ShF w (((w.alloc d0F.obj).alloc (.cells (d1F.cs ++ (d2F w.heap.size).cs) 25)).alloc (dxF w.heap.size).obj) := by
  refine ⟨(((Below.refl _ _).alloc (Nat.le_refl _) _).alloc (by simp) _).alloc (by simp; omega) _, ?_, ?_, ?_⟩
  · rw [Below.heap_alloc _ _ _ (by simp; omega), Below.heap_alloc _ _ _ (by simp)]; exact World.alloc_heap_new w _
  · rw [Below.heap_alloc _ _ _ (by simp)]
    have := World.alloc_heap_new (w.alloc d0F.obj) (.cells (d1F.cs ++ (d2F w.heap.size).cs) 25)
    rwa [World.size_alloc] at this
  · have := World.alloc_heap_new ((w.alloc d0F.obj).alloc (.cells (d1F.cs ++ (d2F w.heap.size).cs) 25)) (dxF w.heap.size).obj
    rwa [World.size_alloc, World.size_alloc] at this
theorem ShF.lies {w W : World} (h : ShF w W) : FNode 8 W (fun _ => True) (dxF w.heap.size) xF := xF_lies h.b0 h.b1
theorem txl_of {W : World} {b n : Nat} {v : Value} {xs : List ByteArray} (h : W.ownsRow b 9 1 v n (strs xs)) (hn : n = xs.length) : TxL W v xs := by
  subst hn
  obtain ⟨sa, sc, e, hs⟩ := own_strs h rfl
  exact ⟨sa, sc, e, hs.imp fun _ _ _ => trivial⟩
set_option linter.unusedSimpArgs false in
set_option maxRecDepth 100000 in
set_option maxHeartbeats 4000000 in
theorem shown_true (A : Ad) (w : World) (g : Glob A w) : Calls Tryz.prog 11 #[] w fun e w' => e = .returned (.bool true) ∧ Below w.heap.size w w' := by
  have hp := fun W (h : ShF w W) => print_any 7 xF A W _ _ (g.below (Nat.le_refl _) h.bel) h.lies (by omega)
  rw [xF_prt] at hp
  have e1 := hide hp
  have hpa := fun W (h : ShF w W) => parse_any A xS (shrt_small (by decide)) W (g.below (Nat.le_refl _) h.bel)
  rw [xF_rd] at hpa
  have e2 := hide hpa
  have hpb := fun W (h : ShF w W) => parse_any A yS (shrt_small (by decide)) W (g.below (Nat.le_refl _) h.bel)
  rw [yF_rd] at hpb
  have e3 := hide hpb
  have hpc := fun W (h : ShF w W) => parse_any A ⟨#[40, 97, 61, 42, 42, 41]⟩ (shrt_small (by decide)) W (g.below (Nat.le_refl _) h.bel)
  rw [zF_rd] at hpc
  have e4 := hide hpc
  have hnm := fun W (h : ShF w W) => names_any 7 xF A W _ _ (g.below (Nat.le_refl _) h.bel) h.lies (by omega)
  rw [xF_right, if_pos rfl, xF_names] at hnm
  have e5 := hide hnm
  have e6 := hide fun W => isName_any ⟨#[99, 110, 59, 108, 97, 110, 103, 45, 100, 101]⟩ W
  rw [nm_yes] at e6
  have e7 := hide fun W => isName_any ⟨#[99, 110, 59]⟩ W
  rw [nm_no] at e7
  clear hp hpa hpb hpc hnm g
  go_enter Tryz.func11, Tryz.ntmps11
  go_wp2_with fail
  have h1 := ShF.first w
  refine ((unhide e1) _ h1).mono ?_
  rintro e w1 ⟨rfl, hb⟩
  have H1 := hide (h1.next hb)
  clear hb h1 e1
  go_wp2_with fail
  refine ((unhide e2) _ (unhide H1)).mono ?_
  rintro e w2 ⟨hb, ⟨dk, da, dv, dsa, dsn, dsc, df, dla, dln, dlc⟩, rfl, hN⟩
  have h2 := (unhide H1).next hb
  have hal := (Below.refl w2.heap.size w2).alloc (Nat.le_refl _) (Fd.obj ⟨dk, da, dv, dsa, dsn, dsc, df, dla, dln, dlc⟩)
  have Y2 := hide (And.intro (hN.below hal) (World.alloc_heap_new w2 (Fd.obj ⟨dk, da, dv, dsa, dsn, dsc, df, dla, dln, dlc⟩)))
  have H2 := hide (h2.next hal)
  clear hb hN h2 hal H1 e2
  go_wp2_with fail
  refine ((unhide e3) _ (unhide H2)).mono ?_
  rintro e w3 ⟨hb, ⟨ek, ea, ev, esa, esn, esc, ef, ela, eln, elc⟩, rfl, hN⟩
  have hlt2 : w2.heap.size < (w2.alloc (Fd.obj ⟨dk, da, dv, dsa, dsn, dsc, df, dla, dln, dlc⟩)).heap.size := by simp
  have h3 := (unhide H2).next hb
  have hal := (Below.refl w3.heap.size w3).alloc (Nat.le_refl _) (Fd.obj ⟨ek, ea, ev, esa, esn, esc, ef, ela, eln, elc⟩)
  have Y3 := hide (And.intro (((unhide Y2).1.below hb).below hal) ((hal.block _ (Nat.lt_of_lt_of_le hlt2 hb.size)).trans ((hb.block _ hlt2).trans (unhide Y2).2)))
  have Z3 := hide (World.alloc_heap_new w3 (Fd.obj ⟨ek, ea, ev, esa, esn, esc, ef, ela, eln, elc⟩))
  have hek : ek = 7 := hN.is.k
  subst hek
  have H3 := hide (h3.next hal)
  clear hb hN h3 hal H2 Y2 e3
  generalize w2.heap.size = n2 at *
  go_wp2_with fail
  have hlt2' := (Array.getElem?_eq_some_iff.1 (unhide Y3).2).1
  have hlt3 : w3.heap.size < (w3.alloc (Fd.obj ⟨7, ea, ev, esa, esn, esc, ef, ela, eln, elc⟩)).heap.size := by simp
  refine ((unhide e4) _ (unhide H3)).mono ?_
  rintro e w4 ⟨hb, rfl⟩
  have h4 := (unhide H3).next hb
  have hal := (Below.refl w4.heap.size w4).alloc (Nat.le_refl _) zfd.obj
  have Y4 := hide (And.intro (((unhide Y3).1.below hb).below hal) ((hal.block _ (Nat.lt_of_lt_of_le hlt2' hb.size)).trans ((hb.block _ hlt2').trans (unhide Y3).2)))
  have Z4 := hide ((hal.block _ (Nat.lt_of_lt_of_le hlt3 hb.size)).trans ((hb.block _ hlt3).trans (unhide Z3)))
  have H4 := hide (h4.next hal)
  clear hb h4 hal H3 Y3 Z3 e4 hlt2' hlt3
  generalize w3.heap.size = n3 at *
  obtain ⟨⟨c0, c1, c2, c3, c4, c5⟩, _⟩ := box6 (unhide H4).b2
  dsimp only at c0 c1 c2 c3 c4 c5
  go_wp2_with fail
  refine ((unhide e5) _ (unhide H4)).mono ?_
  rintro e w5 ⟨hb, v, rfl, hown⟩
  have hlt2' := (Array.getElem?_eq_some_iff.1 (unhide Y4).2).1
  have hlt3 := (Array.getElem?_eq_some_iff.1 (unhide Z4)).1
  have h5 := (unhide H4).next hb
  have hq5 := (hb.block _ hlt2').trans (unhide Y4).2
  have hz5 := (hb.block _ hlt3).trans (unhide Z4)
  have HS := hide (same_any 8 xF xF w5 _ _ _ _ h5.lies ((unhide Y4).1.below hb))
  rw [xF_same] at HS
  have T5 := hide (txl_of hown rfl)
  have H5 := hide h5
  have Z5 := hide hz5
  clear c0 c1 c2 c3 c4 c5
  obtain ⟨⟨c0, c1, c2, c3, c4, c5⟩, _⟩ := box6 h5.b2
  obtain ⟨⟨k0, k1, k2, k3, k4, k5⟩, _⟩ := box6 hq5
  dsimp only at c0 c1 c2 c3 c4 c5 k0 k1 k2 k3 k4 k5
  have t0 : (xS.toList == ByteArray.toList ⟨#[40, 38, 40, 97, 61, 49, 41, 40, 33, 40, 98, 61, 120, 42, 121, 41, 41, 41]⟩) = true := by simp
  clear hb hown h5 hq5 hz5 H4 Y4 Z4 e5 hlt2' hlt3
  go_wp2_with fail
  refine (unhide HS).mono ?_
  rintro e w6 ⟨rfl, hb⟩
  have hz6 := (hb.block _ (Array.getElem?_eq_some_iff.1 (unhide Z5)).1).trans (unhide Z5)
  have H6 := hide ((unhide H5).next hb)
  have T6 := hide ((unhide T5).below hb)
  clear c0 c1 c2 c3 c4 c5 k0 k1 k2 k3 k4 k5
  obtain ⟨⟨c0, c1, c2, c3, c4, c5⟩, _⟩ := box6 hz6
  dsimp only at c0 c1 c2 c3 c4 c5
  clear hb hz6 H5 T5 Z5 HS
  go_wp2_with fail
  have hal := (Below.refl w6.heap.size w6).alloc (Nat.le_refl _) (.cells #[.string ⟨#[97]⟩, .string ⟨#[98]⟩] 9)
  have hT2 : TxL (w6.alloc (.cells #[.string ⟨#[97]⟩, .string ⟨#[98]⟩] 9)) (.slice (some ⟨w6.heap.size, 0, none⟩) 2 2) [⟨#[97]⟩, ⟨#[98]⟩] := by
    have hq := World.alloc_heap_new w6 (.cells #[.string ⟨#[97]⟩, .string ⟨#[98]⟩] 9)
    generalize w6.alloc (.cells #[.string ⟨#[97]⟩, .string ⟨#[98]⟩] 9) = V6 at hq ⊢
    refine ⟨_, _, rfl, .inr ⟨_, _, rfl, trivial, fun i x hx => ?_⟩⟩
    match i, hx with
    | 0, hx => cases hx; simp [World.cell?, hq]
    | 1, hx => cases hx; simp [World.cell?, hq]
  have HX := hide (texts_any [⟨#[97]⟩, ⟨#[98]⟩] [⟨#[97]⟩, ⟨#[98]⟩] _ _ _ (by simp) (by simp) ((unhide T6).below hal) hT2)
  rw [decide_eq_true rfl] at HX
  have H7 := hide ((unhide H6).next hal)
  refine (unhide HX).mono ?_
  rintro e w7 ⟨rfl, hb⟩
  have H8 := hide ((unhide H7).next hb).bel
  clear hal hT2 HX hb H7 H6 T6 c0 c1 c2 c3 c4 c5
  go_wp2_with fail
  refine ((unhide e6) _).mono ?_
  rintro e w8 ⟨rfl, hb⟩
  have H9 := hide (step (unhide H8) hb)
  clear hb H8
  go_wp2_with fail
  refine ((unhide e7) _).mono ?_
  rintro e w9 ⟨rfl, hb⟩
  have H10 := hide (step (unhide H9) hb)
  clear hb H9
  go_wp2
  go_ret
  exact ⟨rfl, unhide H10⟩
set_option maxRecDepth 100000 in
theorem cut_any (s : ByteArray) (w : World) (hs : s.size ≤ maxLen) :
    Calls Tryz.prog 13 #[.string s] w fun e w' => e = .returned (.string (s.extract 0 (min (s.size : Int) 500).toNat)) ∧ w' = w := by
  unfold maxLen at hs
  go_enter Tryz.func13, Tryz.ntmps13
  go_wp2
  go_ret
  exact ⟨rfl, rfl⟩
end Go.Proofs.YtmjfkdpaeenfgaaGreatDoor.F
