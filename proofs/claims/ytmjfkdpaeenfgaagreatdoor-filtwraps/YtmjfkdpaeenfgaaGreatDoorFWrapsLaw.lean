/-
  FiltWraps: a right filter that is not too deep is right in a Not, whose text has three bytes more, and whose names are its, for any filter. Conditions: the package-level variables hold what the program's text lays (the card ties them).
-/
import Derived.Test.YtmjfkdpaeenfgaaGreatDoorG31
import Derived.Test.YtmjfkdpaeenfgaaGreatDoorFCut
import Derived.Test.YtmjfkdpaeenfgaaGreatDoorFShrt
import Derived.Laws.DeepStrings4
namespace Go.Proofs.YtmjfkdpaeenfgaaGreatDoor.F.Wraps
open Go Go.RowKit Go.Shelf Fp Go.ChangeShapes Go.WideShapes Go.ChangeAt Go.ChangeMaps
open Go.Proofs.YtmjfkdpaeenfgaaGreatDoor.D (hide unhide)

/-- a Not of it. -/
abbrev ntF (F : Fl 8) : Fl 9 := mk 2 ⟨#[]⟩ ⟨#[]⟩ [] ⟨#[]⟩ [F]
abbrev ntD (b : Nat) : Fd := ⟨2, ⟨#[]⟩, ⟨#[]⟩, none, 0, 0, ⟨#[]⟩, some ⟨b, 0, none⟩, 1, 1⟩
theorem nt_node {W : World} {b : Nat} {e : Fd} {F : Fl 8} (h : W.heap[b]? = some (.cells e.cs 25 (0, 0))) (hN : FNode 8 W (fun _ => True) e F) : FNode 9 W (fun _ => True) (ntD b) (ntF F) :=
  ⟨⟨rfl, rfl, rfl, rfl, rfl, rfl⟩, sm_mk (by decide) (by decide) (by decide) (by simp), .inl rfl, .inr ⟨b, 0, rfl, trivial, fun i G hG => by
    match i, hG with
    | 0, hG => cases hG; exact ⟨e, At.box h, hN⟩⟩⟩
theorem nt_right (F : Fl 8) : right 9 6 (ntF F) = right 8 5 F := by
  show (decide (0 < 6) && fitB 2 ⟨#[]⟩ ⟨#[]⟩ [] ⟨#[]⟩ 1 && ([F].all (right 8 5))) = _
  rw [show fitB 2 ⟨#[]⟩ ⟨#[]⟩ [] ⟨#[]⟩ 1 = true by decide]
  simp
theorem nt_text (F : Fl 8) : (⟨(text 9 (ntF F)).toArray⟩ : ByteArray) = ⟨#[40, 33]⟩ ++ ⟨(text 8 F).toArray⟩ ++ ⟨#[41]⟩ := by
  refine ByteArray.ext (Array.ext' ?_)
  rw [E.data_app, E.data_app]
  show 40 :: (([33] ++ (([F].map (text 8)).flatten)) ++ [41]) = [40, 33] ++ text 8 F ++ [41]
  simp
theorem nt_names (F : Fl 8) : names 9 (ntF F) = names 8 F := by
  show [] ++ ([F].map (names 8)).flatten = _
  simp
theorem nt_prt {F : Fl 8} (h : right 8 5 F = true) : prtF (ntF F) = .tuple #[.string (⟨#[40, 33]⟩ ++ ⟨(text 8 F).toArray⟩ ++ ⟨#[41]⟩), .int .i64 0] := by
  unfold prtF
  rw [nt_right, if_pos h, nt_text]
theorem nt_prn {F : Fl 8} (h : right 8 5 F = false) : prtF (ntF F) = .tuple #[.string ⟨#[]⟩, .int .i64 80] := by
  unfold prtF
  rw [nt_right, h]
  rfl

set_option linter.unusedSimpArgs false in
set_option linter.unusedVariables false in
set_option maxRecDepth 100000 in
set_option maxHeartbeats 8000000 in
theorem walk (d : Fd) (F0 : Fl 8) (a : Ad) (w : World) (g : Glob a w) (hC : CutF 8 w d F0) :
    Calls Tryz.prog 5 #[d.val] w fun e w' => e = .returned (.bool true) ∧ Below w.heap.size w w' := by
  have hb0 : Below w.heap.size w (w.alloc d.obj) := (Below.refl _ _).alloc (Nat.le_refl _) _
  have hq0 : (w.alloc d.obj).heap[w.heap.size]? = some (.cells d.cs 25 (0, 0)) := World.alloc_heap_new _ _
  have HSh := hide fun W (h : Below w.heap.size w W) => shown_true a W (g.below (Nat.le_refl _) h)
  have HC := hide fun W (h : Below w.heap.size w W) => Cut_any F0 W d (hC.below h)
  have Hg := hide g
  have H0 := hide (And.intro hb0 hq0)
  clear g hC hb0 hq0
  obtain ⟨dk, da, dv, dsa, dsn, dsc, df, dla, dln, dlc⟩ := d
  go_enter Tryz.func5, Tryz.ntmps5
  go_wp2_with fail
  refine ((unhide HSh) _ (unhide H0).1).mono ?_
  rintro e w1 ⟨rfl, hb⟩
  have hlt0 := (Array.getElem?_eq_some_iff.1 (unhide H0).2).1
  have B1 := hide (step (unhide H0).1 hb)
  have hq1 := (hb.block _ hlt0).trans (unhide H0).2
  have Q1 := hide hq1
  obtain ⟨⟨c0, c1, c2, c3, c4, c5⟩, _⟩ := box6 hq1
  dsimp only at c0 c1 c2 c3 c4 c5
  clear hb hq1 H0 HSh hlt0
  go_wp2_with fail
  refine ((unhide HC) _ (unhide B1)).mono ?_
  rintro e w2 ⟨hb, ⟨ek, ea, ev, esa, esn, esc, ef, ela, eln, elc⟩, rfl, hN⟩
  have hlt1 := (Array.getElem?_eq_some_iff.1 (unhide Q1)).1
  have hq2 := (hb.block _ hlt1).trans (unhide Q1)
  have hbw2 := step (unhide B1) hb
  have hlt2 : w.heap.size < w2.heap.size := (Array.getElem?_eq_some_iff.1 hq2).1
  clear c0 c1 c2 c3 c4 c5
  obtain ⟨⟨c0, c1, c2, c3, c4, c5⟩, g0, g1, g2, g3, g4, g5⟩ := box6 hq2
  dsimp only at c0 c1 c2 c3 c4 c5
  obtain ⟨X, hX⟩ : ∃ X, X = set6 w2 w.heap.size ⟨ek, ea, ev, esa, esn, esc, ef, ela, eln, elc⟩ := ⟨_, rfl⟩
  have hXb := set6_but w2 w.heap.size ⟨ek, ea, ev, esa, esn, esc, ef, ela, eln, elc⟩
  have hXq := set6_blk hq2 ⟨ek, ea, ev, esa, esn, esc, ef, ela, eln, elc⟩
  rw [← hX] at hXb hXq
  have hXN := hN.of (W' := X) fun b h1 h2 => hXb.block b h2 (by omega)
  dsimp only [set6] at hX
  have HX := hide (And.intro (hbw2.trans (hXb.below (Nat.le_refl _) hlt2)) (And.intro hXq hXN))
  have hXc := hX.symm
  have HXq := hide hXq
  obtain ⟨⟨k0, k1, k2, k3, k4, k5⟩, _⟩ := box6 hXq
  dsimp only at k0 k1 k2 k3 k4 k5
  have hXlt : w.heap.size < X.heap.size := (Array.getElem?_eq_some_iff.1 hXq).1
  clear hb hN hq2 hbw2 hlt2 hXb hXq hXN hX hlt1 Q1 B1 HC
  generalize F0 = F at *
  go_wp2_with fail
  clear hXc k0 k1 k2 k3 k4 k5 g0 g1 g2 g3 g4 g5
  clear c0 c1 c2 c3 c4 c5
  have hal1 := (Below.refl X.heap.size X).alloc (Nat.le_refl _) (Fd.obj ⟨ek, ea, ev, esa, esn, esc, ef, ela, eln, elc⟩)
  have hal2 : Below X.heap.size X ((X.alloc (Fd.obj ⟨ek, ea, ev, esa, esn, esc, ef, ela, eln, elc⟩)).alloc (ntD X.heap.size).obj) := hal1.alloc hal1.size _
  have hq1 : ((X.alloc (Fd.obj ⟨ek, ea, ev, esa, esn, esc, ef, ela, eln, elc⟩)).alloc (ntD X.heap.size).obj).heap[X.heap.size]? = some (.cells (Fd.cs ⟨ek, ea, ev, esa, esn, esc, ef, ela, eln, elc⟩) 25 (0, 0)) := (Below.heap_alloc _ _ _ (by simp)).trans (World.alloc_heap_new X _)
  have hq2 : ((X.alloc (Fd.obj ⟨ek, ea, ev, esa, esn, esc, ef, ela, eln, elc⟩)).alloc (ntD X.heap.size).obj).heap[X.heap.size + 1]? = some (.cells (ntD X.heap.size).cs 25 (0, 0)) := by
    have := World.alloc_heap_new (X.alloc (Fd.obj ⟨ek, ea, ev, esa, esn, esc, ef, ela, eln, elc⟩)) (ntD X.heap.size).obj
    rwa [World.size_alloc] at this
  have hq0 := (hal2.block _ (Array.getElem?_eq_some_iff.1 (unhide HX).2.1).1).trans (unhide HX).2.1
  have hN0 := ((unhide HX).2.2.below hal2).imp (q := fun _ => True) fun _ _ _ => trivial
  have B3 := hide (step (unhide HX).1 hal2)
  clear hal1 hal2 HX
  generalize hY : (X.alloc (Fd.obj ⟨ek, ea, ev, esa, esn, esc, ef, ela, eln, elc⟩)).alloc (ntD X.heap.size).obj = Y at *
  clear hY
  have X0 := hide hq0
  have X1 := hide hq1
  have X2 := hide hq2
  have N0 := hide hN0
  have hlt0 := (Array.getElem?_eq_some_iff.1 hq0).1
  have hlt1 := (Array.getElem?_eq_some_iff.1 hq1).1
  have hlt2 := (Array.getElem?_eq_some_iff.1 hq2).1
  have Hlt := hide (And.intro hlt0 (And.intro hlt1 hlt2))
  clear hq0 hq1 hq2 hN0 hlt0 hlt1 hlt2
  cases hr5 : right 8 5 F with
  | false =>
    have HA := hide (print_any 7 F a Y _ _ ((unhide Hg).below (Nat.le_refl _) (unhide B3)) (unhide N0) (by omega))
    obtain ⟨tx, ex, hpf⟩ : ∃ tx ex, prtF F = .tuple #[.string tx, .int .i64 ex] := by
      unfold prtF
      split
      · exact ⟨_, _, rfl⟩
      · exact ⟨_, _, rfl⟩
    rw [hpf] at HA
    refine (unhide HA).mono ?_
    rintro e w4 ⟨rfl, hb⟩
    have B4 := hide (step (unhide B3) hb)
    have hq2 := (hb.block _ (unhide Hlt).2.2).trans (unhide X2)
    have HP := hide (print_any 8 (ntF F) a w4 _ _ ((unhide Hg).below (Nat.le_refl _) (unhide B4)) (nt_node ((hb.block _ (unhide Hlt).2.1).trans (unhide X1)) ((unhide N0).below hb)) (by omega))
    rw [nt_prn hr5] at HP
    obtain ⟨⟨c0, c1, c2, c3, c4, c5⟩, _⟩ := box6 hq2
    dsimp only at c0 c1 c2 c3 c4 c5
    clear hb hq2 hpf hr5 HA
    go_wp2_with fail
    refine (unhide HP).mono ?_
    rintro e w5 ⟨rfl, hb⟩
    have B5 := hide (step (unhide B4) hb)
    clear hb HP c0 c1 c2 c3 c4 c5
    go_wp2
    go_ret
    exact ⟨rfl, unhide B5⟩
  | true =>
    have hr6 := right_mono 8 5 6 F (by omega) hr5
    have HA := hide (print_any 7 F a Y _ _ ((unhide Hg).below (Nat.le_refl _) (unhide B3)) (unhide N0) (by omega))
    rw [show prtF F = .tuple #[.string ⟨(text 8 F).toArray⟩, .int .i64 0] by unfold prtF; rw [hr6]; rfl] at HA
    have htl : (text 8 F).length ≤ 100000000 := by have := text_len 8 6 F hr6; omega
    have hnl : (names 8 F).length ≤ 32768 := names_len 8 6 F hr6
    refine (unhide HA).mono ?_
    rintro e w4 ⟨rfl, hb⟩
    have B4 := hide (step (unhide B3) hb)
    have hq0 := (hb.block _ (unhide Hlt).1).trans (unhide X0)
    have hq1 := (hb.block _ (unhide Hlt).2.1).trans (unhide X1)
    have hq2 := (hb.block _ (unhide Hlt).2.2).trans (unhide X2)
    have hN4 := (unhide N0).below hb
    have HP := hide (print_any 8 (ntF F) a w4 _ _ ((unhide Hg).below (Nat.le_refl _) (unhide B4)) (nt_node hq1 hN4) (by omega))
    rw [nt_prt hr5] at HP
    have htz : (⟨(text 8 F).toArray⟩ : ByteArray).size ≤ 100000000 := by show (text 8 F).toArray.size ≤ _; simpa using htl
    generalize (⟨(text 8 F).toArray⟩ : ByteArray) = tf at *
    obtain ⟨⟨c0, c1, c2, c3, c4, c5⟩, _⟩ := box6 hq2
    dsimp only at c0 c1 c2 c3 c4 c5
    have Q := hide (And.intro hq0 (And.intro hq1 (And.intro hq2 hN4)))
    have hl0 := (Array.getElem?_eq_some_iff.1 hq0).1
    have hl1 := (Array.getElem?_eq_some_iff.1 hq1).1
    have hl2 := (Array.getElem?_eq_some_iff.1 hq2).1
    have Hl := hide (And.intro hl0 (And.intro hl1 hl2))
    clear hb hq0 hq1 hq2 hN4 HA hl0 hl1 hl2 htl Hlt X0 X1 X2 N0
    have Htz := hide htz
    clear htz
    go_wp2_with fail
    refine (unhide HP).mono ?_
    rintro e w5 ⟨rfl, hb⟩
    have Bw5 := hide (step (unhide B4) hb)
    have hq0 := (hb.block _ (unhide Hl).1).trans (unhide Q).1
    have hq1 := (hb.block _ (unhide Hl).2.1).trans (unhide Q).2.1
    have hq2 := (hb.block _ (unhide Hl).2.2).trans (unhide Q).2.2.1
    have hN5 := (unhide Q).2.2.2.below hb
    have htz := unhide Htz
    clear hb HP c0 c1 c2 c3 c4 c5 Q Hl
    have hD : Below w5.heap.size w5 w5.drew := (Below.refl _ _).drew
    have hSD : (fun w' : World => At w' w.heap.size 0 ⟨ek, ea, ev, esa, esn, esc, ef, ela, eln, elc⟩ ∧ At w' (X.heap.size + 1) 0 (ntD X.heap.size)) w5.drew := ⟨At.box hq0, At.box hq2⟩
    have HSof : Hid (∀ V, Below w5.drew.heap.size w5.drew V → (fun w' : World => At w' w.heap.size 0 ⟨ek, ea, ev, esa, esn, esc, ef, ela, eln, elc⟩ ∧ At w' (X.heap.size + 1) 0 (ntD X.heap.size)) V) := hide fun V hV => ⟨hSD.1.of (hV.block _ hSD.1.lt), hSD.2.of (hV.block _ hSD.2.lt)⟩
    have HN := hide fun V (h : Below w5.drew.heap.size w5.drew V) => names_any 7 F a V _ _ ((unhide Hg).below (Nat.le_refl _) (step (unhide Bw5) ((hD.trans (h.mono (Nat.le_refl _)))))) ((hN5.below hD).below h) (by omega)
    rw [hr6, if_pos rfl] at HN
    have HN2 := hide fun V (h : Below w5.drew.heap.size w5.drew V) => names_any 8 (ntF F) a V _ _ ((unhide Hg).below (Nat.le_refl _) (step (unhide Bw5) ((hD.trans (h.mono (Nat.le_refl _)))))) (nt_node ((h.block _ (Array.getElem?_eq_some_iff.1 hq1).1).trans hq1) ((hN5.below hD).below h)) (by omega)
    rw [nt_right, hr5, if_pos rfl, nt_names] at HN2
    have Bw5' := hide (hD)
    generalize names 8 F = nl at *
    clear hq0 hq1 hq2 hN5 hr5 hr6
    go_wp2_with fail
    refine wp_region_held (S := fun w' : World => At w' w.heap.size 0 ⟨ek, ea, ev, esa, esn, esc, ef, ela, eln, elc⟩ ∧ At w' (X.heap.size + 1) 0 (ntD X.heap.size)) (by kernel_rfl) ?_
    change wpAnyH _ _ _ _ _ 20 #[false, false, false, false, false, false, false, false, false, false, false, false, false, false, false, false, false, false, false, false] _ w5.drew
    have Bd : Hid (Below w5.drew.heap.size w5.drew w5.drew) := hide (Below.refl _ _)
    generalize w5.drew = d5 at *
    have hS := hSD
    have Bd5 := Bd
    clear Bd hD
    refine wpAnyH_take (i := 0) (v := .bool true) rfl (by kernel_rfl) (by kernel_rfl) (by kernel_rfl) (fun _ _ _ h => h) (Or.inl ⟨by kernel_rfl, by rintro w1 ⟨⟨s0, s1, s2, s3, s4, s5⟩, ⟨k0, k1, k2, k3, k4, k5⟩⟩; dsimp only at s0 s1 s2 s3 s4 s5 k0 k1 k2 k3 k4 k5; go_simp; all_goals first | rfl | omega⟩) hS ?_
    simp only [Act.put, List.setIfInBounds_toArray, List.set_cons_zero, List.set_cons_succ, List.getElem_toArray, List.getElem_cons_zero, List.getElem_cons_succ]
    refine wpAnyH_take (i := 1) (v := .bool true) rfl (by kernel_rfl) (by kernel_rfl) (by kernel_rfl) (fun _ _ _ h => h) (Or.inl ⟨by kernel_rfl, by rintro w1 ⟨⟨s0, s1, s2, s3, s4, s5⟩, ⟨k0, k1, k2, k3, k4, k5⟩⟩; dsimp only at s0 s1 s2 s3 s4 s5 k0 k1 k2 k3 k4 k5; go_simp; all_goals first | rfl | omega⟩) hS ?_
    simp only [Act.put, List.setIfInBounds_toArray, List.set_cons_zero, List.set_cons_succ, List.getElem_toArray, List.getElem_cons_zero, List.getElem_cons_succ]
    refine wpAnyH_take (i := 2) (v := .int .i64 0) rfl (by kernel_rfl) (by kernel_rfl) (by kernel_rfl) (fun _ _ _ h => h) (Or.inl ⟨by kernel_rfl, by rintro w1 ⟨⟨s0, s1, s2, s3, s4, s5⟩, ⟨k0, k1, k2, k3, k4, k5⟩⟩; dsimp only at s0 s1 s2 s3 s4 s5 k0 k1 k2 k3 k4 k5; go_simp; all_goals first | rfl | omega⟩) hS ?_
    simp only [Act.put, List.setIfInBounds_toArray, List.set_cons_zero, List.set_cons_succ, List.getElem_toArray, List.getElem_cons_zero, List.getElem_cons_succ]
    refine wpAnyH_take (i := 3) (v := .bool true) rfl (by kernel_rfl) (by kernel_rfl) (by kernel_rfl) (fun _ _ _ h => h) (Or.inl ⟨by kernel_rfl, by rintro w1 ⟨⟨s0, s1, s2, s3, s4, s5⟩, ⟨k0, k1, k2, k3, k4, k5⟩⟩; dsimp only at s0 s1 s2 s3 s4 s5 k0 k1 k2 k3 k4 k5; go_simp; all_goals first | rfl | omega⟩) hS ?_
    simp only [Act.put, List.setIfInBounds_toArray, List.set_cons_zero, List.set_cons_succ, List.getElem_toArray, List.getElem_cons_zero, List.getElem_cons_succ]
    refine wpAnyH_take (i := 4) (v := .bool true) rfl (by kernel_rfl) (by kernel_rfl) (by kernel_rfl) (fun _ _ _ h => h) (Or.inl ⟨by kernel_rfl, by rintro w1 ⟨⟨s0, s1, s2, s3, s4, s5⟩, ⟨k0, k1, k2, k3, k4, k5⟩⟩; dsimp only at s0 s1 s2 s3 s4 s5 k0 k1 k2 k3 k4 k5; go_simp; all_goals first | rfl | omega⟩) hS ?_
    simp only [Act.put, List.setIfInBounds_toArray, List.set_cons_zero, List.set_cons_succ, List.getElem_toArray, List.getElem_cons_zero, List.getElem_cons_succ]
    refine wpAnyH_take (i := 5) (v := .bool true) rfl (by kernel_rfl) (by kernel_rfl) (by kernel_rfl) (fun _ _ _ h => h) (Or.inl ⟨by kernel_rfl, by rintro w1 ⟨⟨s0, s1, s2, s3, s4, s5⟩, ⟨k0, k1, k2, k3, k4, k5⟩⟩; dsimp only at s0 s1 s2 s3 s4 s5 k0 k1 k2 k3 k4 k5; go_simp; all_goals first | rfl | omega⟩) hS ?_
    simp only [Act.put, List.setIfInBounds_toArray, List.set_cons_zero, List.set_cons_succ, List.getElem_toArray, List.getElem_cons_zero, List.getElem_cons_succ]
    refine wpAnyH_take (i := 6) (v := .string (⟨#[40, 33]⟩ ++ tf ++ ⟨#[41]⟩)) rfl (by kernel_rfl) (by kernel_rfl) (by kernel_rfl) (fun _ _ _ h => h) (Or.inl ⟨by kernel_rfl, by rintro w1 ⟨⟨s0, s1, s2, s3, s4, s5⟩, ⟨k0, k1, k2, k3, k4, k5⟩⟩; dsimp only at s0 s1 s2 s3 s4 s5 k0 k1 k2 k3 k4 k5; go_simp; all_goals first | rfl | omega⟩) hS ?_
    simp only [Act.put, List.setIfInBounds_toArray, List.set_cons_zero, List.set_cons_succ, List.getElem_toArray, List.getElem_cons_zero, List.getElem_cons_succ]
    refine wpAnyH_take (i := 7) (v := .string tf) rfl (by kernel_rfl) (by kernel_rfl) (by kernel_rfl) (fun _ _ _ h => h) (Or.inl ⟨by kernel_rfl, by rintro w1 ⟨⟨s0, s1, s2, s3, s4, s5⟩, ⟨k0, k1, k2, k3, k4, k5⟩⟩; dsimp only at s0 s1 s2 s3 s4 s5 k0 k1 k2 k3 k4 k5; go_simp; all_goals first | rfl | omega⟩) hS ?_
    simp only [Act.put, List.setIfInBounds_toArray, List.set_cons_zero, List.set_cons_succ, List.getElem_toArray, List.getElem_cons_zero, List.getElem_cons_succ]
    refine wpAnyH_take (i := 8) (v := .string (⟨#[40, 33]⟩ ++ tf)) rfl (by kernel_rfl) (by kernel_rfl) (by kernel_rfl) (fun _ _ _ h => h) (Or.inl ⟨by kernel_rfl, by rintro w1 ⟨⟨s0, s1, s2, s3, s4, s5⟩, ⟨k0, k1, k2, k3, k4, k5⟩⟩; dsimp only at s0 s1 s2 s3 s4 s5 k0 k1 k2 k3 k4 k5; go_simp; all_goals first | rfl | omega⟩) hS ?_
    simp only [Act.put, List.setIfInBounds_toArray, List.set_cons_zero, List.set_cons_succ, List.getElem_toArray, List.getElem_cons_zero, List.getElem_cons_succ]
    refine wpAnyH_take (i := 9) (v := .string (⟨#[40, 33]⟩ ++ tf ++ ⟨#[41]⟩)) rfl (by kernel_rfl) (by kernel_rfl) (by kernel_rfl) (fun _ _ _ h => h) (Or.inl ⟨by kernel_rfl, by rintro w1 ⟨⟨s0, s1, s2, s3, s4, s5⟩, ⟨k0, k1, k2, k3, k4, k5⟩⟩; dsimp only at s0 s1 s2 s3 s4 s5 k0 k1 k2 k3 k4 k5; go_simp; all_goals first | rfl | omega⟩) hS ?_
    simp only [Act.put, List.setIfInBounds_toArray, List.set_cons_zero, List.set_cons_succ, List.getElem_toArray, List.getElem_cons_zero, List.getElem_cons_succ]
    refine wpAnyH_take (i := 10) (v := .bool true) rfl (by kernel_rfl) (by kernel_rfl) (by kernel_rfl) (fun _ _ _ h => h) (Or.inl ⟨by kernel_rfl, by rintro w1 ⟨⟨s0, s1, s2, s3, s4, s5⟩, ⟨k0, k1, k2, k3, k4, k5⟩⟩; dsimp only at s0 s1 s2 s3 s4 s5 k0 k1 k2 k3 k4 k5; go_simp; all_goals first | rfl | omega⟩) hS ?_
    simp only [Act.put, List.setIfInBounds_toArray, List.set_cons_zero, List.set_cons_succ, List.getElem_toArray, List.getElem_cons_zero, List.getElem_cons_succ]
    refine wpAnyH_take (i := 11) (v := .bool true) rfl (by kernel_rfl) (by kernel_rfl) (by kernel_rfl) (fun _ _ _ h => h) (Or.inl ⟨by kernel_rfl, by rintro w1 ⟨⟨s0, s1, s2, s3, s4, s5⟩, ⟨k0, k1, k2, k3, k4, k5⟩⟩; dsimp only at s0 s1 s2 s3 s4 s5 k0 k1 k2 k3 k4 k5; go_simp; all_goals first | rfl | omega⟩) hS ?_
    simp only [Act.put, List.setIfInBounds_toArray, List.set_cons_zero, List.set_cons_succ, List.getElem_toArray, List.getElem_cons_zero, List.getElem_cons_succ]
    refine wpAnyH_take (i := 12) (v := .bool true) rfl (by kernel_rfl) (by kernel_rfl) (by kernel_rfl) (fun _ _ _ h => h) (Or.inl ⟨by kernel_rfl, by rintro w1 ⟨⟨s0, s1, s2, s3, s4, s5⟩, ⟨k0, k1, k2, k3, k4, k5⟩⟩; dsimp only at s0 s1 s2 s3 s4 s5 k0 k1 k2 k3 k4 k5; go_simp; all_goals first | rfl | omega⟩) hS ?_
    simp only [Act.put, List.setIfInBounds_toArray, List.set_cons_zero, List.set_cons_succ, List.getElem_toArray, List.getElem_cons_zero, List.getElem_cons_succ]
    refine wpAnyH_take (i := 13) (v := .agg #[.int .i64 ek, .string ea, .string ev, .slice esa esn esc, .string ef, .slice ela eln elc]) rfl (by kernel_rfl) (by kernel_rfl) (by kernel_rfl) (fun _ _ _ h => h) (Or.inl ⟨by kernel_rfl, by rintro w1 ⟨⟨s0, s1, s2, s3, s4, s5⟩, ⟨k0, k1, k2, k3, k4, k5⟩⟩; dsimp only at s0 s1 s2 s3 s4 s5 k0 k1 k2 k3 k4 k5; go_simp; all_goals first | rfl | omega⟩) hS ?_
    simp only [Act.put, List.setIfInBounds_toArray, List.set_cons_zero, List.set_cons_succ, List.getElem_toArray, List.getElem_cons_zero, List.getElem_cons_succ]
    refine wpAnyH_take (i := 15) (v := .agg #[.int .i64 2, .string ⟨#[]⟩, .string ⟨#[]⟩, .slice none 0 0, .string ⟨#[]⟩, .slice (some ⟨X.heap.size, 0, none⟩) 1 1]) rfl (by kernel_rfl) (by kernel_rfl) (by kernel_rfl) (fun _ _ _ h => h) (Or.inl ⟨by kernel_rfl, by rintro w1 ⟨⟨s0, s1, s2, s3, s4, s5⟩, ⟨k0, k1, k2, k3, k4, k5⟩⟩; dsimp only at s0 s1 s2 s3 s4 s5 k0 k1 k2 k3 k4 k5; go_simp; all_goals first | rfl | omega⟩) hS ?_
    simp only [Act.put, List.setIfInBounds_toArray, List.set_cons_zero, List.set_cons_succ, List.getElem_toArray, List.getElem_cons_zero, List.getElem_cons_succ]
    refine wpAnyH_ready (rs := [14]) (by kernel_rfl) (by simp) ?_
    refine AllReadyH.cons rfl (fun K hK => ?_) AllReadyH.nil
    rw [if_pos (by kernel_rfl)]
    go_wp2_with fail
    refine ((unhide HN) d5 (unhide Bd5)).mono ?_
    rintro e w6 ⟨hb, v6, rfl, hown⟩
    have hSw6 := (unhide HSof) w6 (step (unhide Bd5) hb)
    have Bw6 := hide (step (unhide Bd5) hb)
    have Tv6 := hide (txl_of hown rfl)
    clear hb hown
    go_wp2
    refine hK.out _ _ hSw6 (fun _ => ?_)
    clear hK K
    simp only [Act.put, List.setIfInBounds_toArray, List.set_cons_zero, List.set_cons_succ, List.getElem_toArray, List.getElem_cons_zero, List.getElem_cons_succ]
    refine wpAnyH_ready (rs := [16]) (by kernel_rfl) (by simp) ?_
    refine AllReadyH.cons rfl (fun K hK => ?_) AllReadyH.nil
    rw [if_pos (by kernel_rfl)]
    go_wp2_with fail
    refine ((unhide HN2) w6 (unhide Bw6)).mono ?_
    rintro e w7 ⟨hb, v7, rfl, hown⟩
    have hSw7 := (unhide HSof) w7 (step (unhide Bw6) hb)
    have Bw7 := hide (step (unhide Bw6) hb)
    have Tv7 := hide (txl_of hown rfl)
    replace Tv6 := hide ((unhide Tv6).below hb)
    clear hb hown
    go_wp2
    refine hK.out _ _ hSw7 (fun _ => ?_)
    clear hK K
    simp only [Act.put, List.setIfInBounds_toArray, List.set_cons_zero, List.set_cons_succ, List.getElem_toArray, List.getElem_cons_zero, List.getElem_cons_succ]
    refine wpAnyH_ready (rs := [17]) (by kernel_rfl) (by simp) ?_
    refine AllReadyH.cons rfl (fun K hK => ?_) AllReadyH.nil
    rw [if_pos (by kernel_rfl)]
    have HT := hide (texts_any nl nl _ _ _ (by omega) (by omega) (unhide Tv6) (unhide Tv7))
    rw [decide_eq_true rfl] at HT
    go_wp2_with fail
    refine (unhide HT).mono ?_
    rintro e w8 ⟨rfl, hb⟩
    have hSw8 := (unhide HSof) w8 (step (unhide Bw7) hb)
    have Bw8 := hide (step (unhide Bw7) hb)
    clear hb HT
    go_wp2
    refine hK.out _ _ hSw8 (fun _ => ?_)
    clear hK K
    simp only [Act.put, List.setIfInBounds_toArray, List.set_cons_zero, List.set_cons_succ, List.getElem_toArray, List.getElem_cons_zero, List.getElem_cons_succ]
    refine wpAnyH_take (i := 18) (v := .bool true) rfl (by kernel_rfl) (by kernel_rfl) (by kernel_rfl) (fun _ _ _ h => h) (Or.inl ⟨by kernel_rfl, by rintro w1 ⟨⟨s0, s1, s2, s3, s4, s5⟩, ⟨k0, k1, k2, k3, k4, k5⟩⟩; dsimp only at s0 s1 s2 s3 s4 s5 k0 k1 k2 k3 k4 k5; go_simp; all_goals first | rfl | omega⟩) hSw8 ?_
    simp only [Act.put, List.setIfInBounds_toArray, List.set_cons_zero, List.set_cons_succ, List.getElem_toArray, List.getElem_cons_zero, List.getElem_cons_succ]
    refine wpAnyH_take (i := 19) (v := .bool true) rfl (by kernel_rfl) (by kernel_rfl) (by kernel_rfl) (fun _ _ _ h => h) (Or.inl ⟨by kernel_rfl, by rintro w1 ⟨⟨s0, s1, s2, s3, s4, s5⟩, ⟨k0, k1, k2, k3, k4, k5⟩⟩; dsimp only at s0 s1 s2 s3 s4 s5 k0 k1 k2 k3 k4 k5; go_simp; all_goals first | rfl | omega⟩) hSw8 ?_
    simp only [Act.put, List.setIfInBounds_toArray, List.set_cons_zero, List.set_cons_succ, List.getElem_toArray, List.getElem_cons_zero, List.getElem_cons_succ]
    refine wpAnyH_done (by kernel_rfl) ?_ _
    go_wp2
    go_ret
    exact ⟨rfl, step (unhide Bw5) (step (unhide Bw5') (unhide Bw8))⟩

set_option maxRecDepth 100000 in
/-- What the walk gives, for every argument. -/
theorem contract (H : Type) (enc : TypeId × Value → H) (W : World) (base : Nat) (args : Array Value) (ds gs : List (DataW H)) (before : List MemPlace)
    (hval : ∀ (j : Nat) t v, Tryz.f5.params[j]? = some t → args[j]? = some v → Value.okWide Tryz.prog W .any base t v)
    (hW : DataW.Whole enc Tryz.prog Tryz.f5.params.toList Rows.filtWrapsSpec.vars false W args.toList ds gs before) (hL : laidMetH Tryz.prog Rows.filtWrapsRow.laid W) :
    Calls Tryz.prog 5 args W fun e W' => ∃ v, e = .returned v ∧ Rows.filtWrapsSpec.post enc Tryz.prog Tryz.f5 false true false false W args v W' := by
  obtain ⟨a, g⟩ := glob_of_laid hL
  have hW' := hW
  obtain ⟨p, q, hA0, hV, rfl, hfz, hnd⟩ := hW
  have hA : DataW.TrodAll enc Tryz.prog W 0 (fun _ => true) true Tryz.f5.params.toList args.toList ds p := hA0
  rw [Tryz.params5] at hA hval
  obtain ⟨v0, vs0, d0, ds0, p0, q0, hargs0, rfl, rfl, h0, r0⟩ := trodAll_cons hA
  obtain ⟨rfl, rfl, rfl⟩ := trodAll_nil r0
  obtain rfl : args = #[v0] := by cases args; simp_all
  obtain ⟨rfl, rfl⟩ := trodVars_none hV
  obtain ⟨cs0, rfl, _⟩ := okWide_struct Tryz.underlying25 (hval 0 25 v0 rfl rfl)
  have hk0 := h0
  obtain ⟨fu0, hf0⟩ := h0
  obtain ⟨D0, ec0, F0, hC0⟩ := open_fil 7 fu0 _ _ hf0
  have hlt0 := DataW.trod_lt _ _ _ _ hf0
  obtain rfl : cs0 = D0.cs := Array.ext' ec0
  clear hA0
  simp only [List.append_nil] at hW'
  refine (walk D0 F0 a W g hC0).mono fun e W' ⟨he, hg⟩ => ?_
  subst he
  refine ⟨_, rfl, _, _, _, [], (p0 ++ []), [], hW', ?_, ?_, ?_, hg.frame _, fun h => by cases h⟩
  · exact trodAll_cons_mk (shut_bool Tryz.underlying4 _) trodAll_mk0
  · exact trodAll_cons_mk (Below.trod (by kernel_rfl) (by kernel_rfl) (of_decide_eq_true (by kernel_rfl)) hk0 hg hlt0) (trodAll_mk0)
  · rfl

theorem reads (os : Os) {H : Type} (enc : TypeId × Value → H) : ∃ places, DataW.whole enc Tryz.prog (({ World.holding Tryz.prog os ⟨#[.cells #[.string sentS0] 276, .cells #[.string sentS1] 276, .cells #[.string sentS2] 276, .cells #[.string sentS3] 276, .cells #[.string sentS4] 276, .cells #[.string sentS5] 276, .cells #[.string sentS6] 276, .cells #[.string sentS7] 276, .cells #[.string sentS8] 276, .cells #[.string sentS9] 276, .cells #[.string sentS10] 276, .cells #[.string sentS11] 276, .cells #[.string sentS12] 276], #[], []⟩ with heap := ((((((((((((((((World.holding Tryz.prog os ⟨#[.cells #[.string sentS0] 276, .cells #[.string sentS1] 276, .cells #[.string sentS2] 276, .cells #[.string sentS3] 276, .cells #[.string sentS4] 276, .cells #[.string sentS5] 276, .cells #[.string sentS6] 276, .cells #[.string sentS7] 276, .cells #[.string sentS8] 276, .cells #[.string sentS9] 276, .cells #[.string sentS10] 276, .cells #[.string sentS11] 276, .cells #[.string sentS12] 276], #[], []⟩).heap.modify 15 fun | .cells _ t frozen => .cells #[.iface 258 (.pointer (some ⟨(World.holding Tryz.prog default ⟨#[], #[], []⟩).heap.size + 0, 0, none⟩))] t frozen | o => o).modify 14 fun | .cells _ t frozen => .cells #[.iface 258 (.pointer (some ⟨(World.holding Tryz.prog default ⟨#[], #[], []⟩).heap.size + 1, 0, none⟩))] t frozen | o => o).modify 16 fun | .cells _ t frozen => .cells #[.iface 258 (.pointer (some ⟨(World.holding Tryz.prog default ⟨#[], #[], []⟩).heap.size + 2, 0, none⟩))] t frozen | o => o).modify 13 fun | .cells _ t frozen => .cells #[.iface 258 (.pointer (some ⟨(World.holding Tryz.prog default ⟨#[], #[], []⟩).heap.size + 3, 0, none⟩))] t frozen | o => o).modify 11 fun | .cells _ t frozen => .cells #[.iface 258 (.pointer (some ⟨(World.holding Tryz.prog default ⟨#[], #[], []⟩).heap.size + 4, 0, none⟩))] t frozen | o => o).modify 12 fun | .cells _ t frozen => .cells #[.iface 258 (.pointer (some ⟨(World.holding Tryz.prog default ⟨#[], #[], []⟩).heap.size + 5, 0, none⟩))] t frozen | o => o).modify 0 fun | .cells _ t frozen => .cells #[.iface 258 (.pointer (some ⟨(World.holding Tryz.prog default ⟨#[], #[], []⟩).heap.size + 6, 0, none⟩))] t frozen | o => o).modify 1 fun | .cells _ t frozen => .cells #[.iface 258 (.pointer (some ⟨(World.holding Tryz.prog default ⟨#[], #[], []⟩).heap.size + 7, 0, none⟩))] t frozen | o => o).modify 2 fun | .cells _ t frozen => .cells #[.iface 258 (.pointer (some ⟨(World.holding Tryz.prog default ⟨#[], #[], []⟩).heap.size + 8, 0, none⟩))] t frozen | o => o).modify 3 fun | .cells _ t frozen => .cells #[.iface 258 (.pointer (some ⟨(World.holding Tryz.prog default ⟨#[], #[], []⟩).heap.size + 9, 0, none⟩))] t frozen | o => o).modify 4 fun | .cells _ t frozen => .cells #[.iface 258 (.pointer (some ⟨(World.holding Tryz.prog default ⟨#[], #[], []⟩).heap.size + 10, 0, none⟩))] t frozen | o => o).modify 5 fun | .cells _ t frozen => .cells #[.iface 258 (.pointer (some ⟨(World.holding Tryz.prog default ⟨#[], #[], []⟩).heap.size + 11, 0, none⟩))] t frozen | o => o).modify 6 fun | .cells _ t frozen => .cells #[.iface 258 (.pointer (some ⟨(World.holding Tryz.prog default ⟨#[], #[], []⟩).heap.size + 12, 0, none⟩))] t frozen | o => o).modify 10 fun | .cells _ t frozen => .cells (([128,191,160,191,128,159,144,191,128,143,0,0,0,0,0,0,0,0,0,0,0,0,0,0,0,0,0,0,0,0,0,0] : List Nat).map fun (n : Nat) => Value.int .u8 (n : Int)).toArray t frozen | o => o).modify 9 fun | .cells _ t frozen => .cells ((Go.Pinned.utf8FirstZ : List Nat).map fun (n : Nat) => Value.int .u8 (n : Int)).toArray t frozen | o => o).modify 7 fun | .cells _ t frozen => .cells #[.iface 153 (.agg #[.pointer (some ⟨17, 47, none⟩)])] t frozen | o => o } : World).forCall (fun _ _ => 0) ⟨#[], #[.agg #[.int .i64 0, .string ⟨#[]⟩, .string ⟨#[]⟩, .slice none 0 0, .string ⟨#[]⟩, .slice none 0 0]], []⟩).memory Tryz.f5.params.toList Rows.filtWrapsSpec.vars false #[Value.agg #[.int .i64 0, .string ⟨#[]⟩, .string ⟨#[]⟩, .slice none 0 0, .string ⟨#[]⟩, .slice none 0 0]].toList 8 = some ([.agg [.lit (.int .i64 0), .lit (.string []), .lit (.string []), .nil, .lit (.string []), .nil]], [], places) :=
  ⟨[], by kernel_rfl⟩

set_option maxRecDepth 100000 in
theorem lifted (os : Os) (started : os.Started) (H : Type) (enc : TypeId × Value → H) (F : Stop.Interp) :
    ReturnsInHanded {} Tryz.checked os 5 .any ((OpenSpec.ofChange Rows.filtWrapsSpec).preRow enc Tryz.prog Tryz.f5 Rows.filtWrapsRow.domain false Rows.filtWrapsRow.laid) (((OpenSpec.ofChange Rows.filtWrapsSpec).at F).post enc Tryz.prog Tryz.f5 false true false false) := by
  obtain ⟨places, hx⟩ := reads os enc
  refine returnsInHanded_of_row (C := Tryz.checked) (s := OpenSpec.ofChange Rows.filtWrapsSpec) own started (by kernel_rfl) Tryz.func5
    (witness_row_at (enc := enc) (C := Tryz.checked) false ({ World.holding Tryz.prog os ⟨#[.cells #[.string sentS0] 276, .cells #[.string sentS1] 276, .cells #[.string sentS2] 276, .cells #[.string sentS3] 276, .cells #[.string sentS4] 276, .cells #[.string sentS5] 276, .cells #[.string sentS6] 276, .cells #[.string sentS7] 276, .cells #[.string sentS8] 276, .cells #[.string sentS9] 276, .cells #[.string sentS10] 276, .cells #[.string sentS11] 276, .cells #[.string sentS12] 276], #[], []⟩ with heap := ((((((((((((((((World.holding Tryz.prog os ⟨#[.cells #[.string sentS0] 276, .cells #[.string sentS1] 276, .cells #[.string sentS2] 276, .cells #[.string sentS3] 276, .cells #[.string sentS4] 276, .cells #[.string sentS5] 276, .cells #[.string sentS6] 276, .cells #[.string sentS7] 276, .cells #[.string sentS8] 276, .cells #[.string sentS9] 276, .cells #[.string sentS10] 276, .cells #[.string sentS11] 276, .cells #[.string sentS12] 276], #[], []⟩).heap.modify 15 fun | .cells _ t frozen => .cells #[.iface 258 (.pointer (some ⟨(World.holding Tryz.prog default ⟨#[], #[], []⟩).heap.size + 0, 0, none⟩))] t frozen | o => o).modify 14 fun | .cells _ t frozen => .cells #[.iface 258 (.pointer (some ⟨(World.holding Tryz.prog default ⟨#[], #[], []⟩).heap.size + 1, 0, none⟩))] t frozen | o => o).modify 16 fun | .cells _ t frozen => .cells #[.iface 258 (.pointer (some ⟨(World.holding Tryz.prog default ⟨#[], #[], []⟩).heap.size + 2, 0, none⟩))] t frozen | o => o).modify 13 fun | .cells _ t frozen => .cells #[.iface 258 (.pointer (some ⟨(World.holding Tryz.prog default ⟨#[], #[], []⟩).heap.size + 3, 0, none⟩))] t frozen | o => o).modify 11 fun | .cells _ t frozen => .cells #[.iface 258 (.pointer (some ⟨(World.holding Tryz.prog default ⟨#[], #[], []⟩).heap.size + 4, 0, none⟩))] t frozen | o => o).modify 12 fun | .cells _ t frozen => .cells #[.iface 258 (.pointer (some ⟨(World.holding Tryz.prog default ⟨#[], #[], []⟩).heap.size + 5, 0, none⟩))] t frozen | o => o).modify 0 fun | .cells _ t frozen => .cells #[.iface 258 (.pointer (some ⟨(World.holding Tryz.prog default ⟨#[], #[], []⟩).heap.size + 6, 0, none⟩))] t frozen | o => o).modify 1 fun | .cells _ t frozen => .cells #[.iface 258 (.pointer (some ⟨(World.holding Tryz.prog default ⟨#[], #[], []⟩).heap.size + 7, 0, none⟩))] t frozen | o => o).modify 2 fun | .cells _ t frozen => .cells #[.iface 258 (.pointer (some ⟨(World.holding Tryz.prog default ⟨#[], #[], []⟩).heap.size + 8, 0, none⟩))] t frozen | o => o).modify 3 fun | .cells _ t frozen => .cells #[.iface 258 (.pointer (some ⟨(World.holding Tryz.prog default ⟨#[], #[], []⟩).heap.size + 9, 0, none⟩))] t frozen | o => o).modify 4 fun | .cells _ t frozen => .cells #[.iface 258 (.pointer (some ⟨(World.holding Tryz.prog default ⟨#[], #[], []⟩).heap.size + 10, 0, none⟩))] t frozen | o => o).modify 5 fun | .cells _ t frozen => .cells #[.iface 258 (.pointer (some ⟨(World.holding Tryz.prog default ⟨#[], #[], []⟩).heap.size + 11, 0, none⟩))] t frozen | o => o).modify 6 fun | .cells _ t frozen => .cells #[.iface 258 (.pointer (some ⟨(World.holding Tryz.prog default ⟨#[], #[], []⟩).heap.size + 12, 0, none⟩))] t frozen | o => o).modify 10 fun | .cells _ t frozen => .cells (([128,191,160,191,128,159,144,191,128,143,0,0,0,0,0,0,0,0,0,0,0,0,0,0,0,0,0,0,0,0,0,0] : List Nat).map fun (n : Nat) => Value.int .u8 (n : Int)).toArray t frozen | o => o).modify 9 fun | .cells _ t frozen => .cells ((Go.Pinned.utf8FirstZ : List Nat).map fun (n : Nat) => Value.int .u8 (n : Int)).toArray t frozen | o => o).modify 7 fun | .cells _ t frozen => .cells #[.iface 153 (.agg #[.pointer (some ⟨17, 47, none⟩)])] t frozen | o => o } : World) #[.agg #[.int .i64 0, .string ⟨#[]⟩, .string ⟨#[]⟩, .slice none 0 0, .string ⟨#[]⟩, .slice none 0 0]] rfl (by kernel_rfl) (by kernel_rfl) (by kernel_rfl)
      (OpenSpec.preRow_of_cond 8 hx (by kernel_rfl) (fun k hk => by cases hk) (by kernel_rfl) (laid_met os _))) ?_
  intro W base args ds gs before hval hW _ _ _ hL _ _
  exact contract H enc W base args ds gs before hval hW hL

theorem said : Rows.FiltWrapsSaid :=
  OpenClaim.holds_of_cond 5 Tryz.f5 rfl rfl rfl rfl rfl rfl rfl ⟨rfl, rfl, rfl, rfl, rfl⟩ rfl rfl rfl rfl rfl (by kernel_rfl) Tryz.func5 (by kernel_rfl)
    (of_decide_eq_true (by kernel_rfl)) (by unfold Func.isWrapper; first | (rw [if_pos (by decide +kernel)]; kernel_rfl) | (rw [if_neg (by decide +kernel)]; exact ⟨rfl, rfl⟩))
    (fun os started H enc _ F => by rw [OpenClaim.pre_eq_preRow]; exact lifted os started H enc F)

theorem plain (f : FuncId) (fn : Func) (hf : Tryz.pinned.checked.prog.funcNamed "latiner/latinerlaw08.FiltWraps" = some f) (hfn : Tryz.pinned.checked.prog.funcs[f]? = some fn) :
    true = Tryz.pinned.checked.prog.looks [] ∧ ∀ (j : Nat) t, fn.params[j]? = some t → Tryz.pinned.checked.prog.wantsStandIn t = false := by
  obtain rfl : f = 5 := Option.some.inj ((show Tryz.prog.funcNamed "latiner/latinerlaw08.FiltWraps" = some 5 by kernel_rfl).symm.trans hf) |>.symm
  obtain rfl : fn = Tryz.f5 := (Option.some.inj (Tryz.func5.symm.trans hfn)).symm
  refine ⟨by kernel_rfl, fun j t ht => ?_⟩
  rw [Tryz.params5] at ht
  have hm : t = 25 := by have := Array.mem_of_getElem? ht; simp at this; first | exact this | omega | (rcases this with h | h | h <;> simp [h]) | (rcases this with h | h | h | h <;> simp [h])
  subst hm
  exact (show Tryz.prog.wantsStandIn 25 = false by kernel_rfl)

/-- The card. -/
theorem card : Rows.FiltWrapsCardSaid :=
  Claim7.holds_tied_plain_at .later [] _ _ _ _ said (fun _ h => by cases h) (by kernel_rfl) (fun _ h => by cases h) filtWraps_row_tie rfl ⟨rfl, rfl⟩ (by kernel_rfl) rfl plain (by kernel_rfl)
end Go.Proofs.YtmjfkdpaeenfgaaGreatDoor.F.Wraps

namespace Go.Proofs.YtmjfkdpaeenfgaaGreatDoor
theorem filtWraps_holds : Rows.FiltWrapsCardSaid := F.Wraps.card
#print axioms filtWraps_holds
end Go.Proofs.YtmjfkdpaeenfgaaGreatDoor
