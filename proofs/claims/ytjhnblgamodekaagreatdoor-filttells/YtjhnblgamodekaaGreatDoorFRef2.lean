/- What the document's own Same of layer 8 answers. Conditions: none. -/
import Derived.Test.YtjhnblgamodekaaGreatDoorG37
set_option linter.unusedSimpArgs false
set_option linter.unusedVariables false
set_option maxHeartbeats 8000000
set_option maxRecDepth 100000
namespace Go.Proofs.YtjhnblgamodekaaGreatDoor.F
open Go Go.RowKit Go.Shelf Fp
open D (H_ un ext_list)
attribute [local go_sem] Oper.semAt_some
theorem eqL (x y : ByteArray) : (x.toList == y.toList) = decide (x = y) := by
 by_cases h : x = y
 ·subst h; simp
 ·rw [decide_eq_false h, beq_eq_false_iff_ne, ByteArray.toList_eq, ByteArray.toList_eq]
  exact fun e => h (ByteArray.ext (Array.toList_inj.1 e))
theorem txl_node {n : Nat} {W : World} {p : Nat -> Prop} {d : Fd} {F : Fl (n + 1)} (h : FNode (n + 1) W p d F) : TxL W (.slice d.sa d.sn d.sc) (an F) :=
 ⟨d.sa, d.sc, by rw [h.is.sn], h.strs.imp fun _ _ _ => trivial⟩
theorem pre_eq {α : Type} {A B : List α} (hl : A.length = B.length) (h : ∀ j, j < A.length -> A[j]? = B[j]?) : A = B := by
 apply List.ext_getElem?
 intro i
 rcases Nat.lt_or_ge i A.length with hi | hi
 ·exact h i hi
 ·rw [List.getElem?_eq_none hi, List.getElem?_eq_none (by omega)]
def RSame (n : Nat) : Prop := ∀ (F G : Fl n) (w : World) (p q : Nat -> Prop) (d e : Fd), FNode n w p d F -> FNode n w q e G ->
 Calls Tryz.prog 14 #[d.val, e.val] w fun o w' => o = .returned (.bool (same n F G)) /\ Below w.heap.size w w'
theorem refSame_any : ∀ n, RSame n
 | 0 => fun F => Empty.elim F
 | n + 1 => by
  have ih := refSame_any n
  intro F G w p q d e hF hG
  obtain ⟨W0, hW0⟩ : ∃ W0, W0 = (w.alloc d.obj).alloc e.obj := ⟨_, rfl⟩
  have hb0 : Below w.heap.size w W0 := by rw [hW0]; exact ((Below.refl _ _).alloc (Nat.le_refl _) _).alloc (by simp) _
  have hq0 : W0.heap[w.heap.size]? = some (.cells d.cs 25 (0, 0)) := by rw [hW0]; exact (Below.heap_alloc _ _ _ (by simp)).trans (World.alloc_heap_new _ _)
  have hp0 : W0.heap[w.heap.size + 1]? = some (.cells e.cs 25 (0, 0)) := by rw [hW0]; have := World.alloc_heap_new (w.alloc d.obj) e.obj; rwa [World.size_alloc] at this
  obtain ⟨⟨c0, c1, c2, c3, c4, c5⟩, _⟩ := box6 hq0
  obtain ⟨⟨k0, k1, k2, k3, k4, k5⟩, _⟩ := box6 hp0
  have hFi := hF.is
  have hGi := hG.is
  have hls : ((ls F).length <= 1000 /\ (ls G).length <= 1000) /\ (an F).length <= 1000 /\ (an G).length <= 1000 := ⟨⟨hF.sm.ln, hG.sm.ln⟩, hF.sm.sn, hG.sm.sn⟩
  have hT := texts_any (an F) (an G) _ _ W0 (by omega) (by omega) ((txl_node hF).below hb0) ((txl_node hG).below hb0)
  have Q0 := H_ (And.intro hq0 hp0)
  have N0 := H_ (And.intro (hF.below hb0) (hG.below hb0))
  have HB := H_ hb0
  have HT := H_ hT
  have hek := eqL d.a e.a
  have hev := eqL d.v e.v
  have hef := eqL d.f e.f
  have HIH := H_ ih
  clear hF hG hb0 hq0 hp0 hT ih
  obtain ⟨dk, da, dv, dsa, dsn, dsc, df, dla, dln, dlc⟩ := d
  obtain ⟨ek, ea, ev, esa, esn, esc, ef, ela, eln, elc⟩ := e
  have HW0 := H_ hW0
  clear hW0
  dsimp only at c0 c1 c2 c3 c4 c5 k0 k1 k2 k3 k4 k5 hek hev hef
  obtain ⟨i1, i2, i3, i4, i5, i6⟩ := hFi
  obtain ⟨j1, j2, j3, j4, j5, j6⟩ := hGi
  dsimp only at i1 i2 i3 i4 i5 i6 j1 j2 j3 j4 j5 j6
  have hW1 := (un HW0).symm
  dsimp only [Fd.obj, Fd.cs] at hW1
  by_cases b1 : dk = ek
  case neg =>
   have hne : F ≠ G := fun e => b1 (by rw [i1, j1, e])
   have hs0 : same (n + 1) F G = false := Bool.eq_false_iff.2 fun e => hne ((same_iff _ _ _).1 e)
   rw [hs0]
   have t0 : (dk != ek) = true := by simpa using b1
   clear hne hs0 b1 i1 i2 i3 i4 i5 i6 j1 j2 j3 j4 j5 j6 hls HT HIH N0 Q0 hek hev hef
   go_enter Tryz.func14, Tryz.ntmps14
   go_wp2
   go_ret
   exact ⟨rfl, (un HB).mono (Nat.le_refl _)⟩
  have t0 : (dk != ek) = false := by rw [b1]; simp
  by_cases b2 : da = ea
  case neg =>
   have hne : F ≠ G := fun e => b2 (by rw [i2, j2, e])
   have hs0 : same (n + 1) F G = false := Bool.eq_false_iff.2 fun e => hne ((same_iff _ _ _).1 e)
   rw [hs0]
   rw [decide_eq_false b2] at hek
   clear hne hs0 b1 b2 i1 i2 i3 i4 i5 i6 j1 j2 j3 j4 j5 j6 hls HT HIH N0 Q0 hev hef
   go_enter Tryz.func14, Tryz.ntmps14
   go_wp2
   go_ret
   exact ⟨rfl, (un HB).mono (Nat.le_refl _)⟩
  rw [decide_eq_true b2] at hek
  by_cases b3 : dv = ev
  case neg =>
   have hne : F ≠ G := fun e => b3 (by rw [i3, j3, e])
   have hs0 : same (n + 1) F G = false := Bool.eq_false_iff.2 fun e => hne ((same_iff _ _ _).1 e)
   rw [hs0]
   rw [decide_eq_false b3] at hev
   clear hne hs0 b1 b2 b3 i1 i2 i3 i4 i5 i6 j1 j2 j3 j4 j5 j6 hls HT HIH N0 Q0 hef
   go_enter Tryz.func14, Tryz.ntmps14
   go_wp2
   go_ret
   exact ⟨rfl, (un HB).mono (Nat.le_refl _)⟩
  rw [decide_eq_true b3] at hev
  by_cases b4 : df = ef
  case neg =>
   have hne : F ≠ G := fun e => b4 (by rw [i4, j4, e])
   have hs0 : same (n + 1) F G = false := Bool.eq_false_iff.2 fun e => hne ((same_iff _ _ _).1 e)
   rw [hs0]
   rw [decide_eq_false b4] at hef
   clear hne hs0 b1 b2 b3 b4 i1 i2 i3 i4 i5 i6 j1 j2 j3 j4 j5 j6 hls HT HIH N0 Q0
   go_enter Tryz.func14, Tryz.ntmps14
   go_wp2
   go_ret
   exact ⟨rfl, (un HB).mono (Nat.le_refl _)⟩
  rw [decide_eq_true b4] at hef
  have hT2 := un HT
  dsimp only at hT2
  clear HT
  by_cases b5 : an F = an G
  case neg =>
   have hne : F ≠ G := fun e => b5 (by rw [e])
   have hs0 : same (n + 1) F G = false := Bool.eq_false_iff.2 fun e => hne ((same_iff _ _ _).1 e)
   rw [hs0]
   rw [decide_eq_false b5] at hT2
   have HT := H_ hT2
   clear hT2 hne hs0 b1 b2 b3 b4 b5 i1 i2 i3 i4 i5 i6 j1 j2 j3 j4 j5 j6 hls HIH N0 Q0
   go_enter Tryz.func14, Tryz.ntmps14
   go_wp2_with fail
   refine (un HT).mono ?_
   rintro o w1 ⟨rfl, hb1⟩
   have HB1 := H_ ((un HB).trans (hb1.mono (un HB).size))
   clear hb1
   go_wp2
   go_ret
   exact ⟨rfl, un HB1⟩
  rw [decide_eq_true b5] at hT2
  have HT := H_ hT2
  clear hT2
  have hd1 : (dln : Int) <= 1000 := by have := hls.1.1; omega
  by_cases b6 : (ls F).length = (ls G).length
  case neg =>
   have hne : F ≠ G := fun e => b6 (by rw [e])
   have hs0 : same (n + 1) F G = false := Bool.eq_false_iff.2 fun e => hne ((same_iff _ _ _).1 e)
   rw [hs0]
   have t1 : ((dln : Int) != (eln : Int)) = true := by simp; omega
   clear hne hs0 b1 b2 b3 b4 b5 b6 i1 i2 i3 i4 i5 i6 j1 j2 j3 j4 j5 j6 hls HIH N0
   go_enter Tryz.func14, Tryz.ntmps14
   go_wp2_with fail
   refine (un HT).mono ?_
   rintro o w1 ⟨rfl, hb1⟩
   have HB1 := H_ ((un HB).trans (hb1.mono (un HB).size))
   obtain ⟨q1, q2⟩ := un Q0
   obtain ⟨⟨_, _, _, _, _, m1⟩, _⟩ := box6 ((hb1.block _ (Array.getElem?_eq_some_iff.1 q1).1).trans q1)
   obtain ⟨⟨_, _, _, _, _, m2⟩, _⟩ := box6 ((hb1.block _ (Array.getElem?_eq_some_iff.1 q2).1).trans q2)
   dsimp only at m1 m2
   clear hb1 q1 q2 Q0
   go_wp2
   go_ret
   exact ⟨rfl, un HB1⟩
  have hFG : (∀ j, j < dln -> (ls F)[j]? = (ls G)[j]?) -> F = G := fun h => by
   have h7 : ls F = ls G := pre_eq b6 fun j hj => h j (by omega)
   rw [<- mk_eta F, <- mk_eta G, <- i1, <- i2, <- i3, <- i4, b1, b2, b3, b4, b5, h7, <- j1, <- j2, <- j3, <- j4]
  have HFG := H_ hFG
  have HGL := H_ (show dln = eln by rw [i6, j6, b6])
  have HL := H_ (And.intro i6 j6)
  have t1 : ((dln : Int) != (eln : Int)) = false := by simp [un HGL]
  clear hFG b1 b2 b3 b4 b5 b6 i1 i2 i3 i4 i5 i6 j1 j2 j3 j4 j5 j6 hls
  go_enter Tryz.func14, Tryz.ntmps14
  go_wp2_with fail
  refine (un HT).mono ?_
  rintro o w1 ⟨rfl, hb1⟩
  have HB1 := H_ (And.intro ((un HB).trans (hb1.mono (un HB).size)) hb1)
  obtain ⟨q1, q2⟩ := un Q0
  have q1 := (hb1.block _ (Array.getElem?_eq_some_iff.1 q1).1).trans q1
  have q2 := (hb1.block _ (Array.getElem?_eq_some_iff.1 q2).1).trans q2
  have n1 := (un N0).1.below hb1
  have n2 := (un N0).2.below hb1
  obtain ⟨⟨_, _, _, _, _, m1⟩, _⟩ := box6 q1
  obtain ⟨⟨_, _, _, _, _, m2⟩, _⟩ := box6 q2
  dsimp only at m1 m2
  have Q1 := H_ (And.intro q1 (And.intro q2 (And.intro n1 n2)))
  clear hb1 q1 q2 n1 n2 Q0 N0 HT
  go_wp2
  go_loopw [5] (fun ix wr => ∃ j : Nat, j <= dln /\ ix = .int .i64 (j : Int) /\ Hid (∀ i, i < j -> (ls F)[i]? = (ls G)[i]?) /\ Hid (Below w1.heap.size w1 wr))
   (fun ix _ => dln - (intOf ix).toNat)
  case atStart => exact ⟨0, Nat.zero_le _, rfl, H_ (fun i h => by omega), H_ (Below.refl _ _)⟩
  case round =>
   obtain ⟨j, hj, rfl, hpre, hb⟩ := hrel
   obtain ⟨q1, q2, n1, n2⟩ := un Q1
   have z1 := (Array.getElem?_eq_some_iff.1 q1).1
   have z2 := (Array.getElem?_eq_some_iff.1 q2).1
   have p1 := ((un hb).block _ z1).trans q1
   have p2 := ((un hb).block _ z2).trans q2
   have hsz := (un hb).size
   obtain ⟨⟨_, _, _, _, _, m1⟩, _⟩ := box6 p1
   obtain ⟨⟨_, _, _, _, _, m2⟩, _⟩ := box6 p2
   dsimp only at m1 m2
   by_cases hlt : j < dln
   ·have hltF : j < (ls F).length := by have := (un HL).1; omega
    have hltG : j < (ls G).length := by have := (un HL).2; have := un HGL; omega
    obtain ⟨g, off, ha⟩ := n1.kids
    obtain ⟨g', off', ha'⟩ := n2.kids
    have ha := ha.resolve_right (fun e => by rw [e] at hltF; cases hltF)
    have ha' := ha'.resolve_right (fun e => by rw [e] at hltG; cases hltG)
    obtain ⟨⟨k1, a1, v1, sa1, sn1, sc1, f1, la1, ln1, lc1⟩, hA1, hN1⟩ := (n1.below (un hb)).kid ha hltF
    obtain ⟨⟨k2, a2, v2, sa2, sn2, sc2, f2, la2, ln2, lc2⟩, hA2, hN2⟩ := (n2.below (un hb)).kid ha' hltG
    dsimp only at ha ha'
    subst ha
    subst ha'
    have u0 := fun z : Kw wr => Kw.cell z hA1.c0 hA1.lt
    have u1 := fun z : Kw wr => Kw.cell z hA1.c1 hA1.lt
    have u2 := fun z : Kw wr => Kw.cell z hA1.c2 hA1.lt
    have u3 := fun z : Kw wr => Kw.cell z hA1.c3 hA1.lt
    have u4 := fun z : Kw wr => Kw.cell z hA1.c4 hA1.lt
    have u5 := fun z : Kw wr => Kw.cell z hA1.c5 hA1.lt
    have y0 := fun z : Kw wr => Kw.cell z hA2.c0 hA2.lt
    have y1 := fun z : Kw wr => Kw.cell z hA2.c1 hA2.lt
    have y2 := fun z : Kw wr => Kw.cell z hA2.c2 hA2.lt
    have y3 := fun z : Kw wr => Kw.cell z hA2.c3 hA2.lt
    have y4 := fun z : Kw wr => Kw.cell z hA2.c4 hA2.lt
    have y5 := fun z : Kw wr => Kw.cell z hA2.c5 hA2.lt
    have x1 := fun z : Kw wr => Kw.cell z m1 (by show w.heap.size < _; omega)
    have x2 := fun z : Kw wr => Kw.cell z m2 (by show w.heap.size + 1 < _; omega)
    dsimp only at u0 u1 u2 u3 u4 u5 y0 y1 y2 y3 y4 y5
    have HC := H_ fun z : Kw wr => Kw.call z ((un HIH) (ls F)[j] (ls G)[j] z.w _ _ _ _ (hN1.below z.b) (hN2.below z.b))
    have HJ := H_ (same_iff n (ls F)[j] (ls G)[j])
    have E1 := H_ (List.getElem?_eq_getElem hltF)
    have E2 := H_ (List.getElem?_eq_getElem hltG)
    generalize (ls F)[j] = Fj at *
    generalize (ls G)[j] = Gj at *
    generalize hsm : same n Fj Gj = bj at *
    have hlt1 : (j : Int) < dln := by omega
    have hlt2 : (j : Int) < eln := by have := un HGL; omega
    have hne : Nonempty (Kw wr) := kwNonempty wr
    clear n1 n2 q1 q2 p1 p2 z1 z2 hA1 hA2 hN1 hN2 hsm hsz HIH
    go_wp2_with fail
    refine wp_region_kw0 (by kernel_rfl) (by kernel_rfl) ?_
    repeat (go_big_quiet_step (first | with_reducible exact (un HC) _))
    refine wpQuiet_nil ?_
    rintro w' ⟨z, rfl⟩
    have HZ := H_ ((un hb).trans (z.b.mono (un hb).size))
    clear u0 u1 u2 u3 u4 u5 y0 y1 y2 y3 y4 y5 x1 x2 hne HC
    cases bj
    ·have hne : F ≠ G := fun e => by
      have e1 := un E1
      rw [e, un E2] at e1
      have := (un HJ).2 (Option.some.inj e1).symm
      cases this
     have HS := H_ (show same (n + 1) F G = false from Bool.eq_false_iff.2 fun e => hne ((same_iff _ _ _).1 e))
     clear hne
     go_wp2
     go_ret
     rw [un HS]
     exact ⟨rfl, (un HB1).1.trans ((un HZ).mono (un HB1).1.size)⟩
    ·skip
     go_wp2
     go_roundw
     case rel =>
      refine ⟨j + 1, by omega, by simp, H_ (fun i hi => ?_), HZ⟩
      by_cases e : i = j
      ·subst e; rw [un E1, un E2, (un HJ).1 rfl]
      ·exact un hpre i (by omega)
     case measure => simp [intOf]; omega
   ·have hge : ¬ (j : Int) < dln := by omega
    have HS := H_ ((same_iff (n + 1) F G).2 ((un HFG) fun i hi => un hpre i (by omega)))
    clear n1 n2 q1 q2 p1 p2 z1 z2 hpre hsz
    go_wp2
    go_ret
    rw [un HS]
    exact ⟨rfl, (un HB1).1.trans ((un hb).mono (un HB1).1.size)⟩
end Go.Proofs.YtjhnblgamodekaaGreatDoor.F
