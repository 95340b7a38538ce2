/- Several texts in one: FRef6, FRefD. Each says what it proves, and its conditions. -/
import Derived.Test.YtjhnblgamodekaaGreatDoorFRef5
import Derived.Test.YtjhnblgamodekaaGreatDoorG42
import Derived.Test.YtjhnblgamodekaaGreatDoorFCut
set_option linter.unusedSimpArgs false
set_option linter.unusedVariables false
set_option maxHeartbeats 8000000
set_option maxRecDepth 100000
/-
 What the document's own right and Right of layer 8 answer, for every filter. Conditions: none.
-/
namespace Go.Proofs.YtjhnblgamodekaaGreatDoor.F
open Go Go.RowKit Go.Shelf Fp
open D (H_ un)
attribute [local go_sem] Oper.semAt_some
theorem right_no {n : Nat} {deep : Nat} {F : Fl (n + 1)} (h : deep = 0 \/ kd F < 0 \/ 8 < kd F) : right (n + 1) deep F = false := by
 rw [right]
 rcases h with rfl | h
 ·simp
 ·have e : fitF F = false := by
   unfold fitF fitB
   have h1 : isSet (kd F) = false := by
    unfold isSet
    simp
    omega
   rw [if_neg (by rw [h1]; simp), if_neg (by omega), if_neg (by omega)]
  rw [e]
  simp
theorem refRight_no (n : Nat) (F : Fl (n + 1)) (w : World) (p : Nat -> Prop) (d : Fd) (deep : Nat) (hd2 : deep <= 1000) (hN : FNode (n + 1) w p d F) (h : deep = 0 \/ d.k < 0 \/ 8 < d.k) :
  Calls Tryz.prog 28 #[d.val, .int .i64 (deep : Int)] w fun o w' => o = .returned (.bool (right (n + 1) deep F)) /\ Below w.heap.size w w' := by
 rw [right_no (by rw [<- hN.is.k]; exact h)]
 have HB := H_ ((Below.refl w.heap.size w).alloc (Nat.le_refl _) d.obj)
 clear hN
 obtain ⟨dk, da, dv, dsa, dsn, dsc, df, dla, dln, dlc⟩ := d
 dsimp only at h
 have hdd : (deep : Int) <= 1000 := by omega
 by_cases h0 : (deep : Int) < 1
 ·clear h
  go_enter Tryz.func28, Tryz.ntmps28
  go_wp2
  go_ret
  exact ⟨rfl, un HB⟩
 ·have h1 : dk < 0 \/ 8 < dk := by omega
  clear h
  by_cases h2 : dk < 0
  ·clear h1
   go_enter Tryz.func28, Tryz.ntmps28
   go_wp2
   go_ret
   exact ⟨rfl, un HB⟩
  ·have h3 : 8 < dk := by omega
   clear h1
   go_enter Tryz.func28, Tryz.ntmps28
   go_wp2
   go_ret
   exact ⟨rfl, un HB⟩
theorem refRightAt_any : ∀ n, RRight n
 | 0 => fun F => Empty.elim F
 | n + 1 => by
  intro F w p d deep hd hN
  by_cases h : deep = 0 \/ d.k < 0 \/ 8 < d.k
  ·exact refRight_no n F w p d deep hd hN h
  ·by_cases hs : d.k <= 2
   ·exact refRight_set n (refRightAt_any n) F w p d deep (by omega) hd hN (by omega) hs
   ·exact refRight_val n F w p d deep (by omega) hd hN (by omega)
theorem refRight_any (n : Nat) (F : Fl n) (w : World) (p : Nat -> Prop) (d : Fd) (hN : FNode n w p d F) :
  Calls Tryz.prog 12 #[d.val] w fun o w' => o = .returned (.bool (right n 6 F)) /\ Below w.heap.size w w' := by
 have hb0 : Below w.heap.size w (w.alloc d.obj) := (Below.refl _ _).alloc (Nat.le_refl _) _
 have H : Hid (Calls Tryz.prog 28 #[d.val, .int .i64 6] (w.alloc d.obj) fun o w' => o = .returned (.bool (right n 6 F)) /\ Below (w.alloc d.obj).heap.size (w.alloc d.obj) w') := H_ (refRightAt_any n F (w.alloc d.obj) p d 6 (by omega) (hN.below hb0))
 have HB := H_ hb0
 clear hN hb0
 go_enter Tryz.func12, Tryz.ntmps12
 go_wp2_with fail
 refine (un H).mono ?_
 rintro o w1 ⟨rfl, hb⟩
 have HZ := H_ ((un HB).trans (hb.mono (un HB).size))
 clear hb H
 go_wp2
 go_ret
 exact ⟨rfl, un HZ⟩
end Go.Proofs.YtjhnblgamodekaaGreatDoor.F
/-
 What the document's own read and Parse of layer 8 answer. Conditions: none.
-/
namespace Go.Proofs.YtjhnblgamodekaaGreatDoor.F
open Go Go.RowKit Go.Shelf Fp
open D (H_ un)
open Dp (mp)
attribute [local go_sem] Oper.semAt_some
abbrev setD (kd : Int) (la : Option Addr) (n lc : Nat) : Fd := ⟨kd, ⟨#[]⟩, ⟨#[]⟩, none, 0, 0, ⟨#[]⟩, la, n, lc⟩
structure Rbx (k : Nat) (w : World) (kd : Int) (gs : List (Fl (k + 2))) (la : Option Addr) (lc : Nat) (W : World) : Prop where
 b0 : W.heap[w.heap.size]? = some (.cells zfd.cs 25 (0, 0))
 b1 : W.heap[w.heap.size + 1]? = some (.cells (setD kd la gs.length lc).cs 25 (0, 0))
 gr : GrowF (k + 2) W (w.heap.size + 2) (.slice la gs.length lc) gs
 bel : Below w.heap.size w W
 sz : w.heap.size + 2 <= W.heap.size
theorem Rbx.below {k : Nat} {w : World} {kd : Int} {gs : List (Fl (k + 2))} {la : Option Addr} {lc : Nat} {W V : World} (h : Rbx k w kd gs la lc W) (hb : Below W.heap.size W V) : Rbx k w kd gs la lc V :=
 ⟨(hb.block _ (by have := h.sz; omega)).trans h.b0, (hb.block _ (by have := h.sz; omega)).trans h.b1, h.gr.of fun b _ hl => hb.block b hl, h.bel.trans (hb.mono h.bel.size), Nat.le_trans h.sz hb.size⟩
theorem Rbx.first (k : Nat) (w W : World) (kd : Int) (h : W = (w.alloc zfd.obj).alloc (setD kd none 0 0).obj) : Rbx k w kd [] none 0 W := by
 subst h
 refine ⟨?_, ?_, GrowF.nil _ _ _, ((Below.refl _ _).alloc (Nat.le_refl _) _).alloc (by simp) _, by simp⟩
 ·exact (Below.heap_alloc _ _ _ (by simp)).trans (World.alloc_heap_new _ _)
 ·have := World.alloc_heap_new (w.alloc zfd.obj) (setD kd none 0 0).obj
  rwa [World.size_alloc] at this
theorem Rbx.snoc {k : Nat} {w : World} {kd : Int} {gs : List (Fl (k + 2))} {la : Option Addr} {lc : Nat} {W w3 w5 : World} {vs : List Fd} {e : Fd} {F : Fl (k + 2)} {gg cp : Nat}
  (h : Rbx k w kd gs la lc W) (h3 : Rbx k w kd gs la lc w3) (hvl : vs.length = gs.length) (hNs : ∀ (i : Nat) v F, vs[i]? = some v -> gs[i]? = some F -> FNode (k + 2) w3 (fun b => w.heap.size + 2 <= b /\ some b ≠ (Value.slice la gs.length lc).ownBlock) v F)
  (hN : FNode (k + 2) w3 (fun b => W.heap.size <= b) e F)
  (hown : w5.ownsRow (w.heap.size + 2) 25 6 (.slice (some ⟨gg, 0, none⟩) (gs.length + 1) cp) (gs.length + 1) (flat6 vs ++ e.cs.toList))
  (hgrow : (w3.alloc e.obj).grownBy w5 (Value.slice la gs.length lc).ownBlock) (hat : (Value.slice la gs.length lc).ownBlock = some gg \/ gg = w3.heap.size + 1) :
  Rbx k w kd (gs ++ [F]) (some ⟨gg, 0, none⟩) cp (w5.setCell ⟨w.heap.size + 1, 5, none⟩ (.slice (some ⟨gg, 0, none⟩) (gs.length + 1) cp)) := by
 have hob : ∀ g', (Value.slice la gs.length lc).ownBlock = some g' -> w.heap.size + 2 <= g' /\ g' < W.heap.size := fun g' hg' => h.gr.lt hg'
 have hz := h3.sz
 have hb5 : Below (w.heap.size + 2) w3 w5 := ((Below.refl (w.heap.size + 2) w3).alloc hz _).grown hgrow (by simp; omega) (fun q hq => (hob q hq).1)
 have old : ∀ b, b < w3.heap.size -> some b ≠ (Value.slice la gs.length lc).ownBlock -> w5.heap[b]? = w3.heap[b]? := fun b h1 h4 => (hgrow.block b (by simp; omega) h4).trans (Below.heap_alloc _ _ _ h1)
 have e1 : (gs ++ [F]).length = gs.length + 1 := by simp
 refine ⟨?_, ?_, ?_, ?_, ?_⟩
 ·exact (Below.heap_setCell _ _ _ _ (by show w.heap.size ≠ w.heap.size + 1; omega)).trans ((hb5.block _ (by omega)).trans h3.b0)
 ·rw [e1]
  exact heap_set _ _ 5 _ _ _ ((hb5.block _ (by omega)).trans h3.b1)
 ·rw [e1]
  refine growF_snoc (W := w3) (sl := .slice la gs.length lc) hvl hNs (ownsRow_setCell_below hown (a := ⟨w.heap.size + 1, 5, none⟩) (by show w.heap.size + 1 < _; omega) _) (fun b h1 h3 h4 _ => (Below.heap_setCell _ _ _ _ (by show b ≠ w.heap.size + 1; omega)).trans (old b h3 h4)) ?_ (hN.imp fun b hb' _ => ⟨by have := h.sz; omega, fun e4 => by have := hob b e4.symm; omega⟩)
  rcases hat with hat | hat
  ·exact .inl hat
  ·exact .inr (by rw [hat]; omega)
 ·exact (h3.bel.trans (hb5.mono (by omega))).setCell (by show w.heap.size <= w.heap.size + 1; omega) _
 ·rw [size_setCell]
  exact Nat.le_trans h3.sz hb5.size
theorem Rbx.node {k : Nat} {w : World} {kd : Int} {gs : List (Fl (k + 2))} {la : Option Addr} {lc : Nat} {W : World} (h : Rbx k w kd gs la lc W) (hl : gs.length <= 1000) :
  FNode (k + 3) W (fun b => w.heap.size + 2 <= b) (setD kd la gs.length lc) (stG kd gs) :=
 ⟨⟨rfl, rfl, rfl, rfl, rfl, rfl⟩, ⟨by rw [nm_mk]; decide, by rw [va_mk]; decide, by rw [fi_mk]; decide, by rw [an_mk]; simp, (fun x hx => by cases hx), by rw [ls_mk]; exact hl⟩, .inl rfl, h.gr.kids⟩
theorem tail_dt (s : ByteArray) (p : Nat) : ((dt s).drop p).tail = (dt s).drop (p + 1) := by rw [List.tail_drop]
theorem read_set (k : Nat) (s : ByteArray) (ih : RdIs k s) (p : Nat) (w : World) (hs : s.size <= 900) (hk : k <= 9) (hp : p + 1 < s.size) (h : s[p] = 40) (y : UInt8) (kd : Int) (hc : (y = 38 /\ kd = 0) \/ (y = 124 /\ kd = 1) \/ (y = 33 /\ kd = 2)) (hy : s[p + 1] = y) :
  Calls Tryz.prog 27 #[.string s, .int .i64 (p : Int), .int .i64 ((k + 1 : Nat) : Int)] w (RdPst (k + 1) s p w) := by
 have hl : (dt s).drop p = 40 :: y :: (dt s).drop (p + 2) := by rw [dt_at (by omega), h, dt_at hp, hy]
 have hK : setK y = some kd := by rcases hc with ⟨rfl, rfl⟩ | ⟨rfl, rfl⟩ | ⟨rfl, rfl⟩ <;> rfl
 have HSet := H_ fun (gs : List (Fl (k + 2))) (r : List UInt8) h1 h2 => rdF_set (k := k) (gs := gs) (r := r) hl hK h1 h2
 have HBad := H_ fun (gs : List (Fl (k + 2))) (r : List UInt8) h1 h2 h3 => rdF_set_bad (k := k) (gs := gs) (r := r) hl hK h1 h2 h3
 have HA := H_ fun W => E.among_any y ⟨#[38, 124, 33]⟩ W (by decide)
 rw [show (ByteArray.mk #[38, 124, 33]).data.toList.contains y = true by rcases hc with ⟨rfl, _⟩ | ⟨rfl, _⟩ | ⟨rfl, _⟩ <;> rfl] at HA
 have Hy := H_ hy
 rw [<- hy] at HA
 have HI := H_ ih
 have h1 : ¬ (s.size : Int) <= (p : Int) + 1 := by omega
 have h2 : ¬ ((k + 1 : Nat) : Int) < 1 := by omega
 have h3 : (p : Int) <= 900 := by omega
 have h4 : (p : Int) < s.size := by omega
 have h5 : (p : Int) + 1 < s.size := by omega
 have h6 : (s.size : Int) <= 900 := by omega
 have h7 : (k : Int) <= 9 := by omega
 have hb40 : (s[p].toNat : Int) = 40 := by rw [h]; rfl
 rw [show ((k + 1 : Nat) : Int) = (k : Int) + 1 by omega] at h2 ⊢
 obtain ⟨W1, hW1⟩ : ∃ W1, W1 = (w.alloc zfd.obj).alloc (setD kd none 0 0).obj := ⟨_, rfl⟩
 have HR0 := H_ (Rbx.first k w W1 kd hW1)
 have HW1 := H_ hW1
 have hp2 : p + 2 <= s.size := by omega
 clear hl hK ih h hy hW1 hs hk
 obtain ⟨i0, hi0, hy0, hy1, hy2⟩ := infoF
 go_enter Tryz.func27, Tryz.ntmps27
 go_wp2_with fail
 refine ((un HA) _).mono ?_
 rintro e w1 ⟨rfl, hw1⟩
 rw [hw1]
 clear hw1 HA
 rcases hc with ⟨e1, e2⟩ | ⟨e1, e2⟩ | ⟨e1, e2⟩
 focus
  have hby : (s[p + 1].toNat : Int) = 38 := by rw [un Hy, e1]; rfl
  go_wp2_with fail
 rotate_left
 focus
  have hby : (s[p + 1].toNat : Int) = 124 := by rw [un Hy, e1]; rfl
  go_wp2_with fail
 rotate_left
 focus
  have hby : (s[p + 1].toNat : Int) = 33 := by rw [un Hy, e1]; rfl
  go_wp2_with fail
 rotate_left
 all_goals
  rw [e2] at HW1
  rw [<- (show W1 = _ from un HW1)]
  clear h1 h2 h4 h5 hb40 hby HW1 e1 e2 Hy
  go_loopw [1] (fun u wr => ∃ (q : Nat) (gs : List (Fl (k + 2))) (la : Option Addr) (lc : Nat), u = .int .i64 (q : Int) /\ p + 2 <= q /\ q <= s.size /\ gs.length <= q /\ Hid (Rbx k w kd gs la lc wr) /\ Hid (Rds (rdF k) (right (k + 2) k) ((dt s).drop (p + 2)) gs ((dt s).drop q)))
   (fun u _ => s.size - (intOf u).toNat)
  case atStart => exact ⟨p + 2, [], none, 0, by first | rfl | (simp; done) | (congr 1; omega), Nat.le_refl _, hp2, by simp, HR0, H_ rfl⟩
  case round =>
   obtain ⟨q, gs, la, lc, rfl, hpq, hqs, hgl, hI, hRds⟩ := hrel
   clear HR0
   have hqi : (q : Int) <= 900 := by omega
   have hgi : gs.length <= 900 := by omega
   by_cases hlt : q < s.size
   ·have hlt1 : (q : Int) < s.size := by omega
    have hnlt : ¬ (s.size : Int) <= (q : Int) := by omega
    have hhd := head_dt hlt
    have htl := tail_dt s q
    obtain ⟨y, hy⟩ : ∃ y, s[q] = y := ⟨_, rfl⟩
    rw [hy] at hhd
    by_cases hy40 : y = 40
    ·subst hy40
     have hq40 : (((40 : UInt8).toNat : Nat) : Int) = 40 := rfl
     have HC := H_ ((un HI) q wr hqs)
     have HHd := H_ hhd
     clear HI HSet hhd htl
     go_wp2_with fail
     refine (un HC).mono ?_
     rintro e w2 ⟨hb2, hpost⟩
     have HI2 := H_ ((un hI).below hb2)
     clear HC
     rcases hpost with ⟨⟨dk, da, dv, dsa, dsn, dsc, df, dla, dln, dlc⟩, c, rfl, hbad⟩ | ⟨⟨dk, da, dv, dsa, dsn, dsc, df, dla, dln, dlc⟩, G, q2, rfl, hq2, hq2s, hN, hgot⟩
     ·have HR := H_ ((un HBad) _ _ (un hRds) (un HHd) hbad)
      obtain ⟨Y, hY⟩ : ∃ Y, Y = w2.alloc (Fd.obj ⟨dk, da, dv, dsa, dsn, dsc, df, dla, dln, dlc⟩) := ⟨_, rfl⟩
      have hYw : Below w2.heap.size w2 Y := by rw [hY]; exact (Below.refl w2.heap.size w2).alloc (Nat.le_refl _) _
      have hI3 := (un HI2).below hYw
      have HV := H_ (And.intro hI3.bel (show w.heap.size < Y.heap.size by have := hI3.sz; omega))
      obtain ⟨⟨c0, c1, c2, c3, c4, c5⟩, g0, g1, g2, g3, g4, g5⟩ := box6 hI3.b0
      dsimp only at c0 c1 c2 c3 c4 c5
      have hYc := hY.symm
      dsimp only [Fd.obj, Fd.cs] at hYc
      clear hY hYw hI3 HI2 hb2 hbad HHd hRds HBad hI
      go_wp2
      refine bodyPost_ret (v := .tuple #[zfd.val, .int .i64 0, .bool false]) (by simp [results, Tryz.results27, go_sem, c0, c1, c2, c3, c4, c5]) rfl ?_
      exact ⟨(un HV).1.trans ((set6_but _ w.heap.size zfd).below (Nat.le_refl _) (un HV).2), .inl ⟨zfd, 0, rfl, un HR⟩⟩
     ·have HRd := H_ (Rds.snoc (un HHd) hgot (un hRds))
      obtain ⟨Y, hY⟩ : ∃ Y, Y = w2.alloc (Fd.obj ⟨dk, da, dv, dsa, dsn, dsc, df, dla, dln, dlc⟩) := ⟨_, rfl⟩
      have hYw : Below w2.heap.size w2 Y := by rw [hY]; exact (Below.refl w2.heap.size w2).alloc (Nat.le_refl _) _
      have HY := H_ ((un HI2).below hYw)
      have HNy := H_ (hN.below hYw)
      have hYq : Y.heap[w2.heap.size]? = some (.cells (Fd.cs ⟨dk, da, dv, dsa, dsn, dsc, df, dla, dln, dlc⟩) 25 (0, 0)) := by rw [hY]; exact World.alloc_heap_new _ _
      obtain ⟨⟨k0, k1, k2, k3, k4, k5⟩, _⟩ := box6 hYq
      obtain ⟨⟨m0, m1, m2, m3, m4, m5⟩, n0, n1, n2, n3, n4, n5⟩ := box6 (un HY).b1
      dsimp only at k0 k1 k2 k3 k4 k5 m0 m1 m2 m3 m4 m5
      obtain ⟨vs, hvl, hownL, hNs⟩ := (un HY).gr
      have HO := H_ (hownL.alloc (Fd.obj ⟨dk, da, dv, dsa, dsn, dsc, df, dla, dln, dlc⟩))
      have HN := H_ (cells6_new Y ⟨dk, da, dv, dsa, dsn, dsc, df, dla, dln, dlc⟩)
      have HNs := H_ (And.intro hvl hNs)
      have hYz := (un HY).sz
      have hYc := hY.symm
      dsimp only [Fd.obj, Fd.cs] at hYc
      have HQ := H_ (And.intro hq2 (And.intro hq2s (show p + 2 <= q2 by omega)))
      have hgl2 : gs.length + 1 <= q2 := by omega
      clear hY hYw HI2 hb2 HHd hRds HBad hN hgot hownL hNs hYq m0 m1 m2 m3 m4 n0 n1 n2 n3 n4 hq2 hq2s hvl hgl hpq hp2
      go_wp2_with (at_builtin; refine wpList_append_lies _ rfl (.tmp 93) (.tmp 95) 23 rfl (w.heap.size + 2) 25 i0 zfd.val 6 104 Tryz.underlying23 hi0 hy0 hy1 hy2 rfl (by omega) (.slice la gs.length lc) gs.length (flat6 vs) rfl (un HO) ⟨Y.heap.size, 0, none⟩ 1 1 (Fd.cs ⟨dk, da, dv, dsa, dsn, dsc, df, dla, dln, dlc⟩).toList rfl rfl (un HN) (by simp [Value.oneCell']) (by omega) (by unfold maxLen; omega) (by omega) (by simp; omega) (Y.heap.size + 1) (by simp) ?_; intro gg cp w5 hown5 hgrow hat hglt; have HZ := H_ ((un hI).snoc (un HY) (un HNs).1 (un HNs).2 (un HNy) hown5 hgrow hat); have hb5 : Below (w.heap.size + 2) Y w5 := ((Below.refl (w.heap.size + 2) Y).alloc hYz _).grown hgrow (by simp; omega) (fun q hq => ((un HY).gr.lt hq).1); have hq5 := (hb5.block _ (show w.heap.size + 1 < w.heap.size + 2 by omega)).trans (un HY).b1; have hx5 := (box6 hq5).1.2.2.2.2.2; have hf5 := (box6 hq5).2.2.2.2.2.2; dsimp only at hx5; clear hown5 hgrow hat hglt hb5 hq5 HNs HNy HY hI)
      go_roundw
      case rel => exact ⟨q2, gs ++ [G], _, _, rfl, (un HQ).2.2, (un HQ).2.1, by simpa using hgl2, HZ, HRd⟩
      case measure => have := (un HQ).1; have := (un HQ).2.1; simp [intOf]; omega
    ·have hb := E.beq_u8 y 40 hy40
     rw [show (((40 : UInt8).toNat : Nat) : Int) = 40 from rfl] at hb
     have hne40 : ((dt s).drop q).head? ≠ some 40 := by rw [hhd]; exact fun e => hy40 (Option.some.inj e)
     by_cases hy41 : y = 41
     ·have hset := (un HSet) _ _ (un hRds) hne40
      rw [if_pos (by rw [hhd, hy41]), htl] at hset
      have HR := H_ hset
      have HJ := H_ (And.intro (show p < q + 1 by omega) (show q + 1 <= s.size by omega))
      have HN := H_ ((un hI).node (by omega))
      have HV := H_ (And.intro (un hI).bel (show w.heap.size < wr.heap.size by have := (un hI).sz; omega))
      obtain ⟨⟨c0, c1, c2, c3, c4, c5⟩, g0, g1, g2, g3, g4, g5⟩ := box6 (un hI).b0
      obtain ⟨⟨k0, k1, k2, k3, k4, k5⟩, _⟩ := box6 (un hI).b1
      dsimp only at c0 c1 c2 c3 c4 c5 k0 k1 k2 k3 k4 k5
      have hb41 : (y.toNat : Int) = 41 := by rw [hy41]; rfl
      clear hset hne40 hhd htl HBad HSet HI hRds hI hy41 hy40 hpq hp2
      go_wp2
      refine bodyPost_ret (v := .tuple #[Fd.val (setD kd la gs.length lc), .int .i64 ((q + 1 : Nat) : Int), .bool true]) (by simp [results, Tryz.results27, go_sem, c0, c1, c2, c3, c4, c5]) rfl ?_
      have hb := set6_but wr w.heap.size (setD kd la gs.length lc)
      refine ⟨(un HV).1.trans (hb.below (Nat.le_refl _) (un HV).2), .inr ⟨_, stG kd gs, q + 1, rfl, (un HJ).1, (un HJ).2, ?_, un HR⟩⟩
      exact ((un HN).of fun b h1 h2 => hb.block b h2 (by omega)).imp fun b h1 _ => by omega
     ·have hb4 := E.beq_u8 y 41 hy41
      rw [show (((41 : UInt8).toNat : Nat) : Int) = 41 from rfl] at hb4
      have hbn : ((y.toNat : Int) != 41) = true := by rw [bne, hb4]; rfl
      have hset := (un HSet) _ _ (un hRds) hne40
      rw [if_neg (by rw [hhd]; exact fun e => hy41 (Option.some.inj e))] at hset
      have HR := H_ hset
      have HV := H_ (And.intro (un hI).bel (show w.heap.size < wr.heap.size by have := (un hI).sz; omega))
      obtain ⟨⟨c0, c1, c2, c3, c4, c5⟩, g0, g1, g2, g3, g4, g5⟩ := box6 (un hI).b0
      dsimp only at c0 c1 c2 c3 c4 c5
      clear hset hne40 hhd htl HBad HSet HI hRds hI hy41 hy40 hpq hp2
      go_wp2
      refine bodyPost_ret (v := .tuple #[zfd.val, .int .i64 0, .bool false]) (by simp [results, Tryz.results27, go_sem, c0, c1, c2, c3, c4, c5]) rfl ?_
      exact ⟨(un HV).1.trans ((set6_but _ w.heap.size zfd).below (Nat.le_refl _) (un HV).2), .inl ⟨zfd, 0, rfl, un HR⟩⟩
   ·have hge : ¬ (q : Int) < s.size := by omega
    have hge1 : (s.size : Int) <= (q : Int) := by omega
    have hnil : (dt s).drop q = [] := dt_out (by omega)
    have hset := (un HSet) _ _ (un hRds) (by rw [hnil]; simp)
    rw [if_neg (by rw [hnil]; simp)] at hset
    have HR := H_ hset
    have HV := H_ (And.intro (un hI).bel (show w.heap.size < wr.heap.size by have := (un hI).sz; omega))
    obtain ⟨⟨c0, c1, c2, c3, c4, c5⟩, g0, g1, g2, g3, g4, g5⟩ := box6 (un hI).b0
    dsimp only at c0 c1 c2 c3 c4 c5
    clear hset hnil HBad HSet HI hRds hI hpq hp2
    go_wp2
    refine bodyPost_ret (v := .tuple #[zfd.val, .int .i64 0, .bool false]) (by simp [results, Tryz.results27, go_sem, c0, c1, c2, c3, c4, c5]) rfl ?_
    exact ⟨(un HV).1.trans ((set6_but _ w.heap.size zfd).below (Nat.le_refl _) (un HV).2), .inl ⟨zfd, 0, rfl, un HR⟩⟩
theorem refRead_any (s : ByteArray) (hs : s.size <= 900) : ∀ k, k <= 9 -> RdIs k s
 | 0, _ => fun p w hp => read_zero s p w hs hp
 | k + 1, hk => by
  intro p w hp
  by_cases h1 : s.size <= p + 1
  ·exact read_short k s p w hs hp (by omega) h1
  ·have h2 : p + 1 < s.size := by omega
   by_cases h3 : s[p] = 40
   ·have ih := refRead_any s hs k (by omega)
    by_cases h4 : s[p + 1] = 38
    ·exact read_set k s ih p w hs (by omega) h2 h3 38 0 (.inl ⟨rfl, rfl⟩) h4
    ·by_cases h5 : s[p + 1] = 124
     ·exact read_set k s ih p w hs (by omega) h2 h3 124 1 (.inr (.inl ⟨rfl, rfl⟩)) h5
     ·by_cases h6 : s[p + 1] = 33
      ·exact read_set k s ih p w hs (by omega) h2 h3 33 2 (.inr (.inr ⟨rfl, rfl⟩)) h6
      ·have hy : setK s[p + 1] = none := by
        unfold setK
        rw [if_neg h4, if_neg h5, if_neg h6]
       cases hc : cutB 41 ((dt s).drop (p + 1)) with
       | none => exact read_leaf_no k s p w hs (by omega) h2 h3 hy hc
       | some aq =>
        obtain ⟨a, q⟩ := aq
        exact read_leaf k s p w hs (by omega) h2 h3 hy hc
   ·exact read_head k s p w hs (by omega) h2 h3
theorem refParse_any (s : ByteArray) (w : World) (hs : s.size <= 900) :
  Calls Tryz.prog 10 #[.string s] w (ParsePost (rdT (dt s)) w) := by
 have HRd := H_ fun W => refRead_any s hs 6 (by omega) 0 W (Nat.zero_le _)
 generalize ho : rdT (dt s) = o
 obtain ⟨X, hX⟩ : ∃ X, X = w.alloc zfd.obj := ⟨_, rfl⟩
 have hXq : X.heap[w.heap.size]? = some (.cells zfd.cs 25 (0, 0)) := by rw [hX]; exact World.alloc_heap_new _ _
 have hXb : Below w.heap.size w X := by rw [hX]; exact (Below.refl _ _).alloc (Nat.le_refl _) _
 have hXc := hX.symm
 have HB := H_ (And.intro hXb (And.intro hXq (Array.getElem?_eq_some_iff.1 hXq).1))
 clear hX hXq hXb
 go_enter Tryz.func10, Tryz.ntmps10
 go_wp2_with fail
 refine ((un HRd) _).mono ?_
 rintro e w1 ⟨hb, hpost⟩
 clear HRd hXc
 obtain ⟨hXb, hXq, hXz⟩ := un HB
 have HQ1 := H_ ((hb.block _ hXz).trans hXq)
 have HB1 := H_ (hXb.trans (hb.mono hXb.size))
 have HZ1 := H_ (Nat.lt_of_lt_of_le hXz hb.size)
 have HXZ := H_ hXz
 clear hb HB hXb hXq hXz
 rcases hpost with ⟨⟨dk, da, dv, dsa, dsn, dsc, df, dla, dln, dlc⟩, c, rfl, hbad⟩ | ⟨⟨dk, da, dv, dsa, dsn, dsc, df, dla, dln, dlc⟩, G, q, rfl, hq0, hqs, hN, hgot⟩
 ·rw [List.drop_zero] at hbad
  obtain rfl : o = none := ho.symm.trans (rdT_nil hbad)
  clear hbad ho
  obtain ⟨Y, hY⟩ : ∃ Y, Y = w1.alloc (Fd.obj ⟨dk, da, dv, dsa, dsn, dsc, df, dla, dln, dlc⟩) := ⟨_, rfl⟩
  have hYw : Below w1.heap.size w1 Y := by rw [hY]; exact (Below.refl w1.heap.size w1).alloc (Nat.le_refl _) _
  have HYq0 := H_ ((hYw.block _ (un HZ1)).trans (un HQ1))
  have hYq1 : Y.heap[w1.heap.size]? = some (.cells (Fd.cs ⟨dk, da, dv, dsa, dsn, dsc, df, dla, dln, dlc⟩) 25 (0, 0)) := by rw [hY]; exact World.alloc_heap_new _ _
  have HYb := H_ ((un HB1).trans (hYw.mono (un HB1).size))
  have HYz := H_ (Nat.lt_of_lt_of_le (un HZ1) hYw.size)
  have HYw := H_ hYw
  have HYq1 := H_ hYq1
  have hYc := hY.symm
  dsimp only [Fd.obj, Fd.cs] at hYc
  obtain ⟨⟨c0, c1, c2, c3, c4, c5⟩, g0, g1, g2, g3, g4, g5⟩ := box6 (un HYq0)
  obtain ⟨⟨k0, k1, k2, k3, k4, k5⟩, l0, l1, l2, l3, l4, l5⟩ := box6 hYq1
  dsimp only at c0 c1 c2 c3 c4 c5 k0 k1 k2 k3 k4 k5
  clear hY hYw hYq1 HQ1 HB1 HZ1
  go_wp2
  refine bodyPost_ret (v := .tuple #[zfd.val, .int .i64 80]) (by simp [results, Tryz.results10, go_sem, c0, c1, c2, c3, c4, c5]) rfl ?_
  exact ⟨(un HYb).trans ((set6_but Y w.heap.size zfd).below (Nat.le_refl _) (un HYz)), rfl⟩
 ·rw [List.drop_zero] at hgot
  have hT := rdT_got hgot
  by_cases hq : q = s.size
  ·have hnil : (dt s).drop q = [] := dt_out (by omega)
   rw [hnil] at hT
   simp only [true_and] at hT
   rw [ho] at hT
   clear ho
   have hqn : ((q : Int) != (s.size : Int)) = false := by rw [hq]; simp
   have HN := H_ hN
   clear hgot hnil hq hq0 hqs hN
   obtain ⟨Y, hY⟩ : ∃ Y, Y = w1.alloc (Fd.obj ⟨dk, da, dv, dsa, dsn, dsc, df, dla, dln, dlc⟩) := ⟨_, rfl⟩
   have hYw : Below w1.heap.size w1 Y := by rw [hY]; exact (Below.refl w1.heap.size w1).alloc (Nat.le_refl _) _
   have HYq0 := H_ ((hYw.block _ (un HZ1)).trans (un HQ1))
   have hYq1 : Y.heap[w1.heap.size]? = some (.cells (Fd.cs ⟨dk, da, dv, dsa, dsn, dsc, df, dla, dln, dlc⟩) 25 (0, 0)) := by rw [hY]; exact World.alloc_heap_new _ _
   have HYb := H_ ((un HB1).trans (hYw.mono (un HB1).size))
   have HYz := H_ (Nat.lt_of_lt_of_le (un HZ1) hYw.size)
   have HYw := H_ hYw
   have HYq1 := H_ hYq1
   have hYc := hY.symm
   dsimp only [Fd.obj, Fd.cs] at hYc
   obtain ⟨⟨c0, c1, c2, c3, c4, c5⟩, g0, g1, g2, g3, g4, g5⟩ := box6 (un HYq0)
   obtain ⟨⟨k0, k1, k2, k3, k4, k5⟩, l0, l1, l2, l3, l4, l5⟩ := box6 hYq1
   dsimp only at c0 c1 c2 c3 c4 c5 k0 k1 k2 k3 k4 k5
   clear hY hYw hYq1 HQ1 HB1 HZ1
   have HRt := H_ (refRight_any 8 G Y _ _ ((un HN).below (un HYw)))
   cases hr : right 8 6 G
   ·rw [hr, if_neg (by simp)] at hT
    subst hT
    rw [hr] at HRt
    clear hr
    go_wp2_with fail
    refine (un HRt).mono ?_
    rintro e w3 ⟨rfl, hb3⟩
    replace HYb := H_ ((un HYb).trans (hb3.mono (un HYb).size))
    have hq3 := (hb3.block _ (un HYz)).trans (un HYq0)
    replace HYz := H_ (Nat.lt_of_lt_of_le (un HYz) hb3.size)
    clear c0 c1 c2 c3 c4 c5 g0 g1 g2 g3 g4 g5 k0 k1 k2 k3 k4 k5 l0 l1 l2 l3 l4 l5 hb3 HRt
    obtain ⟨⟨c0, c1, c2, c3, c4, c5⟩, g0, g1, g2, g3, g4, g5⟩ := box6 hq3
    dsimp only at c0 c1 c2 c3 c4 c5
    clear hq3 HYq0
    go_wp2
    refine bodyPost_ret (v := .tuple #[zfd.val, .int .i64 80]) (by simp [results, Tryz.results10, go_sem, c0, c1, c2, c3, c4, c5]) rfl ?_
    exact ⟨(un HYb).trans ((set6_but w3 w.heap.size zfd).below (Nat.le_refl _) (un HYz)), rfl⟩
   ·rw [hr, if_pos rfl] at hT
    subst hT
    rw [hr] at HRt
    clear hr
    go_wp2_with fail
    refine (un HRt).mono ?_
    rintro e w3 ⟨rfl, hb3⟩
    replace HYb := H_ ((un HYb).trans (hb3.mono (un HYb).size))
    have hq3 := (hb3.block _ (un HYz)).trans (un HYq0)
    have hq4 := (hb3.block _ (Array.getElem?_eq_some_iff.1 (un HYq1)).1).trans (un HYq1)
    have HN3 := H_ (((un HN).below (un HYw)).below hb3)
    replace HYz := H_ (Nat.lt_of_lt_of_le (un HYz) hb3.size)
    clear c0 c1 c2 c3 c4 c5 g0 g1 g2 g3 g4 g5 k0 k1 k2 k3 k4 k5 l0 l1 l2 l3 l4 l5 hb3 HRt
    obtain ⟨⟨c0, c1, c2, c3, c4, c5⟩, g0, g1, g2, g3, g4, g5⟩ := box6 hq3
    obtain ⟨⟨k0, k1, k2, k3, k4, k5⟩, _⟩ := box6 hq4
    dsimp only at c0 c1 c2 c3 c4 c5 k0 k1 k2 k3 k4 k5
    clear hq3 hq4 HYq0 HYq1
    go_wp2
    refine bodyPost_ret (v := .tuple #[Fd.val ⟨dk, da, dv, dsa, dsn, dsc, df, dla, dln, dlc⟩, .int .i64 0]) (by simp [results, Tryz.results10, go_sem, c0, c1, c2, c3, c4, c5]) rfl ?_
    have hb := set6_but w3 w.heap.size ⟨dk, da, dv, dsa, dsn, dsc, df, dla, dln, dlc⟩
    exact ⟨(un HYb).trans (hb.below (Nat.le_refl _) (un HYz)), _, rfl, ((un HN3).of fun b h1 h2 => hb.block b h2 (by have := un HXZ; omega)).imp fun b h1 _ => by have := un HXZ; omega⟩
  ·have hne : (dt s).drop q ≠ [] := fun e => by have := congrArg List.length e; rw [List.length_drop, dt_len] at this; simp at this; omega
   rw [if_neg (fun e => hne e.1)] at hT
   obtain rfl : o = none := ho.symm.trans hT
   have hqn : ((q : Int) != (s.size : Int)) = true := by simp; omega
   clear hgot hT hne hq hq0 hqs hN ho
   obtain ⟨Y, hY⟩ : ∃ Y, Y = w1.alloc (Fd.obj ⟨dk, da, dv, dsa, dsn, dsc, df, dla, dln, dlc⟩) := ⟨_, rfl⟩
   have hYw : Below w1.heap.size w1 Y := by rw [hY]; exact (Below.refl w1.heap.size w1).alloc (Nat.le_refl _) _
   have HYq0 := H_ ((hYw.block _ (un HZ1)).trans (un HQ1))
   have hYq1 : Y.heap[w1.heap.size]? = some (.cells (Fd.cs ⟨dk, da, dv, dsa, dsn, dsc, df, dla, dln, dlc⟩) 25 (0, 0)) := by rw [hY]; exact World.alloc_heap_new _ _
   have HYb := H_ ((un HB1).trans (hYw.mono (un HB1).size))
   have HYz := H_ (Nat.lt_of_lt_of_le (un HZ1) hYw.size)
   have HYw := H_ hYw
   have HYq1 := H_ hYq1
   have hYc := hY.symm
   dsimp only [Fd.obj, Fd.cs] at hYc
   obtain ⟨⟨c0, c1, c2, c3, c4, c5⟩, g0, g1, g2, g3, g4, g5⟩ := box6 (un HYq0)
   obtain ⟨⟨k0, k1, k2, k3, k4, k5⟩, l0, l1, l2, l3, l4, l5⟩ := box6 hYq1
   dsimp only at c0 c1 c2 c3 c4 c5 k0 k1 k2 k3 k4 k5
   clear hY hYw hYq1 HQ1 HB1 HZ1
   go_wp2
   refine bodyPost_ret (v := .tuple #[zfd.val, .int .i64 80]) (by simp [results, Tryz.results10, go_sem, c0, c1, c2, c3, c4, c5]) rfl ?_
   exact ⟨(un HYb).trans ((set6_but Y w.heap.size zfd).below (Nat.le_refl _) (un HYz)), rfl⟩
end Go.Proofs.YtjhnblgamodekaaGreatDoor.F
