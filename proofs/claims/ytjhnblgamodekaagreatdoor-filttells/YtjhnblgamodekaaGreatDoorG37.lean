/- Several texts in one: FParse, FTexts, FShown, DRef1, DRef2, FRef1. Each says what it proves, and its conditions. -/
import Derived.Test.YtjhnblgamodekaaGreatDoorG36
set_option linter.unusedSimpArgs false
set_option maxHeartbeats 4000000
set_option maxRecDepth 10000000
/-
 What filt.Parse answers. Conditions: the package-level variables hold what the program's text lays; the pieces of the text that are read as values are not large ('Shrt').
-/
namespace Go.Proofs.YtjhnblgamodekaaGreatDoor.F
open Go Go.RowKit Go.Shelf Fp
open D (H_ un ext_list)
attribute [local go_sem] Oper.semAt_some
def ReadPost (A : Ad) (o : Option (Fl 8)) (w : World) (e : Ending) (w' : World) : Prop := Below w.heap.size w w' /\ match o with
 | some F => ∃ d : Fd, e = .returned (.tuple #[d.val, .nilIface]) /\ FNode 8 w' (fun b => w.heap.size <= b) d F
 | none => ∃ T x, e = .returned (.tuple #[zfd.val, .iface T x]) /\ IsErr A (.iface T x)
abbrev rdObj (s : ByteArray) (kb : Nat) : Obj := .cells #[.string s, .int .i64 0, .map (some kb)] 76
theorem env_first (A : Ad) (w w1 : World) (s : ByteArray) (kb : Nat) (g : Glob A w) (hb : Below w.heap.size w w1) (hk : KindsAt w1 kb) : Env A w w1.heap.size kb s 0 (w1.alloc (rdObj s kb)) := by
 have hk1 := hk.lt
 exact ⟨g, hb.alloc hb.size _, hb.size, ⟨World.alloc_heap_new w1 _⟩, hk.of (Below.heap_alloc _ _ _ hk1), by omega⟩
theorem rdT_none {l : List UInt8} (h : rdF 6 l = none) : rdT l = none := by unfold rdT; rw [h]
theorem rdT_more {l r : List UInt8} {F : Fl 8} (h : rdF 6 l = some (F, r)) (hr : r ≠ []) : rdT l = none := by
 unfold rdT; rw [h]
 cases r with
 | nil => exact absurd rfl hr
 | cons x xs => rfl
theorem rdT_some {l r : List UInt8} {F : Fl 8} (h : rdF 6 l = some (F, r)) (hr : r = []) : rdT l = some F := by
 unfold rdT; rw [h, hr]
theorem read_any (A : Ad) (s : ByteArray) (hS : Shrt s) (w : World) (g : Glob A w) :
  Calls Tryz.prog 26 #[.string s] w (ReadPost A (rdT s.data.toList) w) := by
 have HK := H_ fun W => kinds_any W
 have Hg := H_ g
 have HS := H_ hS
 have hs := hS.1
 have hb0 : Below w.heap.size w (w.alloc zfd.obj) := (Below.refl _ _).alloc (Nat.le_refl _) _
 have hq0 : (w.alloc zfd.obj).heap[w.heap.size]? = some (.cells zfd.cs 25 (0, 0)) := World.alloc_heap_new _ _
 have hz0 : (w.alloc zfd.obj).heap.size = w.heap.size + 1 := by simp
 have H0 := H_ (And.intro hb0 (And.intro hq0 hz0))
 clear g hS hb0 hq0 hz0
 go_enter Tryz.func26, Tryz.ntmps26
 go_wp2_with fail
 refine ((un HK) _).mono ?_
 rintro e w1 ⟨rfl, hb1, hk1⟩
 have hz0 : (w.alloc zfd.obj).heap.size = w.heap.size + 1 := (un H0).2.2
 have hb1' : Below w.heap.size w w1 := (un H0).1.trans (hb1.mono (by show w.heap.size <= (w.alloc zfd.obj).heap.size; omega))
 have hq1 : w1.heap[w.heap.size]? = some (.cells zfd.cs 25 (0, 0)) := (hb1.block _ (by show w.heap.size < (w.alloc zfd.obj).heap.size; omega)).trans (un H0).2.1
 have hE := env_first A w w1 s _ (un Hg) hb1' hk1
 have hR : w.heap.size < w1.heap.size := by have := hb1.size; show w.heap.size < w1.heap.size; have h2 : (w.alloc zfd.obj).heap.size <= w1.heap.size := this; omega
 have hF := filter_any A w w1.heap.size _ s (un HS) 6 1 (by omega) (by omega) 0 _ hE (Nat.zero_le _)
 rw [List.drop_zero] at hF
 have HF := H_ hF
 have HE := H_ hE
 have H1 := H_ (And.intro hb1' hq1)
 clear hb1 hk1 hb1' hq1 hE hF hz0
 generalize (w.alloc zfd.obj).heap.size = kb at *
 go_wp2_with fail
 refine (un HF).mono ?_
 rintro e w2 ⟨hb2, h2⟩
 have hmx : Tryz.prog.follows .mixedOrders = true := by kernel_rfl
 have HC := H_ fun W => end_any s W
 obtain ⟨hb1, hq1⟩ := un H1
 have hb3 := hb1.trans ((((Below.refl w1.heap.size w1).alloc (Nat.le_refl _) (rdObj s kb)).mono (by omega)).trans (hb2.below (B := w.heap.size) (by omega) (by simp)))
 have hq2 : w2.heap[w.heap.size]? = some (.cells zfd.cs 25 (0, 0)) := (hb2.block _ (by simp; omega) (by omega)).trans ((Below.heap_alloc _ _ _ hR).trans hq1)
 have hz2 : w1.heap.size < w2.heap.size := by have := hb2.size; simp at this; omega
 have hE2 := un HE
 have HB := H_ (And.intro hb3 hq2)
 clear hb1 hq1 hb3 hq2 H1 HF
 cases ho : rdF 6 s.data.toList with
 | none =>
  rw [ho] at h2
  obtain ⟨⟨dk, da, dv, dsa, dsn, dsc, df, dla, dln, dlc⟩, T, x, rfl, hEr⟩ := h2
  have HEr := H_ hEr
  have Ho := H_ ho
  clear ho hEr hb2 hE2 HE
  go_wp2_with fail
  obtain ⟨V, hV⟩ : ∃ V, V = w2.alloc (Fd.obj ⟨dk, da, dv, dsa, dsn, dsc, df, dla, dln, dlc⟩) := ⟨_, rfl⟩
  have hb2V : Below w2.heap.size w2 V := by rw [hV]; exact (Below.refl _ _).alloc (Nat.le_refl _) _
  have hBV := H_ (And.intro ((un HB).1.trans (hb2V.mono (un HB).1.size)) ((hb2V.block _ (by omega)).trans (un HB).2))
  have hVz : w.heap.size < V.heap.size := by have := hb2V.size; omega
  change Code.wp _ _ _ _ (w2.alloc (Fd.obj ⟨dk, da, dv, dsa, dsn, dsc, df, dla, dln, dlc⟩))
  rw [<- hV]
  clear hV hb2V HB H0
  have hne : Nonempty (Kw V) := kwNonempty V
  refine wp_region_kw0 (by kernel_rfl) (by kernel_rfl) ?_
  repeat (go_big_quiet_step (first | with_reducible exact (un HC) _))
  refine wpQuiet_nil ?_
  rintro w' ⟨z, rfl⟩
  have hq := (z.b.block _ hVz).trans (un hBV).2
  have hbw := (un hBV).1.trans (z.b.mono (un hBV).1.size)
  obtain ⟨⟨c0, c1, c2, c3, c4, c5⟩, g0, g1, g2, g3, g4, g5⟩ := box6 hq
  dsimp only at c0 c1 c2 c3 c4 c5
  have HQ := H_ (And.intro hbw (And.intro (un HEr) (And.intro hq (un Ho))))
  have hwz : w.heap.size < z.w.heap.size := (Array.getElem?_eq_some_iff.1 hq).1
  generalize z.w = W3 at *
  clear hne hBV hVz HC HEr hq hbw
  go_wp2
  obtain ⟨hbw, hEr, hq, ho⟩ := un HQ
  refine bodyPost_ret (v := .tuple #[zfd.val, .iface T x]) (by simp [results, Tryz.results26, go_sem, c0, c1, c2, c3, c4, c5]) rfl ?_
  rw [rdT_none ho]
  have hb := set6_but W3 w.heap.size zfd
  exact ⟨hbw.trans (hb.below (Nat.le_refl _) hwz), T, x, rfl, hEr⟩
 | some Fr =>
  obtain ⟨F, r⟩ := Fr
  rw [ho] at h2
  obtain ⟨⟨dk, da, dv, dsa, dsn, dsc, df, dla, dln, dlc⟩, rfl, hN, q, hr2, hq, hrd⟩ := h2
  subst hrd
  have hE3 := hE2.but hb2 hr2
  have Ho := H_ ho
  have HN := H_ (And.intro hE3 hN)
  clear ho hb2 hE2 HE hN hr2 hE3
  go_wp2_with fail
  obtain ⟨V, hV⟩ : ∃ V, V = w2.alloc (Fd.obj ⟨dk, da, dv, dsa, dsn, dsc, df, dla, dln, dlc⟩) := ⟨_, rfl⟩
  have hb2V : Below w2.heap.size w2 V := by rw [hV]; exact (Below.refl _ _).alloc (Nat.le_refl _) _
  have hBV := H_ (And.intro ((un HB).1.trans (hb2V.mono (un HB).1.size)) ((hb2V.block _ (by omega)).trans (un HB).2))
  have hVz : w.heap.size < V.heap.size := by have := hb2V.size; omega
  have hdb : V.heap[w2.heap.size]? = some (.cells (Fd.cs ⟨dk, da, dv, dsa, dsn, dsc, df, dla, dln, dlc⟩) 25 (0, 0)) := by rw [hV]; exact World.alloc_heap_new _ _
  have hEV := (un HN).1.below hb2V
  have hNV := (un HN).2.below hb2V
  change Code.wp _ _ _ _ (w2.alloc (Fd.obj ⟨dk, da, dv, dsa, dsn, dsc, df, dla, dln, dlc⟩))
  rw [<- hV]
  clear hV hb2V HB H0 HN
  obtain ⟨⟨k0, k1, k2⟩, f1⟩ := hEV.r.cells
  have q0 := fun z : Kw V => Kw.cell z k0 (D.lt_cell k0)
  have q1 := fun z : Kw V => Kw.cell z k1 (D.lt_cell k1)
  have hne : Nonempty (Kw V) := kwNonempty V
  have HN := H_ (And.intro hEV (And.intro hNV hdb))
  clear hEV hNV hdb k0 k1 k2 f1
  have HC := H_ fun z : Kw V => z.call (end_any s z.w)
  by_cases hlt : q < s.size
  ·have hlti : (q : Int) < s.size := by omega
   refine wp_region_kw0 (by kernel_rfl) (by kernel_rfl) ?_
   repeat (go_big_quiet_step (first | with_reducible exact (un HC) _))
   refine wpQuiet_nil ?_
   rintro w' ⟨z, rfl⟩
   have hq4 := (z.b.block _ hVz).trans (un hBV).2
   have hbw := (un hBV).1.trans (z.b.mono (un hBV).1.size)
   obtain ⟨⟨c0, c1, c2, c3, c4, c5⟩, g0, g1, g2, g3, g4, g5⟩ := box6 hq4
   dsimp only at c0 c1 c2 c3 c4 c5
   have hwz : w.heap.size < z.w.heap.size := (Array.getElem?_eq_some_iff.1 hq4).1
   have hE4 := (un HN).1.below z.b
   obtain ⟨⟨k0, k1, k2⟩, f1⟩ := hE4.r.cells
   have hmo := hE4.glob.vmo
   have HQ := H_ (And.intro hbw (And.intro hq4 (un Ho)))
   generalize z.w = W3 at *
   clear hne q0 q1 hBV hVz HC HN hq4 hbw hE4 hlti
   go_wp2
   obtain ⟨hbw, hq4, ho⟩ := un HQ
   refine bodyPost_ret (v := .tuple #[zfd.val, flt q (sen A.mo)]) (by simp [results, Tryz.results26, go_sem, c0, c1, c2, c3, c4, c5]) rfl ?_
   rw [rdT_more ho (by
    intro e
    have := congrArg List.length e
    rw [List.length_drop, Array.length_toList] at this
    have h2 : s.data.size = s.size := rfl
    simp at this
    omega)]
   have hb := set6_but W3 w.heap.size zfd
   exact ⟨hbw.trans (hb.below (Nat.le_refl _) hwz), _, _, rfl, (IsErr.sen (isS_mo A)).wrap _⟩
  ·have hlti : ¬ (q : Int) < s.size := by omega
   refine wp_region_kw0 (by kernel_rfl) (by kernel_rfl) ?_
   repeat (go_big_quiet_step (first | with_reducible exact (un HC) _))
   refine wpQuiet_nil ?_
   rintro w' ⟨z, rfl⟩
   have hq4 := (z.b.block _ hVz).trans (un hBV).2
   have hbw := (un hBV).1.trans (z.b.mono (un hBV).1.size)
   obtain ⟨⟨c0, c1, c2, c3, c4, c5⟩, g0, g1, g2, g3, g4, g5⟩ := box6 hq4
   dsimp only at c0 c1 c2 c3 c4 c5
   have hwz : w.heap.size < z.w.heap.size := (Array.getElem?_eq_some_iff.1 hq4).1
   have hdb := (z.b.block _ (Array.getElem?_eq_some_iff.1 (un HN).2.2).1).trans (un HN).2.2
   obtain ⟨⟨k0, k1, k2, k3, k4, k5⟩, _⟩ := box6 hdb
   dsimp only at k0 k1 k2 k3 k4 k5
   have HQ := H_ (And.intro hbw (And.intro hq4 (And.intro (un Ho) ((un HN).2.1.below z.b))))
   generalize z.w = W3 at *
   clear hne q0 q1 hBV hVz HC HN hq4 hbw hlti hdb
   go_wp2
   obtain ⟨hbw, hq4, ho, hN⟩ := un HQ
   refine bodyPost_ret (v := .tuple #[Fd.val ⟨dk, da, dv, dsa, dsn, dsc, df, dla, dln, dlc⟩, .nilIface]) (by simp [results, Tryz.results26, go_sem, c0, c1, c2, c3, c4, c5]) rfl ?_
   rw [rdT_some ho (by rw [List.drop_eq_nil_iff, Array.length_toList]; have h2 : s.data.size = s.size := rfl; omega)]
   have hb := set6_but W3 w.heap.size ⟨dk, da, dv, dsa, dsn, dsc, df, dla, dln, dlc⟩
   exact ⟨hbw.trans (hb.below (Nat.le_refl _) hwz), _, rfl, (hN.of fun b h1 h2 => hb.block b h2 (by simp at h1; omega)).imp fun b h1 _ => by simp at h1; omega⟩
def ParsePost (o : Option (Fl 8)) (w : World) (e : Ending) (w' : World) : Prop := Below w.heap.size w w' /\ match o with
 | some F => ∃ d : Fd, e = .returned (.tuple #[d.val, .int .i64 0]) /\ FNode 8 w' (fun b => w.heap.size <= b) d F
 | none => e = .returned (.tuple #[zfd.val, .int .i64 80])
theorem parse_any (A : Ad) (s : ByteArray) (hS : Shrt s) (w : World) (g : Glob A w) :
  Calls Tryz.prog 9 #[.string s] w (ParsePost (rdT s.data.toList) w) := by
 have hb0 : Below w.heap.size w (w.alloc zfd.obj) := (Below.refl _ _).alloc (Nat.le_refl _) _
 have hq0 : (w.alloc zfd.obj).heap[w.heap.size]? = some (.cells zfd.cs 25 (0, 0)) := World.alloc_heap_new _ _
 have HR := H_ (read_any A s hS (w.alloc zfd.obj) (g.alloc _))
 have hz0 : (w.alloc zfd.obj).heap.size = w.heap.size + 1 := by simp
 have H0 := H_ (And.intro hb0 (And.intro hq0 (And.intro hz0 g)))
 generalize ho : rdT s.data.toList = o at *
 clear g hS hb0 hq0 hz0 ho
 go_enter Tryz.func9, Tryz.ntmps9
 go_wp2_with fail
 refine (un HR).mono ?_
 rintro e w1 ⟨hb1, h1⟩
 obtain ⟨hb0, hq0, hz0, g⟩ := un H0
 have hb1' : Below w.heap.size w w1 := hb0.trans (hb1.mono (by omega))
 have hq1 : w1.heap[w.heap.size]? = some (.cells zfd.cs 25 (0, 0)) := (hb1.block _ (by omega)).trans hq0
 have hz1 : w.heap.size < w1.heap.size := (Array.getElem?_eq_some_iff.1 hq1).1
 have hN1 : ∀ d F, FNode 8 w1 (fun b => (w.alloc zfd.obj).heap.size <= b) d F -> FNode 8 w1 (fun b => w.heap.size + 1 <= b) d F := fun d F h => by rwa [hz0] at h
 have g1 := g.next hb1'
 cases o with
 | none =>
  obtain ⟨T, x, rfl, hE⟩ := h1
  have HX := H_ (And.intro hb1' (And.intro hq1 hz1))
  have HO := H_ fun (W : World) (h : Below w1.heap.size w1 W) => errnoOf_any _ A W (g1.next h) hE
  clear HR H0 hb0 hq0 hz0 g hb1' hq1 hz1 hN1 hb1 hE g1
  go_wp2_with fail
  refine ((un HO) _ ((Below.refl _ _).alloc (Nat.le_refl _) _)).mono ?_
  rintro e w2 ⟨rfl, hb⟩
  obtain ⟨hb1', hq1, hz1⟩ := un HX
  have hb2 : Below w1.heap.size w1 w2 := ((Below.refl w1.heap.size w1).alloc (Nat.le_refl _) _).trans (hb.mono (by simp))
  have hq2 := (hb2.block _ hz1).trans hq1
  obtain ⟨⟨c0, c1, c2, c3, c4, c5⟩, g0, g1, g2, g3, g4, g5⟩ := box6 hq2
  dsimp only at c0 c1 c2 c3 c4 c5
  have HF := H_ (And.intro (hb1'.trans (hb2.mono hb1'.size)) (Nat.lt_of_lt_of_le hz1 hb2.size))
  clear hb hb1' hq1 hz1 hb2 hq2 HX HO
  go_wp2
  obtain ⟨hb2, hz2⟩ := un HF
  refine bodyPost_ret (v := .tuple #[zfd.val, .int .i64 80]) (by simp [results, Tryz.results9, go_sem, c0, c1, c2, c3, c4, c5]) rfl ?_
  exact ⟨hb2.trans ((set6_but w2 w.heap.size zfd).below (Nat.le_refl _) hz2), rfl⟩
 | some F =>
  obtain ⟨⟨dk, da, dv, dsa, dsn, dsc, df, dla, dln, dlc⟩, rfl, hN⟩ := h1
  have hN := hN1 _ _ hN
  have hal : Below w1.heap.size w1 (w1.alloc (Fd.obj ⟨dk, da, dv, dsa, dsn, dsc, df, dla, dln, dlc⟩)) := (Below.refl _ _).alloc (Nat.le_refl _) _
  have hq2 := (hal.block _ hz1).trans hq1
  have hdb : (w1.alloc (Fd.obj ⟨dk, da, dv, dsa, dsn, dsc, df, dla, dln, dlc⟩)).heap[w1.heap.size]? = some (.cells (Fd.cs ⟨dk, da, dv, dsa, dsn, dsc, df, dla, dln, dlc⟩) 25 (0, 0)) := World.alloc_heap_new _ _
  have hb2 := hb1'.trans (hal.mono hb1'.size)
  have hz2 : w.heap.size < (w1.alloc (Fd.obj ⟨dk, da, dv, dsa, dsn, dsc, df, dla, dln, dlc⟩)).heap.size := Nat.lt_of_lt_of_le hz1 hal.size
  have hN2 := hN.below hal
  have HF := H_ (And.intro hb2 (And.intro hz2 hN2))
  obtain ⟨⟨c0, c1, c2, c3, c4, c5⟩, g0, g1, g2, g3, g4, g5⟩ := box6 hq2
  obtain ⟨⟨k0, k1, k2, k3, k4, k5⟩, _⟩ := box6 hdb
  dsimp only at c0 c1 c2 c3 c4 c5 k0 k1 k2 k3 k4 k5
  clear HR H0 hb0 hq0 hz0 g hb1' hq1 hz1 hN1 hb1 hN hal hq2 hdb hb2 hz2 hN2
  go_wp2
  obtain ⟨hb2, hz2, hN2⟩ := un HF
  refine bodyPost_ret (v := .tuple #[Fd.val ⟨dk, da, dv, dsa, dsn, dsc, df, dla, dln, dlc⟩, .int .i64 0]) (by simp [results, Tryz.results9, go_sem, c0, c1, c2, c3, c4, c5]) rfl ?_
  have hb := set6_but (w1.alloc (Fd.obj ⟨dk, da, dv, dsa, dsn, dsc, df, dla, dln, dlc⟩)) w.heap.size ⟨dk, da, dv, dsa, dsn, dsc, df, dla, dln, dlc⟩
  exact ⟨hb2.trans (hb.below (Nat.le_refl _) hz2), _, rfl, (hN2.of fun b h1 h2 => hb.block b h2 (by omega)).imp fun b h1 _ => by omega⟩
end Go.Proofs.YtjhnblgamodekaaGreatDoor.F
/-
 What the document's Texts answers: are two lists of texts the same? Conditions: none.
-/
namespace Go.Proofs.YtjhnblgamodekaaGreatDoor.F
open Go Go.RowKit Go.Shelf Fp
open D (H_ un)
def TxL (W : World) (v : Value) (xs : List ByteArray) : Prop := ∃ a c, v = .slice a xs.length c /\ Strs W (fun _ => True) a xs
theorem TxL.below {W W' : World} {v : Value} {xs : List ByteArray} (h : TxL W v xs) (hb : Below W.heap.size W W') : TxL W' v xs := by
 obtain ⟨a, c, e, h⟩ := h
 exact ⟨a, c, e, h.of fun b _ hl => hb.block b hl⟩
theorem below_drewN {B : Nat} {u w : World} (h : Below B u w) (n : Nat) : Below B u (w.drewN n) := ⟨h.os, h.tape, h.output, h.size, h.block⟩
theorem prefix_eq {A B : List ByteArray} (hl : A.length = B.length) (h : ∀ j, j < A.length -> A[j]? = B[j]?) : A = B := by
 apply List.ext_getElem?
 intro i
 rcases Nat.lt_or_ge i A.length with hi | hi
 ·exact h i hi
 ·rw [List.getElem?_eq_none hi, List.getElem?_eq_none (by omega)]
theorem texts_any (A B : List ByteArray) (u v : Value) (w : World) (hA : A.length <= 100000) (hB : B.length <= 100000) (hu : TxL w u A) (hv : TxL w v B) :
  Calls Tryz.prog 15 #[u, v] w fun e w' => e = .returned (.bool (decide (A = B))) /\ Below w.heap.size w w' := by
 obtain ⟨a, c, rfl, hc⟩ := hu
 obtain ⟨a', c', rfl, hc'⟩ := hv
 by_cases hn : A.length = B.length
 ·rw [<- hn]
  have hAi : (A.length : Int) <= 100000 := by omega
  go_enter Tryz.func15, Tryz.ntmps15
  go_wp2
  go_loopw [5] (fun ix wr => ∃ j : Nat, j <= A.length /\ ix = .int .i64 (j : Int) /\ (∀ i, i < j -> A[i]? = B[i]?) /\ Below w.heap.size w wr)
   (fun ix _ => A.length - (intOf ix).toNat)
  case atStart =>
   exact ⟨0, Nat.zero_le _, rfl, fun i h => by omega, Below.refl _ _⟩
  case round =>
   obtain ⟨j, hj, rfl, hpre, hb⟩ := hrel
   by_cases hlt : j < A.length
   ·obtain ⟨x, hx⟩ : ∃ n, A[j]? = some n := ⟨_, List.getElem?_eq_getElem hlt⟩
    obtain ⟨y, hy⟩ : ∃ n, B[j]? = some n := ⟨_, List.getElem?_eq_getElem (by omega)⟩
    obtain ⟨b, o, rfl, hcell⟩ : ∃ b o, a = some ⟨b, o, none⟩ /\ ∀ (i : Nat) n, A[i]? = some n -> w.cell? ⟨b, o + i, none⟩ = some (.string n) := by
     rcases hc with rfl | ⟨b, o, h1, _, h2⟩
     ·simp at hlt
     ·exact ⟨b, o, h1, h2⟩
    obtain ⟨b', o', rfl, hcell'⟩ : ∃ b o, a' = some ⟨b, o, none⟩ /\ ∀ (i : Nat) n, B[i]? = some n -> w.cell? ⟨b, o + i, none⟩ = some (.string n) := by
     rcases hc' with rfl | ⟨b, o, h1, _, h2⟩
     ·exact absurd hlt (by rw [hn]; simp)
     ·exact ⟨b, o, h1, h2⟩
    have hcj : wr.cell? ⟨b, o + j, none⟩ = some (.string x) := (hb.cell (D.lt_cell (hcell j x hx))).trans (hcell j x hx)
    have hcj' : wr.cell? ⟨b', o' + j, none⟩ = some (.string y) := (hb.cell (D.lt_cell (hcell' j y hy))).trans (hcell' j y hy)
    have hlt' : (j : Int) < A.length := by omega
    have Hpre := H_ hpre
    have HB := H_ hb
    have Hx := H_ hx
    have Hy := H_ hy
    have Hn := H_ hn
    clear hpre hb hx hy hcell hcell' hc hc' hn hB
    by_cases hxy : x = y
    ·skip
     have t1 : (x.toList == y.toList) = true := by simp [hxy]
     have Hxy := H_ hxy
     clear hxy
     go_wp2
     go_quiet (fail)
     go_wp2
     go_roundw
     case rel =>
      refine ⟨j + 1, by omega, by simp, fun i hi => ?_, below_drewN (un HB) _⟩
      by_cases e : i = j
      ·subst e; rw [un Hx, un Hy, un Hxy]
      ·exact un Hpre i (by omega)
     case measure => simp [intOf]; omega
    ·skip
     have t1 : (x.toList == y.toList) = false := by rw [beq_eq_false_iff_ne, ByteArray.toList_eq, ByteArray.toList_eq]; exact fun e => hxy (ByteArray.ext (Array.toList_inj.1 e))
     have Hxy := H_ hxy
     clear hxy
     go_wp2
     go_quiet (fail)
     go_wp2
     go_ret
     refine ⟨?_, below_drewN (un HB) _⟩
     rw [decide_eq_false]
     ·rfl
     ·intro e
      have hx := un Hx
      have hy := un Hy
      rw [e, hy] at hx
      exact un Hxy (Option.some.inj hx).symm
   ·have hge : ¬ (j : Int) < A.length := by omega
    have hAB : A = B := prefix_eq hn (fun i hi => hpre i (by omega))
    have HB := H_ hb
    have HAB := H_ hAB
    clear hpre hb hAB hc hc' hn
    go_wp2
    go_ret
    refine ⟨?_, un HB⟩
    rw [decide_eq_true (un HAB)]
    rfl
 ·have t0 : ((A.length : Int) != (B.length : Int)) = true := by simp; omega
  have hne : A ≠ B := fun e => hn (by rw [e])
  rw [decide_eq_false hne]
  clear hc hc' hn hne
  go_enter Tryz.func15, Tryz.ntmps15
  go_wp2
  go_ret
  exact ⟨rfl, Below.refl _ _⟩
end Go.Proofs.YtjhnblgamodekaaGreatDoor.F
/-
 The law file's shown() and cut(). Conditions: the package-level variables hold what the program's text lays.
-/
namespace Go.Proofs.YtjhnblgamodekaaGreatDoor.F
open Go Go.RowKit Go.Shelf Fp
open D (H_ un ext_list)
attribute [local go_sem] Oper.semAt_some
theorem step {w w1 w2 : World} (h : Below w.heap.size w w1) (k : Below w1.heap.size w1 w2) : Below w.heap.size w w2 := h.trans (k.mono h.size)
def x0F {n : Nat} : Fl (n + 1) := mk 4 ⟨#[98]⟩ ⟨#[120]⟩ [] ⟨#[121]⟩ []
def x1F {n : Nat} : Fl (n + 1) := mk 3 ⟨#[97]⟩ ⟨#[49]⟩ [] ⟨#[]⟩ []
def x2F {n : Nat} : Fl (n + 2) := mk 2 ⟨#[]⟩ ⟨#[]⟩ [] ⟨#[]⟩ [x0F]
def xF : Fl 8 := mk 0 ⟨#[]⟩ ⟨#[]⟩ [] ⟨#[]⟩ [x1F, x2F]
abbrev xS : ByteArray := ⟨#[40, 38, 40, 97, 61, 49, 41, 40, 33, 40, 98, 61, 120, 42, 121, 41, 41, 41]⟩
theorem xF_prt : prtF xF = .tuple #[.string xS, .int .i64 0] := by kernel_rfl
theorem xF_rd : rdT xS.data.toList = some xF := by kernel_rfl
theorem xF_right : right 8 6 xF = true := by kernel_rfl
theorem xF_names : names 8 xF = [⟨#[97]⟩, ⟨#[98]⟩] := by kernel_rfl
theorem xF_same : same 8 xF xF = true := by kernel_rfl
abbrev yS : ByteArray := ⟨#[40, 97, 61, 42, 41]⟩
def yF : Fl 8 := mk 7 ⟨#[97]⟩ ⟨#[]⟩ [] ⟨#[]⟩ []
theorem yF_rd : rdT yS.data.toList = some yF := by kernel_rfl
theorem zF_rd : rdT (⟨#[40, 97, 61, 42, 42, 41]⟩ : ByteArray).data.toList = none := by kernel_rfl
theorem nm_yes : okName ⟨#[99, 110, 59, 108, 97, 110, 103, 45, 100, 101]⟩ = true := by kernel_rfl
theorem nm_no : okName ⟨#[99, 110, 59]⟩ = false := by kernel_rfl
abbrev d0F : Fd := ⟨4, ⟨#[98]⟩, ⟨#[120]⟩, none, 0, 0, ⟨#[121]⟩, none, 0, 0⟩
abbrev d1F : Fd := ⟨3, ⟨#[97]⟩, ⟨#[49]⟩, none, 0, 0, ⟨#[]⟩, none, 0, 0⟩
abbrev d2F (b : Nat) : Fd := ⟨2, ⟨#[]⟩, ⟨#[]⟩, none, 0, 0, ⟨#[]⟩, some ⟨b, 0, none⟩, 1, 1⟩
abbrev dxF (b : Nat) : Fd := ⟨0, ⟨#[]⟩, ⟨#[]⟩, none, 0, 0, ⟨#[]⟩, some ⟨b + 1, 0, none⟩, 2, 2⟩
theorem sm_mk {n : Nat} {k : Int} {a v f : ByteArray} {l : List (Fl n)} (ha : a.size <= 60) (hv : v.size <= 60) (hf : f.size <= 60) (hl : l.length <= 10) : Sm (mk k a v [] f l) :=
 ⟨by rw [nm_mk]; omega, by rw [va_mk]; omega, by rw [fi_mk]; omega, by simp, (fun x hx => by cases hx), by rw [ls_mk]; omega⟩
theorem xF_lies {W : World} {b : Nat} (h0 : W.heap[b]? = some (.cells d0F.cs 25 (0, 0))) (h1 : W.heap[b + 1]? = some (.cells (d1F.cs ++ (d2F b).cs) 25 (0, 0))) :
  FNode 8 W (fun _ => True) (dxF b) xF := by
 have hN0 : ∀ n, FNode (n + 1) W (fun _ => True) d0F x0F := fun n => ⟨⟨rfl, rfl, rfl, rfl, rfl, rfl⟩, sm_mk (by decide) (by decide) (by decide) (by simp), .inl rfl, .inl rfl⟩
 have hN1 : ∀ n, FNode (n + 1) W (fun _ => True) d1F x1F := fun n => ⟨⟨rfl, rfl, rfl, rfl, rfl, rfl⟩, sm_mk (by decide) (by decide) (by decide) (by simp), .inl rfl, .inl rfl⟩
 have hN2 : ∀ n, FNode (n + 2) W (fun _ => True) (d2F b) x2F := fun n => ⟨⟨rfl, rfl, rfl, rfl, rfl, rfl⟩, sm_mk (by decide) (by decide) (by decide) (by simp), .inl rfl, .inr ⟨b, 0, rfl, trivial, fun i F hF => by
  match i, hF with
  | 0, hF => cases hF; exact ⟨d0F, At.box h0, hN0 _⟩⟩⟩
 refine ⟨⟨rfl, rfl, rfl, rfl, rfl, rfl⟩, sm_mk (by decide) (by decide) (by decide) (by simp), .inl rfl, .inr ⟨b + 1, 0, rfl, trivial, fun i F hF => ?_⟩⟩
 match i, hF with
 | 0, hF => cases hF; exact ⟨d1F, ⟨by simp [World.cell?, h1], by simp [World.cell?, h1], by simp [World.cell?, h1], by simp [World.cell?, h1], by simp [World.cell?, h1], by simp [World.cell?, h1]⟩, hN1 _⟩
 | 1, hF => cases hF; exact ⟨d2F b, ⟨by simp [World.cell?, h1], by simp [World.cell?, h1], by simp [World.cell?, h1], by simp [World.cell?, h1], by simp [World.cell?, h1], by simp [World.cell?, h1]⟩, hN2 _⟩
theorem pc_small {q : List UInt8} (h : q.length <= 1000) : Pc q := by
 refine ⟨by omega, ?_⟩
 cases hc : cutB 61 q with
 | none => trivial
 | some x =>
  obtain ⟨a, t⟩ := x
  obtain ⟨e, _⟩ := cutB_some 61 _ _ _ hc
  have hl := congrArg List.length e
  rw [List.length_append, List.length_cons] at hl
  show if (kindOf a).2 = 3 then ∀ q ∈ spl 42 t, q.length <= 1000 else t.length <= 1000
  split
  ·intro y hy
   have := spl_small 42 t y hy
   omega
  ·omega
theorem shrt_small {s : ByteArray} (h : s.size <= 1000) : Shrt s := by
 refine ⟨by omega, fun p hp _ _ q c hc => pc_small ?_⟩
 obtain ⟨e, _⟩ := cutB_some 41 _ _ _ hc
 have hl := congrArg List.length e
 rw [List.length_append, List.length_cons, List.length_drop, Array.length_toList] at hl
 have h2 : s.data.size = s.size := rfl
 omega
structure ShF (w W : World) : Prop where
 bel : Below w.heap.size w W
 b0 : W.heap[w.heap.size]? = some (.cells d0F.cs 25 (0, 0))
 b1 : W.heap[w.heap.size + 1]? = some (.cells (d1F.cs ++ (d2F w.heap.size).cs) 25 (0, 0))
 b2 : W.heap[w.heap.size + 1 + 1]? = some (.cells (dxF w.heap.size).cs 25 (0, 0))
theorem ShF.next {w W V : World} (h : ShF w W) (hb : Below W.heap.size W V) : ShF w V :=
 ⟨h.bel.trans (hb.mono h.bel.size), (hb.block _ (Array.getElem?_eq_some_iff.1 h.b0).1).trans h.b0, (hb.block _ (Array.getElem?_eq_some_iff.1 h.b1).1).trans h.b1, (hb.block _ (Array.getElem?_eq_some_iff.1 h.b2).1).trans h.b2⟩
theorem ShF.first (w : World) : ShF w (((w.alloc d0F.obj).alloc (.cells (d1F.cs ++ (d2F w.heap.size).cs) 25)).alloc (dxF w.heap.size).obj) := by
 refine ⟨(((Below.refl _ _).alloc (Nat.le_refl _) _).alloc (by simp) _).alloc (by simp; omega) _, ?_, ?_, ?_⟩
 ·rw [Below.heap_alloc _ _ _ (by simp; omega), Below.heap_alloc _ _ _ (by simp)]; exact World.alloc_heap_new w _
 ·rw [Below.heap_alloc _ _ _ (by simp)]
  have := World.alloc_heap_new (w.alloc d0F.obj) (.cells (d1F.cs ++ (d2F w.heap.size).cs) 25)
  rwa [World.size_alloc] at this
 ·have := World.alloc_heap_new ((w.alloc d0F.obj).alloc (.cells (d1F.cs ++ (d2F w.heap.size).cs) 25)) (dxF w.heap.size).obj
  rwa [World.size_alloc, World.size_alloc] at this
theorem ShF.lies {w W : World} (h : ShF w W) : FNode 8 W (fun _ => True) (dxF w.heap.size) xF := xF_lies h.b0 h.b1
theorem txl_of {W : World} {b n : Nat} {v : Value} {xs : List ByteArray} (h : W.ownsRow b 9 1 v n (strs xs)) (hn : n = xs.length) : TxL W v xs := by
 subst hn
 obtain ⟨sa, sc, e, hs⟩ := own_strs h rfl
 exact ⟨sa, sc, e, hs.imp fun _ _ _ => trivial⟩
theorem shown_true (A : Ad) (w : World) (g : Glob A w) : Calls Tryz.prog 4 #[] w fun e w' => e = .returned (.bool true) /\ Below w.heap.size w w' := by
 have hp := fun W (h : ShF w W) => print_any 7 xF A W _ _ (g.below (Nat.le_refl _) h.bel) h.lies (by omega)
 rw [xF_prt] at hp
 have e1 := H_ hp
 have hpa := fun W (h : ShF w W) => parse_any A xS (shrt_small (by decide)) W (g.below (Nat.le_refl _) h.bel)
 rw [xF_rd] at hpa
 have e2 := H_ hpa
 have hpb := fun W (h : ShF w W) => parse_any A yS (shrt_small (by decide)) W (g.below (Nat.le_refl _) h.bel)
 rw [yF_rd] at hpb
 have e3 := H_ hpb
 have hpc := fun W (h : ShF w W) => parse_any A ⟨#[40, 97, 61, 42, 42, 41]⟩ (shrt_small (by decide)) W (g.below (Nat.le_refl _) h.bel)
 rw [zF_rd] at hpc
 have e4 := H_ hpc
 have hnm := fun W (h : ShF w W) => names_any 7 xF A W _ _ (g.below (Nat.le_refl _) h.bel) h.lies (by omega)
 rw [xF_right, if_pos rfl, xF_names] at hnm
 have e5 := H_ hnm
 have e6 := H_ fun W => isName_any ⟨#[99, 110, 59, 108, 97, 110, 103, 45, 100, 101]⟩ W
 rw [nm_yes] at e6
 have e7 := H_ fun W => isName_any ⟨#[99, 110, 59]⟩ W
 rw [nm_no] at e7
 clear hp hpa hpb hpc hnm g
 go_enter Tryz.func4, Tryz.ntmps4
 go_wp2_with fail
 have h1 := ShF.first w
 refine ((un e1) _ h1).mono ?_
 rintro e w1 ⟨rfl, hb⟩
 have H1 := H_ (h1.next hb)
 clear hb h1 e1
 go_wp2_with fail
 refine ((un e2) _ (un H1)).mono ?_
 rintro e w2 ⟨hb, ⟨dk, da, dv, dsa, dsn, dsc, df, dla, dln, dlc⟩, rfl, hN⟩
 have h2 := (un H1).next hb
 have hal := (Below.refl w2.heap.size w2).alloc (Nat.le_refl _) (Fd.obj ⟨dk, da, dv, dsa, dsn, dsc, df, dla, dln, dlc⟩)
 have Y2 := H_ (And.intro (hN.below hal) (World.alloc_heap_new w2 (Fd.obj ⟨dk, da, dv, dsa, dsn, dsc, df, dla, dln, dlc⟩)))
 have H2 := H_ (h2.next hal)
 clear hb hN h2 hal H1 e2
 go_wp2_with fail
 refine ((un e3) _ (un H2)).mono ?_
 rintro e w3 ⟨hb, ⟨ek, ea, ev, esa, esn, esc, ef, ela, eln, elc⟩, rfl, hN⟩
 have hlt2 : w2.heap.size < (w2.alloc (Fd.obj ⟨dk, da, dv, dsa, dsn, dsc, df, dla, dln, dlc⟩)).heap.size := by simp
 have h3 := (un H2).next hb
 have hal := (Below.refl w3.heap.size w3).alloc (Nat.le_refl _) (Fd.obj ⟨ek, ea, ev, esa, esn, esc, ef, ela, eln, elc⟩)
 have Y3 := H_ (And.intro (((un Y2).1.below hb).below hal) ((hal.block _ (Nat.lt_of_lt_of_le hlt2 hb.size)).trans ((hb.block _ hlt2).trans (un Y2).2)))
 have Z3 := H_ (World.alloc_heap_new w3 (Fd.obj ⟨ek, ea, ev, esa, esn, esc, ef, ela, eln, elc⟩))
 have hek : ek = 7 := hN.is.k
 subst hek
 have H3 := H_ (h3.next hal)
 clear hb hN h3 hal H2 Y2 e3
 generalize w2.heap.size = n2 at *
 go_wp2_with fail
 have hlt2' := (Array.getElem?_eq_some_iff.1 (un Y3).2).1
 have hlt3 : w3.heap.size < (w3.alloc (Fd.obj ⟨7, ea, ev, esa, esn, esc, ef, ela, eln, elc⟩)).heap.size := by simp
 refine ((un e4) _ (un H3)).mono ?_
 rintro e w4 ⟨hb, rfl⟩
 have h4 := (un H3).next hb
 have hal := (Below.refl w4.heap.size w4).alloc (Nat.le_refl _) zfd.obj
 have Y4 := H_ (And.intro (((un Y3).1.below hb).below hal) ((hal.block _ (Nat.lt_of_lt_of_le hlt2' hb.size)).trans ((hb.block _ hlt2').trans (un Y3).2)))
 have Z4 := H_ ((hal.block _ (Nat.lt_of_lt_of_le hlt3 hb.size)).trans ((hb.block _ hlt3).trans (un Z3)))
 have H4 := H_ (h4.next hal)
 clear hb h4 hal H3 Y3 Z3 e4 hlt2' hlt3
 generalize w3.heap.size = n3 at *
 obtain ⟨⟨c0, c1, c2, c3, c4, c5⟩, _⟩ := box6 (un H4).b2
 dsimp only at c0 c1 c2 c3 c4 c5
 go_wp2_with fail
 refine ((un e5) _ (un H4)).mono ?_
 rintro e w5 ⟨hb, v, rfl, hown⟩
 have hlt2' := (Array.getElem?_eq_some_iff.1 (un Y4).2).1
 have hlt3 := (Array.getElem?_eq_some_iff.1 (un Z4)).1
 have h5 := (un H4).next hb
 have hq5 := (hb.block _ hlt2').trans (un Y4).2
 have hz5 := (hb.block _ hlt3).trans (un Z4)
 have HS := H_ (same_any 8 xF xF w5 _ _ _ _ h5.lies ((un Y4).1.below hb))
 rw [xF_same] at HS
 have T5 := H_ (txl_of hown rfl)
 have H5 := H_ h5
 have Z5 := H_ hz5
 clear c0 c1 c2 c3 c4 c5
 obtain ⟨⟨c0, c1, c2, c3, c4, c5⟩, _⟩ := box6 h5.b2
 obtain ⟨⟨k0, k1, k2, k3, k4, k5⟩, _⟩ := box6 hq5
 dsimp only at c0 c1 c2 c3 c4 c5 k0 k1 k2 k3 k4 k5
 have t0 : (xS.toList == ByteArray.toList ⟨#[40, 38, 40, 97, 61, 49, 41, 40, 33, 40, 98, 61, 120, 42, 121, 41, 41, 41]⟩) = true := by simp
 clear hb hown h5 hq5 hz5 H4 Y4 Z4 e5 hlt2' hlt3
 go_wp2_with fail
 refine (un HS).mono ?_
 rintro e w6 ⟨rfl, hb⟩
 have hz6 := (hb.block _ (Array.getElem?_eq_some_iff.1 (un Z5)).1).trans (un Z5)
 have H6 := H_ ((un H5).next hb)
 have T6 := H_ ((un T5).below hb)
 clear c0 c1 c2 c3 c4 c5 k0 k1 k2 k3 k4 k5
 obtain ⟨⟨c0, c1, c2, c3, c4, c5⟩, _⟩ := box6 hz6
 dsimp only at c0 c1 c2 c3 c4 c5
 clear hb hz6 H5 T5 Z5 HS
 go_wp2_with fail
 have hal := (Below.refl w6.heap.size w6).alloc (Nat.le_refl _) (.cells #[.string ⟨#[97]⟩, .string ⟨#[98]⟩] 9)
 have hT2 : TxL (w6.alloc (.cells #[.string ⟨#[97]⟩, .string ⟨#[98]⟩] 9)) (.slice (some ⟨w6.heap.size, 0, none⟩) 2 2) [⟨#[97]⟩, ⟨#[98]⟩] := by
  have hq := World.alloc_heap_new w6 (.cells #[.string ⟨#[97]⟩, .string ⟨#[98]⟩] 9)
  generalize w6.alloc (.cells #[.string ⟨#[97]⟩, .string ⟨#[98]⟩] 9) = V6 at hq ⊢
  refine ⟨_, _, rfl, .inr ⟨_, _, rfl, trivial, fun i x hx => ?_⟩⟩
  match i, hx with
  | 0, hx => cases hx; simp [World.cell?, hq]
  | 1, hx => cases hx; simp [World.cell?, hq]
 have HX := H_ (texts_any [⟨#[97]⟩, ⟨#[98]⟩] [⟨#[97]⟩, ⟨#[98]⟩] _ _ _ (by simp) (by simp) ((un T6).below hal) hT2)
 rw [decide_eq_true rfl] at HX
 have H7 := H_ ((un H6).next hal)
 refine (un HX).mono ?_
 rintro e w7 ⟨rfl, hb⟩
 have H8 := H_ ((un H7).next hb).bel
 clear hal hT2 HX hb H7 H6 T6 c0 c1 c2 c3 c4 c5
 go_wp2_with fail
 refine ((un e6) _).mono ?_
 rintro e w8 ⟨rfl, hb⟩
 have H9 := H_ (step (un H8) hb)
 clear hb H8
 go_wp2_with fail
 refine ((un e7) _).mono ?_
 rintro e w9 ⟨rfl, hb⟩
 have H10 := H_ (step (un H9) hb)
 clear hb H9
 go_wp2
 go_ret
 exact ⟨rfl, un H10⟩
theorem cut_any (s : ByteArray) (w : World) (hs : s.size <= maxLen) :
  Calls Tryz.prog 6 #[.string s] w fun e w' => e = .returned (.string (s.extract 0 (min (s.size : Int) 500).toNat)) /\ w' = w := by
 unfold maxLen at hs
 go_enter Tryz.func6, Tryz.ntmps6
 go_wp2
 go_ret
 exact ⟨rfl, rfl⟩
end Go.Proofs.YtjhnblgamodekaaGreatDoor.F
/-
 What the document's own Letter, Digit, Key, Oid and IsType of layer 7 answer. Conditions: none.
-/
namespace Go.Proofs.YtjhnblgamodekaaGreatDoor.D
open Go Go.RowKit Go.Shelf Dp
attribute [local go_sem] Oper.semAt_some
theorem refDigit_any (x : UInt8) (w : World) :
  Calls Tryz.prog 60 #[.int .u8 x.toNat] w fun e w' => e = .returned (.bool (dig x)) /\ w' = w := by
 by_cases h1 : 48 <= x.toNat
 ·have k1 : (48 : Int) <= x.toNat := by omega
  by_cases h2 : x.toNat <= 57
  ·have k2 : (x.toNat : Int) <= 57 := by omega
   rw [show dig x = true by unfold dig; simp; omega]
   clear h1 h2
   go_enter Tryz.func60, Tryz.ntmps60
   go_wp2
   go_ret
   exact ⟨rfl, rfl⟩
  ·have k2 : ¬ (x.toNat : Int) <= 57 := by omega
   rw [show dig x = false by unfold dig; simp; omega]
   clear h1 h2
   go_enter Tryz.func60, Tryz.ntmps60
   go_wp2
   go_ret
   exact ⟨rfl, rfl⟩
 ·have k1 : ¬ (48 : Int) <= x.toNat := by omega
  rw [show dig x = false by unfold dig; simp; omega]
  clear h1
  go_enter Tryz.func60, Tryz.ntmps60
  go_wp2
  go_ret
  exact ⟨rfl, rfl⟩
theorem refLetter_any (x : UInt8) (w : World) :
  Calls Tryz.prog 59 #[.int .u8 x.toNat] w fun e w' => e = .returned (.bool (ltr x)) /\ w' = w := by
 by_cases h1 : 97 <= x.toNat
 ·have k1 : (97 : Int) <= x.toNat := by omega
  have k5 : (65 : Int) <= x.toNat := by omega
  by_cases h2 : x.toNat <= 122
  ·have k2 : (x.toNat : Int) <= 122 := by omega
   rw [show ltr x = true by unfold ltr; simp; omega]
   clear h1 h2
   go_enter Tryz.func59, Tryz.ntmps59
   go_wp2
   go_ret
   exact ⟨rfl, rfl⟩
  ·have k2 : ¬ (x.toNat : Int) <= 122 := by omega
   have k4 : ¬ (x.toNat : Int) <= 90 := by omega
   rw [show ltr x = false by unfold ltr; simp; omega]
   clear h1 h2
   go_enter Tryz.func59, Tryz.ntmps59
   go_wp2
   go_ret
   exact ⟨rfl, rfl⟩
 ·have k1 : ¬ (97 : Int) <= x.toNat := by omega
  by_cases h3 : 65 <= x.toNat
  ·have k3 : (65 : Int) <= x.toNat := by omega
   by_cases h4 : x.toNat <= 90
   ·have k4 : (x.toNat : Int) <= 90 := by omega
    rw [show ltr x = true by unfold ltr; simp; omega]
    clear h1 h3 h4
    go_enter Tryz.func59, Tryz.ntmps59
    go_wp2
    go_ret
    exact ⟨rfl, rfl⟩
   ·have k4 : ¬ (x.toNat : Int) <= 90 := by omega
    rw [show ltr x = false by unfold ltr; simp; omega]
    clear h1 h3 h4
    go_enter Tryz.func59, Tryz.ntmps59
    go_wp2
    go_ret
    exact ⟨rfl, rfl⟩
  ·have k3 : ¬ (65 : Int) <= x.toNat := by omega
   rw [show ltr x = false by unfold ltr; simp; omega]
   clear h1 h3
   go_enter Tryz.func59, Tryz.ntmps59
   go_wp2
   go_ret
   exact ⟨rfl, rfl⟩
theorem word_fit {s : ByteArray} (h : 0 < s.size) : word s.data.toList = (ltr s[0] && s.data.toList.all fit) := by
 have e := drop_at (s := s) (j := 0) h
 rw [List.drop_zero] at e
 rw [e, word, List.all_cons]
 cases hl : ltr s[0]
 ·rfl
 ·simp [fit, hl]
theorem fit_or (x : UInt8) : fit x = (ltr x || (dig x || decide (x = 45))) := by
 unfold fit
 rw [show (x == 45) = decide (x = 45) by rw [Bool.eq_iff_iff]; simp]
 cases dig x <;> cases ltr x <;> cases decide (x = 45) <;> rfl
theorem refKey_any (s : ByteArray) (w : World) (hs : s.size <= 2000) :
  Calls Tryz.prog 57 #[.string s] w fun e w' => e = .returned (.bool (word s.data.toList)) /\ w' = w := by
 by_cases h0 : s.size = 0
 ·obtain rfl : s = ⟨#[]⟩ := by
   cases s with
   | mk d => congr 1; exact Array.eq_empty_of_size_eq_zero h0
  rw [show word (ByteArray.mk #[]).data.toList = false from rfl]
  clear h0
  go_enter Tryz.func57, Tryz.ntmps57
  go_wp2
  go_ret
  exact ⟨rfl, rfl⟩
 ·have hps : 0 < s.size := by omega
  have hps' : (0 : Int) < s.size := by omega
  have hne : (s.toList == ([] : List UInt8)) = false := by
   rw [beq_eq_false_iff_ne, ByteArray.toList_eq]
   intro e
   exact h0 (by rw [show s.size = s.data.toList.length from (Array.length_toList).symm, e]; rfl)
  have hne2 : s.toList.isEmpty = false := by simpa using hne
  rw [word_fit hps]
  have HL := H_ fun x W => refLetter_any x W
  have HD := H_ fun x W => refDigit_any x W
  clear h0
  obtain ⟨y, hy⟩ : ∃ y, s[0] = y := ⟨_, rfl⟩
  rw [hy]
  obtain ⟨r, hr⟩ : ∃ r, s.data.toList.all fit = r := ⟨_, rfl⟩
  rw [hr]
  have Hr := H_ hr
  have H0 := H_ ((un HL) y)
  clear hr
  generalize ltr y = b at *
  cases b
  ·rw [Bool.false_and]
   go_enter Tryz.func57, Tryz.ntmps57
   go_wp2_with fail
   refine ((un H0) _).mono ?_
   rintro e w1 ⟨rfl, rfl⟩
   go_wp2
   go_ret
   exact ⟨rfl, rfl⟩
  ·rw [Bool.true_and]
   go_enter Tryz.func57, Tryz.ntmps57
   go_wp2_with fail
   refine ((un H0) _).mono ?_
   rintro e w1 ⟨rfl, rfl⟩
   clear H0 hy
   go_wp2
   go_loopw [3] (fun ix wr => ∃ j : Nat, j <= s.size /\ ix = .int .i64 (j : Int) /\ Hid ((s.data.toList.drop j).all fit = r) /\ wr = w1)
    (fun ix _ => s.size - (intOf ix).toNat)
   case atStart => exact ⟨0, Nat.zero_le _, rfl, by rw [List.drop_zero]; exact Hr, rfl⟩
   case round =>
    obtain ⟨j, hj, rfl, hd, rfl⟩ := hrel
    by_cases hlt : j < s.size
    ·have hlt' : (j : Int) < s.size := by omega
     have hj' : (j : Int) <= 2000 := by omega
     obtain ⟨y, hy⟩ : ∃ y, s[j] = y := ⟨_, rfl⟩
     have hn : (fit y && (s.data.toList.drop (j + 1)).all fit) = r := by rw [<- hy, <- List.all_cons, <- drop_at hlt]; exact un hd
     rw [fit_or] at hn
     have HLy := H_ ((un HL) y)
     have HDy := H_ ((un HD) y)
     have h45 := beq_int y 45
     rw [show (((45 : UInt8).toNat : Nat) : Int) = 45 from rfl] at h45
     have Hn := H_ hn
     clear hn hd
     generalize decide (y = 45) = b3 at *
     generalize ltr y = b1 at *
     generalize dig y = b2 at *
     cases b1
     ·cases b2
      ·cases b3
       ·obtain rfl : r = false := by rw [<- un Hn]; rfl
        go_wp2_with fail
        refine ((un HLy) _).mono ?_
        rintro e w1 ⟨rfl, rfl⟩
        go_wp2_with fail
        refine ((un HDy) _).mono ?_
        rintro e w1 ⟨rfl, rfl⟩
        go_wp2
        go_ret
        exact ⟨rfl, rfl⟩
       ·have Hq : Hid ((s.data.toList.drop (j + 1)).all fit = r) := H_ (by rw [<- un Hn]; simp)
        go_wp2_with fail
        refine ((un HLy) _).mono ?_
        rintro e w1 ⟨rfl, rfl⟩
        go_wp2_with fail
        refine ((un HDy) _).mono ?_
        rintro e w1 ⟨rfl, rfl⟩
        go_wp2
        go_roundw
        case rel => exact ⟨j + 1, by omega, by simp, Hq, by first | rfl | trivial⟩
        case measure => simp [intOf]; omega
      ·have Hq : Hid ((s.data.toList.drop (j + 1)).all fit = r) := H_ (by rw [<- un Hn]; simp)
       clear h45
       go_wp2_with fail
       refine ((un HLy) _).mono ?_
       rintro e w1 ⟨rfl, rfl⟩
       go_wp2_with fail
       refine ((un HDy) _).mono ?_
       rintro e w1 ⟨rfl, rfl⟩
       go_wp2
       go_roundw
       case rel => exact ⟨j + 1, by omega, by simp, Hq, by first | rfl | trivial⟩
       case measure => simp [intOf]; omega
     ·have Hq : Hid ((s.data.toList.drop (j + 1)).all fit = r) := H_ (by rw [<- un Hn]; simp)
      clear h45
      go_wp2_with fail
      refine ((un HLy) _).mono ?_
      rintro e w1 ⟨rfl, rfl⟩
      go_wp2
      go_roundw
      case rel => exact ⟨j + 1, by omega, by simp, Hq, by first | rfl | trivial⟩
      case measure => simp [intOf]; omega
    ·have hge : ¬ (j : Int) < s.size := by omega
     have hd := un hd
     rw [drop_out hlt] at hd
     obtain rfl : r = true := by rw [<- hd]; rfl
     clear hd
     go_wp2
     go_ret
     exact ⟨rfl, rfl⟩
end Go.Proofs.YtjhnblgamodekaaGreatDoor.D
/-
 What the document's own Oid and IsType of layer 7 answer. Conditions: none.
-/
namespace Go.Proofs.YtjhnblgamodekaaGreatDoor.D
open Go Go.RowKit Go.Shelf Dp
attribute [local go_sem] Oper.semAt_some
theorem sp_head (c : UInt8) : ∀ (l : List UInt8) (e : Bool) (a : List UInt8), ∀ z ∈ a, z ∈ (sp c e a l).head (sp_ne c l e a) := by
 intro l
 induction l with
 | nil => intro e a z hz; cases e <;> simpa [sp] using hz
 | cons w l ih =>
  intro e a z hz
  cases e with
  | true => simp only [sp]; exact ih false (a ++ [w]) z (by simp [hz])
  | false =>
   simp only [sp]
   split
   ·simpa using hz
   ·exact ih _ (a ++ [w]) z (by simp [hz])
structure Oi (s : ByteArray) (fr i n : Nat) : Prop where
 le : fr <= i
 ile : i <= s.size
 digs : ((s.data.toList.take i).drop fr).all dig = true
 ds : ∃ ds : List (List UInt8), ds.length = n /\ ds.all num = true /\ pcs 46 s.data.toList = ds ++ sp 46 false ((s.data.toList.take i).drop fr) (s.data.toList.drop i)
theorem Oi.first (s : ByteArray) : Oi s 0 0 0 := ⟨Nat.le_refl _, Nat.zero_le _, by simp, [], rfl, rfl, by simp⟩
theorem Oi.digit {s : ByteArray} {fr i n : Nat} (h : Oi s fr i n) (hi : i < s.size) (hd : dig s[i] = true) : Oi s fr (i + 1) n := by
 have hx : s[i] ≠ 46 /\ s[i] ≠ 92 := by
  constructor <;> intro e <;> rw [e] at hd <;> revert hd <;> decide
 obtain ⟨ds, h1, h2, h3⟩ := h.ds
 refine ⟨by have := h.le; omega, hi, ?_, ds, h1, h2, ?_⟩
 ·rw [td_snoc hi h.le, List.all_append, h.digs]
  simp [hd]
 ·rw [h3, drop_at hi, sp, if_neg hx.1, td_snoc hi h.le, show (s[i] == 92) = false by simpa using hx.2]
theorem Oi.other {s : ByteArray} {fr i n : Nat} (h : Oi s fr i n) (hi : i < s.size) (hd : dig s[i] = false) (hp : s[i] ≠ 46) : nums s.data.toList = false := by
 obtain ⟨ds, h1, h2, h3⟩ := h.ds
 unfold nums
 rw [Bool.and_eq_false_iff]
 right
 rw [h3, drop_at hi, sp, if_neg hp, List.all_append, Bool.and_eq_false_iff]
 right
 rw [List.all_eq_false]
 refine ⟨_, List.head_mem (sp_ne 46 _ (s[i] == 92) _), fun hn => ?_⟩
 have := num_dig hn s[i] (sp_head 46 _ _ _ _ (by simp))
 rw [hd] at this
 cases this
theorem num_of {a : List UInt8} (h : a.all dig = true) : num a = (a != [] && !(decide (2 <= a.length) && (a.head? == some 48))) := by
 rw [num_iff, h, Bool.true_and]
 match a with
 | [] => rfl
 | [x] =>
  by_cases hx : x = 48
  ·subst hx; rfl
  ·have e1 : (([x] : List UInt8) == [48]) = false := by simpa using hx
   have e2 : (([x] : List UInt8).head? != some 48) = true := by simpa using hx
   rw [e1, e2]
   simp
 | x :: y :: r =>
  have e0 : ((x :: y :: r : List UInt8) == [48]) = false := by simp
  by_cases hx : x = 48
  ·subst hx; rw [e0]; simp
  ·have e2 : ((x :: y :: r : List UInt8).head? != some 48) = true := by simpa using hx
   have e3 : ((x :: y :: r : List UInt8).head? == some 48) = false := by simpa using hx
   rw [e0, e2, e3]
   simp
theorem td_len {s : ByteArray} {fr i : Nat} (h : fr <= i) (hi : i <= s.size) : ((s.data.toList.take i).drop fr).length = i - fr := by
 rw [List.length_drop, List.length_take, Array.length_toList]
 have : s.data.size = s.size := rfl
 omega
theorem td_head {s : ByteArray} {fr i : Nat} (h : fr < i) (hi : i <= s.size) : ((s.data.toList.take i).drop fr).head? = some (s[fr]'(by omega)) := by
 have hl : fr < s.data.toList.length := by rw [Array.length_toList]; show fr < s.size; omega
 rw [List.head?_drop, List.getElem?_take, if_pos h, List.getElem?_eq_getElem hl]
 rfl
def pnum (s : ByteArray) (fr i : Nat) : Bool := num ((s.data.toList.take i).drop fr)
theorem pnum_eq {s : ByteArray} {fr i : Nat} (hd : ((s.data.toList.take i).drop fr).all dig = true) (h : fr <= i) (hi : i <= s.size) : (i = fr -> pnum s fr i = false) /\ (i = fr + 1 -> pnum s fr i = true) /\ (∀ hl : fr + 1 < i, pnum s fr i = !decide (s[fr]'(by omega) = 48)) := by
 unfold pnum
 have hl := td_len h hi
 refine ⟨fun e => ?_, fun e => ?_, fun hlt => ?_⟩
 ·have : (s.data.toList.take i).drop fr = [] := List.length_eq_zero_iff.1 (by rw [hl]; omega)
  rw [this]; rfl
 ·rw [num_of hd, hl]
  have : (s.data.toList.take i).drop fr ≠ [] := fun e2 => by rw [e2] at hl; simp at hl; omega
  have e3 : decide (2 <= i - fr) = false := decide_eq_false (by omega)
  rw [e3]
  simpa using this
 ·rw [num_of hd, hl, td_head (by omega) hi, decide_eq_true (by omega)]
  have : (s.data.toList.take i).drop fr ≠ [] := fun e2 => by rw [e2] at hl; simp at hl; omega
  have e4 : ((s.data.toList.take i).drop fr != []) = true := by simpa using this
  rw [e4, Bool.eq_iff_iff]
  simp
theorem Oi.dot {s : ByteArray} {fr i n : Nat} (h : Oi s fr i n) (hi : i < s.size) (hp : s[i] = 46) (hn : pnum s fr i = true) : Oi s (i + 1) (i + 1) (n + 1) := by
 obtain ⟨ds, h1, h2, h3⟩ := h.ds
 have e : (s.data.toList.take (i + 1)).drop (i + 1) = [] := List.drop_of_length_le (by rw [List.length_take]; omega)
 refine ⟨Nat.le_refl _, hi, by rw [e]; rfl, ds ++ [(s.data.toList.take i).drop fr], by simp [h1], ?_, ?_⟩
 ·rw [List.all_append, h2]
  simpa [pnum] using hn
 ·rw [h3, drop_at hi, sp, if_pos hp, e]
  simp
theorem Oi.dotno {s : ByteArray} {fr i n : Nat} (h : Oi s fr i n) (hi : i < s.size) (hp : s[i] = 46) (hn : pnum s fr i = false) : nums s.data.toList = false := by
 obtain ⟨ds, h1, h2, h3⟩ := h.ds
 unfold nums
 rw [Bool.and_eq_false_iff]
 right
 rw [h3, drop_at hi, sp, if_pos hp, List.all_append, List.all_cons]
 have hn' : num ((s.data.toList.take i).drop fr) = false := hn
 rw [hn']
 simp
theorem Oi.over {s : ByteArray} {fr i n : Nat} (h : Oi s fr i n) (hi : ¬ i < s.size) : nums s.data.toList = (decide (2 <= n + 1) && pnum s fr i) := by
 obtain ⟨ds, h1, h2, h3⟩ := h.ds
 unfold nums
 rw [h3, drop_out hi, sp, List.all_append, h2, List.length_append, h1]
 simp [pnum]
theorem refOid_any (s : ByteArray) (w : World) (hs : s.size <= 2000) :
  Calls Tryz.prog 58 #[.string s] w fun e w' => e = .returned (.bool (nums s.data.toList)) /\ w' = w := by
 have HD := H_ fun x W => refDigit_any x W
 obtain ⟨r, hr⟩ : ∃ r, nums s.data.toList = r := ⟨_, rfl⟩
 rw [hr]
 have Hr := H_ hr
 clear hr
 go_enter Tryz.func58, Tryz.ntmps58
 go_wp2
 go_loopw [3, 4, 5] (fun f p ix wr => ∃ fr n i : Nat, f = .int .i64 (fr : Int) /\ p = .int .i64 (n : Int) /\ ix = .int .i64 (i : Int) /\ n <= i /\ i <= s.size + 1 /\ fr <= i /\ ((i <= s.size /\ Hid (Oi s fr i n)) \/ (i = s.size + 1 /\ Hid (r = decide (2 <= n)))) /\ wr = w)
  (fun _ _ ix _ => s.size + 1 - (intOf ix).toNat)
 case atStart => exact ⟨0, 0, 0, rfl, rfl, rfl, Nat.le_refl _, Nat.zero_le _, Nat.le_refl _, .inl ⟨Nat.zero_le _, H_ (Oi.first s)⟩, rfl⟩
 case round =>
  obtain ⟨fr, n, i, rfl, rfl, rfl, hni, his, hfi, hO, rfl⟩ := hrel
  have hi' : (i : Int) <= 2001 := by omega
  have hn' : (n : Int) <= 2001 := by omega
  have hf' : (fr : Int) <= 2001 := by omega
  rcases hO with ⟨hle, hO⟩ | ⟨heq, hre⟩
  ·have hle' : (i : Int) <= s.size := by omega
   by_cases hlt : i < s.size
   ·have hlt' : (i : Int) < s.size := by omega
    obtain ⟨y, hy⟩ : ∃ y, s[i] = y := ⟨_, rfl⟩
    have HDy := H_ ((un HD) y)
    cases hd : dig y
    ·rw [hd] at HDy
     by_cases hp : y = 46
     ·have hpe : ((y.toNat : Int) == 46) = true := by rw [hp]; rfl
      have hpe2 : (y.toNat : Int) = 46 := by rw [hp]; rfl
      have hq := pnum_eq (un hO).digs hfi hle
      cases hpn : pnum s fr i
      ·obtain rfl : r = false := by rw [<- un Hr]; exact (un hO).dotno hlt (by rw [hy, hp]) hpn
       by_cases h1 : i = fr
       ·subst h1
        have F := H_ hpe2
        clear hq hpn hO hd hp hpe hpe2
        go_wp2_with fail
        refine ((un HDy) _).mono ?_
        rintro e w1 ⟨rfl, rfl⟩
        have hpe2 := un F
        go_wp2
        go_ret
        exact ⟨rfl, rfl⟩
       ·have h1' : ((i : Int) == fr) = false := by rw [beq_eq_false_iff_ne]; omega
        have h2 : fr + 1 < i := by
         rcases Nat.lt_or_ge (fr + 1) i with h | h
         ·exact h
         ·exfalso
          have := hq.2.1 (by omega)
          rw [hpn] at this
          cases this
        have h2' : (fr : Int) + 1 < i := by omega
        have h3 : s[fr]'(by omega) = 48 := by
         have := hq.2.2 h2
         rw [hpn] at this
         simpa using this
        have hfl : (fr : Int) < s.size := by omega
        have F := H_ (And.intro hpe2 h3)
        clear hq hpn hO hd hp hpe hpe2 h3
        go_wp2_with fail
        refine ((un HDy) _).mono ?_
        rintro e w1 ⟨rfl, rfl⟩
        obtain ⟨hpe2, h3⟩ := un F
        go_wp2
        go_ret
        exact ⟨rfl, rfl⟩
      ·have h1 : i ≠ fr := fun e => by have := hq.1 e; rw [hpn] at this; cases this
       have h1' : ((i : Int) == fr) = false := by rw [beq_eq_false_iff_ne]; omega
       have hnx := H_ ((un hO).dot hlt (by rw [hy, hp]) hpn)
       by_cases h2 : fr + 1 < i
       ·have h2' : (fr : Int) + 1 < i := by omega
        have hfl : (fr : Int) < s.size := by omega
        obtain ⟨z, hz⟩ : ∃ z, s[fr]'(by omega) = z := ⟨_, rfl⟩
        have h3 : z ≠ 48 := fun e => by
         have := hq.2.2 h2
         rw [hpn, hz, e] at this
         simp at this
        have h3' := beq_u8 z 48 h3
        rw [show (((48 : UInt8).toNat : Nat) : Int) = 48 from rfl] at h3'
        have F := H_ hpe2
        clear hq hpn hO hd hp hpe h3 hpe2
        go_wp2_with fail
        refine ((un HDy) _).mono ?_
        rintro e w1 ⟨rfl, rfl⟩
        have hpe2 := un F
        go_wp2
        go_roundw
        case rel => exact ⟨i + 1, n + 1, i + 1, by simp, by simp, by simp, by omega, by omega, Nat.le_refl _, .inl ⟨hlt, hnx⟩, by first | rfl | trivial⟩
        case measure => simp [intOf]; omega
       ·have h2' : ¬ (fr : Int) + 1 < i := by omega
        have F := H_ hpe2
        clear hq hpn hO hd hp hpe hpe2
        go_wp2_with fail
        refine ((un HDy) _).mono ?_
        rintro e w1 ⟨rfl, rfl⟩
        have hpe2 := un F
        go_wp2
        go_roundw
        case rel => exact ⟨i + 1, n + 1, i + 1, by simp, by simp, by simp, by omega, by omega, Nat.le_refl _, .inl ⟨hlt, hnx⟩, by first | rfl | trivial⟩
        case measure => simp [intOf]; omega
     ·have hpe0 := beq_u8 y 46 hp
      rw [show (((46 : UInt8).toNat : Nat) : Int) = 46 from rfl] at hpe0
      have hpe : ¬ (y.toNat : Int) = 46 := beq_eq_false_iff_ne.1 hpe0
      clear hpe0
      obtain rfl : r = false := by rw [<- un Hr]; exact (un hO).other hlt (by rw [hy]; exact hd) (by rw [hy]; exact hp)
      clear hO hd hp
      go_wp2_with fail
      refine ((un HDy) _).mono ?_
      rintro e w1 ⟨rfl, rfl⟩
      go_wp2
      go_ret
      exact ⟨rfl, rfl⟩
    ·rw [hd] at HDy
     have hnx := H_ ((un hO).digit hlt (by rw [hy]; exact hd))
     clear hO hd
     go_wp2_with fail
     refine ((un HDy) _).mono ?_
     rintro e w1 ⟨rfl, rfl⟩
     go_wp2
     go_roundw
     case rel => exact ⟨fr, n, i + 1, rfl, rfl, by simp, by omega, by omega, by omega, .inl ⟨hlt, hnx⟩, by first | rfl | trivial⟩
     case measure => simp [intOf]; omega
   ·have hlt' : ¬ (i : Int) < s.size := by omega
    have hq := pnum_eq (un hO).digs hfi hle
    have hov := (un hO).over hlt
    rw [un Hr] at hov
    cases hpn : pnum s fr i
    ·rw [hpn, Bool.and_false] at hov
     subst hov
     by_cases h1 : i = fr
     ·subst h1
      clear hq hpn hO
      go_wp2
      go_ret
      exact ⟨rfl, rfl⟩
     ·have h1' : ((i : Int) == fr) = false := by rw [beq_eq_false_iff_ne]; omega
      have h2 : fr + 1 < i := by
       rcases Nat.lt_or_ge (fr + 1) i with h | h
       ·exact h
       ·exfalso
        have := hq.2.1 (by omega)
        rw [hpn] at this
        cases this
      have h2' : (fr : Int) + 1 < i := by omega
      have h3 : s[fr]'(by omega) = 48 := by
       have := hq.2.2 h2
       rw [hpn] at this
       simpa using this
      have hfl : (fr : Int) < s.size := by omega
      clear hq hpn hO
      go_wp2
      go_ret
      exact ⟨rfl, rfl⟩
    ·rw [hpn, Bool.and_true] at hov
     have h1 : i ≠ fr := fun e => by have := hq.1 e; rw [hpn] at this; cases this
     have h1' : ((i : Int) == fr) = false := by rw [beq_eq_false_iff_ne]; omega
     have Hov := H_ hov
     by_cases h2 : fr + 1 < i
     ·have h2' : (fr : Int) + 1 < i := by omega
      have hfl : (fr : Int) < s.size := by omega
      obtain ⟨z, hz⟩ : ∃ z, s[fr]'(by omega) = z := ⟨_, rfl⟩
      have h3 : z ≠ 48 := fun e => by
       have := hq.2.2 h2
       rw [hpn, hz, e] at this
       simp at this
      have h3' := beq_u8 z 48 h3
      rw [show (((48 : UInt8).toNat : Nat) : Int) = 48 from rfl] at h3'
      clear hq hpn hO h3 hov
      go_wp2
      go_roundw
      case rel => exact ⟨i + 1, n + 1, i + 1, by simp, by simp, by simp, by omega, by omega, Nat.le_refl _, .inr ⟨by omega, Hov⟩, by first | rfl | trivial⟩
      case measure => simp [intOf]; omega
     ·have h2' : ¬ (fr : Int) + 1 < i := by omega
      clear hq hpn hO hov
      go_wp2
      go_roundw
      case rel => exact ⟨i + 1, n + 1, i + 1, by simp, by simp, by simp, by omega, by omega, Nat.le_refl _, .inr ⟨by omega, Hov⟩, by first | rfl | trivial⟩
      case measure => simp [intOf]; omega
  ·have hle' : ¬ (i : Int) <= s.size := by omega
   have hre' := un hre
   have hdd : decide (2 <= n) = decide ((2 : Int) <= n) := by rw [Bool.eq_iff_iff]; simp; omega
   rw [hdd] at hre'
   have Hre := H_ hre'
   clear hre hre' hdd
   go_wp2
   go_ret
   exact ⟨by rw [un Hre]; rfl, rfl⟩
theorem refIsType_any (s : ByteArray) (w : World) (hs : s.size <= 2000) :
  Calls Tryz.prog 34 #[.string s] w fun e w' => e = .returned (.bool (isTy s)) /\ w' = w := by
 have H1 := H_ fun W => refKey_any s W hs
 have H2 := H_ fun W => refOid_any s W hs
 have hl : s.data.toList.length = s.size := Array.length_toList
 unfold isTy tyL
 rw [hl]
 clear hl
 by_cases h : s.size <= 20
 ·have h' : (s.size : Int) <= 20 := by omega
  rw [decide_eq_true h, Bool.true_and]
  generalize nums s.data.toList = b2 at *
  generalize word s.data.toList = b1 at *
  cases b1
  ·go_enter Tryz.func34, Tryz.ntmps34
   go_wp2_with fail
   refine ((un H1) _).mono ?_
   rintro e w1 ⟨rfl, rfl⟩
   go_wp2_with fail
   refine ((un H2) _).mono ?_
   rintro e w2 ⟨rfl, rfl⟩
   go_wp2
   go_ret
   exact ⟨rfl, rfl⟩
  ·go_enter Tryz.func34, Tryz.ntmps34
   go_wp2_with fail
   refine ((un H1) _).mono ?_
   rintro e w1 ⟨rfl, rfl⟩
   go_wp2
   go_ret
   exact ⟨rfl, rfl⟩
 ·have h' : ¬ (s.size : Int) <= 20 := by omega
  rw [decide_eq_false h, Bool.false_and]
  go_enter Tryz.func34, Tryz.ntmps34
  go_wp2
  go_ret
  exact ⟨rfl, rfl⟩
end Go.Proofs.YtjhnblgamodekaaGreatDoor.D
/-
 What the document's own option and find of layer 8 answer. Conditions: none.
-/
namespace Go.Proofs.YtjhnblgamodekaaGreatDoor.F
open Go Go.RowKit Go.Shelf Fp
open D (H_ un refLetter_any refDigit_any fit_or drop_at drop_out beq_int)
open Dp (fit ltr dig)
attribute [local go_sem] Oper.semAt_some
theorem refOption_any (s : ByteArray) (w : World) (hs : s.size <= 2000) :
  Calls Tryz.prog 35 #[.string s] w fun e w' => e = .returned (.bool (opt s.data.toList)) /\ w' = w := by
 have HL := H_ fun x W => refLetter_any x W
 have HD := H_ fun x W => refDigit_any x W
 obtain ⟨r, hr⟩ : ∃ r, s.data.toList.all fit = r := ⟨_, rfl⟩
 obtain ⟨q, hq⟩ : ∃ q, (s.data.toList != []) = q := ⟨_, rfl⟩
 have ho : opt s.data.toList = (q && r) := by rw [<- hr, <- hq]; rfl
 have hqe : s.toList.isEmpty = !q := by
  rw [ByteArray.toList_eq, <- hq]
  cases s.data.toList <;> rfl
 rw [ho]
 have Hr := H_ hr
 clear hr ho
 have key : ∀ b, q = b -> Calls Tryz.prog 35 #[.string s] w fun e w' => e = .returned (.bool (b && r)) /\ w' = w := by
  rintro b rfl
  have Hq0 := H_ hq
  clear hq
  go_enter Tryz.func35, Tryz.ntmps35
  go_wp2
  go_loopw [3] (fun ix wr => ∃ j : Nat, j <= s.size /\ ix = .int .i64 (j : Int) /\ Hid ((s.data.toList.drop j).all fit = r) /\ wr = w)
   (fun ix _ => s.size - (intOf ix).toNat)
  case atStart => exact ⟨0, Nat.zero_le _, rfl, by rw [List.drop_zero]; exact Hr, rfl⟩
  case round =>
   obtain ⟨j, hj, rfl, hd, rfl⟩ := hrel
   by_cases hlt : j < s.size
   ·have hlt' : (j : Int) < s.size := by omega
    have hj' : (j : Int) <= 2000 := by omega
    obtain ⟨y, hy⟩ : ∃ y, s[j] = y := ⟨_, rfl⟩
    have hn : (fit y && (s.data.toList.drop (j + 1)).all fit) = r := by rw [<- hy, <- List.all_cons, <- drop_at hlt]; exact un hd
    rw [fit_or] at hn
    have HLy := H_ ((un HL) y)
    have HDy := H_ ((un HD) y)
    have h45 := beq_int y 45
    rw [show (((45 : UInt8).toNat : Nat) : Int) = 45 from rfl] at h45
    have Hn := H_ hn
    clear hn hd
    generalize decide (y = 45) = b3 at *
    generalize ltr y = b1 at *
    generalize dig y = b2 at *
    cases b1
    ·cases b2
     ·cases b3
      ·obtain rfl : r = false := by rw [<- un Hn]; rfl
       go_wp2_with fail
       refine ((un HLy) _).mono ?_
       rintro e w1 ⟨rfl, rfl⟩
       go_wp2_with fail
       refine ((un HDy) _).mono ?_
       rintro e w1 ⟨rfl, rfl⟩
       go_wp2
       go_ret
       exact ⟨by simp, rfl⟩
      ·have Hq : Hid ((s.data.toList.drop (j + 1)).all fit = r) := H_ (by rw [<- un Hn]; simp)
       go_wp2_with fail
       refine ((un HLy) _).mono ?_
       rintro e w1 ⟨rfl, rfl⟩
       go_wp2_with fail
       refine ((un HDy) _).mono ?_
       rintro e w1 ⟨rfl, rfl⟩
       go_wp2
       go_roundw
       case rel => exact ⟨j + 1, by omega, by simp, Hq, by first | rfl | trivial⟩
       case measure => simp [intOf]; omega
     ·have Hq : Hid ((s.data.toList.drop (j + 1)).all fit = r) := H_ (by rw [<- un Hn]; simp)
      clear h45
      go_wp2_with fail
      refine ((un HLy) _).mono ?_
      rintro e w1 ⟨rfl, rfl⟩
      go_wp2_with fail
      refine ((un HDy) _).mono ?_
      rintro e w1 ⟨rfl, rfl⟩
      go_wp2
      go_roundw
      case rel => exact ⟨j + 1, by omega, by simp, Hq, by first | rfl | trivial⟩
      case measure => simp [intOf]; omega
    ·have Hq : Hid ((s.data.toList.drop (j + 1)).all fit = r) := H_ (by rw [<- un Hn]; simp)
     clear h45
     go_wp2_with fail
     refine ((un HLy) _).mono ?_
     rintro e w1 ⟨rfl, rfl⟩
     go_wp2
     go_roundw
     case rel => exact ⟨j + 1, by omega, by simp, Hq, by first | rfl | trivial⟩
     case measure => simp [intOf]; omega
   ·have hge : ¬ (j : Int) < s.size := by omega
    have hd := un hd
    rw [drop_out hlt] at hd
    obtain rfl : r = true := by rw [<- hd]; rfl
    clear hd
    go_wp2
    go_ret
    exact ⟨by simp, rfl⟩
 exact key q rfl
def fnd (c : UInt8) (fr : Nat) (l : List UInt8) : Int := match cutB c (l.drop fr) with
 | some (p, _) => ((fr + p.length : Nat) : Int)
 | none => -1
theorem fnd_at {c : UInt8} {l : List UInt8} {fr i : Nat} (hf : fr <= i) (hi : i < l.length) (hc : l[i] = c) (hn : c ∉ (l.take i).drop fr) : fnd c fr l = (i : Int) := by
 have e : l.drop fr = (l.take i).drop fr ++ c :: l.drop (i + 1) := by
  have h1 : l = l.take i ++ (c :: l.drop (i + 1)) := by rw [<- hc, <- List.drop_eq_getElem_cons hi, List.take_append_drop]
  have h2 := congrArg (List.drop fr) h1
  rw [List.drop_append_of_le_length (by rw [List.length_take]; omega)] at h2
  exact h2
 unfold fnd
 rw [e, cutB_at c _ _ hn]
 show ((fr + ((l.take i).drop fr).length : Nat) : Int) = i
 rw [List.length_drop, List.length_take]
 omega
theorem fnd_no {c : UInt8} {l : List UInt8} {fr : Nat} (hn : c ∉ l.drop fr) : fnd c fr l = -1 := by
 unfold fnd
 rw [(cutB_none c _).2 hn]
theorem refFind_any (s : ByteArray) (c : UInt8) (fr : Nat) (w : World) (hs : s.size <= 2000) (hf : fr <= s.size) :
  Calls Tryz.prog 48 #[.string s, .int .u8 (c.toNat : Int), .int .i64 (fr : Int)] w fun e w' => e = .returned (.int .i64 (fnd c fr s.data.toList)) /\ w' = w := by
 obtain ⟨r, hr⟩ : ∃ r, fnd c fr s.data.toList = r := ⟨_, rfl⟩
 rw [hr]
 have Hr := H_ hr
 clear hr
 go_enter Tryz.func48, Tryz.ntmps48
 go_wp2
 go_loopw [7] (fun ix wr => ∃ j : Nat, fr <= j /\ j <= s.size /\ ix = .int .i64 (j : Int) /\ Hid (c ∉ (s.data.toList.take j).drop fr) /\ wr = w)
  (fun ix _ => s.size - (intOf ix).toNat)
 case atStart => exact ⟨fr, Nat.le_refl _, hf, rfl, H_ (by rw [List.drop_eq_nil_of_le (by rw [List.length_take]; omega)]; simp), rfl⟩
 case round =>
  obtain ⟨j, hfj, hj, rfl, hn, rfl⟩ := hrel
  by_cases hlt : j < s.size
  ·have hlt' : (j : Int) < s.size := by omega
   have hj' : (j : Int) <= 2000 := by omega
   obtain ⟨y, hy⟩ : ∃ y, s[j] = y := ⟨_, rfl⟩
   have hll : j < s.data.toList.length := by rw [Array.length_toList]; exact hlt
   have hyl : s.data.toList[j] = y := hy
   have hbq := beq_int y c
   have hsn : c ≠ y -> c ∉ (s.data.toList.take (j + 1)).drop fr := fun hne hm => by
    rw [List.take_succ_eq_append_getElem hll, List.drop_append_of_le_length (by rw [List.length_take]; omega)] at hm
    rcases List.mem_append.1 hm with hm | hm
    ·exact un hn hm
    ·simp at hm
     exact hne (hm.trans hy)
   by_cases he : y = c
   ·have hfa := fnd_at hfj hll (hyl.trans he) (un hn)
    rw [un Hr] at hfa
    subst hfa
    rw [decide_eq_true he] at hbq
    clear hsn hyl hll hn he
    go_wp2
    go_ret
    exact ⟨rfl, rfl⟩
   ·have hn2 := H_ (hsn (fun e => he e.symm))
    rw [decide_eq_false he] at hbq
    clear hsn hyl hll hn he
    go_wp2
    go_roundw
    case rel => exact ⟨j + 1, by omega, by omega, by simp, hn2, by first | rfl | trivial⟩
    case measure => simp [intOf]; omega
  ·have hge : ¬ (j : Int) < s.size := by omega
   have hfn : fnd c fr s.data.toList = -1 := fnd_no (by
    have := un hn
    rwa [List.take_of_length_le (by rw [Array.length_toList]; show s.size <= j; omega)] at this)
   rw [un Hr] at hfn
   subst hfn
   clear hn
   go_wp2
   go_ret
   exact ⟨rfl, rfl⟩
end Go.Proofs.YtjhnblgamodekaaGreatDoor.F
