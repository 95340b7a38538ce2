/- Several texts in one: GCond, FRd6, FRd7, FGrow, FRd8, FApd, GRdA. Each says what it proves, and its conditions. -/
import Derived.Test.YtmenllnokgjdlaaGreatDoorG44
set_option linter.unusedSimpArgs false
set_option maxHeartbeats 4000000
set_option maxRecDepth 100000
/-
 What fber.condition answers. Conditions: tags are numbers of the machine, data have at most 2000 bytes; the package-level variables hold what the program's text lays.
-/
namespace Go.Proofs.YtmenllnokgjdlaaGreatDoor.G
open Go Go.RowKit Go.Shelf Gp
open D (H_ un)
open F (At FNode box6 box1 set6 set6_blk set6_but zfd)
open Fp (Fl fitF)
open Tv (Tr)
attribute [local go_sem] Oper.semAt_some
theorem right_leaf {n : Nat} {f : Fl (n + 1)} (h : Fp.ls f = []) : Fp.right (n + 1) 6 f = fitF f := by
 rw [Fp.right, h]
 simp
theorem finC {b : Nat} {V : World} {tmps : Array Value} {d : FD} {u : Value} {R : Ending -> World -> Prop} (h0 : V.heap[b]? = some (.cells (F.Fd.cs d) 25 (0, 0)))
  (t4 : tmps.getD 4 undef = .pointer (some ⟨b, 0, none⟩)) (t5 : tmps.getD 5 undef = u) (hp : R (.returned (.tuple #[F.Fd.val d, u])) V) :
  bodyPost Tryz.prog Tryz.f123 R Exit.ret { tmps, defers := [] } V := by
 refine ⟨rfl, .tuple #[F.Fd.val d, u], ?_, hp⟩
 obtain ⟨⟨c0, c1, c2, c3, c4, c5⟩, _⟩ := box6 h0
 have t4' : tmps[4]?.getD undef = .pointer (some ⟨b, 0, none⟩) := by simpa using t4
 have t5' : tmps[5]?.getD undef = u := by simpa using t5
 simp [results, Tryz.results123, go_sem, t4', t5', c0, c1, c2, c3, c4, c5]
theorem cond_any {n : Nat} (k : Int) (T : Tr (n + 1)) (A : Ad) (w : World) (p : Nat -> Prop) (v : Value) (g : Glob A w) (hN : Node (n + 1) w p v T) (hok : okN (n + 1) T) (hn : n <= 97) :
  Calls Tryz.prog 123 #[.int .i64 k, v] w (AskPost n A (Gp.cond k T) w) := by
 have hN0 := hN
 obtain ⟨a, cap, rfl, _, _, _⟩ := hN0.shape
 have hb0 : Below w.heap.size w ((w.alloc (.cells #[.int .i64 (Tv.tag T), .string (Tv.dat T), .slice a (Tv.kids T).length cap] 28)).alloc (fobj zfd)) := ((Below.refl _ _).alloc (Nat.le_refl _) _).alloc (by simp) _
 have q0 : ((w.alloc (.cells #[.int .i64 (Tv.tag T), .string (Tv.dat T), .slice a (Tv.kids T).length cap] 28)).alloc (fobj zfd)).heap[w.heap.size]? = some (.cells #[.int .i64 (Tv.tag T), .string (Tv.dat T), .slice a (Tv.kids T).length cap] 28 (0, 0)) := (Below.heap_alloc _ _ _ (by simp)).trans (World.alloc_heap_new w _)
 have q1 : ((w.alloc (.cells #[.int .i64 (Tv.tag T), .string (Tv.dat T), .slice a (Tv.kids T).length cap] 28)).alloc (fobj zfd)).heap[w.heap.size + 1]? = some (.cells (F.Fd.cs zfd) 25 (0, 0)) := by
  have := World.alloc_heap_new (w.alloc (.cells #[.int .i64 (Tv.tag T), .string (Tv.dat T), .slice a (Tv.kids T).length cap] 28)) (fobj zfd)
  rwa [World.size_alloc] at this
 have HA := H_ (asked_any (m := n) k T A _ p _ (g.next hb0) (hN.below hb0) hok)
 obtain ⟨⟨x0, x1, x2⟩, _⟩ := cells3 q0
 dsimp only [fobj, F.Fd.obj, F.Fd.cs, zfd] at x0 x1 x2
 have HB := H_ hb0
 have HQ := H_ (And.intro q0 q1)
 have HG := H_ g
 have HN := H_ hN
 obtain ⟨O, hO⟩ : ∃ O, O = (Gp.cond k T : Option (Fl (n + 1))) := ⟨_, rfl⟩
 rw [<- hO]
 have HO := H_ hO
 clear g hN hN0 hb0 q0 q1 hok hO
 go_enter Tryz.func123, Tryz.ntmps123
 go_wp2_with fail
 refine (un HA).mono ?_
 rintro e w1 ⟨hb, hp⟩
 have hB1 := (un HB).trans (hb.mono (un HB).size)
 have hq0 := (hb.block _ (Array.getElem?_eq_some_iff.1 (un HQ).1).1).trans (un HQ).1
 have hq1 := (hb.block _ (Array.getElem?_eq_some_iff.1 (un HQ).2).1).trans (un HQ).2
 have hz1 : w.heap.size + 2 <= w1.heap.size := by have := hb.size; simp at this; omega
 cases ha : (asked k T : Option (Fl (n + 1))) with
 | none =>
  rw [ha] at hp
  obtain ⟨⟨dk, da, dv, dsa, dsn, dsc, df, dla, dln, dlc⟩, Ty, y, rfl, hE⟩ := hp
  obtain rfl : O = none := by rw [un HO]; unfold Gp.cond; rw [ha]
  have hB2 : ∀ o, Below w.heap.size w (w1.alloc o) := fun o => hB1.alloc hB1.size _
  have hq2 : ∀ o, (w1.alloc o).heap[w.heap.size + 1]? = _ := fun o => (Below.heap_alloc w1 o _ (Array.getElem?_eq_some_iff.1 hq1).1).trans hq1
  obtain ⟨⟨c0, c1, c2, c3, c4, c5⟩, g0, g1, g2, g3, g4, g5⟩ := box6 (hq2 (.cells #[.int .i64 dk, .string da, .string dv, .slice dsa dsn dsc, .string df, .slice dla dln dlc] 25))
  dsimp only [zfd] at c0 c1 c2 c3 c4 c5
  have HZ := H_ (And.intro (hB2 (.cells #[.int .i64 dk, .string da, .string dv, .slice dsa dsn dsc, .string df, .slice dla dln dlc] 25)) (hq2 (.cells #[.int .i64 dk, .string da, .string dv, .slice dsa dsn dsc, .string df, .slice dla dln dlc] 25)))
  have HE := H_ hE
  clear hB1 hq0 hq1 hb HB HQ HA HG hE hB2 hq2 ha x0 x1 x2
  go_wp2
  obtain ⟨hB2, hq2⟩ := un HZ
  change bodyPost _ _ _ _ _ (set6 (w1.alloc (.cells #[.int .i64 dk, .string da, .string dv, .slice dsa dsn dsc, .string df, .slice dla dln dlc] 25)) (w.heap.size + 1) zfd)
  generalize w1.alloc (.cells #[.int .i64 dk, .string da, .string dv, .slice dsa dsn dsc, .string df, .slice dla dln dlc] 25) = W at *
  exact finC (set6_blk hq2 zfd) rfl rfl ⟨below_set6 hB2 (Nat.le_succ _) zfd, _, _, _, rfl, un HE⟩
 | some f =>
  rw [ha] at hp
  obtain ⟨d, rfl, hF⟩ := hp
  obtain ⟨hls, -⟩ := asked_ls ha
  have hal := fun o => (Below.refl w1.heap.size w1).alloc (Nat.le_refl _) o
  have hB2 : Below w.heap.size w (w1.alloc (fobj d)) := hB1.alloc hB1.size _
  have HBd := H_ (build_any n f A (w1.alloc (fobj d)) _ d ((un HG).next hB2) (hF.below (hal _)) (by omega))
  have hf2 : (w1.alloc (fobj d)).heap[w1.heap.size]? = some (.cells (F.Fd.cs d) 25 (0, 0)) := World.alloc_heap_new w1 _
  have hq02 := (Below.heap_alloc w1 (fobj d) _ (Array.getElem?_eq_some_iff.1 hq0).1).trans hq0
  have hq12 := (Below.heap_alloc w1 (fobj d) _ (Array.getElem?_eq_some_iff.1 hq1).1).trans hq1
  have HZ := H_ (And.intro hB2 (And.intro hf2 (And.intro hq02 (And.intro hq12 (hF.below (hal (fobj d)))))))
  obtain ⟨⟨y0, y1, y2, y3, y4, y5⟩, _⟩ := box6 hf2
  have hsz1 : (w1.alloc (fobj d)).heap.size = w1.heap.size + 1 := by simp
  have hO : O = if fitF f = true /\ Tv.same (n + 3) (tree (n + 1) f) (up2 (n + 1) T) = true then some f else none := by rw [un HO]; unfold Gp.cond; rw [ha]
  have HO' := H_ hO
  obtain ⟨dk, da, dv, dsa, dsn, dsc, df, dla, dln, dlc⟩ := d
  dsimp only [fobj, F.Fd.obj, F.Fd.cs] at y0 y1 y2 y3 y4 y5
  clear hB1 hq0 hq1 hb HB HQ HA hal hB2 hf2 hq02 hq12 hF ha x0 x1 x2 hO HO
  go_wp2_with fail
  refine (un HBd).mono ?_
  rintro e w2 ⟨hb, hp⟩
  obtain ⟨hB2, hf2, hq02, hq12, hF⟩ := un HZ
  have hB3 := hB2.trans (hb.mono hB2.size)
  have hf3 := (hb.block _ (Array.getElem?_eq_some_iff.1 hf2).1).trans hf2
  have hq03 := (hb.block _ (Array.getElem?_eq_some_iff.1 hq02).1).trans hq02
  have hq13 := (hb.block _ (Array.getElem?_eq_some_iff.1 hq12).1).trans hq12
  have hF3 := hF.below hb
  have hlt3 := (Array.getElem?_eq_some_iff.1 hf3).1
  have n1 : ¬ w1.heap.size = w.heap.size + 1 := by omega
  have n2 : ¬ w.heap.size + 1 = w1.heap.size := by omega
  rw [right_leaf hls] at hp
  clear hB2 hf2 hq02 hq12 hF HZ HBd y0 y1 y2 y3 y4 y5
  cases hr : fitF f with
  | false =>
   rw [hr, if_neg (by simp)] at hp
   obtain ⟨Ty, y, rfl, hE⟩ := hp
   obtain rfl : O = none := by rw [un HO', if_neg (fun h => by rw [hr] at h; cases h.1)]
   have hB4 : Below w.heap.size w (w2.alloc znObj) := hB3.alloc hB3.size _
   have hf4 := (Below.heap_alloc w2 znObj _ hlt3).trans hf3
   have hq4 := (Below.heap_alloc w2 znObj _ (Array.getElem?_eq_some_iff.1 hq13).1).trans hq13
   obtain ⟨⟨c0, c1, c2, c3, c4, c5⟩, g0, g1, g2, g3, g4, g5⟩ := box6 hq4
   obtain ⟨⟨y0, y1, y2, y3, y4, y5⟩, _⟩ := box6 hf4
   dsimp only [zfd, fobj, F.Fd.obj, F.Fd.cs] at c0 c1 c2 c3 c4 c5 y0 y1 y2 y3 y4 y5
   have HZ := H_ (And.intro hB4 (And.intro hq4 hE))
   clear hb hB3 hf3 hq03 hq13 hF3 hr HO' hB4 hf4 hq4 hE HG
   go_wp2
   obtain ⟨hB4, hq4, hE⟩ := un HZ
   change bodyPost _ _ _ _ _ (set6 (w2.alloc znObj) (w.heap.size + 1) ⟨dk, da, dv, dsa, dsn, dsc, df, dla, dln, dlc⟩)
   generalize w2.alloc znObj = W at *
   exact finC (set6_blk hq4 ⟨dk, da, dv, dsa, dsn, dsc, df, dla, dln, dlc⟩) rfl rfl ⟨below_set6 hB4 (Nat.le_succ _) ⟨dk, da, dv, dsa, dsn, dsc, df, dla, dln, dlc⟩, _, _, _, rfl, hE⟩
  | true =>
   rw [hr, if_pos rfl] at hp
   obtain ⟨ct, cs, ca, cn, cc, rfl, hNd⟩ := hp
   obtain ⟨W4, hW4⟩ : ∃ W4, W4 = w2.alloc (.cells #[.int .i64 ct, .string cs, .slice ca cn cc] 28) := ⟨_, rfl⟩
   have hal4 : Below w2.heap.size w2 W4 := by rw [hW4]; exact (Below.refl _ _).alloc (Nat.le_refl _) _
   have hB4 := hB3.trans (hal4.mono hB3.size)
   have hf4 := (hal4.block _ hlt3).trans hf3
   have hq04 := (hal4.block _ (Array.getElem?_eq_some_iff.1 hq03).1).trans hq03
   have hq4 := (hal4.block _ (Array.getElem?_eq_some_iff.1 hq13).1).trans hq13
   have hm4 : W4.heap[w2.heap.size]? = some (.cells #[.int .i64 ct, .string cs, .slice ca cn cc] 28 (0, 0)) := by rw [hW4]; exact World.alloc_heap_new _ _
   have hF4 := hF3.below hal4
   have HS := H_ (same_any (n + 3) (tree (n + 1) f) (up2 (n + 1) T) W4 _ _ _ _ (hNd.below hal4) (node_up2 ((un HN).below hB4)))
   obtain ⟨⟨z0, z1, z2⟩, _⟩ := cells3 hm4
   obtain ⟨⟨x0, x1, x2⟩, _⟩ := cells3 hq04
   have HZ := H_ (And.intro hB4 (And.intro hf4 (And.intro hq4 hF4)))
   rw [hW4] at z0 z1 z2 x0 x1 x2
   rw [hW4] at HS HZ
   have hO := un HO'
   rw [hr] at hO
   have HO := H_ hO
   clear hb hB3 hf3 hq03 hq13 hF3 hr HO' hB4 hf4 hq4 hq04 hm4 hF4 hW4 hal4 hNd hO
   generalize hsb : Tv.same (n + 3) (tree (n + 1) f) (up2 (n + 1) T) = sb at *
   clear hsb
   cases sb with
   | true =>
    go_wp2_with fail
    refine (un HS).mono ?_
    rintro e w5 ⟨rfl, hb⟩
    obtain ⟨hB4, hf4, hq4, hF4⟩ := un HZ
    have hB5 := hB4.trans (hb.mono hB4.size)
    have hf5 := (hb.block _ (Array.getElem?_eq_some_iff.1 hf4).1).trans hf4
    have hq5 := (hb.block _ (Array.getElem?_eq_some_iff.1 hq4).1).trans hq4
    have hF5 := hF4.below hb
    obtain ⟨⟨c0, c1, c2, c3, c4, c5⟩, g0, g1, g2, g3, g4, g5⟩ := box6 hq5
    obtain ⟨⟨y0, y1, y2, y3, y4, y5⟩, _⟩ := box6 hf5
    dsimp only [zfd, fobj, F.Fd.obj, F.Fd.cs] at c0 c1 c2 c3 c4 c5 y0 y1 y2 y3 y4 y5
    have HY := H_ (And.intro hB5 (And.intro hq5 hF5))
    clear hB4 hf4 hq4 hF4 hB5 hf5 hq5 hF5 hb HZ HS z0 z1 z2 x0 x1 x2 HG
    go_wp2
    obtain ⟨hB5, hq5, hF5⟩ := un HY
    obtain rfl : O = some f := by have := un HO; simpa using this
    change bodyPost _ _ _ _ _ (set6 w5 (w.heap.size + 1) ⟨dk, da, dv, dsa, dsn, dsc, df, dla, dln, dlc⟩)
    have hbt := set6_but w5 (w.heap.size + 1) ⟨dk, da, dv, dsa, dsn, dsc, df, dla, dln, dlc⟩
    exact finC (set6_blk hq5 ⟨dk, da, dv, dsa, dsn, dsc, df, dla, dln, dlc⟩) rfl rfl ⟨below_set6 hB5 (Nat.le_succ _) ⟨dk, da, dv, dsa, dsn, dsc, df, dla, dln, dlc⟩, _, rfl, (hF5.of fun b h1 h2 => hbt.block b h2 (by simp only [World.size_alloc] at h1; omega)).imp fun b h1 _ => by simp only [World.size_alloc] at h1; omega⟩
   | false =>
    go_wp2_with fail
    refine (un HS).mono ?_
    rintro e w5 ⟨rfl, hb⟩
    obtain ⟨hB4, hf4, hq4, hF4⟩ := un HZ
    have hB5 := hB4.trans (hb.mono hB4.size)
    have hf5 := (hb.block _ (Array.getElem?_eq_some_iff.1 hf4).1).trans hf4
    have hq5 := (hb.block _ (Array.getElem?_eq_some_iff.1 hq4).1).trans hq4
    have gv := ((un HG).next hB5).vtr
    obtain ⟨⟨c0, c1, c2, c3, c4, c5⟩, g0, g1, g2, g3, g4, g5⟩ := box6 hq5
    obtain ⟨⟨y0, y1, y2, y3, y4, y5⟩, _⟩ := box6 hf5
    dsimp only [zfd, fobj, F.Fd.obj, F.Fd.cs] at c0 c1 c2 c3 c4 c5 y0 y1 y2 y3 y4 y5
    have HY := H_ (And.intro hB5 hq5)
    clear hB4 hf4 hq4 hF4 hB5 hf5 hq5 hb HZ HS z0 z1 z2 x0 x1 x2 HG
    go_wp2
    obtain ⟨hB5, hq5⟩ := un HY
    obtain rfl : O = none := by have := un HO; simpa using this
    change bodyPost _ _ _ _ _ (set6 w5 (w.heap.size + 1) ⟨dk, da, dv, dsa, dsn, dsc, df, dla, dln, dlc⟩)
    exact finC (set6_blk hq5 ⟨dk, da, dv, dsa, dsn, dsc, df, dla, dln, dlc⟩) rfl rfl ⟨below_set6 hB5 (Nat.le_succ _) ⟨dk, da, dv, dsa, dsn, dsc, df, dla, dln, dlc⟩, _, _, _, rfl, IsErr.sen (.inr (.inr (.inr rfl)))⟩
end Go.Proofs.YtmenllnokgjdlaaGreatDoor.G
/-
 The closure that filter defers. Conditions: the package-level variables hold what the program's text lays.
-/
namespace Go.Proofs.YtmenllnokgjdlaaGreatDoor.F
open Go Go.RowKit Go.Shelf Fp
open D (H_ un ext_list)
attribute [local go_sem] Oper.semAt_some
end Go.Proofs.YtmenllnokgjdlaaGreatDoor.F
/-
 The iterator of reader.filters. Conditions: the reader's filter answers as it should at one depth more.
-/
namespace Go.Proofs.YtmenllnokgjdlaaGreatDoor.F
open Go Go.RowKit Go.Shelf Fp
open D (H_ un ext_list)
attribute [local go_sem] Oper.semAt_some
structure Kz (A : Ad) (w0 : World) (R kb : Nat) (s : ByteArray) (bR bD : Nat) (X Y : World) : Prop where
 size : X.heap.size <= Y.heap.size
 env : ∀ p, Env A w0 R kb s p X -> Env A w0 R kb s p Y
 r : bR < X.heap.size -> Y.heap[bR]? = X.heap[bR]?
 d : bD < X.heap.size -> Y.heap[bD]? = X.heap[bD]?
theorem Kz.trans {A : Ad} {w0 : World} {R kb : Nat} {s : ByteArray} {bR bD : Nat} {X Y Z : World} (h : Kz A w0 R kb s bR bD X Y) (k : Kz A w0 R kb s bR bD Y Z) : Kz A w0 R kb s bR bD X Z :=
 ⟨Nat.le_trans h.size k.size, fun p e => k.env p (h.env p e), fun hl => (k.r (Nat.lt_of_lt_of_le hl h.size)).trans (h.r hl), fun hl => (k.d (Nat.lt_of_lt_of_le hl h.size)).trans (h.d hl)⟩
end Go.Proofs.YtmenllnokgjdlaaGreatDoor.F
/-
 A list of filters that grows by append: what lies in memory. Conditions: none.
-/
namespace Go.Proofs.YtmenllnokgjdlaaGreatDoor.F
open Go Go.RowKit Go.Shelf Fp
open D (H_ un ext_list)
def flat6 (vs : List Fd) : List Value := vs.flatMap fun d => d.cs.toList
theorem flat6_len : ∀ vs : List Fd, (flat6 vs).length = vs.length * 6
 | [] => rfl
 | d :: vs => by
  have := flat6_len vs
  show (d.cs.toList ++ flat6 vs).length = (vs.length + 1) * 6
  rw [List.length_append, this, show d.cs.toList.length = 6 from rfl]
  omega
theorem flat6_get : ∀ (vs : List Fd) (i : Nat) (d : Fd), vs[i]? = some d -> ∀ (j : Nat) u, d.cs.toList[j]? = some u -> (flat6 vs)[i * 6 + j]? = some u
 | [], i, d, h, _, _, _ => by simp at h
 | x :: vs, 0, d, h, j, u, hj => by
  simp at h
  subst h
  have hlt : j < x.cs.toList.length := (List.getElem?_eq_some_iff.1 hj).1
  show (x.cs.toList ++ flat6 vs)[0 * 6 + j]? = _
  rw [Nat.zero_mul, Nat.zero_add, List.getElem?_append_left hlt]
  exact hj
 | x :: vs, i + 1, d, h, j, u, hj => by
  have ih := flat6_get vs i d (by simpa using h) j u hj
  show (x.cs.toList ++ flat6 vs)[(i + 1) * 6 + j]? = _
  have hl : x.cs.toList.length = 6 := rfl
  rw [List.getElem?_append_right (by omega), hl, show (i + 1) * 6 + j - 6 = i * 6 + j by omega]
  exact ih
abbrev set6o (W : World) (g o : Nat) (d : Fd) : World := (((((W.setCell ⟨g, o, none⟩ (.int .i64 d.k)).setCell ⟨g, o + 1, none⟩ (.string d.a)).setCell ⟨g, o + 2, none⟩ (.string d.v)).setCell ⟨g, o + 3, none⟩ (.slice d.sa d.sn d.sc)).setCell ⟨g, o + 4, none⟩ (.string d.f)).setCell ⟨g, o + 5, none⟩ (.slice d.la d.ln d.lc)
theorem set6o_but (W : World) (g o : Nat) (d : Fd) : But g W (set6o W g o d) := ((((((But.refl g W).setCell _ _).setCell _ _).setCell _ _).setCell _ _).setCell _ _).setCell _ _
theorem set6_list (xs : List Value) (d e : Fd) : ((((((xs ++ e.cs.toList).set xs.length (.int .i64 d.k)).set (xs.length + 1) (.string d.a)).set (xs.length + 2) (.string d.v)).set (xs.length + 3) (.slice d.sa d.sn d.sc)).set (xs.length + 4) (.string d.f)).set (xs.length + 5) (.slice d.la d.ln d.lc) = xs ++ d.cs.toList := by
 induction xs with
 | nil => rfl
 | cons x xs ih =>
  simp only [List.cons_append, List.length_cons]
  show x :: (((((((xs ++ e.cs.toList).set xs.length _).set (xs.length + 1) _).set (xs.length + 2) _).set (xs.length + 3) _).set (xs.length + 4) _).set (xs.length + 5) _) = _
  rw [ih]
theorem set6o_own {W : World} {base g n cap : Nat} {xs : List Value} (d e : Fd) (h : W.ownsRow base 25 6 (.slice (some ⟨g, 0, none⟩) (n + 1) cap) (n + 1) (xs ++ e.cs.toList)) (hx : xs.length = n * 6) :
  (set6o W g (n * 6) d).ownsRow base 25 6 (.slice (some ⟨g, 0, none⟩) (n + 1) cap) (n + 1) (xs ++ d.cs.toList) := by
 have h1 := ((((((h.stored (n * 6) (.int .i64 d.k)).1.stored (n * 6 + 1) (.string d.a)).1.stored (n * 6 + 2) (.string d.v)).1.stored (n * 6 + 3) (.slice d.sa d.sn d.sc)).1.stored (n * 6 + 4) (.string d.f)).1.stored (n * 6 + 5) (.slice d.la d.ln d.lc)).1
 rw [<- hx, set6_list] at h1
 rw [<- hx]
 exact h1
def GrowF (n : Nat) (W : World) (base : Nat) (sl : Value) (pre : List (Fl n)) : Prop :=
 ∃ vs : List Fd, vs.length = pre.length /\ W.ownsRow base 25 6 sl pre.length (flat6 vs) /\
  ∀ (i : Nat) v F, vs[i]? = some v -> pre[i]? = some F -> FNode n W (fun b => base <= b /\ some b ≠ sl.ownBlock) v F
theorem GrowF.nil (n : Nat) (W : World) (base : Nat) : GrowF n W base (.slice none 0 0) [] := ⟨[], rfl, World.ownsRow_nil W base _ 6, fun i v F h => by simp at h⟩
theorem GrowF.of {n : Nat} {W W' : World} {base : Nat} {sl : Value} {pre : List (Fl n)} (h : GrowF n W base sl pre) (hb : ∀ b, base <= b -> b < W.heap.size -> W'.heap[b]? = W.heap[b]?) : GrowF n W' base sl pre := by
 obtain ⟨vs, hl, ho, hN⟩ := h
 refine ⟨vs, hl, ⟨ho.1, ?_⟩, fun i v F hv hF => (hN i v F hv hF).of fun b hp hlt => hb b hp.1 hlt⟩
 rcases ho.2 with h | ⟨g, cap, cur, e, hg, hc, h⟩
 ·exact .inl h
 ·exact .inr ⟨g, cap, cur, e, hg, (hb g hg (Array.getElem?_eq_some_iff.1 hc).1).trans hc, h⟩
theorem GrowF.lt {n : Nat} {W : World} {base : Nat} {sl : Value} {pre : List (Fl n)} (h : GrowF n W base sl pre) {g : Nat} (hg : sl.ownBlock = some g) : base <= g /\ g < W.heap.size := by
 obtain ⟨vs, hl, ho, hN⟩ := h
 exact ho.lt g hg
theorem growF_snoc {n : Nat} {W W5 : World} {base g cap : Nat} {sl : Value} {pre : List (Fl n)} {vs : List Fd} {d : Fd} {F : Fl n} (hvl : vs.length = pre.length)
  (hN : ∀ (i : Nat) v F, vs[i]? = some v -> pre[i]? = some F -> FNode n W (fun b => base <= b /\ some b ≠ sl.ownBlock) v F)
  (hown : W5.ownsRow base 25 6 (.slice (some ⟨g, 0, none⟩) (pre.length + 1) cap) (pre.length + 1) (flat6 vs ++ d.cs.toList))
  (hsame : ∀ b, base <= b -> b < W.heap.size -> some b ≠ sl.ownBlock -> b ≠ g -> W5.heap[b]? = W.heap[b]?) (hg : sl.ownBlock = some g \/ W.heap.size <= g)
  (hnew : FNode n W (fun b => base <= b /\ some b ≠ sl.ownBlock) d F) :
  GrowF n W5 base (.slice (some ⟨g, 0, none⟩) (pre.length + 1) cap) (pre ++ [F]) := by
 have hG : ∀ b, base <= b /\ some b ≠ sl.ownBlock -> b < W.heap.size -> b ≠ g := fun b hb hl e => by
  rcases hg with hg | hg
  ·exact hb.2 (by rw [hg, e])
  ·omega
 have step : ∀ {v : Fd} {F : Fl n}, FNode n W (fun b => base <= b /\ some b ≠ sl.ownBlock) v F -> FNode n W5 (fun b => base <= b /\ some b ≠ (Value.slice (some ⟨g, 0, none⟩) (pre.length + 1) cap).ownBlock) v F := fun h =>
  (h.imp (q := fun b => (base <= b /\ some b ≠ sl.ownBlock) /\ b ≠ g) (fun b hb hl => ⟨hb, hG b hb hl⟩)).of (fun b hb hl => hsame b hb.1.1 hl hb.1.2 hb.2) |>.imp (fun b hb _ => ⟨hb.1.1, fun e => hb.2 (by simpa [Value.ownBlock] using e)⟩)
 refine ⟨vs ++ [d], by simp [hvl], by simpa [List.flatMap_append, flat6] using hown, fun i v F' hv hF => ?_⟩
 by_cases hi : i < pre.length
 ·rw [List.getElem?_append_left (by omega)] at hv hF
  exact step (hN i v F' hv hF)
 ·have hiv : i = pre.length := by
   have := (List.getElem?_eq_some_iff.1 hF).1
   simp at this; omega
  subst hiv
  rw [List.getElem?_append_right (by omega)] at hv hF
  simp [hvl] at hv hF
  subst hv; subst hF
  exact step hnew
theorem GrowF.node {n : Nat} {W : World} {base : Nat} {sl : Value} {pre : List (Fl n)} (h : GrowF n W base sl pre) (k : Int) (hp : pre.length <= 1000) :
  ∃ la lc, sl = .slice la pre.length lc /\ FNode (n + 1) W (fun b => base <= b) ⟨k, ⟨#[]⟩, ⟨#[]⟩, none, 0, 0, ⟨#[]⟩, la, pre.length, lc⟩ (mk k ⟨#[]⟩ ⟨#[]⟩ [] ⟨#[]⟩ pre) := by
 obtain ⟨vs, hl, ho, hN⟩ := h
 have hI : ∀ la lc, Is ⟨k, ⟨#[]⟩, ⟨#[]⟩, none, 0, 0, ⟨#[]⟩, la, pre.length, lc⟩ (mk k ⟨#[]⟩ ⟨#[]⟩ [] ⟨#[]⟩ pre) := fun la lc => ⟨rfl, rfl, rfl, rfl, rfl, rfl⟩
 have hS : Sm (mk k ⟨#[]⟩ ⟨#[]⟩ [] ⟨#[]⟩ pre) := ⟨Nat.zero_le _, Nat.zero_le _, Nat.zero_le _, Nat.zero_le _, (fun x hx => by cases hx), hp⟩
 rcases ho.2 with ⟨rfl, h0⟩ | ⟨g, cap, cur, rfl, hg, hc, _⟩
 ·have hnil : pre = [] := List.length_eq_zero_iff.1 h0
  exact ⟨none, 0, by rw [h0], hI _ _, hS, .inl rfl, .inl hnil⟩
 ·refine ⟨_, cap, rfl, hI _ _, hS, .inl rfl, .inr ⟨g, 0, rfl, hg, fun i F hF => ?_⟩⟩
  rw [ls_mk] at hF
  have hi := (List.getElem?_eq_some_iff.1 hF).1
  have hv : vs[i]? = some vs[i] := List.getElem?_eq_getElem (by omega)
  have hcl : ∀ (j : Nat) u, vs[i].cs.toList[j]? = some u -> W.cell? ⟨g, 0 + i * 6 + j, none⟩ = some u := fun j u hj => by
   have := ho.cells (g := g) rfl (i * 6 + j) u (flat6_get vs i _ hv j u hj)
   rw [Addr.add_lit] at this
   rw [Nat.add_assoc]
   exact this
  exact ⟨vs[i], ⟨hcl 0 _ rfl, hcl 1 _ rfl, hcl 2 _ rfl, hcl 3 _ rfl, hcl 4 _ rfl, hcl 5 _ rfl⟩, (hN i _ F hv hF).imp fun b hb _ => hb.1⟩
end Go.Proofs.YtmenllnokgjdlaaGreatDoor.F
/-
 The reader's body where no set's sign stands; reader.filters. Conditions: the package-level variables hold what the program's text lays; what is read of values at a time has at most 1000 bytes.
-/
namespace Go.Proofs.YtmenllnokgjdlaaGreatDoor.F
open Go Go.RowKit Go.Shelf Fp
open D (H_ un ext_list)
attribute [local go_sem] Oper.semAt_some
end Go.Proofs.YtmenllnokgjdlaaGreatDoor.F
/-
 What the body's loop keeps at a set's sign, and what an append in it leaves. Conditions: none.
-/
namespace Go.Proofs.YtmenllnokgjdlaaGreatDoor.F
open Go Go.RowKit Go.Shelf Fp
open D (H_ un ext_list)
theorem infoF : ∃ i, Tryz.prog.info? 25 = some i /\ i.zero = some zfd.val /\ i.size = 6 /\ i.bytes = 104 := ⟨Tryz.t25, by kernel_rfl, by kernel_rfl, by kernel_rfl, by kernel_rfl⟩
structure Bin (k : Nat) (w : World) (R N : Nat) (kk : Int) (fs : List (Fl (k + 2))) (la : Option Addr) (lc : Nat) (W : World) : Prop where
 b0 : W.heap[w.heap.size]? = some (.cells zfd.cs 25 (0, 0))
 f : W.heap[N]? = some (.cells (Fd.cs ⟨kk, ⟨#[]⟩, ⟨#[]⟩, none, 0, 0, ⟨#[]⟩, la, fs.length, lc⟩) 25 (0, 0))
 wr : W.heap[N + 1]? = some (.cells #[.nilIface] 52 (0, 0))
 gr : GrowF (k + 2) W (N + 6) (.slice la fs.length lc) fs
 bel : But R w W
 len : fs.length <= 8
def Fr (N : Nat) (W : World) (b : Nat) : Prop := N + 6 <= b /\ N < W.heap.size /\ ∀ a n c, W.cell? ⟨N, 5, none⟩ = some (.slice (some a) n c) -> a.block ≠ b
theorem Bin.own {k : Nat} {w : World} {R N : Nat} {kk : Int} {fs : List (Fl (k + 2))} {la : Option Addr} {lc : Nat} {W : World} (h : Bin k w R N kk fs la lc W) {g : Nat} (hg : (Value.slice la fs.length lc).ownBlock = some g) : N + 6 <= g /\ g < W.heap.size := h.gr.lt hg
theorem Bin.fr {k : Nat} {w : World} {R N : Nat} {kk : Int} {fs : List (Fl (k + 2))} {la : Option Addr} {lc : Nat} {W : World} (h : Bin k w R N kk fs la lc W) (hz : N + 6 <= W.heap.size) (hR : R ≠ N) (Y : World) (b : Nat) (hb : But R W Y) (hl : W.heap.size <= b) : Fr N Y b := by
 refine ⟨by omega, by have := hb.size; omega, fun a n c hc => ?_⟩
 have h5 : Y.cell? ⟨N, 5, none⟩ = some (.slice la fs.length lc) := (World.cell?_of_block (w := W) (a := ⟨N, 5, none⟩) (hb.block N (by omega) (Ne.symm hR))).trans (box6 h.f).1.2.2.2.2.2
 rw [h5] at hc
 cases hc
 have := h.own (g := a.block) rfl
 omega
theorem apd_cells {W : World} {base g n cap : Nat} {vs : List Fd} (hvl : vs.length = n) (h : W.ownsRow base 25 6 (.slice (some ⟨g, 0, none⟩) (n + 1) cap) (n + 1) (flat6 vs ++ zfd.cs.toList)) :
  W.cell? ⟨g, n * 6, none⟩ = some (.int .i64 0) /\ W.cell? ⟨g, n * 6 + 1, none⟩ = some (.string ⟨#[]⟩) /\ W.cell? ⟨g, n * 6 + 2, none⟩ = some (.string ⟨#[]⟩) /\ W.cell? ⟨g, n * 6 + 3, none⟩ = some (.slice none 0 0) /\ W.cell? ⟨g, n * 6 + 4, none⟩ = some (.string ⟨#[]⟩) /\ W.cell? ⟨g, n * 6 + 5, none⟩ = some (.slice none 0 0) := by
 have hl : (flat6 vs).length = n * 6 := by rw [flat6_len, hvl]
 have key : ∀ j, j < 6 -> W.cell? ⟨g, n * 6 + j, none⟩ = zfd.cs.toList[j]? := fun j hj => by
  rw [h.cellAt (n * 6 + j) (by omega), List.getElem?_append_right (by omega), hl, Nat.add_sub_cancel_left]
 exact ⟨key 0 (by omega), key 1 (by omega), key 2 (by omega), key 3 (by omega), key 4 (by omega), key 5 (by omega)⟩
end Go.Proofs.YtmenllnokgjdlaaGreatDoor.F
/-
 The iterator of fber's reader over the filters of some trees, and what a list of them in a box is. Conditions: the reader's filter answers as it should at one level less.
-/
namespace Go.Proofs.YtmenllnokgjdlaaGreatDoor.G
open Go Go.RowKit Go.Shelf Gp
open D (H_ un)
open F (At FNode box6 box1 set6o set6o_but set6o_own GrowF growF_snoc flat6 flat6_len zfd heap_set)
open Fp (Fl fitF)
open Tv (Tr)
attribute [local go_sem] Oper.semAt_some
def RdP (n : Nat) (A : Ad) (o : Option (Fl n)) (w : World) (e : Ending) (w' : World) : Prop := Below w.heap.size w w' /\ match o with
 | some f => ∃ d : FD, e = .returned (.tuple #[F.Fd.val d, .nilIface]) /\ FNode n w' (fun b => w.heap.size <= b) d f
 | none => ∃ (d : FD) (T : TypeId) (y : Value), e = .returned (.tuple #[F.Fd.val d, .iface T y]) /\ IsErr A (.iface T y)
def RdIs (n : Nat) : Prop := ∀ (dp : Nat) (T : Tr n) (A : Ad) (w : World) (p : Nat -> Prop) (v : Value) (B : Nat), Glob A w -> okN n T -> Node n w p v T -> KindsAt w B -> dp <= 8 -> n <= 90 ->
 Calls Tryz.prog 59 #[.agg #[.map (some B)], v, .int .i64 dp] w (RdP n A (rd n dp T) w)
abbrev rbox (B : Nat) : Obj := .cells #[.map (some B)] 91
abbrev kbox (a : Option Addr) (l c : Nat) : Obj := .cells #[.slice a l c] 26
abbrev ibox (d : Int) : Obj := .cells #[.int .i64 d] 3
theorem filters_any (B : Nat) (a : Option Addr) (l c : Nat) (dp : Int) (w : World) :
  Calls Tryz.prog 151 #[.agg #[.map (some B)], .slice a l c, .int .i64 dp] w fun e w' => e = .returned (.func (.func 170) #[] #[.pointer (some ⟨w.heap.size + 1, 0, none⟩), .pointer (some ⟨w.heap.size, 0, none⟩), .pointer (some ⟨w.heap.size + 1 + 1, 0, none⟩)]) /\ w' = ((w.alloc (rbox B)).alloc (kbox a l c)).alloc (ibox dp) := by
 go_enter Tryz.func151, Tryz.ntmps151
 go_wp2
 go_ret
 exact ⟨rfl, rfl⟩
structure Got (n : Nat) where
 d : FD
 er : Value
 o : Option (Fl n)
 lo : Nat
def LsB (lb : Nat) (W : World) (lo : Nat) : Prop := ∀ a nn cc, W.cell? ⟨lb, 0, none⟩ = some (.slice (some a) nn cc) -> a.block < lo
def GotAt {n : Nat} (A : Ad) (m lb : Nat) (x : Got n) (W : World) : Prop := (m <= x.lo /\ lb < W.heap.size /\ LsB lb W x.lo) /\ match x.o with
 | some f => x.er = .nilIface /\ FNode n W (fun b => x.lo <= b) x.d f
 | none => ∃ T y, x.er = .iface T y /\ IsErr A (.iface T y)
def nxG {n : Nat} (c : List (Fl n)) (x : Got n) : List (Fl n) := match x.o with
 | some f => c ++ [f]
 | none => c
def Pre {n : Nat} (dp : Nat) (ks : List (Tr n)) (c : List (Fl n)) : Prop := c.length <= ks.length /\ mpT (rd n dp) (ks.take c.length) = some c
theorem mpT_snoc {α β : Type} {f : α -> Option β} : ∀ (xs : List α) (l : List β) (x : α), mpT f xs = some l -> mpT f (xs ++ [x]) = (f x).map fun y => l ++ [y]
 | [], l, x, h => by
  cases h
  rw [List.nil_append, mpT, mpT]
  cases f x <;> rfl
 | y :: xs, l, x, h => by
  rw [mpT] at h
  cases h1 : f y with
  | none => rw [h1] at h; cases h
  | some a =>
   cases h2 : mpT f xs with
   | none => rw [h1, h2] at h; cases h
   | some b =>
    rw [h1, h2] at h
    cases h
    rw [List.cons_append, mpT, h1, mpT_snoc xs b x h2]
    cases f x <;> rfl
theorem mpT_none {α β : Type} {f : α -> Option β} : ∀ (xs : List α) (x : α), x ∈ xs -> f x = none -> mpT f xs = none
 | y :: xs, x, hx, h => by
  rw [mpT]
  rcases List.mem_cons.1 hx with rfl | h1
  ·rw [h]
  ·rw [mpT_none xs x h1 h]
   cases f y <;> rfl
theorem pre_snoc {n dp : Nat} {ks : List (Tr n)} {c : List (Fl n)} {f : Fl n} (h : Pre dp ks c) (hl : c.length < ks.length) (hf : rd n dp ks[c.length] = some f) : Pre dp ks (c ++ [f]) := by
 refine ⟨by rw [List.length_append, List.length_singleton]; omega, ?_⟩
 rw [List.length_append, List.length_singleton, List.take_succ_eq_append_getElem hl, mpT_snoc _ _ _ h.2, hf]
 rfl
def insd {n : Nat} (most dp : Nat) (ks : List (Tr n)) : Option (List (Fl n)) := match mpT (rd n dp) ks with
 | none => none
 | some l => if l.length = 0 \/ most < l.length then none else some l
theorem insd_stop {n most dp : Nat} {ks : List (Tr n)} {c : List (Fl n)} (hl : c.length < ks.length) (h : rd n dp ks[c.length] = none \/ c.length = most) : insd most dp ks = none := by
 unfold insd
 rcases h with h | h
 ·rw [mpT_none ks _ (List.getElem_mem hl) h]
 ·cases hm : mpT (rd n dp) ks with
  | none => rfl
  | some l =>
   have := (mpT_some hm).1
   simp only
   rw [if_pos (.inr (by omega))]
theorem insd_end {n most dp : Nat} {ks : List (Tr n)} {c : List (Fl n)} (h : Pre dp ks c) (hl : ¬ c.length < ks.length) (hm : c.length <= most) : insd most dp ks = if c.length = 0 then none else some c := by
 have h2 := h.2
 rw [List.take_of_length_le (by omega)] at h2
 unfold insd
 rw [h2]
 simp only
 by_cases h0 : c.length = 0
 ·rw [if_pos (.inl h0), if_pos h0]
 ·rw [if_neg (by omega), if_neg h0]
theorem filters1_any {n : Nat} (IH : RdIs n) (dp : Nat) (hdp : dp <= 8) (hn : n <= 90) (A : Ad) (w0 : World) (p : Nat -> Prop) (t : Int) (dd : ByteArray) (a : Option Addr) (cap : Nat) (T : Tr (n + 1)) (most B bK bR bD lb l m : Nat)
  (g : Glob A w0) (hok : okN (n + 1) T) (hN : Node (n + 1) w0 (fun b => b < w0.heap.size) (.agg #[.int .i64 t, .string dd, .slice a (Tv.kids T).length cap]) T) (hB : KindsAt w0 B)
  (J Jx : List (Fl n) -> World -> Prop) (hJ : ∀ c X Y, Below X.heap.size X Y -> J c X -> J c Y)
  (hJw : ∀ c X, J c X -> Below w0.heap.size w0 X /\ (X.heap[bK]? = some (.cells #[.slice a (Tv.kids T).length cap] 26 (0, 0)) /\ X.heap[bR]? = some (.cells #[.map (some B)] 91 (0, 0)) /\ X.heap[bD]? = some (.cells #[.int .i64 dp] 3 (0, 0))) /\ (m <= X.heap.size /\ lb < X.heap.size /\ LsB lb X X.heap.size))
  (hY : ∀ c (x : Got n) W mm, J c W -> GotAt A m lb x W -> (∃ h : c.length < (Tv.kids T).length, x.o = rd n dp (Tv.kids T)[c.length]) -> YieldAt Fence.wide mm Tryz.prog l #[F.Fd.val x.d, x.er] W fun e W2 => (e = .returned (.bool true) /\ (x.o ≠ none /\ c.length < most) /\ J (nxG c x) W2) \/ (e = .returned (.bool false) /\ (x.o = none \/ c.length = most) /\ Jx (nxG c x) W2))
  (W : World) (h0 : J [] W) :
  CallsIn Fence.wide 6 Tryz.prog 170 #[.func (.yield l) #[] #[], .pointer (some ⟨bK, 0, none⟩), .pointer (some ⟨bR, 0, none⟩), .pointer (some ⟨bD, 0, none⟩)] W fun e W' => (∃ v, e = .returned v) /\
   ((∃ c, Pre dp (Tv.kids T) c /\ ¬ c.length < (Tv.kids T).length /\ J c W') \/ (∃ c, insd most dp (Tv.kids T) = none /\ Jx c W')) := by
 obtain ⟨_, ⟨k1, k2, k3⟩, _⟩ := hJw [] W h0
 have y1 := (box1 k1).1
 have hk4 : ((Tv.kids T).length : Int) <= 4000 := by
  obtain ⟨_, _, _, _, h4, _⟩ := hN.shape
  omega
 have HN := H_ hN
 have HJ := H_ hJ
 have HJw := H_ hJw
 have HY := H_ hY
 have H0 := H_ h0
 have HG := H_ g
 have HB := H_ hB
 have HK := H_ hok
 have HIH := H_ IH
 have HPre := H_ (show Pre dp (Tv.kids T) [] from ⟨Nat.zero_le _, rfl⟩)
 clear hN hJ hJw hY h0 g hB hok IH k1 k2 k3
 refine callsIn_of_wp Tryz.func170 rfl trivial ?_ rfl
 simp only [Tryz.ntmps170, List.size_toArray, List.length_cons, List.length_nil, Nat.reduceAdd, Nat.reduceSub, Array.replicate_succ, Array.replicate_zero, List.push_toArray, List.append_toArray, List.nil_append, List.cons_append]
 gi_wp2
 gi_loopw [11] (fun i wr => ∃ c : List (Fl n), c.length <= (Tv.kids T).length /\ i = .int .i64 (c.length : Int) /\ Hid (J c wr) /\ Hid (Pre dp (Tv.kids T) c)) (fun i _ => (Tv.kids T).length - (intOf i).toNat)
 case atStart => exact ⟨[], Nat.zero_le _, rfl, H0, HPre⟩
 case round =>
  obtain ⟨c, hc, rfl, hj, hpre⟩ := hrel
  clear y1 H0 HPre
  by_cases hlt : c.length < (Tv.kids T).length
  ·obtain ⟨hbw, ⟨k1, k2, k3⟩, hlow⟩ := (un HJw) c wr (un hj)
   have hNw := (un HN).of (W' := wr) (fun b hb _ => hbw.block b hb)
   obtain ⟨a', cap', hv, _, _, hks⟩ := hNw.shape
   injection hv with hv
   have e' := congrArg Array.toList hv
   simp only [List.cons.injEq, Value.slice.injEq, true_and, and_true] at e'
   obtain ⟨-, -, rfl, rfl⟩ := e'
   obtain ⟨g, off, ha, _, tk, dk, ak, lk, ck, q0, q1, q2, hN1⟩ := hks c.length hlt
   have hal := (Below.refl wr.heap.size wr).alloc (Nat.le_refl _) (.cells #[.int .i64 tk, .string dk, .slice ak lk ck] 28)
   have hF := H_ ((un HIH) dp (Tv.kids T)[c.length] A (wr.alloc (.cells #[.int .i64 tk, .string dk, .slice ak lk ck] 28)) _ (.agg #[.int .i64 tk, .string dk, .slice ak lk ck]) B ((un HG).next (hbw.trans (hal.mono hbw.size))) ((un HK).2.2 _ (List.getElem_mem hlt)) (hN1.below hal) ((un HB).below (hbw.trans (hal.mono hbw.size))) hdp hn)
   have hbx := World.alloc_heap_new wr (.cells #[.int .i64 tk, .string dk, .slice ak lk ck] 28)
   obtain ⟨⟨x0, x1, x2⟩, _⟩ := cells3 hbx
   have y2 := (box1 ((Below.heap_alloc wr (.cells #[.int .i64 tk, .string dk, .slice ak lk ck] 28) _ (Array.getElem?_eq_some_iff.1 k2).1).trans k2)).1
   have y3 := (box1 ((Below.heap_alloc wr (.cells #[.int .i64 tk, .string dk, .slice ak lk ck] 28) _ (Array.getElem?_eq_some_iff.1 k3).1).trans k3)).1
   have HZ := H_ (And.intro hal hlow)
   have hlt' : (c.length : Int) < (Tv.kids T).length := by omega
   subst ha
   clear hv hks hNw hN1 hbx k1 k2 k3 hbw hal hlow
   gi_wp2_with fail
   refine ⟨trivial, (callsIn_wide.2 (un hF)).mono ?_⟩
   rintro e w2 ⟨hb2, hp⟩
   obtain ⟨hal, hlm, hll, hlb⟩ := un HZ
   have hb3 := hal.trans (hb2.mono hal.size)
   have hj2 := (un HJ) c _ _ hb3 (un hj)
   have hlb2 : ∀ Y, Below wr.heap.size wr Y -> LsB lb Y (wr.alloc (.cells #[.int .i64 tk, .string dk, .slice ak lk ck] 28)).heap.size := fun Y hY ad nn cc h => by
    have := hlb ad nn cc (by rw [<- h]; exact (World.cell?_of_block (w := wr) (a := ⟨lb, 0, none⟩) (hY.block lb hll)).symm)
    simp
    omega
   have HL := H_ hlb2
   have HM := H_ (And.intro hlm (And.intro hll hb3))
   clear hlb hlm hll hlb2 q0 q1 q2 hal hF HZ
   cases ho : rd n dp (Tv.kids T)[c.length] with
   | some f =>
    rw [ho] at hp
    obtain ⟨⟨dk1, da, dv, dsa, dsn, dsc, df, dla, dln, dlc⟩, rfl, hFn⟩ := hp
    have hb4 := (Below.refl w2.heap.size w2).alloc (Nat.le_refl _) (fobj ⟨dk1, da, dv, dsa, dsn, dsc, df, dla, dln, dlc⟩)
    obtain ⟨hlm, hll, hb3⟩ := un HM
    have hb5 := hb3.trans (hb4.mono hb3.size)
    obtain ⟨fn, tmps, assign, body, hy, hRd⟩ := (un HY) c ⟨⟨dk1, da, dv, dsa, dsn, dsc, df, dla, dln, dlc⟩, .nilIface, some f, (wr.alloc (.cells #[.int .i64 tk, .string dk, .slice ak lk ck] 28)).heap.size⟩ (w2.alloc (fobj ⟨dk1, da, dv, dsa, dsn, dsc, df, dla, dln, dlc⟩)) 5 ((un HJ) c _ _ hb4 hj2)
     ⟨⟨by simp; omega, by have := hb5.size; omega, (un HL) _ hb5⟩, rfl, hFn.below hb4⟩ ⟨hlt, ho.symm⟩
    have Hpre2 := H_ (pre_snoc (un hpre) hlt ho)
    have Hstop : Hid (c.length = most -> insd most dp (Tv.kids T) = none) := H_ fun h => insd_stop hlt (.inr h)
    clear hFn hb4 hlm hll hb3 hb5 hj2 HM HL ho hj
    gi_wp2_with fail
    refine hRd.mono ?_
    rintro e W3 (⟨rfl, -, hj3⟩ | ⟨rfl, hw, hx3⟩)
    ·have HJ3 : Hid (J (c ++ [f]) W3) := H_ hj3
     clear hRd hj3
     gi_wp2
     go_roundw
     case rel => exact ⟨c ++ [f], by rw [List.length_append, List.length_singleton]; omega, by simp, HJ3, Hpre2⟩
     case measure => simp [intOf]; omega
    ·have HX := H_ (And.intro ((un Hstop) (hw.resolve_left (by simp))) hx3)
     clear hRd hx3 hw Hstop
     gi_wp2
     refine bodyPost_ret (results_none rfl _ _ _) rfl ?_
     exact ⟨⟨_, rfl⟩, .inr ⟨_, (un HX).1, (un HX).2⟩⟩
   | none =>
    rw [ho] at hp
    obtain ⟨⟨dk1, da, dv, dsa, dsn, dsc, df, dla, dln, dlc⟩, Ty, y, rfl, hE⟩ := hp
    have hb4 := (Below.refl w2.heap.size w2).alloc (Nat.le_refl _) (fobj ⟨dk1, da, dv, dsa, dsn, dsc, df, dla, dln, dlc⟩)
    obtain ⟨hlm, hll, hb3⟩ := un HM
    have hb5 := hb3.trans (hb4.mono hb3.size)
    obtain ⟨fn, tmps, assign, body, hy, hRd⟩ := (un HY) c ⟨⟨dk1, da, dv, dsa, dsn, dsc, df, dla, dln, dlc⟩, .iface Ty y, none, (wr.alloc (.cells #[.int .i64 tk, .string dk, .slice ak lk ck] 28)).heap.size⟩ (w2.alloc (fobj ⟨dk1, da, dv, dsa, dsn, dsc, df, dla, dln, dlc⟩)) 5 ((un HJ) c _ _ hb4 hj2)
     ⟨⟨by simp; omega, by have := hb5.size; omega, (un HL) _ hb5⟩, _, _, rfl, hE⟩ ⟨hlt, ho.symm⟩
    have Hstop := H_ (insd_stop (most := most) hlt (.inl ho))
    clear hE hb4 hlm hll hb3 hb5 hj2 HM HL ho hj
    gi_wp2_with fail
    refine hRd.mono ?_
    rintro e W3 (⟨rfl, h, _⟩ | ⟨rfl, hw, hx3⟩)
    ·exact absurd rfl h.1
    ·have HX := H_ (And.intro (un Hstop) hx3)
     clear hRd hx3 hw Hstop
     gi_wp2
     refine bodyPost_ret (results_none rfl _ _ _) rfl ?_
     exact ⟨⟨_, rfl⟩, .inr ⟨_, (un HX).1, (un HX).2⟩⟩
  ·have hge : ¬ (c.length : Int) < (Tv.kids T).length := by omega
   have HP := H_ hpre
   clear HY HJw HJ HN
   gi_wp2
   go_end0
   exact ⟨⟨_, rfl⟩, .inl ⟨c, un hpre, by omega, un hj⟩⟩
end Go.Proofs.YtmenllnokgjdlaaGreatDoor.G
