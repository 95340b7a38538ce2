/- Several texts in one: GBuild, GDoorE, GPure2, GTake, GAsk. Each says what it proves, and its conditions. -/
import Derived.Test.YtmenllnokgjdlaaGreatDoorG42
import Derived.Test.YtmenllnokgjdlaaGreatDoorG48
set_option linter.unusedSimpArgs false
set_option maxHeartbeats 4000000
set_option maxRecDepth 100000
/-
 What fber.build, fber.Tree and fber.Encode answer. Conditions: the package-level variables hold what the program's text lays.
-/
namespace Go.Proofs.YtmenllnokgjdlaaGreatDoor.G
open Go Go.RowKit Go.Shelf Gp
open D (H_ un)
open F (At FNode box6 box1)
open Fp (Fl)
attribute [local go_sem] Oper.semAt_some
theorem finB {b : Nat} {V : World} {tmps : Array Value} {c0 c1 c2 u : Value} {R : Ending -> World -> Prop} (h0 : V.heap[b]? = some (.cells #[c0, c1, c2] 28 (0, 0)))
  (t2 : tmps.getD 2 undef = .pointer (some ⟨b, 0, none⟩)) (t3 : tmps.getD 3 undef = u) (hp : R (.returned (.tuple #[.agg #[c0, c1, c2], u])) V) :
  bodyPost Tryz.prog Tryz.f32 R Exit.ret { tmps, defers := [] } V := by
 refine ⟨rfl, .tuple #[.agg #[c0, c1, c2], u], ?_, hp⟩
 obtain ⟨⟨x0, x1, x2⟩, _⟩ := cells3 h0
 have t2' : tmps[2]?.getD undef = .pointer (some ⟨b, 0, none⟩) := by simpa using t2
 have t3' : tmps[3]?.getD undef = u := by simpa using t3
 simp [results, Tryz.results32, go_sem, t2', t3', x0, x1, x2]
def BuildPost (n : Nat) (A : Ad) (X : Fl (n + 1)) (w : World) (e : Ending) (w' : World) : Prop := Below w.heap.size w w' /\ (if Fp.right (n + 1) 6 X = true
 then ∃ ct cs ca cn cc, e = .returned (.tuple #[.agg #[.int .i64 ct, .string cs, .slice ca cn cc], .nilIface]) /\ Node (n + 3) w' (fun b => w.heap.size <= b) (.agg #[.int .i64 ct, .string cs, .slice ca cn cc]) (tree (n + 1) X)
 else ∃ T y, e = .returned (.tuple #[zeroN, .iface T y]) /\ IsErr A (.iface T y))
theorem build_any (n : Nat) (X : Fl (n + 1)) (A : Ad) (w : World) (p : Nat -> Prop) (d : FD) (g : Glob A w) (hN : FNode (n + 1) w p d X) (hn : n <= 99) :
  Calls Tryz.prog 32 #[F.Fd.val d] w (BuildPost n A X w) := by
 have hb0 : Below w.heap.size w ((w.alloc (fobj d)).alloc znObj) := ((Below.refl _ _).alloc (Nat.le_refl _) _).alloc (by simp) _
 have q0 : ((w.alloc (fobj d)).alloc znObj).heap[w.heap.size]? = some (.cells (F.Fd.cs d) 25 (0, 0)) := (Below.heap_alloc _ _ _ (by simp)).trans (World.alloc_heap_new w _)
 have q1 : ((w.alloc (fobj d)).alloc znObj).heap[w.heap.size + 1]? = some (.cells #[.int .i64 0, .string ⟨#[]⟩, .slice none 0 0] 28 (0, 0)) := by
  have := World.alloc_heap_new (w.alloc (fobj d)) znObj
  rwa [World.size_alloc] at this
 have HR := H_ (F.right_any n X A.f _ p d (g.next hb0).gf (hN.below hb0) hn)
 have HB := H_ hb0
 have HQ := H_ (And.intro q0 q1)
 have HG := H_ g
 have hgl := D.lt_cell g.vri
 have hgn0 : ¬ w.heap.size = 0 := by simp only at hgl; omega
 have hgn1 : ¬ w.heap.size + 1 = 0 := by simp only at hgl; omega
 have HN := H_ hN
 obtain ⟨⟨x0, x1, x2, x3, x4, x5⟩, _⟩ := box6 q0
 obtain ⟨k, a, v, sa, sn, sc, f, la, ln, lc⟩ := d
 dsimp only [fobj, F.Fd.obj, F.Fd.cs, znObj] at x0 x1 x2 x3 x4 x5
 clear g hN hb0 q0 q1 hgl
 cases hr : Fp.right (n + 1) 6 X
 ·rw [hr] at HR
  rw [show BuildPost n A X w = fun e w' => Below w.heap.size w w' /\ ∃ T y, e = .returned (.tuple #[zeroN, .iface T y]) /\ IsErr A (.iface T y) from by funext e w'; unfold BuildPost; rw [hr, if_neg (by simp)]]
  clear hr HN
  go_enter Tryz.func32, Tryz.ntmps32
  go_wp2_with fail
  refine (un HR).mono ?_
  rintro e w1 ⟨rfl, hb⟩
  have hB1 := (un HB).trans (hb.mono (un HB).size)
  have hq0 := (hb.block _ (Array.getElem?_eq_some_iff.1 (un HQ).1).1).trans (un HQ).1
  have hq1 := (hb.block _ (Array.getElem?_eq_some_iff.1 (un HQ).2).1).trans (un HQ).2
  have y0 := (box6 hq0).1.1
  obtain ⟨⟨e0, e1, e2⟩, r0, r1, r2⟩ := cells3 hq1
  have gv := ((un HG).next hB1).vri
  have HB1 := H_ (And.intro hB1 hq1)
  dsimp only at y0
  clear hB1 hq0 hq1 hb HB HQ HR HG x0 x1 x2 x3 x4 x5
  go_wp2_with fail
  refine wp_mono (Q := fun e a1 V => match e with | .normal => a1.defers = [] /\ a1.tmps.getD 2 undef = .pointer (some ⟨w.heap.size + 1, 0, none⟩) /\ a1.tmps.getD 3 undef = flt k (sen A.ri) /\ V = (((w1.setCell ⟨w.heap.size + 1, 0, none⟩ (.int .i64 0)).setCell ⟨w.heap.size + 1, 1, none⟩ (.string ⟨#[]⟩)).setCell ⟨w.heap.size + 1, 2, none⟩ (.slice none 0 0)).drew | _ => False) ?_ ?_
  ·go_region
   all_goals exact ⟨rfl, rfl, rfl, rfl⟩
  rintro e ⟨tmps, defers⟩ U hq
  cases e with
  | normal =>
   obtain ⟨hdf, t2, t3, hU⟩ := hq
   dsimp only at hdf t2 t3
   subst hdf
   have HT := H_ (And.intro t2 (And.intro t3 hU))
   clear t2 t3 hU e0 e1 e2 r0 r1 r2 gv y0
   go_wp2
   obtain ⟨t2, t3, hU⟩ := un HT
   obtain ⟨hB1, hq1⟩ := un HB1
   refine finB (b := w.heap.size + 1) (c0 := .int .i64 0) (c1 := .string ⟨#[]⟩) (c2 := .slice none 0 0) (by rw [hU]; exact set3_blk hq1) t2 t3 ⟨?_, _, _, rfl, (IsErr.sen (.inl rfl)).wrap k⟩
   rw [hU]
   exact (set3n hB1 (by omega) _ _ _).drew
  | _ => exact hq.elim
 ·rw [hr] at HR
  rw [show BuildPost n A X w = fun e w' => Below w.heap.size w w' /\ ∃ ct cs ca cn cc, e = .returned (.tuple #[.agg #[.int .i64 ct, .string cs, .slice ca cn cc], .nilIface]) /\ Node (n + 3) w' (fun b => w.heap.size <= b) (.agg #[.int .i64 ct, .string cs, .slice ca cn cc]) (tree (n + 1) X) from by funext e w'; unfold BuildPost; rw [hr, if_pos rfl]]
  have HRT := H_ hr
  clear hr hgn0 hgn1
  go_enter Tryz.func32, Tryz.ntmps32
  go_wp2_with fail
  refine (un HR).mono ?_
  rintro e w1 ⟨rfl, hb⟩
  have HB1 := H_ ((un HB).trans (hb.mono (un HB).size))
  have Q := H_ (And.intro ((hb.block _ (Array.getElem?_eq_some_iff.1 (un HQ).1).1).trans (un HQ).1) ((hb.block _ (Array.getElem?_eq_some_iff.1 (un HQ).2).1).trans (un HQ).2))
  have HV1 := H_ (Array.getElem?_eq_some_iff.1 (un Q).2).1
  clear hb HB HQ HR x0 x1 x2 x3 x4 x5
  go_wp2_with fail
  refine wp_region_sw (fun _ => True) (fun w' => w'.cell? ⟨w.heap.size, 0, none⟩ = some (.int .i64 k) /\ w'.cell? ⟨w.heap.size, 1, none⟩ = some (.string a) /\ w'.cell? ⟨w.heap.size, 2, none⟩ = some (.string v) /\ w'.cell? ⟨w.heap.size, 3, none⟩ = some (.slice sa sn sc) /\ w'.cell? ⟨w.heap.size, 4, none⟩ = some (.string f) /\ w'.cell? ⟨w.heap.size, 5, none⟩ = some (.slice la ln lc)) 4 (by kernel_rfl) ?_
  have hS0 := (box6 (W := w1.drew) (un Q).1).1
  have HWV := H_ (show Below w1.heap.size w1 w1.drew from ⟨rfl, rfl, rfl, Nat.le_refl _, fun _ _ => rfl⟩)
  have HQ0 := H_ (show w1.drew.heap[w.heap.size]? = _ from (un Q).1)
  have HQ1 := H_ (show w1.drew.heap[w.heap.size + 1]? = _ from (un Q).2)
  dsimp only at hS0
  generalize w1.drew = V at *
  change wpAnyS _ _ _ _ _ _ _ 6 #[false, false, false, false, false, false] _ V
  refine wpAnyS_take1 (i := 0) (v := .agg #[.int .i64 k, .string a, .string v, .slice sa sn sc, .string f, .slice la ln lc]) rfl (by kernel_rfl) (by kernel_rfl) (by kernel_rfl) (by kernel_rfl) (fun _ _ _ h => h) (Or.inl ⟨by kernel_rfl, by rintro w1 ⟨s0, s1, s2, s3, s4, s5⟩; go_simp; all_goals first | rfl | omega⟩) ⟨fun _ => trivial, hS0⟩ ?_
  simp only [Act.put, nrm]
  refine wpAnyS_ready (rs := [1]) (by kernel_rfl) (by simp) ?_
  refine AllReadyS.cons rfl (fun K hK => ?_) AllReadyS.nil
  rw [if_pos (by kernel_rfl)]
  go_wp2_with fail
  refine (tags_any V).mono ?_
  rintro e V1 ⟨rfl, hb, hTg⟩
  have hbV1 : Below w1.heap.size w1 V1 := (un HWV).trans (hb.mono (un HWV).size)
  have HQ0' := H_ ((hb.block _ (Array.getElem?_eq_some_iff.1 (un HQ0)).1).trans (un HQ0))
  have HQ1' := H_ ((hb.block _ (Array.getElem?_eq_some_iff.1 (un HQ1)).1).trans (un HQ1))
  have hS1 := (box6 (un HQ0')).1
  dsimp only at hS1
  obtain ⟨bt, hbt⟩ : ∃ bt, bt = V.heap.size := ⟨_, rfl⟩
  rw [<- hbt] at hTg ⊢
  have HTT := H_ (tree_any (n + 1) 6 X V1 _ ⟨k, a, v, sa, sn, sc, f, la, ln, lc⟩ bt (un HRT) ((un HN).below ((un HB1).trans (hbV1.mono (un HB1).size))) hTg)
  have HB2 := H_ ((un HB1).trans (hbV1.mono (un HB1).size))
  have HVs := H_ hbV1.size
  clear hb hTg hbt hbV1 hS0 HQ0 HQ1 HWV Q
  go_wp2
  refine hK.out _ _ ⟨fun _ => trivial, hS1⟩ (fun _ => ?_)
  clear hK K
  simp only [Act.put, nrm]
  refine wpAnyS_take1 (i := 2) (v := .agg #[.int .i64 k, .string a, .string v, .slice sa sn sc, .string f, .slice la ln lc, .map (some bt)]) rfl (by kernel_rfl) (by kernel_rfl) (by kernel_rfl) (by kernel_rfl) (fun _ _ _ h => h) (Or.inl ⟨by kernel_rfl, by rintro w1 ⟨s0, s1, s2, s3, s4, s5⟩; go_simp; all_goals first | rfl | omega⟩) ⟨fun _ => trivial, hS1⟩ ?_
  simp only [Act.put, nrm]
  refine wpAnyS_ready (rs := [3]) (by kernel_rfl) (by simp) ?_
  refine AllReadyS.cons rfl (fun K hK => ?_) AllReadyS.nil
  rw [if_pos (by kernel_rfl)]
  go_wp2_with fail
  refine (un HTT).mono ?_
  rintro e V2 ⟨ct, cs, ca, cn, cc, rfl, hb, hNd⟩
  have HQ0 := H_ ((hb.block _ (Array.getElem?_eq_some_iff.1 (un HQ0')).1).trans (un HQ0'))
  have HQ1 := H_ ((hb.block _ (Array.getElem?_eq_some_iff.1 (un HQ1')).1).trans (un HQ1'))
  have hS2 := (box6 (un HQ0)).1
  dsimp only at hS2
  obtain ⟨⟨e0, e1, e2⟩, r0, r1, r2⟩ := cells3 (un HQ1)
  have HB3 := H_ (And.intro ((un HB2).trans (hb.mono (un HB2).size)) (And.intro hNd (un HVs)))
  clear hb hNd hS1 HQ0' HQ1' HTT
  go_wp2
  refine hK.out _ _ ⟨fun _ => trivial, hS2⟩ (fun _ => ?_)
  clear hK K
  simp only [Act.put, nrm]
  refine wpAnyS_ready (rs := [4]) (by kernel_rfl) (by simp) ?_
  refine AllReadyS.cons rfl (fun K hK => ?_) AllReadyS.nil
  rw [if_pos (by kernel_rfl)]
  go_simp
  have hS3 : ∀ x y z, _ := fun x y z => (box6 ((set3_far V2 (w.heap.size + 1) x y z w.heap.size (by omega)).trans (un HQ0))).1
  dsimp only at hS3
  refine hK.out _ _ ⟨fun _ => trivial, hS3 _ _ _⟩ (fun _ => ?_)
  clear hK K
  simp only [Act.put, nrm]
  refine wpAnyS_take1 (i := 5) (v := .nilIface) rfl (by kernel_rfl) (by kernel_rfl) (by kernel_rfl) (by kernel_rfl) (fun _ _ _ h => h) (Or.inl ⟨by kernel_rfl, by rintro w1 ⟨s0, s1, s2, s3, s4, s5⟩; go_simp; all_goals first | rfl | omega⟩) ⟨fun _ => trivial, (hS3 _ _ _)⟩ ?_
  simp only [Act.put, nrm]
  refine wpAnyS_done (by kernel_rfl) ?_ _
  simp only [onlyS]
  go_wp2
  obtain ⟨hb2, hNd, hlo⟩ := un HB3
  have hlt := (Array.getElem?_eq_some_iff.1 (un HQ1)).1
  have g0 := set3_blk (x' := .int .i64 ct) (y' := .string cs) (z' := .slice ca cn cc) (un HQ1)
  have far := fun i (hi : i ≠ w.heap.size + 1) => set3_far V2 (w.heap.size + 1) (.int .i64 ct) (.string cs) (.slice ca cn cc) i hi
  have hbX := set3n (b := w.heap.size + 1) hb2 (by omega) (.int .i64 ct) (.string cs) (.slice ca cn cc)
  have hlV := (un HV1)
  refine finB g0 rfl rfl ⟨hbX, ?_⟩
  exact ⟨_, _, _, _, _, rfl, (hNd.of fun b h1 h2 => far b (by omega)).imp fun b h1 _ => by omega⟩
end Go.Proofs.YtmenllnokgjdlaaGreatDoor.G
/-
 What fber.Tree and fber.Encode answer. Conditions: the package-level variables hold what the program's text lays.
-/
namespace Go.Proofs.YtmenllnokgjdlaaGreatDoor.G
open Go Go.RowKit Go.Shelf Gp
open D (H_ un)
open F (At FNode box6 box1)
open Fp (Fl)
attribute [local go_sem] Oper.semAt_some
def encB (n : Nat) (X : Fl (n + 1)) : Value := if Fp.right (n + 1) 6 X = true /\ Tv.right (tree (n + 1) X) = true then .tuple #[txt (Tv.enc (n + 3) (tree (n + 1) X)), .int .i64 0] else .tuple #[.string ⟨#[]⟩, .int .i64 80]
theorem encode_door (n : Nat) (X : Fl (n + 1)) (A : Ad) (w : World) (p : Nat -> Prop) (d : FD) (g : Glob A w) (hN : FNode (n + 1) w p d X) (hn : n <= 97) :
  Calls Tryz.prog 18 #[F.Fd.val d] w fun e w' => e = .returned (encB n X) /\ Below w.heap.size w w' := by
 have hb0 : Below w.heap.size w (w.alloc (fobj d)) := (Below.refl _ _).alloc (Nat.le_refl _) _
 have q0 : (w.alloc (fobj d)).heap[w.heap.size]? = some (.cells (F.Fd.cs d) 25 (0, 0)) := World.alloc_heap_new w _
 have HR := H_ (build_any n X A _ p d (g.next hb0) (hN.below hb0) (by omega))
 have HB := H_ hb0
 have HQ := H_ q0
 have HG := H_ g
 obtain ⟨⟨x0, x1, x2, x3, x4, x5⟩, _⟩ := box6 q0
 obtain ⟨k, a, v, sa, sn, sc, f, la, ln, lc⟩ := d
 dsimp only [fobj, F.Fd.obj, F.Fd.cs] at x0 x1 x2 x3 x4 x5
 clear g hN hb0 q0
 go_enter Tryz.func18, Tryz.ntmps18
 go_wp2_with fail
 refine (un HR).mono ?_
 rintro e w1 ⟨hb, hp⟩
 have hB1 := (un HB).trans (hb.mono (un HB).size)
 have hq1 := (hb.block _ (Array.getElem?_eq_some_iff.1 (un HQ)).1).trans (un HQ)
 cases hr : Fp.right (n + 1) 6 X
 ·rw [hr, if_neg (by simp)] at hp
  obtain ⟨T, y, rfl, hE⟩ := hp
  have hB2 : Below w.heap.size w (w1.alloc znObj) := hB1.alloc hB1.size _
  have HO := H_ (errnoOf_any (.iface T y) A (w1.alloc znObj) ((un HG).next hB2) hE)
  have HB2 := H_ hB2
  have Hr := H_ (show encB n X = .tuple #[.string ⟨#[]⟩, .int .i64 80] by unfold encB; rw [hr, if_neg (by simp)])
  clear hB1 hq1 hb HB HQ HR HG x0 x1 x2 x3 x4 x5 hE hB2 hr
  go_wp2_with fail
  refine (un HO).mono ?_
  rintro e w3 ⟨rfl, hb⟩
  have HB3 := H_ ((un HB2).trans (hb.mono (un HB2).size))
  clear hb HB2 HO
  go_wp2
  go_ret2
  rw [un Hr]
  exact ⟨rfl, un HB3⟩
 ·rw [hr, if_pos rfl] at hp
  obtain ⟨ct, cs, ca, cn, cc, rfl, hNd⟩ := hp
  have hal := (Below.refl w1.heap.size w1).alloc (Nat.le_refl _) (.cells #[.int .i64 ct, .string cs, .slice ca cn cc] 28)
  have hB2 : Below w.heap.size w (w1.alloc (.cells #[.int .i64 ct, .string cs, .slice ca cn cc] 28)) := hB1.alloc hB1.size _
  have HE := H_ (encode_any (n + 3) (tree (n + 1) X) A.t A.aS A.aF _ _ _ ((un HG).next hB2).gt (hNd.below hal) (by omega))
  have y0 := (box6 ((Below.heap_alloc w1 (.cells #[.int .i64 ct, .string cs, .slice ca cn cc] 28) _ (Array.getElem?_eq_some_iff.1 hq1).1).trans hq1))
  have HB2 := H_ (And.intro hB2 ((Below.heap_alloc w1 (.cells #[.int .i64 ct, .string cs, .slice ca cn cc] 28) _ (Array.getElem?_eq_some_iff.1 hq1).1).trans hq1))
  have Hr := H_ hr
  clear hB1 hq1 hb HB HQ HR x0 x1 x2 x3 x4 x5 hB2 hr hNd hal y0
  unfold encT at HE
  by_cases ht : Tv.right (tree (n + 1) X) = true
  ·rw [if_pos ht] at HE
   have Ht := H_ (show encB n X = .tuple #[txt (Tv.enc (n + 3) (tree (n + 1) X)), .int .i64 0] by unfold encB; rw [if_pos ⟨un Hr, ht⟩])
   generalize txt (Tv.enc (n + 3) (tree (n + 1) X)) = tx at *
   clear ht Hr HG
   go_wp2_with fail
   refine (un HE).mono ?_
   rintro e w3 ⟨rfl, hb⟩
   have HB3 := H_ ((un HB2).1.trans (hb.mono (un HB2).1.size))
   clear hb HB2 HE
   go_wp2
   go_ret2
   rw [un Ht]
   exact ⟨rfl, un HB3⟩
  ·rw [if_neg ht] at HE
   have Ht := H_ (show encB n X = .tuple #[.string ⟨#[]⟩, .int .i64 80] by unfold encB; rw [if_neg (fun h => ht h.2)])
   clear ht Hr
   go_wp2_with fail
   refine (un HE).mono ?_
   rintro e w3 ⟨rfl, hb⟩
   have hB3 := (un HB2).1.trans (hb.mono (un HB2).1.size)
   have y0 := (box6 ((hb.block _ (Array.getElem?_eq_some_iff.1 (un HB2).2).1).trans (un HB2).2)).1.1
   have HO := H_ (errnoOf_any (flt k (nov 21)) A w3 ((un HG).next hB3) ((IsErr.nov A 21).wrap k))
   have HB3 := H_ hB3
   dsimp only at y0
   clear hb HB2 HE hB3 HG
   go_wp2_with fail
   refine (un HO).mono ?_
   rintro e w4 ⟨rfl, hb⟩
   have HB4 := H_ ((un HB3).trans (hb.mono (un HB3).size))
   clear hb HB3 HO
   go_wp2
   go_ret2
   rw [un Ht]
   exact ⟨rfl, un HB4⟩
end Go.Proofs.YtmenllnokgjdlaaGreatDoor.G
/-
 What the document reads roughly of a tree, held against the filter's own tree, is what is read of it; a tree of more levels is read alike. Conditions: none.
-/
namespace Go.Proofs.YtmenllnokgjdlaaGreatDoor.Gp
open Fp (Fl kd nm va an fi ls isSet fitF fitB)
open Tv (Tr)
end Go.Proofs.YtmenllnokgjdlaaGreatDoor.Gp
/-
 What fber.takePieces puts into a filter. Conditions: six pieces at most.
-/
namespace Go.Proofs.YtmenllnokgjdlaaGreatDoor.G
open Go Go.RowKit Go.Shelf Gp
open D (H_ un)
open F (At FNode Strs strs infoS own_below own_cells box6 cells_new set6 set6_blk heap_set)
open Tv (Tr)
attribute [local go_sem] Oper.semAt_some
def okN : (n : Nat) -> Tr n -> Prop
 | 0, t => Empty.elim t
 | n + 1, T => (Lit.int .i64 (Tv.tag T)).wf = true /\ (Tv.dat T).size <= 2000 /\ ∀ x ∈ Tv.kids T, okN n x
theorem okN_dat : ∀ {n : Nat} {T : Tr n}, okN n T -> (datN n T).size <= 2000
 | 0, t, _ => Empty.elim t
 | _ + 1, _, h => h.2.1
theorem node_td : ∀ {m : Nat} {W : World} {p : Nat -> Prop} {t : Int} {d : ByteArray} {a : Option Addr} {l c : Nat} {T : Tr m}, Node m W p (.agg #[.int .i64 t, .string d, .slice a l c]) T -> t = tagN m T /\ d = datN m T /\ l = (kidsN m T).length /\ d.size <= 9000
 | 0, _, _, _, _, _, _, _, T, _ => Empty.elim T
 | m + 1, W, p, t, d, a, l, c, T, ⟨a', c', h, hd, _⟩ => by
  injection h with h
  have e' := congrArg Array.toList h
  simp only [List.cons.injEq, Value.int.injEq, Value.string.injEq, Value.slice.injEq, true_and, and_true] at e'
  obtain ⟨rfl, rfl, _, rfl, _⟩ := e'
  exact ⟨rfl, rfl, rfl, hd⟩
theorem take_step {m : Nat} {ks : List (Tr m)} {j : Nat} (h : j < ks.length) : take (ks.take (j + 1)) = put (take (ks.take j)) (tagN m ks[j]) (datN m ks[j]) := by
 unfold take
 rw [List.take_succ_eq_append_getElem h, List.foldl_append]
 rfl
theorem put_le {s : ByteArray × List ByteArray × ByteArray} {t : Int} {d : ByteArray} {M : Nat} (h : s.2.1.length <= M) : (put s t d).2.1.length <= M + 1 := by
 unfold put
 split
 ·show s.2.1.length <= _; omega
 ·split
  ·show (s.2.1 ++ [d]).length <= _; simp; omega
  ·split <;> (show s.2.1.length <= _; omega)
theorem take_le {m : Nat} : ∀ (ks : List (Tr m)), (take ks).2.1.length <= ks.length := by
 intro ks
 have key : ∀ (l : List (Tr m)) (s : ByteArray × List ByteArray × ByteArray), (l.foldl (fun s x => put s (tagN m x) (datN m x)) s).2.1.length <= s.2.1.length + l.length := by
  intro l
  induction l with
  | nil => intro s; simp
  | cons x l ih =>
   intro s
   rw [List.foldl_cons]
   have h1 := ih (put s (tagN m x) (datN m x))
   have h2 := put_le (t := tagN m x) (d := datN m x) (Nat.le_refl s.2.1.length)
   rw [List.length_cons]
   omega
 have := key ks (⟨#[]⟩, [], ⟨#[]⟩)
 simpa [take] using this
structure Tin (w : World) (bf : Nat) (k : Int) (nm : ByteArray) (s : ByteArray × List ByteArray × ByteArray) (sa : Option Addr) (sc : Nat) (W : World) : Prop where
 b : W.heap[bf]? = some (.cells (F.Fd.cs ⟨k, nm, s.1, sa, s.2.1.length, sc, s.2.2, none, 0, 0⟩) 25 (0, 0))
 own : W.ownsRow w.heap.size 9 1 (.slice sa s.2.1.length sc) s.2.1.length (strs s.2.1)
 but : F.But bf w W
theorem Tin.below {w : World} {bf : Nat} {k : Int} {nm : ByteArray} {s : ByteArray × List ByteArray × ByteArray} {sa : Option Addr} {sc : Nat} {W V : World} (h : Tin w bf k nm s sa sc W) (hb : Below W.heap.size W V) : Tin w bf k nm s sa sc V :=
 ⟨(hb.block _ (Array.getElem?_eq_some_iff.1 h.b).1).trans h.b, own_below h.own hb, h.but.trans (F.But.of_below hb)⟩
def TakePost (bf : Nat) (k : Int) (nm : ByteArray) (s : ByteArray × List ByteArray × ByteArray) (w : World) (e : Ending) (w' : World) : Prop := (∃ v, e = .returned v) /\ ∃ sa sc, Tin w bf k nm s sa sc w'
theorem takeP_any {m : Nat} (y : Tr (m + 1)) (w : World) (p : Nat -> Prop) (a : Option Addr) (cap bf : Nat) (k : Int) (nm : ByteArray) (hN : Node (m + 1) w p (.agg #[.int .i64 (Tv.tag y), .string (Tv.dat y), .slice a (Tv.kids y).length cap]) y) (hp : ¬ p bf) (h6 : (Tv.kids y).length <= 6)
  (hb : w.heap[bf]? = some (.cells (F.Fd.cs ⟨k, nm, ⟨#[]⟩, none, 0, 0, ⟨#[]⟩, none, 0, 0⟩) 25 (0, 0))) :
  Calls Tryz.prog 171 #[.pointer (some ⟨bf, 0, none⟩), .slice a (Tv.kids y).length cap] w (TakePost bf k nm (take (Tv.kids y)) w) := by
 have h6i : ((Tv.kids y).length : Int) <= 6 := by omega
 have hT0 : Tin w bf k nm (take ((Tv.kids y).take 0)) none 0 w := ⟨hb, World.ownsRow_nil w _ _ 1, F.But.refl _ _⟩
 have HT0 := H_ hT0
 have HN := H_ hN
 have hbl := (Array.getElem?_eq_some_iff.1 hb).1
 obtain ⟨i0, hi0, hz0, hz1, hz2⟩ := infoS
 clear hT0 hN hb
 go_enter Tryz.func171, Tryz.ntmps171
 go_wp2
 go_loopw [9] (fun i wr => ∃ (j : Nat) (sa : Option Addr) (sc : Nat), j <= (Tv.kids y).length /\ i = .int .i64 (j : Int) /\ Hid (Tin w bf k nm (take ((Tv.kids y).take j)) sa sc wr)) (fun i _ => (Tv.kids y).length - (intOf i).toNat)
 case atStart => exact ⟨0, none, 0, Nat.zero_le _, rfl, HT0⟩
 case round =>
  obtain ⟨j, sa, sc, hj, rfl, hT⟩ := hrel
  clear HT0
  by_cases hlt : j < (Tv.kids y).length
  ·have hNw : Node (m + 1) wr p (.agg #[.int .i64 (Tv.tag y), .string (Tv.dat y), .slice a (Tv.kids y).length cap]) y := (un HN).of fun b h1 h2 => (un hT).but.block b h2 (fun e => hp (e ▸ h1))
   obtain ⟨a', cap', hv, _, _, hks⟩ := hNw.shape
   injection hv with hv
   have e' := congrArg Array.toList hv
   simp only [List.cons.injEq, Value.slice.injEq, true_and, and_true] at e'
   obtain ⟨rfl, rfl⟩ := e'
   obtain ⟨g, off, ha, hpg, t, d, a1, l1, c1, q0, q1, q2, hN1⟩ := hks j hlt
   obtain ⟨ht, hd, -, hd9⟩ := node_td hN1
   have htk := take_step hlt
   rw [<- ht, <- hd] at htk
   have hsl : (take ((Tv.kids y).take j)).2.1.length <= 6 := Nat.le_trans (take_le _) (by rw [List.length_take]; omega)
   generalize take ((Tv.kids y).take j) = s at *
   have hal := (Below.refl wr.heap.size wr).alloc (Nat.le_refl _) (.cells #[.int .i64 t, .string d, .slice a1 l1 c1] 28)
   have hbx := World.alloc_heap_new wr (.cells #[.int .i64 t, .string d, .slice a1 l1 c1] 28)
   have HC := H_ fun W => F.clone_any d W (by omega)
   have HTk := H_ htk
   have Hal := H_ (And.intro hal hbx)
   have HT := H_ (un hT)
   have hlt' : (j : Int) < (Tv.kids y).length := by omega
   obtain ⟨⟨x0, x1, x2⟩, _⟩ := cells3 hbx
   subst ha
   clear hv hks hNw hN1 ht hd htk hal hbx hT hd9
   go_wp2_with fail
   refine ((un HC) _).mono ?_
   rintro e w2 ⟨rfl, hb2⟩
   have hb3 := (un Hal).1.trans (hb2.mono (un Hal).1.size)
   obtain ⟨⟨z0, z1, z2⟩, _⟩ := cells3 ((hb2.block _ (by simp)).trans (un Hal).2)
   have hT2 := (un HT).below hb3
   obtain ⟨⟨y0, y1, y2, y3, y4, y5⟩, f0, f1, f2, f3, f4, f5⟩ := box6 hT2.b
   dsimp only at y0 y1 y2 y3 y4 y5
   have HT2 := H_ hT2
   have hw2 : w.heap.size <= w2.heap.size := hT2.but.size
   have hbf2 : bf < w2.heap.size := (Array.getElem?_eq_some_iff.1 hT2.b).1
   clear hb2 hb3 hT2 Hal HT HC x0 x1 x2 q0 q1 q2
   by_cases h128 : t = 128
   ·subst h128
    have hput : put s 128 d = (d, s.2.1, s.2.2) := by unfold put; rw [if_pos rfl]
    have HT3 : Hid (Tin w bf k nm (put s 128 d) sa sc (w2.setCell ⟨bf, 2, none⟩ (.string d))) := H_ (by
     have h := un HT2
     rw [hput]
     exact ⟨heap_set w2 bf 2 _ _ _ h.b, ownsRow_setCell_below h.own (a := ⟨bf, 2, none⟩) hbl _, h.but.setCell 2 _⟩)
    clear hput
    go_wp2
    go_roundw
    case rel => exact ⟨j + 1, sa, sc, by omega, by simp, by rw [un HTk]; exact HT3⟩
    case measure => simp [intOf]; omega
   ·have b128 : (t == 128) = false := by simpa using h128
    by_cases h129 : t = 129
    ·subst h129
     have hput : put s 129 d = (s.1, s.2.1 ++ [d], s.2.2) := by unfold put; rw [if_neg (by decide), if_pos rfl]
     have HO := H_ (((un HT2).own).alloc (.cells #[.string d] 9))
     have HPut := H_ hput
     clear hput
     go_wp2_with (at_builtin; refine wpList_append_lies _ rfl (.tmp 30) (.tmp 32) 22 rfl w.heap.size 9 i0 (.string ⟨#[]⟩) 1 16 Tryz.underlying22 hi0 hz0 hz1 hz2 rfl (by omega) _ s.2.1.length _ rfl (un HO) ⟨w2.heap.size, 0, none⟩ 1 1 [.string d] rfl rfl (cells_new w2 _ _) (by simp [Value.oneCell']) (by omega) (by unfold maxLen; omega) (by omega) (by simp; omega) (w2.heap.size + 1) (by simp) ?_; intro gg cp w5 hown hgrow hat2 hglt; have hb5 : w5.heap[bf]? = some (.cells (F.Fd.cs ⟨k, nm, s.1, sa, s.2.1.length, sc, s.2.2, none, 0, 0⟩) 25 (0, 0)) := (hgrow.block bf (by simp; omega) (fun e => by have := ((un HO).lt _ e.symm).1; omega)).trans ((Below.heap_alloc _ _ _ hbf2).trans (un HT2).b); obtain ⟨⟨u0, u1, u2, u3, u4, u5⟩, v0, v1, v2, v3, v4, v5⟩ := box6 hb5; dsimp only at u0 u1 u2 u3 u4 u5; have HAll := H_ (And.intro hb5 (And.intro hown hgrow)); clear hb5 hown hgrow hat2 hglt y0 y1 y2 y3 y4 y5 f0 f1 f2 f3 f4 f5)
     obtain ⟨hb5, hown, hgrow⟩ := un HAll
     have HT3 : Hid (Tin w bf k nm (put s 129 d) (some ⟨gg, 0, none⟩) cp (w5.setCell ⟨bf, 3, none⟩ (.slice (some ⟨gg, 0, none⟩) (s.2.1.length + 1) cp))) := H_ (by
      have h := un HT2
      rw [un HPut]
      refine ⟨?_, ?_, ?_⟩
      ·have := heap_set w5 bf 3 _ _ (.slice (some ⟨gg, 0, none⟩) (s.2.1.length + 1) cp) hb5
       simpa using this
      ·have := ownsRow_setCell_below hown (a := ⟨bf, 3, none⟩) hbl (.slice (some ⟨gg, 0, none⟩) (s.2.1.length + 1) cp)
       simpa [strs] using this
      ·have hz5 : w2.heap.size <= w5.heap.size := by have := hgrow.size; simp at this; omega
       refine F.But.setCell ⟨hgrow.os.trans h.but.os, hgrow.tape.trans h.but.tape, hgrow.output.trans h.but.output, Nat.le_trans h.but.size hz5, fun q hq hn => ?_⟩ 3 _
       exact (hgrow.block q (by simp; omega) (fun e => by have := ((un HO).lt _ e.symm).1; omega)).trans ((Below.heap_alloc _ _ _ (by omega)).trans (h.but.block q hq hn)))
     clear hb5 hown hgrow HO HPut HAll
     go_roundw
     case rel => exact ⟨j + 1, _, _, by omega, by simp, by rw [un HTk]; exact HT3⟩
     case measure => simp [intOf]; omega
    ·have b129 : (t == 129) = false := by simpa using h129
     by_cases h130 : t = 130
     ·subst h130
      have hput : put s 130 d = (s.1, s.2.1, d) := by unfold put; rw [if_neg (by decide), if_neg (by decide), if_pos rfl]
      have HT3 : Hid (Tin w bf k nm (put s 130 d) sa sc (w2.setCell ⟨bf, 4, none⟩ (.string d))) := H_ (by
       have h := un HT2
       rw [hput]
       exact ⟨heap_set w2 bf 4 _ _ _ h.b, ownsRow_setCell_below h.own (a := ⟨bf, 4, none⟩) hbl _, h.but.setCell 4 _⟩)
      clear hput
      go_wp2
      go_roundw
      case rel => exact ⟨j + 1, sa, sc, by omega, by simp, by rw [un HTk]; exact HT3⟩
      case measure => simp [intOf]; omega
     ·have b130 : (t == 130) = false := by simpa using h130
      have hput : put s t d = s := by unfold put; rw [if_neg h128, if_neg h129, if_neg h130]
      have HT3 : Hid (Tin w bf k nm (put s t d) sa sc w2) := H_ (by rw [hput]; exact un HT2)
      clear hput
      go_wp2
      go_roundw
      case rel => exact ⟨j + 1, sa, sc, by omega, by simp, by rw [un HTk]; exact HT3⟩
      case measure => simp [intOf]; omega
  ·have hge : ¬ (j : Int) < (Tv.kids y).length := by omega
   have hT' := un hT
   rw [List.take_of_length_le (by omega)] at hT'
   have HT' := H_ hT'
   clear hT hT'
   go_wp2
   refine bodyPost_ret (results_none rfl _ _ _) rfl ?_
   exact ⟨⟨_, rfl⟩, _, _, un HT'⟩
end Go.Proofs.YtmenllnokgjdlaaGreatDoor.G
/-
 What fber.asked answers. Conditions: tags are numbers of the machine, data have at most 2000 bytes; the package-level variables hold what the program's text lays.
-/
namespace Go.Proofs.YtmenllnokgjdlaaGreatDoor.G
open Go Go.RowKit Go.Shelf Gp
open D (H_ un)
open F (At FNode Strs strs box6 set6 set6_blk set6_but heap_set zfd Is Sm own_cells)
open Fp (Fl)
open Tv (Tr)
attribute [local go_sem] Oper.semAt_some
def AskPost (m : Nat) (A : Ad) (o : Option (Fl (m + 1))) (w : World) (e : Ending) (w' : World) : Prop := Below w.heap.size w w' /\ match o with
 | some f => ∃ d : FD, e = .returned (.tuple #[F.Fd.val d, .nilIface]) /\ FNode (m + 1) w' (fun b => w.heap.size <= b) d f
 | none => ∃ (d : FD) (T : TypeId) (y : Value), e = .returned (.tuple #[F.Fd.val d, .iface T y]) /\ IsErr A (.iface T y)
theorem finK {b : Nat} {V : World} {tmps : Array Value} {d : FD} {u : Value} {R : Ending -> World -> Prop} (h0 : V.heap[b]? = some (.cells (F.Fd.cs d) 25 (0, 0)))
  (t4 : tmps.getD 4 undef = .pointer (some ⟨b, 0, none⟩)) (t5 : tmps.getD 5 undef = u) (hp : R (.returned (.tuple #[F.Fd.val d, u])) V) :
  bodyPost Tryz.prog Tryz.f152 R Exit.ret { tmps, defers := [] } V := by
 refine ⟨rfl, .tuple #[F.Fd.val d, u], ?_, hp⟩
 obtain ⟨⟨c0, c1, c2, c3, c4, c5⟩, _⟩ := box6 h0
 have t4' : tmps[4]?.getD undef = .pointer (some ⟨b, 0, none⟩) := by simpa using t4
 have t5' : tmps[5]?.getD undef = u := by simpa using t5
 simp [results, Tryz.results152, go_sem, t4', t5', c0, c1, c2, c3, c4, c5]
theorem gval_node {m : Nat} (k : Int) {a v : ByteArray} (W : World) (p : Nat -> Prop) (ha : a.size <= 2000) (hv : v.size <= 2000) : FNode (m + 1) W p ⟨k, a, v, none, 0, 0, ⟨#[]⟩, none, 0, 0⟩ (Fp.mk k a v [] ⟨#[]⟩ []) :=
 ⟨⟨rfl, rfl, rfl, rfl, rfl, rfl⟩, ⟨ha, hv, Nat.zero_le _, Nat.zero_le _, (fun x hx => by cases hx), Nat.zero_le _⟩, .inl rfl, .inl rfl⟩
theorem below_set6 {B b : Nat} {a W : World} (h : Below B a W) (hb : B <= b) (d : FD) : Below B a (set6 W b d) :=
 ⟨(set6_but W b d).os.trans h.os, (set6_but W b d).tape.trans h.tape, (set6_but W b d).output.trans h.output, Nat.le_trans h.size (set6_but W b d).size, fun k hk => by
  have h1 := h.block k hk
  by_cases hl : k < W.heap.size
  ·exact ((set6_but W b d).block k hl (by omega)).trans h1
  ·have hz : (set6 W b d).heap.size = W.heap.size := by simp
   rw [<- h1, Array.getElem?_eq_none (by omega), Array.getElem?_eq_none (by omega)]⟩
theorem asked_len {n m : Nat} {k : Int} {T : Tr (n + 1)} (h7 : k ≠ 7) (hl : (Tv.kids T).length ≠ 2) : (asked k T : Option (Fl (m + 1))) = none := by
 unfold asked
 rw [if_neg h7]
 match hk : Tv.kids T with
 | [] => rfl
 | [x] => rfl
 | [x, y] => rw [hk] at hl; exact absurd rfl hl
 | x :: y :: z :: r => rfl
theorem asked_two {n m : Nat} {k : Int} {T : Tr (n + 1)} {x y : Tr n} (h7 : k ≠ 7) (hk : Tv.kids T = [x, y]) : (asked k T : Option (Fl (m + 1))) = if k ≠ 4 then some (Fp.mk k (datN n x) (datN n y) [] ⟨#[]⟩ []) else if 6 < (kidsN n y).length then none
  else some (Fp.mk 4 (datN n x) (take (kidsN n y)).1 (take (kidsN n y)).2.1 (take (kidsN n y)).2.2 []) := by
 unfold asked
 rw [if_neg h7, hk]
theorem take_small {m : Nat} {M : Nat} : ∀ (ks : List (Tr m)), (∀ x ∈ ks, (datN m x).size <= M) -> (take ks).1.size <= M /\ (take ks).2.2.size <= M /\ ∀ x ∈ (take ks).2.1, x.size <= M := by
 have key : ∀ (l : List (Tr m)) (s : ByteArray × List ByteArray × ByteArray), (∀ x ∈ l, (datN m x).size <= M) -> (s.1.size <= M /\ s.2.2.size <= M /\ ∀ x ∈ s.2.1, x.size <= M) ->
   (l.foldl (fun s x => put s (tagN m x) (datN m x)) s).1.size <= M /\ (l.foldl (fun s x => put s (tagN m x) (datN m x)) s).2.2.size <= M /\ ∀ x ∈ (l.foldl (fun s x => put s (tagN m x) (datN m x)) s).2.1, x.size <= M := by
  intro l
  induction l with
  | nil => intro s _ h; exact h
  | cons x l ih =>
   intro s hl h
   rw [List.foldl_cons]
   refine ih _ (fun z hz => hl z (by simp [hz])) ?_
   have hx := hl x (by simp)
   unfold put
   split
   ·exact ⟨hx, h.2.1, h.2.2⟩
   ·split
    ·refine ⟨h.1, h.2.1, fun z hz => ?_⟩
     rcases List.mem_append.1 hz with h1 | h1
     ·exact h.2.2 z h1
     ·simp at h1; rw [h1]; exact hx
    ·split
     ·exact ⟨h.1, hx, h.2.2⟩
     ·exact h
 intro ks h
 exact key ks _ h ⟨Nat.zero_le _, Nat.zero_le _, fun x hx => by cases hx⟩
theorem asked_any {n m : Nat} (k : Int) (T : Tr (n + 1)) (A : Ad) (w : World) (p : Nat -> Prop) (v : Value) (g : Glob A w) (hN : Node (n + 1) w p v T) (hok : okN (n + 1) T) :
  Calls Tryz.prog 152 #[.int .i64 k, v] w (AskPost m A (asked k T) w) := by
 have hN0 : Node (n + 1) w (fun b => b < w.heap.size) v T := hN.imp fun b _ h => h
 obtain ⟨a, cap, rfl, _, _, hks⟩ := hN0.shape
 obtain ⟨_, hdz, hkok⟩ := hok
 have hb0 : Below w.heap.size w ((w.alloc (.cells #[.int .i64 (Tv.tag T), .string (Tv.dat T), .slice a (Tv.kids T).length cap] 28)).alloc (fobj zfd)) := ((Below.refl _ _).alloc (Nat.le_refl _) _).alloc (by simp) _
 have q0 : ((w.alloc (.cells #[.int .i64 (Tv.tag T), .string (Tv.dat T), .slice a (Tv.kids T).length cap] 28)).alloc (fobj zfd)).heap[w.heap.size]? = some (.cells #[.int .i64 (Tv.tag T), .string (Tv.dat T), .slice a (Tv.kids T).length cap] 28 (0, 0)) := (Below.heap_alloc _ _ _ (by simp)).trans (World.alloc_heap_new w _)
 have q1 : ((w.alloc (.cells #[.int .i64 (Tv.tag T), .string (Tv.dat T), .slice a (Tv.kids T).length cap] 28)).alloc (fobj zfd)).heap[w.heap.size + 1]? = some (.cells (F.Fd.cs zfd) 25 (0, 0)) := by
  have := World.alloc_heap_new (w.alloc (.cells #[.int .i64 (Tv.tag T), .string (Tv.dat T), .slice a (Tv.kids T).length cap] 28)) (fobj zfd)
  rwa [World.size_alloc] at this
 obtain ⟨⟨x0, x1, x2⟩, _⟩ := cells3 q0
 obtain ⟨⟨c0, c1, c2, c3, c4, c5⟩, g0, g1, g2, g3, g4, g5⟩ := box6 q1
 dsimp only [fobj, F.Fd.obj, F.Fd.cs, zfd] at x0 x1 x2 c0 c1 c2 c3 c4 c5 g0 g1 g2 g3 g4 g5
 have HB := H_ hb0
 have HQ := H_ (And.intro q0 q1)
 have HG := H_ g
 have HN := H_ hN0
 have hgl := D.lt_cell g.vco
 have hgn1 : ¬ w.heap.size + 1 = 2 := by simp only at hgl; omega
 have gv := (g.next hb0).vco
 dsimp only [fobj, F.Fd.obj, F.Fd.cs, zfd] at gv
 clear hgl
 by_cases h7 : k = 7
 ·subst h7
  rw [show (asked 7 T : Option (Fl (m + 1))) = some (Fp.mk 7 (Tv.dat T) ⟨#[]⟩ [] ⟨#[]⟩ []) from by unfold asked; rw [if_pos rfl]]
  have HC := H_ fun W => F.clone_any (Tv.dat T) W (by omega)
  have HZ := H_ hdz
  generalize Tv.dat T = dd at *
  clear hN hN0 hks hkok g hb0 q0 q1 hgn1 gv c0 c1 c2 c3 c4 c5 g0 g1 g2 g3 g4 g5 HN
  go_enter Tryz.func152, Tryz.ntmps152
  go_wp2_with fail
  refine ((un HC) _).mono ?_
  rintro e w2 ⟨rfl, hb⟩
  have hB2 := (un HB).trans (hb.mono (un HB).size)
  have hq1 := (hb.block _ (Array.getElem?_eq_some_iff.1 (un HQ).2).1).trans (un HQ).2
  obtain ⟨⟨c0, c1, c2, c3, c4, c5⟩, g0, g1, g2, g3, g4, g5⟩ := box6 hq1
  dsimp only [zfd] at c0 c1 c2 c3 c4 c5
  have HB2 := H_ (And.intro hB2 hq1)
  clear hb hB2 hq1 HB HQ HC x0 x1 x2
  go_wp2
  change bodyPost _ _ _ _ _ (set6 w2 (w.heap.size + 1) ⟨7, dd, ⟨#[]⟩, none, 0, 0, ⟨#[]⟩, none, 0, 0⟩)
  refine finK (set6_blk (un HB2).2 _) rfl rfl ⟨below_set6 (un HB2).1 (by omega) _, _, rfl, gval_node 7 _ _ (un HZ) (Nat.zero_le _)⟩
 ·have b7 : (k == 7) = false := by simpa using h7
  by_cases hl : (Tv.kids T).length = 2
  ·have hT2 : ∃ x y, Tv.kids T = [x, y] := by
    match hk : Tv.kids T, hl with
    | [x, y], _ => exact ⟨x, y, rfl⟩
   obtain ⟨x, y, hk⟩ := hT2
   cases n with
   | zero => exact Empty.elim x
   | succ n =>
   obtain ⟨gk, off, ha, hpg, tx, dx, ax, lx, cx, u0, u1, u2, hNx⟩ := hks 0 (by omega)
   obtain ⟨g', off', ha', _, ty, dy, ay, ly, cy, v0, v1, v2, hNy⟩ := hks 1 (by omega)
   rw [ha] at ha'
   cases ha'
   subst ha
   rw [show (Tv.kids T)[0] = x from by simp [hk]] at hNx
   rw [show (Tv.kids T)[1] = y from by simp [hk]] at hNy
   have hokx := hkok x (by rw [hk]; simp)
   have hoky := hkok y (by rw [hk]; simp)
   obtain ⟨_, hdx, _, _⟩ := node_td hNx
   obtain ⟨hty, hdy, hly, _⟩ := node_td hNy
   have hxs : dx.size <= 2000 := by rw [hdx]; exact okN_dat hokx
   have hys : dy.size <= 2000 := by rw [hdy]; exact okN_dat hoky
   rw [asked_two h7 hk, <- hdx, <- hdy, <- hly]
   obtain ⟨O, hO⟩ : ∃ O : Option (Fl (m + 1)), O = if k ≠ 4 then some (Fp.mk k dx dy [] ⟨#[]⟩ []) else if 6 < ly then none else some (Fp.mk 4 dx (take (kidsN (n + 1) y)).1 (take (kidsN (n + 1) y)).2.1 (take (kidsN (n + 1) y)).2.2 []) := ⟨_, rfl⟩
   rw [<- hO]
   have HO := H_ hO
   have HL := H_ hl
   have bl : (((Tv.kids T).length : Int) != 2) = false := by simp; omega
   have bi : (1 : Int) < (Tv.kids T).length := by omega
   have bj : (0 : Int) < (Tv.kids T).length := by omega
   have U1 := (hb0.cell (D.lt_cell u1)).trans u1
   simp only [Nat.zero_mul, Nat.add_zero] at U1
   have HC := H_ fun W => F.clone_any dx W (by omega)
   have HV := H_ (And.intro v0 (And.intro v1 v2))
   have HNy := H_ hNy
   have HXY := H_ (And.intro hxs hys)
   have Hoky := H_ hoky
   have Hly := H_ hly
   dsimp only [fobj, F.Fd.obj, F.Fd.cs, zfd] at U1
   clear hl hk hO hN hN0 hks hkok g hb0 q0 q1 HN h7 hdz u0 u1 u2 v0 v1 v2 hNx hNy hokx hoky hdx hdy hty hly gv c0 c1 c2 c3 c4 c5 g0 g1 g2 g3 g4 g5 hxs hys x0 x1
   go_enter Tryz.func152, Tryz.ntmps152
   go_wp2_with fail
   refine ((un HC) _).mono ?_
   rintro e w2 ⟨rfl, hb⟩
   have hB2 := (un HB).trans (hb.mono (un HB).size)
   have hq1 := (hb.block _ (Array.getElem?_eq_some_iff.1 (un HQ).2).1).trans (un HQ).2
   have hq0 := (hb.block _ (Array.getElem?_eq_some_iff.1 (un HQ).1).1).trans (un HQ).1
   have hz2 : w.heap.size + 2 <= w2.heap.size := by have := hb.size; simp at this; omega
   have X2 := fun o => (cells3 ((Below.heap_alloc w2 o _ (Array.getElem?_eq_some_iff.1 hq0).1).trans hq0)).1.2.2
   have lift : ∀ (o : Obj) (q : Nat) u, w.cell? ⟨gk, q, none⟩ = some u -> (w2.alloc o).cell? ⟨gk, q, none⟩ = some u := fun o q u h => by
    have h2 := (hB2.cell (D.lt_cell h)).trans h
    rw [World.cell?_alloc_lt _ _ _ (D.lt_cell h2)]; exact h2
   have V0 := fun o => lift o _ _ (un HV).1
   have V1 := fun o => lift o _ _ (un HV).2.1
   have V2 := fun o => lift o _ _ (un HV).2.2
   simp only [Nat.one_mul] at V0 V1 V2
   have hE4 : Below w2.heap.size w2 ((w2.alloc (.cells #[.int .i64 k, .string dx, .string ⟨#[]⟩, .slice none 0 0, .string ⟨#[]⟩, .slice none 0 0] 25)).alloc (.cells #[.int .i64 ty, .string dy, .slice ay ly cy] 28)) := ((Below.refl _ _).alloc (Nat.le_refl _) _).alloc (by simp) _
   have hF4 : ((w2.alloc (.cells #[.int .i64 k, .string dx, .string ⟨#[]⟩, .slice none 0 0, .string ⟨#[]⟩, .slice none 0 0] 25)).alloc (.cells #[.int .i64 ty, .string dy, .slice ay ly cy] 28)).heap[w2.heap.size]? = some (.cells (F.Fd.cs ⟨k, dx, ⟨#[]⟩, none, 0, 0, ⟨#[]⟩, none, 0, 0⟩) 25 (0, 0)) := (Below.heap_alloc _ _ _ (by simp)).trans (World.alloc_heap_new w2 _)
   have hV4 : ((w2.alloc (.cells #[.int .i64 k, .string dx, .string ⟨#[]⟩, .slice none 0 0, .string ⟨#[]⟩, .slice none 0 0] 25)).alloc (.cells #[.int .i64 ty, .string dy, .slice ay ly cy] 28)).heap[w2.heap.size + 1]? = some (.cells #[.int .i64 ty, .string dy, .slice ay ly cy] 28 (0, 0)) := by
    have := World.alloc_heap_new (w2.alloc (.cells #[.int .i64 k, .string dx, .string ⟨#[]⟩, .slice none 0 0, .string ⟨#[]⟩, .slice none 0 0] 25)) (.cells #[.int .i64 ty, .string dy, .slice ay ly cy] 28)
    rwa [World.size_alloc] at this
   obtain ⟨⟨z0, z1, z2⟩, _⟩ := cells3 hV4
   have hq4 := (hE4.block _ (Array.getElem?_eq_some_iff.1 hq1).1).trans hq1
   have HE4 := H_ (And.intro hE4 (And.intro hF4 hq4))
   have HB2 := H_ hB2
   have n1 : ¬ w2.heap.size = w.heap.size + 1 := by omega
   have n2 : ¬ w.heap.size + 1 = w2.heap.size := by omega
   clear hb hB2 hq1 hq0 lift HB HQ HC HV hE4 hF4 hV4 hq4 U1 x2
   by_cases h4 : k ≠ 4
   ·obtain rfl : O = some (Fp.mk k dx dy [] ⟨#[]⟩ []) := by rw [un HO, if_pos h4]
    have HCy := H_ fun W => F.clone_any dy W (by have := (un HXY).2; omega)
    have b4 : (k != 4) = true := by simpa using h4
    clear h4 hgn1 HG
    go_wp2_with fail
    refine ((un HCy) _).mono ?_
    rintro e w5 ⟨rfl, hb⟩
    obtain ⟨hE4, hF4, hq4⟩ := un HE4
    have hF5 := (hb.block _ (Array.getElem?_eq_some_iff.1 hF4).1).trans hF4
    have hq5 := (hb.block _ (Array.getElem?_eq_some_iff.1 hq4).1).trans hq4
    have hB5 := ((un HB2).trans (hE4.mono (un HB2).size))
    have hB5 := hB5.trans (hb.mono hB5.size)
    obtain ⟨⟨c0, c1, c2, c3, c4, c5⟩, g0, g1, g2, g3, g4, g5⟩ := box6 hq5
    obtain ⟨⟨d0, d1, d2, d3, d4, d5⟩, f0, f1, f2, f3, f4, f5⟩ := box6 hF5
    dsimp only [zfd] at c0 c1 c2 c3 c4 c5 d0 d1 d2 d3 d4 d5
    have HZ := H_ (And.intro hB5 hq5)
    clear hE4 hF4 hq4 hF5 hq5 hB5 hb HE4 HCy X2 V0 V1 V2 z0 z1 z2
    go_wp2
    obtain ⟨hB5, hq5⟩ := un HZ
    have hB6 : Below w.heap.size w (w5.setCell ⟨w2.heap.size, 2, none⟩ (.string dy)) := ⟨hB5.os, hB5.tape, hB5.output, by simpa using hB5.size, fun q hq => (Below.heap_setCell _ _ _ _ (by show q ≠ w2.heap.size; omega)).trans (hB5.block q hq)⟩
    have hq6 := (Below.heap_setCell w5 ⟨w2.heap.size, 2, none⟩ (.string dy) (w.heap.size + 1) (by show w.heap.size + 1 ≠ w2.heap.size; omega)).trans hq5
    change bodyPost _ _ _ _ _ (set6 (w5.setCell ⟨w2.heap.size, 2, none⟩ (.string dy)) (w.heap.size + 1) ⟨k, dx, dy, none, 0, 0, ⟨#[]⟩, none, 0, 0⟩)
    generalize w5.setCell ⟨w2.heap.size, 2, none⟩ (.string dy) = w6 at *
    exact finK (set6_blk hq6 _) rfl rfl ⟨below_set6 hB6 (by omega) _, _, rfl, gval_node k _ _ (un HXY).1 (un HXY).2⟩
   ·have b4 : (k != 4) = false := by simpa using h4
    by_cases hy6 : 6 < ly
    ·obtain rfl : O = none := by rw [un HO, if_neg h4, if_pos hy6]
     have hy6i : (6 : Int) < ly := by omega
     obtain ⟨W4, hW4⟩ : ∃ W4, W4 = ((w2.alloc (.cells #[.int .i64 k, .string dx, .string ⟨#[]⟩, .slice none 0 0, .string ⟨#[]⟩, .slice none 0 0] 25)).alloc (.cells #[.int .i64 ty, .string dy, .slice ay ly cy] 28)) := ⟨_, rfl⟩
     obtain ⟨hE4, hF4, hq4⟩ := un HE4
     rw [<- hW4] at hE4 hq4
     have hB4 := (un HB2).trans (hE4.mono (un HB2).size)
     have gv := ((un HG).next hB4).vco
     obtain ⟨⟨c0, c1, c2, c3, c4, c5⟩, g0, g1, g2, g3, g4, g5⟩ := box6 hq4
     dsimp only [zfd] at c0 c1 c2 c3 c4 c5
     have HZ := H_ (And.intro hB4 hq4)
     have HWe := H_ hW4
     clear hE4 hF4 hq4 HE4 hB4 hW4 HG hy6 HNy
     go_wp2_with fail
     rw [<- un HWe]
     clear HWe z0 z1 z2 V0 V1 V2 X2
     refine wp_mono (Q := fun e a1 V => match e with | .normal => a1.defers = [] /\ a1.tmps.getD 4 undef = .pointer (some ⟨w.heap.size + 1, 0, none⟩) /\ a1.tmps.getD 5 undef = sen A.co /\ V = (set6 W4 (w.heap.size + 1) zfd).drew | _ => False) ?_ ?_
     ·go_region
      all_goals refine ⟨rfl, by simp, by simp, ?_⟩
      all_goals simp only [set6, zfd]
     rintro e ⟨tmps, defers⟩ U hq
     cases e with
     | normal =>
      obtain ⟨hdf, t4, t5, hU⟩ := hq
      dsimp only at hdf t4 t5
      subst hdf
      have HT := H_ (And.intro t4 (And.intro t5 hU))
      clear t4 t5 hU c0 c1 c2 c3 c4 c5 g0 g1 g2 g3 g4 g5 gv
      go_wp2
      obtain ⟨t4, t5, hU⟩ := un HT
      have g0 := set6_blk (un HZ).2 zfd
      have hbX := below_set6 (un HZ).1 (Nat.le_succ w.heap.size) zfd
      generalize set6 W4 (w.heap.size + 1) zfd = X at hU g0 hbX
      subst hU
      exact finK (b := w.heap.size + 1) (d := zfd) (V := X.drew) g0 t4 t5 ⟨hbX.drew, _, _, _, rfl, IsErr.sen (.inr (.inr (.inl rfl)))⟩
     | _ => exact hq.elim
    ·obtain rfl : O = some (Fp.mk 4 dx (take (Tv.kids y)).1 (take (Tv.kids y)).2.1 (take (Tv.kids y)).2.2 []) := by rw [un HO, if_neg h4, if_neg hy6]; rfl
     have hy6i : ¬ (6 : Int) < ly := by omega
     have hly := un Hly
     have hNy := (un HNy).below (un HB2)
     obtain ⟨hE4, hF4, hq4⟩ := un HE4
     have hNy := hNy.below hE4
     obtain ⟨hty, hdy, -, -⟩ := node_td hNy
     change ty = Tv.tag y at hty
     change dy = Tv.dat y at hdy
     change ly = (Tv.kids y).length at hly
     have hks6 : (Tv.kids y).length <= 6 := by omega
     have hTP := takeP_any y ((w2.alloc (.cells #[.int .i64 k, .string dx, .string ⟨#[]⟩, .slice none 0 0, .string ⟨#[]⟩, .slice none 0 0] 25)).alloc (.cells #[.int .i64 ty, .string dy, .slice ay ly cy] 28)) (fun b => b < w.heap.size) ay cy w2.heap.size k dx (by rw [<- hty, <- hdy, <- hly]; exact hNy) (by omega) hks6 hF4
     rw [<- hly] at hTP
     have HTP := H_ hTP
     clear hty hdy hly hNy hTP hE4 hF4 hq4 HG hgn1
     go_wp2_with fail
     refine (un HTP).mono ?_
     rintro e w5 ⟨⟨vv, rfl⟩, sa, sc, hT⟩
     obtain ⟨hE4, hF4, hq4⟩ := un HE4
     have hq5 := (hT.but.block _ (Array.getElem?_eq_some_iff.1 hq4).1 (by omega)).trans hq4
     have hB4 := (un HB2).trans (hE4.mono (un HB2).size)
     have hB5 : Below w.heap.size w w5 := ⟨hT.but.os.trans hB4.os, hT.but.tape.trans hB4.tape, hT.but.output.trans hB4.output, Nat.le_trans hB4.size hT.but.size, fun q hq => (hT.but.block q (by have := hB4.size; omega) (by omega)).trans (hB4.block q hq)⟩
     have hsm := take_small (M := 2000) (Tv.kids y) (fun x hx => okN_dat ((un Hoky).2.2 x hx))
     have hsl := take_le (Tv.kids y)
     generalize take (Tv.kids y) = s at *
     obtain ⟨⟨c0, c1, c2, c3, c4, c5⟩, g0, g1, g2, g3, g4, g5⟩ := box6 hq5
     obtain ⟨⟨d0, d1, d2, d3, d4, d5⟩, f0, f1, f2, f3, f4, f5⟩ := box6 hT.b
     dsimp only [zfd] at c0 c1 c2 c3 c4 c5 d0 d1 d2 d3 d4 d5
     have hz4 := hE4.size
     have HZ := H_ (And.intro hB5 (And.intro hq5 (And.intro hT (And.intro hsm (And.intro hsl hz4)))))
     clear hE4 hF4 hq4 hq5 hB4 hB5 hT hsm HE4 HTP X2 V0 V1 V2 z0 z1 z2 hz4
     go_wp2
     obtain ⟨hB5, hq5, hT, hsm, hsl, hz4⟩ := un HZ
     change bodyPost _ _ _ _ _ (set6 w5 (w.heap.size + 1) ⟨k, dx, s.1, sa, s.2.1.length, sc, s.2.2, none, 0, 0⟩)
     have hbt := set6_but w5 (w.heap.size + 1) ⟨k, dx, s.1, sa, s.2.1.length, sc, s.2.2, none, 0, 0⟩
     have g0 := set6_blk hq5 ⟨k, dx, s.1, sa, s.2.1.length, sc, s.2.2, none, 0, 0⟩
     have hbX := below_set6 hB5 (Nat.le_succ w.heap.size) ⟨k, dx, s.1, sa, s.2.1.length, sc, s.2.2, none, 0, 0⟩
     generalize set6 w5 (w.heap.size + 1) ⟨k, dx, s.1, sa, s.2.1.length, sc, s.2.2, none, 0, 0⟩ = X at *
     refine finK g0 rfl rfl ⟨hbX, _, rfl, ⟨(Classical.not_not.1 h4), rfl, rfl, rfl, rfl, rfl⟩, ⟨(un HXY).1, hsm.1, hsm.2.1, ?_, hsm.2.2, Nat.zero_le _⟩, ?_, .inl rfl⟩
     ·show s.2.1.length <= 1000
      omega
     ·show Strs X _ sa s.2.1
      by_cases hnil : s.2.1 = []
      ·exact .inl hnil
      ·have hpos : 0 < s.2.1.length := by
        cases hs : s.2.1 with
        | nil => exact absurd hs hnil
        | cons _ _ => simp
       obtain ⟨gg, cp, hsl2, _, _⟩ := hT.own.form hpos
       injection hsl2 with e1 _ e3
       subst e1
       have ho := hT.own
       obtain ⟨hc1, hc2, _⟩ := own_cells s.2.1 ho
       have hgl := (ho.lt gg rfl).1
       refine .inr ⟨gg, 0, rfl, by omega, fun i x hi => ?_⟩
       have h1 := hc1 i x hi
       exact (World.cell?_of_block (w := w5) (a := ⟨gg, 0 + i, none⟩) (hbt.block gg hc2 (by omega))).trans h1
  ·rw [asked_len h7 hl]
   have bl : (((Tv.kids T).length : Int) != 2) = true := by simp; omega
   obtain ⟨W, hW⟩ : ∃ W, W = ((w.alloc (.cells #[.int .i64 (Tv.tag T), .string (Tv.dat T), .slice a (Tv.kids T).length cap] 28)).alloc (.cells #[.int .i64 0, .string ⟨#[]⟩, .string ⟨#[]⟩, .slice none 0 0, .string ⟨#[]⟩, .slice none 0 0] 25)) := ⟨_, rfl⟩
   rw [<- hW] at c0 c1 c2 c3 c4 c5 g0 g1 g2 g3 g4 g5 gv
   have HB' : Hid (Below w.heap.size w W) := H_ (by rw [hW]; exact un HB)
   have HQ' : Hid (W.heap[w.heap.size + 1]? = some (.cells (F.Fd.cs zfd) 25 (0, 0))) := H_ (by rw [hW]; exact (un HQ).2)
   have HWe := H_ hW
   clear hN hN0 hks hkok g hb0 q0 q1 HN hl h7 hdz hW HB HQ HG
   go_enter Tryz.func152, Tryz.ntmps152
   go_wp2_with fail
   rw [<- un HWe]
   clear HWe x0 x1 x2
   refine wp_mono (Q := fun e a1 V => match e with | .normal => a1.defers = [] /\ a1.tmps.getD 4 undef = .pointer (some ⟨w.heap.size + 1, 0, none⟩) /\ a1.tmps.getD 5 undef = sen A.co /\ V = (set6 W (w.heap.size + 1) zfd).drew | _ => False) ?_ ?_
   ·go_region
    all_goals refine ⟨rfl, by simp, by simp, ?_⟩
    all_goals simp only [set6, zfd]
   rintro e ⟨tmps, defers⟩ U hq
   cases e with
   | normal =>
    obtain ⟨hdf, t4, t5, hU⟩ := hq
    dsimp only at hdf t4 t5
    subst hdf
    have HT := H_ (And.intro t4 (And.intro t5 hU))
    clear t4 t5 hU c0 c1 c2 c3 c4 c5 g0 g1 g2 g3 g4 g5 gv
    go_wp2
    obtain ⟨t4, t5, hU⟩ := un HT
    have g0 := set6_blk (un HQ') zfd
    have hbX := below_set6 (un HB') (Nat.le_succ w.heap.size) zfd
    generalize set6 W (w.heap.size + 1) zfd = X at hU g0 hbX
    subst hU
    exact finK (b := w.heap.size + 1) (d := zfd) (V := X.drew) g0 t4 t5 ⟨hbX.drew, _, _, _, rfl, IsErr.sen (.inr (.inr (.inl rfl)))⟩
   | _ => exact hq.elim
end Go.Proofs.YtmenllnokgjdlaaGreatDoor.G
