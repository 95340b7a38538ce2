/- Several texts in one: FCheck, FNamesB, FPure2, FSame, FPrint. Each says what it proves, and its conditions. -/
import Derived.Test.YtmenllnokgjdlaaGreatDoorFFitsU
set_option linter.unusedSimpArgs false
set_option maxHeartbeats 2000000
set_option maxRecDepth 100000
/-
 What filt.check answers, and filt.Right. Conditions: the package-level variables hold what the program's text lays.
-/
namespace Go.Proofs.YtmenllnokgjdlaaGreatDoor.F
open Go Go.RowKit Go.Shelf Fp
open D (H_ un)
attribute [local go_sem] Oper.semAt_some
theorem size_setCell (W : World) (a : Addr) (v : Value) : (W.setCell a v).heap.size = W.heap.size := by simp [World.setCell]
abbrev four (w : World) (d : Fd) : World := (((w.alloc d.obj).alloc (.cells #[.nilIface] 52)).alloc (.cells #[.int .i64 0] 3)).alloc d.obj
theorem four_below (w : World) (d : Fd) : Below w.heap.size w (four w d) := ((((Below.refl _ _).alloc (Nat.le_refl _) _).alloc (by simp) _).alloc (by simp; omega) _).alloc (by simp; omega) _
theorem four_at (w : World) (d : Fd) : (four w d).heap[w.heap.size]? = some (.cells d.cs 25 (0, 0)) /\ (four w d).heap[w.heap.size + 1]? = some (.cells #[.nilIface] 52 (0, 0)) /\
  (four w d).heap[w.heap.size + 1 + 1]? = some (.cells #[.int .i64 0] 3 (0, 0)) /\ (four w d).heap[w.heap.size + 1 + 1 + 1]? = some (.cells d.cs 25 (0, 0)) := by
 have h : (four w d).heap = (((w.heap.push (.cells d.cs 25)).push (.cells #[.nilIface] 52)).push (.cells #[.int .i64 0] 3)).push (.cells d.cs 25) := rfl
 refine ⟨?_, ?_, ?_, ?_⟩
 ·rw [Below.heap_alloc _ _ _ (by simp; omega), Below.heap_alloc _ _ _ (by simp; omega), Below.heap_alloc _ _ _ (by simp)]; exact World.alloc_heap_new w _
 ·rw [h]; simp [Array.getElem_push]
 ·rw [h]; simp [Array.getElem_push]
 ·rw [h]; simp [Array.getElem_push]
structure InvC (w : World) (y : Value) (W : World) : Prop where
 b1 : W.heap[w.heap.size + 1]? = some (.cells #[y] 52 (0, 0))
 b2 : ∃ c, W.heap[w.heap.size + 1 + 1]? = some (.cells #[.int .i64 c] 3 (0, 0))
 bel : Below w.heap.size w W
 sz : w.heap.size + 4 <= W.heap.size
theorem InvC.ext {w : World} {y : Value} {A B : World} (h : InvC w y A) (hb : ∀ x, x < w.heap.size + 3 -> B.heap[x]? = A.heap[x]?) (ho : B.os = A.os /\ B.tape = A.tape /\ B.output = A.output) (hz : A.heap.size <= B.heap.size) : InvC w y B :=
 ⟨(hb _ (by omega)).trans h.b1, let ⟨c, e⟩ := h.b2; ⟨c, (hb _ (by omega)).trans e⟩, ⟨ho.1.trans h.bel.os, ho.2.1.trans h.bel.tape, ho.2.2.trans h.bel.output, Nat.le_trans h.bel.size hz, fun k hk => (hb k (by omega)).trans (h.bel.block k hk)⟩, Nat.le_trans h.sz hz⟩
theorem InvC.but {w : World} {y : Value} {A B : World} {l : Nat} (h : InvC w y A) (hl : w.heap.size + 4 <= l) (hb : But l A B) : InvC w y B :=
 h.ext (fun x hx => hb.block x (by have := h.sz; omega) (by omega)) ⟨hb.os, hb.tape, hb.output⟩ hb.size
theorem InvC.below {w : World} {y : Value} {A B : World} (h : InvC w y A) (hb : Below A.heap.size A B) : InvC w y B :=
 h.ext (fun x hx => hb.block x (by have := h.sz; omega)) ⟨hb.os, hb.tape, hb.output⟩ hb.size
theorem InvC.cells {w : World} {y : Value} {A : World} (h : InvC w y A) : (A.cell? ⟨w.heap.size + 1, 0, none⟩ = some y /\ ∃ c, A.cell? ⟨w.heap.size + 1 + 1, 0, none⟩ = some (.int .i64 c)) /\ A.frozen? ⟨w.heap.size + 1, 0, none⟩ = false /\ A.frozen? ⟨w.heap.size + 1 + 1, 0, none⟩ = false := by
 obtain ⟨c, hc⟩ := h.b2
 refine ⟨⟨?_, c, ?_⟩, ?_, ?_⟩ <;> simp [World.cell?, World.frozen?, h.b1, hc]
theorem InvC.setWhy {w : World} {y : Value} {A : World} (h : InvC w y A) (y' : Value) : InvC w y' (A.setCell ⟨w.heap.size + 1, 0, none⟩ y') :=
 ⟨heap_set A _ 0 _ _ _ h.b1, let ⟨c, e⟩ := h.b2; ⟨c, (Below.heap_setCell _ _ _ _ (by show w.heap.size + 1 + 1 ≠ w.heap.size + 1; omega)).trans e⟩, h.bel.setCell (p := ⟨w.heap.size + 1, 0, none⟩) (by show _ <= w.heap.size + 1; omega) _, by rw [size_setCell]; exact h.sz⟩
theorem InvC.setAt {w : World} {y : Value} {A : World} (h : InvC w y A) (c' : Int) : InvC w y (A.setCell ⟨w.heap.size + 1 + 1, 0, none⟩ (.int .i64 c')) :=
 ⟨(Below.heap_setCell _ _ _ _ (by show w.heap.size + 1 ≠ w.heap.size + 1 + 1; omega)).trans h.b1, let ⟨c, e⟩ := h.b2; ⟨c', heap_set A _ 0 _ _ _ e⟩, h.bel.setCell (p := ⟨w.heap.size + 1 + 1, 0, none⟩) (by show _ <= w.heap.size + 1 + 1; omega) _, by rw [size_setCell]; exact h.sz⟩
theorem below_put {B l : Nat} {a w : World} (h : Below B a w) (hl : B <= l) (o : Obj) : Below B a (w.putObj l o) :=
 ⟨h.os, h.tape, h.output, by rw [World.putObj_size]; exact h.size, fun k hk => (World.putObj_heap_other (by omega)).trans (h.block k hk)⟩
def OutC (A : Ad) (w : World) (cd : Code) (W : World) : Prop := cd = .exit 0 /\ ∃ v, IsErr A v /\ InvC w v W
theorem check_any (n : Nat) (F : Fl (n + 1)) (A : Ad) (w : World) (p : Nat -> Prop) (d : Fd) (g : Glob A w) (hN : FNode (n + 1) w p d F) (hn : n <= 99) :
  Calls Tryz.prog 44 #[d.val] w (FitPost A w (right (n + 1) 6 F)) := by
 have hvr := vis_right (n + 1) 1 F
 rw [show 7 - 1 = 6 from rfl] at hvr
 obtain ⟨k, a, v, sa, sn, sc, f, la, ln, lc⟩ := d
 have hNw : FNode (n + 1) w (fun b => b < w.heap.size) ⟨k, a, v, sa, sn, sc, f, la, ln, lc⟩ F := hN.imp fun b _ hl => hl
 refine (callsIn_wide (n := 7)).1 ?_
 refine callsIn_of_wp_marks Tryz.func44 rfl trivial ?_ rfl
 simp only [Tryz.ntmps44, List.size_toArray, List.length_cons, List.length_nil, Nat.reduceAdd, Nat.reduceSub, Array.replicate_succ, Array.replicate_zero, List.push_toArray, List.append_toArray, List.nil_append, List.cons_append]
 refine wpIn_wide.2 ?_
 have HNw := H_ hNw
 have HV := H_ hvr
 clear hN hNw hvr
 go_wp2
 refine wp_scope_straight ?_
 go_wp2
 refine wp_label ?_
 go_wp2_with (go_at_call 66; refine (all_any ⟨k, a, v, sa, sn, sc, f, la, ln, lc⟩ _).mono ?_; rintro e w' ⟨rfl, rfl⟩)
 change Code.wp _ _ _ _ (four w ⟨k, a, v, sa, sn, sc, f, la, ln, lc⟩)
 obtain ⟨q0, q1, q2, q3⟩ := four_at w ⟨k, a, v, sa, sn, sc, f, la, ln, lc⟩
 have hB0 := four_below w ⟨k, a, v, sa, sn, sc, f, la, ln, lc⟩
 have hz : (four w ⟨k, a, v, sa, sn, sc, f, la, ln, lc⟩).heap.size = w.heap.size + 4 := by simp
 have hInv : InvC w .nilIface (four w ⟨k, a, v, sa, sn, sc, f, la, ln, lc⟩) := ⟨q1, ⟨_, q2⟩, hB0, by omega⟩
 generalize four w ⟨k, a, v, sa, sn, sc, f, la, ln, lc⟩ = W0 at *
 clear q0 q1 q2 hB0
 refine (wpIn_wide (n := 7)).1 ?_
 refine range_own (α := Pv × Fd) (σ := Unit) (gf := 101) (lb := #[.pointer (some ⟨w.heap.size + 1 + 1 + 1, 0, none⟩)]) rfl (enters_of Tryz.func101 (by kernel_rfl) rfl)
  (fun x => #[.int .i64 x.1.deep, x.2.val]) (fun _ => rfl) (Kf w.heap.size (w.heap.size + 5)) (fun A B => Below A.heap.size A B)
  (fun _ W => InvC w .nilIface W) (fun cd _ W => OutC A w cd W) (fun _ x W => PrV w.heap.size x.1 x.2 W) (fun _ _ => ()) ()
  (fun _ _ => right (n + 1) 6 F = true) (fun _ => right (n + 1) 6 F = false) (fun _ x => x.1.deep <= 6 /\ x.1.ok = true) (fun _ x => ¬ (x.1.deep <= 6 /\ x.1.ok = true))
  (fun x B => B.alloc x.2.obj) (fun x B => { tmps := #[.agg #[.int .i64 k, .string a, .string v, .slice sa sn sc, .string f, .slice la ln lc], .pointer (some ⟨w.heap.size, 0, none⟩), .nilIface, .pointer (some ⟨w.heap.size + 1, 0, none⟩), .pointer (some ⟨w.heap.size + 1 + 1, 0, none⟩), .int .i64 x.1.deep, .pointer (some ⟨B.heap.size, 0, none⟩), .agg #[.int .i64 k, .string a, .string v, .slice sa sn sc, .string f, .slice la ln lc], .func (.func 101) #[] #[.pointer (some ⟨w.heap.size + 1 + 1 + 1, 0, none⟩)], .int .i64 x.1.deep, x.2.val, undef, undef, undef, undef, undef, undef, undef, undef, undef, undef, undef, undef, undef, undef, undef, undef, undef], defers := [] }) (fun x W => (Below.refl _ _).alloc (Nat.le_refl _) _)
  Kf.trans ?_ ?_ ?_ ?_ ?_ ?_ (fun _ _ _ _ h => h) hInv ?iter ?assign ?body ?done ?stop
 ·intro X Y hxy; rw [hz] at hxy; exact Kf.of_but hxy
 ·intro X Y hxy hsz; rw [hz] at hsz ⊢; exact ⟨hxy.block _ (by omega), hxy.block _ (by omega)⟩
 ·intro _ X Y hxy h; rw [hz] at hxy; exact h.but (by omega) hxy
 ·intro _ X Y hxy _ h; exact h.below hxy
 ·rintro cd _ X Y hxy ⟨rfl, v, h1, h2⟩; rw [hz] at hxy; exact ⟨rfl, v, h1, h2.but (by omega) hxy⟩
 ·rintro _ x X Y hxy ⟨m, F', h1, h2, h3, h4⟩; rw [hz] at hxy; exact ⟨m, F', h1, h2, h3.of (fun b hb hl => hxy.block b hl (by omega)), h4⟩
 case iter =>
  intro W hbW hzW J Jx hJ hJI hY h0
  rw [hz] at hbW hzW hY ⊢
  have hNW : FNode (n + 1) W (fun b => b < w.heap.size) ⟨k, a, v, sa, sn, sc, f, la, ln, lc⟩ F := ((un HNw).below hInv.bel).of fun b hb hl => hbW.block b hl (by omega)
  refine (all1_any n w.heap.size (w.heap.size + 4 + 1) (w.heap.size + 1 + 1 + 1) (by omega) F (fun (_ : Unit) q => q.deep <= 6 /\ q.ok = true) (fun _ q => ¬ (q.deep <= 6 /\ q.ok = true)) (fun _ _ => ()) J Jx (fun c A o h => hJ c A _ ((Below.refl _ _).alloc (Nat.le_refl _) o) h)
   (fun c X hX => by have := (hJI c X hX).2; rw [hz] at this; omega)
   (fun _ _ => True) (fun c q d W' m hj _ hp => (hY c (q, d) W' m hj hp).mono fun e W2 h => h.imp (fun ⟨h1, h2, h3⟩ => ⟨h1, h2, h3⟩) fun ⟨h1, h2, h3⟩ => ⟨h1, h2, h3⟩) () W _ (fun _ _ _ _ => trivial) hNW hn h0 (At.box (d := ⟨k, a, v, sa, sn, sc, f, la, ln, lc⟩) ((hbW.block _ (by omega) (by omega)).trans q3))).mono ?_
  rintro e W' ⟨h1, e', (⟨h2, h3, h4, h5⟩ | ⟨h2, L1, q, L2, h3, h4, h5⟩)⟩
  ·refine ⟨h1, .inl ⟨(), ?_, h4⟩⟩
   rw [un HV, List.all_eq_true]
   intro q hq
   obtain ⟨L1, L2, e⟩ := List.append_of_mem hq
   simpa using h3 L1 q L2 e
  ·refine ⟨h1, .inr ⟨(), ?_, h5⟩⟩
   rw [un HV, List.all_eq_false]
   exact ⟨q, by rw [h3]; simp, by simpa using h4⟩
 case assign =>
  intro c x W K _ _ hK
  gi_wp2
  exact hK
 case body =>
  rintro _ ⟨⟨deep, ok, qnm⟩, d⟩ B W hI hPr hB hbb _
  go_light
  rw [hz] at hB hbb ⊢
  obtain ⟨m, F', hIs, hSm, hSt, hok, hnm⟩ := hPr
  have hbox : At W B.heap.size 0 d := At.box ((hbb.block B.heap.size (by simp) (by omega)).trans (World.alloc_heap_new B _))
  have hBW : B.heap.size < W.heap.size := hbox.lt
  have gW := g.next hI.bel
  have H := fits_any F' d A W _ gW hIs hSm hSt
  dsimp only at hok
  rw [<- hok] at H
  replace H := H_ H
  have hgl := D.lt_cell g.vde
  obtain ⟨k', a', v', sa', sn', sc', f', la', ln', lc'⟩ := d
  obtain ⟨c0, c1, c2, c3, c4, c5⟩ := hbox
  dsimp only at c0 c1 c2 c3 c4 c5
  obtain ⟨⟨y1, c, y2⟩, f1, f2⟩ := hI.cells
  have HI := H_ hI
  have HG := H_ gW
  have hgl' := H_ hgl
  clear hI hIs hSm hSt hok hnm gW hgl hbb
  cases ok
  ·gi_wp2_with fail
   refine ⟨trivial, (CallsIn.inRound _ (callsIn_wide.2 (un H))).mono ?_⟩
   rintro e w' ⟨hb, hp⟩
   rw [if_neg (by simp)] at hp
   obtain ⟨u, rfl, hE⟩ := hp
   obtain ⟨T, x, rfl⟩ := hE.form
   have hI2 := (un HI).below hb
   have gde : ∀ v, (w'.setCell ⟨w.heap.size + 1, 0, none⟩ v).cell? ⟨5, 0, none⟩ = some (sen A.de) := fun v => by rw [World.cell?_setCell_far _ _ _ _ (by have := un hgl'; simp at this ⊢; try omega)]; exact ((un HG).next hb).vde
   obtain ⟨⟨z1, c', z2⟩, g1, g2⟩ := hI2.cells
   have HB := H_ hb
   have HI2 := H_ hI2
   have HE := H_ hE
   clear hI2 hb H hE y1 y2 f1 f2
   have two1 : ∀ v, Two (w.heap.size + 4) (w.heap.size + 4 + 1) W (w'.setCell ⟨w.heap.size + 1, 0, none⟩ v) := fun v => ⟨(Below.heap_setCell _ _ _ _ (by show w.heap.size + 4 ≠ w.heap.size + 1; omega)).trans ((un HB).block _ (by omega)), (Below.heap_setCell _ _ _ _ (by show w.heap.size + 4 + 1 ≠ w.heap.size + 1; omega)).trans ((un HB).block _ (by omega))⟩
   have T1 := H_ two1
   clear two1
   by_cases h6 : 6 < deep
   ·have h6' : (6 : Int) < deep := by omega
    gi_wp2
    exact ⟨trivial, ⟨(Below.heap_setCell _ _ _ _ (by show w.heap.size + 4 ≠ w.heap.size + 1; omega)).trans ((un T1) _).1, (Below.heap_setCell _ _ _ _ (by show w.heap.size + 4 + 1 ≠ w.heap.size + 1; omega)).trans ((un T1) _).2⟩, rfl, _, IsErr.sen (isS_de A), ((un HI2).setWhy _).setWhy _⟩
   ·have h6' : ¬ (6 : Int) < deep := by omega
    gi_wp2
    exact ⟨trivial, (un T1) _, rfl, _, un HE, (un HI2).setWhy _⟩
  ·gi_wp2_with fail
   refine ⟨trivial, (CallsIn.inRound _ (callsIn_wide.2 (un H))).mono ?_⟩
   rintro e w' ⟨hb, hp⟩
   rw [if_pos rfl] at hp
   subst hp
   have hI2 := (un HI).below hb
   have gde : ∀ v, (w'.setCell ⟨w.heap.size + 1, 0, none⟩ v).cell? ⟨5, 0, none⟩ = some (sen A.de) := fun v => by rw [World.cell?_setCell_far _ _ _ _ (by have := un hgl'; simp at this ⊢; try omega)]; exact ((un HG).next hb).vde
   obtain ⟨⟨z1, c', z2⟩, g1, g2⟩ := hI2.cells
   have HB := H_ hb
   have HI2 := H_ hI2
   clear hI2 hb H y1 y2 f1 f2
   have two1 : ∀ v, Two (w.heap.size + 4) (w.heap.size + 4 + 1) W (w'.setCell ⟨w.heap.size + 1, 0, none⟩ v) := fun v => ⟨(Below.heap_setCell _ _ _ _ (by show w.heap.size + 4 ≠ w.heap.size + 1; omega)).trans ((un HB).block _ (by omega)), (Below.heap_setCell _ _ _ _ (by show w.heap.size + 4 + 1 ≠ w.heap.size + 1; omega)).trans ((un HB).block _ (by omega))⟩
   have T1 := H_ two1
   clear two1
   by_cases h6 : 6 < deep
   ·have h6' : (6 : Int) < deep := by omega
    have h6n : ¬ deep <= 6 := by omega
    gi_wp2
    refine ⟨by simp, ⟨(Below.heap_setCell _ _ _ _ (by show w.heap.size + 4 ≠ w.heap.size + 1; omega)).trans ((un T1) _).1, (Below.heap_setCell _ _ _ _ (by show w.heap.size + 4 + 1 ≠ w.heap.size + 1; omega)).trans ((un T1) _).2⟩, rfl, _, IsErr.sen (isS_de A), ((un HI2).setWhy _).setWhy _⟩
   ·have h6' : ¬ (6 : Int) < deep := by omega
    have h6n : deep <= 6 := by omega
    gi_wp2
    have hzb := (un HB).size
    refine ⟨by simp, ⟨(Below.heap_setCell _ _ _ _ (by show w.heap.size + 4 ≠ w.heap.size + 1 + 1; omega)).trans ((un T1) _).1, (Below.heap_setCell _ _ _ _ (by show w.heap.size + 4 + 1 ≠ w.heap.size + 1 + 1; omega)).trans ((un T1) _).2⟩, ⟨by rw [size_setCell, size_setCell]; exact hzb, fun k' hk _ ho => ?_⟩, ((un HI2).setWhy _).setAt _⟩
    have ne1 : k' ≠ w.heap.size + 1 := fun e => by
     rcases ho with h | ⟨cs, h⟩
     ·omega
     ·rw [e, (un HI).b1] at h; exact absurd h (by simp)
    have ne2 : k' ≠ w.heap.size + 1 + 1 := fun e => by
     rcases ho with h | ⟨cs, h⟩
     ·omega
     ·obtain ⟨c, hc⟩ := (un HI).b2
      rw [e, hc] at h; exact absurd h (by simp)
    exact (Below.heap_setCell _ _ _ _ (show k' ≠ (⟨w.heap.size + 1 + 1, 0, none⟩ : Addr).block from ne2)).trans ((Below.heap_setCell _ _ _ _ (show k' ≠ (⟨w.heap.size + 1, 0, none⟩ : Addr).block from ne1)).trans ((un HB).block k' hk))
 case done =>
  rintro _ W hr hI hK
  rw [hz] at hK
  obtain ⟨⟨y1, c, y2⟩, f1, f2⟩ := hI.cells
  have HK := H_ hK
  have HI := H_ hI
  have HR := H_ hr
  clear hK hI hr hInv q3
  go_wp2
  refine ⟨by simp, .inl ⟨_, _, rfl, run_takeDeferred ((congrArg (fun x => W.heap[x]?) hz).trans (un HK)), ?_⟩⟩
  refine ⟨_, results_tmp rfl _ _ _, below_put (un HI).bel (by omega) _, ?_⟩
  rw [un HR, if_pos rfl]
  rfl
 case stop =>
  rintro cd _ W hr ⟨rfl, v, hE, hI⟩ hK
  rw [hz] at hK
  obtain ⟨⟨y1, c, y2⟩, f1, f2⟩ := hI.cells
  obtain ⟨T, x, rfl⟩ := hE.form
  have HK := H_ hK
  have HI := H_ hI
  have HR := H_ hr
  have HE := H_ hE
  clear hK hI hr hE hInv q3
  refine wpIn_exit ?_
  go_wp2
  refine ⟨by simp, .inl ⟨_, _, rfl, run_takeDeferred ((congrArg (fun x => W.heap[x]?) hz).trans (un HK)), ?_⟩⟩
  refine ⟨_, results_tmp rfl _ _ _, below_put (un HI).bel (by omega) _, ?_⟩
  rw [un HR, if_neg (by simp)]
  exact ⟨_, rfl, (un HE).wrap _⟩
theorem right_any (n : Nat) (F : Fl (n + 1)) (A : Ad) (w : World) (p : Nat -> Prop) (d : Fd) (g : Glob A w) (hN : FNode (n + 1) w p d F) (hn : n <= 99) :
  Calls Tryz.prog 24 #[d.val] w fun e w' => e = .returned (.bool (right (n + 1) 6 F)) /\ Below w.heap.size w w' := by
 have hb0 : ∀ o, Below w.heap.size w (w.alloc o) := fun o => (Below.refl _ _).alloc (Nat.le_refl _) o
 have H := H_ fun o => check_any n F A (w.alloc o) p d (g.alloc o) (hN.below (hb0 o)) hn
 have HG := H_ g
 have HB := H_ hb0
 generalize right (n + 1) 6 F = b at *
 obtain ⟨k, a, v, sa, sn, sc, f, la, ln, lc⟩ := d
 clear hN g hb0
 cases b
 ·go_enter Tryz.func24, Tryz.ntmps24
  go_wp2_with fail
  refine ((un H) _).mono ?_
  rintro e w1 ⟨hb, hp⟩
  rw [if_neg (by simp)] at hp
  obtain ⟨u, rfl, hE⟩ := hp
  have HB1 := H_ ((un HB _).trans (hb.mono (un HB _).size))
  have HN := H_ (errnoOf_any u A w1 ((un HG).next (un HB1)) hE)
  clear hb hE H
  go_wp2_with fail
  refine (un HN).mono ?_
  rintro e w2 ⟨rfl, hb⟩
  have HB2 := H_ ((un HB1).trans (hb.mono (un HB1).size))
  clear hb
  go_wp2
  go_ret
  exact ⟨rfl, un HB2⟩
 ·go_enter Tryz.func24, Tryz.ntmps24
  go_wp2_with fail
  refine ((un H) _).mono ?_
  rintro e w1 ⟨hb, hp⟩
  rw [if_pos rfl] at hp
  subst hp
  have HB1 := H_ ((un HB _).trans (hb.mono (un HB _).size))
  have HN := H_ (errnoOf_nil A w1 ((un HG).next (un HB1)))
  clear hb H
  go_wp2_with fail
  refine (un HN).mono ?_
  rintro e w2 ⟨rfl, hb⟩
  have HB2 := H_ ((un HB1).trans (hb.mono (un HB1).size))
  clear hb
  go_wp2
  go_ret
  exact ⟨rfl, un HB2⟩
end Go.Proofs.YtmenllnokgjdlaaGreatDoor.F
/-
 A list of texts that grows by append in a box, and how many names there may be. Conditions: none.
-/
namespace Go.Proofs.YtmenllnokgjdlaaGreatDoor.F
open Go Go.RowKit Go.Shelf Fp
open D (H_ un)
attribute [local go_sem] Oper.semAt_some
abbrev strs (xs : List ByteArray) : List Value := xs.map Value.string
theorem infoS : ∃ i, Tryz.prog.info? 9 = some i /\ i.zero = some (.string ⟨#[]⟩) /\ i.size = 1 /\ i.bytes = 16 := ⟨Tryz.t9, by kernel_rfl, by kernel_rfl, by kernel_rfl, by kernel_rfl⟩
theorem own_below {W V : World} {base : Nat} {e : TypeId} {size : Nat} {v : Value} {n : Nat} {xs : List Value} (h : W.ownsRow base e size v n xs) (hb : Below W.heap.size W V) : V.ownsRow base e size v n xs :=
 h.kept (row := none) ⟨hb.os, hb.tape, hb.output, hb.size, fun k hk _ => hb.block k hk⟩ (by cases hv : v.ownBlock <;> simp)
theorem own_mono {W : World} {base base' : Nat} {e : TypeId} {size : Nat} {v : Value} {n : Nat} {xs : List Value} (h : W.ownsRow base e size v n xs) (hb : base' <= base) : W.ownsRow base' e size v n xs := by
 obtain ⟨h1, h2 | ⟨g, cap, cur, h3, h4, h5⟩⟩ := h
 ·exact ⟨h1, .inl h2⟩
 ·exact ⟨h1, .inr ⟨g, cap, cur, h3, Nat.le_trans hb h4, h5⟩⟩
def Kr (Lo D : Nat) (W V : World) : Prop := Kf Lo (D + 1) W V /\ Two D (D + 1) W V
theorem Kr.trans {Lo D : Nat} {A B C : World} (h : Kr Lo D A B) (k : Kr Lo D B C) : Kr Lo D A C := ⟨h.1.trans k.1, h.2.trans k.2⟩
theorem cells_new (W : World) (x : Value) (T : TypeId) : ∀ (j : Nat) (u : Value), [x][j]? = some u -> (W.alloc (.cells #[x] T)).cell? ((⟨W.heap.size, 0, none⟩ : Addr).add j) = some u := by
 intro j u h
 rw [Addr.add_lit, Nat.zero_add, World.cell?_alloc_at _ _ _ _ rfl]
 match j, h with
 | 0, h => exact h
def most : Nat -> Nat
 | 0 => 0
 | d + 1 => 1 + 8 * most d
end Go.Proofs.YtmenllnokgjdlaaGreatDoor.F
/-
 Filters, plainly: what is printed of a right filter is read as it; what is read is right. Conditions: none.
-/
namespace Go.Proofs.YtmenllnokgjdlaaGreatDoor.Fp
open Dp (tyL tyB jn mp)
open E (pri und)
open Go.Proofs.YtmenllnokgjdlaaGreatDoor
theorem dx_no (i : Nat) (h : i < 16) : Cd.dx i ≠ 40 /\ Cd.dx i ≠ 41 /\ Cd.dx i ≠ 42 := by
 have : ∀ i : Fin 16, Cd.dx i.val ≠ 40 /\ Cd.dx i.val ≠ 41 /\ Cd.dx i.val ≠ 42 := by decide
 exact this ⟨i, h⟩
theorem pb_no (n p : Nat) (x : UInt8) : ∀ y ∈ Ec.pb false n p x, y ≠ 40 /\ y ≠ 41 /\ y ≠ 42 := by
 intro y hy
 unfold Ec.pb at hy
 split at hy
 ·rename_i h
  simp at hy
  subst hy
  simp only [Ec.res, Bool.and_eq_true, Bool.not_eq_true'] at h
  have h2 := h.2
  simp at h2
  exact ⟨h2.2.2.1, h2.2.2.2, h2.2.1⟩
 ·simp at hy
  rcases hy with rfl | hy
  ·decide
  ·unfold Ec.hx at hy
   have := Ec.u16 x
   simp at hy
   rcases hy with rfl | rfl
   ·exact dx_no _ this.1
   ·exact dx_no _ this.2
theorem prt_no (n : Nat) : ∀ (l : List UInt8) (p : Nat), ∀ y ∈ Ec.prt false n p l, y ≠ 40 /\ y ≠ 41 /\ y ≠ 42
 | [], _, y, h => by cases h
 | x :: r, p, y, h => by
  rw [Ec.prt] at h
  rcases List.mem_append.1 h with h | h
  ·exact pb_no _ _ _ y h
  ·exact prt_no n r _ y h
theorem pv_no (s : ByteArray) : ∀ y ∈ pv s, y ≠ 40 /\ y ≠ 41 /\ y ≠ 42 := fun y hy => by
 rw [pv, E.pri_data] at hy
 exact prt_no _ _ _ y hy
theorem u8_each {p : UInt8 -> Prop} (h : ∀ i : Fin 256, p (UInt8.ofNat i.val)) (x : UInt8) : p x := by
 have := h ⟨x.toNat, x.toNat_lt⟩
 simpa using this
theorem pv_len (s : ByteArray) : (pv s).length <= 3 * s.size := by
 have := (E.pri_size false s).2
 rw [<- E.len_toList] at this
 exact this
theorem pv_nil (s : ByteArray) : pv s = [] ↔ s.size = 0 := by
 have := E.pri_size false s
 rw [<- E.len_toList (pri false s)] at this
 constructor
 ·intro h
  have h2 : (pri false s).data.toList.length = 0 := by rw [show (pri false s).data.toList = [] from h]; rfl
  omega
 ·intro h; exact List.eq_nil_of_length_eq_zero (show (pri false s).data.toList.length = 0 by omega)
theorem rdV_pv (s : ByteArray) : rdV (pv s) = some s := by
 unfold rdV
 rw [pv, E.mk_data, E.und_pri]
 rfl
theorem spl_bytes (c : UInt8) : ∀ (l : List UInt8), ∀ x ∈ l, x = c \/ ∃ q ∈ spl c l, x ∈ q
 | [], x, h => by cases h
 | y :: r, x, h => by
  rw [spl]
  split
  ·rename_i hy
   rcases List.mem_cons.1 h with rfl | h
   ·exact .inl hy
   ·rcases spl_bytes c r x h with h | ⟨q, h1, h2⟩
    ·exact .inl h
    ·exact .inr ⟨q, by simp [h1], h2⟩
  ·split
   ·rename_i hq; exact absurd hq (spl_ne c r)
   ·rename_i p ps hq
    rcases List.mem_cons.1 h with rfl | h
    ·exact .inr ⟨_, by simp; exact .inl rfl, by simp⟩
    ·rcases spl_bytes c r x h with h | ⟨q, h1, h2⟩
     ·exact .inl h
     ·rw [hq] at h1
      rcases List.mem_cons.1 h1 with rfl | h1
      ·exact .inr ⟨_, by simp; exact .inl rfl, by simp [h2]⟩
      ·exact .inr ⟨q, by simp [h1], h2⟩
theorem name_bytes {l : List UInt8} (h : nmL l = true) : (∀ x ∈ l, tyB x = true \/ x = 59) /\ l ≠ [] /\ (∀ x, l.head? = some x -> tyB x = true) := by
 unfold nmL at h
 rw [Bool.and_eq_true] at h
 have h2 := h.2
 cases hc : cutB 59 l with
 | none =>
  rw [hc] at h2
  have hb := Dp.ty_bytes h2
  exact ⟨fun x hx => .inl (hb x hx), Dp.ty_ne h2, fun x hx => hb x (List.mem_of_head? hx)⟩
 | some q =>
  obtain ⟨k, o⟩ := q
  rw [hc] at h2
  simp only [Bool.and_eq_true, List.all_eq_true] at h2
  obtain ⟨rfl, hk⟩ := cutB_some 59 l k o hc
  have hb := Dp.ty_bytes h2.1
  have hne := Dp.ty_ne h2.1
  refine ⟨fun x hx => ?_, by simp, fun x hx => ?_⟩
  ·rcases List.mem_append.1 hx with hx | hx
   ·exact .inl (hb x hx)
   ·rcases List.mem_cons.1 hx with rfl | hx
    ·exact .inr rfl
    ·rcases spl_bytes 59 o x hx with h3 | ⟨q, h3, h4⟩
     ·exact .inr h3
     ·have := h2.2 q h3
      unfold opt at this
      rw [Bool.and_eq_true, List.all_eq_true] at this
      left
      unfold Dp.tyB
      rw [this.2 x h4]
      rfl
  ·cases k with
   | nil => exact absurd rfl hne
   | cons y k =>
    simp at hx
    subst hx
    exact hb _ (by simp)
theorem nmB_ne (x : UInt8) (h : tyB x = true \/ x = 59) : (x ≠ 61 /\ x ≠ 62 /\ x ≠ 60 /\ x ≠ 126) /\ (x ≠ 40 /\ x ≠ 41 /\ x ≠ 42) /\ x ≠ 38 /\ x ≠ 124 /\ x ≠ 33 := by
 have : ∀ i : Fin 256, (tyB (UInt8.ofNat i.val) = true \/ UInt8.ofNat i.val = 59) -> (UInt8.ofNat i.val ≠ 61 /\ UInt8.ofNat i.val ≠ 62 /\ UInt8.ofNat i.val ≠ 60 /\ UInt8.ofNat i.val ≠ 126) /\ (UInt8.ofNat i.val ≠ 40 /\ UInt8.ofNat i.val ≠ 41 /\ UInt8.ofNat i.val ≠ 42) /\ UInt8.ofNat i.val ≠ 38 /\ UInt8.ofNat i.val ≠ 124 /\ UInt8.ofNat i.val ≠ 33 := by decide +kernel
 exact u8_each (p := fun x => (tyB x = true \/ x = 59) -> (x ≠ 61 /\ x ≠ 62 /\ x ≠ 60 /\ x ≠ 126) /\ (x ≠ 40 /\ x ≠ 41 /\ x ≠ 42) /\ x ≠ 38 /\ x ≠ 124 /\ x ≠ 33) this x h
theorem name_no {s : ByteArray} (h : okName s = true) : ∀ x ∈ s.data.toList, (x ≠ 61 /\ x ≠ 62 /\ x ≠ 60 /\ x ≠ 126) /\ (x ≠ 40 /\ x ≠ 41 /\ x ≠ 42) /\ x ≠ 38 /\ x ≠ 124 /\ x ≠ 33 := fun x hx => nmB_ne x ((name_bytes h).1 x hx)
theorem name_size {s : ByteArray} (h : okName s = true) : s.size ≠ 0 /\ s.size <= 30 := by
 have h1 := (name_bytes h).2.1
 have h2 : s.data.toList.length <= 30 := by
  unfold okName nmL at h
  rw [Bool.and_eq_true] at h
  simpa using h.1
 rw [E.len_toList] at h2
 refine ⟨fun e => h1 (List.eq_nil_of_length_eq_zero (by rw [E.len_toList]; exact e)), h2⟩
theorem size_nil {s : ByteArray} (h : s.size = 0) : s = ⟨#[]⟩ := by
 have h2 : s.data.toList = [] := List.eq_nil_of_length_eq_zero (by rw [E.len_toList]; exact h)
 rw [<- E.mk_data s, h2]
def inner {n : Nat} (F : Fl (n + 1)) : List UInt8 := if kd F = 4 then (nm F).data.toList ++ 61 :: pieces (va F) (an F) (fi F) else (nm F).data.toList ++ (sgn (kd F) ++ pv (va F))
theorem pieces_no (v : ByteArray) (l : List ByteArray) (f : ByteArray) : ∀ y ∈ pieces v l f, y ≠ 40 /\ y ≠ 41 := by
 have key : ∀ xs : List (List UInt8), (∀ x ∈ xs, ∀ y ∈ x, y ≠ 40 /\ y ≠ 41) -> ∀ y ∈ jn 42 xs, y ≠ 40 /\ y ≠ 41 := by
  intro xs
  induction xs with
  | nil => intro _ y hy; cases hy
  | cons x r ih =>
   intro h y hy
   cases r with
   | nil => rw [Dp.jn_one] at hy; exact h x (by simp) y hy
   | cons z r =>
    rw [Dp.jn_cons] at hy
    rcases List.mem_append.1 hy with hy | hy
    ·exact h x (by simp) y hy
    ·rcases List.mem_cons.1 hy with rfl | hy
     ·decide
     ·exact ih (fun q hq => h q (by simp at hq ⊢; exact .inr hq)) y hy
 refine key _ fun x hx y hy => ?_
 have : ∃ s, x = pv s := by
  rcases List.mem_cons.1 hx with rfl | hx
  ·exact ⟨v, rfl⟩
  ·rcases List.mem_append.1 hx with hx | hx
   ·obtain ⟨s, _, rfl⟩ := List.mem_map.1 hx; exact ⟨s, rfl⟩
   ·simp at hx; exact ⟨f, hx⟩
 obtain ⟨s, rfl⟩ := this
 exact ⟨(pv_no s y hy).1, (pv_no s y hy).2.1⟩
theorem sgn_no (k : Int) (hs : isSet k = false) : ∀ y ∈ sgn k, y ≠ 40 /\ y ≠ 41 := by
 unfold isSet at hs
 simp at hs
 unfold sgn
 rw [if_neg hs.1.1, if_neg hs.1.2, if_neg hs.2]
 repeat' split
 all_goals simp
theorem leaf_name {n : Nat} {F : Fl (n + 1)} (hf : fitF F = true) (hs : isSet (kd F) = false) : okName (nm F) = true /\ ls F = [] := by
 unfold fitF fitB at hf
 rw [hs] at hf
 simp only [Bool.false_eq_true, if_false] at hf
 split at hf
 ·unfold fitU at hf
  simp only [Bool.and_eq_true, decide_eq_true_eq] at hf
  exact ⟨hf.1.1.1.1.1, List.eq_nil_of_length_eq_zero hf.2⟩
 ·split at hf
  ·unfold fitV at hf
   simp only [Bool.and_eq_true, decide_eq_true_eq] at hf
   exact ⟨hf.1.1.1, List.eq_nil_of_length_eq_zero hf.2⟩
  ·cases hf
theorem inner_no {n : Nat} {F : Fl (n + 1)} (hf : fitF F = true) (hs : isSet (kd F) = false) : (41 : UInt8) ∉ inner F := by
 have hn := (leaf_name hf hs).1
 intro h
 unfold inner at h
 split at h
 ·rcases List.mem_append.1 h with h | h
  ·exact (name_no hn _ h).2.1.2.1 rfl
  ·rcases List.mem_cons.1 h with h | h
   ·cases h
   ·exact (pieces_no _ _ _ _ h).2 rfl
 ·rcases List.mem_append.1 h with h | h
  ·exact (name_no hn _ h).2.1.2.1 rfl
  ·rcases List.mem_append.1 h with h | h
   ·exact (sgn_no _ hs _ h).2 rfl
   ·exact (pv_no _ _ h).2.1 rfl
theorem inner_head {n : Nat} {F : Fl (n + 1)} (hf : fitF F = true) (hs : isSet (kd F) = false) (r : List UInt8) : (inner F ++ r).head?.bind setK = none := by
 have hn := (leaf_name hf hs).1
 have hne := (name_bytes hn).2.1
 obtain ⟨x, t, hx⟩ : ∃ x t, (nm F).data.toList = x :: t := by
  cases h : (nm F).data.toList with
  | nil => exact absurd h hne
  | cons x t => exact ⟨x, t, rfl⟩
 have hb := (name_no hn x (by rw [hx]; simp)).2.2
 have : (inner F ++ r).head? = some x := by
  unfold inner
  split <;> rw [hx] <;> rfl
 rw [this]
 show setK x = none
 unfold setK
 rw [if_neg hb.1, if_neg hb.2.1, if_neg hb.2.2]
theorem kindOf_name {s : ByteArray} (h : okName s = true) : kindOf s.data.toList = (s.data.toList, 3) := by
 have hb : ∀ x, s.data.toList.getLast? = some x -> _ := fun x hx => name_no h x (List.mem_of_getLast? hx)
 unfold kindOf
 rw [if_neg (fun e => (hb _ e).1.2.1 rfl), if_neg (fun e => (hb _ e).1.2.2.1 rfl), if_neg (fun e => (hb _ e).1.2.2.2 rfl)]
theorem kindOf_snoc (l : List UInt8) : kindOf (l ++ [62]) = (l, 5) /\ kindOf (l ++ [60]) = (l, 6) /\ kindOf (l ++ [126]) = (l, 8) := by
 unfold kindOf
 simp
theorem tail_last {l : List ByteArray} {v f : ByteArray} {n : Nat} (a : ByteArray) : (subs a (v :: (l ++ [f])) : Fl (n + 1)) = mk 4 a v l f [] := by
 have e : (v :: (l ++ [f])).getLastD ⟨#[]⟩ = f := by
  rw [<- List.cons_append, List.getLastD_eq_getLast?, List.getLast?_concat]
  rfl
 unfold subs
 rw [e]
 simp
theorem leaf_back {n : Nat} {F : Fl (n + 1)} (hf : fitF F = true) (hs : isSet (kd F) = false) : rdC (inner F) = some F := by
 obtain ⟨hn, hl⟩ := leaf_name hf hs
 have h61 : ∀ t, t = (nm F).data.toList -> (61 : UInt8) ∉ t := fun t ht hm => (name_no hn _ (ht ▸ hm)).1.1 rfl
 have hsg : ∀ x, (61 : UInt8) ≠ x -> (61 : UInt8) ∉ (nm F).data.toList ++ [x] := fun x hx hm => by
  rcases List.mem_append.1 hm with hm | hm
  ·exact h61 _ rfl hm
  ·simp at hm; exact hx hm
 have hno : (42 : UInt8) ∉ pv (va F) := fun hm => (pv_no _ _ hm).2.2 rfl
 unfold fitF fitB at hf
 rw [hs] at hf
 simp only [Bool.false_eq_true, if_false] at hf
 split at hf
 ·rename_i h4
  unfold fitU at hf
  simp only [Bool.and_eq_true, Bool.or_eq_true, decide_eq_true_eq] at hf
  obtain ⟨⟨⟨⟨⟨_, h5⟩, _⟩, _⟩, h6⟩, _⟩ := hf
  have hps : ∀ x ∈ (pv (va F) :: ((an F).map pv ++ [pv (fi F)])), (42 : UInt8) ∉ x := by
   intro x hx
   rcases List.mem_cons.1 hx with rfl | hx
   ·exact hno
   ·rcases List.mem_append.1 hx with hx | hx
    ·obtain ⟨s, _, rfl⟩ := List.mem_map.1 hx
     exact fun hm => (pv_no _ _ hm).2.2 rfl
    ·simp at hx; subst hx; exact fun hm => (pv_no _ _ hm).2.2 rfl
  have hct := count_jn 42 _ (by simp) hps
  simp only [List.length_cons, List.length_append, List.length_map, List.length_nil] at hct
  have hp : pieces (va F) (an F) (fi F) = jn 42 (pv (va F) :: ((an F).map pv ++ [pv (fi F)])) := rfl
  unfold inner rdC
  rw [if_pos h4, cutB_at 61 _ _ (h61 _ rfl)]
  simp only
  rw [kindOf_name hn]
  simp only
  unfold rdVals
  have hm : (42 : UInt8) ∈ pieces (va F) (an F) (fi F) := by
   rw [hp]
   exact List.count_pos_iff.1 (by omega)
  rw [if_neg (by simp [hm]), if_neg, if_neg (by rw [hp]; omega), hp, spl_jn 42 _ (by simp) hps]
  ·have : mp rdV (pv (va F) :: ((an F).map pv ++ [pv (fi F)])) = some (va F :: (an F ++ [fi F])) := by
    have := Dp.mp_map rdV pv (va F :: (an F ++ [fi F])) (fun a _ => rdV_pv a)
    simpa using this
   rw [this, Option.map_some, E.mk_data, tail_last, <- h4, <- hl]
   rfl
  ·intro e
   have h1 : (an F).length = 0 := by
    have := congrArg (List.count (42 : UInt8)) e
    rw [hp] at this
    simp at this
    omega
   have h2 := List.eq_nil_of_length_eq_zero h1
   rw [hp, h2] at e
   simp only [List.map_nil, List.nil_append] at e
   rw [Dp.jn_cons, Dp.jn_one] at e
   have h3 := congrArg List.length e
   simp at h3
   have h7 : pv (va F) = [] := List.eq_nil_of_length_eq_zero (by rw [E.len_toList]; omega)
   have h8 : pv (fi F) = [] := List.eq_nil_of_length_eq_zero (by rw [E.len_toList]; omega)
   rw [pv_nil] at h7 h8
   omega
 ·rename_i h4
  split at hf
  ·rename_i hk
   unfold fitV at hf
   simp only [Bool.and_eq_true, decide_eq_true_eq] at hf
   obtain ⟨⟨⟨_, h5⟩, h6, h7⟩, _⟩ := hf
   have h6' := List.eq_nil_of_length_eq_zero h6
   have h7' := size_nil h7
   have hF : ∀ k, kd F = k -> (mk k (nm F) (va F) [] ⟨#[]⟩ [] : Fl (n + 1)) = F := fun k e => by rw [<- h6', <- h7', <- hl, <- e]; rfl
   unfold inner rdC
   rw [if_neg h4]
   rcases hk with hk | hk | hk | hk | hk
   ·rw [show sgn (kd F) = [61] by rw [hk]; rfl, List.singleton_append, cutB_at 61 _ _ (h61 _ rfl)]
    simp only
    rw [kindOf_name hn]
    simp only
    unfold rdVals
    rw [if_pos (.inr hno), rdV_pv, Option.map_some, E.mk_data, hF 3 hk]
   ·rw [show sgn (kd F) = [62, 61] by rw [hk]; rfl, show (nm F).data.toList ++ ([62, 61] ++ pv (va F)) = ((nm F).data.toList ++ [62]) ++ 61 :: pv (va F) by simp, cutB_at 61 _ _ (hsg 62 (by decide))]
    simp only
    rw [(kindOf_snoc _).1]
    simp only
    unfold rdVals
    rw [if_pos (.inl (by decide)), rdV_pv, Option.map_some, E.mk_data, hF 5 hk]
   ·rw [show sgn (kd F) = [60, 61] by rw [hk]; rfl, show (nm F).data.toList ++ ([60, 61] ++ pv (va F)) = ((nm F).data.toList ++ [60]) ++ 61 :: pv (va F) by simp, cutB_at 61 _ _ (hsg 60 (by decide))]
    simp only
    rw [(kindOf_snoc _).2.1]
    simp only
    unfold rdVals
    rw [if_pos (.inl (by decide)), rdV_pv, Option.map_some, E.mk_data, hF 6 hk]
   ·rw [hk] at h5
    replace h5 : (va F).size = 0 := Nat.le_zero.1 h5
    rw [show sgn (kd F) = [61, 42] by rw [hk]; rfl, (pv_nil _).2 h5, List.append_nil, cutB_at 61 _ _ (h61 _ rfl)]
    simp only
    rw [kindOf_name hn]
    simp only
    unfold rdVals
    rw [if_neg (by simp), if_pos rfl, E.mk_data, <- hF 7 hk, size_nil h5]
    rfl
   ·rw [show sgn (kd F) = [126, 61] by rw [hk]; rfl, show (nm F).data.toList ++ ([126, 61] ++ pv (va F)) = ((nm F).data.toList ++ [126]) ++ 61 :: pv (va F) by simp, cutB_at 61 _ _ (hsg 126 (by decide))]
    simp only
    rw [(kindOf_snoc _).2.2]
    simp only
    unfold rdVals
    rw [if_pos (.inl (by decide)), rdV_pv, Option.map_some, E.mk_data, hF 8 hk]
  ·cases hf
theorem text_head : ∀ (n : Nat) (F : Fl n) (r : List UInt8), (text n F ++ r).head? = some 40
 | 0, t, _ => Empty.elim t
 | _ + 1, _, _ => rfl
theorem rdL_back {α : Type} (rd : List UInt8 -> Option (α × List UInt8)) (tx : α -> List UInt8) (r : List UInt8) : ∀ (fs : List α) (m : Nat), fs.length <= m -> (∀ f ∈ fs, ∀ q, rd (tx f ++ q) = some (f, q) /\ (tx f ++ q).head? = some 40) ->
  rdL rd m ((fs.map tx).flatten ++ 41 :: r) = some (fs, 41 :: r)
 | [], m, _, _ => by cases m <;> simp [rdL]
 | f :: fs, 0, h, _ => by simp at h
 | f :: fs, m + 1, h, hf => by
  rw [List.map_cons, List.flatten_cons, List.append_assoc, rdL, if_pos (hf f (by simp) _).2, (hf f (by simp) _).1]
  simp only
  rw [rdL_back rd tx r fs m (by simp at h; omega) (fun g hg => hf g (by simp [hg]))]
  rfl
theorem set_form {n : Nat} {F : Fl (n + 1)} (hf : fitF F = true) (hs : isSet (kd F) = true) : mk (kd F) ⟨#[]⟩ ⟨#[]⟩ [] ⟨#[]⟩ (ls F) = F /\ 0 < (ls F).length /\ (ls F).length <= 8 := by
 unfold fitF fitB at hf
 rw [if_pos hs] at hf
 unfold fitS at hf
 simp only [Bool.and_eq_true, decide_eq_true_eq] at hf
 obtain ⟨⟨⟨h1, h2⟩, h3, h4⟩, h5, h6⟩ := hf
 refine ⟨?_, h1, by split at h2 <;> omega⟩
 rw [<- size_nil h3]
 conv => lhs; arg 3; rw [size_nil h3, <- size_nil h4]
 conv => lhs; arg 4; rw [<- List.eq_nil_of_length_eq_zero h5]
 conv => lhs; arg 5; rw [size_nil h3, <- size_nil h6]
 rfl
theorem setK_sgn (k : Int) (hs : isSet k = true) : ∃ s, sgn k = [s] /\ setK s = some k := by
 unfold isSet at hs
 simp at hs
 rcases hs with (rfl | rfl) | rfl
 ·exact ⟨38, rfl, rfl⟩
 ·exact ⟨124, rfl, rfl⟩
 ·exact ⟨33, rfl, rfl⟩
theorem back : ∀ (k : Nat) (F : Fl (k + 2)) (r : List UInt8), right (k + 2) k F = true -> rdF k (text (k + 2) F ++ r) = some (F, r)
 | 0, F, r, h => by simp [right] at h
 | k + 1, F, r, h => by
  rw [right] at h
  simp only [Bool.and_eq_true, decide_eq_true_eq, List.all_eq_true, Nat.add_sub_cancel] at h
  obtain ⟨⟨_, hf⟩, hk⟩ := h
  rw [rdF, if_pos (text_head _ F r)]
  cases hs : isSet (kd F) with
  | true =>
   obtain ⟨s, hs1, hs2⟩ := setK_sgn _ hs
   obtain ⟨h1, h2, h3⟩ := set_form hf hs
   have e : (text (k + 1 + 2) F ++ r).tail = s :: (((ls F).map (text (k + 2))).flatten ++ 41 :: r) := by
    rw [text, if_pos hs, hs1]
    simp
   rw [e]
   unfold rdB
   simp only [List.head?_cons, Option.bind_some, hs2, List.tail_cons]
   rw [rdL_back (rdF k) (text (k + 2)) r (ls F) 8 h3 (fun f hf2 q => ⟨back k f q (hk f hf2), text_head _ f q⟩)]
   simp only [Option.map_some, List.head?_cons, List.tail_cons]
   rw [h1]
   simp [hf]
  | false =>
   have e : (text (k + 1 + 2) F ++ r).tail = inner F ++ 41 :: r := by
    rw [text, hs]
    unfold inner
    simp only [Bool.false_eq_true, if_false]
    split <;> simp
   rw [e]
   unfold rdB
   rw [inner_head hf hs, cutB_at 41 _ _ (inner_no hf hs)]
   simp only
   rw [leaf_back hf hs]
   simp [hf]
end Go.Proofs.YtmenllnokgjdlaaGreatDoor.Fp
/-
 What slices.Equal over texts, and filt.Same, answer. Conditions: none.
-/
namespace Go.Proofs.YtmenllnokgjdlaaGreatDoor.F
open Go Go.RowKit Go.Shelf Fp
open D (H_ un)
theorem Strs.below {W W' : World} {p : Nat -> Prop} {a : Option Addr} {xs : List ByteArray} (h : Strs W p a xs) (hb : Below W.heap.size W W') : Strs W' p a xs := h.of fun b _ hl => hb.block b hl
theorem eq_str (x y : ByteArray) : (x.toList == y.toList) = decide (x = y) := by
 rw [ByteArray.toList_eq, ByteArray.toList_eq, Bool.eq_iff_iff, beq_iff_eq, decide_eq_true_eq]
 exact ⟨fun h => ByteArray.ext (Array.ext' h), fun h => by rw [h]⟩
theorem drew_below {w W : World} (h : Below w.heap.size w W) (n : Nat) : Below w.heap.size w (W.drewN n) := ⟨h.os, h.tape, h.output, h.size, h.block⟩
theorem equalS_any (xs ys : List ByteArray) (a b : Option Addr) (c c' : Nat) (p q : Nat -> Prop) (w : World) (hx : Strs w p a xs) (hy : Strs w q b ys) (hl : xs.length <= 1000) :
  Calls Tryz.prog 45 #[.slice a xs.length c, .slice b ys.length c'] w fun e w' => e = .returned (.bool (decide (xs = ys))) /\ Below w.heap.size w w' := by
 by_cases hll : xs.length = ys.length
 ·have hne : ((xs.length : Int) != (ys.length : Int)) = false := by simp [hll]
  have hl' : (xs.length : Int) <= 1000 := by omega
  have HX := H_ hx
  have HY := H_ hy
  have HL := H_ hll
  clear hx hy hll
  go_enter Tryz.func45, Tryz.ntmps45
  go_wp2
  go_loopw [13] (fun ix wr => ∃ j : Nat, j <= xs.length /\ ix = .int .i64 (j : Int) /\ Hid (xs.take j = ys.take j) /\ Hid (Below w.heap.size w wr))
   (fun ix _ => xs.length - (intOf ix).toNat)
  case atStart => exact ⟨0, Nat.zero_le _, rfl, H_ (by simp), H_ (Below.refl _ _)⟩
  case round =>
   obtain ⟨j, hj, rfl, hf, hb⟩ := hrel
   by_cases hlt : j < xs.length
   ·have hlt2 : j < ys.length := (un HL) ▸ hlt
    obtain ⟨g1, o1, rfl, c0⟩ := ((un HX).below (un hb)).at hlt
    obtain ⟨g2, o2, rfl, c1⟩ := ((un HY).below (un hb)).at hlt2
    have h1 : (j : Int) < xs.length := by omega
    have h2 : (j : Int) < ys.length := by omega
    have ht1 := List.take_succ_eq_append_getElem hlt
    have ht2 := List.take_succ_eq_append_getElem hlt2
    obtain ⟨x, hx⟩ : ∃ x, xs[j] = x := ⟨_, rfl⟩
    obtain ⟨y, hy⟩ : ∃ y, ys[j] = y := ⟨_, rfl⟩
    rw [hx] at c0 ht1
    rw [hy] at c1 ht2
    have HT1 := H_ ht1
    have HT2 := H_ ht2
    clear hx hy ht1 ht2
    cases hxy : (x.toList == y.toList)
    ·have HE := H_ (of_decide_eq_false (by rw [<- eq_str]; exact hxy) : ¬ x = y)
     go_wp2
     go_quiet (fail)
     go_wp2
     go_ret
     refine ⟨?_, drew_below (un hb) _⟩
     rw [show decide (xs = ys) = false from decide_eq_false fun e => un HE (by
      have h3 : xs.take (j + 1) = ys.take (j + 1) := by rw [e]
      rw [un HT1, un HT2, un hf] at h3
      simpa using h3)]
     rfl
    ·have HE := H_ (of_decide_eq_true (by rw [<- eq_str]; exact hxy) : x = y)
     go_wp2
     go_quiet (fail)
     go_wp2
     go_roundw
     case rel =>
      refine ⟨j + 1, by omega, by simp, H_ ?_, H_ (drew_below (un hb) _)⟩
      rw [un HT1, un HT2, un hf, un HE]
     case measure => simp [intOf]; omega
   ·have hge : ¬ (j : Int) < xs.length := by omega
    have He := H_ (show decide (xs = ys) = true by
     rw [decide_eq_true_eq]
     have := un hf
     rwa [List.take_of_length_le (by omega), List.take_of_length_le (by have := un HL; omega)] at this)
    clear hf
    go_wp2
    go_ret
    rw [un He]
    exact ⟨rfl, un hb⟩
 ·have hne : ((xs.length : Int) != (ys.length : Int)) = true := by rw [bne_iff_ne]; omega
  rw [decide_eq_false (fun e => hll (by rw [e]))]
  clear hx hy hll
  go_enter Tryz.func45, Tryz.ntmps45
  go_wp2
  go_ret
  exact ⟨rfl, Below.refl _ _⟩
def SameIs (n : Nat) : Prop := ∀ (F G : Fl n) (w : World) (p q : Nat -> Prop) (d e : Fd), FNode n w p d F -> FNode n w q e G ->
 Calls Tryz.prog 25 #[d.val, e.val] w fun o w' => o = .returned (.bool (same n F G)) /\ Below w.heap.size w w'
theorem allB_len {α : Type} (f : α -> α -> Bool) : ∀ (xs ys : List α), xs.length ≠ ys.length -> allB f xs ys = false
 | [], [], h => absurd rfl h
 | [], _ :: _, _ => rfl
 | _ :: _, [], _ => rfl
 | x :: xs, y :: ys, h => by rw [allB, allB_len f xs ys (by simpa using h), Bool.and_false]
theorem allB_true {α : Type} (f : α -> α -> Bool) : ∀ (xs ys : List α) (hl : xs.length = ys.length), (∀ (j : Nat) (h : j < xs.length), f xs[j] (ys[j]'(hl ▸ h)) = true) -> allB f xs ys = true
 | [], [], _, _ => rfl
 | [], _ :: _, hl, _ => by cases hl
 | _ :: _, [], hl, _ => by cases hl
 | x :: xs, y :: ys, hl, h => by
  rw [allB, Bool.and_eq_true]
  exact ⟨h 0 (by simp), allB_true f xs ys (by simpa using hl) fun j hj => h (j + 1) (by simpa using hj)⟩
theorem allB_false {α : Type} (f : α -> α -> Bool) : ∀ (xs ys : List α) (hl : xs.length = ys.length) (j : Nat) (h : j < xs.length), f xs[j] (ys[j]'(hl ▸ h)) = false -> allB f xs ys = false
 | [], _, _, j, h, _ => by cases h
 | _ :: _, [], hl, _, _, _ => by cases hl
 | x :: xs, y :: ys, hl, 0, h, hf => by
  simp at hf
  rw [allB, hf, Bool.false_and]
 | x :: xs, y :: ys, hl, j + 1, h, hf => by
  rw [allB, allB_false f xs ys (by simpa using hl) j (by simpa using h) (by simpa using hf), Bool.and_false]
theorem equalF_any (n : Nat) (ih : SameIs n) (F G : Fl (n + 1)) (w : World) (p q : Nat -> Prop) (d e : Fd) (hF : FNode (n + 1) w p d F) (hG : FNode (n + 1) w q e G) :
  Calls Tryz.prog 46 #[.slice d.la d.ln d.lc, .slice e.la e.ln e.lc, .func (.func 25) #[] #[]] w fun o w' => o = .returned (.bool (allB (same n) (ls F) (ls G))) /\ Below w.heap.size w w' := by
 obtain ⟨_, _, _, _, _, _, _, la, ln, lc⟩ := d
 obtain ⟨_, _, _, _, _, _, _, la', ln', lc'⟩ := e
 have hl1 := hF.is.ln
 have hl2 := hG.is.ln
 have hs1 := hF.sm.ln
 dsimp only at hl1 hl2 ⊢
 by_cases hll : (ls F).length = (ls G).length
 ·have hne : ((ln : Int) != (ln' : Int)) = false := by simp; omega
  have hl' : (ln : Int) <= 1000 := by omega
  have HF := H_ hF
  have HG := H_ hG
  have HL := H_ hll
  have IH := H_ ih
  have H1 := H_ hl1
  have H2 := H_ hl2
  clear hF hG hll ih hs1 hl1 hl2
  go_enter Tryz.func46, Tryz.ntmps46
  go_wp2
  go_loopw [17] (fun y wr => ∃ i : Nat, i <= ln /\ y = .int .i64 i /\ Hid (∀ (j : Nat) (h : j < (ls F).length), j < i -> same n (ls F)[j] ((ls G)[j]'((un HL) ▸ h)) = true) /\ Hid (Below w.heap.size w wr)) (fun y _ => ln - (intOf y).toNat)
  case atStart => exact ⟨0, Nat.zero_le _, rfl, H_ (fun j _ h => by cases h), H_ (Below.refl _ _)⟩
  case round =>
   obtain ⟨i, hi, rfl, hall, hb⟩ := hrel
   by_cases hlt : i < ln
   ·have hltF : i < (ls F).length := by have := un H1; omega
    have hltG : i < (ls G).length := (un HL) ▸ hltF
    obtain ⟨g, off, ha⟩ := (un HF).kids
    obtain ⟨g', off', ha'⟩ := (un HG).kids
    have ha := ha.resolve_right (fun e => by rw [e] at hltF; cases hltF)
    have ha' := ha'.resolve_right (fun e => by rw [e] at hltG; cases hltG)
    obtain ⟨⟨k1, a1, v1, sa1, sn1, sc1, f1, la1, ln1, lc1⟩, ⟨c0, c1, c2, c3, c4, c5⟩, hN1⟩ := ((un HF).below (un hb)).kid ha hltF
    obtain ⟨⟨k2, a2, v2, sa2, sn2, sc2, f2, la2, ln2, lc2⟩, hat2, hN2⟩ := ((un HG).below (un hb)).kid ha' hltG
    dsimp only at c0 c1 c2 c3 c4 c5 ha ha'
    have H := H_ (fun o o' => (un IH) (ls F)[i] (ls G)[i] ((wr.alloc o).alloc o') p q _ _ (hN1.below (((Below.refl _ _).alloc (Nat.le_refl _) o).alloc (by simp) o')) (hN2.below (((Below.refl _ _).alloc (Nat.le_refl _) o).alloc (by simp) o')))
    have hz : ∀ o, At (wr.alloc o) g' (off' + i * 6) ⟨k2, a2, v2, sa2, sn2, sc2, f2, la2, ln2, lc2⟩ := fun o => hat2.of (Below.heap_alloc wr o g' hat2.lt)
    have z0 := fun o => (hz o).c0
    have z1 := fun o => (hz o).c1
    have z2 := fun o => (hz o).c2
    have z3 := fun o => (hz o).c3
    have z4 := fun o => (hz o).c4
    have z5 := fun o => (hz o).c5
    dsimp only at z0 z1 z2 z3 z4 z5
    have hlt' : (i : Int) < ln := by omega
    have hltB' : (i : Int) < ln' := by have := un H2; omega
    subst ha
    subst ha'
    clear hN1 hN2 hz hat2
    go_wp2_with fail
    refine ((un H) _ _).mono ?_
    rintro e w2 ⟨rfl, hb2⟩
    have HBB := H_ ((un hb).trans ((((Below.refl wr.heap.size wr).alloc (Nat.le_refl _) _).alloc (by simp) _).trans (hb2.mono (by simp; omega)) |>.mono (un hb).size))
    cases hs : same n (ls F)[i] (ls G)[i]
    ·have Hf := H_ (allB_false (same n) (ls F) (ls G) (un HL) i hltF hs)
     clear hs hb2 H z0 z1 z2 z3 z4 z5 c0 c1 c2 c3 c4 c5
     go_wp2
     go_ret
     rw [un Hf]
     exact ⟨rfl, un HBB⟩
    ·have hs' := H_ hs
     clear hs hb2 H z0 z1 z2 z3 z4 z5 c0 c1 c2 c3 c4 c5
     go_wp2
     go_roundw
     case rel =>
      refine ⟨i + 1, by omega, by simp, H_ (fun j h hj => ?_), HBB⟩
      by_cases hji : j = i
      ·subst hji; exact un hs'
      ·exact (un hall) j h (by omega)
     case measure => simp [intOf]; omega
   ·have hge : ¬ (i : Int) < ln := by omega
    have Hf := H_ (allB_true (same n) (ls F) (ls G) (un HL) (fun j h => (un hall) j h (by have := un H1; omega)))
    clear hall
    go_wp2
    go_ret
    rw [un Hf]
    exact ⟨rfl, un hb⟩
 ·have hne : ((ln : Int) != (ln' : Int)) = true := by rw [bne_iff_ne]; omega
  have hf := allB_len (same n) (ls F) (ls G) hll
  rw [hf]
  clear ih hF hG hf hll hl1 hl2 hs1
  go_enter Tryz.func46, Tryz.ntmps46
  go_wp2
  go_ret
  exact ⟨rfl, Below.refl _ _⟩
theorem same_any : ∀ n, SameIs n
 | 0 => fun F => Empty.elim F
 | n + 1 => by
  have ih := same_any n
  intro F G w p q d e hF hG
  have hbt : ∀ o o', Below w.heap.size w ((w.alloc o).alloc o') := fun o o' => ((Below.refl _ _).alloc (Nat.le_refl _) o).alloc (by simp) o'
  have HE := H_ (fun o o' => equalS_any (an F) (an G) d.sa e.sa d.sc e.sc p q ((w.alloc o).alloc o') (hF.strs.below (hbt o o')) (hG.strs.below (hbt o o')) hF.sm.sn)
  have HQ := H_ (fun o o' V hV => equalF_any n ih F G V p q d e (hF.below ((hbt o o').trans hV)) (hG.below ((hbt o o').trans hV)))
  have hI := hF.is
  have hI2 := hG.is
  have hs : same (n + 1) F G = (decide (d.k = e.k) && decide (d.a = e.a) && decide (d.v = e.v) && decide (d.f = e.f) && decide (an F = an G) && allB (same n) (ls F) (ls G)) := by rw [same, hI.k, hI.a, hI.v, hI.f, hI2.k, hI2.a, hI2.v, hI2.f]
  rw [<- hI.sn, <- hI2.sn] at HE
  rw [hs, <- eq_str, <- eq_str, <- eq_str, show decide (d.k = e.k) = (d.k == e.k) by rw [Bool.eq_iff_iff]; simp]
  generalize decide (an F = an G) = b5 at *
  generalize allB (same n) (ls F) (ls G) = b6 at *
  have HB := H_ hbt
  clear hF hG hI hI2 hs ih hbt
  obtain ⟨k, a, v, sa, sn, sc, f, la, ln, lc⟩ := d
  obtain ⟨k', a', v', sa', sn', sc', f', la', ln', lc'⟩ := e
  dsimp only at HE HQ ⊢
  cases h1 : (k == k')
  ·go_enter Tryz.func25, Tryz.ntmps25
   go_wp2
   go_ret
   exact ⟨rfl, un HB _ _⟩
  cases h2 : (a.toList == a'.toList)
  ·go_enter Tryz.func25, Tryz.ntmps25
   go_wp2
   go_ret
   exact ⟨rfl, un HB _ _⟩
  cases h3 : (v.toList == v'.toList)
  ·go_enter Tryz.func25, Tryz.ntmps25
   go_wp2
   go_ret
   exact ⟨rfl, un HB _ _⟩
  cases h4 : (f.toList == f'.toList)
  ·go_enter Tryz.func25, Tryz.ntmps25
   go_wp2
   go_ret
   exact ⟨rfl, un HB _ _⟩
  cases b5
  ·go_enter Tryz.func25, Tryz.ntmps25
   go_wp2_with fail
   refine ((un HE) _ _).mono ?_
   rintro o w1 ⟨rfl, hb⟩
   have HB1 := H_ ((un HB _ _).trans (hb.mono (un HB _ _).size))
   clear hb
   go_wp2
   go_ret
   exact ⟨rfl, un HB1⟩
  ·go_enter Tryz.func25, Tryz.ntmps25
   go_wp2_with fail
   refine ((un HE) _ _).mono ?_
   rintro o w1 ⟨rfl, hb⟩
   have HB1 := H_ ((un HB _ _).trans (hb.mono (un HB _ _).size))
   have HH := H_ ((un HQ) _ _ w1 (hb.mono (un HB _ _).size))
   have z5 : w1.cell? ⟨w.heap.size, 5, none⟩ = some (.slice la ln lc) := (hb.cell (by simp; omega)).trans ((At.new w ⟨k, a, v, sa, sn, sc, f, la, ln, lc⟩).of (Below.heap_alloc _ _ _ (by simp))).c5
   have y0 := At.new (w.alloc (Fd.obj ⟨k, a, v, sa, sn, sc, f, la, ln, lc⟩)) ⟨k', a', v', sa', sn', sc', f', la', ln', lc'⟩
   rw [World.size_alloc] at y0
   have y5 : w1.cell? ⟨w.heap.size + 1, 5, none⟩ = some (.slice la' ln' lc') := (hb.cell (by simp)).trans y0.c5
   clear y0
   clear hb HQ
   go_wp2_with fail
   refine (un HH).mono ?_
   rintro o w2 ⟨rfl, hb⟩
   have HB2 := H_ ((un HB1).trans (hb.mono (un HB1).size))
   clear hb
   go_wp2
   go_ret
   exact ⟨rfl, un HB2⟩
end Go.Proofs.YtmenllnokgjdlaaGreatDoor.F
/-
 What filt.isOfFilters, enclosed and pieces answer. Conditions: the bounds that each statement names.
-/
namespace Go.Proofs.YtmenllnokgjdlaaGreatDoor.F
open Go Go.RowKit Go.Shelf Fp
open D (H_ un)
open Dp (jn)
open E (pri)
attribute [local go_sem] Oper.semAt_some
theorem isSet_any (k : Int) (w : World) : Calls Tryz.prog 74 #[.int .i64 k] w fun e w' => e = .returned (.bool (isSet k)) /\ w' = w := by
 unfold isSet
 cases h0 : (k == 0)
 ·cases h1 : (k == 1)
  ·generalize h2 : (k == 2) = b
   go_enter Tryz.func74, Tryz.ntmps74
   go_wp2
   go_ret
   exact ⟨rfl, rfl⟩
  ·go_enter Tryz.func74, Tryz.ntmps74
   go_wp2
   go_ret
   exact ⟨rfl, rfl⟩
 ·go_enter Tryz.func74, Tryz.ntmps74
  go_wp2
  go_ret
  exact ⟨rfl, rfl⟩
theorem join_flat : ∀ xs : List (List UInt8), Lib.join xs [] = xs.flatten
 | [] => rfl
 | x :: r => by
  rw [Lib.join_cons, Lib.joinTail, List.flatten_cons]
  congr 1
  simp
theorem data_app (a b : ByteArray) : (a ++ b).data.toList = a.data.toList ++ b.data.toList := E.data_app a b
theorem enclosed_any (bk o c : Nat) (xs : List ByteArray) (w : World) (hcells : ∀ (j : Nat) x, xs[j]? = some x -> w.cell? ⟨bk, o + j, none⟩ = some (.string x)) (hbk : bk < w.heap.size) (hN : xs.length <= 1000) (hcap : xs.length <= c)
  (hlen : (xs.map (·.data.toList)).flatten.length <= 1000000000) :
  Calls Tryz.prog 75 #[.slice (some ⟨bk, o, none⟩) xs.length c] w fun e w' => e = .returned (.string ⟨(40 :: ((xs.map (·.data.toList)).flatten ++ [41])).toArray⟩) /\ Below w.heap.size w w' := by
 have H := join_some bk o c xs ⟨#[]⟩ w hcells hbk (by omega) hcap (by
  rw [show (ByteArray.mk #[]).data.toList = [] from rfl, join_flat]; omega)
 rw [show (ByteArray.mk #[]).data.toList = [] from rfl, join_flat] at H
 obtain ⟨r, hr⟩ : ∃ r : ByteArray, r = ⟨((xs.map (·.data.toList)).flatten).toArray⟩ := ⟨_, rfl⟩
 have hrz : r.size <= 1000000000 := by rw [hr]; show (List.toArray _).size <= _; simpa using hlen
 have hres : (⟨(40 :: ((xs.map (·.data.toList)).flatten ++ [41])).toArray⟩ : ByteArray) = ⟨#[40]⟩ ++ r ++ ⟨#[41]⟩ := by
  refine ByteArray.ext (Array.ext' ?_)
  rw [data_app, data_app, hr]
  simp
 rw [<- hr] at H
 rw [hres]
 have HR := H_ H
 clear H hr hres hcells hlen
 have h1 : 1 + r.size <= 9223372036854775807 := by omega
 have h2 : 1 + r.size + 1 <= 9223372036854775807 := by omega
 go_enter Tryz.func75, Tryz.ntmps75
 go_wp2_with fail
 refine (un HR).mono ?_
 rintro e w1 ⟨rfl, hb⟩
 have HB := H_ hb
 clear hb
 go_wp2
 go_ret
 exact ⟨rfl, un HB⟩
theorem own_cells {W : World} {base gg n cp : Nat} (xs : List ByteArray) (ho : W.ownsRow base 9 1 (.slice (some ⟨gg, 0, none⟩) n cp) n (strs xs)) : (∀ (j : Nat) x, xs[j]? = some x -> W.cell? ⟨gg, 0 + j, none⟩ = some (.string x)) /\ gg < W.heap.size /\ n <= cp := by
 refine ⟨fun i x hx => ?_, ?_⟩
 ·have := ho.cells (g := gg) rfl i (.string x) (by rw [List.getElem?_map, hx]; rfl)
  rw [Addr.add_lit] at this
  exact this
 ·rcases ho.2 with ⟨h, _⟩ | ⟨g', c', cur, h, _, h2, h3, _⟩
  ·cases h
  ·have e := Value.slice.inj h
   have e1 : gg = g' := by have := Option.some.inj e.1; exact (Addr.mk.inj this).1
   obtain rfl := e1
   have e2 : cp = c' := e.2.2
   exact ⟨(Array.getElem?_eq_some_iff.1 h2).1, by rw [e2]; exact h3⟩
theorem join_own {W : World} {base gg n cp : Nat} (xs : List ByteArray) (sep : ByteArray) (ho : W.ownsRow base 9 1 (.slice (some ⟨gg, 0, none⟩) n cp) n (strs xs)) (hn : xs.length = n) (hN : n <= 1000000) (hlen : (Lib.join (xs.map (·.data.toList)) sep.data.toList).length <= 1000000000) :
  Calls Tryz.prog 113 #[.slice (some ⟨gg, 0, none⟩) n cp, .string sep] W fun e w' => e = .returned (.string ⟨(Lib.join (xs.map (·.data.toList)) sep.data.toList).toArray⟩) /\ Below W.heap.size W w' := by
 obtain ⟨h1, h2, h3⟩ := own_cells xs ho
 subst hn
 exact join_some gg 0 cp xs sep W h1 h2 (by omega) h3 (by omega)
abbrev prs (xs : List ByteArray) : List ByteArray := xs.map (pri false)
theorem pieces_prs (v : ByteArray) (l : List ByteArray) (f : ByteArray) : Fp.pieces v l f = jn 42 ((prs (v :: (l ++ [f]))).map (·.data.toList)) := by
 unfold Fp.pieces
 congr 1
 simp [prs, pv, Function.comp_def]
theorem pieces_long (v : ByteArray) (l : List ByteArray) (f : ByteArray) (hv : v.size <= 1000) (hf : f.size <= 1000) (hl : l.length <= 1000) (hx : ∀ x ∈ l, x.size <= 1000) : (Fp.pieces v l f).length <= 4000000 := by
 have := Dp.jn_len 42 3000 (pv v :: (l.map pv ++ [pv f])) fun x hx' => by
  rcases List.mem_cons.1 hx' with rfl | h
  ·have := pv_len v; omega
  ·rcases List.mem_append.1 h with h | h
   ·obtain ⟨s, hs, rfl⟩ := List.mem_map.1 h
    have := pv_len s
    have := hx s hs
    omega
   ·simp at h; subst h; have := pv_len f; omega
 simp only [List.length_cons, List.length_append, List.length_map, List.length_nil] at this
 have h2 : (l.length + (0 + 1) + 1) * (3000 + 1) <= 1002 * 3001 := Nat.mul_le_mul (by omega) (Nat.le_refl _)
 unfold Fp.pieces
 omega
structure Sm1 {n : Nat} (F : Fl (n + 1)) : Prop where
 v : (va F).size <= 1000
 f : (fi F).size <= 1000
 sn : (an F).length <= 1000
 s : ∀ x ∈ an F, x.size <= 1000
theorem pieces_any {n : Nat} (F : Fl (n + 1)) (w : World) (p : Nat -> Prop) (d : Fd) (hI : Is d F) (hS : Sm1 F) (hx : Strs w p d.sa (an F)) :
  Calls Tryz.prog 76 #[d.val] w fun e w' => e = .returned (.string ⟨(Fp.pieces (va F) (an F) (fi F)).toArray⟩) /\ Below w.heap.size w w' := by
 have hpl := pieces_long (va F) (an F) (fi F) hS.v hS.f hS.sn hS.s
 rw [pieces_prs] at hpl ⊢
 obtain ⟨k, a, v, sa, sn, sc, f, la, ln, lc⟩ := d
 have h3 := hI.v
 have h4 := hI.f
 have h5 := hI.sn
 clear hI
 dsimp only at h3 h4 h5 hx ⊢
 have h6 := hS.v
 have h7 := hS.f
 have h8 := hS.sn
 have h9 := hS.s
 rw [<- h3] at h6 hpl ⊢
 rw [<- h4] at h7 hpl ⊢
 generalize an F = xs at *
 obtain ⟨res, hres⟩ : ∃ res : ByteArray, res = ⟨(jn 42 ((prs (v :: (xs ++ [f]))).map (·.data.toList))).toArray⟩ := ⟨_, rfl⟩
 rw [<- hres]
 have HRS := H_ hres
 clear hres
 have HF := H_ fun x W hz => E.filter_any x W hz
 have HX := H_ hx
 have HL := H_ hpl
 have H9 := H_ h9
 have H5 := H_ h5
 have hsn : (sn : Int) <= 1000 := by omega
 clear hx hpl hS h3 h4 h9 h5 h8
 obtain ⟨i0, hi0, hz0, hz1, hz2⟩ := infoS
 have hb0 := (Below.refl w.heap.size w).alloc (Nat.le_refl _) (Fd.obj ⟨k, a, v, sa, sn, sc, f, la, ln, lc⟩)
 have hbx := At.new w ⟨k, a, v, sa, sn, sc, f, la, ln, lc⟩
 have HB0 := H_ hb0
 have HBX := H_ hbx
 clear hb0 hbx
 go_enter Tryz.func76, Tryz.ntmps76
 go_wp2_with fail
 refine ((un HF) v _ h6).mono ?_
 rintro e w1 ⟨rfl, hb⟩
 have hb1 := (un HB0).trans (hb.mono (un HB0).size)
 have hbx1 := (un HBX).of (hb.block _ (un HBX).lt)
 have hown1 := World.ownsRow_lit (base := w.heap.size + 1) (e := 9) (size := 1) w1 #[.string (pri false v)] 1 (by have := hb.size; simp at this; omega) (by decide) rfl
 have hb2 : Below w.heap.size w (w1.alloc (.cells #[.string (pri false v)] 9)) := hb1.alloc hb1.size _
 have hbx2 := hbx1.of (Below.heap_alloc w1 (.cells #[.string (pri false v)] 9) _ hbx1.lt)
 have c3 := hbx2.c3
 dsimp only at c3
 have HB2 := H_ hb2
 have HBX2 := H_ hbx2
 have HO2 := H_ hown1
 clear hb hb1 hbx1 hown1 hb2 hbx2 HB0 HBX
 go_wp2
 go_loopw [3, 13] (fun sl ix wr => ∃ j : Nat, j <= sn /\ ix = .int .i64 (j : Int) /\ Hid (wr.ownsRow (w.heap.size + 1) 9 1 sl (j + 1) (strs (prs (v :: xs.take j)))) /\ Hid (Below w.heap.size w wr) /\ Hid (At wr w.heap.size 0 ⟨k, a, v, sa, sn, sc, f, la, ln, lc⟩))
  (fun _ ix _ => sn - (intOf ix).toNat)
 case atStart => exact ⟨0, Nat.zero_le _, rfl, HO2, HB2, HBX2⟩
 case round =>
  obtain ⟨j, hj, rfl, ho, hb, hat⟩ := hrel
  clear HO2 HB2 HBX2 c3
  by_cases hlt : j < sn
  ·have hltx : j < xs.length := by have := un H5; omega
   obtain ⟨g, off, hsa, q0⟩ := ((un HX).below (un hb)).at hltx
   have hx9 := (un H9) xs[j] (List.getElem_mem hltx)
   have htk := List.take_succ_eq_append_getElem hltx
   obtain ⟨x, hx⟩ : ∃ x, xs[j] = x := ⟨_, rfl⟩
   rw [hx] at q0 hx9 htk
   have HT := H_ htk
   have hlt' : (j : Int) < sn := by omega
   have HC := H_ fun W => (un HF) x W hx9
   clear hx htk
   subst hsa
   go_wp2_with fail
   refine ((un HC) _).mono ?_
   rintro e w2 ⟨rfl, hb2⟩
   have HO := H_ ((own_below (un ho) hb2).alloc (.cells #[.string (pri false x)] 9))
   have HB2 := H_ ((un hb).trans (hb2.mono (un hb).size))
   have HA2 := H_ ((un hat).of (hb2.block _ (un hat).lt))
   have hzs : w.heap.size + 1 <= w2.heap.size := by have := (un HA2).lt; omega
   clear hb2 ho hb hat
   go_wp2_with (at_builtin; refine wpList_append_lies _ rfl (.tmp 17) (.tmp 20) 22 rfl (w.heap.size + 1) 9 i0 (.string ⟨#[]⟩) 1 16 Tryz.underlying22 hi0 hz0 hz1 hz2 rfl (by omega) _ (j + 1) _ rfl (un HO) ⟨w2.heap.size, 0, none⟩ 1 1 [.string (pri false x)] rfl rfl (cells_new w2 _ _) (by simp [Value.oneCell']) (by omega) (by unfold maxLen; omega) (by omega) (by simp; omega) (w2.heap.size + 1) (by simp) ?_; intro gg cp w5 hown hgrow hat2 hglt)
   have hB5 : Below w.heap.size w w5 := by
    have h1 : Below w.heap.size w (w2.alloc (.cells #[.string (pri false x)] 9)) := (un HB2).alloc (un HB2).size _
    exact ⟨hgrow.os.trans h1.os, hgrow.tape.trans h1.tape, hgrow.output.trans h1.output, Nat.le_trans h1.size hgrow.size, fun k' hk' => (hgrow.block k' (Nat.lt_of_lt_of_le hk' h1.size) (fun e => by have := ((un HO).lt k' e.symm).1; omega)).trans (h1.block k' hk')⟩
   have hA5 : At w5 w.heap.size 0 ⟨k, a, v, some ⟨g, off, none⟩, sn, sc, f, la, ln, lc⟩ := (((un HA2).of (Below.heap_alloc w2 _ _ (un HA2).lt))).of (hgrow.block _ (by have := (un HA2).lt; simp; omega) (fun e => by have := ((un HO).lt _ e.symm).1; omega))
   have HB5 := H_ hB5
   have HA5 := H_ hA5
   have HO5 := H_ hown
   clear hB5 hA5 hown hgrow hat2 hglt HO HB2 HA2
   go_roundw
   case rel =>
    refine ⟨j + 1, by omega, by simp, ?_, HB5, HA5⟩
    have := un HO5
    rw [un HT]
    exact H_ (by simpa [strs, prs] using this)
   case measure => simp [intOf]; omega
  ·have hge : ¬ (j : Int) < sn := by omega
   have hje : j = xs.length := by have := un H5; omega
   have ho' := un ho
   rw [hje, List.take_length] at ho'
   have HO0 := H_ ho'
   have c4 := (un hat).c4
   dsimp only at c4
   have HC := H_ fun W => (un HF) f W h7
   have hxl : xs.length <= 1000 := by have := un H5; omega
   have HBw := H_ (show Below w.heap.size w wr from un hb)
   have hz0' : w.heap.size + 1 <= wr.heap.size := (un hat).lt
   clear ho ho' hat hb hje
   go_wp2_with fail
   refine ((un HC) _).mono ?_
   rintro e w2 ⟨rfl, hb2⟩
   have HO := H_ ((own_below (un HO0) hb2).alloc (.cells #[.string (pri false f)] 9))
   have HB2 := H_ ((un HBw).trans (hb2.mono (un HBw).size))
   have hzs : w.heap.size + 1 <= w2.heap.size := Nat.le_trans hz0' hb2.size
   clear hb2 HO0 HBw hz0'
   go_wp2_with (first
    | (at_builtin; refine wpList_append_lies _ rfl (.tmp 23) (.tmp 27) 22 rfl (w.heap.size + 1) 9 i0 (.string ⟨#[]⟩) 1 16 Tryz.underlying22 hi0 hz0 hz1 hz2 rfl (by omega) _ (xs.length + 1) _ rfl (un HO) ⟨w2.heap.size, 0, none⟩ 1 1 [.string (pri false f)] rfl rfl (cells_new w2 _ _) (by simp [Value.oneCell']) (by omega) (by unfold maxLen; omega) (by omega) (by simp; omega) (w2.heap.size + 1) (by simp) ?_; intro gg cp w5 hown hgrow hat2 hglt; have HO5 := H_ hown; have HG5 := H_ hgrow; clear hown hgrow hat2 hglt)
    | fail)
   have hB5 : Below w.heap.size w w5 := by
    have hgrow := un HG5
    have h1 : Below w.heap.size w (w2.alloc (.cells #[.string (pri false f)] 9)) := (un HB2).alloc (un HB2).size _
    exact ⟨hgrow.os.trans h1.os, hgrow.tape.trans h1.tape, hgrow.output.trans h1.output, Nat.le_trans h1.size hgrow.size, fun k' hk' => (hgrow.block k' (Nat.lt_of_lt_of_le hk' h1.size) (fun e => by have := ((un HO).lt k' e.symm).1; omega)).trans (h1.block k' hk')⟩
   have hO5 : w5.ownsRow (w.heap.size + 1) 9 1 (.slice (some ⟨gg, 0, none⟩) (xs.length + 1 + 1) cp) (xs.length + 1 + 1) (strs (prs (v :: (xs ++ [f])))) := by
    have := un HO5
    simpa [strs, prs] using this
   have hJ := join_own (prs (v :: (xs ++ [f]))) ⟨#[42]⟩ hO5 (by simp [prs]) (by omega) (by
    have := un HL
    show (jn 42 _).length <= _
    omega)
   rw [show (⟨(Lib.join ((prs (v :: (xs ++ [f]))).map (·.data.toList)) (ByteArray.mk #[42]).data.toList).toArray⟩ : ByteArray) = res from (un HRS).symm] at hJ
   have HJ := H_ hJ
   have HB5 := H_ hB5
   clear hJ hB5 hO5 HO5 HG5 HO HB2
   go_wp2_with fail
   refine (un HJ).mono ?_
   rintro e w6 ⟨rfl, hb6⟩
   have HB6 := H_ ((un HB5).trans (hb6.mono (un HB5).size))
   clear hb6
   go_wp2
   go_ret
   exact ⟨rfl, un HB6⟩
end Go.Proofs.YtmenllnokgjdlaaGreatDoor.F
