/- Several texts in one: FCheck, FNamesB, FSame, FPrint, FText, FRd1. Each says what it proves, and its conditions. -/
import Derived.Test.YtmenllnokgjdlaaGreatDoorFFitsU
set_option linter.unusedSimpArgs false
set_option maxHeartbeats 4000000
set_option maxRecDepth 100000
/-
 What filt.check answers, and filt.Right. Conditions: the package-level variables hold what the program's text lays.
-/
namespace Go.Proofs.YtmenllnokgjdlaaGreatDoor.F
open Go Go.RowKit Go.Shelf Fp
open D (H_ un)
attribute [local go_sem] Oper.semAt_some
theorem size_setCell (W : World) (a : Addr) (v : Value) : (W.setCell a v).heap.size = W.heap.size := by simp [World.setCell]
abbrev four (w : World) (d : Fd) : World := (((w.alloc d.obj).alloc (.cells #[.nilIface] 52)).alloc (.cells #[.int .i64 0] 3)).alloc d.obj
theorem four_below (w : World) (d : Fd) : Below w.heap.size w (four w d) := ((((Below.refl _ _).alloc (Nat.le_refl _) _).alloc (by simp) _).alloc (by simp; omega) _).alloc (by simp; omega) _
theorem four_at (w : World) (d : Fd) : (four w d).heap[w.heap.size]? = some (.cells d.cs 25 (0, 0)) /\ (four w d).heap[w.heap.size + 1]? = some (.cells #[.nilIface] 52 (0, 0)) /\
  (four w d).heap[w.heap.size + 1 + 1]? = some (.cells #[.int .i64 0] 3 (0, 0)) /\ (four w d).heap[w.heap.size + 1 + 1 + 1]? = some (.cells d.cs 25 (0, 0)) := by
 have h : (four w d).heap = (((w.heap.push (.cells d.cs 25)).push (.cells #[.nilIface] 52)).push (.cells #[.int .i64 0] 3)).push (.cells d.cs 25) := rfl
 refine ⟨?_, ?_, ?_, ?_⟩
 ·rw [Below.heap_alloc _ _ _ (by simp; omega), Below.heap_alloc _ _ _ (by simp; omega), Below.heap_alloc _ _ _ (by simp)]; exact World.alloc_heap_new w _
 ·rw [h]; simp [Array.getElem_push]
 ·rw [h]; simp [Array.getElem_push]
 ·rw [h]; simp [Array.getElem_push]
structure InvC (w : World) (y : Value) (W : World) : Prop where
 b1 : W.heap[w.heap.size + 1]? = some (.cells #[y] 52 (0, 0))
 b2 : ∃ c, W.heap[w.heap.size + 1 + 1]? = some (.cells #[.int .i64 c] 3 (0, 0))
 bel : Below w.heap.size w W
 sz : w.heap.size + 4 <= W.heap.size
theorem InvC.ext {w : World} {y : Value} {A B : World} (h : InvC w y A) (hb : ∀ x, x < w.heap.size + 3 -> B.heap[x]? = A.heap[x]?) (ho : B.os = A.os /\ B.tape = A.tape /\ B.output = A.output) (hz : A.heap.size <= B.heap.size) : InvC w y B :=
 ⟨(hb _ (by omega)).trans h.b1, let ⟨c, e⟩ := h.b2; ⟨c, (hb _ (by omega)).trans e⟩, ⟨ho.1.trans h.bel.os, ho.2.1.trans h.bel.tape, ho.2.2.trans h.bel.output, Nat.le_trans h.bel.size hz, fun k hk => (hb k (by omega)).trans (h.bel.block k hk)⟩, Nat.le_trans h.sz hz⟩
theorem InvC.but {w : World} {y : Value} {A B : World} {l : Nat} (h : InvC w y A) (hl : w.heap.size + 4 <= l) (hb : But l A B) : InvC w y B :=
 h.ext (fun x hx => hb.block x (by have := h.sz; omega) (by omega)) ⟨hb.os, hb.tape, hb.output⟩ hb.size
theorem InvC.below {w : World} {y : Value} {A B : World} (h : InvC w y A) (hb : Below A.heap.size A B) : InvC w y B :=
 h.ext (fun x hx => hb.block x (by have := h.sz; omega)) ⟨hb.os, hb.tape, hb.output⟩ hb.size
theorem InvC.cells {w : World} {y : Value} {A : World} (h : InvC w y A) : (A.cell? ⟨w.heap.size + 1, 0, none⟩ = some y /\ ∃ c, A.cell? ⟨w.heap.size + 1 + 1, 0, none⟩ = some (.int .i64 c)) /\ A.frozen? ⟨w.heap.size + 1, 0, none⟩ = false /\ A.frozen? ⟨w.heap.size + 1 + 1, 0, none⟩ = false := by
 obtain ⟨c, hc⟩ := h.b2
 refine ⟨⟨?_, c, ?_⟩, ?_, ?_⟩ <;> simp [World.cell?, World.frozen?, h.b1, hc]
theorem InvC.setWhy {w : World} {y : Value} {A : World} (h : InvC w y A) (y' : Value) : InvC w y' (A.setCell ⟨w.heap.size + 1, 0, none⟩ y') :=
 ⟨heap_set A _ 0 _ _ _ h.b1, let ⟨c, e⟩ := h.b2; ⟨c, (Below.heap_setCell _ _ _ _ (by show w.heap.size + 1 + 1 ≠ w.heap.size + 1; omega)).trans e⟩, h.bel.setCell (p := ⟨w.heap.size + 1, 0, none⟩) (by show _ <= w.heap.size + 1; omega) _, by rw [size_setCell]; exact h.sz⟩
theorem InvC.setAt {w : World} {y : Value} {A : World} (h : InvC w y A) (c' : Int) : InvC w y (A.setCell ⟨w.heap.size + 1 + 1, 0, none⟩ (.int .i64 c')) :=
 ⟨(Below.heap_setCell _ _ _ _ (by show w.heap.size + 1 ≠ w.heap.size + 1 + 1; omega)).trans h.b1, let ⟨c, e⟩ := h.b2; ⟨c', heap_set A _ 0 _ _ _ e⟩, h.bel.setCell (p := ⟨w.heap.size + 1 + 1, 0, none⟩) (by show _ <= w.heap.size + 1 + 1; omega) _, by rw [size_setCell]; exact h.sz⟩
theorem below_put {B l : Nat} {a w : World} (h : Below B a w) (hl : B <= l) (o : Obj) : Below B a (w.putObj l o) :=
 ⟨h.os, h.tape, h.output, by rw [World.putObj_size]; exact h.size, fun k hk => (World.putObj_heap_other (by omega)).trans (h.block k hk)⟩
def OutC (A : Ad) (w : World) (cd : Code) (W : World) : Prop := cd = .exit 0 /\ ∃ v, IsErr A v /\ InvC w v W
theorem check_any (n : Nat) (F : Fl (n + 1)) (A : Ad) (w : World) (p : Nat -> Prop) (d : Fd) (g : Glob A w) (hN : FNode (n + 1) w p d F) (hn : n <= 99) :
  Calls Tryz.prog 44 #[d.val] w (FitPost A w (right (n + 1) 6 F)) := by
 have hvr := vis_right (n + 1) 1 F
 rw [show 7 - 1 = 6 from rfl] at hvr
 obtain ⟨k, a, v, sa, sn, sc, f, la, ln, lc⟩ := d
 have hNw : FNode (n + 1) w (fun b => b < w.heap.size) ⟨k, a, v, sa, sn, sc, f, la, ln, lc⟩ F := hN.imp fun b _ hl => hl
 refine (callsIn_wide (n := 7)).1 ?_
 refine callsIn_of_wp_marks Tryz.func44 rfl trivial ?_ rfl
 simp only [Tryz.ntmps44, List.size_toArray, List.length_cons, List.length_nil, Nat.reduceAdd, Nat.reduceSub, Array.replicate_succ, Array.replicate_zero, List.push_toArray, List.append_toArray, List.nil_append, List.cons_append]
 refine wpIn_wide.2 ?_
 have HNw := H_ hNw
 have HV := H_ hvr
 clear hN hNw hvr
 go_wp2
 refine wp_scope_straight ?_
 go_wp2
 refine wp_label ?_
 go_wp2_with (go_at_call 66; refine (all_any ⟨k, a, v, sa, sn, sc, f, la, ln, lc⟩ _).mono ?_; rintro e w' ⟨rfl, rfl⟩)
 change Code.wp _ _ _ _ (four w ⟨k, a, v, sa, sn, sc, f, la, ln, lc⟩)
 obtain ⟨q0, q1, q2, q3⟩ := four_at w ⟨k, a, v, sa, sn, sc, f, la, ln, lc⟩
 have hB0 := four_below w ⟨k, a, v, sa, sn, sc, f, la, ln, lc⟩
 have hz : (four w ⟨k, a, v, sa, sn, sc, f, la, ln, lc⟩).heap.size = w.heap.size + 4 := by simp
 have hInv : InvC w .nilIface (four w ⟨k, a, v, sa, sn, sc, f, la, ln, lc⟩) := ⟨q1, ⟨_, q2⟩, hB0, by omega⟩
 generalize four w ⟨k, a, v, sa, sn, sc, f, la, ln, lc⟩ = W0 at *
 clear q0 q1 q2 hB0
 refine (wpIn_wide (n := 7)).1 ?_
 refine range_own (α := Pv × Fd) (σ := Unit) (gf := 101) (lb := #[.pointer (some ⟨w.heap.size + 1 + 1 + 1, 0, none⟩)]) rfl (enters_of Tryz.func101 (by kernel_rfl) rfl)
  (fun x => #[.int .i64 x.1.deep, x.2.val]) (fun _ => rfl) (Kf w.heap.size (w.heap.size + 5)) (fun A B => Below A.heap.size A B)
  (fun _ W => InvC w .nilIface W) (fun cd _ W => OutC A w cd W) (fun _ x W => PrV w.heap.size x.1 x.2 W) (fun _ _ => ()) ()
  (fun _ _ => right (n + 1) 6 F = true) (fun _ => right (n + 1) 6 F = false) (fun _ x => x.1.deep <= 6 /\ x.1.ok = true) (fun _ x => ¬ (x.1.deep <= 6 /\ x.1.ok = true))
  (fun x B => B.alloc x.2.obj) (fun x B => { tmps := #[.agg #[.int .i64 k, .string a, .string v, .slice sa sn sc, .string f, .slice la ln lc], .pointer (some ⟨w.heap.size, 0, none⟩), .nilIface, .pointer (some ⟨w.heap.size + 1, 0, none⟩), .pointer (some ⟨w.heap.size + 1 + 1, 0, none⟩), .int .i64 x.1.deep, .pointer (some ⟨B.heap.size, 0, none⟩), .agg #[.int .i64 k, .string a, .string v, .slice sa sn sc, .string f, .slice la ln lc], .func (.func 101) #[] #[.pointer (some ⟨w.heap.size + 1 + 1 + 1, 0, none⟩)], .int .i64 x.1.deep, x.2.val, undef, undef, undef, undef, undef, undef, undef, undef, undef, undef, undef, undef, undef, undef, undef, undef, undef], defers := [] }) (fun x W => (Below.refl _ _).alloc (Nat.le_refl _) _)
  Kf.trans ?_ ?_ ?_ ?_ ?_ ?_ (fun _ _ _ _ h => h) hInv ?iter ?assign ?body ?done ?stop
 ·intro X Y hxy; rw [hz] at hxy; exact Kf.of_but hxy
 ·intro X Y hxy hsz; rw [hz] at hsz ⊢; exact ⟨hxy.block _ (by omega), hxy.block _ (by omega)⟩
 ·intro _ X Y hxy h; rw [hz] at hxy; exact h.but (by omega) hxy
 ·intro _ X Y hxy _ h; exact h.below hxy
 ·rintro cd _ X Y hxy ⟨rfl, v, h1, h2⟩; rw [hz] at hxy; exact ⟨rfl, v, h1, h2.but (by omega) hxy⟩
 ·rintro _ x X Y hxy ⟨m, F', h1, h2, h3, h4⟩; rw [hz] at hxy; exact ⟨m, F', h1, h2, h3.of (fun b hb hl => hxy.block b hl (by omega)), h4⟩
 case iter =>
  intro W hbW hzW J Jx hJ hJI hY h0
  rw [hz] at hbW hzW hY ⊢
  have hNW : FNode (n + 1) W (fun b => b < w.heap.size) ⟨k, a, v, sa, sn, sc, f, la, ln, lc⟩ F := ((un HNw).below hInv.bel).of fun b hb hl => hbW.block b hl (by omega)
  refine (all1_any n w.heap.size (w.heap.size + 4 + 1) (w.heap.size + 1 + 1 + 1) (by omega) F (fun (_ : Unit) q => q.deep <= 6 /\ q.ok = true) (fun _ q => ¬ (q.deep <= 6 /\ q.ok = true)) (fun _ _ => ()) J Jx (fun c A o h => hJ c A _ ((Below.refl _ _).alloc (Nat.le_refl _) o) h)
   (fun c X hX => by have := (hJI c X hX).2; rw [hz] at this; omega)
   (fun _ _ => True) (fun c q d W' m hj _ hp => (hY c (q, d) W' m hj hp).mono fun e W2 h => h.imp (fun ⟨h1, h2, h3⟩ => ⟨h1, h2, h3⟩) fun ⟨h1, h2, h3⟩ => ⟨h1, h2, h3⟩) () W _ (fun _ _ _ _ => trivial) hNW hn h0 (At.box (d := ⟨k, a, v, sa, sn, sc, f, la, ln, lc⟩) ((hbW.block _ (by omega) (by omega)).trans q3))).mono ?_
  rintro e W' ⟨h1, e', (⟨h2, h3, h4, h5⟩ | ⟨h2, L1, q, L2, h3, h4, h5⟩)⟩
  ·refine ⟨h1, .inl ⟨(), ?_, h4⟩⟩
   rw [un HV, List.all_eq_true]
   intro q hq
   obtain ⟨L1, L2, e⟩ := List.append_of_mem hq
   simpa using h3 L1 q L2 e
  ·refine ⟨h1, .inr ⟨(), ?_, h5⟩⟩
   rw [un HV, List.all_eq_false]
   exact ⟨q, by rw [h3]; simp, by simpa using h4⟩
 case assign =>
  intro c x W K _ _ hK
  gi_wp2
  exact hK
 case body =>
  rintro _ ⟨⟨deep, ok, qnm⟩, d⟩ B W hI hPr hB hbb _
  go_light
  rw [hz] at hB hbb ⊢
  obtain ⟨m, F', hIs, hSm, hSt, hok, hnm⟩ := hPr
  have hbox : At W B.heap.size 0 d := At.box ((hbb.block B.heap.size (by simp) (by omega)).trans (World.alloc_heap_new B _))
  have hBW : B.heap.size < W.heap.size := hbox.lt
  have gW := g.next hI.bel
  have H := fits_any F' d A W _ gW hIs hSm hSt
  dsimp only at hok
  rw [<- hok] at H
  replace H := H_ H
  have hgl := D.lt_cell g.vde
  obtain ⟨k', a', v', sa', sn', sc', f', la', ln', lc'⟩ := d
  obtain ⟨c0, c1, c2, c3, c4, c5⟩ := hbox
  dsimp only at c0 c1 c2 c3 c4 c5
  obtain ⟨⟨y1, c, y2⟩, f1, f2⟩ := hI.cells
  have HI := H_ hI
  have HG := H_ gW
  have hgl' := H_ hgl
  clear hI hIs hSm hSt hok hnm gW hgl hbb
  cases ok
  ·gi_wp2_with fail
   refine ⟨trivial, (CallsIn.inRound _ (callsIn_wide.2 (un H))).mono ?_⟩
   rintro e w' ⟨hb, hp⟩
   rw [if_neg (by simp)] at hp
   obtain ⟨u, rfl, hE⟩ := hp
   obtain ⟨T, x, rfl⟩ := hE.form
   have hI2 := (un HI).below hb
   have gde : ∀ v, (w'.setCell ⟨w.heap.size + 1, 0, none⟩ v).cell? ⟨5, 0, none⟩ = some (sen A.de) := fun v => by rw [World.cell?_setCell_far _ _ _ _ (by have := un hgl'; simp at this ⊢; try omega)]; exact ((un HG).next hb).vde
   obtain ⟨⟨z1, c', z2⟩, g1, g2⟩ := hI2.cells
   have HB := H_ hb
   have HI2 := H_ hI2
   have HE := H_ hE
   clear hI2 hb H hE y1 y2 f1 f2
   have two1 : ∀ v, Two (w.heap.size + 4) (w.heap.size + 4 + 1) W (w'.setCell ⟨w.heap.size + 1, 0, none⟩ v) := fun v => ⟨(Below.heap_setCell _ _ _ _ (by show w.heap.size + 4 ≠ w.heap.size + 1; omega)).trans ((un HB).block _ (by omega)), (Below.heap_setCell _ _ _ _ (by show w.heap.size + 4 + 1 ≠ w.heap.size + 1; omega)).trans ((un HB).block _ (by omega))⟩
   have T1 := H_ two1
   clear two1
   by_cases h6 : 6 < deep
   ·have h6' : (6 : Int) < deep := by omega
    gi_wp2
    exact ⟨trivial, ⟨(Below.heap_setCell _ _ _ _ (by show w.heap.size + 4 ≠ w.heap.size + 1; omega)).trans ((un T1) _).1, (Below.heap_setCell _ _ _ _ (by show w.heap.size + 4 + 1 ≠ w.heap.size + 1; omega)).trans ((un T1) _).2⟩, rfl, _, IsErr.sen (isS_de A), ((un HI2).setWhy _).setWhy _⟩
   ·have h6' : ¬ (6 : Int) < deep := by omega
    gi_wp2
    exact ⟨trivial, (un T1) _, rfl, _, un HE, (un HI2).setWhy _⟩
  ·gi_wp2_with fail
   refine ⟨trivial, (CallsIn.inRound _ (callsIn_wide.2 (un H))).mono ?_⟩
   rintro e w' ⟨hb, hp⟩
   rw [if_pos rfl] at hp
   subst hp
   have hI2 := (un HI).below hb
   have gde : ∀ v, (w'.setCell ⟨w.heap.size + 1, 0, none⟩ v).cell? ⟨5, 0, none⟩ = some (sen A.de) := fun v => by rw [World.cell?_setCell_far _ _ _ _ (by have := un hgl'; simp at this ⊢; try omega)]; exact ((un HG).next hb).vde
   obtain ⟨⟨z1, c', z2⟩, g1, g2⟩ := hI2.cells
   have HB := H_ hb
   have HI2 := H_ hI2
   clear hI2 hb H y1 y2 f1 f2
   have two1 : ∀ v, Two (w.heap.size + 4) (w.heap.size + 4 + 1) W (w'.setCell ⟨w.heap.size + 1, 0, none⟩ v) := fun v => ⟨(Below.heap_setCell _ _ _ _ (by show w.heap.size + 4 ≠ w.heap.size + 1; omega)).trans ((un HB).block _ (by omega)), (Below.heap_setCell _ _ _ _ (by show w.heap.size + 4 + 1 ≠ w.heap.size + 1; omega)).trans ((un HB).block _ (by omega))⟩
   have T1 := H_ two1
   clear two1
   by_cases h6 : 6 < deep
   ·have h6' : (6 : Int) < deep := by omega
    have h6n : ¬ deep <= 6 := by omega
    gi_wp2
    refine ⟨by simp, ⟨(Below.heap_setCell _ _ _ _ (by show w.heap.size + 4 ≠ w.heap.size + 1; omega)).trans ((un T1) _).1, (Below.heap_setCell _ _ _ _ (by show w.heap.size + 4 + 1 ≠ w.heap.size + 1; omega)).trans ((un T1) _).2⟩, rfl, _, IsErr.sen (isS_de A), ((un HI2).setWhy _).setWhy _⟩
   ·have h6' : ¬ (6 : Int) < deep := by omega
    have h6n : deep <= 6 := by omega
    gi_wp2
    have hzb := (un HB).size
    refine ⟨by simp, ⟨(Below.heap_setCell _ _ _ _ (by show w.heap.size + 4 ≠ w.heap.size + 1 + 1; omega)).trans ((un T1) _).1, (Below.heap_setCell _ _ _ _ (by show w.heap.size + 4 + 1 ≠ w.heap.size + 1 + 1; omega)).trans ((un T1) _).2⟩, ⟨by rw [size_setCell, size_setCell]; exact hzb, fun k' hk _ ho => ?_⟩, ((un HI2).setWhy _).setAt _⟩
    have ne1 : k' ≠ w.heap.size + 1 := fun e => by
     rcases ho with h | ⟨cs, h⟩
     ·omega
     ·rw [e, (un HI).b1] at h; exact absurd h (by simp)
    have ne2 : k' ≠ w.heap.size + 1 + 1 := fun e => by
     rcases ho with h | ⟨cs, h⟩
     ·omega
     ·obtain ⟨c, hc⟩ := (un HI).b2
      rw [e, hc] at h; exact absurd h (by simp)
    exact (Below.heap_setCell _ _ _ _ (show k' ≠ (⟨w.heap.size + 1 + 1, 0, none⟩ : Addr).block from ne2)).trans ((Below.heap_setCell _ _ _ _ (show k' ≠ (⟨w.heap.size + 1, 0, none⟩ : Addr).block from ne1)).trans ((un HB).block k' hk))
 case done =>
  rintro _ W hr hI hK
  rw [hz] at hK
  obtain ⟨⟨y1, c, y2⟩, f1, f2⟩ := hI.cells
  have HK := H_ hK
  have HI := H_ hI
  have HR := H_ hr
  clear hK hI hr hInv q3
  go_wp2
  refine ⟨by simp, .inl ⟨_, _, rfl, run_takeDeferred ((congrArg (fun x => W.heap[x]?) hz).trans (un HK)), ?_⟩⟩
  refine ⟨_, results_tmp rfl _ _ _, below_put (un HI).bel (by omega) _, ?_⟩
  rw [un HR, if_pos rfl]
  rfl
 case stop =>
  rintro cd _ W hr ⟨rfl, v, hE, hI⟩ hK
  rw [hz] at hK
  obtain ⟨⟨y1, c, y2⟩, f1, f2⟩ := hI.cells
  obtain ⟨T, x, rfl⟩ := hE.form
  have HK := H_ hK
  have HI := H_ hI
  have HR := H_ hr
  have HE := H_ hE
  clear hK hI hr hE hInv q3
  refine wpIn_exit ?_
  go_wp2
  refine ⟨by simp, .inl ⟨_, _, rfl, run_takeDeferred ((congrArg (fun x => W.heap[x]?) hz).trans (un HK)), ?_⟩⟩
  refine ⟨_, results_tmp rfl _ _ _, below_put (un HI).bel (by omega) _, ?_⟩
  rw [un HR, if_neg (by simp)]
  exact ⟨_, rfl, (un HE).wrap _⟩
theorem right_any (n : Nat) (F : Fl (n + 1)) (A : Ad) (w : World) (p : Nat -> Prop) (d : Fd) (g : Glob A w) (hN : FNode (n + 1) w p d F) (hn : n <= 99) :
  Calls Tryz.prog 24 #[d.val] w fun e w' => e = .returned (.bool (right (n + 1) 6 F)) /\ Below w.heap.size w w' := by
 have hb0 : ∀ o, Below w.heap.size w (w.alloc o) := fun o => (Below.refl _ _).alloc (Nat.le_refl _) o
 have H := H_ fun o => check_any n F A (w.alloc o) p d (g.alloc o) (hN.below (hb0 o)) hn
 have HG := H_ g
 have HB := H_ hb0
 generalize right (n + 1) 6 F = b at *
 obtain ⟨k, a, v, sa, sn, sc, f, la, ln, lc⟩ := d
 clear hN g hb0
 cases b
 ·go_enter Tryz.func24, Tryz.ntmps24
  go_wp2_with fail
  refine ((un H) _).mono ?_
  rintro e w1 ⟨hb, hp⟩
  rw [if_neg (by simp)] at hp
  obtain ⟨u, rfl, hE⟩ := hp
  have HB1 := H_ ((un HB _).trans (hb.mono (un HB _).size))
  have HN := H_ (errnoOf_any u A w1 ((un HG).next (un HB1)) hE)
  clear hb hE H
  go_wp2_with fail
  refine (un HN).mono ?_
  rintro e w2 ⟨rfl, hb⟩
  have HB2 := H_ ((un HB1).trans (hb.mono (un HB1).size))
  clear hb
  go_wp2
  go_ret
  exact ⟨rfl, un HB2⟩
 ·go_enter Tryz.func24, Tryz.ntmps24
  go_wp2_with fail
  refine ((un H) _).mono ?_
  rintro e w1 ⟨hb, hp⟩
  rw [if_pos rfl] at hp
  subst hp
  have HB1 := H_ ((un HB _).trans (hb.mono (un HB _).size))
  have HN := H_ (errnoOf_nil A w1 ((un HG).next (un HB1)))
  clear hb H
  go_wp2_with fail
  refine (un HN).mono ?_
  rintro e w2 ⟨rfl, hb⟩
  have HB2 := H_ ((un HB1).trans (hb.mono (un HB1).size))
  clear hb
  go_wp2
  go_ret
  exact ⟨rfl, un HB2⟩
end Go.Proofs.YtmenllnokgjdlaaGreatDoor.F
/-
 A list of texts that grows by append in a box, and how many names there may be. Conditions: none.
-/
namespace Go.Proofs.YtmenllnokgjdlaaGreatDoor.F
open Go Go.RowKit Go.Shelf Fp
open D (H_ un)
attribute [local go_sem] Oper.semAt_some
abbrev strs (xs : List ByteArray) : List Value := xs.map Value.string
theorem infoS : ∃ i, Tryz.prog.info? 9 = some i /\ i.zero = some (.string ⟨#[]⟩) /\ i.size = 1 /\ i.bytes = 16 := ⟨Tryz.t9, by kernel_rfl, by kernel_rfl, by kernel_rfl, by kernel_rfl⟩
theorem own_below {W V : World} {base : Nat} {e : TypeId} {size : Nat} {v : Value} {n : Nat} {xs : List Value} (h : W.ownsRow base e size v n xs) (hb : Below W.heap.size W V) : V.ownsRow base e size v n xs :=
 h.kept (row := none) ⟨hb.os, hb.tape, hb.output, hb.size, fun k hk _ => hb.block k hk⟩ (by cases hv : v.ownBlock <;> simp)
theorem own_mono {W : World} {base base' : Nat} {e : TypeId} {size : Nat} {v : Value} {n : Nat} {xs : List Value} (h : W.ownsRow base e size v n xs) (hb : base' <= base) : W.ownsRow base' e size v n xs := by
 obtain ⟨h1, h2 | ⟨g, cap, cur, h3, h4, h5⟩⟩ := h
 ·exact ⟨h1, .inl h2⟩
 ·exact ⟨h1, .inr ⟨g, cap, cur, h3, Nat.le_trans hb h4, h5⟩⟩
def Kr (Lo D : Nat) (W V : World) : Prop := Kf Lo (D + 1) W V /\ Two D (D + 1) W V
theorem Kr.trans {Lo D : Nat} {A B C : World} (h : Kr Lo D A B) (k : Kr Lo D B C) : Kr Lo D A C := ⟨h.1.trans k.1, h.2.trans k.2⟩
theorem cells_new (W : World) (x : Value) (T : TypeId) : ∀ (j : Nat) (u : Value), [x][j]? = some u -> (W.alloc (.cells #[x] T)).cell? ((⟨W.heap.size, 0, none⟩ : Addr).add j) = some u := by
 intro j u h
 rw [Addr.add_lit, Nat.zero_add, World.cell?_alloc_at _ _ _ _ rfl]
 match j, h with
 | 0, h => exact h
def most : Nat -> Nat
 | 0 => 0
 | d + 1 => 1 + 8 * most d
end Go.Proofs.YtmenllnokgjdlaaGreatDoor.F
/-
 What slices.Equal over texts, and filt.Same, answer. Conditions: none.
-/
namespace Go.Proofs.YtmenllnokgjdlaaGreatDoor.F
open Go Go.RowKit Go.Shelf Fp
open D (H_ un)
theorem Strs.below {W W' : World} {p : Nat -> Prop} {a : Option Addr} {xs : List ByteArray} (h : Strs W p a xs) (hb : Below W.heap.size W W') : Strs W' p a xs := h.of fun b _ hl => hb.block b hl
theorem eq_str (x y : ByteArray) : (x.toList == y.toList) = decide (x = y) := by
 rw [ByteArray.toList_eq, ByteArray.toList_eq, Bool.eq_iff_iff, beq_iff_eq, decide_eq_true_eq]
 exact ⟨fun h => ByteArray.ext (Array.ext' h), fun h => by rw [h]⟩
theorem drew_below {w W : World} (h : Below w.heap.size w W) (n : Nat) : Below w.heap.size w (W.drewN n) := ⟨h.os, h.tape, h.output, h.size, h.block⟩
theorem equalS_any (xs ys : List ByteArray) (a b : Option Addr) (c c' : Nat) (p q : Nat -> Prop) (w : World) (hx : Strs w p a xs) (hy : Strs w q b ys) (hl : xs.length <= 1000) :
  Calls Tryz.prog 45 #[.slice a xs.length c, .slice b ys.length c'] w fun e w' => e = .returned (.bool (decide (xs = ys))) /\ Below w.heap.size w w' := by
 by_cases hll : xs.length = ys.length
 ·have hne : ((xs.length : Int) != (ys.length : Int)) = false := by simp [hll]
  have hl' : (xs.length : Int) <= 1000 := by omega
  have HX := H_ hx
  have HY := H_ hy
  have HL := H_ hll
  clear hx hy hll
  go_enter Tryz.func45, Tryz.ntmps45
  go_wp2
  go_loopw [13] (fun ix wr => ∃ j : Nat, j <= xs.length /\ ix = .int .i64 (j : Int) /\ Hid (xs.take j = ys.take j) /\ Hid (Below w.heap.size w wr))
   (fun ix _ => xs.length - (intOf ix).toNat)
  case atStart => exact ⟨0, Nat.zero_le _, rfl, H_ (by simp), H_ (Below.refl _ _)⟩
  case round =>
   obtain ⟨j, hj, rfl, hf, hb⟩ := hrel
   by_cases hlt : j < xs.length
   ·have hlt2 : j < ys.length := (un HL) ▸ hlt
    obtain ⟨g1, o1, rfl, c0⟩ := ((un HX).below (un hb)).at hlt
    obtain ⟨g2, o2, rfl, c1⟩ := ((un HY).below (un hb)).at hlt2
    have h1 : (j : Int) < xs.length := by omega
    have h2 : (j : Int) < ys.length := by omega
    have ht1 := List.take_succ_eq_append_getElem hlt
    have ht2 := List.take_succ_eq_append_getElem hlt2
    obtain ⟨x, hx⟩ : ∃ x, xs[j] = x := ⟨_, rfl⟩
    obtain ⟨y, hy⟩ : ∃ y, ys[j] = y := ⟨_, rfl⟩
    rw [hx] at c0 ht1
    rw [hy] at c1 ht2
    have HT1 := H_ ht1
    have HT2 := H_ ht2
    clear hx hy ht1 ht2
    cases hxy : (x.toList == y.toList)
    ·have HE := H_ (of_decide_eq_false (by rw [<- eq_str]; exact hxy) : ¬ x = y)
     go_wp2
     go_quiet (fail)
     go_wp2
     go_ret
     refine ⟨?_, drew_below (un hb) _⟩
     rw [show decide (xs = ys) = false from decide_eq_false fun e => un HE (by
      have h3 : xs.take (j + 1) = ys.take (j + 1) := by rw [e]
      rw [un HT1, un HT2, un hf] at h3
      simpa using h3)]
     rfl
    ·have HE := H_ (of_decide_eq_true (by rw [<- eq_str]; exact hxy) : x = y)
     go_wp2
     go_quiet (fail)
     go_wp2
     go_roundw
     case rel =>
      refine ⟨j + 1, by omega, by simp, H_ ?_, H_ (drew_below (un hb) _)⟩
      rw [un HT1, un HT2, un hf, un HE]
     case measure => simp [intOf]; omega
   ·have hge : ¬ (j : Int) < xs.length := by omega
    have He := H_ (show decide (xs = ys) = true by
     rw [decide_eq_true_eq]
     have := un hf
     rwa [List.take_of_length_le (by omega), List.take_of_length_le (by have := un HL; omega)] at this)
    clear hf
    go_wp2
    go_ret
    rw [un He]
    exact ⟨rfl, un hb⟩
 ·have hne : ((xs.length : Int) != (ys.length : Int)) = true := by rw [bne_iff_ne]; omega
  rw [decide_eq_false (fun e => hll (by rw [e]))]
  clear hx hy hll
  go_enter Tryz.func45, Tryz.ntmps45
  go_wp2
  go_ret
  exact ⟨rfl, Below.refl _ _⟩
def SameIs (n : Nat) : Prop := ∀ (F G : Fl n) (w : World) (p q : Nat -> Prop) (d e : Fd), FNode n w p d F -> FNode n w q e G ->
 Calls Tryz.prog 25 #[d.val, e.val] w fun o w' => o = .returned (.bool (same n F G)) /\ Below w.heap.size w w'
theorem allB_len {α : Type} (f : α -> α -> Bool) : ∀ (xs ys : List α), xs.length ≠ ys.length -> allB f xs ys = false
 | [], [], h => absurd rfl h
 | [], _ :: _, _ => rfl
 | _ :: _, [], _ => rfl
 | x :: xs, y :: ys, h => by rw [allB, allB_len f xs ys (by simpa using h), Bool.and_false]
theorem allB_true {α : Type} (f : α -> α -> Bool) : ∀ (xs ys : List α) (hl : xs.length = ys.length), (∀ (j : Nat) (h : j < xs.length), f xs[j] (ys[j]'(hl ▸ h)) = true) -> allB f xs ys = true
 | [], [], _, _ => rfl
 | [], _ :: _, hl, _ => by cases hl
 | _ :: _, [], hl, _ => by cases hl
 | x :: xs, y :: ys, hl, h => by
  rw [allB, Bool.and_eq_true]
  exact ⟨h 0 (by simp), allB_true f xs ys (by simpa using hl) fun j hj => h (j + 1) (by simpa using hj)⟩
theorem allB_false {α : Type} (f : α -> α -> Bool) : ∀ (xs ys : List α) (hl : xs.length = ys.length) (j : Nat) (h : j < xs.length), f xs[j] (ys[j]'(hl ▸ h)) = false -> allB f xs ys = false
 | [], _, _, j, h, _ => by cases h
 | _ :: _, [], hl, _, _, _ => by cases hl
 | x :: xs, y :: ys, hl, 0, h, hf => by
  simp at hf
  rw [allB, hf, Bool.false_and]
 | x :: xs, y :: ys, hl, j + 1, h, hf => by
  rw [allB, allB_false f xs ys (by simpa using hl) j (by simpa using h) (by simpa using hf), Bool.and_false]
theorem equalF_any (n : Nat) (ih : SameIs n) (F G : Fl (n + 1)) (w : World) (p q : Nat -> Prop) (d e : Fd) (hF : FNode (n + 1) w p d F) (hG : FNode (n + 1) w q e G) :
  Calls Tryz.prog 46 #[.slice d.la d.ln d.lc, .slice e.la e.ln e.lc, .func (.func 25) #[] #[]] w fun o w' => o = .returned (.bool (allB (same n) (ls F) (ls G))) /\ Below w.heap.size w w' := by
 obtain ⟨_, _, _, _, _, _, _, la, ln, lc⟩ := d
 obtain ⟨_, _, _, _, _, _, _, la', ln', lc'⟩ := e
 have hl1 := hF.is.ln
 have hl2 := hG.is.ln
 have hs1 := hF.sm.ln
 dsimp only at hl1 hl2 ⊢
 by_cases hll : (ls F).length = (ls G).length
 ·have hne : ((ln : Int) != (ln' : Int)) = false := by simp; omega
  have hl' : (ln : Int) <= 1000 := by omega
  have HF := H_ hF
  have HG := H_ hG
  have HL := H_ hll
  have IH := H_ ih
  have H1 := H_ hl1
  have H2 := H_ hl2
  clear hF hG hll ih hs1 hl1 hl2
  go_enter Tryz.func46, Tryz.ntmps46
  go_wp2
  go_loopw [17] (fun y wr => ∃ i : Nat, i <= ln /\ y = .int .i64 i /\ Hid (∀ (j : Nat) (h : j < (ls F).length), j < i -> same n (ls F)[j] ((ls G)[j]'((un HL) ▸ h)) = true) /\ Hid (Below w.heap.size w wr)) (fun y _ => ln - (intOf y).toNat)
  case atStart => exact ⟨0, Nat.zero_le _, rfl, H_ (fun j _ h => by cases h), H_ (Below.refl _ _)⟩
  case round =>
   obtain ⟨i, hi, rfl, hall, hb⟩ := hrel
   by_cases hlt : i < ln
   ·have hltF : i < (ls F).length := by have := un H1; omega
    have hltG : i < (ls G).length := (un HL) ▸ hltF
    obtain ⟨g, off, ha⟩ := (un HF).kids
    obtain ⟨g', off', ha'⟩ := (un HG).kids
    have ha := ha.resolve_right (fun e => by rw [e] at hltF; cases hltF)
    have ha' := ha'.resolve_right (fun e => by rw [e] at hltG; cases hltG)
    obtain ⟨⟨k1, a1, v1, sa1, sn1, sc1, f1, la1, ln1, lc1⟩, ⟨c0, c1, c2, c3, c4, c5⟩, hN1⟩ := ((un HF).below (un hb)).kid ha hltF
    obtain ⟨⟨k2, a2, v2, sa2, sn2, sc2, f2, la2, ln2, lc2⟩, hat2, hN2⟩ := ((un HG).below (un hb)).kid ha' hltG
    dsimp only at c0 c1 c2 c3 c4 c5 ha ha'
    have H := H_ (fun o o' => (un IH) (ls F)[i] (ls G)[i] ((wr.alloc o).alloc o') p q _ _ (hN1.below (((Below.refl _ _).alloc (Nat.le_refl _) o).alloc (by simp) o')) (hN2.below (((Below.refl _ _).alloc (Nat.le_refl _) o).alloc (by simp) o')))
    have hz : ∀ o, At (wr.alloc o) g' (off' + i * 6) ⟨k2, a2, v2, sa2, sn2, sc2, f2, la2, ln2, lc2⟩ := fun o => hat2.of (Below.heap_alloc wr o g' hat2.lt)
    have z0 := fun o => (hz o).c0
    have z1 := fun o => (hz o).c1
    have z2 := fun o => (hz o).c2
    have z3 := fun o => (hz o).c3
    have z4 := fun o => (hz o).c4
    have z5 := fun o => (hz o).c5
    dsimp only at z0 z1 z2 z3 z4 z5
    have hlt' : (i : Int) < ln := by omega
    have hltB' : (i : Int) < ln' := by have := un H2; omega
    subst ha
    subst ha'
    clear hN1 hN2 hz hat2
    go_wp2_with fail
    refine ((un H) _ _).mono ?_
    rintro e w2 ⟨rfl, hb2⟩
    have HBB := H_ ((un hb).trans ((((Below.refl wr.heap.size wr).alloc (Nat.le_refl _) _).alloc (by simp) _).trans (hb2.mono (by simp; omega)) |>.mono (un hb).size))
    cases hs : same n (ls F)[i] (ls G)[i]
    ·have Hf := H_ (allB_false (same n) (ls F) (ls G) (un HL) i hltF hs)
     clear hs hb2 H z0 z1 z2 z3 z4 z5 c0 c1 c2 c3 c4 c5
     go_wp2
     go_ret
     rw [un Hf]
     exact ⟨rfl, un HBB⟩
    ·have hs' := H_ hs
     clear hs hb2 H z0 z1 z2 z3 z4 z5 c0 c1 c2 c3 c4 c5
     go_wp2
     go_roundw
     case rel =>
      refine ⟨i + 1, by omega, by simp, H_ (fun j h hj => ?_), HBB⟩
      by_cases hji : j = i
      ·subst hji; exact un hs'
      ·exact (un hall) j h (by omega)
     case measure => simp [intOf]; omega
   ·have hge : ¬ (i : Int) < ln := by omega
    have Hf := H_ (allB_true (same n) (ls F) (ls G) (un HL) (fun j h => (un hall) j h (by have := un H1; omega)))
    clear hall
    go_wp2
    go_ret
    rw [un Hf]
    exact ⟨rfl, un hb⟩
 ·have hne : ((ln : Int) != (ln' : Int)) = true := by rw [bne_iff_ne]; omega
  have hf := allB_len (same n) (ls F) (ls G) hll
  rw [hf]
  clear ih hF hG hf hll hl1 hl2 hs1
  go_enter Tryz.func46, Tryz.ntmps46
  go_wp2
  go_ret
  exact ⟨rfl, Below.refl _ _⟩
theorem same_any : ∀ n, SameIs n
 | 0 => fun F => Empty.elim F
 | n + 1 => by
  have ih := same_any n
  intro F G w p q d e hF hG
  have hbt : ∀ o o', Below w.heap.size w ((w.alloc o).alloc o') := fun o o' => ((Below.refl _ _).alloc (Nat.le_refl _) o).alloc (by simp) o'
  have HE := H_ (fun o o' => equalS_any (an F) (an G) d.sa e.sa d.sc e.sc p q ((w.alloc o).alloc o') (hF.strs.below (hbt o o')) (hG.strs.below (hbt o o')) hF.sm.sn)
  have HQ := H_ (fun o o' V hV => equalF_any n ih F G V p q d e (hF.below ((hbt o o').trans hV)) (hG.below ((hbt o o').trans hV)))
  have hI := hF.is
  have hI2 := hG.is
  have hs : same (n + 1) F G = (decide (d.k = e.k) && decide (d.a = e.a) && decide (d.v = e.v) && decide (d.f = e.f) && decide (an F = an G) && allB (same n) (ls F) (ls G)) := by rw [same, hI.k, hI.a, hI.v, hI.f, hI2.k, hI2.a, hI2.v, hI2.f]
  rw [<- hI.sn, <- hI2.sn] at HE
  rw [hs, <- eq_str, <- eq_str, <- eq_str, show decide (d.k = e.k) = (d.k == e.k) by rw [Bool.eq_iff_iff]; simp]
  generalize decide (an F = an G) = b5 at *
  generalize allB (same n) (ls F) (ls G) = b6 at *
  have HB := H_ hbt
  clear hF hG hI hI2 hs ih hbt
  obtain ⟨k, a, v, sa, sn, sc, f, la, ln, lc⟩ := d
  obtain ⟨k', a', v', sa', sn', sc', f', la', ln', lc'⟩ := e
  dsimp only at HE HQ ⊢
  cases h1 : (k == k')
  ·go_enter Tryz.func25, Tryz.ntmps25
   go_wp2
   go_ret
   exact ⟨rfl, un HB _ _⟩
  cases h2 : (a.toList == a'.toList)
  ·go_enter Tryz.func25, Tryz.ntmps25
   go_wp2
   go_ret
   exact ⟨rfl, un HB _ _⟩
  cases h3 : (v.toList == v'.toList)
  ·go_enter Tryz.func25, Tryz.ntmps25
   go_wp2
   go_ret
   exact ⟨rfl, un HB _ _⟩
  cases h4 : (f.toList == f'.toList)
  ·go_enter Tryz.func25, Tryz.ntmps25
   go_wp2
   go_ret
   exact ⟨rfl, un HB _ _⟩
  cases b5
  ·go_enter Tryz.func25, Tryz.ntmps25
   go_wp2_with fail
   refine ((un HE) _ _).mono ?_
   rintro o w1 ⟨rfl, hb⟩
   have HB1 := H_ ((un HB _ _).trans (hb.mono (un HB _ _).size))
   clear hb
   go_wp2
   go_ret
   exact ⟨rfl, un HB1⟩
  ·go_enter Tryz.func25, Tryz.ntmps25
   go_wp2_with fail
   refine ((un HE) _ _).mono ?_
   rintro o w1 ⟨rfl, hb⟩
   have HB1 := H_ ((un HB _ _).trans (hb.mono (un HB _ _).size))
   have HH := H_ ((un HQ) _ _ w1 (hb.mono (un HB _ _).size))
   have z5 : w1.cell? ⟨w.heap.size, 5, none⟩ = some (.slice la ln lc) := (hb.cell (by simp; omega)).trans ((At.new w ⟨k, a, v, sa, sn, sc, f, la, ln, lc⟩).of (Below.heap_alloc _ _ _ (by simp))).c5
   have y0 := At.new (w.alloc (Fd.obj ⟨k, a, v, sa, sn, sc, f, la, ln, lc⟩)) ⟨k', a', v', sa', sn', sc', f', la', ln', lc'⟩
   rw [World.size_alloc] at y0
   have y5 : w1.cell? ⟨w.heap.size + 1, 5, none⟩ = some (.slice la' ln' lc') := (hb.cell (by simp)).trans y0.c5
   clear y0
   clear hb HQ
   go_wp2_with fail
   refine (un HH).mono ?_
   rintro o w2 ⟨rfl, hb⟩
   have HB2 := H_ ((un HB1).trans (hb.mono (un HB1).size))
   clear hb
   go_wp2
   go_ret
   exact ⟨rfl, un HB2⟩
end Go.Proofs.YtmenllnokgjdlaaGreatDoor.F
/-
 What filt.isOfFilters, enclosed and pieces answer. Conditions: the bounds that each statement names.
-/
namespace Go.Proofs.YtmenllnokgjdlaaGreatDoor.F
open Go Go.RowKit Go.Shelf Fp
open D (H_ un)
open Dp (jn)
open E (pri)
attribute [local go_sem] Oper.semAt_some
theorem isSet_any (k : Int) (w : World) : Calls Tryz.prog 74 #[.int .i64 k] w fun e w' => e = .returned (.bool (isSet k)) /\ w' = w := by
 unfold isSet
 cases h0 : (k == 0)
 ·cases h1 : (k == 1)
  ·generalize h2 : (k == 2) = b
   go_enter Tryz.func74, Tryz.ntmps74
   go_wp2
   go_ret
   exact ⟨rfl, rfl⟩
  ·go_enter Tryz.func74, Tryz.ntmps74
   go_wp2
   go_ret
   exact ⟨rfl, rfl⟩
 ·go_enter Tryz.func74, Tryz.ntmps74
  go_wp2
  go_ret
  exact ⟨rfl, rfl⟩
theorem join_flat : ∀ xs : List (List UInt8), Lib.join xs [] = xs.flatten
 | [] => rfl
 | x :: r => by
  rw [Lib.join_cons, Lib.joinTail, List.flatten_cons]
  congr 1
  simp
theorem data_app (a b : ByteArray) : (a ++ b).data.toList = a.data.toList ++ b.data.toList := E.data_app a b
theorem enclosed_any (bk o c : Nat) (xs : List ByteArray) (w : World) (hcells : ∀ (j : Nat) x, xs[j]? = some x -> w.cell? ⟨bk, o + j, none⟩ = some (.string x)) (hbk : bk < w.heap.size) (hN : xs.length <= 1000) (hcap : xs.length <= c)
  (hlen : (xs.map (·.data.toList)).flatten.length <= 1000000000) :
  Calls Tryz.prog 75 #[.slice (some ⟨bk, o, none⟩) xs.length c] w fun e w' => e = .returned (.string ⟨(40 :: ((xs.map (·.data.toList)).flatten ++ [41])).toArray⟩) /\ Below w.heap.size w w' := by
 have H := join_some bk o c xs ⟨#[]⟩ w hcells hbk (by omega) hcap (by
  rw [show (ByteArray.mk #[]).data.toList = [] from rfl, join_flat]; omega)
 rw [show (ByteArray.mk #[]).data.toList = [] from rfl, join_flat] at H
 obtain ⟨r, hr⟩ : ∃ r : ByteArray, r = ⟨((xs.map (·.data.toList)).flatten).toArray⟩ := ⟨_, rfl⟩
 have hrz : r.size <= 1000000000 := by rw [hr]; show (List.toArray _).size <= _; simpa using hlen
 have hres : (⟨(40 :: ((xs.map (·.data.toList)).flatten ++ [41])).toArray⟩ : ByteArray) = ⟨#[40]⟩ ++ r ++ ⟨#[41]⟩ := by
  refine ByteArray.ext (Array.ext' ?_)
  rw [data_app, data_app, hr]
  simp
 rw [<- hr] at H
 rw [hres]
 have HR := H_ H
 clear H hr hres hcells hlen
 have h1 : 1 + r.size <= 9223372036854775807 := by omega
 have h2 : 1 + r.size + 1 <= 9223372036854775807 := by omega
 go_enter Tryz.func75, Tryz.ntmps75
 go_wp2_with fail
 refine (un HR).mono ?_
 rintro e w1 ⟨rfl, hb⟩
 have HB := H_ hb
 clear hb
 go_wp2
 go_ret
 exact ⟨rfl, un HB⟩
theorem own_cells {W : World} {base gg n cp : Nat} (xs : List ByteArray) (ho : W.ownsRow base 9 1 (.slice (some ⟨gg, 0, none⟩) n cp) n (strs xs)) : (∀ (j : Nat) x, xs[j]? = some x -> W.cell? ⟨gg, 0 + j, none⟩ = some (.string x)) /\ gg < W.heap.size /\ n <= cp := by
 refine ⟨fun i x hx => ?_, ?_⟩
 ·have := ho.cells (g := gg) rfl i (.string x) (by rw [List.getElem?_map, hx]; rfl)
  rw [Addr.add_lit] at this
  exact this
 ·rcases ho.2 with ⟨h, _⟩ | ⟨g', c', cur, h, _, h2, h3, _⟩
  ·cases h
  ·have e := Value.slice.inj h
   have e1 : gg = g' := by have := Option.some.inj e.1; exact (Addr.mk.inj this).1
   obtain rfl := e1
   have e2 : cp = c' := e.2.2
   exact ⟨(Array.getElem?_eq_some_iff.1 h2).1, by rw [e2]; exact h3⟩
theorem join_own {W : World} {base gg n cp : Nat} (xs : List ByteArray) (sep : ByteArray) (ho : W.ownsRow base 9 1 (.slice (some ⟨gg, 0, none⟩) n cp) n (strs xs)) (hn : xs.length = n) (hN : n <= 1000000) (hlen : (Lib.join (xs.map (·.data.toList)) sep.data.toList).length <= 1000000000) :
  Calls Tryz.prog 113 #[.slice (some ⟨gg, 0, none⟩) n cp, .string sep] W fun e w' => e = .returned (.string ⟨(Lib.join (xs.map (·.data.toList)) sep.data.toList).toArray⟩) /\ Below W.heap.size W w' := by
 obtain ⟨h1, h2, h3⟩ := own_cells xs ho
 subst hn
 exact join_some gg 0 cp xs sep W h1 h2 (by omega) h3 (by omega)
abbrev prs (xs : List ByteArray) : List ByteArray := xs.map (pri false)
theorem pieces_prs (v : ByteArray) (l : List ByteArray) (f : ByteArray) : Fp.pieces v l f = jn 42 ((prs (v :: (l ++ [f]))).map (·.data.toList)) := by
 unfold Fp.pieces
 congr 1
 simp [prs, pv, Function.comp_def]
theorem pieces_long (v : ByteArray) (l : List ByteArray) (f : ByteArray) (hv : v.size <= 1000) (hf : f.size <= 1000) (hl : l.length <= 1000) (hx : ∀ x ∈ l, x.size <= 1000) : (Fp.pieces v l f).length <= 4000000 := by
 have := Dp.jn_len 42 3000 (pv v :: (l.map pv ++ [pv f])) fun x hx' => by
  rcases List.mem_cons.1 hx' with rfl | h
  ·have := pv_len v; omega
  ·rcases List.mem_append.1 h with h | h
   ·obtain ⟨s, hs, rfl⟩ := List.mem_map.1 h
    have := pv_len s
    have := hx s hs
    omega
   ·simp at h; subst h; have := pv_len f; omega
 simp only [List.length_cons, List.length_append, List.length_map, List.length_nil] at this
 have h2 : (l.length + (0 + 1) + 1) * (3000 + 1) <= 1002 * 3001 := Nat.mul_le_mul (by omega) (Nat.le_refl _)
 unfold Fp.pieces
 omega
structure Sm1 {n : Nat} (F : Fl (n + 1)) : Prop where
 v : (va F).size <= 1000
 f : (fi F).size <= 1000
 sn : (an F).length <= 1000
 s : ∀ x ∈ an F, x.size <= 1000
theorem pieces_any {n : Nat} (F : Fl (n + 1)) (w : World) (p : Nat -> Prop) (d : Fd) (hI : Is d F) (hS : Sm1 F) (hx : Strs w p d.sa (an F)) :
  Calls Tryz.prog 76 #[d.val] w fun e w' => e = .returned (.string ⟨(Fp.pieces (va F) (an F) (fi F)).toArray⟩) /\ Below w.heap.size w w' := by
 have hpl := pieces_long (va F) (an F) (fi F) hS.v hS.f hS.sn hS.s
 rw [pieces_prs] at hpl ⊢
 obtain ⟨k, a, v, sa, sn, sc, f, la, ln, lc⟩ := d
 have h3 := hI.v
 have h4 := hI.f
 have h5 := hI.sn
 clear hI
 dsimp only at h3 h4 h5 hx ⊢
 have h6 := hS.v
 have h7 := hS.f
 have h8 := hS.sn
 have h9 := hS.s
 rw [<- h3] at h6 hpl ⊢
 rw [<- h4] at h7 hpl ⊢
 generalize an F = xs at *
 obtain ⟨res, hres⟩ : ∃ res : ByteArray, res = ⟨(jn 42 ((prs (v :: (xs ++ [f]))).map (·.data.toList))).toArray⟩ := ⟨_, rfl⟩
 rw [<- hres]
 have HRS := H_ hres
 clear hres
 have HF := H_ fun x W hz => E.filter_any x W hz
 have HX := H_ hx
 have HL := H_ hpl
 have H9 := H_ h9
 have H5 := H_ h5
 have hsn : (sn : Int) <= 1000 := by omega
 clear hx hpl hS h3 h4 h9 h5 h8
 obtain ⟨i0, hi0, hz0, hz1, hz2⟩ := infoS
 have hb0 := (Below.refl w.heap.size w).alloc (Nat.le_refl _) (Fd.obj ⟨k, a, v, sa, sn, sc, f, la, ln, lc⟩)
 have hbx := At.new w ⟨k, a, v, sa, sn, sc, f, la, ln, lc⟩
 have HB0 := H_ hb0
 have HBX := H_ hbx
 clear hb0 hbx
 go_enter Tryz.func76, Tryz.ntmps76
 go_wp2_with fail
 refine ((un HF) v _ h6).mono ?_
 rintro e w1 ⟨rfl, hb⟩
 have hb1 := (un HB0).trans (hb.mono (un HB0).size)
 have hbx1 := (un HBX).of (hb.block _ (un HBX).lt)
 have hown1 := World.ownsRow_lit (base := w.heap.size + 1) (e := 9) (size := 1) w1 #[.string (pri false v)] 1 (by have := hb.size; simp at this; omega) (by decide) rfl
 have hb2 : Below w.heap.size w (w1.alloc (.cells #[.string (pri false v)] 9)) := hb1.alloc hb1.size _
 have hbx2 := hbx1.of (Below.heap_alloc w1 (.cells #[.string (pri false v)] 9) _ hbx1.lt)
 have c3 := hbx2.c3
 dsimp only at c3
 have HB2 := H_ hb2
 have HBX2 := H_ hbx2
 have HO2 := H_ hown1
 clear hb hb1 hbx1 hown1 hb2 hbx2 HB0 HBX
 go_wp2
 go_loopw [3, 13] (fun sl ix wr => ∃ j : Nat, j <= sn /\ ix = .int .i64 (j : Int) /\ Hid (wr.ownsRow (w.heap.size + 1) 9 1 sl (j + 1) (strs (prs (v :: xs.take j)))) /\ Hid (Below w.heap.size w wr) /\ Hid (At wr w.heap.size 0 ⟨k, a, v, sa, sn, sc, f, la, ln, lc⟩))
  (fun _ ix _ => sn - (intOf ix).toNat)
 case atStart => exact ⟨0, Nat.zero_le _, rfl, HO2, HB2, HBX2⟩
 case round =>
  obtain ⟨j, hj, rfl, ho, hb, hat⟩ := hrel
  clear HO2 HB2 HBX2 c3
  by_cases hlt : j < sn
  ·have hltx : j < xs.length := by have := un H5; omega
   obtain ⟨g, off, hsa, q0⟩ := ((un HX).below (un hb)).at hltx
   have hx9 := (un H9) xs[j] (List.getElem_mem hltx)
   have htk := List.take_succ_eq_append_getElem hltx
   obtain ⟨x, hx⟩ : ∃ x, xs[j] = x := ⟨_, rfl⟩
   rw [hx] at q0 hx9 htk
   have HT := H_ htk
   have hlt' : (j : Int) < sn := by omega
   have HC := H_ fun W => (un HF) x W hx9
   clear hx htk
   subst hsa
   go_wp2_with fail
   refine ((un HC) _).mono ?_
   rintro e w2 ⟨rfl, hb2⟩
   have HO := H_ ((own_below (un ho) hb2).alloc (.cells #[.string (pri false x)] 9))
   have HB2 := H_ ((un hb).trans (hb2.mono (un hb).size))
   have HA2 := H_ ((un hat).of (hb2.block _ (un hat).lt))
   have hzs : w.heap.size + 1 <= w2.heap.size := by have := (un HA2).lt; omega
   clear hb2 ho hb hat
   go_wp2_with (at_builtin; refine wpList_append_lies _ rfl (.tmp 17) (.tmp 20) 22 rfl (w.heap.size + 1) 9 i0 (.string ⟨#[]⟩) 1 16 Tryz.underlying22 hi0 hz0 hz1 hz2 rfl (by omega) _ (j + 1) _ rfl (un HO) ⟨w2.heap.size, 0, none⟩ 1 1 [.string (pri false x)] rfl rfl (cells_new w2 _ _) (by simp [Value.oneCell']) (by omega) (by unfold maxLen; omega) (by omega) (by simp; omega) (w2.heap.size + 1) (by simp) ?_; intro gg cp w5 hown hgrow hat2 hglt)
   have hB5 : Below w.heap.size w w5 := by
    have h1 : Below w.heap.size w (w2.alloc (.cells #[.string (pri false x)] 9)) := (un HB2).alloc (un HB2).size _
    exact ⟨hgrow.os.trans h1.os, hgrow.tape.trans h1.tape, hgrow.output.trans h1.output, Nat.le_trans h1.size hgrow.size, fun k' hk' => (hgrow.block k' (Nat.lt_of_lt_of_le hk' h1.size) (fun e => by have := ((un HO).lt k' e.symm).1; omega)).trans (h1.block k' hk')⟩
   have hA5 : At w5 w.heap.size 0 ⟨k, a, v, some ⟨g, off, none⟩, sn, sc, f, la, ln, lc⟩ := (((un HA2).of (Below.heap_alloc w2 _ _ (un HA2).lt))).of (hgrow.block _ (by have := (un HA2).lt; simp; omega) (fun e => by have := ((un HO).lt _ e.symm).1; omega))
   have HB5 := H_ hB5
   have HA5 := H_ hA5
   have HO5 := H_ hown
   clear hB5 hA5 hown hgrow hat2 hglt HO HB2 HA2
   go_roundw
   case rel =>
    refine ⟨j + 1, by omega, by simp, ?_, HB5, HA5⟩
    have := un HO5
    rw [un HT]
    exact H_ (by simpa [strs, prs] using this)
   case measure => simp [intOf]; omega
  ·have hge : ¬ (j : Int) < sn := by omega
   have hje : j = xs.length := by have := un H5; omega
   have ho' := un ho
   rw [hje, List.take_length] at ho'
   have HO0 := H_ ho'
   have c4 := (un hat).c4
   dsimp only at c4
   have HC := H_ fun W => (un HF) f W h7
   have hxl : xs.length <= 1000 := by have := un H5; omega
   have HBw := H_ (show Below w.heap.size w wr from un hb)
   have hz0' : w.heap.size + 1 <= wr.heap.size := (un hat).lt
   clear ho ho' hat hb hje
   go_wp2_with fail
   refine ((un HC) _).mono ?_
   rintro e w2 ⟨rfl, hb2⟩
   have HO := H_ ((own_below (un HO0) hb2).alloc (.cells #[.string (pri false f)] 9))
   have HB2 := H_ ((un HBw).trans (hb2.mono (un HBw).size))
   have hzs : w.heap.size + 1 <= w2.heap.size := Nat.le_trans hz0' hb2.size
   clear hb2 HO0 HBw hz0'
   go_wp2_with (first
    | (at_builtin; refine wpList_append_lies _ rfl (.tmp 23) (.tmp 27) 22 rfl (w.heap.size + 1) 9 i0 (.string ⟨#[]⟩) 1 16 Tryz.underlying22 hi0 hz0 hz1 hz2 rfl (by omega) _ (xs.length + 1) _ rfl (un HO) ⟨w2.heap.size, 0, none⟩ 1 1 [.string (pri false f)] rfl rfl (cells_new w2 _ _) (by simp [Value.oneCell']) (by omega) (by unfold maxLen; omega) (by omega) (by simp; omega) (w2.heap.size + 1) (by simp) ?_; intro gg cp w5 hown hgrow hat2 hglt; have HO5 := H_ hown; have HG5 := H_ hgrow; clear hown hgrow hat2 hglt)
    | fail)
   have hB5 : Below w.heap.size w w5 := by
    have hgrow := un HG5
    have h1 : Below w.heap.size w (w2.alloc (.cells #[.string (pri false f)] 9)) := (un HB2).alloc (un HB2).size _
    exact ⟨hgrow.os.trans h1.os, hgrow.tape.trans h1.tape, hgrow.output.trans h1.output, Nat.le_trans h1.size hgrow.size, fun k' hk' => (hgrow.block k' (Nat.lt_of_lt_of_le hk' h1.size) (fun e => by have := ((un HO).lt k' e.symm).1; omega)).trans (h1.block k' hk')⟩
   have hO5 : w5.ownsRow (w.heap.size + 1) 9 1 (.slice (some ⟨gg, 0, none⟩) (xs.length + 1 + 1) cp) (xs.length + 1 + 1) (strs (prs (v :: (xs ++ [f])))) := by
    have := un HO5
    simpa [strs, prs] using this
   have hJ := join_own (prs (v :: (xs ++ [f]))) ⟨#[42]⟩ hO5 (by simp [prs]) (by omega) (by
    have := un HL
    show (jn 42 _).length <= _
    omega)
   rw [show (⟨(Lib.join ((prs (v :: (xs ++ [f]))).map (·.data.toList)) (ByteArray.mk #[42]).data.toList).toArray⟩ : ByteArray) = res from (un HRS).symm] at hJ
   have HJ := H_ hJ
   have HB5 := H_ hB5
   clear hJ hB5 hO5 HO5 HG5 HO HB2
   go_wp2_with fail
   refine (un HJ).mono ?_
   rintro e w6 ⟨rfl, hb6⟩
   have HB6 := H_ ((un HB5).trans (hb6.mono (un HB5).size))
   clear hb6
   go_wp2
   go_ret
   exact ⟨rfl, un HB6⟩
end Go.Proofs.YtmenllnokgjdlaaGreatDoor.F
/-
 What printer.text of package filt answers at a right filter, and filt.Print. Conditions: the package-level variables hold what the program's text lays.
-/
namespace Go.Proofs.YtmenllnokgjdlaaGreatDoor.F
open Go Go.RowKit Go.Shelf Fp
open D (H_ un)
open Dp (jn)
open E (pri)
attribute [local go_sem] Oper.semAt_some
def tl : Nat -> Nat
 | 0 => 0
 | d + 1 => 8 * tl d + 2000
theorem fit_bounds {n : Nat} {F : Fl (n + 1)} (h : fitF F = true) : (ls F).length <= 8 /\ hasSgn (kd F) = true \/ (kd F = 4 /\ ls F = []) := by
 unfold fitF fitB at h
 split at h
 ·rename_i hs
  left
  unfold fitS at h
  simp only [Bool.and_eq_true, decide_eq_true_eq] at h
  refine ⟨by have := h.1.1.2; split at this <;> omega, ?_⟩
  unfold isSet at hs
  simp only [Bool.or_eq_true, beq_iff_eq] at hs
  rcases hs with (h1 | h1) | h1 <;> rw [h1] <;> rfl
 ·split at h
  ·rename_i h4
   unfold fitU at h
   simp only [Bool.and_eq_true, decide_eq_true_eq] at h
   exact .inr ⟨h4, List.eq_nil_of_length_eq_zero h.2⟩
  ·split at h
   ·rename_i hk
    left
    unfold fitV at h
    simp only [Bool.and_eq_true, decide_eq_true_eq] at h
    refine ⟨by omega, ?_⟩
    rcases hk with h1 | h1 | h1 | h1 | h1 <;> rw [h1] <;> rfl
   ·cases h
theorem sgn_len (k : Int) : (sgn k).length <= 2 := by
 unfold sgn
 repeat' split
 all_goals simp
theorem fit_item {n : Nat} {F : Fl (n + 1)} (h : fitF F = true) (hs : isSet (kd F) = false) : (Fp.nm F).size <= 30 /\ (va F).size <= 60 /\ (fi F).size <= 60 /\ (an F).length <= 4 /\ (∀ x ∈ an F, x.size <= 60) := by
 have hn := (leaf_name h hs).1
 have := (name_size hn).2
 unfold fitF fitB at h
 rw [hs] at h
 simp only [Bool.false_eq_true, if_false] at h
 split at h
 ·unfold fitU at h
  simp only [Bool.and_eq_true, decide_eq_true_eq, List.all_eq_true] at h
  refine ⟨this, by omega, by omega, by omega, fun x hx => ?_⟩
  have := h.1.1.1.2 x hx
  unfold okP at this
  simp at this
  exact this.2
 ·split at h
  ·unfold fitV at h
   simp only [Bool.and_eq_true, decide_eq_true_eq] at h
   have h1 := h.1.1.2
   have h2 := h.1.2
   refine ⟨this, by split at h1 <;> omega, by omega, by omega, fun x hx => ?_⟩
   rw [List.eq_nil_of_length_eq_zero h2.1] at hx
   cases hx
  ·cases h
theorem text_long : ∀ (n d : Nat) (F : Fl n), right n d F = true -> (text n F).length <= tl d
 | 0, _, t, _ => Empty.elim t
 | n + 1, d, F, h => by
  rw [right] at h
  simp only [Bool.and_eq_true, decide_eq_true_eq, List.all_eq_true] at h
  obtain ⟨⟨hd, hf⟩, hk⟩ := h
  obtain ⟨d', rfl⟩ : ∃ d', d = d' + 1 := ⟨d - 1, by omega⟩
  rw [text, tl]
  cases hs : isSet (kd F) with
  | true =>
   rw [if_pos rfl]
   have hl : (ls F).length <= 8 := by
    rcases fit_bounds hf with h1 | h1
    ·exact h1.1
    ·rw [h1.2]; simp
   have key : ∀ l : List (Fl n), (∀ x ∈ l, (text n x).length <= tl d') -> ((l.map (text n)).flatten).length <= l.length * tl d' := by
    intro l
    induction l with
    | nil => intro _; simp
    | cons x l ih =>
     intro hx
     have h1 := hx x (by simp)
     have h2 := ih (fun y hy => hx y (by simp [hy]))
     rw [List.map_cons, List.flatten_cons, List.length_append, List.length_cons, Nat.succ_mul]
     omega
   have h3 := key (ls F) (fun x hx => text_long n d' x (hk x hx))
   have h4 : (ls F).length * tl d' <= 8 * tl d' := Nat.mul_le_mul hl (Nat.le_refl _)
   have h5 := sgn_len (kd F)
   simp only [List.length_cons, List.length_append, List.length_nil]
   omega
  | false =>
   obtain ⟨h1, h2, h3, h4, h5⟩ := fit_item hf hs
   simp only [Bool.false_eq_true, if_false]
   have hv := pv_len (va F)
   have hn := E.len_toList (Fp.nm F)
   split
   ·have hp := Dp.jn_len 42 180 (pv (va F) :: ((an F).map pv ++ [pv (fi F)])) fun x hx' => by
     rcases List.mem_cons.1 hx' with rfl | h
     ·omega
     ·rcases List.mem_append.1 h with h | h
      ·obtain ⟨s, hs, rfl⟩ := List.mem_map.1 h
       have := pv_len s
       have := h5 s hs
       omega
      ·simp at h; subst h; have := pv_len (fi F); omega
    simp only [List.length_cons, List.length_append, List.length_map, List.length_nil] at hp
    have h6 : ((an F).length + (0 + 1) + 1) * (180 + 1) <= 6 * 181 := Nat.mul_le_mul (by omega) (Nat.le_refl _)
    simp only [List.length_cons, List.length_append, List.length_nil, Fp.pieces]
    omega
   ·have := sgn_len (kd F)
    simp only [List.length_cons, List.length_append, List.length_nil]
    omega
theorem tl_mono {d d' : Nat} (h : d <= d') : tl d <= tl d' := by
 induction h with
 | refl => exact Nat.le_refl _
 | step _ ih => rw [tl]; omega
def TextIs (n : Nat) : Prop := ∀ (k : Nat) (F : Fl n) (w : World) (p : Nat -> Prop) (d : Fd) (B : Nat), k <= 6 -> right n k F = true -> FNode n w p d F -> SignsAt w B ->
 Calls Tryz.prog 51 #[.agg #[.map (some B)], d.val] w fun e w' => e = .returned (.string ⟨(text n F).toArray⟩) /\ Below w.heap.size w w'
theorem text_set (n : Nat) (ih : TextIs n) (kk : Nat) (F : Fl (n + 1)) (w : World) (p : Nat -> Prop) (d : Fd) (B : Nat) (hk6 : kk <= 6) (hr : right (n + 1) kk F = true) (hN : FNode (n + 1) w p d F) (hB : SignsAt w B) (hs : isSet (kd F) = true) :
  Calls Tryz.prog 51 #[.agg #[.map (some B)], d.val] w fun e w' => e = .returned (.string ⟨(text (n + 1) F).toArray⟩) /\ Below w.heap.size w w' := by
 have htl := text_long (n + 1) kk F hr
 have htm := tl_mono hk6
 have h6 : tl 6 <= 100000000 := by decide
 have hr' := hr
 rw [right] at hr'
 simp only [Bool.and_eq_true, decide_eq_true_eq, List.all_eq_true] at hr'
 obtain ⟨⟨hd0, hf⟩, hkr⟩ := hr'
 have hls : (ls F).length <= 8 /\ hasSgn (kd F) = true := by
  rcases fit_bounds hf with h | h
  ·exact h
  ·rw [h.1] at hs; cases hs
 rw [text, if_pos hs] at htl ⊢
 obtain ⟨k, a, v, sa, sn, sc, f, la, ln, lc⟩ := d
 have hI := hN.is
 have hkd : k = kd F := hI.k
 have hln : ln = (ls F).length := hI.ln
 rw [<- hkd] at hls htl hs ⊢
 obtain ⟨sg, hsg⟩ : ∃ sg : ByteArray, sg = ⟨(sgn k).toArray⟩ := ⟨_, rfl⟩
 have hb0 : Below w.heap.size w ((w.alloc (.cells #[.map (some B)] 75)).alloc (.cells #[.int .i64 k, .string a, .string v, .slice sa sn sc, .string f, .slice la ln lc] 25)) := ((Below.refl _ _).alloc (Nat.le_refl _) _).alloc (by simp) _
 have hbx : At ((w.alloc (.cells #[.map (some B)] 75)).alloc (.cells #[.int .i64 k, .string a, .string v, .slice sa sn sc, .string f, .slice la ln lc] 25)) (w.heap.size + 1) 0 ⟨k, a, v, sa, sn, sc, f, la, ln, lc⟩ := by
  have := At.new (w.alloc (.cells #[.map (some B)] 75)) ⟨k, a, v, sa, sn, sc, f, la, ln, lc⟩
  rwa [World.size_alloc] at this
 have hbp : ((w.alloc (.cells #[.map (some B)] 75)).alloc (.cells #[.int .i64 k, .string a, .string v, .slice sa sn sc, .string f, .slice la ln lc] 25)).cell? ⟨w.heap.size, 0, none⟩ = some (.map (some B)) := by
  rw [World.cell?_alloc_lt _ _ _ (by simp), World.cell?_alloc_at _ _ _ _ rfl]; rfl
 obtain ⟨W1, hW1⟩ : ∃ W1, W1 = (w.alloc (.cells #[.map (some B)] 75)).alloc (.cells #[.int .i64 k, .string a, .string v, .slice sa sn sc, .string f, .slice la ln lc] 25) := ⟨_, rfl⟩
 rw [<- hW1] at hb0 hbx hbp
 have hlk := (hB.below hb0).look k hls.2
 rw [<- hsg] at hlk
 have HIS := H_ fun W => isSet_any k W
 rw [hs] at HIS
 obtain ⟨i0, hi0, hz0, hz1, hz2⟩ := infoS
 have HN := H_ hN
 have HB := H_ hB
 have HKR := H_ hkr
 have HLN := H_ hln
 have HTL := H_ htl
 have HSG := H_ hsg
 have IH := H_ ih
 have hl8 : (ln : Int) <= 8 := by omega
 have hd1 : kk - 1 <= 6 := by omega
 obtain ⟨c0, c1, c2, c3, c4, c5⟩ := hbx
 dsimp only at c0 c1 c2 c3 c4 c5
 have HB0 := H_ hb0
 have hlt1 : w.heap.size + 1 < W1.heap.size := D.lt_cell c0
 have hown1 := World.ownsRow_lit (base := w.heap.size + 2) (e := 9) (size := 1) W1 #[.string sg] 1 (by omega) (by decide) rfl
 clear hN hB hkr hln htl hsg ih hf hr hI hkd hs hls hb0
 go_enter Tryz.func51, Tryz.ntmps51
 go_wp2_with fail
 refine ((un HIS) _).mono ?_
 rintro e w1 ⟨rfl, rfl⟩
 rw [<- hW1]
 clear hW1
 have hb2 : Below w.heap.size w (W1.alloc (.cells #[.string sg] 9)) := (un HB0).alloc (un HB0).size _
 have key : ∀ i u, W1.cell? ⟨w.heap.size + 1, i, none⟩ = some u -> (W1.alloc (.cells #[.string sg] 9)).cell? ⟨w.heap.size + 1, i, none⟩ = some u := fun i u h => by rw [World.cell?_alloc_lt _ _ _ (D.lt_cell h)]; exact h
 have y5 := key _ _ c5
 have HP2 : Hid ((W1.alloc (.cells #[.string sg] 9)).cell? ⟨w.heap.size, 0, none⟩ = some (.map (some B))) := H_ (by rw [World.cell?_alloc_lt _ _ _ (D.lt_cell hbp)]; exact hbp)
 have HB2 := H_ hb2
 have HO2 := H_ hown1
 clear hb2 hown1 key
 go_wp2
 go_loopw [5, 21] (fun sl ix wr => ∃ j : Nat, j <= ln /\ ix = .int .i64 (j : Int) /\ Hid (wr.ownsRow (w.heap.size + 2) 9 1 sl (j + 1) (strs (sg :: ((ls F).take j).map fun x => (⟨(text n x).toArray⟩ : ByteArray)))) /\ Hid (Below w.heap.size w wr) /\ Hid (wr.cell? ⟨w.heap.size, 0, none⟩ = some (.map (some B))))
  (fun _ ix _ => ln - (intOf ix).toNat)
 case atStart => exact ⟨0, Nat.zero_le _, rfl, HO2, HB2, HP2⟩
 case round =>
  obtain ⟨j, hj, rfl, ho, hb, hp⟩ := hrel
  clear HO2 HB2 HP2 y5 c0 c1 c2 c3 c4 c5 hbp hlk
  by_cases hlt : j < ln
  ·have hltx : j < (ls F).length := by have := un HLN; omega
   obtain ⟨g, off, hla⟩ := (un HN).kids
   have hla := hla.resolve_right (fun e => by rw [e] at hltx; cases hltx)
   obtain ⟨⟨k1, a1, v1, sa1, sn1, sc1, f1, la1, ln1, lc1⟩, ⟨q0, q1, q2, q3, q4, q5⟩, hN1⟩ := ((un HN).below (un hb)).kid hla hltx
   dsimp only at q0 q1 q2 q3 q4 q5 hla
   have htk := List.take_succ_eq_append_getElem hltx
   have hrx := (un HKR) (ls F)[j] (List.getElem_mem hltx)
   obtain ⟨x, hx⟩ : ∃ x, (ls F)[j] = x := ⟨_, rfl⟩
   rw [hx] at hN1 htk hrx
   have HC := H_ fun o => (un IH) (kk - 1) x (wr.alloc o) p _ B hd1 hrx (hN1.below ((Below.refl _ _).alloc (Nat.le_refl _) o)) ((un HB).below ((un hb).alloc (un hb).size o))
   have HT := H_ htk
   have hp' := un hp
   have z0 : ∀ o, (wr.alloc o).cell? ⟨w.heap.size, 0, none⟩ = some (.map (some B)) := fun o => by rw [World.cell?_alloc_lt _ _ _ (D.lt_cell hp')]; exact hp'
   have hlt' : (j : Int) < ln := by omega
   obtain ⟨tx, htx⟩ : ∃ tx : ByteArray, tx = ⟨(text n x).toArray⟩ := ⟨_, rfl⟩
   rw [<- htx] at HC
   have HTX := H_ htx
   clear hx htk hrx hN1 htx hp'
   subst hla
   go_wp2_with fail
   refine ((un HC) _).mono ?_
   rintro e w2 ⟨rfl, hb2⟩
   have hbr : Below wr.heap.size wr w2 := ((Below.refl _ _).alloc (Nat.le_refl _) _).trans (hb2.mono (by simp))
   have HO := H_ ((own_below (un ho) hbr).alloc (.cells #[.string tx] 9))
   have HB2 := H_ ((un hb).trans (hbr.mono (un hb).size))
   have HP2 := H_ ((hbr.cell (D.lt_cell (un hp))).trans (un hp))
   have hzs : w.heap.size + 2 <= w2.heap.size := by have := hbr.size; have := ((un ho).form (by omega)); obtain ⟨_, _, _, h1, h2⟩ := this; omega
   clear hb2 ho hb hp hbr
   go_wp2_with (at_builtin; refine wpList_append_lies _ rfl (.tmp 25) (.tmp 29) 22 rfl (w.heap.size + 2) 9 i0 (.string ⟨#[]⟩) 1 16 Tryz.underlying22 hi0 hz0 hz1 hz2 rfl (by omega) _ (j + 1) _ rfl (un HO) ⟨w2.heap.size, 0, none⟩ 1 1 [.string tx] rfl rfl (cells_new w2 _ _) (by simp [Value.oneCell']) (by omega) (by unfold maxLen; omega) (by omega) (by simp; omega) (w2.heap.size + 1) (by simp) ?_; intro gg cp w5 hown hgrow hat2 hglt)
   have hB5 : Below w.heap.size w w5 := by
    have h1 : Below w.heap.size w (w2.alloc (.cells #[.string tx] 9)) := (un HB2).alloc (un HB2).size _
    exact ⟨hgrow.os.trans h1.os, hgrow.tape.trans h1.tape, hgrow.output.trans h1.output, Nat.le_trans h1.size hgrow.size, fun k' hk' => (hgrow.block k' (Nat.lt_of_lt_of_le hk' h1.size) (fun e => by have := ((un HO).lt k' e.symm).1; omega)).trans (h1.block k' hk')⟩
   have hP5 : w5.cell? ⟨w.heap.size, 0, none⟩ = some (.map (some B)) := by
    have h1 := D.lt_cell (un HP2)
    have h2 : (w2.alloc (.cells #[.string tx] 9)).cell? ⟨w.heap.size, 0, none⟩ = some (.map (some B)) := by rw [World.cell?_alloc_lt _ _ _ h1]; exact un HP2
    exact (World.cell?_of_block (hgrow.block _ (D.lt_cell h2) (fun e => by have := ((un HO).lt _ e.symm).1; simp at this; omega))).trans h2
   have HB5 := H_ hB5
   have HP5 := H_ hP5
   have HO5 := H_ hown
   clear hB5 hP5 hown hgrow hat2 hglt HO HB2 HP2 z0
   go_roundw
   case rel =>
    refine ⟨j + 1, by omega, by simp, ?_, HB5, HP5⟩
    have := un HO5
    rw [un HT]
    rw [un HTX] at this
    exact H_ (by simpa [strs] using this)
   case measure => simp [intOf]; omega
  ·have hge : ¬ (j : Int) < ln := by omega
   have hje : j = (ls F).length := by have := un HLN; omega
   have ho' := un ho
   rw [hje, List.take_length] at ho'
   obtain ⟨gg, cp, hsl, _, _⟩ := ho'.form (by omega)
   subst hsl
   obtain ⟨hc1, hc2, hc3⟩ := own_cells (sg :: (ls F).map fun x => (⟨(text n x).toArray⟩ : ByteArray)) ho'
   have hE := enclosed_any gg 0 cp (sg :: (ls F).map fun x => (⟨(text n x).toArray⟩ : ByteArray)) wr hc1 hc2 (by simp; have := un HLN; omega) (by simpa using hc3) (by
    have := un HTL
    rw [show (List.map (fun x : ByteArray => x.data.toList) (sg :: (ls F).map fun x => (⟨(text n x).toArray⟩ : ByteArray))).flatten = sgn k ++ ((ls F).map (text n)).flatten by
     rw [un HSG]; simp [Function.comp_def]]
    simp only [List.length_cons, List.length_append, List.length_nil] at this ⊢
    omega)
   rw [show (List.map (fun x : ByteArray => x.data.toList) (sg :: (ls F).map fun x => (⟨(text n x).toArray⟩ : ByteArray))).flatten = sgn k ++ ((ls F).map (text n)).flatten by
     rw [un HSG]; simp [Function.comp_def]] at hE
   rw [show (sg :: (ls F).map fun x => (⟨(text n x).toArray⟩ : ByteArray)).length = (ls F).length + 1 by simp] at hE
   have HE := H_ hE
   have HBw := H_ (show Below w.heap.size w wr from un hb)
   clear hE hc1 hc2 hc3 ho' ho hb hp
   go_wp2_with fail
   refine (un HE).mono ?_
   rintro e w6 ⟨rfl, hb6⟩
   have HB6 := H_ ((un HBw).trans (hb6.mono (un HBw).size))
   clear hb6
   go_wp2
   go_ret
   exact ⟨by simp, un HB6⟩
theorem text_subs (n : Nat) (kk : Nat) (F : Fl (n + 1)) (w : World) (p : Nat -> Prop) (d : Fd) (B : Nat) (hk6 : kk <= 6) (hr : right (n + 1) kk F = true) (hN : FNode (n + 1) w p d F) (hs : kd F = 4) :
  Calls Tryz.prog 51 #[.agg #[.map (some B)], d.val] w fun e w' => e = .returned (.string ⟨(text (n + 1) F).toArray⟩) /\ Below w.heap.size w w' := by
 have htl := text_long (n + 1) kk F hr
 have htm := tl_mono hk6
 have h6 : tl 6 <= 100000000 := by decide
 have hss : isSet (kd F) = false := by rw [hs]; rfl
 have hS1 : Sm1 F := by
  have h0 := hr
  rw [right] at h0
  simp only [Bool.and_eq_true, decide_eq_true_eq] at h0
  obtain ⟨_, h2, h3, h4, h5⟩ := fit_item h0.1.2 hss
  exact ⟨by omega, by omega, by omega, fun x hx => by have := h5 x hx; omega⟩
 rw [text, if_neg (by rw [hss]; simp), if_pos hs] at htl ⊢
 have hI := hN.is
 obtain ⟨k, a, v, sa, sn, sc, f, la, ln, lc⟩ := d
 have hkd : k = 4 := hI.k.trans hs
 have hnm : a = Fp.nm F := hI.a
 subst hkd
 have hb0 : Below w.heap.size w ((w.alloc (.cells #[.map (some B)] 75)).alloc (.cells #[.int .i64 4, .string a, .string v, .slice sa sn sc, .string f, .slice la ln lc] 25)) := ((Below.refl _ _).alloc (Nat.le_refl _) _).alloc (by simp) _
 have hbx : At ((w.alloc (.cells #[.map (some B)] 75)).alloc (.cells #[.int .i64 4, .string a, .string v, .slice sa sn sc, .string f, .slice la ln lc] 25)) (w.heap.size + 1) 0 ⟨4, a, v, sa, sn, sc, f, la, ln, lc⟩ := by
  have := At.new (w.alloc (.cells #[.map (some B)] 75)) ⟨4, a, v, sa, sn, sc, f, la, ln, lc⟩
  rwa [World.size_alloc] at this
 obtain ⟨V, hV⟩ : ∃ V, V = (w.alloc (.cells #[.map (some B)] 75)).alloc (.cells #[.int .i64 4, .string a, .string v, .slice sa sn sc, .string f, .slice la ln lc] 25) := ⟨_, rfl⟩
 rw [<- hV] at hb0 hbx
 obtain ⟨ps, hps⟩ : ∃ ps : ByteArray, ps = ⟨(Fp.pieces (va F) (an F) (fi F)).toArray⟩ := ⟨_, rfl⟩
 have HC := H_ fun z : Kw V => Kw.call z ((pieces_any F z.w p ⟨4, a, v, sa, sn, sc, f, la, ln, lc⟩ hI hS1 (hN.strs.below (hb0.trans (z.b.mono hb0.size)))).mono fun e w' ⟨he, hb⟩ => ⟨he, hb⟩)
 rw [<- hps] at HC
 have HIS := H_ fun W => isSet_any 4 W
 have hfl : (List.map (fun x : ByteArray => x.data.toList) [a, ⟨#[61]⟩, ps]).flatten = (Fp.nm F).data.toList ++ 61 :: Fp.pieces (va F) (an F) (fi F) := by rw [hps, hnm]; simp
 have HE := H_ fun (z : Kw V) => enclosed_any z.w.heap.size 0 3 [a, ⟨#[61]⟩, ps] (z.w.alloc (.cells #[.string a, .string ⟨#[61]⟩, .string ps] 9)) (fun j x h => by
   rw [World.cell?_alloc_at _ _ _ _ rfl]
   match j, h with
   | 0, h => cases h; rfl
   | 1, h => cases h; rfl
   | 2, h => cases h; rfl) (by simp) (by simp) (by simp) (by
   rw [hfl]
   simp only [List.length_cons, List.length_append, List.length_nil] at htl ⊢
   omega)
 rw [hfl] at HE
 obtain ⟨c0, c1, c2, c3, c4, c5⟩ := hbx
 dsimp only at c0 c1 c2 c3 c4 c5
 have q0 := fun z : Kw V => Kw.cell z c0 (D.lt_cell c0)
 have q1 := fun z : Kw V => Kw.cell z c1 (D.lt_cell c1)
 have q2 := fun z : Kw V => Kw.cell z c2 (D.lt_cell c2)
 have q3 := fun z : Kw V => Kw.cell z c3 (D.lt_cell c3)
 have q4 := fun z : Kw V => Kw.cell z c4 (D.lt_cell c4)
 have q5 := fun z : Kw V => Kw.cell z c5 (D.lt_cell c5)
 have hne : Nonempty (Kw V) := kwNonempty V
 have HB0 := H_ hb0
 have HVw := H_ hV
 clear hN hI hps hfl htl hnm hs hss hr hb0 hV hS1
 go_enter Tryz.func51, Tryz.ntmps51
 go_wp2_with fail
 refine ((un HIS) _).mono ?_
 rintro e w1 ⟨rfl, rfl⟩
 rw [<- un HVw]
 go_wp2_with fail
 refine wp_region_kw 4 (by kernel_rfl) (by kernel_rfl) ?_
 simp only [List.take_succ_cons, List.take_zero, List.drop_succ_cons, List.drop_zero]
 repeat (go_big_quiet_step (first | with_reducible exact (un HC) _))
 refine wpQuiet_nil ?_
 rintro w' ⟨z, rfl⟩
 go_wp2_with fail
 refine ((un HE) z).mono ?_
 rintro e w2 ⟨rfl, hb⟩
 have HB2 := H_ ((un HB0).trans ((z.b.trans ((((Below.refl z.w.heap.size z.w).alloc (Nat.le_refl _) _).trans (hb.mono (by simp))).mono z.b.size)).mono (un HB0).size))
 clear hb
 go_wp2
 simp only [onlyN]
 go_wp2
 go_ret
 exact ⟨by simp, un HB2⟩
theorem text_item (n : Nat) (kk : Nat) (F : Fl (n + 1)) (w : World) (p : Nat -> Prop) (d : Fd) (B : Nat) (hk6 : kk <= 6) (hr : right (n + 1) kk F = true) (hN : FNode (n + 1) w p d F) (hB : SignsAt w B) (hs4 : kd F ≠ 4) (hss : isSet (kd F) = false) :
  Calls Tryz.prog 51 #[.agg #[.map (some B)], d.val] w fun e w' => e = .returned (.string ⟨(text (n + 1) F).toArray⟩) /\ Below w.heap.size w w' := by
 have htl := text_long (n + 1) kk F hr
 have htm := tl_mono hk6
 have h6 : tl 6 <= 100000000 := by decide
 have hr' := hr
 rw [right] at hr'
 simp only [Bool.and_eq_true, decide_eq_true_eq, List.all_eq_true] at hr'
 have hf := hr'.1.2
 have hsn : hasSgn (kd F) = true := by
  rcases fit_bounds hf with h | h
  ·exact h.2
  ·exact absurd h.1 hs4
 have hva := (fit_item hf hss).2.1
 rw [text, if_neg (by rw [hss]; simp), if_neg hs4] at htl ⊢
 have hI := hN.is
 obtain ⟨k, a, v, sa, sn, sc, f, la, ln, lc⟩ := d
 have hkd : k = kd F := hI.k
 have hnm : a = Fp.nm F := hI.a
 have hv : v = va F := hI.v
 rw [<- hkd] at hss hs4 hsn htl ⊢
 have k4 : (k == 4) = false := beq_eq_false_iff_ne.2 hs4
 have hb0 : Below w.heap.size w ((w.alloc (.cells #[.map (some B)] 75)).alloc (.cells #[.int .i64 k, .string a, .string v, .slice sa sn sc, .string f, .slice la ln lc] 25)) := ((Below.refl _ _).alloc (Nat.le_refl _) _).alloc (by simp) _
 have hbx : At ((w.alloc (.cells #[.map (some B)] 75)).alloc (.cells #[.int .i64 k, .string a, .string v, .slice sa sn sc, .string f, .slice la ln lc] 25)) (w.heap.size + 1) 0 ⟨k, a, v, sa, sn, sc, f, la, ln, lc⟩ := by
  have := At.new (w.alloc (.cells #[.map (some B)] 75)) ⟨k, a, v, sa, sn, sc, f, la, ln, lc⟩
  rwa [World.size_alloc] at this
 obtain ⟨V, hV⟩ : ∃ V, V = (w.alloc (.cells #[.map (some B)] 75)).alloc (.cells #[.int .i64 k, .string a, .string v, .slice sa sn sc, .string f, .slice la ln lc] 25) := ⟨_, rfl⟩
 rw [<- hV] at hb0 hbx
 obtain ⟨ps, hps⟩ : ∃ ps : ByteArray, ps = pri false v := ⟨_, rfl⟩
 obtain ⟨sg, hsg⟩ : ∃ sg : ByteArray, sg = ⟨(sgn k).toArray⟩ := ⟨_, rfl⟩
 have HC := H_ fun z : Kw V => Kw.call z (E.filter_any v z.w (by rw [hv]; omega))
 rw [<- hps] at HC
 have q9 := fun z : Kw V => ((hB.below hb0).below z.b).look k hsn
 rw [<- hsg] at q9
 have HIS := H_ fun W => isSet_any k W
 rw [hss] at HIS
 have hfl : (List.map (fun x : ByteArray => x.data.toList) [a, sg, ps]).flatten = (Fp.nm F).data.toList ++ (sgn k ++ pv (va F)) := by rw [hps, hsg, hnm, hv]; simp [pv]
 have HE := H_ fun (z : Kw V) => enclosed_any z.w.heap.size 0 3 [a, sg, ps] (z.w.alloc (.cells #[.string a, .string sg, .string ps] 9)) (fun j x h => by
   rw [World.cell?_alloc_at _ _ _ _ rfl]
   match j, h with
   | 0, h => cases h; rfl
   | 1, h => cases h; rfl
   | 2, h => cases h; rfl) (by simp) (by simp) (by simp) (by
   rw [hfl]
   simp only [List.length_cons, List.length_append, List.length_nil] at htl ⊢
   omega)
 rw [hfl] at HE
 obtain ⟨c0, c1, c2, c3, c4, c5⟩ := hbx
 dsimp only at c0 c1 c2 c3 c4 c5
 have hbp : V.cell? ⟨w.heap.size, 0, none⟩ = some (.map (some B)) := by
  rw [hV, World.cell?_alloc_lt _ _ _ (by simp), World.cell?_alloc_at _ _ _ _ rfl]; rfl
 have q6 := fun z : Kw V => Kw.cell z hbp (D.lt_cell hbp)
 have q0 := fun z : Kw V => Kw.cell z c0 (D.lt_cell c0)
 have q1 := fun z : Kw V => Kw.cell z c1 (D.lt_cell c1)
 have q2 := fun z : Kw V => Kw.cell z c2 (D.lt_cell c2)
 have q3 := fun z : Kw V => Kw.cell z c3 (D.lt_cell c3)
 have q4 := fun z : Kw V => Kw.cell z c4 (D.lt_cell c4)
 have q5 := fun z : Kw V => Kw.cell z c5 (D.lt_cell c5)
 have hne : Nonempty (Kw V) := kwNonempty V
 have HB0 := H_ hb0
 have HVw := H_ hV
 clear hN hI hps hsg hfl htl hnm hss hr hb0 hV hr' hf hsn hva hkd hv hs4 hB hbp
 go_enter Tryz.func51, Tryz.ntmps51
 go_wp2_with fail
 refine ((un HIS) _).mono ?_
 rintro e w1 ⟨rfl, rfl⟩
 rw [<- un HVw]
 go_wp2_with fail
 refine wp_region_kw 10 (by kernel_rfl) (by kernel_rfl) ?_
 simp only [List.take_succ_cons, List.take_zero, List.drop_succ_cons, List.drop_zero]
 repeat (go_big_quiet_step (first | with_reducible exact (un HC) _))
 refine wpQuiet_nil ?_
 rintro w' ⟨z, rfl⟩
 go_wp2_with fail
 refine ((un HE) z).mono ?_
 rintro e w2 ⟨rfl, hb⟩
 have HB2 := H_ ((un HB0).trans ((z.b.trans ((((Below.refl z.w.heap.size z.w).alloc (Nat.le_refl _) _).trans (hb.mono (by simp))).mono z.b.size)).mono (un HB0).size))
 clear hb
 go_wp2
 simp only [onlyN]
 go_wp2
 go_ret
 exact ⟨by simp, un HB2⟩
theorem text_any : ∀ n, TextIs n
 | 0 => fun _ F => Empty.elim F
 | n + 1 => by
  have ih := text_any n
  intro k F w p d B hk hr hN hB
  cases hs : isSet (kd F) with
  | true => exact text_set n ih k F w p d B hk hr hN hB hs
  | false =>
   by_cases h4 : kd F = 4
   ·exact text_subs n k F w p d B hk hr hN h4
   ·exact text_item n k F w p d B hk hr hN hB h4 hs
end Go.Proofs.YtmenllnokgjdlaaGreatDoor.F
/-
 The small functions of filt's text: end, piece, has, upTo, and reader.take. Conditions: the bounds that each names.
-/
namespace Go.Proofs.YtmenllnokgjdlaaGreatDoor.F
open Go Go.RowKit Go.Shelf Fp
open D (H_ un ext_list)
attribute [local go_sem] Oper.semAt_some
structure RAt (W : World) (R : Nat) (s : ByteArray) (kb p : Nat) : Prop where
 blk : W.heap[R]? = some (.cells #[.string s, .int .i64 (p : Int), .map (some kb)] 120 (0, 0))
theorem RAt.cells {W : World} {R kb p : Nat} {s : ByteArray} (h : RAt W R s kb p) : (W.cell? ⟨R, 0, none⟩ = some (.string s) /\ W.cell? ⟨R, 1, none⟩ = some (.int .i64 (p : Int)) /\ W.cell? ⟨R, 2, none⟩ = some (.map (some kb))) /\ W.frozen? ⟨R, 1, none⟩ = false := by
 obtain ⟨h⟩ := h
 refine ⟨⟨?_, ?_, ?_⟩, ?_⟩ <;> simp [World.cell?, World.frozen?, h]
theorem RAt.lt {W : World} {R kb p : Nat} {s : ByteArray} (h : RAt W R s kb p) : R < W.heap.size := (Array.getElem?_eq_some_iff.1 h.blk).1
end Go.Proofs.YtmenllnokgjdlaaGreatDoor.F
