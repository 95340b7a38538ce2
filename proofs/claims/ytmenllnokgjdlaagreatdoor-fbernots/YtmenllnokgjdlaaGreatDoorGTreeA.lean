/- What the tree of fber's maker is at a filter of filters. Conditions: the trees of the filters in it are as they should be. -/
import Derived.Test.YtmenllnokgjdlaaGreatDoorG40
set_option linter.unusedSimpArgs false
set_option maxHeartbeats 8000000
set_option maxRecDepth 100000
namespace Go.Proofs.YtmenllnokgjdlaaGreatDoor.G
open Go Go.RowKit Go.Shelf Gp
open D (H_ un)
open F (But At FNode Strs Is range_own Two box1 own_below)
open Fp (Fl kd nm va an fi ls isSet fitF)
attribute [local go_sem] Oper.semAt_some
def TreeIs (n : Nat) : Prop := ∀ (kk : Nat) (F : Fl n) (w : World) (p : Nat -> Prop) (d : FD) (B : Nat), Fp.right n kk F = true -> FNode n w p d F -> TagsAt w B ->
 Calls Tryz.prog 53 #[mval d B] w fun e w' => ∃ ct cs ca cn cc, e = .returned (.agg #[.int .i64 ct, .string cs, .slice ca cn cc]) /\ Below w.heap.size w w' /\ Node (n + 2) w' (fun b => w.heap.size <= b) (.agg #[.int .i64 ct, .string cs, .slice ca cn cc]) (tree n F)
theorem finT {b D : Nat} {V : World} {tmps : Array Value} {c0 c1 c2 : Value} {Q : Ending -> World -> Prop} (hV : V.heap[D]? = some (.deferred (some []))) (hD : b ≠ D) (h0 : V.heap[b]? = some (.cells #[c0, c1, c2] 28 (0, 0)))
  (t2 : tmps.getD 2 undef = .pointer (some ⟨b, 0, none⟩)) (hp : Q (.returned (.agg #[c0, c1, c2])) (V.putObj D (.deferred none))) :
  Exit.noGoto (bodyPostM Fence.wide 7 Tryz.prog Tryz.f53 Q) Exit.ret { tmps, defers := [{ target := .collected D, args := #[] }] } V := by
 refine ⟨by simp, .inl ⟨_, _, rfl, run_takeDeferred hV, ?_⟩⟩
 refine ⟨.agg #[c0, c1, c2], ?_, hp⟩
 obtain ⟨⟨x0, x1, x2⟩, _⟩ := cells3 (w := V.putObj D (.deferred none)) ((World.putObj_heap_other hD).trans h0)
 have t2' : tmps[2]?.getD undef = .pointer (some ⟨b, 0, none⟩) := by simpa using t2
 simp [results, Tryz.results53, go_sem, t2', x0, x1, x2]
theorem set3_blk {W : World} {b : Nat} {x y z x' y' z' : Value} {T : TypeId} (h : W.heap[b]? = some (.cells #[x, y, z] T (0, 0))) : (((W.setCell ⟨b, 0, none⟩ x').setCell ⟨b, 1, none⟩ y').setCell ⟨b, 2, none⟩ z').heap[b]? = some (.cells #[x', y', z'] T (0, 0)) :=
 heap_setCell_same _ b 2 _ _ _ (heap_setCell_same _ b 1 _ _ _ (heap_setCell_same _ b 0 _ _ _ h))
theorem set3_far (W : World) (b : Nat) (x y z : Value) (i : Nat) (h : i ≠ b) : (((W.setCell ⟨b, 0, none⟩ x).setCell ⟨b, 1, none⟩ y).setCell ⟨b, 2, none⟩ z).heap[i]? = W.heap[i]? := by
 rw [Below.heap_setCell _ _ _ _ h, Below.heap_setCell _ _ _ _ h, Below.heap_setCell _ _ _ _ h]
theorem tree_set (n : Nat) (ih : TreeIs n) (kk : Nat) (F : Fl (n + 1)) (w : World) (p : Nat -> Prop) (d : FD) (B : Nat) (hr : Fp.right (n + 1) kk F = true) (hN : FNode (n + 1) w p d F) (hB : TagsAt w B) (hs : isSet (kd F) = true) :
  Calls Tryz.prog 53 #[mval d B] w fun e w' => ∃ ct cs ca cn cc, e = .returned (.agg #[.int .i64 ct, .string cs, .slice ca cn cc]) /\ Below w.heap.size w w' /\ Node (n + 3) w' (fun b => w.heap.size <= b) (.agg #[.int .i64 ct, .string cs, .slice ca cn cc]) (tree (n + 1) F) := by
 rw [Fp.right] at hr
 simp only [Bool.and_eq_true, decide_eq_true_eq, List.all_eq_true] at hr
 obtain ⟨⟨hd0, hf⟩, hkr⟩ := hr
 have hN0 : FNode (n + 1) w (fun b => b < w.heap.size) d F := hN.imp fun b _ hl => hl
 have hkd : d.k = kd F := hN.is.k
 have hln : d.ln = (ls F).length := hN.is.ln
 have hl1 : (ls F).length <= 1000 := hN.sm.ln
 have hk3 : d.k = 0 \/ d.k = 1 \/ d.k = 2 := by
  rw [hkd]
  unfold isSet at hs
  simp at hs
  omega
 have htr : tree (n + 1) F = Tv.mk (tg d.k) ⟨#[]⟩ ((ls F).map (tree n)) := by
  rw [tree, hkd, if_neg (by omega), if_pos hs]
 have hht : hasTag d.k = true := (hasTag_iff _).2 (by omega)
 obtain ⟨k, a, v, sa, sn, sc, f, la, ln, lc⟩ := d
 dsimp only at hkd hln hk3 htr hht
 have FACTS : ∀ W1, W1 = (w.alloc (mobj ⟨k, a, v, sa, sn, sc, f, la, ln, lc⟩ B)).alloc znObj ->
   (Instr.lookup 77 (.map (some B)) (.int .i64 k) false).run Tryz.prog W1 = .ok (.int .i64 (tg k)) W1 /\
   (W1.cell? ⟨w.heap.size, 0, none⟩ = some (.int .i64 k) /\ W1.cell? ⟨w.heap.size, 1, none⟩ = some (.string a) /\ W1.cell? ⟨w.heap.size, 2, none⟩ = some (.string v) /\ W1.cell? ⟨w.heap.size, 6, none⟩ = some (.map (some B))) /\
   (∀ o, (W1.alloc o).cell? ⟨w.heap.size, 0, none⟩ = some (.int .i64 k) /\ (W1.alloc o).cell? ⟨w.heap.size, 1, none⟩ = some (.string a) /\ (W1.alloc o).cell? ⟨w.heap.size, 2, none⟩ = some (.string v) /\ (W1.alloc o).cell? ⟨w.heap.size, 3, none⟩ = some (.slice sa sn sc) /\ (W1.alloc o).cell? ⟨w.heap.size, 4, none⟩ = some (.string f) /\ (W1.alloc o).cell? ⟨w.heap.size, 5, none⟩ = some (.slice la ln lc) /\ (W1.alloc o).cell? ⟨w.heap.size, 6, none⟩ = some (.map (some B))) /\
   (∀ W0, W0 = (W1.alloc (.cells #[.slice none 0 0] 26)).alloc (mobj ⟨k, a, v, sa, sn, sc, f, la, ln, lc⟩ B) -> W0.heap.size = w.heap.size + 4 /\ Kin (n + 2) w (mcs ⟨k, a, v, sa, sn, sc, f, la, ln, lc⟩ B) [] (.slice none 0 0) W0) := by
  intro W1 hW1
  have hb1 : Below w.heap.size w W1 := by rw [hW1]; exact ((Below.refl _ _).alloc (Nat.le_refl _) _).alloc (by simp) _
  have hm1 : W1.heap[w.heap.size]? = some (.cells (mcs ⟨k, a, v, sa, sn, sc, f, la, ln, lc⟩ B) 80 (0, 0)) := by
   rw [hW1, Below.heap_alloc _ _ _ (by simp)]; exact World.alloc_heap_new w _
  have ht1 : W1.heap[w.heap.size + 1]? = some (.cells #[.int .i64 0, .string ⟨#[]⟩, .slice none 0 0] 28 (0, 0)) := by
   rw [hW1]
   have := World.alloc_heap_new (w.alloc (mobj ⟨k, a, v, sa, sn, sc, f, la, ln, lc⟩ B)) znObj
   rwa [World.size_alloc] at this
  have hz1 : W1.heap.size = w.heap.size + 2 := by rw [hW1]; simp
  obtain ⟨x0, x1, x2, x3, x4, x5, x6⟩ := box7 hm1
  refine ⟨(hB.below hb1).look k hht, ⟨x0, x1, x2, x6⟩, fun o => box7 ((Below.heap_alloc W1 o w.heap.size (by omega)).trans hm1), fun W0 hW0 => ?_⟩
  have hb10 : Below W1.heap.size W1 W0 := by rw [hW0]; exact ((Below.refl _ _).alloc (Nat.le_refl _) _).alloc (by simp) _
  refine ⟨by rw [hW0]; simp [hz1], (hb10.block _ (by omega)).trans hm1, (hb10.block _ (by omega)).trans ht1, ?_, ?_, Grow.nil _ _ _, hb1.trans (hb10.mono (by omega))⟩
  ·rw [hW0, Below.heap_alloc _ _ _ (by simp [hz1]), <- hz1]; exact World.alloc_heap_new _ _
  ·rw [hW0]
   have := World.alloc_heap_new (W1.alloc (.cells #[.slice none 0 0] 26)) (mobj ⟨k, a, v, sa, sn, sc, f, la, ln, lc⟩ B)
   rwa [World.size_alloc, hz1] at this
 obtain ⟨hlk, ⟨x0, x1, x2, x6⟩, hy, hF⟩ := FACTS _ rfl
 obtain ⟨y0, y1, y2, y3, y4, y5, y6⟩ := hy (.cells #[.slice none 0 0] 26)
 dsimp only [mobj, mcs, znObj] at hlk x0 x1 x2 x6 y0 y1 y2 y3 y4 y5 y6
 have HFc := H_ hF
 have hmx : Tryz.prog.follows .mixedOrders = true := by kernel_rfl
 have HN := H_ hN0
 have HTR := H_ htr
 have HTG := H_ hB
 have HIH := H_ ih
 have HKR := H_ hkr
 have HLN := H_ hln
 clear ih hN hN0 hkr hln htr hB FACTS hF hy hkd hht hs hf hd0
 refine (callsIn_wide (n := 7)).1 ?_
 refine callsIn_of_wp_marks Tryz.func53 rfl trivial ?_ rfl
 simp only [Tryz.ntmps53, List.size_toArray, List.length_cons, List.length_nil, Nat.reduceAdd, Nat.reduceSub, Array.replicate_succ, Array.replicate_zero, List.push_toArray, List.append_toArray, List.nil_append, List.cons_append]
 refine wpIn_wide.2 ?_
 have hk4 : ((k == 7) = false /\ (k == 0) = true) \/ ((k == 7) = false /\ (k == 0) = false /\ (k == 1) = true) \/ ((k == 7) = false /\ (k == 0) = false /\ (k == 1) = false /\ (k == 2) = true) := by
  rcases hk3 with rfl | rfl | rfl <;> simp
 clear hk3
 rcases hk4 with ⟨h7, h0⟩ | ⟨h7, h0, h1⟩ | ⟨h7, h0, h1, h2⟩
 all_goals
  go_wp2_with fail
  refine (inside_any ⟨k, a, v, sa, sn, sc, f, la, ln, lc⟩ B _).mono ?_
  rintro e W0 ⟨rfl, hW0⟩
  obtain ⟨hz, hI0⟩ := (un HFc) W0 hW0
  clear hW0 hlk x0 x1 x2 x6 y0 y1 y2 y3 y4 y5 y6 HFc
  go_wp2_with fail
  refine (wpIn_wide (n := 7)).1 ?_
  refine' range_own (α := FD × Fl n) (σ := Nat) (gf := 116) (lb := #[.pointer (some ⟨w.heap.size + 3, 0, none⟩)]) rfl (enters_of Tryz.func116 (by kernel_rfl) rfl)
   (fun x => #[mval x.1 B]) (fun _ => rfl) (fun _ _ => True) (fun X Y => Below X.heap.size X Y)
   (fun j W => j <= (ls F).length /\ ∃ sl, Kin (n + 2) w (mcs ⟨k, a, v, sa, sn, sc, f, la, ln, lc⟩ B) (((ls F).map (tree n)).take j) sl W) (fun _ _ _ => False)
   (fun j x W => (ls F)[j]? = some x.2 /\ FNode n W (fun b => b < w.heap.size) x.1 x.2) (fun j _ => j + 1) 0 (fun j _ => j = (ls F).length) (fun _ => False) (fun _ _ => True) (fun _ _ => False)
   (fun x X => X.alloc (mobj x.1 B)) _ (fun _ _ => (Below.refl _ _).alloc (Nat.le_refl _) _)
   (fun _ _ => trivial) (fun _ _ _ => trivial) ?_ ?_ ?_ ?_ ?_ ?_ ?_ ?iter ?assign ?body ?done ?stop
  case assign =>
   intro j x W K _ _ hK
   gi_wp2
   exact hK
  case stop =>
   intro c j W hno
   exact hno.elim
  ·intro X Y hb hsz
   rw [hz] at hsz ⊢
   exact ⟨hb.block _ (by omega), hb.block _ (by omega)⟩
  ·rintro j X Y hb ⟨h1, sl, h2⟩
   rw [hz] at hb
   exact ⟨h1, sl, h2.but hb (by omega)⟩
  ·rintro j X Y hb _ ⟨h1, sl, h2⟩
   exact ⟨h1, sl, h2.below hb⟩
  ·rintro c j X Y hb h
   exact h
  ·rintro j x X Y hb ⟨h1, h2⟩
   rw [hz] at hb
   exact ⟨h1, h2.of fun b h3 h4 => hb.block b h4 (by omega)⟩
  ·rintro j X Y hb h
   exact h
  ·exact ⟨Nat.zero_le _, _, hI0⟩
  case iter =>
   intro W hbW hzW J Jx hJ hJI hY h0
   rw [hz] at hbW hzW hY hJI ⊢
   refine (inside1_any F w ⟨k, a, v, sa, sn, sc, f, la, ln, lc⟩ B (w.heap.size + 3) (w.heap.size + 4 + 1) (un HN) J hJ (fun j X hj => ?_) (fun j x G W' m hj hG hNx => ?_) W h0).mono ?_
   ·obtain ⟨⟨_, sl, h1⟩, _⟩ := hJI j X hj
    exact ⟨h1.bel, h1.i⟩
   ·refine (hY j (x, G) W' m hj ⟨hG, hNx⟩).mono ?_
    rintro e W2 (⟨h1, _, h2, _⟩ | ⟨_, h, _⟩)
    ·exact ⟨h1, h2⟩
    ·exact h.elim
   ·rintro e W' ⟨h1, h2⟩
    exact ⟨h1, .inl ⟨_, rfl, h2⟩⟩
  case body =>
   rintro j ⟨⟨k1, a1, v1, sa1, sn1, sc1, f1, la1, ln1, lc1⟩, G⟩ C W ⟨hj, sl, hI⟩ ⟨hG, hNG⟩ hSB hbb ⟨_, slC, hIC⟩
   go_light
   rw [hz] at hSB hbb ⊢
   dsimp only at hG hNG hbb ⊢
   have hbk : W.heap[C.heap.size]? = some (.cells (mcs ⟨k1, a1, v1, sa1, sn1, sc1, f1, la1, ln1, lc1⟩ B) 80 (0, 0)) := (hbb.block C.heap.size (by simp) (by omega)).trans (World.alloc_heap_new C _)
   have hCW : C.heap.size < W.heap.size := (Array.getElem?_eq_some_iff.1 hbk).1
   obtain rfl := hI.sl hIC ((hbb.block (w.heap.size + 2) (by simp; omega) (by omega)).trans (Below.heap_alloc _ _ _ (by omega)))
   have hjl : j < (ls F).length := (List.getElem?_eq_some_iff.1 hG).1
   have hpl : (((ls F).map (tree n)).take j).length <= 1000 := by rw [List.length_take, List.length_map]; omega
   have htk : ((ls F).map (tree n)).take (j + 1) = ((ls F).map (tree n)).take j ++ [tree n G] := by
    have hjm : j < ((ls F).map (tree n)).length := by rw [List.length_map]; exact hjl
    rw [List.take_succ_eq_append_getElem hjm, List.getElem_map]
    rw [List.getElem?_eq_getElem hjl] at hG
    rw [Option.some.inj hG]
   have hrG : Fp.right n (kk - 1) G = true := (un HKR) G (List.mem_of_getElem? hG)
   generalize ((ls F).map (tree n)).take j = pre at *
   obtain ⟨sla, slc, rfl⟩ := hI.gr.form
   have HoB : Hid (∀ i, (Value.slice sla pre.length slc).ownBlock = some i -> w.heap.size + 6 <= i /\ i < C.heap.size) := H_ fun i h => hIC.gr.lt h
   have hVW : Below W.heap.size W W.drew := ⟨rfl, rfl, rfl, Nat.le_refl _, fun _ _ => rfl⟩
   have HC : Hid (∀ V', Below W.drew.heap.size W.drew V' -> Calls Tryz.prog 53 #[.agg #[.int .i64 k1, .string a1, .string v1, .slice sa1 sn1 sc1, .string f1, .slice la1 ln1 lc1, .map (some B)]] V' fun e w' => ∃ ct cs ca cn cc, e = .returned (.agg #[.int .i64 ct, .string cs, .slice ca cn cc]) /\ Below V'.heap.size V' w' /\ Node (n + 2) w' (fun b => V'.heap.size <= b) (.agg #[.int .i64 ct, .string cs, .slice ca cn cc]) (tree n G)) :=
    H_ fun V' h => (un HIH) (kk - 1) G V' _ ⟨k1, a1, v1, sa1, sn1, sc1, f1, la1, ln1, lc1⟩ B hrG (hNG.below (show Below W.heap.size W V' from hVW.trans h)) ((un HTG).below (hI.bel.trans ((show Below W.heap.size W V' from hVW.trans h).mono hI.bel.size)))
   obtain ⟨vs, hvl, hown, hNs⟩ := hI.gr
   have HNs := H_ (And.intro hvl hNs)
   have HI := H_ hI
   have HTk := H_ htk
   have hzW : w.heap.size + 6 <= W.heap.size := by omega
   have HBV := H_ (show W.drew.heap[C.heap.size]? = some (.cells (mcs ⟨k1, a1, v1, sa1, sn1, sc1, f1, la1, ln1, lc1⟩ B) 80 (0, 0)) from hbk)
   have HKV := H_ (show W.drew.heap[w.heap.size + 2]? = some (.cells #[.slice sla pre.length slc] 26 (0, 0)) from hI.k)
   have hownV : W.drew.ownsRow (w.heap.size + 6) 28 3 (.slice sla pre.length slc) pre.length (vs.flatMap trip) := hown
   obtain ⟨i0, hi0, hz0, hz1, hz2⟩ := infoN
   clear hI hIC hbk hvl hown hNs htk hrG hNG hG hbb hI0
   gi_wp2_with fail
   refine regionIn_sw (fun w' => w'.cell? ⟨w.heap.size + 2, 0, none⟩ = some (.slice sla pre.length slc)) (fun w' => w'.cell? ⟨C.heap.size, 0, none⟩ = some (.int .i64 k1) /\ w'.cell? ⟨C.heap.size, 1, none⟩ = some (.string a1) /\ w'.cell? ⟨C.heap.size, 2, none⟩ = some (.string v1) /\ w'.cell? ⟨C.heap.size, 3, none⟩ = some (.slice sa1 sn1 sc1) /\ w'.cell? ⟨C.heap.size, 4, none⟩ = some (.string f1) /\ w'.cell? ⟨C.heap.size, 5, none⟩ = some (.slice la1 ln1 lc1) /\ w'.cell? ⟨C.heap.size, 6, none⟩ = some (.map (some B))) 5 (by kernel_rfl) (by kernel_rfl) ?_
   generalize W.drew = V at *
   have cK0 := (box1 (un HKV)).1
   have hS1V := box7 (un HBV)
   change wpAnyS _ _ _ _ _ _ _ 9 #[false, false, false, false, false, false, false, false, false] _ V
   refine wpAnyS_take (i := 0) (v := .slice sla pre.length slc) rfl (by kernel_rfl) (by kernel_rfl) (by kernel_rfl) (by kernel_rfl) (fun _ _ _ h => h) (Or.inl ⟨by kernel_rfl, by rintro w1 ⟨s0, s1⟩; go_simp; all_goals first | rfl | omega⟩) ⟨fun _ => cK0, hS1V⟩ ?_
   simp only [Act.put, nrm]
   refine wpAnyS_take1 (i := 1) (v := .agg #[.int .i64 k1, .string a1, .string v1, .slice sa1 sn1 sc1, .string f1, .slice la1 ln1 lc1, .map (some B)]) rfl (by kernel_rfl) (by kernel_rfl) (by kernel_rfl) (by kernel_rfl) (fun _ _ _ h => h) (Or.inl ⟨by kernel_rfl, by rintro w1 ⟨s0, s1, s2, s3, s4, s5, s6⟩; go_simp; all_goals first | rfl | omega⟩) ⟨fun _ => cK0, hS1V⟩ ?_
   simp only [Act.put, nrm]
   refine wpAnyS_take1 (i := 3) (v := .int .i64 (pre.length : Int)) rfl (by kernel_rfl) (by kernel_rfl) (by kernel_rfl) (by kernel_rfl) (fun _ _ _ h => h) (Or.inl ⟨by kernel_rfl, by rintro w1 ⟨s0, s1, s2, s3, s4, s5, s6⟩; go_simp; all_goals first | rfl | omega⟩) ⟨fun _ => cK0, hS1V⟩ ?_
   simp only [Act.put, nrm]
   refine wpAnyS_ready (rs := [2, 4]) (by kernel_rfl) (by simp) ?_
   refine AllReadyS.cons rfl (fun K hK => ?_) (AllReadyS.cons rfl (fun K hK => ?_) AllReadyS.nil)
   ·rw [if_pos (by kernel_rfl)]
    go_wp2_with fail
    refine ((un HC) V (Below.refl _ _)).mono ?_
    rintro e w2 ⟨ct, cs, ca, cn, cc, rfl, hb2, hN2⟩
    have hs1 : Below V.heap.size V w2 := hb2
    have hK2 := (hs1.block _ (Array.getElem?_eq_some_iff.1 (un HKV)).1).trans (un HKV)
    have hB2 := (hs1.block _ (Array.getElem?_eq_some_iff.1 (un HBV)).1).trans (un HBV)
    go_wp2
    refine hK.out _ _ ⟨fun _ => (box1 hK2).1, box7 hB2⟩ (fun _ => ?_)
    clear hK K
    simp only [Act.put, nrm]
    refine wpAnyS_ready (rs := [4]) (by kernel_rfl) (by simp) ?_
    refine AllReadyS.cons rfl (fun K hK => ?_) AllReadyS.nil
    rw [if_pos (by kernel_rfl)]
    go_simp
    obtain ⟨U, hU⟩ : ∃ U, U = w2.alloc znObj := ⟨_, rfl⟩
    obtain ⟨ab, hab⟩ : ∃ ab, ab = w2.heap.size := ⟨_, rfl⟩
    have hcz : ∀ (j : Nat) u, zn[j]? = some u -> U.cell? ((⟨ab, 0, none⟩ : Addr).add j) = some u := by rw [hU, hab]; exact World.news_of_block (World.alloc_heap_new w2 znObj)
    have hVU : Below V.heap.size V U := by rw [hU]; exact hs1.alloc hs1.size _
    have HN2 := H_ (And.intro (show Node (n + 2) U (fun b => V.heap.size <= b) (.agg #[.int .i64 ct, .string cs, .slice ca cn cc]) (tree n G) by rw [hU]; exact hN2.below ((Below.refl _ _).alloc (Nat.le_refl _) _)) hVW.size)
    rw [<- hU, <- hab]
    have Hcz := H_ hcz
    clear hcz hU hab hN2 hb2 hs1 hK2 hB2
    have HUW := H_ (hVW.trans (hVU.mono hVW.size))
    have hzU : W.heap.size <= U.heap.size := (un HUW).size
    have HownU := H_ (own_below hownV hVU)
    have HKU := H_ ((hVU.block _ (Array.getElem?_eq_some_iff.1 (un HKV)).1).trans (un HKV))
    have cKU := (box1 (un HKU)).1
    have HBU := H_ ((hVU.block _ (Array.getElem?_eq_some_iff.1 (un HBV)).1).trans (un HBV))
    have hBU := (Array.getElem?_eq_some_iff.1 (un HBU)).1
    have hS1U := box7 (un HBU)
    refine hK.out _ _ ⟨fun _ => cKU, hS1U⟩ (fun _ => ?_)
    clear hK K
    simp only [Act.put, nrm]
    refine wpAnyS_ready (rs := [5]) (by kernel_rfl) (by simp) ?_
    refine AllReadyS.cons rfl (fun K hK => ?_) AllReadyS.nil
    rw [if_pos (by kernel_rfl)]
    refine wp_append_lies _ (.tmp 31) (.tmp 35) 26 rfl (w.heap.size + 6) 28 i0 (.agg #[.int .i64 0, .string ⟨#[]⟩, .slice none 0 0]) 3 48 Tryz.underlying26 hi0 hz0 hz1 hz2 rfl (by omega) (.slice sla pre.length slc) pre.length (vs.flatMap trip) rfl (un HownU) ⟨ab, 0, none⟩ 1 1 zn rfl rfl (un Hcz) (by simp [Value.oneCell']) (by omega) (by unfold maxLen; omega) (by omega) (by omega) U.heap.size rfl ?_
    intro gg cp w5 hown5 hgrow hat hglt
    obtain ⟨⟨l0, l1, l2⟩, m0, m1, m2⟩ := lastCells hown5
    obtain ⟨hgB, hgK, hB5, hK5, hg6⟩ := kid_far (un HoB) hSB hBU hgrow hat (un HBU) (un HKU)
    have cK := (box1 hK5).1
    have fK := (box1 hK5).2
    have hS5 := box7 hB5
    have HA := H_ (And.intro hown5 (And.intro hgrow hat))
    clear hown5 hgrow hat
    refine hK.out _ _ ⟨fun h => absurd h (by decide), hS5⟩ (fun _ => ?_)
    clear hK K
    simp only [Act.put, nrm]
    refine wpAnyS_take1 (i := 6) (v := .pointer (some ⟨gg, pre.length * 3, none⟩)) rfl (by kernel_rfl) (by kernel_rfl) (by kernel_rfl) (by kernel_rfl) (fun _ _ _ h => h) (Or.inl ⟨by kernel_rfl, by rintro w1 ⟨s0, s1, s2, s3, s4, s5, s6⟩; go_simp; all_goals first | rfl | (intro h; omega)⟩) ⟨fun h => absurd h (by decide), hS5⟩ ?_
    simp only [Act.put, nrm]
    refine wpAnyS_ready (rs := [7, 8]) (by kernel_rfl) (by simp) ?_
    refine AllReadyS.cons rfl (fun K hK => ?_) (AllReadyS.cons rfl (fun K hK => ?_) AllReadyS.nil)
    ·rw [if_pos (by kernel_rfl)]
     go_simp
     obtain ⟨Y, hY⟩ : ∃ Y, Y = set3o w5 gg (pre.length * 3) (.int .i64 ct) (.string cs) (.slice ca cn cc) := ⟨_, rfl⟩
     have hbY := set3o_but w5 gg (pre.length * 3) (.int .i64 ct) (.string cs) (.slice ca cn cc)
     dsimp only [set3o] at hY hbY
     rw [<- hY] at hbY ⊢
     replace hY := H_ hY
     have hKY := (hbY.block _ (Array.getElem?_eq_some_iff.1 hK5).1 (Ne.symm hgK)).trans hK5
     have cY := (box1 hKY).1
     have fY := (box1 hKY).2
     have hBY := (hbY.block _ (Array.getElem?_eq_some_iff.1 hB5).1 (Ne.symm hgB)).trans hB5
     have hSY := box7 hBY
     clear l0 l1 l2 m0 m1 m2 cK fK
     refine hK.out _ _ ⟨fun h => absurd h (by decide), hSY⟩ (fun _ => ?_)
     clear hK K
     simp only [Act.put, nrm]
     refine wpAnyS_ready (rs := [8]) (by kernel_rfl) (by simp) ?_
     refine AllReadyS.cons rfl (fun K hK => ?_) AllReadyS.nil
     rw [if_pos (by kernel_rfl)]
     go_simp
     have hBZ := (Below.heap_setCell Y ⟨w.heap.size + 2, 0, none⟩ (.slice (some ⟨gg, 0, none⟩) (pre.length + 1) cp) C.heap.size (by show C.heap.size ≠ w.heap.size + 2; omega)).trans hBY
     have hSZ := box7 hBZ
     refine hK.out _ _ ⟨fun h => absurd h (by decide), hSZ⟩ (fun _ => ?_)
     clear hK K
     simp only [Act.put, nrm]
     refine wpAnyS_done (by kernel_rfl) ?_ _
     simp only [onlyS]
     gi_wp2
     obtain ⟨hown5, hgrow, hat⟩ := un HA
     obtain ⟨hvl, hNs⟩ := un HNs
     obtain ⟨hN2, hlo2⟩ := un HN2
     obtain ⟨hI2, hz2, hf2⟩ := kid_end (X := Y.setCell ⟨w.heap.size + 2, 0, none⟩ (.slice (some ⟨gg, 0, none⟩) (pre.length + 1) cp)) (un HI) hzW (un HUW) hvl hNs hown5 hgrow (hat.imp id fun e => Nat.le_of_eq e.symm) hN2 hlo2 (by rw [un hY]; exact .inl rfl)
     exact ⟨trivial, ⟨hf2 _ (by omega) (by omega), hf2 _ (by omega) (by omega)⟩, trivial, ⟨by omega, _, by rw [un HTk]; exact hI2⟩⟩
    ·rw [if_pos (by kernel_rfl)]
     go_simp
     obtain ⟨Y, hY⟩ : ∃ Y, Y = w5.setCell ⟨w.heap.size + 2, 0, none⟩ (.slice (some ⟨gg, 0, none⟩) (pre.length + 1) cp) := ⟨_, rfl⟩
     have hbY := bt_set w5 (w.heap.size + 2) (.slice (some ⟨gg, 0, none⟩) (pre.length + 1) cp)
     rw [<- hY] at hbY ⊢
     replace hY := H_ hY
     have hBY := (hbY.block _ (Array.getElem?_eq_some_iff.1 hB5).1 (by omega)).trans hB5
     have hSY := box7 hBY
     have hgY := hbY.block gg hglt hgK
     have far := fun i => World.cell?_of_block (w := w5) (w' := Y) (a := ⟨gg, i, none⟩) hgY
     have farf := fun i => World.frozen?_of_block (w := w5) (w' := Y) (a := ⟨gg, i, none⟩) hgY
     rw [<- far] at l0 l1 l2
     rw [<- farf] at m0 m1 m2
     clear far farf cK fK
     refine hK.out _ _ ⟨fun h => absurd h (by decide), hSY⟩ (fun _ => ?_)
     clear hK K
     simp only [Act.put, nrm]
     refine wpAnyS_ready (rs := [7]) (by kernel_rfl) (by simp) ?_
     refine AllReadyS.cons rfl (fun K hK => ?_) AllReadyS.nil
     rw [if_pos (by kernel_rfl)]
     go_simp
     obtain ⟨X, hX⟩ : ∃ X, X = set3o Y gg (pre.length * 3) (.int .i64 ct) (.string cs) (.slice ca cn cc) := ⟨_, rfl⟩
     have hbX := set3o_but Y gg (pre.length * 3) (.int .i64 ct) (.string cs) (.slice ca cn cc)
     dsimp only [set3o] at hX hbX
     rw [<- hX] at hbX ⊢
     replace hX := H_ hX
     have hBZ := (hbX.block _ (Array.getElem?_eq_some_iff.1 hBY).1 (Ne.symm hgB)).trans hBY
     have hSZ := box7 hBZ
     clear l0 l1 l2 m0 m1 m2
     refine hK.out _ _ ⟨fun h => absurd h (by decide), hSZ⟩ (fun _ => ?_)
     clear hK K
     simp only [Act.put, nrm]
     refine wpAnyS_done (by kernel_rfl) ?_ _
     simp only [onlyS]
     gi_wp2
     obtain ⟨hown5, hgrow, hat⟩ := un HA
     obtain ⟨hvl, hNs⟩ := un HNs
     obtain ⟨hN2, hlo2⟩ := un HN2
     obtain ⟨hI2, hz2, hf2⟩ := kid_end (X := X) (un HI) hzW (un HUW) hvl hNs hown5 hgrow (hat.imp id fun e => Nat.le_of_eq e.symm) hN2 hlo2 (by rw [un hX, un hY]; exact .inr rfl)
     exact ⟨trivial, ⟨hf2 _ (by omega) (by omega), hf2 _ (by omega) (by omega)⟩, trivial, ⟨by omega, _, by rw [un HTk]; exact hI2⟩⟩
   ·rw [if_pos (by kernel_rfl)]
    go_simp
    obtain ⟨V1, hV1⟩ : ∃ V1, V1 = V.alloc znObj := ⟨_, rfl⟩
    have hs1 : Below V.heap.size V V1 := by rw [hV1]; exact (Below.refl _ _).alloc (Nat.le_refl _) _
    have hK2 := (hs1.block _ (Array.getElem?_eq_some_iff.1 (un HKV)).1).trans (un HKV)
    have hB2 := (hs1.block _ (Array.getElem?_eq_some_iff.1 (un HBV)).1).trans (un HBV)
    obtain ⟨ab, hab⟩ : ∃ ab, ab = V.heap.size := ⟨_, rfl⟩
    have hblk : V1.heap[ab]? = some znObj := by rw [hV1, hab]; exact World.alloc_heap_new V znObj
    rw [<- hV1, <- hab]
    clear hV1 hab
    refine hK.out _ _ ⟨fun _ => (box1 hK2).1, box7 hB2⟩ (fun _ => ?_)
    clear hK K
    simp only [Act.put, nrm]
    refine wpAnyS_ready (rs := [2]) (by kernel_rfl) (by simp) ?_
    refine AllReadyS.cons rfl (fun K hK => ?_) AllReadyS.nil
    rw [if_pos (by kernel_rfl)]
    go_wp2_with fail
    refine ((un HC) V1 hs1).mono ?_
    rintro e U ⟨ct, cs, ca, cn, cc, rfl, hb2, hN2⟩
    have hcz : ∀ (j : Nat) u, zn[j]? = some u -> U.cell? ((⟨ab, 0, none⟩ : Addr).add j) = some u := World.news_of_block ((hb2.block _ (Array.getElem?_eq_some_iff.1 hblk).1).trans hblk)
    have hVU : Below V.heap.size V U := hs1.trans (hb2.mono hs1.size)
    have HN2 := H_ (And.intro hN2 (Nat.le_trans hVW.size hs1.size))
    have Hcz := H_ hcz
    clear hcz hblk hN2 hb2 hs1 hK2 hB2
    have HUW := H_ (hVW.trans (hVU.mono hVW.size))
    have hzU : W.heap.size <= U.heap.size := (un HUW).size
    have HownU := H_ (own_below hownV hVU)
    have HKU := H_ ((hVU.block _ (Array.getElem?_eq_some_iff.1 (un HKV)).1).trans (un HKV))
    have cKU := (box1 (un HKU)).1
    have HBU := H_ ((hVU.block _ (Array.getElem?_eq_some_iff.1 (un HBV)).1).trans (un HBV))
    have hBU := (Array.getElem?_eq_some_iff.1 (un HBU)).1
    have hS1U := box7 (un HBU)
    go_wp2
    refine hK.out _ _ ⟨fun _ => cKU, hS1U⟩ (fun _ => ?_)
    clear hK K
    simp only [Act.put, nrm]
    refine wpAnyS_ready (rs := [5]) (by kernel_rfl) (by simp) ?_
    refine AllReadyS.cons rfl (fun K hK => ?_) AllReadyS.nil
    rw [if_pos (by kernel_rfl)]
    refine wp_append_lies _ (.tmp 31) (.tmp 35) 26 rfl (w.heap.size + 6) 28 i0 (.agg #[.int .i64 0, .string ⟨#[]⟩, .slice none 0 0]) 3 48 Tryz.underlying26 hi0 hz0 hz1 hz2 rfl (by omega) (.slice sla pre.length slc) pre.length (vs.flatMap trip) rfl (un HownU) ⟨ab, 0, none⟩ 1 1 zn rfl rfl (un Hcz) (by simp [Value.oneCell']) (by omega) (by unfold maxLen; omega) (by omega) (by omega) U.heap.size rfl ?_
    intro gg cp w5 hown5 hgrow hat hglt
    obtain ⟨⟨l0, l1, l2⟩, m0, m1, m2⟩ := lastCells hown5
    obtain ⟨hgB, hgK, hB5, hK5, hg6⟩ := kid_far (un HoB) hSB hBU hgrow hat (un HBU) (un HKU)
    have cK := (box1 hK5).1
    have fK := (box1 hK5).2
    have hS5 := box7 hB5
    have HA := H_ (And.intro hown5 (And.intro hgrow hat))
    clear hown5 hgrow hat
    refine hK.out _ _ ⟨fun h => absurd h (by decide), hS5⟩ (fun _ => ?_)
    clear hK K
    simp only [Act.put, nrm]
    refine wpAnyS_take1 (i := 6) (v := .pointer (some ⟨gg, pre.length * 3, none⟩)) rfl (by kernel_rfl) (by kernel_rfl) (by kernel_rfl) (by kernel_rfl) (fun _ _ _ h => h) (Or.inl ⟨by kernel_rfl, by rintro w1 ⟨s0, s1, s2, s3, s4, s5, s6⟩; go_simp; all_goals first | rfl | (intro h; omega)⟩) ⟨fun h => absurd h (by decide), hS5⟩ ?_
    simp only [Act.put, nrm]
    refine wpAnyS_ready (rs := [7, 8]) (by kernel_rfl) (by simp) ?_
    refine AllReadyS.cons rfl (fun K hK => ?_) (AllReadyS.cons rfl (fun K hK => ?_) AllReadyS.nil)
    ·rw [if_pos (by kernel_rfl)]
     go_simp
     obtain ⟨Y, hY⟩ : ∃ Y, Y = set3o w5 gg (pre.length * 3) (.int .i64 ct) (.string cs) (.slice ca cn cc) := ⟨_, rfl⟩
     have hbY := set3o_but w5 gg (pre.length * 3) (.int .i64 ct) (.string cs) (.slice ca cn cc)
     dsimp only [set3o] at hY hbY
     rw [<- hY] at hbY ⊢
     replace hY := H_ hY
     have hKY := (hbY.block _ (Array.getElem?_eq_some_iff.1 hK5).1 (Ne.symm hgK)).trans hK5
     have cY := (box1 hKY).1
     have fY := (box1 hKY).2
     have hBY := (hbY.block _ (Array.getElem?_eq_some_iff.1 hB5).1 (Ne.symm hgB)).trans hB5
     have hSY := box7 hBY
     clear l0 l1 l2 m0 m1 m2 cK fK
     refine hK.out _ _ ⟨fun h => absurd h (by decide), hSY⟩ (fun _ => ?_)
     clear hK K
     simp only [Act.put, nrm]
     refine wpAnyS_ready (rs := [8]) (by kernel_rfl) (by simp) ?_
     refine AllReadyS.cons rfl (fun K hK => ?_) AllReadyS.nil
     rw [if_pos (by kernel_rfl)]
     go_simp
     have hBZ := (Below.heap_setCell Y ⟨w.heap.size + 2, 0, none⟩ (.slice (some ⟨gg, 0, none⟩) (pre.length + 1) cp) C.heap.size (by show C.heap.size ≠ w.heap.size + 2; omega)).trans hBY
     have hSZ := box7 hBZ
     refine hK.out _ _ ⟨fun h => absurd h (by decide), hSZ⟩ (fun _ => ?_)
     clear hK K
     simp only [Act.put, nrm]
     refine wpAnyS_done (by kernel_rfl) ?_ _
     simp only [onlyS]
     gi_wp2
     obtain ⟨hown5, hgrow, hat⟩ := un HA
     obtain ⟨hvl, hNs⟩ := un HNs
     obtain ⟨hN2, hlo2⟩ := un HN2
     obtain ⟨hI2, hz2, hf2⟩ := kid_end (X := Y.setCell ⟨w.heap.size + 2, 0, none⟩ (.slice (some ⟨gg, 0, none⟩) (pre.length + 1) cp)) (un HI) hzW (un HUW) hvl hNs hown5 hgrow (hat.imp id fun e => Nat.le_of_eq e.symm) hN2 hlo2 (by rw [un hY]; exact .inl rfl)
     exact ⟨trivial, ⟨hf2 _ (by omega) (by omega), hf2 _ (by omega) (by omega)⟩, trivial, ⟨by omega, _, by rw [un HTk]; exact hI2⟩⟩
    ·rw [if_pos (by kernel_rfl)]
     go_simp
     obtain ⟨Y, hY⟩ : ∃ Y, Y = w5.setCell ⟨w.heap.size + 2, 0, none⟩ (.slice (some ⟨gg, 0, none⟩) (pre.length + 1) cp) := ⟨_, rfl⟩
     have hbY := bt_set w5 (w.heap.size + 2) (.slice (some ⟨gg, 0, none⟩) (pre.length + 1) cp)
     rw [<- hY] at hbY ⊢
     replace hY := H_ hY
     have hBY := (hbY.block _ (Array.getElem?_eq_some_iff.1 hB5).1 (by omega)).trans hB5
     have hSY := box7 hBY
     have hgY := hbY.block gg hglt hgK
     have far := fun i => World.cell?_of_block (w := w5) (w' := Y) (a := ⟨gg, i, none⟩) hgY
     have farf := fun i => World.frozen?_of_block (w := w5) (w' := Y) (a := ⟨gg, i, none⟩) hgY
     rw [<- far] at l0 l1 l2
     rw [<- farf] at m0 m1 m2
     clear far farf cK fK
     refine hK.out _ _ ⟨fun h => absurd h (by decide), hSY⟩ (fun _ => ?_)
     clear hK K
     simp only [Act.put, nrm]
     refine wpAnyS_ready (rs := [7]) (by kernel_rfl) (by simp) ?_
     refine AllReadyS.cons rfl (fun K hK => ?_) AllReadyS.nil
     rw [if_pos (by kernel_rfl)]
     go_simp
     obtain ⟨X, hX⟩ : ∃ X, X = set3o Y gg (pre.length * 3) (.int .i64 ct) (.string cs) (.slice ca cn cc) := ⟨_, rfl⟩
     have hbX := set3o_but Y gg (pre.length * 3) (.int .i64 ct) (.string cs) (.slice ca cn cc)
     dsimp only [set3o] at hX hbX
     rw [<- hX] at hbX ⊢
     replace hX := H_ hX
     have hBZ := (hbX.block _ (Array.getElem?_eq_some_iff.1 hBY).1 (Ne.symm hgB)).trans hBY
     have hSZ := box7 hBZ
     clear l0 l1 l2 m0 m1 m2
     refine hK.out _ _ ⟨fun h => absurd h (by decide), hSZ⟩ (fun _ => ?_)
     clear hK K
     simp only [Act.put, nrm]
     refine wpAnyS_done (by kernel_rfl) ?_ _
     simp only [onlyS]
     gi_wp2
     obtain ⟨hown5, hgrow, hat⟩ := un HA
     obtain ⟨hvl, hNs⟩ := un HNs
     obtain ⟨hN2, hlo2⟩ := un HN2
     obtain ⟨hI2, hz2, hf2⟩ := kid_end (X := X) (un HI) hzW (un HUW) hvl hNs hown5 hgrow (hat.imp id fun e => Nat.le_of_eq e.symm) hN2 hlo2 (by rw [un hX, un hY]; exact .inr rfl)
     exact ⟨trivial, ⟨hf2 _ (by omega) (by omega), hf2 _ (by omega) (by omega)⟩, trivial, ⟨by omega, _, by rw [un HTk]; exact hI2⟩⟩
  case done =>
   rintro j W rfl ⟨_, sl, hI⟩ hK
   rw [hz] at hK
   rw [List.take_of_length_le (by rw [List.length_map]; exact Nat.le_refl _)] at hI
   have hpl : ((ls F).map (tree n)).length <= 1000 := by rw [List.length_map]; exact hl1
   have hTR := un HTR
   generalize (ls F).map (tree n) = pre at *
   obtain ⟨sla, slc, rfl⟩ := hI.gr.form
   have cK := (box1 hI.k).1
   have hNd := hI.gr.node (tg k) ⟨#[]⟩ (Nat.zero_le _) (Nat.le_trans hpl (by decide))
   have HH := H_ (And.intro hI (And.intro hK (And.intro hNd hTR)))
   clear hI hK hNd hI0 hTR HTR
   go_wp2_with fail
   refine (inner_any (tg k) sla _ slc _).mono ?_
   rintro e w2 ⟨rfl, hb2⟩
   have ht2 := (hb2.block _ (Array.getElem?_eq_some_iff.1 (un HH).1.t).1).trans (un HH).1.t
   obtain ⟨⟨e0, e1, e2⟩, r0, r1, r2⟩ := cells3 ht2
   have HB2 := H_ (And.intro hb2 ht2)
   clear hb2 ht2 cK
   go_wp2
   obtain ⟨hI, hK, hNd, hTR⟩ := un HH
   obtain ⟨hb2, ht2⟩ := un HB2
   have hlt := hI.lt
   have hlK := (Array.getElem?_eq_some_iff.1 hK).1
   have hz2 := hb2.size
   have g0 := set3_blk (x' := .int .i64 (tg k)) (y' := .string ⟨#[]⟩) (z' := .slice sla pre.length slc) ht2
   have far := fun i (hi : i ≠ w.heap.size + 1) => set3_far w2 (w.heap.size + 1) (.int .i64 (tg k)) (.string ⟨#[]⟩) (.slice sla pre.length slc) i hi
   have hbX := set3n (b := w.heap.size + 1) (hI.bel.trans (hb2.mono hI.bel.size)) (by omega) (.int .i64 (tg k)) (.string ⟨#[]⟩) (.slice sla pre.length slc)
   refine finT (b := w.heap.size + 1) (D := w.heap.size + 4) ((far _ (by omega)).trans ((hb2.block _ hlK).trans hK)) (by omega) g0 rfl ?_
   refine ⟨_, _, _, _, _, rfl, below_putNew hbX (by omega) _, ?_⟩
   rw [hTR]
   exact (hNd.of fun b h1 h2 => (World.putObj_heap_other (by omega)).trans ((far b (by omega)).trans (hb2.block b h2))).imp fun b h1 _ => by omega
end Go.Proofs.YtmenllnokgjdlaaGreatDoor.G
