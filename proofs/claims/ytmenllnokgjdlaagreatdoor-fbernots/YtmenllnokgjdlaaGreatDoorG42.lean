/- Several texts in one: GTreeB, GTreeC. Each says what it proves, and its conditions. -/
import Derived.Test.YtmenllnokgjdlaaGreatDoorGTreeA
set_option linter.unusedSimpArgs false
set_option maxHeartbeats 8000000
set_option maxRecDepth 100000
/-
 What the tree of fber's maker is at a filter of pieces. Conditions: none.
-/
namespace Go.Proofs.YtmenllnokgjdlaaGreatDoor.G
open Go Go.RowKit Go.Shelf Gp
open D (H_ un)
open F (But At FNode Strs Is range_own Two box1 own_below fit_item)
open Fp (Fl kd nm va an fi ls isSet fitF)
attribute [local go_sem] Oper.semAt_some
theorem psL_small {v : ByteArray} {l : List ByteArray} {f : ByteArray} {m : Nat} (hv : v.size <= m) (hf : f.size <= m) (hl : ∀ x ∈ l, x.size <= m) : ∀ q ∈ psL v l f, q.2.size <= m := by
 intro q hq
 unfold psL at hq
 rcases List.mem_append.1 hq with h | h
 ·by_cases h1 : v.size = 0
  ·rw [if_pos h1] at h; cases h
  ·rw [if_neg h1] at h; simp at h; rw [h]; exact hv
 ·rcases List.mem_append.1 h with h | h
  ·obtain ⟨x, hx, rfl⟩ := List.mem_map.1 h; exact hl x hx
  ·by_cases h1 : f.size = 0
   ·rw [if_pos h1] at h; cases h
   ·rw [if_neg h1] at h; simp at h; rw [h]; exact hf
theorem node_two {n b c : Nat} {W : World} {p : Nat -> Prop} {t : Int} {x0 x1 x2 y0 y1 y2 : Value} {T : TypeId} {X Y : Tv.Tr n} (h : W.heap[b]? = some (.cells #[x0, x1, x2, y0, y1, y2] T (0, 0))) (hp : p b) (hX : Node n W p (.agg #[x0, x1, x2]) X) (hY : Node n W p (.agg #[y0, y1, y2]) Y) :
  Node (n + 1) W p (.agg #[.int .i64 t, .string ⟨#[]⟩, .slice (some ⟨b, 0, none⟩) 2 c]) (Tv.mk t ⟨#[]⟩ [X, Y]) := by
 refine ⟨_, c, rfl, Nat.zero_le _, by simp, .inr ⟨b, 0, rfl, hp, fun i x hi => ?_⟩⟩
 rw [Tv.kids_mk] at hi
 match i, hi with
 | 0, hi => cases hi; exact ⟨x0, x1, x2, by simp [World.cell?, h], by simp [World.cell?, h], by simp [World.cell?, h], hX⟩
 | 1, hi => cases hi; exact ⟨y0, y1, y2, by simp [World.cell?, h], by simp [World.cell?, h], by simp [World.cell?, h], hY⟩
theorem tree_subs (n : Nat) (kk : Nat) (F : Fl (n + 1)) (w : World) (p : Nat -> Prop) (d : FD) (B : Nat) (hr : Fp.right (n + 1) kk F = true) (hN : FNode (n + 1) w p d F) (hB : TagsAt w B) (hs : kd F = 4) :
  Calls Tryz.prog 53 #[mval d B] w fun e w' => ∃ ct cs ca cn cc, e = .returned (.agg #[.int .i64 ct, .string cs, .slice ca cn cc]) /\ Below w.heap.size w w' /\ Node (n + 3) w' (fun b => w.heap.size <= b) (.agg #[.int .i64 ct, .string cs, .slice ca cn cc]) (tree (n + 1) F) := by
 rw [Fp.right] at hr
 simp only [Bool.and_eq_true, decide_eq_true_eq, List.all_eq_true] at hr
 obtain ⟨⟨hd0, hf⟩, _⟩ := hr
 have hss : isSet (kd F) = false := by rw [hs]; rfl
 obtain ⟨hnz, hvz, hfz, _, hxz⟩ := fit_item hf hss
 have hps := psL_small hvz hfz hxz
 have hN0 : FNode (n + 1) w (fun b => b < w.heap.size) d F := hN.imp fun b _ hl => hl
 have hkd : d.k = kd F := hN.is.k
 have hnm : d.a = nm F := hN.is.a
 have hk4 : d.k = 4 := hkd.trans hs
 have hsn : (an F).length <= 1000 := hN.sm.sn
 have htr : tree (n + 1) F = Tv.mk 164 ⟨#[]⟩ [lf 4 d.a, Tv.mk 48 ⟨#[]⟩ ((psL (va F) (an F) (fi F)).map fun q => lf q.1 q.2)] := by
  rw [tree, if_neg (by omega), hss, if_neg (by simp), if_pos hs, hnm, <- pcs_psL]
 have hpl0 : (psL (va F) (an F) (fi F)).length <= 1002 := by
  rw [psL_len]; unfold c0
  by_cases h1 : (va F).size = 0 <;> by_cases h2 : (fi F).size = 0 <;> simp [h1, h2] <;> omega
 have hht : hasTag d.k = true := (hasTag_iff _).2 (by omega)
 obtain ⟨k, a, v, sa, sn, sc, f, la, ln, lc⟩ := d
 dsimp only at hkd hk4 htr hht hnm
 subst hk4
 rw [<- hnm] at hnz
 have FACTS : ∀ W1, W1 = (w.alloc (mobj ⟨4, a, v, sa, sn, sc, f, la, ln, lc⟩ B)).alloc znObj ->
   (Instr.lookup 77 (.map (some B)) (.int .i64 4) false).run Tryz.prog W1 = .ok (.int .i64 (tg 4)) W1 /\
   (W1.cell? ⟨w.heap.size, 0, none⟩ = some (.int .i64 4) /\ W1.cell? ⟨w.heap.size, 1, none⟩ = some (.string a) /\ W1.cell? ⟨w.heap.size, 2, none⟩ = some (.string v) /\ W1.cell? ⟨w.heap.size, 6, none⟩ = some (.map (some B))) /\
   (∀ o, (W1.alloc o).cell? ⟨w.heap.size, 0, none⟩ = some (.int .i64 4) /\ (W1.alloc o).cell? ⟨w.heap.size, 1, none⟩ = some (.string a) /\ (W1.alloc o).cell? ⟨w.heap.size, 2, none⟩ = some (.string v) /\ (W1.alloc o).cell? ⟨w.heap.size, 3, none⟩ = some (.slice sa sn sc) /\ (W1.alloc o).cell? ⟨w.heap.size, 4, none⟩ = some (.string f) /\ (W1.alloc o).cell? ⟨w.heap.size, 5, none⟩ = some (.slice la ln lc) /\ (W1.alloc o).cell? ⟨w.heap.size, 6, none⟩ = some (.map (some B))) /\
   (∀ W0, W0 = (W1.alloc (.cells #[.slice none 0 0] 26)).alloc (mobj ⟨4, a, v, sa, sn, sc, f, la, ln, lc⟩ B) -> W0.heap.size = w.heap.size + 4 /\ Kin (n + 1) w (mcs ⟨4, a, v, sa, sn, sc, f, la, ln, lc⟩ B) [] (.slice none 0 0) W0) := by
  intro W1 hW1
  have hb1 : Below w.heap.size w W1 := by rw [hW1]; exact ((Below.refl _ _).alloc (Nat.le_refl _) _).alloc (by simp) _
  have hm1 : W1.heap[w.heap.size]? = some (.cells (mcs ⟨4, a, v, sa, sn, sc, f, la, ln, lc⟩ B) 80 (0, 0)) := by
   rw [hW1, Below.heap_alloc _ _ _ (by simp)]; exact World.alloc_heap_new w _
  have ht1 : W1.heap[w.heap.size + 1]? = some (.cells #[.int .i64 0, .string ⟨#[]⟩, .slice none 0 0] 28 (0, 0)) := by
   rw [hW1]
   have := World.alloc_heap_new (w.alloc (mobj ⟨4, a, v, sa, sn, sc, f, la, ln, lc⟩ B)) znObj
   rwa [World.size_alloc] at this
  have hz1 : W1.heap.size = w.heap.size + 2 := by rw [hW1]; simp
  obtain ⟨x0, x1, x2, x3, x4, x5, x6⟩ := box7 hm1
  refine ⟨(hB.below hb1).look 4 hht, ⟨x0, x1, x2, x6⟩, fun o => box7 ((Below.heap_alloc W1 o w.heap.size (by omega)).trans hm1), fun W0 hW0 => ?_⟩
  have hb10 : Below W1.heap.size W1 W0 := by rw [hW0]; exact ((Below.refl _ _).alloc (Nat.le_refl _) _).alloc (by simp) _
  refine ⟨by rw [hW0]; simp [hz1], (hb10.block _ (by omega)).trans hm1, (hb10.block _ (by omega)).trans ht1, ?_, ?_, Grow.nil _ _ _, hb1.trans (hb10.mono (by omega))⟩
  ·rw [hW0, Below.heap_alloc _ _ _ (by simp [hz1]), <- hz1]; exact World.alloc_heap_new _ _
  ·rw [hW0]
   have := World.alloc_heap_new (W1.alloc (.cells #[.slice none 0 0] 26)) (mobj ⟨4, a, v, sa, sn, sc, f, la, ln, lc⟩ B)
   rwa [World.size_alloc, hz1] at this
 obtain ⟨hlk, ⟨x0, x1, x2, x6⟩, hy, hF⟩ := FACTS _ rfl
 obtain ⟨y0, y1, y2, y3, y4, y5, y6⟩ := hy (.cells #[.slice none 0 0] 26)
 dsimp only [mobj, mcs, znObj] at hlk x0 x1 x2 x6 y0 y1 y2 y3 y4 y5 y6
 have HFc := H_ hF
 have hmx : Tryz.prog.follows .mixedOrders = true := by kernel_rfl
 have HN := H_ hN0
 have HTR := H_ htr
 have HTG := H_ hB
 have HPS := H_ hps
 have HNZ := H_ hnz
 have HPL := H_ hpl0
 clear hN hN0 htr hB FACTS hF hy hkd hht hs hf hd0 hss hvz hfz hxz hps hnz hnm hsn hpl0
 refine (callsIn_wide (n := 7)).1 ?_
 refine callsIn_of_wp_marks Tryz.func53 rfl trivial ?_ rfl
 simp only [Tryz.ntmps53, List.size_toArray, List.length_cons, List.length_nil, Nat.reduceAdd, Nat.reduceSub, Array.replicate_succ, Array.replicate_zero, List.push_toArray, List.append_toArray, List.nil_append, List.cons_append]
 refine wpIn_wide.2 ?_
 obtain ⟨ps, hPs⟩ : ∃ ps, psL (va F) (an F) (fi F) = ps := ⟨_, rfl⟩
 rw [hPs] at HPS HPL HTR
 have HPe := H_ hPs
 clear hPs
 go_wp2_with fail
 refine (pieces_any ⟨4, a, v, sa, sn, sc, f, la, ln, lc⟩ B _).mono ?_
 rintro e W0 ⟨rfl, hW0⟩
 obtain ⟨hz, hI0⟩ := (un HFc) W0 hW0
 clear hW0 hlk x0 x1 x2 x6 y0 y1 y2 y3 y4 y5 y6 HFc
 go_wp2_with fail
 refine (wpIn_wide (n := 7)).1 ?_
 refine' range_own (α := Int × ByteArray) (σ := Nat) (gf := 117) (lb := #[.pointer (some ⟨w.heap.size + 3, 0, none⟩)]) rfl (enters_of Tryz.func117 (by kernel_rfl) rfl)
  (fun x => #[.int .i64 x.1, .string x.2]) (fun _ => rfl) (fun _ _ => True) (fun X Y => Below X.heap.size X Y)
  (fun j W => j <= ps.length /\ ∃ sl, Kin (n + 1) w (mcs ⟨4, a, v, sa, sn, sc, f, la, ln, lc⟩ B) ((ps.map fun q => lf q.1 q.2).take j) sl W) (fun _ _ _ => False)
  (fun j x _ => ps[j]? = some x) (fun j _ => j + 1) 0 (fun j _ => j = ps.length) (fun _ => False) (fun _ _ => True) (fun _ _ => False)
  (fun _ X => X) _ (fun _ _ => Below.refl _ _)
  (fun _ _ => trivial) (fun _ _ _ => trivial) ?_ ?_ ?_ ?_ ?_ ?_ ?_ ?iter ?assign ?body ?done ?stop
 case assign =>
  intro j x W K _ _ hK
  gi_wp2
  exact hK
 case stop =>
  intro c j W hno
  exact hno.elim
 ·intro X Y hb hsz
  rw [hz] at hsz ⊢
  exact ⟨hb.block _ (by omega), hb.block _ (by omega)⟩
 ·rintro j X Y hb ⟨h1, sl, h2⟩
  rw [hz] at hb
  exact ⟨h1, sl, h2.but hb (by omega)⟩
 ·rintro j X Y hb _ ⟨h1, sl, h2⟩
  exact ⟨h1, sl, h2.below hb⟩
 ·rintro c j X Y hb h
  exact h
 ·rintro j x X Y hb h
  exact h
 ·rintro j X Y hb h
  exact h
 ·exact ⟨Nat.zero_le _, _, hI0⟩
 case iter =>
  intro W hbW hzW J Jx hJ hJI hY h0
  rw [hz] at hbW hzW hY hJI ⊢
  refine (pieces1_any F w ⟨4, a, v, sa, sn, sc, f, la, ln, lc⟩ B (w.heap.size + 3) (w.heap.size + 4 + 1) (un HN) J (fun j X hj => ?_) (fun j t x W' m hj hG => ?_) W h0).mono ?_
  ·obtain ⟨⟨_, sl, h1⟩, _⟩ := hJI j X hj
   exact ⟨h1.bel, h1.i⟩
  ·rw [un HPe] at hG
   refine (hY j (t, x) W' m hj hG).mono ?_
   rintro e W2 (⟨h1, _, h2, _⟩ | ⟨_, h, _⟩)
   ·exact ⟨h1, h2⟩
   ·exact h.elim
  ·rintro e W' ⟨h1, h2⟩
   rw [un HPe] at h2
   exact ⟨h1, .inl ⟨_, rfl, h2⟩⟩
 case body =>
  rintro j ⟨tt, tx⟩ C W ⟨hj, sl, hI⟩ hG hSB hbb _
  go_light
  rw [hz] at hSB hbb ⊢
  have hCW : C.heap.size <= W.heap.size := hbb.size
  have hjl : j < ps.length := (List.getElem?_eq_some_iff.1 hG).1
  have hpl : ((ps.map fun q => (lf q.1 q.2 : Tv.Tr (n + 1))).take j).length <= 1002 := by rw [List.length_take, List.length_map]; have := un HPL; omega
  have htx : tx.size <= 60 := un HPS (tt, tx) (List.mem_of_getElem? hG)
  have htk : (ps.map fun q => (lf q.1 q.2 : Tv.Tr (n + 1))).take (j + 1) = (ps.map fun q => (lf q.1 q.2 : Tv.Tr (n + 1))).take j ++ [lf tt tx] := by
   have hjm : j < (ps.map fun q => (lf q.1 q.2 : Tv.Tr (n + 1))).length := by rw [List.length_map]; exact hjl
   rw [List.take_succ_eq_append_getElem hjm, List.getElem_map]
   rw [List.getElem?_eq_getElem hjl] at hG
   rw [Option.some.inj hG]
  generalize (ps.map fun q => (lf q.1 q.2 : Tv.Tr (n + 1))).take j = pre at *
  obtain ⟨sla, slc, rfl⟩ := hI.gr.form
  have HoB : Hid (∀ i, (Value.slice sla pre.length slc).ownBlock = some i -> w.heap.size + 6 <= i) := H_ fun i h => (hI.gr.lt h).1
  have hVW : Below W.heap.size W W.drew := ⟨rfl, rfl, rfl, Nat.le_refl _, fun _ _ => rfl⟩
  have HC : Hid (∀ V', Below W.drew.heap.size W.drew V' -> Calls Tryz.prog 78 #[.int .i64 tt, .string tx] V' fun e w' => ∃ ct cs ca cn cc, e = .returned (.agg #[.int .i64 ct, .string cs, .slice ca cn cc]) /\ Below V'.heap.size V' w' /\ Node (n + 1) w' (fun b => V'.heap.size <= b) (.agg #[.int .i64 ct, .string cs, .slice ca cn cc]) (lf tt tx)) :=
   H_ fun V' _ => (leaf_any tt tx V' (by omega)).mono fun e w' ⟨h1, h2⟩ => ⟨_, _, _, _, _, h1, h2, node_leaf w' _ tt tx (by omega)⟩
  obtain ⟨vs, hvl, hown, hNs⟩ := hI.gr
  have HNs := H_ (And.intro hvl hNs)
  have HI := H_ hI
  have HTk := H_ htk
  have hzW : w.heap.size + 6 <= W.heap.size := by omega
  have HKV := H_ (show W.drew.heap[w.heap.size + 2]? = some (.cells #[.slice sla pre.length slc] 26 (0, 0)) from hI.k)
  have hownV : W.drew.ownsRow (w.heap.size + 6) 28 3 (.slice sla pre.length slc) pre.length (vs.flatMap trip) := hown
  obtain ⟨i0, hi0, hz0, hz1, hz2⟩ := infoN
  clear hI hvl hown hNs htk hG hbb hI0 htx
  gi_wp2_with fail
  refine regionIn_sw (fun w' => w'.cell? ⟨w.heap.size + 2, 0, none⟩ = some (.slice sla pre.length slc)) (fun _ => True) 6 (by kernel_rfl) (by kernel_rfl) ?_
  generalize W.drew = V at *
  have cK0 := (box1 (un HKV)).1
  change wpAnyS _ _ _ _ _ _ _ 10 #[false, false, false, false, false, false, false, false, false, false] _ V
  refine wpAnyS_take (i := 0) (v := .slice sla pre.length slc) rfl (by kernel_rfl) (by kernel_rfl) (by kernel_rfl) (by kernel_rfl) (fun _ _ _ h => h) (Or.inl ⟨by kernel_rfl, by rintro w1 ⟨s0, s1⟩; go_simp; all_goals first | rfl | omega⟩) ⟨fun _ => cK0, trivial⟩ ?_
  simp only [Act.put, nrm]
  refine wpAnyS_take1 (i := 1) (v := .int .i64 tt) rfl (by kernel_rfl) (by kernel_rfl) (by kernel_rfl) (by kernel_rfl) (fun _ _ _ h => h) (Or.inl ⟨by kernel_rfl, by intro w1 s1; go_simp; all_goals first | rfl | omega⟩) ⟨fun _ => cK0, trivial⟩ ?_
  simp only [Act.put, nrm]
  refine wpAnyS_take1 (i := 2) (v := .string tx) rfl (by kernel_rfl) (by kernel_rfl) (by kernel_rfl) (by kernel_rfl) (fun _ _ _ h => h) (Or.inl ⟨by kernel_rfl, by intro w1 s1; go_simp; all_goals first | rfl | omega⟩) ⟨fun _ => cK0, trivial⟩ ?_
  simp only [Act.put, nrm]
  refine wpAnyS_take1 (i := 4) (v := .int .i64 (pre.length : Int)) rfl (by kernel_rfl) (by kernel_rfl) (by kernel_rfl) (by kernel_rfl) (fun _ _ _ h => h) (Or.inl ⟨by kernel_rfl, by intro w1 s1; go_simp; all_goals first | rfl | omega⟩) ⟨fun _ => cK0, trivial⟩ ?_
  simp only [Act.put, nrm]
  refine wpAnyS_ready (rs := [3, 5]) (by kernel_rfl) (by simp) ?_
  refine AllReadyS.cons rfl (fun K hK => ?_) (AllReadyS.cons rfl (fun K hK => ?_) AllReadyS.nil)
  ·rw [if_pos (by kernel_rfl)]
   go_wp2_with fail
   refine ((un HC) V (Below.refl _ _)).mono ?_
   rintro e w2 ⟨ct, cs, ca, cn, cc, rfl, hb2, hN2⟩
   have hs1 : Below V.heap.size V w2 := hb2
   have hK2 := (hs1.block _ (Array.getElem?_eq_some_iff.1 (un HKV)).1).trans (un HKV)
   go_wp2
   refine hK.out _ _ ⟨fun _ => (box1 hK2).1, trivial⟩ (fun _ => ?_)
   clear hK K
   simp only [Act.put, nrm]
   refine wpAnyS_ready (rs := [5]) (by kernel_rfl) (by simp) ?_
   refine AllReadyS.cons rfl (fun K hK => ?_) AllReadyS.nil
   rw [if_pos (by kernel_rfl)]
   go_simp
   obtain ⟨U, hU⟩ : ∃ U, U = w2.alloc znObj := ⟨_, rfl⟩
   obtain ⟨ab, hab⟩ : ∃ ab, ab = w2.heap.size := ⟨_, rfl⟩
   have hcz : ∀ (j : Nat) u, zn[j]? = some u -> U.cell? ((⟨ab, 0, none⟩ : Addr).add j) = some u := by rw [hU, hab]; exact World.news_of_block (World.alloc_heap_new w2 znObj)
   have hVU : Below V.heap.size V U := by rw [hU]; exact hs1.alloc hs1.size _
   have HN2 := H_ (And.intro (show Node (n + 1) U (fun b => V.heap.size <= b) (.agg #[.int .i64 ct, .string cs, .slice ca cn cc]) (lf tt tx) by rw [hU]; exact hN2.below ((Below.refl _ _).alloc (Nat.le_refl _) _)) hVW.size)
   rw [<- hU, <- hab]
   have Hcz := H_ hcz
   clear hcz hU hab hN2 hb2 hs1 hK2 
   have HUW := H_ (hVW.trans (hVU.mono hVW.size))
   have hzU : W.heap.size <= U.heap.size := (un HUW).size
   have HownU := H_ (own_below hownV hVU)
   have HKU := H_ ((hVU.block _ (Array.getElem?_eq_some_iff.1 (un HKV)).1).trans (un HKV))
   have cKU := (box1 (un HKU)).1
   have hSU : w.heap.size + 6 <= U.heap.size := by omega
   refine hK.out _ _ ⟨fun _ => cKU, trivial⟩ (fun _ => ?_)
   clear hK K
   simp only [Act.put, nrm]
   refine wpAnyS_ready (rs := [6]) (by kernel_rfl) (by simp) ?_
   refine AllReadyS.cons rfl (fun K hK => ?_) AllReadyS.nil
   rw [if_pos (by kernel_rfl)]
   refine wp_append_lies _ (.tmp 47) (.tmp 52) 26 rfl (w.heap.size + 6) 28 i0 (.agg #[.int .i64 0, .string ⟨#[]⟩, .slice none 0 0]) 3 48 Tryz.underlying26 hi0 hz0 hz1 hz2 rfl (by omega) (.slice sla pre.length slc) pre.length (vs.flatMap trip) rfl (un HownU) ⟨ab, 0, none⟩ 1 1 zn rfl rfl (un Hcz) (by simp [Value.oneCell']) (by omega) (by unfold maxLen; omega) (by omega) (by omega) U.heap.size rfl ?_
   intro gg cp w5 hown5 hgrow hat hglt
   obtain ⟨⟨l0, l1, l2⟩, m0, m1, m2⟩ := lastCells hown5
   obtain ⟨hgK, hK5, hg6⟩ := kid_far0 (un HoB) hSU hgrow hat (un HKU)
   have cK := (box1 hK5).1
   have fK := (box1 hK5).2
   have HA := H_ (And.intro hown5 (And.intro hgrow hat))
   clear hown5 hgrow hat
   refine hK.out _ _ ⟨fun h => absurd h (by decide), trivial⟩ (fun _ => ?_)
   clear hK K
   simp only [Act.put, nrm]
   refine wpAnyS_take1 (i := 7) (v := .pointer (some ⟨gg, pre.length * 3, none⟩)) rfl (by kernel_rfl) (by kernel_rfl) (by kernel_rfl) (by kernel_rfl) (fun _ _ _ h => h) (Or.inl ⟨by kernel_rfl, by intro w1 s1; go_simp; all_goals first | rfl | (intro h; omega)⟩) ⟨fun h => absurd h (by decide), trivial⟩ ?_
   simp only [Act.put, nrm]
   refine wpAnyS_ready (rs := [8, 9]) (by kernel_rfl) (by simp) ?_
   refine AllReadyS.cons rfl (fun K hK => ?_) (AllReadyS.cons rfl (fun K hK => ?_) AllReadyS.nil)
   ·rw [if_pos (by kernel_rfl)]
    go_simp
    obtain ⟨Y, hY⟩ : ∃ Y, Y = set3o w5 gg (pre.length * 3) (.int .i64 ct) (.string cs) (.slice ca cn cc) := ⟨_, rfl⟩
    have hbY := set3o_but w5 gg (pre.length * 3) (.int .i64 ct) (.string cs) (.slice ca cn cc)
    dsimp only [set3o] at hY hbY
    rw [<- hY] at hbY ⊢
    replace hY := H_ hY
    have hKY := (hbY.block _ (Array.getElem?_eq_some_iff.1 hK5).1 (Ne.symm hgK)).trans hK5
    have cY := (box1 hKY).1
    have fY := (box1 hKY).2
    clear l0 l1 l2 m0 m1 m2 cK fK
    refine hK.out _ _ ⟨fun h => absurd h (by decide), trivial⟩ (fun _ => ?_)
    clear hK K
    simp only [Act.put, nrm]
    refine wpAnyS_ready (rs := [9]) (by kernel_rfl) (by simp) ?_
    refine AllReadyS.cons rfl (fun K hK => ?_) AllReadyS.nil
    rw [if_pos (by kernel_rfl)]
    go_simp
    refine hK.out _ _ ⟨fun h => absurd h (by decide), trivial⟩ (fun _ => ?_)
    clear hK K
    simp only [Act.put, nrm]
    refine wpAnyS_done (by kernel_rfl) ?_ _
    simp only [onlyS]
    gi_wp2
    obtain ⟨hown5, hgrow, hat⟩ := un HA
    obtain ⟨hvl, hNs⟩ := un HNs
    obtain ⟨hN2, hlo2⟩ := un HN2
    obtain ⟨hI2, hz2, hf2⟩ := kid_end (X := Y.setCell ⟨w.heap.size + 2, 0, none⟩ (.slice (some ⟨gg, 0, none⟩) (pre.length + 1) cp)) (un HI) hzW (un HUW) hvl hNs hown5 hgrow (hat.imp id fun e => Nat.le_of_eq e.symm) hN2 hlo2 (by rw [un hY]; exact .inl rfl)
    exact ⟨trivial, ⟨hf2 _ (by omega) (by omega), hf2 _ (by omega) (by omega)⟩, trivial, ⟨by omega, _, by rw [un HTk]; exact hI2⟩⟩
   ·rw [if_pos (by kernel_rfl)]
    go_simp
    obtain ⟨Y, hY⟩ : ∃ Y, Y = w5.setCell ⟨w.heap.size + 2, 0, none⟩ (.slice (some ⟨gg, 0, none⟩) (pre.length + 1) cp) := ⟨_, rfl⟩
    have hbY := bt_set w5 (w.heap.size + 2) (.slice (some ⟨gg, 0, none⟩) (pre.length + 1) cp)
    rw [<- hY] at hbY ⊢
    replace hY := H_ hY
    have hgY := hbY.block gg hglt hgK
    have far := fun i => World.cell?_of_block (w := w5) (w' := Y) (a := ⟨gg, i, none⟩) hgY
    have farf := fun i => World.frozen?_of_block (w := w5) (w' := Y) (a := ⟨gg, i, none⟩) hgY
    rw [<- far] at l0 l1 l2
    rw [<- farf] at m0 m1 m2
    clear far farf cK fK
    refine hK.out _ _ ⟨fun h => absurd h (by decide), trivial⟩ (fun _ => ?_)
    clear hK K
    simp only [Act.put, nrm]
    refine wpAnyS_ready (rs := [8]) (by kernel_rfl) (by simp) ?_
    refine AllReadyS.cons rfl (fun K hK => ?_) AllReadyS.nil
    rw [if_pos (by kernel_rfl)]
    go_simp
    obtain ⟨X, hX⟩ : ∃ X, X = set3o Y gg (pre.length * 3) (.int .i64 ct) (.string cs) (.slice ca cn cc) := ⟨_, rfl⟩
    have hbX := set3o_but Y gg (pre.length * 3) (.int .i64 ct) (.string cs) (.slice ca cn cc)
    dsimp only [set3o] at hX hbX
    rw [<- hX] at hbX ⊢
    replace hX := H_ hX
    clear l0 l1 l2 m0 m1 m2
    refine hK.out _ _ ⟨fun h => absurd h (by decide), trivial⟩ (fun _ => ?_)
    clear hK K
    simp only [Act.put, nrm]
    refine wpAnyS_done (by kernel_rfl) ?_ _
    simp only [onlyS]
    gi_wp2
    obtain ⟨hown5, hgrow, hat⟩ := un HA
    obtain ⟨hvl, hNs⟩ := un HNs
    obtain ⟨hN2, hlo2⟩ := un HN2
    obtain ⟨hI2, hz2, hf2⟩ := kid_end (X := X) (un HI) hzW (un HUW) hvl hNs hown5 hgrow (hat.imp id fun e => Nat.le_of_eq e.symm) hN2 hlo2 (by rw [un hX, un hY]; exact .inr rfl)
    exact ⟨trivial, ⟨hf2 _ (by omega) (by omega), hf2 _ (by omega) (by omega)⟩, trivial, ⟨by omega, _, by rw [un HTk]; exact hI2⟩⟩
  ·rw [if_pos (by kernel_rfl)]
   go_simp
   obtain ⟨V1, hV1⟩ : ∃ V1, V1 = V.alloc znObj := ⟨_, rfl⟩
   have hs1 : Below V.heap.size V V1 := by rw [hV1]; exact (Below.refl _ _).alloc (Nat.le_refl _) _
   have hK2 := (hs1.block _ (Array.getElem?_eq_some_iff.1 (un HKV)).1).trans (un HKV)
   obtain ⟨ab, hab⟩ : ∃ ab, ab = V.heap.size := ⟨_, rfl⟩
   have hblk : V1.heap[ab]? = some znObj := by rw [hV1, hab]; exact World.alloc_heap_new V znObj
   rw [<- hV1, <- hab]
   clear hV1 hab
   refine hK.out _ _ ⟨fun _ => (box1 hK2).1, trivial⟩ (fun _ => ?_)
   clear hK K
   simp only [Act.put, nrm]
   refine wpAnyS_ready (rs := [3]) (by kernel_rfl) (by simp) ?_
   refine AllReadyS.cons rfl (fun K hK => ?_) AllReadyS.nil
   rw [if_pos (by kernel_rfl)]
   go_wp2_with fail
   refine ((un HC) V1 hs1).mono ?_
   rintro e U ⟨ct, cs, ca, cn, cc, rfl, hb2, hN2⟩
   have hcz : ∀ (j : Nat) u, zn[j]? = some u -> U.cell? ((⟨ab, 0, none⟩ : Addr).add j) = some u := World.news_of_block ((hb2.block _ (Array.getElem?_eq_some_iff.1 hblk).1).trans hblk)
   have hVU : Below V.heap.size V U := hs1.trans (hb2.mono hs1.size)
   have HN2 := H_ (And.intro hN2 (Nat.le_trans hVW.size hs1.size))
   have Hcz := H_ hcz
   clear hcz hblk hN2 hb2 hs1 hK2 
   have HUW := H_ (hVW.trans (hVU.mono hVW.size))
   have hzU : W.heap.size <= U.heap.size := (un HUW).size
   have HownU := H_ (own_below hownV hVU)
   have HKU := H_ ((hVU.block _ (Array.getElem?_eq_some_iff.1 (un HKV)).1).trans (un HKV))
   have cKU := (box1 (un HKU)).1
   have hSU : w.heap.size + 6 <= U.heap.size := by omega
   go_wp2
   refine hK.out _ _ ⟨fun _ => cKU, trivial⟩ (fun _ => ?_)
   clear hK K
   simp only [Act.put, nrm]
   refine wpAnyS_ready (rs := [6]) (by kernel_rfl) (by simp) ?_
   refine AllReadyS.cons rfl (fun K hK => ?_) AllReadyS.nil
   rw [if_pos (by kernel_rfl)]
   refine wp_append_lies _ (.tmp 47) (.tmp 52) 26 rfl (w.heap.size + 6) 28 i0 (.agg #[.int .i64 0, .string ⟨#[]⟩, .slice none 0 0]) 3 48 Tryz.underlying26 hi0 hz0 hz1 hz2 rfl (by omega) (.slice sla pre.length slc) pre.length (vs.flatMap trip) rfl (un HownU) ⟨ab, 0, none⟩ 1 1 zn rfl rfl (un Hcz) (by simp [Value.oneCell']) (by omega) (by unfold maxLen; omega) (by omega) (by omega) U.heap.size rfl ?_
   intro gg cp w5 hown5 hgrow hat hglt
   obtain ⟨⟨l0, l1, l2⟩, m0, m1, m2⟩ := lastCells hown5
   obtain ⟨hgK, hK5, hg6⟩ := kid_far0 (un HoB) hSU hgrow hat (un HKU)
   have cK := (box1 hK5).1
   have fK := (box1 hK5).2
   have HA := H_ (And.intro hown5 (And.intro hgrow hat))
   clear hown5 hgrow hat
   refine hK.out _ _ ⟨fun h => absurd h (by decide), trivial⟩ (fun _ => ?_)
   clear hK K
   simp only [Act.put, nrm]
   refine wpAnyS_take1 (i := 7) (v := .pointer (some ⟨gg, pre.length * 3, none⟩)) rfl (by kernel_rfl) (by kernel_rfl) (by kernel_rfl) (by kernel_rfl) (fun _ _ _ h => h) (Or.inl ⟨by kernel_rfl, by intro w1 s1; go_simp; all_goals first | rfl | (intro h; omega)⟩) ⟨fun h => absurd h (by decide), trivial⟩ ?_
   simp only [Act.put, nrm]
   refine wpAnyS_ready (rs := [8, 9]) (by kernel_rfl) (by simp) ?_
   refine AllReadyS.cons rfl (fun K hK => ?_) (AllReadyS.cons rfl (fun K hK => ?_) AllReadyS.nil)
   ·rw [if_pos (by kernel_rfl)]
    go_simp
    obtain ⟨Y, hY⟩ : ∃ Y, Y = set3o w5 gg (pre.length * 3) (.int .i64 ct) (.string cs) (.slice ca cn cc) := ⟨_, rfl⟩
    have hbY := set3o_but w5 gg (pre.length * 3) (.int .i64 ct) (.string cs) (.slice ca cn cc)
    dsimp only [set3o] at hY hbY
    rw [<- hY] at hbY ⊢
    replace hY := H_ hY
    have hKY := (hbY.block _ (Array.getElem?_eq_some_iff.1 hK5).1 (Ne.symm hgK)).trans hK5
    have cY := (box1 hKY).1
    have fY := (box1 hKY).2
    clear l0 l1 l2 m0 m1 m2 cK fK
    refine hK.out _ _ ⟨fun h => absurd h (by decide), trivial⟩ (fun _ => ?_)
    clear hK K
    simp only [Act.put, nrm]
    refine wpAnyS_ready (rs := [9]) (by kernel_rfl) (by simp) ?_
    refine AllReadyS.cons rfl (fun K hK => ?_) AllReadyS.nil
    rw [if_pos (by kernel_rfl)]
    go_simp
    refine hK.out _ _ ⟨fun h => absurd h (by decide), trivial⟩ (fun _ => ?_)
    clear hK K
    simp only [Act.put, nrm]
    refine wpAnyS_done (by kernel_rfl) ?_ _
    simp only [onlyS]
    gi_wp2
    obtain ⟨hown5, hgrow, hat⟩ := un HA
    obtain ⟨hvl, hNs⟩ := un HNs
    obtain ⟨hN2, hlo2⟩ := un HN2
    obtain ⟨hI2, hz2, hf2⟩ := kid_end (X := Y.setCell ⟨w.heap.size + 2, 0, none⟩ (.slice (some ⟨gg, 0, none⟩) (pre.length + 1) cp)) (un HI) hzW (un HUW) hvl hNs hown5 hgrow (hat.imp id fun e => Nat.le_of_eq e.symm) hN2 hlo2 (by rw [un hY]; exact .inl rfl)
    exact ⟨trivial, ⟨hf2 _ (by omega) (by omega), hf2 _ (by omega) (by omega)⟩, trivial, ⟨by omega, _, by rw [un HTk]; exact hI2⟩⟩
   ·rw [if_pos (by kernel_rfl)]
    go_simp
    obtain ⟨Y, hY⟩ : ∃ Y, Y = w5.setCell ⟨w.heap.size + 2, 0, none⟩ (.slice (some ⟨gg, 0, none⟩) (pre.length + 1) cp) := ⟨_, rfl⟩
    have hbY := bt_set w5 (w.heap.size + 2) (.slice (some ⟨gg, 0, none⟩) (pre.length + 1) cp)
    rw [<- hY] at hbY ⊢
    replace hY := H_ hY
    have hgY := hbY.block gg hglt hgK
    have far := fun i => World.cell?_of_block (w := w5) (w' := Y) (a := ⟨gg, i, none⟩) hgY
    have farf := fun i => World.frozen?_of_block (w := w5) (w' := Y) (a := ⟨gg, i, none⟩) hgY
    rw [<- far] at l0 l1 l2
    rw [<- farf] at m0 m1 m2
    clear far farf cK fK
    refine hK.out _ _ ⟨fun h => absurd h (by decide), trivial⟩ (fun _ => ?_)
    clear hK K
    simp only [Act.put, nrm]
    refine wpAnyS_ready (rs := [8]) (by kernel_rfl) (by simp) ?_
    refine AllReadyS.cons rfl (fun K hK => ?_) AllReadyS.nil
    rw [if_pos (by kernel_rfl)]
    go_simp
    obtain ⟨X, hX⟩ : ∃ X, X = set3o Y gg (pre.length * 3) (.int .i64 ct) (.string cs) (.slice ca cn cc) := ⟨_, rfl⟩
    have hbX := set3o_but Y gg (pre.length * 3) (.int .i64 ct) (.string cs) (.slice ca cn cc)
    dsimp only [set3o] at hX hbX
    rw [<- hX] at hbX ⊢
    replace hX := H_ hX
    clear l0 l1 l2 m0 m1 m2
    refine hK.out _ _ ⟨fun h => absurd h (by decide), trivial⟩ (fun _ => ?_)
    clear hK K
    simp only [Act.put, nrm]
    refine wpAnyS_done (by kernel_rfl) ?_ _
    simp only [onlyS]
    gi_wp2
    obtain ⟨hown5, hgrow, hat⟩ := un HA
    obtain ⟨hvl, hNs⟩ := un HNs
    obtain ⟨hN2, hlo2⟩ := un HN2
    obtain ⟨hI2, hz2, hf2⟩ := kid_end (X := X) (un HI) hzW (un HUW) hvl hNs hown5 hgrow (hat.imp id fun e => Nat.le_of_eq e.symm) hN2 hlo2 (by rw [un hX, un hY]; exact .inr rfl)
    exact ⟨trivial, ⟨hf2 _ (by omega) (by omega), hf2 _ (by omega) (by omega)⟩, trivial, ⟨by omega, _, by rw [un HTk]; exact hI2⟩⟩
 case done =>
  rintro j W rfl ⟨_, sl, hI⟩ hK
  rw [hz] at hK
  rw [List.take_of_length_le (by rw [List.length_map]; exact Nat.le_refl _)] at hI
  have hpl : (ps.map fun q => (lf q.1 q.2 : Tv.Tr (n + 1))).length <= 1002 := by rw [List.length_map]; exact un HPL
  have hTR := un HTR
  generalize (ps.map fun q => (lf q.1 q.2 : Tv.Tr (n + 1))) = pre at *
  obtain ⟨sla, slc, rfl⟩ := hI.gr.form
  have cK := (box1 hI.k).1
  obtain ⟨_, m1, _⟩ := box7 hI.m
  dsimp only at m1
  have hNd := hI.gr.node 48 ⟨#[]⟩ (Nat.zero_le _) (Nat.le_trans hpl (by decide))
  have HH := H_ (And.intro hI (And.intro hK (And.intro hNd hTR)))
  clear hI hK hNd hI0 hTR HTR
  go_wp2_with fail
  refine wp_region_sw (fun _ => True) (fun w' => w'.cell? ⟨w.heap.size, 1, none⟩ = some (.string a) /\ w'.cell? ⟨w.heap.size + 2, 0, none⟩ = some (.slice sla pre.length slc)) 9 (by kernel_rfl) ?_
  have hS0 : W.drew.cell? ⟨w.heap.size, 1, none⟩ = some (.string a) /\ W.drew.cell? ⟨w.heap.size + 2, 0, none⟩ = some (.slice sla pre.length slc) := ⟨m1, cK⟩
  have hWV : Below W.heap.size W W.drew := ⟨rfl, rfl, rfl, Nat.le_refl _, fun _ _ => rfl⟩
  have HWV := H_ hWV
  clear m1 cK hWV
  generalize W.drew = V at *
  change wpAnyS _ _ _ _ _ _ _ 10 #[false, false, false, false, false, false, false, false, false, false] _ V
  refine wpAnyS_take1 (i := 0) (v := .int .i64 (tg 4)) rfl (by kernel_rfl) (by kernel_rfl) (by kernel_rfl) (by kernel_rfl) (fun _ _ _ h => h) (Or.inl ⟨by kernel_rfl, by rintro w1 ⟨s0, s1⟩; go_simp; all_goals first | rfl | omega⟩) ⟨fun _ => trivial, hS0⟩ ?_
  simp only [Act.put, nrm]
  refine wpAnyS_take1 (i := 1) (v := .pointer (some ⟨w.heap.size, 0, none⟩)) rfl (by kernel_rfl) (by kernel_rfl) (by kernel_rfl) (by kernel_rfl) (fun _ _ _ h => h) (Or.inl ⟨by kernel_rfl, by rintro w1 ⟨s0, s1⟩; go_simp; all_goals first | rfl | omega⟩) ⟨fun _ => trivial, hS0⟩ ?_
  simp only [Act.put, nrm]
  refine wpAnyS_take1 (i := 2) (v := .pointer (some ⟨w.heap.size, 1, none⟩)) rfl (by kernel_rfl) (by kernel_rfl) (by kernel_rfl) (by kernel_rfl) (fun _ _ _ h => h) (Or.inl ⟨by kernel_rfl, by rintro w1 ⟨s0, s1⟩; go_simp; all_goals first | rfl | omega⟩) ⟨fun _ => trivial, hS0⟩ ?_
  simp only [Act.put, nrm]
  refine wpAnyS_take1 (i := 3) (v := .string a) rfl (by kernel_rfl) (by kernel_rfl) (by kernel_rfl) (by kernel_rfl) (fun _ _ _ h => h) (Or.inl ⟨by kernel_rfl, by rintro w1 ⟨s0, s1⟩; go_simp; all_goals first | rfl | omega⟩) ⟨fun _ => trivial, hS0⟩ ?_
  simp only [Act.put, nrm]
  refine wpAnyS_take1 (i := 5) (v := .slice sla pre.length slc) rfl (by kernel_rfl) (by kernel_rfl) (by kernel_rfl) (by kernel_rfl) (fun _ _ _ h => h) (Or.inl ⟨by kernel_rfl, by rintro w1 ⟨s0, s1⟩; go_simp; all_goals first | rfl | omega⟩) ⟨fun _ => trivial, hS0⟩ ?_
  simp only [Act.put, nrm]
  refine wpAnyS_ready (rs := [4]) (by kernel_rfl) (by simp) ?_
  refine AllReadyS.cons rfl (fun K hK => ?_) AllReadyS.nil
  rw [if_pos (by kernel_rfl)]
  go_wp2_with fail
  refine (leaf_any 4 a V (by have := un HNZ; omega)).mono ?_
  rintro e V1 ⟨rfl, hb⟩
  have hS1 : V1.cell? ⟨w.heap.size, 1, none⟩ = some (.string a) /\ V1.cell? ⟨w.heap.size + 2, 0, none⟩ = some (.slice sla pre.length slc) := ⟨(hb.cell (D.lt_cell hS0.1)).trans hS0.1, (hb.cell (D.lt_cell hS0.2)).trans hS0.2⟩
  have HB1 := H_ ((un HWV).trans (hb.mono (un HWV).size))
  clear hb hS0
  go_wp2
  refine hK.out _ _ ⟨fun _ => trivial, hS1⟩ (fun _ => ?_)
  clear hK K
  simp only [Act.put, nrm]
  refine wpAnyS_ready (rs := [6]) (by kernel_rfl) (by simp) ?_
  refine AllReadyS.cons rfl (fun K hK => ?_) AllReadyS.nil
  rw [if_pos (by kernel_rfl)]
  go_wp2_with fail
  refine (inner_any 48 sla pre.length slc V1).mono ?_
  rintro e V2 ⟨rfl, hb⟩
  have hS2 : V2.cell? ⟨w.heap.size, 1, none⟩ = some (.string a) /\ V2.cell? ⟨w.heap.size + 2, 0, none⟩ = some (.slice sla pre.length slc) := ⟨(hb.cell (D.lt_cell hS1.1)).trans hS1.1, (hb.cell (D.lt_cell hS1.2)).trans hS1.2⟩
  have HB2 := H_ ((un HB1).trans (hb.mono (un HB1).size))
  clear hb hS1 HB1
  go_wp2
  refine hK.out _ _ ⟨fun _ => trivial, hS2⟩ (fun _ => ?_)
  clear hK K
  simp only [Act.put, nrm]
  refine wpAnyS_ready (rs := [7]) (by kernel_rfl) (by simp) ?_
  refine AllReadyS.cons rfl (fun K hK => ?_) AllReadyS.nil
  rw [if_pos (by kernel_rfl)]
  go_simp
  obtain ⟨V3, hV3⟩ : ∃ V3, V3 = V2.alloc (.cells #[.int .i64 4, .string a, .slice none 0 0, .int .i64 48, .string ⟨#[]⟩, .slice sla pre.length slc] 28) := ⟨_, rfl⟩
  obtain ⟨ab, hab⟩ : ∃ ab, ab = V2.heap.size := ⟨_, rfl⟩
  have hY3 : V3.heap[ab]? = some (.cells #[.int .i64 4, .string a, .slice none 0 0, .int .i64 48, .string ⟨#[]⟩, .slice sla pre.length slc] 28 (0, 0)) := by rw [hV3, hab]; exact World.alloc_heap_new _ _
  have hb3 : Below V2.heap.size V2 V3 := by rw [hV3]; exact (Below.refl _ _).alloc (Nat.le_refl _) _
  have hS3 : V3.cell? ⟨w.heap.size, 1, none⟩ = some (.string a) /\ V3.cell? ⟨w.heap.size + 2, 0, none⟩ = some (.slice sla pre.length slc) := ⟨(hb3.cell (D.lt_cell hS2.1)).trans hS2.1, (hb3.cell (D.lt_cell hS2.2)).trans hS2.2⟩
  have HB3 := H_ (And.intro ((un HB2).trans (hb3.mono (un HB2).size)) (And.intro hY3 (show W.heap.size <= ab by rw [hab]; exact (un HB2).size)))
  rw [<- hV3, <- hab]
  clear hV3 hab hY3 hb3 hS2 HB2
  refine hK.out _ _ ⟨fun _ => trivial, hS3⟩ (fun _ => ?_)
  clear hK K
  simp only [Act.put, nrm]
  refine wpAnyS_ready (rs := [8]) (by kernel_rfl) (by simp) ?_
  refine AllReadyS.cons rfl (fun K hK => ?_) AllReadyS.nil
  rw [if_pos (by kernel_rfl)]
  go_wp2_with fail
  refine (inner_any (tg 4) (some ⟨ab, 0, none⟩) 2 2 V3).mono ?_
  rintro e w2 ⟨rfl, hb⟩
  have hS4 : w2.cell? ⟨w.heap.size, 1, none⟩ = some (.string a) /\ w2.cell? ⟨w.heap.size + 2, 0, none⟩ = some (.slice sla pre.length slc) := ⟨(hb.cell (D.lt_cell hS3.1)).trans hS3.1, (hb.cell (D.lt_cell hS3.2)).trans hS3.2⟩
  have hb2 := (un HB3).1.trans (hb.mono (un HB3).1.size)
  have ht2 := (hb2.block _ (Array.getElem?_eq_some_iff.1 (un HH).1.t).1).trans (un HH).1.t
  obtain ⟨⟨e0, e1, e2⟩, r0, r1, r2⟩ := cells3 ht2
  have HB2 := H_ (And.intro hb2 (And.intro ht2 (And.intro ((hb.block _ (Array.getElem?_eq_some_iff.1 (un HB3).2.1).1).trans (un HB3).2.1) (un HB3).2.2)))
  clear hb hb2 ht2 hS3 HB3
  go_wp2
  refine hK.out _ _ ⟨fun _ => trivial, hS4⟩ (fun _ => ?_)
  clear hK K
  simp only [Act.put, nrm]
  refine wpAnyS_ready (rs := [9]) (by kernel_rfl) (by simp) ?_
  refine AllReadyS.cons rfl (fun K hK => ?_) AllReadyS.nil
  rw [if_pos (by kernel_rfl)]
  go_simp
  have hS5 : ∀ x y z, (((w2.setCell ⟨w.heap.size + 1, 0, none⟩ x).setCell ⟨w.heap.size + 1, 1, none⟩ y).setCell ⟨w.heap.size + 1, 2, none⟩ z).cell? ⟨w.heap.size, 1, none⟩ = some (.string a) /\ (((w2.setCell ⟨w.heap.size + 1, 0, none⟩ x).setCell ⟨w.heap.size + 1, 1, none⟩ y).setCell ⟨w.heap.size + 1, 2, none⟩ z).cell? ⟨w.heap.size + 2, 0, none⟩ = some (.slice sla pre.length slc) := fun x y z =>
   ⟨(World.cell?_of_block (a := ⟨w.heap.size, 1, none⟩) (set3_far w2 _ x y z _ (by show w.heap.size ≠ w.heap.size + 1; omega))).trans hS4.1, (World.cell?_of_block (a := ⟨w.heap.size + 2, 0, none⟩) (set3_far w2 _ x y z _ (by show w.heap.size + 2 ≠ w.heap.size + 1; omega))).trans hS4.2⟩
  refine hK.out _ _ ⟨fun _ => trivial, hS5 _ _ _⟩ (fun _ => ?_)
  clear hK K
  simp only [Act.put, nrm]
  refine wpAnyS_done (by kernel_rfl) ?_ _
  simp only [onlyS]
  go_wp2
  obtain ⟨hI, hK, hNd, hTR⟩ := un HH
  obtain ⟨hb2, ht2, hYb, hWA⟩ := un HB2
  have hlt := hI.lt
  have hlK := (Array.getElem?_eq_some_iff.1 hK).1
  have hz2 := hb2.size
  have hzW := hWA
  have g0 := set3_blk (x' := .int .i64 (tg 4)) (y' := .string ⟨#[]⟩) (z' := .slice (some ⟨ab, 0, none⟩) 2 2) ht2
  have far := fun i (hi : i ≠ w.heap.size + 1) => set3_far w2 (w.heap.size + 1) (.int .i64 (tg 4)) (.string ⟨#[]⟩) (.slice (some ⟨ab, 0, none⟩) 2 2) i hi
  have hbX := set3n (b := w.heap.size + 1) (hI.bel.trans (hb2.mono hI.bel.size)) (by omega) (.int .i64 (tg 4)) (.string ⟨#[]⟩) (.slice (some ⟨ab, 0, none⟩) 2 2)
  refine finT (b := w.heap.size + 1) (D := w.heap.size + 4) ((far _ (by omega)).trans ((hb2.block _ hlK).trans hK)) (by omega) g0 rfl ?_
  refine ⟨_, _, _, _, _, rfl, below_putNew hbX (by omega) _, ?_⟩
  rw [hTR]
  refine node_two ((World.putObj_heap_other (by omega)).trans ((far _ (by omega)).trans hYb)) (by omega) (node_leaf _ _ 4 a (by have := un HNZ; omega)) ?_
  exact (hNd.of fun b h1 h2 => (World.putObj_heap_other (by omega)).trans ((far b (by omega)).trans (hb2.block b h2))).imp fun b h1 _ => by omega
end Go.Proofs.YtmenllnokgjdlaaGreatDoor.G
/-
 What the tree of fber's maker is at a filter of a name, at one of a value, and at every right filter. Conditions: none.
-/
namespace Go.Proofs.YtmenllnokgjdlaaGreatDoor.G
open Go Go.RowKit Go.Shelf Gp
open D (H_ un)
open F (At FNode fit_item)
open Fp (Fl kd nm va an fi ls isSet fitF)
attribute [local go_sem] Oper.semAt_some
theorem tree_pres (n : Nat) (kk : Nat) (F : Fl (n + 1)) (w : World) (p : Nat -> Prop) (d : FD) (B : Nat) (hr : Fp.right (n + 1) kk F = true) (hN : FNode (n + 1) w p d F) (hB : TagsAt w B) (hs : kd F = 7) :
  Calls Tryz.prog 53 #[mval d B] w fun e w' => ∃ ct cs ca cn cc, e = .returned (.agg #[.int .i64 ct, .string cs, .slice ca cn cc]) /\ Below w.heap.size w w' /\ Node (n + 3) w' (fun b => w.heap.size <= b) (.agg #[.int .i64 ct, .string cs, .slice ca cn cc]) (tree (n + 1) F) := by
 rw [Fp.right] at hr
 simp only [Bool.and_eq_true, decide_eq_true_eq, List.all_eq_true] at hr
 obtain ⟨⟨hd0, hf⟩, _⟩ := hr
 have hkk := fit_kind hf
 have hss : isSet (kd F) = false := by rw [hs]; rfl
 obtain ⟨hnz, hvz, _⟩ := fit_item hf hss
 have hkd : d.k = kd F := hN.is.k
 have hnm : d.a = nm F := hN.is.a
 have hva : d.v = va F := hN.is.v
 have hht : hasTag d.k = true := (hasTag_iff _).2 (by omega)
 rw [<- hkd] at hs
 rw [<- hnm] at hnz
 rw [<- hva] at hvz
 have htr : tree (n + 1) F = lf 135 d.a := by rw [tree, if_pos (hkd ▸ hs), hnm]
 obtain ⟨k, a, v, sa, sn, sc, f, la, ln, lc⟩ := d
 dsimp only at hs htr hht hnz hvz
 have FACTS : ∀ W1, W1 = (w.alloc (mobj ⟨k, a, v, sa, sn, sc, f, la, ln, lc⟩ B)).alloc znObj ->
   (Instr.lookup 77 (.map (some B)) (.int .i64 k) false).run Tryz.prog W1 = .ok (.int .i64 (tg k)) W1 /\
   (W1.cell? ⟨w.heap.size, 0, none⟩ = some (.int .i64 k) /\ W1.cell? ⟨w.heap.size, 6, none⟩ = some (.map (some B))) /\
   (∀ o, (W1.alloc o).cell? ⟨w.heap.size, 0, none⟩ = some (.int .i64 k) /\ (W1.alloc o).cell? ⟨w.heap.size, 1, none⟩ = some (.string a) /\ (W1.alloc o).cell? ⟨w.heap.size, 2, none⟩ = some (.string v) /\ (W1.alloc o).heap[w.heap.size + 1]? = some (.cells #[.int .i64 0, .string ⟨#[]⟩, .slice none 0 0] 28 (0, 0)) /\ Below w.heap.size w (W1.alloc o)) := by
  intro W1 hW1
  have hb1 : Below w.heap.size w W1 := by rw [hW1]; exact ((Below.refl _ _).alloc (Nat.le_refl _) _).alloc (by simp) _
  have hm1 : W1.heap[w.heap.size]? = some (.cells (mcs ⟨k, a, v, sa, sn, sc, f, la, ln, lc⟩ B) 80 (0, 0)) := by
   rw [hW1, Below.heap_alloc _ _ _ (by simp)]; exact World.alloc_heap_new w _
  have ht1 : W1.heap[w.heap.size + 1]? = some (.cells #[.int .i64 0, .string ⟨#[]⟩, .slice none 0 0] 28 (0, 0)) := by
   rw [hW1]
   have := World.alloc_heap_new (w.alloc (mobj ⟨k, a, v, sa, sn, sc, f, la, ln, lc⟩ B)) znObj
   rwa [World.size_alloc] at this
  have hz1 : W1.heap.size = w.heap.size + 2 := by rw [hW1]; simp
  obtain ⟨x0, _, _, _, _, _, x6⟩ := box7 hm1
  refine ⟨(hB.below hb1).look k hht, ⟨x0, x6⟩, fun o => ?_⟩
  obtain ⟨z0, z1, z2, _⟩ := box7 ((Below.heap_alloc W1 o w.heap.size (by omega)).trans hm1)
  exact ⟨z0, z1, z2, (Below.heap_alloc W1 o _ (by omega)).trans ht1, hb1.alloc hb1.size _⟩
 obtain ⟨hlk, ⟨x0, x6⟩, hy⟩ := FACTS _ rfl
 obtain ⟨W, hW⟩ : ∃ W, W = ((w.alloc (mobj ⟨k, a, v, sa, sn, sc, f, la, ln, lc⟩ B)).alloc znObj).alloc (.cells #[.slice none 0 0] 26) := ⟨_, rfl⟩
 obtain ⟨y0, y1, y2, y3, hbW⟩ := hy (.cells #[.slice none 0 0] 26)
 subst hs
 dsimp only [mobj, mcs, znObj] at hlk x0 x6 y0 y1 y3
 have HT := H_ (And.intro y3 hbW)
 have HNZ := H_ hnz
 have HTR := H_ htr
 clear hN hB FACTS hy hW y2 y3 hbW hnz hvz htr hht hkd hnm hva hss hkk hf hd0
 go_enter Tryz.func53, Tryz.ntmps53
 go_wp2_with fail
 refine (leaf_any _ a _ (by have := un HNZ; omega)).mono ?_
 rintro e w2 ⟨rfl, hb⟩
 have ht2 := (hb.block _ (Array.getElem?_eq_some_iff.1 (un HT).1).1).trans (un HT).1
 obtain ⟨⟨e0, e1, e2⟩, r0, r1, r2⟩ := cells3 ht2
 have HB2 := H_ (And.intro ((un HT).2.trans (hb.mono (un HT).2.size)) ht2)
 clear hb ht2 HT hlk x0 x6 y0 y1
 go_wp2
 obtain ⟨hb2, ht2⟩ := un HB2
 have g0 := set3_blk (x' := .int .i64 135) (y' := .string a) (z' := .slice none 0 0) ht2
 have hbX := set3n (b := w.heap.size + 1) hb2 (by omega) (.int .i64 135) (.string a) (.slice none 0 0)
 have hTR := un HTR
 change bodyPost _ _ _ _ _ (((w2.setCell ⟨w.heap.size + 1, 0, none⟩ (.int .i64 135)).setCell ⟨w.heap.size + 1, 1, none⟩ (.string a)).setCell ⟨w.heap.size + 1, 2, none⟩ (.slice none 0 0))
 generalize ((w2.setCell ⟨w.heap.size + 1, 0, none⟩ (.int .i64 135)).setCell ⟨w.heap.size + 1, 1, none⟩ (.string a)).setCell ⟨w.heap.size + 1, 2, none⟩ (.slice none 0 0) = X at *
 obtain ⟨⟨z0, z1, z2⟩, _⟩ := cells3 g0
 refine bodyPost_ret (v := .agg #[.int .i64 135, .string a, .slice none 0 0]) (by simp [results, Tryz.results53, go_sem, z0, z1, z2]) rfl ?_
 refine ⟨_, _, _, _, _, rfl, hbX, ?_⟩
 rw [hTR]
 exact node_leaf _ _ 135 a (by have := un HNZ; omega)
theorem tree_item (n : Nat) (kk : Nat) (F : Fl (n + 1)) (w : World) (p : Nat -> Prop) (d : FD) (B : Nat) (hr : Fp.right (n + 1) kk F = true) (hN : FNode (n + 1) w p d F) (hB : TagsAt w B) (hs : kd F ≠ 7) (hs4 : kd F ≠ 4) (hset : isSet (kd F) = false) :
  Calls Tryz.prog 53 #[mval d B] w fun e w' => ∃ ct cs ca cn cc, e = .returned (.agg #[.int .i64 ct, .string cs, .slice ca cn cc]) /\ Below w.heap.size w w' /\ Node (n + 3) w' (fun b => w.heap.size <= b) (.agg #[.int .i64 ct, .string cs, .slice ca cn cc]) (tree (n + 1) F) := by
 rw [Fp.right] at hr
 simp only [Bool.and_eq_true, decide_eq_true_eq, List.all_eq_true] at hr
 obtain ⟨⟨hd0, hf⟩, _⟩ := hr
 have hkk := fit_kind hf
 have hss : isSet (kd F) = false := hset
 obtain ⟨hnz, hvz, _⟩ := fit_item hf hss
 have hkd : d.k = kd F := hN.is.k
 have hnm : d.a = nm F := hN.is.a
 have hva : d.v = va F := hN.is.v
 have hht : hasTag d.k = true := (hasTag_iff _).2 (by omega)
 rw [<- hkd] at hs hs4
 rw [<- hnm] at hnz
 rw [<- hva] at hvz
 have hk3 : d.k ≠ 0 /\ d.k ≠ 1 /\ d.k ≠ 2 := by
  rw [hkd]
  refine ⟨fun e => ?_, fun e => ?_, fun e => ?_⟩ <;> rw [e] at hset <;> cases hset
 have htr : tree (n + 1) F = Tv.mk (tg d.k) ⟨#[]⟩ [lf 4 d.a, lf 4 d.v] := by rw [tree, if_neg (hkd ▸ hs), hset, if_neg (by simp), if_neg (hkd ▸ hs4), hkd, hnm, hva]
 obtain ⟨k, a, v, sa, sn, sc, f, la, ln, lc⟩ := d
 dsimp only at hs hs4 hk3 htr hht hnz hvz
 have FACTS : ∀ W1, W1 = (w.alloc (mobj ⟨k, a, v, sa, sn, sc, f, la, ln, lc⟩ B)).alloc znObj ->
   (Instr.lookup 77 (.map (some B)) (.int .i64 k) false).run Tryz.prog W1 = .ok (.int .i64 (tg k)) W1 /\
   (W1.cell? ⟨w.heap.size, 0, none⟩ = some (.int .i64 k) /\ W1.cell? ⟨w.heap.size, 6, none⟩ = some (.map (some B))) /\
   (∀ o, (W1.alloc o).cell? ⟨w.heap.size, 0, none⟩ = some (.int .i64 k) /\ (W1.alloc o).cell? ⟨w.heap.size, 1, none⟩ = some (.string a) /\ (W1.alloc o).cell? ⟨w.heap.size, 2, none⟩ = some (.string v) /\ (W1.alloc o).heap[w.heap.size + 1]? = some (.cells #[.int .i64 0, .string ⟨#[]⟩, .slice none 0 0] 28 (0, 0)) /\ Below w.heap.size w (W1.alloc o)) := by
  intro W1 hW1
  have hb1 : Below w.heap.size w W1 := by rw [hW1]; exact ((Below.refl _ _).alloc (Nat.le_refl _) _).alloc (by simp) _
  have hm1 : W1.heap[w.heap.size]? = some (.cells (mcs ⟨k, a, v, sa, sn, sc, f, la, ln, lc⟩ B) 80 (0, 0)) := by
   rw [hW1, Below.heap_alloc _ _ _ (by simp)]; exact World.alloc_heap_new w _
  have ht1 : W1.heap[w.heap.size + 1]? = some (.cells #[.int .i64 0, .string ⟨#[]⟩, .slice none 0 0] 28 (0, 0)) := by
   rw [hW1]
   have := World.alloc_heap_new (w.alloc (mobj ⟨k, a, v, sa, sn, sc, f, la, ln, lc⟩ B)) znObj
   rwa [World.size_alloc] at this
  have hz1 : W1.heap.size = w.heap.size + 2 := by rw [hW1]; simp
  obtain ⟨x0, _, _, _, _, _, x6⟩ := box7 hm1
  refine ⟨(hB.below hb1).look k hht, ⟨x0, x6⟩, fun o => ?_⟩
  obtain ⟨z0, z1, z2, _⟩ := box7 ((Below.heap_alloc W1 o w.heap.size (by omega)).trans hm1)
  exact ⟨z0, z1, z2, (Below.heap_alloc W1 o _ (by omega)).trans ht1, hb1.alloc hb1.size _⟩
 obtain ⟨hlk, ⟨x0, x6⟩, hy⟩ := FACTS _ rfl
 obtain ⟨W, hW⟩ : ∃ W, W = ((w.alloc (mobj ⟨k, a, v, sa, sn, sc, f, la, ln, lc⟩ B)).alloc znObj).alloc (.cells #[.slice none 0 0] 26) := ⟨_, rfl⟩
 obtain ⟨y0, y1, y2, y3, hbW⟩ := hy (.cells #[.slice none 0 0] 26)
 dsimp only [mobj, mcs, znObj] at hlk x0 x6 y0
 rw [<- hW] at y1 y2 y3 hbW
 have HT := H_ y3
 have HBW := H_ hbW
 have HNZ := H_ (And.intro hnz hvz)
 have HTR := H_ htr
 have b7 : (k == 7) = false := by simpa using hs
 have b4 : (k == 4) = false := by simpa using hs4
 have b0 : (k == 0) = false := by simpa using hk3.1
 have b1 : (k == 1) = false := by simpa using hk3.2.1
 have b2 : (k == 2) = false := by simpa using hk3.2.2
 have HWe := H_ hW
 clear hN hB FACTS hy hW y3 hbW hnz hvz htr hht hkd hnm hva hss hkk hf hd0 hs hs4 hk3 hset
 go_enter Tryz.func53, Tryz.ntmps53
 go_wp2_with fail
 rw [<- un HWe]
 clear hlk x0 x6 y0 HWe
 refine wp_region_sw (fun _ => True) (fun w' => w'.cell? ⟨w.heap.size, 1, none⟩ = some (.string a) /\ w'.cell? ⟨w.heap.size, 2, none⟩ = some (.string v)) 11 (by kernel_rfl) ?_
 have hS0 : W.drew.cell? ⟨w.heap.size, 1, none⟩ = some (.string a) /\ W.drew.cell? ⟨w.heap.size, 2, none⟩ = some (.string v) := ⟨y1, y2⟩
 have hWV : Below W.heap.size W W.drew := ⟨rfl, rfl, rfl, Nat.le_refl _, fun _ _ => rfl⟩
 have HWV := H_ hWV
 clear hWV y1 y2
 generalize W.drew = V at *
 change wpAnyS _ _ _ _ _ _ _ 12 #[false, false, false, false, false, false, false, false, false, false, false, false] _ V
 refine wpAnyS_take1 (i := 0) (v := .int .i64 (tg k)) rfl (by kernel_rfl) (by kernel_rfl) (by kernel_rfl) (by kernel_rfl) (fun _ _ _ h => h) (Or.inl ⟨by kernel_rfl, by rintro w1 ⟨s0, s1⟩; go_simp; all_goals first | rfl | omega⟩) ⟨fun _ => trivial, hS0⟩ ?_
 simp only [Act.put, nrm]
 refine wpAnyS_take1 (i := 1) (v := .pointer (some ⟨w.heap.size, 0, none⟩)) rfl (by kernel_rfl) (by kernel_rfl) (by kernel_rfl) (by kernel_rfl) (fun _ _ _ h => h) (Or.inl ⟨by kernel_rfl, by rintro w1 ⟨s0, s1⟩; go_simp; all_goals first | rfl | omega⟩) ⟨fun _ => trivial, hS0⟩ ?_
 simp only [Act.put, nrm]
 refine wpAnyS_take1 (i := 2) (v := .pointer (some ⟨w.heap.size, 1, none⟩)) rfl (by kernel_rfl) (by kernel_rfl) (by kernel_rfl) (by kernel_rfl) (fun _ _ _ h => h) (Or.inl ⟨by kernel_rfl, by rintro w1 ⟨s0, s1⟩; go_simp; all_goals first | rfl | omega⟩) ⟨fun _ => trivial, hS0⟩ ?_
 simp only [Act.put, nrm]
 refine wpAnyS_take1 (i := 3) (v := .string a) rfl (by kernel_rfl) (by kernel_rfl) (by kernel_rfl) (by kernel_rfl) (fun _ _ _ h => h) (Or.inl ⟨by kernel_rfl, by rintro w1 ⟨s0, s1⟩; go_simp; all_goals first | rfl | omega⟩) ⟨fun _ => trivial, hS0⟩ ?_
 simp only [Act.put, nrm]
 refine wpAnyS_take1 (i := 5) (v := .pointer (some ⟨w.heap.size, 0, none⟩)) rfl (by kernel_rfl) (by kernel_rfl) (by kernel_rfl) (by kernel_rfl) (fun _ _ _ h => h) (Or.inl ⟨by kernel_rfl, by rintro w1 ⟨s0, s1⟩; go_simp; all_goals first | rfl | omega⟩) ⟨fun _ => trivial, hS0⟩ ?_
 simp only [Act.put, nrm]
 refine wpAnyS_take1 (i := 6) (v := .pointer (some ⟨w.heap.size, 2, none⟩)) rfl (by kernel_rfl) (by kernel_rfl) (by kernel_rfl) (by kernel_rfl) (fun _ _ _ h => h) (Or.inl ⟨by kernel_rfl, by rintro w1 ⟨s0, s1⟩; go_simp; all_goals first | rfl | omega⟩) ⟨fun _ => trivial, hS0⟩ ?_
 simp only [Act.put, nrm]
 refine wpAnyS_take1 (i := 7) (v := .string v) rfl (by kernel_rfl) (by kernel_rfl) (by kernel_rfl) (by kernel_rfl) (fun _ _ _ h => h) (Or.inl ⟨by kernel_rfl, by rintro w1 ⟨s0, s1⟩; go_simp; all_goals first | rfl | omega⟩) ⟨fun _ => trivial, hS0⟩ ?_
 simp only [Act.put, nrm]
 refine wpAnyS_ready (rs := [4]) (by kernel_rfl) (by simp) ?_
 refine AllReadyS.cons rfl (fun K hK => ?_) AllReadyS.nil
 rw [if_pos (by kernel_rfl)]
 go_wp2_with fail
 refine (leaf_any 4 a V (by have := un HNZ; omega)).mono ?_
 rintro e V1 ⟨rfl, hb⟩
 have hS1 : V1.cell? ⟨w.heap.size, 1, none⟩ = some (.string a) /\ V1.cell? ⟨w.heap.size, 2, none⟩ = some (.string v) := ⟨(hb.cell (D.lt_cell hS0.1)).trans hS0.1, (hb.cell (D.lt_cell hS0.2)).trans hS0.2⟩
 have HB1 := H_ ((un HWV).trans (hb.mono (un HWV).size))
 clear hb hS0 HWV
 go_wp2
 refine hK.out _ _ ⟨fun _ => trivial, hS1⟩ (fun _ => ?_)
 clear hK K
 simp only [Act.put, nrm]
 refine wpAnyS_ready (rs := [8]) (by kernel_rfl) (by simp) ?_
 refine AllReadyS.cons rfl (fun K hK => ?_) AllReadyS.nil
 rw [if_pos (by kernel_rfl)]
 go_wp2_with fail
 refine (leaf_any 4 v V1 (by have := un HNZ; omega)).mono ?_
 rintro e V2 ⟨rfl, hb⟩
 have hS2 : V2.cell? ⟨w.heap.size, 1, none⟩ = some (.string a) /\ V2.cell? ⟨w.heap.size, 2, none⟩ = some (.string v) := ⟨(hb.cell (D.lt_cell hS1.1)).trans hS1.1, (hb.cell (D.lt_cell hS1.2)).trans hS1.2⟩
 have HB2 := H_ ((un HB1).trans (hb.mono (un HB1).size))
 clear hb hS1 HB1
 go_wp2
 refine hK.out _ _ ⟨fun _ => trivial, hS2⟩ (fun _ => ?_)
 clear hK K
 simp only [Act.put, nrm]
 refine wpAnyS_ready (rs := [9]) (by kernel_rfl) (by simp) ?_
 refine AllReadyS.cons rfl (fun K hK => ?_) AllReadyS.nil
 rw [if_pos (by kernel_rfl)]
 go_simp
 obtain ⟨V3, hV3⟩ : ∃ V3, V3 = V2.alloc (.cells #[.int .i64 4, .string a, .slice none 0 0, .int .i64 4, .string v, .slice none 0 0] 28) := ⟨_, rfl⟩
 obtain ⟨ab, hab⟩ : ∃ ab, ab = V2.heap.size := ⟨_, rfl⟩
 have hY3 : V3.heap[ab]? = some (.cells #[.int .i64 4, .string a, .slice none 0 0, .int .i64 4, .string v, .slice none 0 0] 28 (0, 0)) := by rw [hV3, hab]; exact World.alloc_heap_new _ _
 have hb3 : Below V2.heap.size V2 V3 := by rw [hV3]; exact (Below.refl _ _).alloc (Nat.le_refl _) _
 have hS3 : V3.cell? ⟨w.heap.size, 1, none⟩ = some (.string a) /\ V3.cell? ⟨w.heap.size, 2, none⟩ = some (.string v) := ⟨(hb3.cell (D.lt_cell hS2.1)).trans hS2.1, (hb3.cell (D.lt_cell hS2.2)).trans hS2.2⟩
 have HB3 := H_ (And.intro ((un HB2).trans (hb3.mono (un HB2).size)) (And.intro hY3 (show W.heap.size <= ab by rw [hab]; exact (un HB2).size)))
 rw [<- hV3, <- hab]
 clear hV3 hab hY3 hb3 hS2 HB2
 refine hK.out _ _ ⟨fun _ => trivial, hS3⟩ (fun _ => ?_)
 clear hK K
 simp only [Act.put, nrm]
 refine wpAnyS_ready (rs := [10]) (by kernel_rfl) (by simp) ?_
 refine AllReadyS.cons rfl (fun K hK => ?_) AllReadyS.nil
 rw [if_pos (by kernel_rfl)]
 go_wp2_with fail
 refine (inner_any (tg k) (some ⟨ab, 0, none⟩) 2 2 V3).mono ?_
 rintro e w2 ⟨rfl, hb⟩
 have hS4 : w2.cell? ⟨w.heap.size, 1, none⟩ = some (.string a) /\ w2.cell? ⟨w.heap.size, 2, none⟩ = some (.string v) := ⟨(hb.cell (D.lt_cell hS3.1)).trans hS3.1, (hb.cell (D.lt_cell hS3.2)).trans hS3.2⟩
 have hb2 := (un HB3).1.trans (hb.mono (un HB3).1.size)
 have ht2 := (hb2.block _ (Array.getElem?_eq_some_iff.1 (un HT)).1).trans (un HT)
 obtain ⟨⟨e0, e1, e2⟩, r0, r1, r2⟩ := cells3 ht2
 have HB2 := H_ (And.intro hb2 (And.intro ht2 (And.intro ((hb.block _ (Array.getElem?_eq_some_iff.1 (un HB3).2.1).1).trans (un HB3).2.1) (un HB3).2.2)))
 clear hb hb2 ht2 hS3 HB3
 go_wp2
 refine hK.out _ _ ⟨fun _ => trivial, hS4⟩ (fun _ => ?_)
 clear hK K
 simp only [Act.put, nrm]
 refine wpAnyS_ready (rs := [11]) (by kernel_rfl) (by simp) ?_
 refine AllReadyS.cons rfl (fun K hK => ?_) AllReadyS.nil
 rw [if_pos (by kernel_rfl)]
 go_simp
 have hS5 : ∀ x y z, (((w2.setCell ⟨w.heap.size + 1, 0, none⟩ x).setCell ⟨w.heap.size + 1, 1, none⟩ y).setCell ⟨w.heap.size + 1, 2, none⟩ z).cell? ⟨w.heap.size, 1, none⟩ = some (.string a) /\ (((w2.setCell ⟨w.heap.size + 1, 0, none⟩ x).setCell ⟨w.heap.size + 1, 1, none⟩ y).setCell ⟨w.heap.size + 1, 2, none⟩ z).cell? ⟨w.heap.size, 2, none⟩ = some (.string v) := fun x y z =>
  ⟨(World.cell?_of_block (a := ⟨w.heap.size, 1, none⟩) (set3_far w2 _ x y z _ (by show w.heap.size ≠ w.heap.size + 1; omega))).trans hS4.1, (World.cell?_of_block (a := ⟨w.heap.size, 2, none⟩) (set3_far w2 _ x y z _ (by show w.heap.size ≠ w.heap.size + 1; omega))).trans hS4.2⟩
 refine hK.out _ _ ⟨fun _ => trivial, hS5 _ _ _⟩ (fun _ => ?_)
 clear hK K
 simp only [Act.put, nrm]
 refine wpAnyS_done (by kernel_rfl) ?_ _
 simp only [onlyS]
 go_wp2
 obtain ⟨hb2, ht2, hYb, hWA⟩ := un HB2
 have hTR := un HTR
 have hlW := (Array.getElem?_eq_some_iff.1 (un HT)).1
 have hbX := set3n (b := w.heap.size + 1) ((un HBW).trans (hb2.mono (un HBW).size)) (by omega) (.int .i64 (tg k)) (.string ⟨#[]⟩) (.slice (some ⟨ab, 0, none⟩) 2 2)
 have g0 := set3_blk (x' := .int .i64 (tg k)) (y' := .string ⟨#[]⟩) (z' := .slice (some ⟨ab, 0, none⟩) 2 2) ht2
 have far := fun i (hi : i ≠ w.heap.size + 1) => set3_far w2 (w.heap.size + 1) (.int .i64 (tg k)) (.string ⟨#[]⟩) (.slice (some ⟨ab, 0, none⟩) 2 2) i hi
 change bodyPost _ _ _ _ _ (((w2.setCell ⟨w.heap.size + 1, 0, none⟩ (.int .i64 (tg k))).setCell ⟨w.heap.size + 1, 1, none⟩ (.string ⟨#[]⟩)).setCell ⟨w.heap.size + 1, 2, none⟩ (.slice (some ⟨ab, 0, none⟩) 2 2))
 generalize ((w2.setCell ⟨w.heap.size + 1, 0, none⟩ (.int .i64 (tg k))).setCell ⟨w.heap.size + 1, 1, none⟩ (.string ⟨#[]⟩)).setCell ⟨w.heap.size + 1, 2, none⟩ (.slice (some ⟨ab, 0, none⟩) 2 2) = X at *
 obtain ⟨⟨z0, z1, z2⟩, _⟩ := cells3 g0
 refine bodyPost_ret (v := .agg #[.int .i64 (tg k), .string ⟨#[]⟩, .slice (some ⟨ab, 0, none⟩) 2 2]) (by simp [results, Tryz.results53, go_sem, z0, z1, z2]) rfl ?_
 refine ⟨_, _, _, _, _, rfl, hbX, ?_⟩
 rw [hTR]
 exact node_two ((far _ (by omega)).trans hYb) (by omega) (node_leaf _ _ 4 a (by have := un HNZ; omega)) (node_leaf _ _ 4 v (by have := un HNZ; omega))
theorem tree_any : ∀ n, TreeIs n
 | 0 => fun _ F => Empty.elim F
 | n + 1 => by
  have ih := tree_any n
  intro k F w p d B hr hN hB
  cases hs : isSet (kd F) with
  | true => exact tree_set n ih k F w p d B hr hN hB hs
  | false =>
   by_cases h7 : kd F = 7
   ·exact tree_pres n k F w p d B hr hN hB h7
   ·by_cases h4 : kd F = 4
    ·exact tree_subs n k F w p d B hr hN hB h4
    ·exact tree_item n k F w p d B hr hN hB h7 h4 hs
end Go.Proofs.YtmenllnokgjdlaaGreatDoor.G
