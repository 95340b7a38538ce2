/-
  What dn.printedRdn and dn.printed answer. Conditions: none.
-/
import Derived.Test.YthfcnjcpanoldaaGreatDoorDShelf
namespace Go.Proofs.YthfcnjcpanoldaaGreatDoor.D
open Go Go.RowKit Go.Shelf Dp
attribute [local go_sem] Oper.semAt_some

theorem infoS : ∃ i, Tryz.prog.info? 9 = some i ∧ i.zero = some (.string ⟨#[]⟩) ∧ i.size = 1 ∧ i.bytes = 16 := ⟨Tryz.t9, by kernel_rfl, by kernel_rfl, by kernel_rfl, by kernel_rfl⟩
theorem own_below {W V : World} {base : Nat} {e : TypeId} {size : Nat} {v : Value} {n : Nat} {xs : List Value} (h : W.ownsRow base e size v n xs) (hb : Below W.heap.size W V) : V.ownsRow base e size v n xs :=
  h.kept (row := none) ⟨hb.os, hb.tape, hb.output, hb.size, fun k hk _ => hb.block k hk⟩ (by cases hv : v.ownBlock <;> simp)
/-- an append to a list of one's own leaves all below. -/
theorem grown_below {B base : Nat} {w W V W' : World} {e : TypeId} {size n : Nat} {v : Value} {xs : List Value} {o : Obj} (hw : Below B w W) (hB : B ≤ base) (hbw : B ≤ w.heap.size) (ho : W.ownsRow base e size v n xs) (hb : Below W.heap.size W V) (hg : (V.alloc o).grownBy W' v.ownBlock) : Below B w W' := by
  have hb1 : Below B w (V.alloc o) := (hw.trans (hb.mono (Nat.le_trans hbw hw.size))).alloc (by have := hb.size; have := hw.size; omega) _
  exact ⟨hg.os.trans hb1.os, hg.tape.trans hb1.tape, hg.output.trans hb1.output, Nat.le_trans hb1.size hg.size, fun k hk => (hg.block k (Nat.lt_of_lt_of_le hk (Nat.le_trans hbw hb1.size)) (fun e => by have := (ho.lt k e.symm).1; omega)).trans (hb1.block k hk)⟩
abbrev strs (xs : List ByteArray) : List Value := xs.map Value.string
def prB (a : Av) : ByteArray := ⟨(prA a).toArray⟩
theorem prB_eq (a : Av) : a.1 ++ ⟨#[61]⟩ ++ E.pri true a.2 = prB a := by
  refine ByteArray.ext (Array.ext' ?_)
  rw [E.data_app, E.data_app]
  show a.1.data.toList ++ [61] ++ _ = prA a
  rw [prA]
  simp
def prRB (r : Rd) : ByteArray := ⟨(prR r).toArray⟩
theorem prA_long {a : Av} (h : a.1.size ≤ 1000 ∧ a.2.size ≤ 1000) : (prA a).length ≤ 4001 := by
  have h2 := (E.pri_size true a.2).2
  unfold prA
  rw [List.length_append, List.length_cons, E.len_toList, E.len_toList]
  omega
theorem prR_long {r : Rd} (h : SmR r) : (prR r).length ≤ 4002000 := by
  have := jn_len 43 4001 (r.map prA) fun x hx => by
    obtain ⟨a, ha, rfl⟩ := List.mem_map.1 hx
    exact prA_long (h.2 a ha)
  rw [List.length_map] at this
  have h1 := h.1
  unfold prR
  have : r.length * (4001 + 1) ≤ 1000 * 4002 := Nat.mul_le_mul h1 (Nat.le_refl _)
  omega
theorem prL_long {d : Nm} (h : Sm d) : (prL d).length ≤ 10000000000 := by
  have := jn_len 44 4002000 (d.map prR) fun x hx => by
    obtain ⟨r, hr, rfl⟩ := List.mem_map.1 hx
    exact prR_long (h.2 r hr)
  rw [List.length_map] at this
  have h1 := h.1
  unfold prL
  have : d.length * (4002000 + 1) ≤ 1000 * 4002001 := Nat.mul_le_mul h1 (Nat.le_refl _)
  omega
/-- joined, of a list of one's own. -/
theorem joined_own (c : UInt8) (base : Nat) (v : Value) (xs : List ByteArray) (w : World) (ho : w.ownsRow base 9 1 v xs.length (strs xs)) (hN : xs.length ≤ 1000) (hlen : (jn c (xs.map (·.data.toList))).length ≤ 100000000000) :
    Calls Tryz.prog 50 #[.int .u8 c.toNat, v] w fun e w' => e = .returned (.string ⟨(jn c (xs.map (·.data.toList))).toArray⟩) ∧ Below w.heap.size w w' := by
  have ho' := ho
  rcases ho.2 with ⟨rfl, h0⟩ | ⟨g, cap, cur, rfl, hg, hc, h1, h2, h3, h4⟩
  · have : xs = [] := List.length_eq_zero_iff.1 h0
    subst this
    exact joined_nil c none 0 w
  · refine joined_some c g cap xs w (fun j x hj => ?_) (Array.getElem?_eq_some_iff.1 hc).1 (by omega) (by omega) hlen
    have := ho'.cells (g := g) rfl j (.string x) (by simp [strs, hj])
    rw [Addr.add_lit] at this
    exact this

set_option linter.unusedSimpArgs false in
set_option maxRecDepth 100000 in
set_option maxHeartbeats 2000000 in
theorem printedRdn_any (r : Rd) (v : Value) (w : World) (hR : Rdl w v r) (hs : SmR r) :
    Calls Tryz.prog 49 #[.agg #[v]] w fun e w' => e = .returned (.string (prRB r)) ∧ Below w.heap.size w w' := by
  obtain ⟨ad, cap, rfl, hcap, hx⟩ := hR
  have HB := hide ((Below.refl w.heap.size w).alloc (Nat.le_refl _) (.cells #[.slice ad r.length cap] 42))
  have HX := hide hx
  have HS := hide hs
  have hl : (r.length : Int) ≤ 1000 := by have := hs.1; omega
  have HO0 : Hid ((w.alloc (.cells #[.slice ad r.length cap] 42)).ownsRow w.heap.size 9 1 (.slice none 0 0) 0 []) := hide (World.ownsRow_nil _ _ _ _)
  clear hx hs hcap
  go_enter Tryz.func49, Tryz.ntmps49
  go_wp2
  go_loopw [3, 9] (fun sl y wr => ∃ i : Nat, i ≤ r.length ∧ y = .int .i64 i ∧ Hid (wr.ownsRow w.heap.size 9 1 sl i (strs ((r.take i).map prB))) ∧ Hid (Below w.heap.size w wr))
    (fun _ y _ => r.length - (intOf y).toNat)
  case atStart => exact ⟨0, Nat.zero_le _, rfl, HO0, HB⟩
  case round =>
    obtain ⟨i, hi, rfl, ho, hb⟩ := hrel
    clear HO0
    by_cases hlt : i < r.length
    · have hlt' : (i : Int) < r.length := by omega
      obtain ⟨gg, off, rfl, hcells⟩ := (unhide HX).resolve_left (fun e => by rw [e] at hlt; cases hlt)
      obtain ⟨x0, x1⟩ := hcells i r[i] (List.getElem?_eq_getElem hlt)
      have y0 := below_cell (unhide hb) _ _ x0
      have y1 := below_cell (unhide hb) _ _ x1
      have hsz := (unhide HS).2 r[i] (List.getElem_mem hlt)
      have Hta : Hid ((r.take (i + 1)).map prB = (r.take i).map prB ++ [prB r[i]]) := hide (by rw [List.take_succ_eq_append_getElem hlt, List.map_append]; rfl)
      clear x0 x1 hcells
      generalize r[i] = x at *
      obtain ⟨xt, xv⟩ := x
      dsimp only at y0 y1 hsz
      have hpb := prB_eq (xt, xv)
      dsimp only at hpb
      have hps := (E.pri_size true xv).2
      generalize (r.take i).map prB = ps at *
      have H := hide fun W => E.name_any xv W hsz.2
      generalize E.pri true xv = pv at *
      have hs1 : xt.size ≤ 9223372036854775806 := by omega
      have hs2 : xt.size + 1 + pv.size ≤ 9223372036854775807 := by omega
      have Hs1 := hide hs1
      have Hs2 := hide hs2
      have Hpb := hide hpb
      have hil : i ≤ 1000 := by omega
      clear hs1 hs2 hps hpb HX HS hsz
      go_wp2
      obtain ⟨i0, hi0, hz0, hz1, hz2⟩ := infoS
      obtain ⟨V, hV⟩ : ∃ V, V = wr.alloc (.cells #[.string xt, .string xv] 39) := ⟨_, rfl⟩
      have hbV : Hid (Below wr.heap.size wr V) := hide (by rw [hV]; exact (Below.refl _ _).alloc (Nat.le_refl _) _)
      have hS : V.drew.cell? ⟨wr.heap.size, 0, none⟩ = some (.string xt) ∧ V.drew.cell? ⟨wr.heap.size, 1, none⟩ = some (.string xv) := by
        show V.cell? _ = _ ∧ V.cell? _ = _
        rw [hV, World.cell?_alloc_at _ _ _ _ rfl, World.cell?_alloc_at _ _ _ _ rfl]
        exact ⟨rfl, rfl⟩
      rw [← hV]
      clear hV y0 y1
      refine wp_region_held (S := fun w' => w'.cell? ⟨wr.heap.size, 0, none⟩ = some (.string xt) ∧ w'.cell? ⟨wr.heap.size, 1, none⟩ = some (.string xv)) (by kernel_rfl) ?_
      change wpAnyH _ _ _ _ _ 11 #[false, false, false, false, false, false, false, false, false, false, false] _ V.drew
      refine wpAnyH_take (i := 0) (v := u3) rfl (by kernel_rfl) (by kernel_rfl) (by kernel_rfl) (fun _ _ _ h => h) (Or.inl ⟨by kernel_rfl, by intro w1 hS1; obtain ⟨s0, s1⟩ := hS1; go_simp; try rfl⟩) hS ?_
      simp only [Act.put, List.setIfInBounds_toArray, List.set_cons_zero, List.set_cons_succ, List.getElem_toArray, List.getElem_cons_zero, List.getElem_cons_succ]
      refine wpAnyH_take (i := 1) (v := .pointer (some ⟨wr.heap.size, 0, none⟩)) rfl (by kernel_rfl) (by kernel_rfl) (by kernel_rfl) (fun _ _ _ h => h) (Or.inl ⟨by kernel_rfl, by intro w1 hS1; obtain ⟨s0, s1⟩ := hS1; go_simp; try rfl⟩) hS ?_
      simp only [Act.put, List.setIfInBounds_toArray, List.set_cons_zero, List.set_cons_succ, List.getElem_toArray, List.getElem_cons_zero, List.getElem_cons_succ]
      refine wpAnyH_take (i := 2) (v := .string xt) rfl (by kernel_rfl) (by kernel_rfl) (by kernel_rfl) (fun _ _ _ h => h) (Or.inl ⟨by kernel_rfl, by intro w1 hS1; obtain ⟨s0, s1⟩ := hS1; go_simp; try rfl⟩) hS ?_
      simp only [Act.put, List.setIfInBounds_toArray, List.set_cons_zero, List.set_cons_succ, List.getElem_toArray, List.getElem_cons_zero, List.getElem_cons_succ]
      refine wpAnyH_take (i := 3) (v := .string (xt ++ ⟨#[61]⟩)) rfl (by kernel_rfl) (by kernel_rfl) (by kernel_rfl) (fun _ _ _ h => h) (Or.inl ⟨by kernel_rfl, by intro w1 hS1; obtain ⟨s0, s1⟩ := hS1; go_simp; exact unhide Hs1⟩) hS ?_
      simp only [Act.put, List.setIfInBounds_toArray, List.set_cons_zero, List.set_cons_succ, List.getElem_toArray, List.getElem_cons_zero, List.getElem_cons_succ]
      refine wpAnyH_take (i := 4) (v := .pointer (some ⟨wr.heap.size, 1, none⟩)) rfl (by kernel_rfl) (by kernel_rfl) (by kernel_rfl) (fun _ _ _ h => h) (Or.inl ⟨by kernel_rfl, by intro w1 hS1; obtain ⟨s0, s1⟩ := hS1; go_simp; try rfl⟩) hS ?_
      simp only [Act.put, List.setIfInBounds_toArray, List.set_cons_zero, List.set_cons_succ, List.getElem_toArray, List.getElem_cons_zero, List.getElem_cons_succ]
      refine wpAnyH_take (i := 5) (v := .string xv) rfl (by kernel_rfl) (by kernel_rfl) (by kernel_rfl) (fun _ _ _ h => h) (Or.inl ⟨by kernel_rfl, by intro w1 hS1; obtain ⟨s0, s1⟩ := hS1; go_simp; try rfl⟩) hS ?_
      simp only [Act.put, List.setIfInBounds_toArray, List.set_cons_zero, List.set_cons_succ, List.getElem_toArray, List.getElem_cons_zero, List.getElem_cons_succ]
      refine wpAnyH_ready (rs := [6]) (by kernel_rfl) (by simp) ?_
      refine AllReadyH.cons rfl (fun K hK => ?_) AllReadyH.nil
      rw [if_pos (by kernel_rfl)]
      go_wp2_with fail
      refine ((unhide H) _).mono ?_
      rintro e w2 ⟨rfl, hb2⟩
      have hS2 : w2.cell? ⟨wr.heap.size, 0, none⟩ = some (.string xt) ∧ w2.cell? ⟨wr.heap.size, 1, none⟩ = some (.string xv) := ⟨below_cell hb2 _ _ hS.1, below_cell hb2 _ _ hS.2⟩
      have hbw : Hid (Below wr.heap.size wr w2) := hide ((unhide hbV).trans ((show Below V.heap.size V w2 from ⟨hb2.os, hb2.tape, hb2.output, hb2.size, hb2.block⟩).mono (unhide hbV).size))
      clear hb2 hS hbV H
      go_wp2
      refine hK.out _ _ hS2 (fun _ => ?_)
      clear hK K
      simp only [Act.put, List.setIfInBounds_toArray, List.set_cons_zero, List.set_cons_succ, List.getElem_toArray, List.getElem_cons_zero, List.getElem_cons_succ]
      refine wpAnyH_take (i := 7) (v := .string (xt ++ ⟨#[61]⟩ ++ pv)) rfl (by kernel_rfl) (by kernel_rfl) (by kernel_rfl) (fun _ _ _ h => h) (Or.inl ⟨by kernel_rfl, by intro w1 hS1; obtain ⟨s0, s1⟩ := hS1; go_simp; exact unhide Hs2⟩) hS2 ?_
      simp only [Act.put, List.setIfInBounds_toArray, List.set_cons_zero, List.set_cons_succ, List.getElem_toArray, List.getElem_cons_zero, List.getElem_cons_succ]
      rw [unhide Hpb]
      generalize prB (xt, xv) = px at *
      have HN := hide (C.news w2 [.string px] 9)
      have HO2 := hide ((own_below (unhide ho) (unhide hbw)).alloc (.cells #[.string px] 9))
      have hS3 : (w2.alloc (.cells #[.string px] 9)).cell? ⟨wr.heap.size, 0, none⟩ = some (.string xt) ∧ (w2.alloc (.cells #[.string px] 9)).cell? ⟨wr.heap.size, 1, none⟩ = some (.string xv) := ⟨below_cell ((Below.refl _ _).alloc (Nat.le_refl _) _) _ _ hS2.1, below_cell ((Below.refl _ _).alloc (Nat.le_refl _) _) _ _ hS2.2⟩
      have hzz := (unhide hb).size
      have hzz2 := (unhide hbw).size
      refine wpAnyH_ready (rs := [8]) (by kernel_rfl) (by simp) ?_
      refine AllReadyH.cons rfl (fun K hK => ?_) AllReadyH.nil
      rw [if_pos (by kernel_rfl)]
      go_simp
      refine hK.out _ _ hS3 (fun _ => ?_)
      clear hK K
      simp only [Act.put, List.setIfInBounds_toArray, List.set_cons_zero, List.set_cons_succ, List.getElem_toArray, List.getElem_cons_zero, List.getElem_cons_succ]
      refine wpAnyH_ready (rs := [9]) (by kernel_rfl) (by simp) ?_
      refine AllReadyH.cons rfl (fun K hK => ?_) AllReadyH.nil
      rw [if_pos (by kernel_rfl)]
      refine wp_append_lies _ (.tmp 13) (.tmp 21) 51 rfl w.heap.size 9 i0 (.string ⟨#[]⟩) 1 16 Tryz.underlying51 hi0 hz0 hz1 hz2 rfl (by omega) u3 i _ rfl (unhide HO2) ⟨w2.heap.size, 0, none⟩ 1 1 [.string px] rfl rfl (unhide HN) (by simp [Value.oneCell']) (by omega) (by unfold maxLen; omega) (by omega) (by simp; omega) (w2.heap.size + 1) (by simp) ?_
      intro gg cp w4 hown hgrow hat hglt
      have HBB := hide (grown_below (unhide hb) (Nat.le_refl _) (Nat.le_refl _) (unhide ho) (unhide hbw) hgrow)
      have Hown := hide hown
      have hS4 : w4.cell? ⟨wr.heap.size, 0, none⟩ = some (.string xt) ∧ w4.cell? ⟨wr.heap.size, 1, none⟩ = some (.string xv) := by
        have hf : ∀ k, w4.cell? ⟨wr.heap.size, k, none⟩ = (w2.alloc (.cells #[.string px] 9)).cell? ⟨wr.heap.size, k, none⟩ := fun k => hgrow.cell_far _ (by have := lt_cell hS3.1; exact this) (fun e => by have := ((unhide ho).lt wr.heap.size e.symm).2; omega)
        exact ⟨(hf 0).trans hS3.1, (hf 1).trans hS3.2⟩
      clear hown hgrow hat hglt
      refine hK.out _ _ hS4 (fun _ => ?_)
      clear hK K
      simp only [Act.put, List.setIfInBounds_toArray, List.set_cons_zero, List.set_cons_succ, List.getElem_toArray, List.getElem_cons_zero, List.getElem_cons_succ]
      refine wpAnyH_take (i := 10) (v := .slice (some ⟨gg, 0, none⟩) (i + 1) cp) rfl (by kernel_rfl) (by kernel_rfl) (by kernel_rfl) (fun _ _ _ h => h) (Or.inl ⟨by kernel_rfl, by intro w1 hS1; obtain ⟨s0, s1⟩ := hS1; go_simp; try rfl⟩) hS4 ?_
      simp only [Act.put, List.setIfInBounds_toArray, List.set_cons_zero, List.set_cons_succ, List.getElem_toArray, List.getElem_cons_zero, List.getElem_cons_succ]
      refine wpAnyH_done (by kernel_rfl) ?_ _
      go_wp2
      go_roundw
      case rel =>
        refine ⟨i + 1, by omega, by simp, ?_, HBB⟩
        rw [unhide Hta]
        have := unhide Hown
        exact hide (by simpa [strs, List.map_append] using this)
      case measure => simp [intOf]; omega
    · have hge : ¬ (i : Int) < r.length := by omega
      have hir : i = r.length := by omega
      have ho2 := unhide ho
      rw [hir, List.take_length] at ho2
      have H := joined_own 43 w.heap.size u3 (r.map prB) wr (by rw [List.length_map]; exact ho2) (by rw [List.length_map]; exact (unhide HS).1) (by
        have := prR_long (unhide HS)
        rw [List.map_map]
        show (prR r).length ≤ _
        omega)
      have e : (⟨(jn 43 ((r.map prB).map (·.data.toList))).toArray⟩ : ByteArray) = prRB r := by
        rw [List.map_map]
        rfl
      rw [e] at H
      have H' := hide H
      clear H e ho2 hir ho HX HS
      go_wp2_with fail
      refine (unhide H').mono ?_
      rintro e w2 ⟨rfl, hb2⟩
      have HBB := hide ((unhide hb).trans (hb2.mono (unhide hb).size))
      clear hb2
      go_wp2
      go_ret
      exact ⟨rfl, unhide HBB⟩

set_option maxRecDepth 100000 in
set_option maxHeartbeats 2000000 in
theorem printed_any (d : Nm) (v : Value) (w : World) (hR : Nml w v d) (hs : Sm d) :
    Calls Tryz.prog 31 #[v] w fun e w' => e = .returned (.string (pr d)) ∧ Below w.heap.size w w' := by
  obtain ⟨ad, cap, rfl, hcap, hx⟩ := hR
  have HB := hide (Below.refl w.heap.size w)
  have HX := hide hx
  have HS := hide hs
  have hl : (d.length : Int) ≤ 1000 := by have := hs.1; omega
  have HO0 : Hid (w.ownsRow w.heap.size 9 1 (.slice none 0 0) 0 []) := hide (World.ownsRow_nil _ _ _ _)
  clear hx hs hcap
  go_enter Tryz.func31, Tryz.ntmps31
  go_wp2
  go_loopw [3, 8] (fun sl y wr => ∃ i : Nat, i ≤ d.length ∧ y = .int .i64 i ∧ Hid (wr.ownsRow w.heap.size 9 1 sl i (strs ((d.take i).map prRB))) ∧ Hid (Below w.heap.size w wr))
    (fun _ y _ => d.length - (intOf y).toNat)
  case atStart => exact ⟨0, Nat.zero_le _, rfl, HO0, HB⟩
  case round =>
    obtain ⟨i, hi, rfl, ho, hb⟩ := hrel
    clear HO0
    by_cases hlt : i < d.length
    · have hlt' : (i : Int) < d.length := by omega
      obtain ⟨gg, off, rfl, hcells⟩ := (unhide HX).resolve_left (fun e => by rw [e] at hlt; cases hlt)
      obtain ⟨u, x0, hru⟩ := hcells i d[i] (List.getElem?_eq_getElem hlt)
      have y0 := below_cell (unhide hb) _ _ x0
      have hru' := hru.of (below_cell (unhide hb))
      have hsz := (unhide HS).2 d[i] (List.getElem_mem hlt)
      have Hta : Hid ((d.take (i + 1)).map prRB = (d.take i).map prRB ++ [prRB d[i]]) := hide (by rw [List.take_succ_eq_append_getElem hlt, List.map_append]; rfl)
      clear x0 hcells hru
      generalize d[i] = x at *
      have H := hide (printedRdn_any x u (wr.alloc (.cells #[u] 42)) (hru'.below ((Below.refl _ _).alloc (Nat.le_refl _) _)) hsz)
      obtain ⟨ua, uc, rfl, _, _⟩ := hru'
      generalize (d.take i).map prRB = ps at *
      generalize prRB x = px at *
      obtain ⟨i0, hi0, hz0, hz1, hz2⟩ := infoS
      have hil : i ≤ 1000 := by omega
      have hzz := (unhide hb).size
      clear HX HS hsz
      go_wp2_with fail
      refine (unhide H).mono ?_
      rintro e w2 ⟨rfl, hb2⟩
      have hbw : Hid (Below wr.heap.size wr w2) := hide (((Below.refl _ _).alloc (Nat.le_refl _) _).trans (hb2.mono (by simp)))
      have HN := hide (C.news w2 [.string px] 9)
      have HO2 := hide ((own_below (unhide ho) (unhide hbw)).alloc (.cells #[.string px] 9))
      have hzz2 := (unhide hbw).size
      clear hb2 H y0
      go_wp2_with (at_builtin; refine wpList_append_lies _ rfl (.tmp 12) (.tmp 15) 51 rfl w.heap.size 9 i0 (.string ⟨#[]⟩) 1 16 Tryz.underlying51 hi0 hz0 hz1 hz2 rfl (by omega) u3 i _ rfl (unhide HO2) ⟨w2.heap.size, 0, none⟩ 1 1 [.string px] rfl rfl (unhide HN) (by simp [Value.oneCell']) (by omega) (by unfold maxLen; omega) (by omega) (by simp; omega) (w2.heap.size + 1) (by simp) ?_; intro g1 cp w4 hown hgrow hat hglt; replace hown := hide hown; replace hgrow := hide (grown_below (unhide hb) (Nat.le_refl _) (Nat.le_refl _) (unhide ho) (unhide hbw) hgrow); clear hat hglt)
      go_roundw
      case rel =>
        refine ⟨i + 1, by omega, by simp, ?_, hgrow⟩
        rw [unhide Hta]
        have := unhide hown
        exact hide (by simpa [strs, List.map_append] using this)
      case measure => simp [intOf]; omega
    · have hge : ¬ (i : Int) < d.length := by omega
      have hir : i = d.length := by omega
      have ho2 := unhide ho
      rw [hir, List.take_length] at ho2
      have H := joined_own 44 w.heap.size u3 (d.map prRB) wr (by rw [List.length_map]; exact ho2) (by rw [List.length_map]; exact (unhide HS).1) (by
        have := prL_long (unhide HS)
        rw [List.map_map]
        show (prL d).length ≤ _
        omega)
      have e : (⟨(jn 44 ((d.map prRB).map (·.data.toList))).toArray⟩ : ByteArray) = pr d := by
        rw [List.map_map]
        rfl
      rw [e] at H
      have H' := hide H
      clear H e ho2 hir ho HX HS
      go_wp2_with fail
      refine (unhide H').mono ?_
      rintro e w2 ⟨rfl, hb2⟩
      have HBB := hide ((unhide hb).trans (hb2.mono (unhide hb).size))
      clear hb2
      go_wp2
      go_ret
      exact ⟨rfl, unhide HBB⟩
end Go.Proofs.YthfcnjcpanoldaaGreatDoor.D
