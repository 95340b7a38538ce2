/-
  What the document's own Right, one, Same and IsUnder of layer 7 answer. Conditions: none.
-/
import Derived.Test.YthfcnjcpanoldaaGreatDoorDRef2
namespace Go.Proofs.YthfcnjcpanoldaaGreatDoor.D
open Go Go.RowKit Go.Shelf Dp
attribute [local go_sem] Oper.semAt_some

set_option maxRecDepth 100000 in
set_option maxHeartbeats 2000000 in
theorem refOne_any (r q : Rd) (u v : Value) (w : World) (hR : Rdl w u r) (hQ : Rdl w v q) (hs : r.length ≤ 1000) :
    Calls Tryz.prog 38 #[.agg #[u], .agg #[v]] w fun e w' => e = .returned (.bool (decide (r = q))) ∧ Below w.heap.size w w' := by
  obtain ⟨ad, cap, rfl, _, hx⟩ := hR
  obtain ⟨ad2, cap2, rfl, _, hx2⟩ := hQ
  have hbt : ∀ o o', Below w.heap.size w ((w.alloc o).alloc o') := fun o o' => ((Below.refl _ _).alloc (Nat.le_refl _) o).alloc (by simp) o'
  by_cases hl : r.length = q.length
  · have hll : ((r.length : Int) != (q.length : Int)) = false := by simp [hl]
    have HX := hide hx
    have HX2 := hide hx2
    have HL := hide hl
    have hl1 : (r.length : Int) ≤ 1000 := by omega
    have hmx : Tryz.prog.follows .mixedOrders = true := by kernel_rfl
    clear hx hx2 hl
    obtain ⟨b, hb⟩ : ∃ b, decide (r = q) = b := ⟨_, rfl⟩
    rw [hb]
    have Hb := hide hb
    clear hb
    go_enter Tryz.func38, Tryz.ntmps38
    go_wp2
    go_loopw [5] (fun y wr => ∃ i : Nat, i ≤ r.length ∧ y = .int .i64 i ∧ Hid (r.take i = q.take i) ∧ Hid (Below w.heap.size w wr) ∧ wr.cell? ⟨w.heap.size, 0, none⟩ = some (.slice ad r.length cap) ∧ wr.cell? ⟨w.heap.size + 1, 0, none⟩ = some (.slice ad2 q.length cap2))
      (fun y _ => r.length - (intOf y).toNat)
    case atStart => exact ⟨0, Nat.zero_le _, rfl, hide (by simp), hide (hbt _ _), by simp, by simp⟩
    case round =>
      obtain ⟨i, hi, rfl, hall, hbl, cA, cB⟩ := hrel
      by_cases hlt : i < r.length
      · have hlt' : (i : Int) < r.length := by omega
        have hltq : i < q.length := (unhide HL) ▸ hlt
        have hltq' : (i : Int) < q.length := by omega
        obtain ⟨gg, off, rfl, hcells⟩ := (unhide HX).resolve_left (fun e => by rw [e] at hlt; cases hlt)
        obtain ⟨g2, off2, rfl, hcells2⟩ := (unhide HX2).resolve_left (fun e => by rw [e] at hltq; cases hltq)
        obtain ⟨x0, x1⟩ := hcells i r[i] (List.getElem?_eq_getElem hlt)
        obtain ⟨z0, z1⟩ := hcells2 i q[i] (List.getElem?_eq_getElem hltq)
        have y0 := below_cell (unhide hbl) _ _ x0
        have y1 := below_cell (unhide hbl) _ _ x1
        have t0 := below_cell (unhide hbl) _ _ z0
        have t1 := below_cell (unhide hbl) _ _ z1
        have Hne : Hid (r[i] ≠ q[i] → b = false) := hide fun h => by
          rw [← unhide Hb, decide_eq_false]
          intro e
          subst e
          exact h rfl
        have Hyes : Hid (r[i] = q[i] → r.take (i + 1) = q.take (i + 1)) := hide fun h => take_ext (unhide HL) hlt (unhide hall) h
        clear x0 x1 z0 z1 hcells hcells2
        generalize r[i] = x at *
        generalize q[i] = z at *
        obtain ⟨xt, xv⟩ := x
        obtain ⟨zt, zv⟩ := z
        dsimp only at y0 y1 t0 t1
        by_cases he : xt = zt
        · by_cases hf : xv = zv
          · subst he
            subst hf
            have Hn := hide ((unhide Hyes) rfl)
            clear Hyes Hne HX HX2 hall
            go_wp2
            go_quiet (fail)
            go_wp2
            go_roundw
            case rel => exact ⟨i + 1, by omega, by simp, Hn, hide (U.below_drewN (unhide hbl) _), cA, cB⟩
            case measure => simp [intOf]; omega
          · subst he
            have k2 : (xv.toList == zv.toList) = false := by rw [ba_eq, decide_eq_false hf]
            obtain rfl := (unhide Hne) (fun e => hf (Prod.mk.inj e).2)
            clear Hyes Hne HX HX2 hall hf
            go_wp2
            go_quiet (fail)
            go_wp2
            go_ret
            exact ⟨rfl, U.below_drewN (unhide hbl) _⟩
        · have k1 : (xt.toList == zt.toList) = false := by rw [ba_eq, decide_eq_false he]
          obtain rfl := (unhide Hne) (fun e => he (Prod.mk.inj e).1)
          clear Hyes Hne HX HX2 hall he
          go_wp2
          go_quiet (fail)
          go_wp2
          go_ret
          exact ⟨rfl, U.below_drewN (unhide hbl) _⟩
      · have hge : ¬ (i : Int) < r.length := by omega
        have hbt : b = true := by
          rw [← unhide Hb, decide_eq_true]
          have := unhide hall
          have hlq := unhide HL
          rwa [List.take_of_length_le (by omega), List.take_of_length_le (by omega)] at this
        subst hbt
        clear hall HX HX2
        go_wp2
        go_ret
        exact ⟨rfl, unhide hbl⟩
  · have hll : ((r.length : Int) != (q.length : Int)) = true := by rw [bne_iff_ne]; omega
    rw [decide_eq_false (fun e => hl (by rw [e]))]
    clear hx hx2
    go_enter Tryz.func38, Tryz.ntmps38
    go_wp2
    go_ret
    exact ⟨rfl, hbt _ _⟩
set_option maxRecDepth 100000 in
set_option maxHeartbeats 2000000 in
theorem refSame_any (d e : Nm) (u v : Value) (w : World) (hR : Nml w u d) (hQ : Nml w v e) (hs : Sm d) :
    Calls Tryz.prog 22 #[u, v] w fun en w' => en = .returned (.bool (decide (d = e))) ∧ Below w.heap.size w w' := by
  obtain ⟨ad, cap, rfl, _, hx⟩ := hR
  obtain ⟨ad2, cap2, rfl, _, hx2⟩ := hQ
  by_cases hl : d.length = e.length
  · have hll : ((d.length : Int) != (e.length : Int)) = false := by simp [hl]
    have HX := hide hx
    have HX2 := hide hx2
    have HL := hide hl
    have HS := hide hs
    have hl1 : (d.length : Int) ≤ 1000 := by have := hs.1; omega
    clear hx hx2 hl hs
    obtain ⟨b, hb⟩ : ∃ b, decide (d = e) = b := ⟨_, rfl⟩
    rw [hb]
    have Hb := hide hb
    clear hb
    go_enter Tryz.func22, Tryz.ntmps22
    go_wp2
    go_loopw [5] (fun y wr => ∃ i : Nat, i ≤ d.length ∧ y = .int .i64 i ∧ Hid (d.take i = e.take i) ∧ Hid (Below w.heap.size w wr))
      (fun y _ => d.length - (intOf y).toNat)
    case atStart => exact ⟨0, Nat.zero_le _, rfl, hide (by simp), hide (Below.refl _ _)⟩
    case round =>
      obtain ⟨i, hi, rfl, hall, hbl⟩ := hrel
      by_cases hlt : i < d.length
      · have hlt' : (i : Int) < d.length := by omega
        have hltq : i < e.length := (unhide HL) ▸ hlt
        have hltq' : (i : Int) < e.length := by omega
        obtain ⟨gg, off, rfl, hcells⟩ := (unhide HX).resolve_left (fun e => by rw [e] at hlt; cases hlt)
        obtain ⟨g2, off2, rfl, hcells2⟩ := (unhide HX2).resolve_left (fun e => by rw [e] at hltq; cases hltq)
        obtain ⟨u0, x0, hru⟩ := hcells i d[i] (List.getElem?_eq_getElem hlt)
        obtain ⟨v0, z0, hrv⟩ := hcells2 i e[i] (List.getElem?_eq_getElem hltq)
        have y0 := below_cell (unhide hbl) _ _ x0
        have t0 := below_cell (unhide hbl) _ _ z0
        have hru' := hru.of (below_cell (unhide hbl))
        have hrv' := hrv.of (below_cell (unhide hbl))
        have hsz := ((unhide HS).2 d[i] (List.getElem_mem hlt)).1
        have Hne : Hid (d[i] ≠ e[i] → b = false) := hide fun h => by
          rw [← unhide Hb, decide_eq_false]
          intro e
          subst e
          exact h rfl
        have Hyes : Hid (d[i] = e[i] → d.take (i + 1) = e.take (i + 1)) := hide fun h => take_ext (unhide HL) hlt (unhide hall) h
        clear x0 z0 hcells hcells2 hru hrv
        generalize d[i] = x at *
        generalize e[i] = z at *
        have hbt : ∀ o o', Below wr.heap.size wr ((wr.alloc o).alloc o') := fun o o' => ((Below.refl _ _).alloc (Nat.le_refl _) o).alloc (by simp) o'
        have H := hide (refOne_any x z u0 v0 wr.drew (hru'.of (fun _ _ h => h)) (hrv'.of (fun _ _ h => h)) hsz)
        obtain ⟨ua, uc, rfl, _, _⟩ := hru'
        obtain ⟨va, vc, rfl, _, _⟩ := hrv'
        have hmx : Tryz.prog.follows .mixedOrders = true := by kernel_rfl
        clear hbt
        by_cases he : x = z
        · rw [decide_eq_true he] at H
          have Hn := hide ((unhide Hyes) he)
          clear Hyes Hne HX HX2 hall he hsz HS
          go_wp2
          refine C.region_tail_n 8 hmx (by kernel_rfl) ?_
          simp only [List.take_succ_cons, List.take_zero, List.drop_succ_cons, List.drop_zero]
          refine C.wst_do (by kernel_rfl) (fun K hK => ?_)
          go_simp
          refine hK.out _ ?_
          clear hK K
          refine C.wst_do (by kernel_rfl) (fun K hK => ?_)
          go_simp
          refine hK.out _ ?_
          clear hK K
          refine C.wst_do (by kernel_rfl) (fun K hK => ?_)
          go_simp
          refine hK.out _ ?_
          clear hK K
          refine C.wst_do (by kernel_rfl) (fun K hK => ?_)
          go_simp
          refine hK.out _ ?_
          clear hK K
          refine C.wst_do (by kernel_rfl) (fun K hK => ?_)
          go_simp
          refine hK.out _ ?_
          clear hK K
          refine C.wst_do (by kernel_rfl) (fun K hK => ?_)
          go_simp
          refine hK.out _ ?_
          clear hK K
          refine C.wst_do (by kernel_rfl) (fun K hK => ?_)
          go_simp
          refine hK.out _ ?_
          clear hK K
          refine C.wst_do (by kernel_rfl) (fun K hK => ?_)
          go_simp
          refine hK.out _ ?_
          clear hK K
          refine C.wst_nil ?_
          go_wp2_with fail
          refine (unhide H).mono ?_
          rintro e w1 ⟨rfl, hb⟩
          have HB1 := hide ((unhide hbl).trans ((show Below wr.heap.size wr w1 from ⟨hb.os, hb.tape, hb.output, hb.size, hb.block⟩).mono (unhide hbl).size))
          clear hb H t0 y0
          go_wp2
          simp only [C.only]
          go_wp2
          go_roundw
          case rel => exact ⟨i + 1, by omega, by simp, Hn, HB1⟩
          case measure => simp [intOf]; omega
        · rw [decide_eq_false he] at H
          obtain rfl := (unhide Hne) he
          clear Hyes Hne HX HX2 hall he hsz HS
          go_wp2
          refine C.region_tail_n 8 hmx (by kernel_rfl) ?_
          simp only [List.take_succ_cons, List.take_zero, List.drop_succ_cons, List.drop_zero]
          refine C.wst_do (by kernel_rfl) (fun K hK => ?_)
          go_simp
          refine hK.out _ ?_
          clear hK K
          refine C.wst_do (by kernel_rfl) (fun K hK => ?_)
          go_simp
          refine hK.out _ ?_
          clear hK K
          refine C.wst_do (by kernel_rfl) (fun K hK => ?_)
          go_simp
          refine hK.out _ ?_
          clear hK K
          refine C.wst_do (by kernel_rfl) (fun K hK => ?_)
          go_simp
          refine hK.out _ ?_
          clear hK K
          refine C.wst_do (by kernel_rfl) (fun K hK => ?_)
          go_simp
          refine hK.out _ ?_
          clear hK K
          refine C.wst_do (by kernel_rfl) (fun K hK => ?_)
          go_simp
          refine hK.out _ ?_
          clear hK K
          refine C.wst_do (by kernel_rfl) (fun K hK => ?_)
          go_simp
          refine hK.out _ ?_
          clear hK K
          refine C.wst_do (by kernel_rfl) (fun K hK => ?_)
          go_simp
          refine hK.out _ ?_
          clear hK K
          refine C.wst_nil ?_
          go_wp2_with fail
          refine (unhide H).mono ?_
          rintro e w1 ⟨rfl, hb⟩
          have HB1 := hide ((unhide hbl).trans ((show Below wr.heap.size wr w1 from ⟨hb.os, hb.tape, hb.output, hb.size, hb.block⟩).mono (unhide hbl).size))
          clear hb H t0 y0
          go_wp2
          simp only [C.only]
          go_wp2
          go_ret
          exact ⟨rfl, unhide HB1⟩
      · have hge : ¬ (i : Int) < d.length := by omega
        have hbt : b = true := by
          rw [← unhide Hb, decide_eq_true]
          have := unhide hall
          have hlq := unhide HL
          rwa [List.take_of_length_le (by omega), List.take_of_length_le (by omega)] at this
        subst hbt
        clear hall HX HX2
        go_wp2
        go_ret
        exact ⟨rfl, unhide hbl⟩
  · have hll : ((d.length : Int) != (e.length : Int)) = true := by rw [bne_iff_ne]; omega
    rw [decide_eq_false (fun h => hl (by rw [h]))]
    clear hx hx2 hs
    go_enter Tryz.func22, Tryz.ntmps22
    go_wp2
    go_ret
    exact ⟨rfl, Below.refl _ _⟩
theorem refIsUnder_any (d b : Nm) (u v : Value) (w : World) (hR : Nml w u d) (hQ : Nml w v b) (hs : Sm d) (hs2 : b.length ≤ 1000) :
    Calls Tryz.prog 24 #[u, v] w fun e w' => e = .returned (.bool (under d b)) ∧ Below w.heap.size w w' := by
  have hl := hs.1
  have hR' := hR
  obtain ⟨ad, cap, rfl, hcap, hx⟩ := hR
  by_cases h : b.length ≤ d.length
  · have hu : under d b = decide (d.drop (d.length - b.length) = b) := by unfold under; rw [decide_eq_true h]; rfl
    rw [hu]
    obtain ⟨m, hm⟩ : ∃ m, d.length - b.length = m := ⟨_, rfl⟩
    rw [hm]
    have h1 : (d.length : Int) - b.length = m := by omega
    have h5 : (b.length : Int) ≤ d.length := by omega
    have h2 : wrap64 ((d.length : Int) - b.length) = m := by unfold wrap64; omega
    have h3 : (m : Int) ≤ d.length := by omega
    have h4 : (d.length : Int) ≤ cap := by omega
    by_cases hcm : cap = m
    · have hT : Nml w (.slice ad (d.length - m) 0) (d.drop m) := by
        have hd : d.drop m = [] := List.drop_of_length_le (by omega)
        exact ⟨ad, 0, by rw [List.length_drop], by rw [hd]; exact Nat.le_refl _, .inl hd⟩
      have H := hide fun W hb => refSame_any (d.drop m) b _ v W (hT.below hb) (hQ.below hb) (sm_drop hs m)
      obtain ⟨ad2, cap2, rfl, _, _⟩ := hQ
      generalize decide (d.drop m = b) = r at *
      clear hT hx hs hu hR'
      go_enter Tryz.func24, Tryz.ntmps24
      go_wp2_with fail
      refine ((unhide H) _ (Below.refl _ _)).mono ?_
      rintro e w2 ⟨rfl, hb⟩
      have HB2 := hide hb
      clear hb
      go_wp2
      go_ret
      exact ⟨rfl, unhide HB2⟩
    · have hT := hR'.tail m (by omega)
      have H := hide fun W hb => refSame_any (d.drop m) b _ v W (hT.below hb) (hQ.below hb) (sm_drop hs m)
      obtain ⟨ad2, cap2, rfl, _, _⟩ := hQ
      generalize decide (d.drop m = b) = r at *
      clear hT hx hs hu hR'
      go_enter Tryz.func24, Tryz.ntmps24
      go_wp2_with fail
      refine ((unhide H) _ (Below.refl _ _)).mono ?_
      rintro e w2 ⟨rfl, hb⟩
      have HB2 := hide hb
      clear hb
      go_wp2
      go_ret
      exact ⟨rfl, unhide HB2⟩
  · have hu : under d b = false := by unfold under; rw [decide_eq_false h]; rfl
    rw [hu]
    obtain ⟨ad2, cap2, rfl, _, _⟩ := hQ
    have h1 : ¬ (b.length : Int) ≤ d.length := by omega
    have h2 : wrap64 ((d.length : Int) - b.length) = (d.length : Int) - b.length := by unfold wrap64; omega
    clear hx hs hu hR'
    go_enter Tryz.func24, Tryz.ntmps24
    go_wp2
    go_ret
    exact ⟨rfl, Below.refl _ _⟩

set_option maxRecDepth 100000 in
set_option maxHeartbeats 2000000 in
theorem refRight_any (d : Nm) (v : Value) (w : World) (hR : Nml w v d) (hs : Sm d) :
    Calls Tryz.prog 20 #[v] w fun e w' => e = .returned (.bool (okN d)) ∧ w' = w := by
  obtain ⟨ad, cap, rfl, hcap, hx⟩ := hR
  have HX := hide hx
  have HS := hide hs
  have hl : (d.length : Int) ≤ 1000 := by have := hs.1; omega
  clear hx hs hcap
  go_enter Tryz.func20, Tryz.ntmps20
  go_wp2
  go_loopw [3] (fun y wr => ∃ i : Nat, i ≤ d.length ∧ y = .int .i64 (i : Int) ∧ Hid ((d.take i).all okR = true) ∧ wr = w)
    (fun y _ => d.length - (intOf y).toNat)
  case atStart => exact ⟨0, Nat.zero_le _, rfl, hide rfl, rfl⟩
  case round =>
    obtain ⟨i, hi, rfl, hall, rfl⟩ := hrel
    by_cases hlt : i < d.length
    · have hlt' : (i : Int) < d.length := by omega
      obtain ⟨gg, off, rfl, hcells⟩ := (unhide HX).resolve_left (fun e => by rw [e] at hlt; cases hlt)
      obtain ⟨u, y0, hru⟩ := hcells i d[i] (List.getElem?_eq_getElem hlt)
      have hsz := (unhide HS).2 d[i] (List.getElem_mem hlt)
      have Hta : Hid ((d.take (i + 1)).all okR = ((d.take i).all okR && okR d[i])) := hide (by rw [List.take_succ_eq_append_getElem hlt, List.all_append]; simp)
      have Hma : Hid (okR d[i] = false → okN d = false) := hide fun h => by
        unfold okN
        rw [Bool.and_eq_false_iff]
        right
        exact List.all_eq_false.2 ⟨d[i], List.getElem_mem hlt, by rw [h]; simp⟩
      clear hcells
      generalize d[i] = r at *
      obtain ⟨ua, uc, rfl, _, hrx⟩ := hru
      have HRX := hide hrx
      have HSR := hide hsz
      have hrl : (r.length : Int) ≤ 1000 := by have := hsz.1; omega
      clear hrx hsz
      by_cases h1 : r.length < 1
      · have h1' : (r.length : Int) < 1 := by omega
        have hno := (unhide Hma) (by unfold okR; rw [decide_eq_false (by omega)]; rfl)
        have Hno := hide hno
        clear Hma Hta hall HRX HSR HX HS hno
        go_wp2
        go_ret
        exact ⟨by rw [unhide Hno]; rfl, rfl⟩
      · have h1' : ¬ (r.length : Int) < 1 := by omega
        by_cases h3 : 3 < r.length
        · have h3' : (3 : Int) < r.length := by omega
          have hno := (unhide Hma) (by unfold okR; rw [show decide (r.length ≤ 3) = false from decide_eq_false (by omega)]; simp)
          have Hno := hide hno
          clear Hma Hta hall HRX HSR HX HS hno
          go_wp2
          go_ret
          exact ⟨by rw [unhide Hno]; rfl, rfl⟩
        · have h3' : ¬ (3 : Int) < r.length := by omega
          have Hok : Hid (okR r = r.all okA) := hide (by unfold okR; rw [decide_eq_true (by omega), show decide (r.length ≤ 3) = true from decide_eq_true (by omega)]; rfl)
          go_wp2
          go_loopw [4] (fun y V => ∃ k : Nat, k ≤ r.length ∧ y = .int .i64 (k : Int) ∧ Hid ((r.take k).all okA = true) ∧ V = wr)
            (fun y _ => r.length - (intOf y).toNat)
          case atStart => exact ⟨0, Nat.zero_le _, rfl, hide rfl, rfl⟩
          case round =>
            obtain ⟨k, hk, rfl, hal2, rfl⟩ := hrel
            by_cases hkl : k < r.length
            · have hkl' : (k : Int) < r.length := by omega
              obtain ⟨g2, off2, rfl, hc2⟩ := (unhide HRX).resolve_left (fun e => by rw [e] at hkl; cases hkl)
              obtain ⟨z0, z1⟩ := hc2 k r[k] (List.getElem?_eq_getElem hkl)
              have hbz := (unhide HSR).2 r[k] (List.getElem_mem hkl)
              have Htr : Hid ((r.take (k + 1)).all okA = ((r.take k).all okA && okA r[k])) := hide (by rw [List.take_succ_eq_append_getElem hkl, List.all_append]; simp)
              have Hmr : Hid (okA r[k] = false → okN d = false) := hide fun h => (unhide Hma) ((unhide Hok).trans (List.all_eq_false.2 ⟨r[k], List.getElem_mem hkl, by rw [h]; simp⟩))
              clear hc2
              generalize r[k] = x at *
              obtain ⟨xt, xv⟩ := x
              dsimp only at z0 z1 hbz
              have HT := hide fun W => refIsType_any xt W hbz.1
              have hoa : okA (xt, xv) = (isTy xt && decide (xv.size ≤ 60)) := rfl
              rw [hoa] at Htr Hmr
              generalize isTy xt = b at *
              cases b
              · have hno := (unhide Hmr) rfl
                have Hno := hide hno
                clear Hma Hta hall HRX HSR HX HS hno Hmr Htr Hok hal2 hoa
                go_wp2_with fail
                refine ((unhide HT) _).mono ?_
                rintro e w1 ⟨rfl, rfl⟩
                go_wp2
                go_ret
                exact ⟨by rw [unhide Hno]; rfl, rfl⟩
              · by_cases h6 : 60 < xv.size
                · have h6' : (60 : Int) < xv.size := by omega
                  have hno := (unhide Hmr) (by rw [decide_eq_false (by omega)]; rfl)
                  have Hno := hide hno
                  clear Hma Hta hall HRX HSR HX HS hno Hmr Htr Hok hal2 hoa
                  go_wp2_with fail
                  refine ((unhide HT) _).mono ?_
                  rintro e w1 ⟨rfl, rfl⟩
                  go_wp2
                  go_ret
                  exact ⟨by rw [unhide Hno]; rfl, rfl⟩
                · have h6' : ¬ (60 : Int) < xv.size := by omega
                  have Hn : Hid ((r.take (k + 1)).all okA = true) := hide (by rw [unhide Htr, unhide hal2, decide_eq_true (by omega)]; rfl)
                  clear Hmr Htr hal2 hoa
                  go_wp2_with fail
                  refine ((unhide HT) _).mono ?_
                  rintro e w1 ⟨rfl, rfl⟩
                  clear HT
                  go_wp2
                  go_roundw
                  case rel => exact ⟨k + 1, by omega, by simp, Hn, by first | rfl | trivial⟩
                  case measure => simp [intOf]; omega
            · have hkl' : ¬ (k : Int) < r.length := by omega
              have Hn : Hid ((d.take (i + 1)).all okR = true) := hide (by
                have h := unhide hal2
                rw [List.take_of_length_le (by omega)] at h
                rw [unhide Hta, unhide hall, unhide Hok, h]
                rfl)
              clear Hma Hta hall HRX HSR Hok hal2
              go_wp2
              go_roundw
              case rel => exact ⟨i + 1, by omega, by simp, Hn, by first | rfl | trivial⟩
              case measure => simp [intOf]; omega
    · have hge : ¬ (i : Int) < d.length := by omega
      have hok : okN d = decide ((d.length : Int) ≤ 8) := by
        have h := unhide hall
        rw [List.take_of_length_le (by omega)] at h
        unfold okN
        rw [h, Bool.and_true, Bool.eq_iff_iff]
        simp
        omega
      have Hok := hide hok
      clear hok hall HX HS
      go_wp2
      go_ret
      exact ⟨by rw [unhide Hok]; rfl, rfl⟩
end Go.Proofs.YthfcnjcpanoldaaGreatDoor.D
