/-
  What dn.Same answers. Conditions: none.
-/
import Derived.Test.YthfcnjcpanoldaaGreatDoorDName
import Derived.Laws.StructEq
namespace Go.Proofs.YthfcnjcpanoldaaGreatDoor.D
open Go Go.RowKit Go.Shelf Dp
attribute [local go_sem] Oper.semAt_some

theorem ba_eq {a b : ByteArray} : (a.toList == b.toList) = decide (a = b) := by
  rw [Bool.eq_iff_iff, beq_iff_eq, decide_eq_true_eq, ByteArray.toList_eq, ByteArray.toList_eq]
  exact ⟨fun h => ByteArray.ext (Array.ext' h), fun h => by rw [h]⟩
theorem take_ext {α : Type} {r q : List α} (hl : r.length = q.length) {i : Nat} (hi : i < r.length) (h : r.take i = q.take i) (he : r[i] = q[i]'(hl ▸ hi)) : r.take (i + 1) = q.take (i + 1) := by
  rw [List.take_succ_eq_append_getElem hi, List.take_succ_eq_append_getElem (hl ▸ hi), h, he]

set_option maxRecDepth 100000 in
set_option maxHeartbeats 2000000 in
theorem equal_any (r q : Rd) (u v : Value) (w : World) (hR : Rdl w u r) (hQ : Rdl w v q) (hs : r.length ≤ 1000) :
    Calls Tryz.prog 56 #[u, v] w fun e w' => e = .returned (.bool (decide (r = q))) ∧ Below w.heap.size w w' := by
  obtain ⟨ad, cap, rfl, _, hx⟩ := hR
  obtain ⟨ad2, cap2, rfl, _, hx2⟩ := hQ
  by_cases hl : r.length = q.length
  · have hll : ((r.length : Int) != (q.length : Int)) = false := by simp [hl]
    have HX := hide hx
    have HX2 := hide hx2
    have HL := hide hl
    have hl1 : (r.length : Int) ≤ 1000 := by omega
    have hmx : Tryz.prog.follows .mixedOrders = true := by kernel_rfl
    clear hx hx2 hl
    obtain ⟨b, hb⟩ : ∃ b, decide (r = q) = b := ⟨_, rfl⟩
    rw [hb]
    have Hb := hide hb
    clear hb
    go_enter Tryz.func56, Tryz.ntmps56
    go_wp2
    go_loopw [13] (fun y wr => ∃ i : Nat, i ≤ r.length ∧ y = .int .i64 i ∧ Hid (r.take i = q.take i) ∧ Hid (Below w.heap.size w wr))
      (fun y _ => r.length - (intOf y).toNat)
    case atStart => exact ⟨0, Nat.zero_le _, rfl, hide (by simp), hide (Below.refl _ _)⟩
    case round =>
      obtain ⟨i, hi, rfl, hall, hbl⟩ := hrel
      by_cases hlt : i < r.length
      · have hlt' : (i : Int) < r.length := by omega
        have hltq : i < q.length := (unhide HL) ▸ hlt
        have hltq' : (i : Int) < q.length := by omega
        obtain ⟨gg, off, rfl, hcells⟩ := (unhide HX).resolve_left (fun e => by rw [e] at hlt; cases hlt)
        obtain ⟨g2, off2, rfl, hcells2⟩ := (unhide HX2).resolve_left (fun e => by rw [e] at hltq; cases hltq)
        obtain ⟨x0, x1⟩ := hcells i r[i] (List.getElem?_eq_getElem hlt)
        obtain ⟨z0, z1⟩ := hcells2 i q[i] (List.getElem?_eq_getElem hltq)
        have y0 := below_cell (unhide hbl) _ _ x0
        have y1 := below_cell (unhide hbl) _ _ x1
        have t0 := below_cell (unhide hbl) _ _ z0
        have t1 := below_cell (unhide hbl) _ _ z1
        have Hne : Hid (r[i] ≠ q[i] → b = false) := hide fun h => by
          rw [← unhide Hb, decide_eq_false]
          intro e
          subst e
          exact h rfl
        have Hyes : Hid (r[i] = q[i] → r.take (i + 1) = q.take (i + 1)) := hide fun h => take_ext (unhide HL) hlt (unhide hall) h
        clear x0 x1 z0 z1 hcells hcells2
        generalize r[i] = x at *
        generalize q[i] = z at *
        obtain ⟨xt, xv⟩ := x
        obtain ⟨zt, zv⟩ := z
        dsimp only at y0 y1 t0 t1
        by_cases he : xt = zt
        · by_cases hf : xv = zv
          · subst he
            subst hf
            have Hn := hide ((unhide Hyes) rfl)
            clear Hyes Hne HX HX2 hall
            go_wp2
            go_quiet (fail)
            go_wp2
            go_roundw
            case rel => exact ⟨i + 1, by omega, by simp, Hn, hide (U.below_drewN (unhide hbl) _)⟩
            case measure => simp [intOf]; omega
          · subst he
            have k2 : (xv.toList == zv.toList) = false := by rw [ba_eq, decide_eq_false hf]
            obtain rfl := (unhide Hne) (fun e => hf (Prod.mk.inj e).2)
            clear Hyes Hne HX HX2 hall hf
            go_wp2
            go_quiet (fail)
            go_wp2
            go_ret
            exact ⟨rfl, U.below_drewN (unhide hbl) _⟩
        · have k1 : (xt.toList == zt.toList) = false := by rw [ba_eq, decide_eq_false he]
          obtain rfl := (unhide Hne) (fun e => he (Prod.mk.inj e).1)
          clear Hyes Hne HX HX2 hall he
          go_wp2
          go_quiet (fail)
          go_wp2
          go_ret
          exact ⟨rfl, U.below_drewN (unhide hbl) _⟩
      · have hge : ¬ (i : Int) < r.length := by omega
        have hbt : b = true := by
          rw [← unhide Hb, decide_eq_true]
          have := unhide hall
          have hlq := unhide HL
          rwa [List.take_of_length_le (by omega), List.take_of_length_le (by omega)] at this
        subst hbt
        clear hall HX HX2
        go_wp2
        go_ret
        exact ⟨rfl, unhide hbl⟩
  · have hll : ((r.length : Int) != (q.length : Int)) = true := by rw [bne_iff_ne]; omega
    rw [decide_eq_false (fun e => hl (by rw [e]))]
    clear hx hx2
    go_enter Tryz.func56, Tryz.ntmps56
    go_wp2
    go_ret
    exact ⟨rfl, Below.refl _ _⟩
theorem samePart_any (r q : Rd) (u v : Value) (w : World) (hR : Rdl w u r) (hQ : Rdl w v q) (hs : r.length ≤ 1000) :
    Calls Tryz.prog 37 #[.agg #[u], .agg #[v]] w fun e w' => e = .returned (.bool (decide (r = q))) ∧ Below w.heap.size w w' := by
  have hbt : ∀ o o', Below w.heap.size w ((w.alloc o).alloc o') := fun o o' => ((Below.refl _ _).alloc (Nat.le_refl _) o).alloc (by simp) o'
  have H := hide fun o o' => equal_any r q u v ((w.alloc o).alloc o') (hR.below (hbt o o')) (hQ.below (hbt o o')) hs
  obtain ⟨ad, cap, rfl, _, _⟩ := hR
  obtain ⟨ad2, cap2, rfl, _, _⟩ := hQ
  have HB := hide hbt
  generalize decide (r = q) = b at *
  clear hbt
  go_enter Tryz.func37, Tryz.ntmps37
  go_wp2_with fail
  refine ((unhide H) _ _).mono ?_
  rintro e w1 ⟨rfl, hb⟩
  have HB1 := hide (((unhide HB) _ _).trans (hb.mono (by simp; omega)))
  clear hb
  go_wp2
  go_ret
  exact ⟨rfl, unhide HB1⟩

set_option maxRecDepth 100000 in
set_option maxHeartbeats 2000000 in
theorem equalFunc_any (d e : Nm) (u v : Value) (w : World) (hR : Nml w u d) (hQ : Nml w v e) (hs : Sm d) :
    Calls Tryz.prog 36 #[u, v, .func (.func 37) #[] #[]] w fun en w' => en = .returned (.bool (decide (d = e))) ∧ Below w.heap.size w w' := by
  obtain ⟨ad, cap, rfl, _, hx⟩ := hR
  obtain ⟨ad2, cap2, rfl, _, hx2⟩ := hQ
  by_cases hl : d.length = e.length
  · have hll : ((d.length : Int) != (e.length : Int)) = false := by simp [hl]
    have HX := hide hx
    have HX2 := hide hx2
    have HL := hide hl
    have HS := hide hs
    have hl1 : (d.length : Int) ≤ 1000 := by have := hs.1; omega
    clear hx hx2 hl hs
    obtain ⟨b, hb⟩ : ∃ b, decide (d = e) = b := ⟨_, rfl⟩
    rw [hb]
    have Hb := hide hb
    clear hb
    go_enter Tryz.func36, Tryz.ntmps36
    go_wp2
    go_loopw [17] (fun y wr => ∃ i : Nat, i ≤ d.length ∧ y = .int .i64 i ∧ Hid (d.take i = e.take i) ∧ Hid (Below w.heap.size w wr))
      (fun y _ => d.length - (intOf y).toNat)
    case atStart => exact ⟨0, Nat.zero_le _, rfl, hide (by simp), hide (Below.refl _ _)⟩
    case round =>
      obtain ⟨i, hi, rfl, hall, hbl⟩ := hrel
      by_cases hlt : i < d.length
      · have hlt' : (i : Int) < d.length := by omega
        have hltq : i < e.length := (unhide HL) ▸ hlt
        have hltq' : (i : Int) < e.length := by omega
        obtain ⟨gg, off, rfl, hcells⟩ := (unhide HX).resolve_left (fun e => by rw [e] at hlt; cases hlt)
        obtain ⟨g2, off2, rfl, hcells2⟩ := (unhide HX2).resolve_left (fun e => by rw [e] at hltq; cases hltq)
        obtain ⟨u0, x0, hru⟩ := hcells i d[i] (List.getElem?_eq_getElem hlt)
        obtain ⟨v0, z0, hrv⟩ := hcells2 i e[i] (List.getElem?_eq_getElem hltq)
        have y0 := below_cell (unhide hbl) _ _ x0
        have t0 := below_cell (unhide hbl) _ _ z0
        have hru' := hru.of (below_cell (unhide hbl))
        have hrv' := hrv.of (below_cell (unhide hbl))
        have hsz := ((unhide HS).2 d[i] (List.getElem_mem hlt)).1
        have Hne : Hid (d[i] ≠ e[i] → b = false) := hide fun h => by
          rw [← unhide Hb, decide_eq_false]
          intro e
          subst e
          exact h rfl
        have Hyes : Hid (d[i] = e[i] → d.take (i + 1) = e.take (i + 1)) := hide fun h => take_ext (unhide HL) hlt (unhide hall) h
        clear x0 z0 hcells hcells2 hru hrv
        generalize d[i] = x at *
        generalize e[i] = z at *
        have hbt : ∀ o o', Below wr.heap.size wr ((wr.alloc o).alloc o') := fun o o' => ((Below.refl _ _).alloc (Nat.le_refl _) o).alloc (by simp) o'
        have H := hide fun o o' => samePart_any x z u0 v0 ((wr.alloc o).alloc o') (hru'.below (hbt o o')) (hrv'.below (hbt o o')) hsz
        obtain ⟨ua, uc, rfl, _, _⟩ := hru'
        obtain ⟨va, vc, rfl, _, _⟩ := hrv'
        have HBT := hide hbt
        have t0' : ∀ o, (wr.alloc o).cell? ⟨g2, off2 + i, none⟩ = some (.slice va z.length vc) := fun o => below_cell ((Below.refl _ _).alloc (Nat.le_refl _) o) _ _ t0
        clear hbt t0
        by_cases he : x = z
        · rw [decide_eq_true he] at H
          have Hn := hide ((unhide Hyes) he)
          clear Hyes Hne HX HX2 hall he hsz HS
          go_wp2_with fail
          refine ((unhide H) _ _).mono ?_
          rintro e w1 ⟨rfl, hb⟩
          have HB1 := hide ((unhide hbl).trans (((unhide HBT) _ _).trans (hb.mono (by simp; omega)) |>.mono (unhide hbl).size))
          clear hb H HBT t0' y0
          go_wp2
          go_roundw
          case rel => exact ⟨i + 1, by omega, by simp, Hn, HB1⟩
          case measure => simp [intOf]; omega
        · rw [decide_eq_false he] at H
          obtain rfl := (unhide Hne) he
          clear Hyes Hne HX HX2 hall he hsz HS
          go_wp2_with fail
          refine ((unhide H) _ _).mono ?_
          rintro e w1 ⟨rfl, hb⟩
          have HB1 := hide ((unhide hbl).trans (((unhide HBT) _ _).trans (hb.mono (by simp; omega)) |>.mono (unhide hbl).size))
          clear hb H HBT t0' y0
          go_wp2
          go_ret
          exact ⟨rfl, unhide HB1⟩
      · have hge : ¬ (i : Int) < d.length := by omega
        have hbt : b = true := by
          rw [← unhide Hb, decide_eq_true]
          have := unhide hall
          have hlq := unhide HL
          rwa [List.take_of_length_le (by omega), List.take_of_length_le (by omega)] at this
        subst hbt
        clear hall HX HX2
        go_wp2
        go_ret
        exact ⟨rfl, unhide hbl⟩
  · have hll : ((d.length : Int) != (e.length : Int)) = true := by rw [bne_iff_ne]; omega
    rw [decide_eq_false (fun h => hl (by rw [h]))]
    clear hx hx2 hs
    go_enter Tryz.func36, Tryz.ntmps36
    go_wp2
    go_ret
    exact ⟨rfl, Below.refl _ _⟩
theorem same_any (d e : Nm) (u v : Value) (w : World) (hR : Nml w u d) (hQ : Nml w v e) (hs : Sm d) :
    Calls Tryz.prog 21 #[u, v] w fun en w' => en = .returned (.bool (decide (d = e))) ∧ Below w.heap.size w w' := by
  have H := hide (equalFunc_any d e u v w hR hQ hs)
  obtain ⟨ad, cap, rfl, _, _⟩ := hR
  obtain ⟨ad2, cap2, rfl, _, _⟩ := hQ
  generalize decide (d = e) = b at *
  clear hs
  go_enter Tryz.func21, Tryz.ntmps21
  go_wp2_with fail
  refine (unhide H).mono ?_
  rintro e w1 ⟨rfl, hb⟩
  have HB := hide hb
  clear hb
  go_wp2
  go_ret
  exact ⟨rfl, unhide HB⟩
/-- a name's end lies where the name lies. -/
theorem Nml.tail {W : World} {a : Option Addr} {n cap : Nat} {d : Nm} (h : Nml W (.slice a n cap) d) (k : Nat) (hk : k ≤ d.length) : Nml W (.slice (a.map fun p => p.add k) (d.length - k) (cap - k)) (d.drop k) := by
  obtain ⟨a', cap', e, hc, hx⟩ := h
  cases e
  refine ⟨_, _, by rw [List.length_drop], by rw [List.length_drop]; omega, ?_⟩
  rcases hx with h | ⟨g, off, rfl, hx⟩
  · left; rw [h]; simp
  · right
    refine ⟨g, off + k, by simp [Addr.add_lit], fun i r hr => ?_⟩
    rw [List.getElem?_drop] at hr
    have := hx (k + i) r hr
    rwa [show off + (k + i) = off + k + i by omega] at this
end Go.Proofs.YthfcnjcpanoldaaGreatDoor.D
