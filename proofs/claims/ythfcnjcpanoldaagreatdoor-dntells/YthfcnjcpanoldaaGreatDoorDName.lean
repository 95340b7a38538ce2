/-
  What lies in memory of a name; what keeps it from being right: checkAva, checkRdn, check. Conditions: the package-level variables hold what the program's text lays ('Glob').
-/
import Derived.Test.YthfcnjcpanoldaaGreatDoorDErrno
import Derived.Test.YthfcnjcpanoldaaGreatDoorDNums
import Derived.Test.YthfcnjcpanoldaaGreatDoorDPure2
namespace Go.Proofs.YthfcnjcpanoldaaGreatDoor.D
open Go Go.RowKit Go.Shelf Dp
attribute [local go_sem] Oper.semAt_some

/-- the parts r lie at the slice v. -/
def Rdl (W : World) (v : Value) (r : Rd) : Prop := ∃ a cap, v = .slice a r.length cap ∧ r.length ≤ cap ∧
  (r = [] ∨ ∃ g off, a = some ⟨g, off, none⟩ ∧ ∀ (i : Nat) x, r[i]? = some x → W.cell? ⟨g, off + i * 2, none⟩ = some (.string x.1) ∧ W.cell? ⟨g, off + i * 2 + 1, none⟩ = some (.string x.2))
/-- the name d lies at the slice v. -/
def Nml (W : World) (v : Value) (d : Nm) : Prop := ∃ a cap, v = .slice a d.length cap ∧ d.length ≤ cap ∧
  (d = [] ∨ ∃ g off, a = some ⟨g, off, none⟩ ∧ ∀ (i : Nat) r, d[i]? = some r → ∃ u, W.cell? ⟨g, off + i, none⟩ = some u ∧ Rdl W u r)
theorem Rdl.of {W W' : World} {v : Value} {r : Rd} (h : Rdl W v r) (hb : ∀ p x, W.cell? p = some x → W'.cell? p = some x) : Rdl W' v r := by
  obtain ⟨a, cap, e, hc, h | ⟨g, off, ha, hx⟩⟩ := h
  · exact ⟨a, cap, e, hc, .inl h⟩
  · exact ⟨a, cap, e, hc, .inr ⟨g, off, ha, fun i x hi => ⟨hb _ _ (hx i x hi).1, hb _ _ (hx i x hi).2⟩⟩⟩
theorem Nml.of {W W' : World} {v : Value} {d : Nm} (h : Nml W v d) (hb : ∀ p x, W.cell? p = some x → W'.cell? p = some x) : Nml W' v d := by
  obtain ⟨a, cap, e, hc, h | ⟨g, off, ha, hx⟩⟩ := h
  · exact ⟨a, cap, e, hc, .inl h⟩
  · refine ⟨a, cap, e, hc, .inr ⟨g, off, ha, fun i r hi => ?_⟩⟩
    obtain ⟨u, h1, h2⟩ := hx i r hi
    exact ⟨u, hb _ _ h1, h2.of hb⟩
theorem below_cell {W W' : World} (hb : Below W.heap.size W W') : ∀ (p : Addr) x, W.cell? p = some x → W'.cell? p = some x := fun _ _ h => (hb.cell (lt_cell h)).trans h
theorem Rdl.below {W W' : World} {v : Value} {r : Rd} (h : Rdl W v r) (hb : Below W.heap.size W W') : Rdl W' v r := h.of (below_cell hb)
theorem Nml.below {W W' : World} {v : Value} {d : Nm} (h : Nml W v d) (hb : Below W.heap.size W W') : Nml W' v d := h.of (below_cell hb)
/-- no part is large. -/
def SmR (r : Rd) : Prop := r.length ≤ 1000 ∧ ∀ a ∈ r, a.1.size ≤ 1000 ∧ a.2.size ≤ 1000
def Sm (d : Nm) : Prop := d.length ≤ 1000 ∧ ∀ r ∈ d, SmR r
theorem Rdl.nil (W : World) : Rdl W (.slice none 0 0) [] := ⟨none, 0, rfl, Nat.le_refl _, .inl rfl⟩
theorem Nml.nil (W : World) : Nml W (.slice none 0 0) [] := ⟨none, 0, rfl, Nat.le_refl _, .inl rfl⟩

theorem checkAva_ok (t v : ByteArray) (w : World) (ht : t.size ≤ 1000) (h : okA (t, v) = true) :
    Calls Tryz.prog 68 #[.agg #[.string t, .string v]] w fun e w' => e = .returned .nilIface ∧ Below w.heap.size w w' := by
  unfold okA at h
  rw [Bool.and_eq_true, decide_eq_true_eq] at h
  have HB := hide ((Below.refl w.heap.size w).alloc (Nat.le_refl _) (.cells #[.string t, .string v] 39))
  have H := hide fun W => isType_any t W ht
  rw [h.1] at H
  have hv : (v.size : Int) ≤ 60 := by have := h.2; dsimp only at this; omega
  have Hx : Hid ((w.alloc (.cells #[.string t, .string v] 39)).cell? ⟨w.heap.size, 1, none⟩ = some (.string v)) := hide (by rw [World.cell?_alloc_at _ _ _ _ rfl]; rfl)
  clear h
  go_enter Tryz.func68, Tryz.ntmps68
  go_wp2_with fail
  refine ((unhide H) _).mono ?_
  rintro e w1 ⟨rfl, hb⟩
  have HB1 := hide ((unhide HB).trans (hb.mono (by simp)))
  have c1 := below_cell hb _ _ (unhide Hx)
  clear hb
  go_wp2
  go_ret
  exact ⟨rfl, unhide HB1⟩
theorem checkAva_no (t v : ByteArray) (a : Ad) (w : World) (g : Glob a w) (ht : t.size ≤ 1000) (h : okA (t, v) = false) :
    Calls Tryz.prog 68 #[.agg #[.string t, .string v]] w fun e w' => ∃ T x, e = .returned (.iface T x) ∧ Er0 a (.iface T x) ∧ Below w.heap.size w w' := by
  unfold okA at h
  have HB := hide ((Below.refl w.heap.size w).alloc (Nat.le_refl _) (.cells #[.string t, .string v] 39))
  have H := hide fun W => isType_any t W ht
  have Hx : Hid ((w.alloc (.cells #[.string t, .string v] 39)).cell? ⟨w.heap.size, 1, none⟩ = some (.string v)) := hide (by rw [World.cell?_alloc_at _ _ _ _ rfl]; rfl)
  have Hg := hide (g.alloc (.cells #[.string t, .string v] 39))
  cases hty : isTy t
  · rw [hty] at H
    clear h g hty
    go_enter Tryz.func68, Tryz.ntmps68
    go_wp2_with fail
    refine ((unhide H) _).mono ?_
    rintro e w1 ⟨rfl, hb⟩
    have HB1 := hide ((unhide HB).trans (hb.mono (by simp)))
    have c1 := ((unhide Hg).below (Nat.le_refl _) hb).vt
    clear hb
    go_wp2
    go_ret
    exact ⟨_, _, rfl, .inl rfl, unhide HB1⟩
  · rw [hty] at H
    rw [hty, Bool.true_and, decide_eq_false_iff_not] at h
    have hv : (60 : Int) < v.size := by dsimp only at h; omega
    clear h g hty
    go_enter Tryz.func68, Tryz.ntmps68
    go_wp2_with fail
    refine ((unhide H) _).mono ?_
    rintro e w1 ⟨rfl, hb⟩
    have HB1 := hide ((unhide HB).trans (hb.mono (by simp)))
    have c1 := below_cell hb _ _ (unhide Hx)
    have c2 := ((unhide Hg).below (Nat.le_refl _) hb).vl
    clear hb
    go_wp2
    go_ret
    exact ⟨_, _, rfl, .inr (.inl rfl), unhide HB1⟩

/-- what checkRdn, check leave. -/
def RPost (ok : Bool) (Er : Value → Prop) (w : World) (e : Ending) (w' : World) : Prop := Below w.heap.size w w' ∧ ((ok = true ∧ e = .returned .nilIface) ∨ (ok = false ∧ ∃ T x, e = .returned (.iface T x) ∧ Er (.iface T x)))

set_option maxRecDepth 100000 in
set_option maxHeartbeats 2000000 in
theorem checkRdn_any (r : Rd) (v : Value) (a : Ad) (w : World) (g : Glob a w) (hR : Rdl w v r) (hs : SmR r) :
    Calls Tryz.prog 46 #[.agg #[v]] w (RPost (okR r) (Er1 a) w) := by
  obtain ⟨ad, cap, rfl, hcap, hx⟩ := hR
  have HB := hide ((Below.refl w.heap.size w).alloc (Nat.le_refl _) (.cells #[.slice ad r.length cap] 42))
  have Hg := hide g
  have gc := (g.alloc (.cells #[.slice ad r.length cap] 42)).vc
  have HX := hide hx
  have HS := hide hs
  have hl : (r.length : Int) ≤ 1000 := by have := hs.1; omega
  clear hx hs hcap g
  by_cases h0 : r.length = 0
  · have hno : okR r = false := by unfold okR; rw [h0]; rfl
    have h0' : ((r.length : Int) == 0) = true := by rw [h0]; rfl
    rw [hno]
    clear hno
    have h0'' : (r.length : Int) = 0 := by omega
    clear h0
    go_enter Tryz.func46, Tryz.ntmps46
    go_wp2
    go_ret
    exact ⟨unhide HB, .inr ⟨rfl, _, _, rfl, .inl rfl⟩⟩
  · have h0' : ((r.length : Int) == 0) = false := by rw [beq_eq_false_iff_ne]; omega
    by_cases h3 : r.length ≤ 3
    · have h3' : ¬ (3 : Int) < r.length := by omega
      have hok : okR r = r.all okA := by unfold okR; rw [decide_eq_true (by omega), decide_eq_true h3]; rfl
      have Hok := hide hok
      clear hok h0
      go_enter Tryz.func46, Tryz.ntmps46
      go_wp2
      go_loopw [20] (fun y wr => ∃ i : Nat, i ≤ r.length ∧ y = .int .i64 i ∧ Hid ((r.take i).all okA = true) ∧ Hid (Below w.heap.size w wr))
        (fun y _ => r.length - (intOf y).toNat)
      case atStart => exact ⟨0, Nat.zero_le _, rfl, hide rfl, HB⟩
      case round =>
        obtain ⟨i, hi, rfl, hall, hb⟩ := hrel
        clear gc
        by_cases hlt : i < r.length
        · have hlt' : (i : Int) < r.length := by omega
          obtain ⟨gg, off, rfl, hcells⟩ := (unhide HX).resolve_left (fun e => by rw [e] at hlt; cases hlt)
          obtain ⟨x0, x1⟩ := hcells i r[i] (List.getElem?_eq_getElem hlt)
          have y0 := below_cell (unhide hb) _ _ x0
          have y1 := below_cell (unhide hb) _ _ x1
          have hsz := (unhide HS).2 r[i] (List.getElem_mem hlt)
          have hta : (r.take (i + 1)).all okA = ((r.take i).all okA && okA r[i]) := by
            rw [List.take_succ_eq_append_getElem hlt, List.all_append]
            simp
          have Hta := hide hta
          have hma : okA r[i] = false → r.all okA = false := fun h => List.all_eq_false.2 ⟨r[i], List.getElem_mem hlt, by rw [h]; simp⟩
          have Hma := hide hma
          clear x0 x1 hcells hta hma
          generalize r[i] = x at *
          obtain ⟨xt, xv⟩ := x
          dsimp only at y0 y1 hsz
          cases hk : okA (xt, xv)
          · have Hno : Hid (okR r = false) := hide ((unhide Hok).trans ((unhide Hma) hk))
            have H := hide fun W g => checkAva_no xt xv a W g hsz.1 hk
            have hb2 := hide ((unhide hb).alloc (unhide hb).size (.cells #[.string xt, .string xv] 39))
            clear hk Hta Hma HX HS Hok
            go_wp2_with fail
            refine ((unhide H) _ ((unhide Hg).below (Nat.le_refl _) (unhide hb2))).mono ?_
            rintro e w2 ⟨T, xx, rfl, he, hb3⟩
            have HBB := hide ((unhide hb2).trans (hb3.mono (unhide hb2).size))
            have He := hide he
            clear he hb3 H
            go_wp2
            go_ret
            exact ⟨unhide HBB, .inr ⟨unhide Hno, _, _, rfl, .inr ⟨_, _, unhide He, rfl⟩⟩⟩
          · have H := hide fun W => checkAva_ok xt xv W hsz.1 hk
            have hb2 := hide ((unhide hb).alloc (unhide hb).size (.cells #[.string xt, .string xv] 39))
            have Hn : Hid ((r.take (i + 1)).all okA = true) := hide (by rw [unhide Hta, unhide hall, hk]; rfl)
            clear hk Hta Hma HX HS Hok hall
            go_wp2_with fail
            refine ((unhide H) _).mono ?_
            rintro e w2 ⟨rfl, hb3⟩
            have HBB := hide ((unhide hb2).trans (hb3.mono (unhide hb2).size))
            clear hb3 H
            go_wp2
            go_roundw
            case rel => exact ⟨i + 1, by omega, by simp, Hn, HBB⟩
            case measure => simp [intOf]; omega
        · have hge : ¬ (i : Int) < r.length := by omega
          have Hf : Hid (okR r = true) := hide (by
            have := unhide hall
            rw [List.take_of_length_le (by omega)] at this
            rw [unhide Hok]; exact this)
          clear hall HX HS Hok
          go_wp2
          go_ret
          exact ⟨unhide hb, .inl ⟨unhide Hf, rfl⟩⟩
    · have h3' : (3 : Int) < r.length := by omega
      have hno : okR r = false := by unfold okR; rw [decide_eq_false h3]; simp
      rw [hno]
      clear hno h0 h3
      go_enter Tryz.func46, Tryz.ntmps46
      go_wp2
      go_ret
      exact ⟨unhide HB, .inr ⟨rfl, _, _, rfl, .inl rfl⟩⟩

set_option maxRecDepth 100000 in
set_option maxHeartbeats 2000000 in
theorem check_any (d : Nm) (v : Value) (a : Ad) (w : World) (g : Glob a w) (hR : Nml w v d) (hs : Sm d) :
    Calls Tryz.prog 29 #[v] w (RPost (okN d) (Er2 a) w) := by
  obtain ⟨ad, cap, rfl, hcap, hx⟩ := hR
  have HB := hide (Below.refl w.heap.size w)
  have Hg := hide g
  have gc := g.vc
  have HX := hide hx
  have HS := hide hs
  have hl : (d.length : Int) ≤ 1000 := by have := hs.1; omega
  clear hx hs hcap g
  by_cases h3 : d.length ≤ 8
  · have h3' : ¬ (8 : Int) < d.length := by omega
    have hok : okN d = d.all okR := by unfold okN; rw [decide_eq_true h3]; rfl
    have Hok := hide hok
    clear hok
    go_enter Tryz.func29, Tryz.ntmps29
    go_wp2
    go_loopw [12] (fun y wr => ∃ i : Nat, i ≤ d.length ∧ y = .int .i64 i ∧ Hid ((d.take i).all okR = true) ∧ Hid (Below w.heap.size w wr))
      (fun y _ => d.length - (intOf y).toNat)
    case atStart => exact ⟨0, Nat.zero_le _, rfl, hide rfl, HB⟩
    case round =>
      obtain ⟨i, hi, rfl, hall, hb⟩ := hrel
      clear gc
      by_cases hlt : i < d.length
      · have hlt' : (i : Int) < d.length := by omega
        obtain ⟨gg, off, rfl, hcells⟩ := (unhide HX).resolve_left (fun e => by rw [e] at hlt; cases hlt)
        obtain ⟨u, x0, hru⟩ := hcells i d[i] (List.getElem?_eq_getElem hlt)
        have y0 := below_cell (unhide hb) _ _ x0
        have hru' := hru.of (below_cell (unhide hb))
        have hsz := (unhide HS).2 d[i] (List.getElem_mem hlt)
        have hta : (d.take (i + 1)).all okR = ((d.take i).all okR && okR d[i]) := by
          rw [List.take_succ_eq_append_getElem hlt, List.all_append]
          simp
        have Hta := hide hta
        have hma : okR d[i] = false → d.all okR = false := fun h => List.all_eq_false.2 ⟨d[i], List.getElem_mem hlt, by rw [h]; simp⟩
        have Hma := hide hma
        clear x0 hcells hta hma hru
        generalize d[i] = x at *
        have hb2 := hide ((unhide hb).alloc (unhide hb).size (.cells #[u] 42))
        have H := hide (checkRdn_any x u a (wr.alloc (.cells #[u] 42)) ((unhide Hg).below (Nat.le_refl _) (unhide hb2)) (hru'.below ((Below.refl _ _).alloc (Nat.le_refl _) _)) hsz)
        obtain ⟨ua, uc, rfl, _, _⟩ := hru'
        cases hk : okR x
        · rw [hk] at H
          have Hno : Hid (okN d = false) := hide ((unhide Hok).trans ((unhide Hma) hk))
          clear hk Hta Hma HX HS Hok hsz
          go_wp2_with fail
          refine (unhide H).mono ?_
          rintro e w2 ⟨hb3, ⟨hf, _⟩ | ⟨_, T, xx, rfl, he⟩⟩
          · cases hf
          have HBB := hide ((unhide hb2).trans (hb3.mono (unhide hb2).size))
          have He := hide he
          clear he hb3 H
          go_wp2
          go_ret
          exact ⟨unhide HBB, .inr ⟨unhide Hno, _, _, rfl, .inr ⟨_, _, unhide He, rfl⟩⟩⟩
        · rw [hk] at H
          have Hn : Hid ((d.take (i + 1)).all okR = true) := hide (by rw [unhide Hta, unhide hall, hk]; rfl)
          clear hk Hta Hma HX HS Hok hall hsz
          go_wp2_with fail
          refine (unhide H).mono ?_
          rintro e w2 ⟨hb3, ⟨_, rfl⟩ | ⟨hf, _⟩⟩
          case inr => cases hf
          have HBB := hide ((unhide hb2).trans (hb3.mono (unhide hb2).size))
          clear hb3 H
          go_wp2
          go_roundw
          case rel => exact ⟨i + 1, by omega, by simp, Hn, HBB⟩
          case measure => simp [intOf]; omega
      · have hge : ¬ (i : Int) < d.length := by omega
        have Hf : Hid (okN d = true) := hide (by
          have := unhide hall
          rw [List.take_of_length_le (by omega)] at this
          rw [unhide Hok]; exact this)
        clear hall HX HS Hok
        go_wp2
        go_ret
        exact ⟨unhide hb, .inl ⟨unhide Hf, rfl⟩⟩
  · have h3' : (8 : Int) < d.length := by omega
    have hno : okN d = false := by unfold okN; rw [decide_eq_false h3]; simp
    rw [hno]
    clear hno h3
    go_enter Tryz.func29, Tryz.ntmps29
    go_wp2
    go_ret
    exact ⟨unhide HB, .inr ⟨rfl, _, _, rfl, .inl rfl⟩⟩
end Go.Proofs.YthfcnjcpanoldaaGreatDoor.D
