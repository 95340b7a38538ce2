/-
  What the document's own Parse and Canon of layer 7 answer. Conditions: none.
-/
import Derived.Test.YthfcnjcpanoldaaGreatDoorDPure3
import Derived.Test.YthfcnjcpanoldaaGreatDoorDRef4
import Derived.Test.YthfcnjcpanoldaaGreatDoorDCut
namespace Go.Proofs.YthfcnjcpanoldaaGreatDoor.D
open Go Go.RowKit Go.Shelf Dp
attribute [local go_sem] Oper.semAt_some

/-- texts lie at the slice v. -/
def Sl (W : World) (v : Value) (L : List ByteArray) : Prop := ∃ a cap, v = .slice a L.length cap ∧
  (L = [] ∨ ∃ g off, a = some ⟨g, off, none⟩ ∧ ∀ (i : Nat) x, L[i]? = some x → W.cell? ⟨g, off + i, none⟩ = some (.string x))
theorem Sl.own {W : World} {base : Nat} {v : Value} {L : List ByteArray} (ho : W.ownsRow base 9 1 v L.length (strs L)) : Sl W v L := by
  have ho' := ho
  rcases ho.2 with ⟨rfl, h0⟩ | ⟨g, cap, cur, rfl, hg, hc, h1, h2, h3, h4⟩
  · have : L = [] := List.length_eq_zero_iff.1 h0
    subst this
    exact ⟨none, 0, rfl, .inl rfl⟩
  · refine ⟨_, cap, rfl, .inr ⟨g, 0, rfl, fun i x hx => ?_⟩⟩
    have c1 := ho'.cells (g := g) rfl i (.string x) (by simp [strs, hx])
    rw [Addr.add_lit] at c1
    exact c1
abbrev dl (x : ByteArray) : List UInt8 := x.data.toList
theorem mp_take {α : Type} (f : List UInt8 → Option α) (L : List ByteArray) (i : Nat) (h : i < L.length) (l : List α) (hl : mp f ((L.take i).map dl) = some l) : mp f ((L.take (i + 1)).map dl) = (f (dl L[i])).map fun a => l ++ [a] := by
  rw [List.take_succ_eq_append_getElem h, List.map_append]
  exact mp_snoc f _ _ l hl
theorem mp_take_bad {α : Type} (f : List UInt8 → Option α) (L : List ByteArray) (i : Nat) (h : i < L.length) (hf : f (dl L[i]) = none) : mp f (L.map dl) = none := by
  have e : L.map dl = (L.take i).map dl ++ [dl L[i]] ++ (L.drop (i + 1)).map dl := by
    conv => lhs; rw [← List.take_append_drop (i + 1) L, List.map_append, List.take_succ_eq_append_getElem h, List.map_append]
    rfl
  rw [e]
  exact mp_bad f _ _ _ hf
theorem pks_dl (s : ByteArray) (c : UInt8) (hc : c ≠ 92) : ((pks s c).map (Pk.g s)).map dl = pcs c s.data.toList := by
  rw [List.map_map]
  exact pks_pcs s c hc

set_option linter.unusedSimpArgs false in
set_option maxRecDepth 100000 in
set_option maxHeartbeats 6000000 in
theorem refParse_any (s : ByteArray) (w : World) (hs : s.size ≤ 900) :
    Calls Tryz.prog 16 #[.string s] w (PaPost (rdN s.data.toList) w) := by
  by_cases h0 : s.size = 0
  · obtain rfl : s = ⟨#[]⟩ := by
      cases s with
      | mk d => congr 1; exact Array.eq_empty_of_size_eq_zero h0
    rw [show rdN (ByteArray.mk #[]).data.toList = some [] from rfl]
    clear h0
    go_enter Tryz.func16, Tryz.ntmps16
    go_wp2
    go_ret2
    exact ⟨Below.refl _ _, .inl ⟨[], _, rfl, rfl, [], 0, World.ownsRow_nil _ _ _ _, Owns.nil _⟩⟩
  · have hne : (s.toList == ([] : List UInt8)) = false := by
      rw [beq_eq_false_iff_ne, ByteArray.toList_eq]
      intro e
      exact h0 (by rw [show s.size = s.data.toList.length from (Array.length_toList).symm, e]; rfl)
    have hne0 : s.data.toList ≠ [] := fun e => h0 (by rw [show s.size = s.data.toList.length from (Array.length_toList).symm, e]; rfl)
    have HP := hide (refPieces_any s 44 w hs (by decide))
    obtain ⟨L, hL⟩ : ∃ L, (pks s 44).map (Pk.g s) = L := ⟨_, rfl⟩
    rw [hL] at HP
    have hLp : mp rvR (L.map dl) = rvN s.data.toList := by rw [← hL, pks_dl s 44 (by decide)]; rfl
    have HLs : Hid (∀ x ∈ L, x.size ≤ 900) := hide (fun x hx => by
      rw [← hL] at hx
      obtain ⟨q, _, rfl⟩ := List.mem_map.1 hx
      rw [ByteArray.size_extract]
      omega)
    have hLl : L.length ≤ 901 := by
      have e := congrArg List.length (pks_dl s 44 (by decide))
      rw [hL, List.length_map] at e
      have := sp_len 44 s.data.toList false []
      have e4 : s.data.toList.length = s.data.size := Array.length_toList
      have e3 : s.data.size = s.size := rfl
      have e2 : (pcs 44 s.data.toList).length = (sp 44 false [] s.data.toList).length := rfl
      omega
    obtain ⟨R, hR⟩ : ∃ R, rdN s.data.toList = R := ⟨_, rfl⟩
    rw [hR]
    have HR : Hid (R = grd okN (mp rvR (L.map dl))) := hide (by rw [hLp, ← hR]; exact rdN_rv _ hne0)
    have HSm : Hid (∀ d, mp rvR (L.map dl) = some d → Sm d) := hide (fun d hd => rvN_sm (by rw [Array.length_toList]; exact hs) (hLp.symm.trans hd))
    clear hR hLp hL hne0 h0
    go_enter Tryz.func16, Tryz.ntmps16
    go_wp2_with fail
    refine (unhide HP).mono ?_
    rintro e w1 ⟨hb1, v1, rfl, ho1⟩
    have HB1 := hide hb1
    obtain ⟨la, lc, rfl, hlx⟩ := Sl.own ho1
    have HX := hide hlx
    have HO0 : Hid (w1.ownsRow w1.heap.size 42 1 (.slice none 0 0) 0 []) := hide (World.ownsRow_nil _ _ _ _)
    clear hb1 ho1 hlx HP hne
    go_wp2
    go_loopw [4, 6] (fun sl y wr => ∃ (i : Nat) (us : List Value) (ds : Nm), i ≤ L.length ∧ y = .int .i64 (i : Int) ∧ Hid (mp rvR ((L.take i).map dl) = some ds) ∧ Hid (wr.ownsRow w1.heap.size 42 1 sl i us) ∧ Hid (Owns wr us ds) ∧ Hid (Below w1.heap.size w1 wr))
      (fun _ y _ => L.length - (intOf y).toNat)
    case atStart => exact ⟨0, [], [], Nat.zero_le _, rfl, hide rfl, HO0, hide (Owns.nil _), hide (Below.refl _ _)⟩
    case round =>
      obtain ⟨i, us, ds, hi, rfl, hds, ho, hus, hb⟩ := hrel
      clear HO0
      by_cases hlt : i < L.length
      · have hlt' : (i : Int) < L.length := by omega
        obtain ⟨gg, off, rfl, hcells⟩ := (unhide HX).resolve_left (fun e => by rw [e] at hlt; cases hlt)
        have y0 := below_cell (unhide hb) _ _ (hcells i L[i] (List.getElem?_eq_getElem hlt))
        have hxz := (unhide HLs) L[i] (List.getElem_mem hlt)
        have Hta := hide (mp_take rvR L i hlt ds (unhide hds))
        have Hbad := hide (mp_take_bad rvR L i hlt)
        clear hcells hds
        generalize L[i] = x at *
        have HP2 := hide (refPieces_any x 43 wr hxz (by decide))
        obtain ⟨M, hM⟩ : ∃ M, (pks x 43).map (Pk.g x) = M := ⟨_, rfl⟩
        rw [hM] at HP2
        have HMp : Hid (mp rvA (M.map dl) = rvR (dl x)) := hide (by rw [← hM, pks_dl x 43 (by decide)]; rfl)
        have HMs : Hid (∀ q ∈ M, q.size ≤ 900) := hide (fun q hq => by
          rw [← hM] at hq
          obtain ⟨z, _, rfl⟩ := List.mem_map.1 hq
          rw [ByteArray.size_extract]
          omega)
        have hMl : M.length ≤ 901 := by
          have e := congrArg List.length (pks_dl x 43 (by decide))
          rw [hM, List.length_map] at e
          have := sp_len 43 x.data.toList false []
          have e4 : x.data.toList.length = x.data.size := Array.length_toList
          have e3 : x.data.size = x.size := rfl
          have e2 : (pcs 43 x.data.toList).length = (sp 43 false [] x.data.toList).length := rfl
          omega
        clear hM
        go_wp2_with fail
        refine (unhide HP2).mono ?_
        rintro e V ⟨hbv, v2, rfl, ho2⟩
        obtain ⟨ma, mc, rfl, hmx⟩ := Sl.own ho2
        have HMX := hide hmx
        have HBV := hide hbv
        have K0 := hide (Kin.first V)
        clear hbv ho2 hmx HP2 y0
        go_wp2
        go_loopw [9] (fun y Z => ∃ (k : Nat) (sl : Value) (rs : Rd), k ≤ M.length ∧ y = .int .i64 (k : Int) ∧ Hid (mp rvA ((M.take k).map dl) = some rs) ∧ rs.length = k ∧ Hid (Kin V sl rs Z))
          (fun y _ => M.length - (intOf y).toNat)
        case atStart => exact ⟨0, .slice none 0 0, [], Nat.zero_le _, rfl, hide rfl, rfl, K0⟩
        case round =>
          obtain ⟨k, sl, rs, hk, rfl, hrs, hrl, hK⟩ := hrel
          rename World => Z
          clear K0
          by_cases hkl : k < M.length
          · have hkl' : (k : Int) < M.length := by omega
            obtain ⟨g2, off2, rfl, hc2⟩ := (unhide HMX).resolve_left (fun e => by rw [e] at hkl; cases hkl)
            have z0 := below_cell ((unhide hK).bel) _ _ (hc2 k M[k] (List.getElem?_eq_getElem hkl))
            have hqz := (unhide HMs) M[k] (List.getElem_mem hkl)
            have Htr := hide (mp_take rvA M k hkl rs (unhide hrs))
            have Hbd := hide (mp_take_bad rvA M k hkl)
            clear hc2 hrs
            generalize M[k] = q at *
            have HA := hide (refAva_any q Z hqz)
            have hrv : rvA (dl q) = if (rva q.data.toList).2 = true then some (rva q.data.toList).1 else none := rfl
            have Hrv := hide hrv
            clear hrv
            generalize rva q.data.toList = rr at *
            obtain ⟨⟨xt, xv⟩, b⟩ := rr
            dsimp only at HA Hrv
            obtain ⟨i0, hi0, hz0, hz1, hz2⟩ := infoA
            have hkz : k ≤ 1000 := by omega
            cases b
            · have Hno : Hid (R = none) := hide (by
                rw [unhide HR, (unhide Hbad) ((unhide HMp).symm.trans ((unhide Hbd) (unhide Hrv)))]
                rfl)
              clear Hbad Hbd Hrv Htr
              go_wp2_with fail
              refine (unhide HA).mono ?_
              rintro e Z1 ⟨rfl, hbz⟩
              have HBZ := hide ((unhide HB1).trans (((unhide hb).trans (((unhide HBV).trans (((unhide hK).bel.trans (hbz.mono (unhide hK).bel.size)).mono (unhide HBV).size)).mono (unhide hb).size)).mono (unhide HB1).size))
              have HBA := hide ((unhide HBZ).alloc (Nat.le_trans (unhide HBZ).size (Nat.le_refl _)) (.cells #[.string xt, .string xv] 39))
              clear hbz HA
              go_wp2
              go_ret2
              exact ⟨unhide HBA, .inr ⟨unhide Hno, rfl⟩⟩
            · have Hnx : Hid (mp rvA ((M.take (k + 1)).map dl) = some (rs ++ [(xt, xv)])) := hide (by rw [unhide Htr, unhide Hrv]; rfl)
              clear Hbad Hbd Hrv Htr
              go_wp2_with fail
              refine (unhide HA).mono ?_
              rintro e Z1 ⟨rfl, hbz⟩
              have KX : Hid (Kin V sl rs (Z1.alloc (.cells #[.string xt, .string xv] 39))) := hide ((((unhide hK).below hbz).below ((Below.refl _ _).alloc (Nat.le_refl _) _)))
              have HN := hide (C.news (Z1.alloc (.cells #[.string xt, .string xv] 39)) [.string xt, .string xv] 39)
              have HO := hide ((unhide KX).own.alloc (.cells #[.string xt, .string xv] 39))
              obtain ⟨cX, fX⟩ := (unhide KX).cl
              have hzX := (unhide KX).lt
              rw [World.size_alloc] at HN hzX
              subst hrl
              clear hbz HA
              go_wp2_with (at_builtin; refine wpList_append_lies _ rfl (.tmp 45) (.tmp 47) 40 rfl (V.heap.size + 1) 39 i0 (.agg #[.string ⟨#[]⟩, .string ⟨#[]⟩]) 2 32 Tryz.underlying40 hi0 hz0 hz1 hz2 rfl (by omega) sl rs.length (flatA rs) rfl (unhide HO) ⟨Z1.heap.size + 1, 0, none⟩ 1 1 [.string xt, .string xv] rfl rfl (unhide HN) (by simp [Value.oneCell']) (by omega) (by unfold maxLen; omega) (by omega) (by simp; omega) (Z1.heap.size + 2) (by simp) ?_; intro g5 cp w4 hown hgrow hat hglt; have hown' : w4.ownsRow (V.heap.size + 1) 39 2 (.slice (some ⟨g5, 0, none⟩) (rs.length + 1) cp) (rs ++ [(xt, xv)]).length (flatA (rs ++ [(xt, xv)])) := (by rw [flatA_snoc, List.length_append]; exact hown); obtain ⟨p1, d1, d2⟩ := (unhide KX).app hgrow hown'; have P1 := hide p1; clear hown hown' hgrow hat hglt p1)
              go_roundw
              case rel => exact ⟨rs.length + 1, _, rs ++ [(xt, xv)], by omega, by simp, Hnx, by simp, P1⟩
              case measure => simp [intOf]; omega
          · have hkl' : ¬ (k : Int) < M.length := by omega
            have Hrr : Hid (rvR (dl x) = some rs) := hide (by
              have := unhide hrs
              rw [List.take_of_length_le (by omega)] at this
              rw [← unhide HMp]; exact this)
            have Hnx : Hid (mp rvR ((L.take (i + 1)).map dl) = some (ds ++ [rs])) := hide (by rw [unhide Hta, unhide Hrr]; rfl)
            obtain ⟨i0, hi0, hz0, hz1, hz2⟩ := infoR
            obtain ⟨cB, fB⟩ := (unhide hK).cl
            have hOw : Own Z sl rs := ⟨_, (unhide hK).own⟩
            obtain ⟨sa, sc, rfl⟩ := hOw.form
            generalize rs.length = cl at *
            have HOw := hide (hOw.below ((Below.refl _ _).alloc (Nat.le_refl _) (.cells #[.slice sa cl sc] 42)))
            have hVZ := (unhide HBV).trans ((unhide hK).bel.mono (unhide HBV).size)
            have HVZ := hide hVZ
            have Hws := hide (((unhide hus).below hVZ).below ((Below.refl _ _).alloc (Nat.le_refl _) (.cells #[.slice sa cl sc] 42)))
            have HoV := hide (own_below (unhide ho) hVZ)
            have HO := hide ((unhide HoV).alloc (.cells #[.slice sa cl sc] 42))
            have HN := hide (C.news Z [.slice sa cl sc] 42)
            have hz1' := (unhide hb).size
            have hz2' := hVZ.size
            have hil : i ≤ 1000 := by omega
            clear hOw hVZ hrs Hrr hrl Hta Hbad
            go_wp2_with (at_builtin; refine wpList_append_lies _ rfl (.tmp 50) (.tmp 52) 22 rfl w1.heap.size 42 i0 (.agg #[.slice none 0 0]) 1 24 Tryz.underlying22 hi0 hz0 hz1 hz2 rfl (by omega) u4 i us rfl (unhide HO) ⟨Z.heap.size, 0, none⟩ 1 1 [.slice sa cl sc] rfl rfl (unhide HN) (by simp [Value.oneCell']) (by omega) (by unfold maxLen; omega) (by omega) (by simp; omega) (Z.heap.size + 1) (by simp) ?_; intro g1 cp w4 hown hgrow hat hglt; have HBB := hide (grown_below (unhide hb) (Nat.le_refl _) (Nat.le_refl _) (unhide ho) (unhide HVZ) hgrow); have HOS := hide (Owns.row ((unhide Hws).snoc (unhide HOw)) (unhide HoV) hgrow); replace hown := hide hown; clear hgrow hat hglt)
            go_roundw
            case rel => exact ⟨i + 1, _, ds ++ [rs], by omega, by simp, Hnx, hown, HOS, HBB⟩
            case measure => simp [intOf]; omega
      · have hge : ¬ (i : Int) < L.length := by omega
        have hds' := unhide hds
        rw [List.take_of_length_le (by omega)] at hds'
        have hdl : ds.length = i := by
          have := mp_len _ _ _ hds'
          rw [List.length_map] at this
          omega
        have hN : NOwn wr u4 ds := ⟨us, _, by rw [hdl]; exact unhide ho, unhide hus⟩
        have HN := hide hN
        have HRi := hide (refRight_any ds u4 wr hN.nml ((unhide HSm) ds hds'))
        have HRe : Hid (R = grd okN (some ds)) := hide (by rw [unhide HR, hds'])
        have HBw := hide ((unhide HB1).trans ((unhide hb).mono (unhide HB1).size))
        clear hds hds' hdl hus ho HX HLs HSm HR hN
        cases hk : okN ds
        · rw [hk] at HRi
          have Hno : Hid (R = none) := hide (by rw [unhide HRe, grd_some, hk]; rfl)
          clear hk HRe
          go_wp2_with fail
          refine (unhide HRi).mono ?_
          rintro e w2 ⟨rfl, rfl⟩
          go_wp2
          go_ret2
          exact ⟨unhide HBw, .inr ⟨unhide Hno, rfl⟩⟩
        · rw [hk] at HRi
          have Hyes : Hid (R = some ds) := hide (by rw [unhide HRe, grd_some, hk]; rfl)
          clear hk HRe
          go_wp2_with fail
          refine (unhide HRi).mono ?_
          rintro e w2 ⟨rfl, rfl⟩
          go_wp2
          go_ret2
          exact ⟨unhide HBw, .inl ⟨ds, _, unhide Hyes, rfl, unhide HN⟩⟩

set_option maxRecDepth 100000 in
set_option maxHeartbeats 2000000 in
theorem refCanon_any (s : ByteArray) (w : World) (hs : s.size ≤ 900) :
    Calls Tryz.prog 18 #[.string s] w fun e w' => e = .returned (.tuple #[.string (can s.data.toList).1, .int .i64 (can s.data.toList).2]) ∧ Below w.heap.size w w' := by
  have H := hide (refParse_any s w hs)
  clear hs
  unfold can
  cases hr : rdN s.data.toList with
  | none =>
    rw [hr] at H
    go_enter Tryz.func18, Tryz.ntmps18
    go_wp2_with fail
    refine (unhide H).mono ?_
    rintro e w1 ⟨hb, ⟨d, v, hf, _⟩ | ⟨_, rfl⟩⟩
    · cases hf
    have HB := hide hb
    clear hb H
    go_wp2
    go_ret2
    exact ⟨rfl, unhide HB⟩
  | some d =>
    rw [hr] at H
    have hok := rdN_ok hr
    have hp : pri d = (pr d, 0) := by unfold pri; rw [hok]; rfl
    have HP := hide fun v W (hn : Nml W v d) => refPrint_any d v W hn (sm_ok hok)
    rw [hp] at HP
    dsimp only at HP ⊢
    generalize pr d = t at *
    clear hp hok hr
    go_enter Tryz.func18, Tryz.ntmps18
    go_wp2_with fail
    refine (unhide H).mono ?_
    rintro e w1 ⟨hb, ⟨d1, v, hf, rfl, hn⟩ | ⟨hf, _⟩⟩
    · cases hf
      have HB := hide hb
      have HP1 := hide ((unhide HP) v w1 hn.nml)
      clear hb H HP hn
      go_wp2_with fail
      refine (unhide HP1).mono ?_
      rintro e w2 ⟨rfl, hb2⟩
      have HB2 := hide ((unhide HB).trans (hb2.mono (unhide HB).size))
      clear hb2 HP1
      go_wp2
      go_ret2
      exact ⟨rfl, unhide HB2⟩
    · cases hf
end Go.Proofs.YthfcnjcpanoldaaGreatDoor.D
