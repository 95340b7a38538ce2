/-
  What the document's own Unbase answers. Conditions: none.
-/
import Derived.Test.YthpcglagjbhglaaDoorCRough
namespace Go.Proofs.YthpcglagjbhglaaDoor.C
open Go Go.RowKit Cd
attribute [local go_sem] Oper.semAt_some

theorem three_str (X : Nat) (hX : X < 16777216) : (strOfNums [(X : Int) / 65536, (X : Int) / 256 % 256, (X : Int) % 256]).data.toList = unp X 3 := by
  rw [unp3]
  show [UInt8.ofNat ((X : Int) / 65536).toNat, UInt8.ofNat ((X : Int) / 256 % 256).toNat, UInt8.ofNat ((X : Int) % 256).toNat] = _
  rw [show ((X : Int) / 65536).toNat = X / 65536 by omega, show ((X : Int) / 256 % 256).toNat = X / 256 % 256 by omega, show ((X : Int) % 256).toNat = X % 256 by omega]
  rw [show UInt8.ofNat (X / 256 % 256) = UInt8.ofNat (X / 256) from UInt8.toNat.inj (by simp), show UInt8.ofNat (X % 256) = UInt8.ofNat X from UInt8.toNat.inj (by simp)]
set_option linter.unusedSimpArgs false in
set_option maxRecDepth 100000 in
set_option maxHeartbeats 4000000 in
theorem refUnbase_any (s : ByteArray) (w : World) (hs : s.size ≤ 1000) :
    Calls Tryd.prog 12 #[.string s] w (UPost kB s w) := by
  have hmx : Tryd.prog.follows .mixedOrders = true := by kernel_rfl
  have hs' : (s.size : Int) ≤ 1000 := by omega
  by_cases h4 : s.size % 4 = 0
  · have h4' : (s.size : Int) % 4 = 0 := by omega
    go_enter Tryd.func12, Tryd.ntmps12
    go_wp2
    have H4 := hide h4
    clear h4 h4'
    go_loopw [4, 5] (fun sl ix wr => ∃ (p : Nat) (o : ByteArray), p ≤ s.size ∧ p % 4 = 0 ∧ sl = .string o ∧ ix = .int .i64 (p : Int) ∧ 4 * o.size = 3 * p ∧ o.data.toList ++ rgh (s.data.toList.drop p) = rgh s.data.toList ∧ Below w.heap.size w wr)
      (fun _ ix _ => s.size - (intOf ix).toNat)
    case atStart => exact ⟨0, ⟨#[]⟩, by omega, rfl, rfl, rfl, rfl, rfl, Below.refl _ _⟩
    case round =>
      obtain ⟨p, o, hp, hp4, rfl, rfl, ho, hE, hB⟩ := hrel
      have HB := hide hB
      clear hB
      have ho' : (o.size : Int) ≤ 1000 := by omega
      have hp' : (p : Int) ≤ 1000 := by omega
      by_cases hlt : p < s.size
      · have h4 := unhide H4
        have hl0 : (p : Int) < s.size := by omega
        have hl1 : (p : Int) + 1 < s.size := by omega
        have hl2 : (p : Int) + 2 < s.size := by omega
        have hl3 : (p : Int) + 3 < s.size := by omega
        have m1 : p + 1 < s.size := by omega
        have m2 : p + 2 < s.size := by omega
        have m3 : p + 3 < s.size := by omega
        clear h4
        obtain ⟨x, hx⟩ : ∃ x, s[p] = x := ⟨_, rfl⟩
        obtain ⟨y, hy⟩ : ∃ y, s[p + 1]'m1 = y := ⟨_, rfl⟩
        obtain ⟨z, hz⟩ : ∃ z, s[p + 2]'m2 = z := ⟨_, rfl⟩
        obtain ⟨u, hu⟩ : ∃ u, s[p + 3]'m3 = u := ⟨_, rfl⟩
        rw [at_drop (p := p) (by omega), at_drop (p := p + 1) (by omega), at_drop (p := p + 2) (by omega), at_drop (p := p + 3) (by omega), hx, hy, hz, hu, rgh, ← List.append_assoc] at hE
        have H0 := hide fun w => value_any x w
        have H1 := hide fun w => value_any y w
        have H2 := hide fun w => value_any z w
        have H3 := hide fun w => value_any u w
        have v0 := vl_lt x
        have v1 := vl_lt y
        have v2 := vl_lt z
        have v3 := vl_lt u
        generalize vl x = i at *
        generalize vl y = j at *
        generalize vl z = k at *
        generalize vl u = m at *
        have hX : i * 262144 + j * 4096 + k * 64 + m < 16777216 := by omega
        have hXe : 262144 * (i : Int) + 4096 * j + 64 * k + m = ((i * 262144 + j * 4096 + k * 64 + m : Nat) : Int) := by omega
        generalize hXX : i * 262144 + j * 4096 + k * 64 + m = X at *
        have HXe := hide hXe
        have HE : Hid ((o ++ strOfNums [(X : Int) / 65536, (X : Int) / 256 % 256, (X : Int) % 256]).data.toList ++ rgh (s.data.toList.drop (p + 4)) = rgh s.data.toList) := by
          show _ = _
          rw [data_app, three_str X hX]
          exact hE
        have Ho := hide ho
        have Hp4 := hide hp4
        have HX := hide hX
        clear hE ho hXe hp4 hXX hX
        go_wp2
        refine region_tail_n 25 hmx (by kernel_rfl) ?_
        simp only [List.take_succ_cons, List.take_zero, List.drop_succ_cons, List.drop_zero]
        refine wst_do (by kernel_rfl) (fun K hK => ?_)
        go_simp
        refine hK.out _ ?_
        clear hK K
        refine wst_do (by kernel_rfl) (fun K hK => ?_)
        go_simp
        refine hK.out _ ?_
        clear hK K
        refine wst_do (by kernel_rfl) (fun K hK => ?_)
        go_simp
        refine hK.out _ ?_
        clear hK K
        refine wst_do (by kernel_rfl) (fun K hK => ?_)
        go_simp
        refine ⟨_, unhide H0 _, hK.out _ ?_⟩
        clear hK K
        have r : IntKind.i64.wrap (262144 * (i : Int)) = 262144 * (i : Int) := i64w _ (by omega) (by omega)
        refine wst_do (by kernel_rfl) (fun K hK => ?_)
        go_simp
        refine hK.out _ ?_
        clear hK K
        clear r
        refine wst_do (by kernel_rfl) (fun K hK => ?_)
        go_simp
        refine hK.out _ ?_
        clear hK K
        refine wst_do (by kernel_rfl) (fun K hK => ?_)
        go_simp
        refine hK.out _ ?_
        clear hK K
        have r : IntKind.i64.wrap ((p : Int) + 1) = (p : Int) + 1 := i64w _ (by omega) (by omega)
        refine wst_do (by kernel_rfl) (fun K hK => ?_)
        go_simp
        refine hK.out _ ?_
        clear hK K
        clear r
        have m1' : (0 : Int) ≤ (p : Int) + 1 := by omega
        have t1 : ((p : Int) + 1).toNat = p + 1 := by omega
        refine wst_do (by kernel_rfl) (fun K hK => ?_)
        go_simp
        refine hK.out _ ?_
        clear hK K
        clear m1' t1
        refine wst_do (by kernel_rfl) (fun K hK => ?_)
        go_simp
        refine ⟨_, unhide H1 _, hK.out _ ?_⟩
        clear hK K
        have r : IntKind.i64.wrap (4096 * (j : Int)) = 4096 * (j : Int) := i64w _ (by omega) (by omega)
        refine wst_do (by kernel_rfl) (fun K hK => ?_)
        go_simp
        refine hK.out _ ?_
        clear hK K
        clear r
        have r : IntKind.i64.wrap (262144 * (i : Int) + 4096 * j) = 262144 * (i : Int) + 4096 * j := i64w _ (by omega) (by omega)
        refine wst_do (by kernel_rfl) (fun K hK => ?_)
        go_simp
        refine hK.out _ ?_
        clear hK K
        clear r
        refine wst_do (by kernel_rfl) (fun K hK => ?_)
        go_simp
        refine hK.out _ ?_
        clear hK K
        refine wst_do (by kernel_rfl) (fun K hK => ?_)
        go_simp
        refine hK.out _ ?_
        clear hK K
        have r : IntKind.i64.wrap ((p : Int) + 2) = (p : Int) + 2 := i64w _ (by omega) (by omega)
        refine wst_do (by kernel_rfl) (fun K hK => ?_)
        go_simp
        refine hK.out _ ?_
        clear hK K
        clear r
        have m2' : (0 : Int) ≤ (p : Int) + 2 := by omega
        have t2 : ((p : Int) + 2).toNat = p + 2 := by omega
        refine wst_do (by kernel_rfl) (fun K hK => ?_)
        go_simp
        refine hK.out _ ?_
        clear hK K
        clear m2' t2
        refine wst_do (by kernel_rfl) (fun K hK => ?_)
        go_simp
        refine ⟨_, unhide H2 _, hK.out _ ?_⟩
        clear hK K
        have r : IntKind.i64.wrap (64 * (k : Int)) = 64 * (k : Int) := i64w _ (by omega) (by omega)
        refine wst_do (by kernel_rfl) (fun K hK => ?_)
        go_simp
        refine hK.out _ ?_
        clear hK K
        clear r
        have r : IntKind.i64.wrap (262144 * (i : Int) + 4096 * j + 64 * k) = 262144 * (i : Int) + 4096 * j + 64 * k := i64w _ (by omega) (by omega)
        refine wst_do (by kernel_rfl) (fun K hK => ?_)
        go_simp
        refine hK.out _ ?_
        clear hK K
        clear r
        refine wst_do (by kernel_rfl) (fun K hK => ?_)
        go_simp
        refine hK.out _ ?_
        clear hK K
        refine wst_do (by kernel_rfl) (fun K hK => ?_)
        go_simp
        refine hK.out _ ?_
        clear hK K
        have r : IntKind.i64.wrap ((p : Int) + 3) = (p : Int) + 3 := i64w _ (by omega) (by omega)
        refine wst_do (by kernel_rfl) (fun K hK => ?_)
        go_simp
        refine hK.out _ ?_
        clear hK K
        clear r
        have m3' : (0 : Int) ≤ (p : Int) + 3 := by omega
        have t3 : ((p : Int) + 3).toNat = p + 3 := by omega
        refine wst_do (by kernel_rfl) (fun K hK => ?_)
        go_simp
        refine hK.out _ ?_
        clear hK K
        clear m3' t3
        refine wst_do (by kernel_rfl) (fun K hK => ?_)
        go_simp
        refine ⟨_, unhide H3 _, hK.out _ ?_⟩
        clear hK K
        have r : IntKind.i64.wrap (262144 * (i : Int) + 4096 * j + 64 * k + m) = 262144 * (i : Int) + 4096 * j + 64 * k + m := i64w _ (by omega) (by omega)
        refine wst_do (by kernel_rfl) (fun K hK => ?_)
        go_simp
        refine hK.out _ ?_
        clear hK K
        clear r
        refine wst_nil ?_
        go_wp2
        simp only [only]
        rw [unhide HXe]
        clear v0 v1 v2 v3 HXe H0 H1 H2 H3 hx hy hz hu
        have hX2 : (X : Int) ≤ 16777215 := by have := unhide HX; omega
        have hcv : (convert 29 9 (.slice (some ⟨wr.heap.size, 0, none⟩) 3 3)).run Tryd.prog (wr.alloc (.cells #[.int .u8 ((X : Int) / 65536), .int .u8 ((X : Int) / 256 % 256), .int .u8 ((X : Int) % 256)] 5)).drew = .ok (.string (strOfNums [(X : Int) / 65536, (X : Int) / 256 % 256, (X : Int) % 256])) (wr.alloc (.cells #[.int .u8 ((X : Int) / 65536), .int .u8 ((X : Int) / 256 % 256), .int .u8 ((X : Int) % 256)] 5)).drew := conv_new wr.drew [(X : Int) / 65536, (X : Int) / 256 % 256, (X : Int) % 256] 3 rfl
        have hz3 : ((strOfNums [(X : Int) / 65536, (X : Int) / 256 % 256, (X : Int) % 256]).size : Int) = 3 := rfl
        have hsz : (o ++ strOfNums [(X : Int) / 65536, (X : Int) / 256 % 256, (X : Int) % 256]).size = o.size + 3 := by rw [ByteArray.size_append]; rfl
        generalize strOfNums [(X : Int) / 65536, (X : Int) / 256 % 256, (X : Int) % 256] = st at *
        have Hsz := hide hsz
        clear hsz
        go_wp2
        go_roundw
        case rel =>
          exact ⟨p + 4, _, by have := unhide Hp4; have := unhide H4; omega, by have := unhide Hp4; omega, rfl, by simp, by have := unhide Hsz; have := unhide Ho; omega, unhide HE, (unhide HB).drew.alloc (by simpa using (unhide HB).size) _⟩
        case measure => simp [intOf]; omega
      · have hge : ¬ (p : Int) < s.size := by omega
        have hpe : p = s.size := by omega
        subst hpe
        rw [List.drop_of_length_le (by simp), show rgh [] = [] from rfl, List.append_nil] at hE
        have ho3 : 4 * o.size = 3 * s.size := ho
        have hlen : s.data.toList.length = s.size := by simp
        have hol : o.data.toList.length = o.size := by simp
        have hmod := unhide H4
        by_cases h1 : 1 < s.size
        · have h1' : (1 : Int) < s.size := by omega
          have ho2' : (2 : Int) ≤ o.size := by omega
          have hsx : s.extract (s.size - 2) s.size = ⟨(s.data.toList.drop (s.size - 2)).toArray⟩ := by
            refine ByteArray.ext (Array.ext' ?_)
            rw [ByteArray.data_extract, Array.toList_extract, List.extract_eq_take_drop]
            exact List.take_of_length_le (by rw [List.length_drop, hlen]; omega)
          have hsl : ∀ wx, (Instr.slice 9 (.string s) (some (.int .i64 ((s.size : Int) - 2))) none none).run Tryd.prog wx = .ok (.string ⟨(s.data.toList.drop (s.size - 2)).toArray⟩) wx := fun wx => by
            have := run_slice_string_l (P := Tryd.prog) (w := wx) (t := 9) (s := s) Tryd.underlying9 .i64 ((s.size : Int) - 2) (by omega) (by omega)
            rw [show ((s.size : Int) - 2).toNat = s.size - 2 by omega, hsx] at this
            exact this
          have hos : ∀ k : Nat, k ≤ o.size → ∀ wx, (Instr.slice 9 (.string o) none (some (.int .i64 ((o.size : Int) - k))) none).run Tryd.prog wx = .ok (.string ⟨(o.data.toList.take (o.size - k)).toArray⟩) wx := fun k hk wx => by
            have := run_slice_string_h (P := Tryd.prog) (w := wx) (t := 9) (s := o) Tryd.underlying9 .i64 ((o.size : Int) - k) (by omega) (by omega)
            rw [show ((o.size : Int) - k).toNat = o.size - k by omega, show o.extract 0 (o.size - k) = ⟨(o.data.toList.take (o.size - k)).toArray⟩ from ByteArray.ext (Array.ext' (by rw [ByteArray.data_extract, Array.toList_extract, List.extract_eq_take_drop]; simp))] at this
            exact this
          by_cases hee : s.data.toList.drop (s.size - 2) = [61, 61]
          · have hsl2 := hsl
            rw [hee] at hsl2
            have hs2 : ∀ wx, (Instr.slice 9 (.string o) none (some (.int .i64 ((o.size : Int) - 2))) none).run Tryd.prog wx = .ok (.string ⟨(o.data.toList.take (o.size - 2)).toArray⟩) wx := hos 2 (by omega)
            have HO : Hid ((⟨(o.data.toList.take (o.size - 2)).toArray⟩ : ByteArray).data.toList = cutE s.data.toList (rgh s.data.toList)) := by
              show o.data.toList.take (o.size - 2) = _
              unfold cutE
              rw [if_pos (by rw [hlen]; exact h1), hlen, if_pos hee, ← hE, hol]
            have ho2 : (⟨(o.data.toList.take (o.size - 2)).toArray⟩ : ByteArray).size ≤ 1000 := by rw [size_mk, List.length_take]; omega
            generalize (⟨(o.data.toList.take (o.size - 2)).toArray⟩ : ByteArray) = o2 at *
            clear hE ho ho3 hlen hol hmod hee hsl hos hsx h1
            have HU := und_rough s o2 (unhide HO)
            have HK := hide (refBase_any o2 wr ho2)
            by_cases hpe : pri kB o2 = s
            · rw [hpe] at HK
              have HD := hide (HU.1 hpe)
              clear HU hpe
              go_wp2_with fail
              refine (unhide HK).mono ?_
              rintro e w1 ⟨rfl, rfl⟩
              go_wp2
              refine bodyPost_ret (v := .tuple #[.string o2, .int .i64 0]) (by simp [results, Tryd.results12, go_sem]) rfl ?_
              exact unhex_yes (unhide HD) (unhide HB)
            · have HD := hide (HU.2 hpe)
              have hne : ((pri kB o2).toList == s.toList) = false := by
                rw [beq_eq_false_iff_ne, ByteArray.toList_eq, ByteArray.toList_eq]
                intro e
                exact hpe (ByteArray.ext (Array.ext' e))
              generalize pri kB o2 = pr at *
              clear HU hpe
              go_wp2_with fail
              refine (unhide HK).mono ?_
              rintro e w1 ⟨rfl, rfl⟩
              go_wp2
              refine bodyPost_ret (v := .tuple #[.string ⟨#[]⟩, .int .i64 50]) (by simp [results, Tryd.results12, go_sem]) rfl ?_
              exact unhex_no (unhide HD) (unhide HB)
          · have hsl2 := hsl
            have hne2 : ((⟨(s.data.toList.drop (s.size - 2)).toArray⟩ : ByteArray).toList == [61, 61]) = false := by
              rw [beq_eq_false_iff_ne, ByteArray.toList_eq]
              exact hee
            have hm1 : s.size - 1 < s.size := by omega
            obtain ⟨c, hc⟩ : ∃ c, s[s.size - 1]'hm1 = c := ⟨_, rfl⟩
            have hcg : s.data.toList.getD (s.data.toList.length - 1) 0 = c := by
              rw [← hc, hlen, List.getD_eq_getElem?_getD, List.getElem?_eq_getElem (by rw [hlen]; exact hm1)]
              rfl
            have htn : ((s.size : Int) - 1).toNat = s.size - 1 := by omega
            by_cases hc61 : c = 61
            · subst hc61
              have hs2 : ∀ wx, (Instr.slice 9 (.string o) none (some (.int .i64 ((o.size : Int) - 1))) none).run Tryd.prog wx = .ok (.string ⟨(o.data.toList.take (o.size - 1)).toArray⟩) wx := hos 1 (by omega)
              have HO : Hid ((⟨(o.data.toList.take (o.size - 1)).toArray⟩ : ByteArray).data.toList = cutE s.data.toList (rgh s.data.toList)) := by
                show o.data.toList.take (o.size - 1) = _
                unfold cutE
                rw [if_pos (by rw [hlen]; exact h1), if_neg (by rw [hlen]; exact hee), if_pos hcg, ← hE, hol]
              have ho2 : (⟨(o.data.toList.take (o.size - 1)).toArray⟩ : ByteArray).size ≤ 1000 := by rw [size_mk, List.length_take]; omega
              generalize (⟨(o.data.toList.take (o.size - 1)).toArray⟩ : ByteArray) = o2 at *
              generalize (⟨(s.data.toList.drop (s.size - 2)).toArray⟩ : ByteArray) = sd at *
              clear hE ho ho3 hlen hol hmod hee hsl hos hsx h1 hcg
              have HU := und_rough s o2 (unhide HO)
              have HK := hide (refBase_any o2 wr ho2)
              by_cases hpe : pri kB o2 = s
              · rw [hpe] at HK
                have HD := hide (HU.1 hpe)
                clear HU hpe
                go_wp2_with fail
                refine (unhide HK).mono ?_
                rintro e w1 ⟨rfl, rfl⟩
                go_wp2
                refine bodyPost_ret (v := .tuple #[.string o2, .int .i64 0]) (by simp [results, Tryd.results12, go_sem]) rfl ?_
                exact unhex_yes (unhide HD) (unhide HB)
              · have HD := hide (HU.2 hpe)
                have hne : ((pri kB o2).toList == s.toList) = false := by
                  rw [beq_eq_false_iff_ne, ByteArray.toList_eq, ByteArray.toList_eq]
                  intro e
                  exact hpe (ByteArray.ext (Array.ext' e))
                generalize pri kB o2 = pr at *
                clear HU hpe
                go_wp2_with fail
                refine (unhide HK).mono ?_
                rintro e w1 ⟨rfl, rfl⟩
                go_wp2
                refine bodyPost_ret (v := .tuple #[.string ⟨#[]⟩, .int .i64 50]) (by simp [results, Tryd.results12, go_sem]) rfl ?_
                exact unhex_no (unhide HD) (unhide HB)
            · have hcn : ((c.toNat : Int) == 61) = false := by
                rw [beq_eq_false_iff_ne]
                intro h
                exact hc61 (UInt8.toNat.inj (by show c.toNat = 61; omega))
              obtain ⟨o2, rfl⟩ : ∃ o2, o = o2 := ⟨_, rfl⟩
              have HO : Hid (o.data.toList = cutE s.data.toList (rgh s.data.toList)) := by
                show _ = _
                unfold cutE
                rw [if_pos (by rw [hlen]; exact h1), if_neg (by rw [hlen]; exact hee), if_neg (by rw [hcg]; exact hc61), ← hE]
              have ho2 : o.size ≤ 1000 := by omega
              generalize (⟨(s.data.toList.drop (s.size - 2)).toArray⟩ : ByteArray) = sd at *
              clear hE ho ho3 hlen hol hmod hee hsl hos hsx h1 hcg hc61
              have HU := und_rough s o (unhide HO)
              have HK := hide (refBase_any o wr ho2)
              by_cases hpe : pri kB o = s
              · rw [hpe] at HK
                have HD := hide (HU.1 hpe)
                clear HU hpe
                go_wp2_with fail
                refine (unhide HK).mono ?_
                rintro e w1 ⟨rfl, rfl⟩
                go_wp2
                refine bodyPost_ret (v := .tuple #[.string o, .int .i64 0]) (by simp [results, Tryd.results12, go_sem]) rfl ?_
                exact unhex_yes (unhide HD) (unhide HB)
              · have HD := hide (HU.2 hpe)
                have hne : ((pri kB o).toList == s.toList) = false := by
                  rw [beq_eq_false_iff_ne, ByteArray.toList_eq, ByteArray.toList_eq]
                  intro e
                  exact hpe (ByteArray.ext (Array.ext' e))
                generalize pri kB o = pr at *
                clear HU hpe
                go_wp2_with fail
                refine (unhide HK).mono ?_
                rintro e w1 ⟨rfl, rfl⟩
                go_wp2
                refine bodyPost_ret (v := .tuple #[.string ⟨#[]⟩, .int .i64 50]) (by simp [results, Tryd.results12, go_sem]) rfl ?_
                exact unhex_no (unhide HD) (unhide HB)
        · have h1' : ¬ (1 : Int) < s.size := by omega
          have HO : Hid (o.data.toList = cutE s.data.toList (rgh s.data.toList)) := by
            show _ = _
            unfold cutE
            rw [if_neg (by rw [hlen]; exact h1), ← hE]
          have ho2 : o.size ≤ 1000 := by omega
          clear hE ho ho3 hlen hol hmod h1
          have HU := und_rough s o (unhide HO)
          have HK := hide (refBase_any o wr ho2)
          by_cases hpe : pri kB o = s
          · rw [hpe] at HK
            have HD := hide (HU.1 hpe)
            clear HU hpe
            go_wp2_with fail
            refine (unhide HK).mono ?_
            rintro e w1 ⟨rfl, rfl⟩
            go_wp2
            refine bodyPost_ret (v := .tuple #[.string o, .int .i64 0]) (by simp [results, Tryd.results12, go_sem]) rfl ?_
            exact unhex_yes (unhide HD) (unhide HB)
          · have HD := hide (HU.2 hpe)
            have hne : ((pri kB o).toList == s.toList) = false := by
              rw [beq_eq_false_iff_ne, ByteArray.toList_eq, ByteArray.toList_eq]
              intro e
              exact hpe (ByteArray.ext (Array.ext' e))
            generalize pri kB o = pr at *
            clear HU hpe
            go_wp2_with fail
            refine (unhide HK).mono ?_
            rintro e w1 ⟨rfl, rfl⟩
            go_wp2
            refine bodyPost_ret (v := .tuple #[.string ⟨#[]⟩, .int .i64 50]) (by simp [results, Tryd.results12, go_sem]) rfl ?_
            exact unhex_no (unhide HD) (unhide HB)
  · have h4' : ((s.size : Int) % 4 == 0) = false := by rw [beq_eq_false_iff_ne]; omega
    have HD := hide (dec_four s.data.toList (by rw [Array.length_toList]; exact h4))
    clear h4
    go_enter Tryd.func12, Tryd.ntmps12
    go_wp2
    refine bodyPost_ret (v := .tuple #[.string ⟨#[]⟩, .int .i64 50]) (by simp [results, Tryd.results12, go_sem]) rfl ?_
    exact unhex_no (unhide HD) (Below.refl _ _)
end Go.Proofs.YthpcglagjbhglaaDoor.C
