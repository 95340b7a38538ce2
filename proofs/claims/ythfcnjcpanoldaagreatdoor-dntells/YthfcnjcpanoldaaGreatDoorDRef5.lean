/-
  What the document's own pieces and ava of layer 7 answer. Conditions: none.
-/
import Derived.Test.YthfcnjcpanoldaaGreatDoorDRef3
import Derived.Test.YthfcnjcpanoldaaGreatDoorDShown
import Derived.Test.YthfcnjcpanoldaaGreatDoorEC
namespace Go.Proofs.YthfcnjcpanoldaaGreatDoor.D
open Go Go.RowKit Go.Shelf Dp
attribute [local go_sem] Oper.semAt_some

/-- what pieces leaves. -/
def PcPost (L : List ByteArray) (w : World) (e : Ending) (W : World) : Prop := Below w.heap.size w W ∧ ∃ v, e = .returned v ∧ W.ownsRow w.heap.size 9 1 v L.length (strs L)

set_option linter.unusedSimpArgs false in
set_option maxRecDepth 100000 in
set_option maxHeartbeats 6000000 in
theorem refPieces_any (s : ByteArray) (c : UInt8) (w : World) (hs : s.size ≤ 900) (hc : c ≠ 92) :
    Calls Tryz.prog 34 #[.string s, .int .u8 c.toNat] w (PcPost ((pks s c).map (Pk.g s)) w) := by
  obtain ⟨L, hL⟩ : ∃ L, (pks s c).map (Pk.g s) = L := ⟨_, rfl⟩
  rw [hL]
  have HL := hide hL
  have HO0 : Hid (w.ownsRow w.heap.size 9 1 (.slice none 0 0) 0 (strs [])) := hide (World.ownsRow_nil _ _ _ _)
  clear hL
  go_enter Tryz.func34, Tryz.ntmps34
  go_wp2
  go_loopw [5, 6, 7] (fun u y z wr => ∃ (xs : List ByteArray) (f n fr ip : Nat), xs.length ≤ fr ∧ fr ≤ ip ∧ fr ≤ s.size ∧ ip ≤ s.size + 1 ∧ y = .int .i64 (fr : Int) ∧ z = .int .i64 (ip : Int) ∧ Hid (xs ++ (pk s c f n fr (min ip s.size)).map (Pk.g s) = L) ∧ Hid (s.size ≤ min ip s.size + f) ∧ Hid (wr.ownsRow w.heap.size 9 1 u xs.length (strs xs)) ∧ Hid (Below w.heap.size w wr))
    (fun _ _ z _ => s.size + 1 - (intOf z).toNat)
  case atStart => exact ⟨[], s.size, 0, 0, 0, Nat.le_refl _, Nat.le_refl _, Nat.zero_le _, Nat.zero_le _, rfl, rfl, hide (by rw [Nat.zero_min]; exact unhide HL), hide (by omega), HO0, hide (Below.refl _ _)⟩
  case round =>
    obtain ⟨xs, f, n, fr, ip, hxf, hfi, hfs, hip, rfl, rfl, hl, hf, ho, hb⟩ := hrel
    clear HO0 HL
    obtain ⟨i0, hi0, hz0, hz1, hz2⟩ := infoS
    have hzz := (unhide hb).size
    have hfs' : (fr : Int) ≤ s.size := by omega
    by_cases hlt : ip < s.size
    · have hlt' : (ip : Int) < s.size := by omega
      have hi' : (ip : Int) ≤ 1000 := by omega
      have hm : min ip s.size = ip := by omega
      rw [hm] at hl hf
      obtain ⟨f', _, hf', he⟩ := pk_step s c f n fr ip hlt (unhide hf)
      have hnx : nx s ip = if s[ip] = 92 then min (ip + 2) s.size else ip + 1 := by unfold nx; rw [dif_pos hlt]
      have hb92 := beq_int s[ip] 92
      have e92 : (((92 : UInt8).toNat : Nat) : Int) = 92 := rfl
      rw [e92] at hb92
      have hbc := beq_int s[ip] c
      obtain ⟨y, hy⟩ : ∃ y, s[ip] = y := ⟨_, rfl⟩
      rw [hy] at he hnx hb92 hbc
      by_cases h9 : y = 92
      · rw [decide_eq_true h9] at hb92
        rw [if_pos h9] at hnx
        rw [if_neg (fun e => hc (e.symm.trans h9)), hnx] at he
        rw [hnx] at hf'
        have Hn : Hid (xs ++ (pk s c f' n fr (min (ip + 2) s.size)).map (Pk.g s) = L) := hide (by rw [← he]; exact unhide hl)
        have Hf := hide hf'
        clear he hf' hnx hbc h9 hm e92 hl hf
        go_wp2
        go_roundw
        case rel => exact ⟨xs, f', n, fr, ip + 2, hxf, by omega, hfs, by omega, rfl, by first | (simp; done) | (simp; omega) | (congr 1; omega), Hn, Hf, ho, hb⟩
        case measure => simp [intOf]; omega
      · rw [decide_eq_false h9] at hb92
        rw [if_neg h9] at hnx
        rw [hnx] at hf' he
        have hm1 : min (ip + 1) s.size = ip + 1 := by omega
        by_cases hyc : y = c
        · rw [decide_eq_true hyc] at hbc
          rw [if_pos hyc] at he
          obtain ⟨px, hpx⟩ : ∃ px, s.extract fr ip = px := ⟨_, rfl⟩
          have Hn : Hid ((xs ++ [px]) ++ (pk s c f' (n + 1) (ip + 1) (min (ip + 1) s.size)).map (Pk.g s) = L) := hide (by
            rw [hm1, ← unhide hl, he, List.map_cons, ← hpx]
            simp)
          have Hf : Hid (s.size ≤ min (ip + 1) s.size + f') := hide (by rw [hm1]; exact hf')
          have HN := hide (C.news wr [.string px] 9)
          have HO2 := hide ((unhide ho).alloc (.cells #[.string px] 9))
          have hfi' : (fr : Int) ≤ ip := by omega
          have hxl : xs.length ≤ 1000 := by omega
          have hx1 : xs.length + 1 ≤ ip + 1 := by omega
          clear he hf' hnx h9 hm e92 hl hf hm1 hyc
          go_wp2_with (at_builtin; refine wpList_append_lies _ rfl (.tmp 25) (.tmp 30) 51 rfl w.heap.size 9 i0 (.string ⟨#[]⟩) 1 16 Tryz.underlying51 hi0 hz0 hz1 hz2 rfl (by omega) u5 xs.length _ rfl (unhide HO2) ⟨wr.heap.size, 0, none⟩ 1 1 [.string px] rfl rfl (unhide HN) (by simp [Value.oneCell']) (by omega) (by unfold maxLen; omega) (by omega) (by simp; omega) (wr.heap.size + 1) (by simp) ?_; intro g1 cp w4 hown hgrow hat hglt; replace hown := hide hown; replace hgrow := hide (grown_below (unhide hb) (Nat.le_refl _) (Nat.le_refl _) (unhide ho) (Below.refl _ _) hgrow); clear hat hglt hpx)
          go_roundw
          case rel =>
            refine ⟨xs ++ [px], f', n + 1, ip + 1, ip + 1, by simpa using hx1, Nat.le_refl _, by omega, by omega, by simp, by simp, Hn, Hf, ?_, hgrow⟩
            have := unhide hown
            exact hide (by simpa [strs, List.map_append] using this)
          case measure => simp [intOf]; omega
        · rw [decide_eq_false hyc] at hbc
          rw [if_neg hyc] at he
          have Hn : Hid (xs ++ (pk s c f' n fr (min (ip + 1) s.size)).map (Pk.g s) = L) := hide (by rw [hm1, ← he]; exact unhide hl)
          have Hf : Hid (s.size ≤ min (ip + 1) s.size + f') := hide (by rw [hm1]; exact hf')
          clear he hf' hnx h9 hm e92 hl hf hm1 hyc
          go_wp2
          go_roundw
          case rel => exact ⟨xs, f', n, fr, ip + 1, hxf, by omega, hfs, by omega, rfl, by simp, Hn, Hf, ho, hb⟩
          case measure => simp [intOf]; omega
    · have hge : ¬ (ip : Int) < s.size := by omega
      have hm : min ip s.size = s.size := by omega
      rw [hm] at hl hf
      obtain ⟨px, hpx⟩ : ∃ px, s.extract fr s.size = px := ⟨_, rfl⟩
      have HLe : Hid (L = xs ++ [px]) := hide (by
        rw [← unhide hl, pk_end s c f n fr s.size (Nat.lt_irrefl _), ← hpx]
        rfl)
      have HN := hide (C.news wr [.string px] 9)
      have HO2 := hide ((unhide ho).alloc (.cells #[.string px] 9))
      have hxl : xs.length ≤ 1000 := by omega
      clear hl hf hm
      go_wp2_with (at_builtin; refine wpList_append_lies _ rfl (.tmp 34) (.tmp 38) 51 rfl w.heap.size 9 i0 (.string ⟨#[]⟩) 1 16 Tryz.underlying51 hi0 hz0 hz1 hz2 rfl (by omega) u5 xs.length _ rfl (unhide HO2) ⟨wr.heap.size, 0, none⟩ 1 1 [.string px] rfl rfl (unhide HN) (by simp [Value.oneCell']) (by omega) (by unfold maxLen; omega) (by omega) (by simp; omega) (wr.heap.size + 1) (by simp) ?_; intro g1 cp w4 hown hgrow hat hglt; replace hown := hide hown; replace hgrow := hide (grown_below (unhide hb) (Nat.le_refl _) (Nat.le_refl _) (unhide ho) (Below.refl _ _) hgrow); clear hat hglt hpx)
      go_ret
      refine ⟨unhide hgrow, _, rfl, ?_⟩
      rw [unhide HLe]
      have := unhide hown
      simpa [strs, List.map_append] using this

/-- what ava reads. -/
def rva (l : List UInt8) : Av × Bool := match cutE l with
  | none => ((⟨#[]⟩, ⟨#[]⟩), false)
  | some (k, t) => ((⟨k.toArray⟩, (E.und true ⟨t.toArray⟩).1), decide ((E.und true ⟨t.toArray⟩).2 = 0))
theorem cutE_no : ∀ (l : List UInt8), (∀ x ∈ l, x ≠ 61) → cutE l = none
  | [], _ => rfl
  | x :: l, h => by rw [cutE, if_neg (h x (by simp)), cutE_no l (fun y hy => h y (by simp [hy]))]; rfl
theorem finB {V : World} {B : Nat} {tmps : Array Value} {s t : ByteArray} {er : Value} {R : Ending → World → Prop} (t2 : tmps[2]?.getD undef = .pointer (some ⟨B, 0, none⟩)) (t3 : tmps[3]?.getD undef = er) (hc0 : V.cell? ⟨B, 0, none⟩ = some (.string s)) (hc1 : V.cell? ⟨B, 1, none⟩ = some (.string t))
    (hp : R (.returned (.tuple #[.agg #[.string s, .string t], er])) V) :
    bodyPost Tryz.prog Tryz.f35 R Exit.ret { tmps, defers := [] } V := by
  refine bodyPost_ret (v := .tuple #[.agg #[.string s, .string t], er]) ?_ rfl hp
  simp [results, Tryz.results35, go_sem, t2, t3, hc0, hc1]

set_option linter.unusedSimpArgs false in
set_option maxRecDepth 100000 in
set_option maxHeartbeats 2000000 in
theorem refAva_any (s : ByteArray) (w : World) (hs : s.size ≤ 900) :
    Calls Tryz.prog 35 #[.string s] w fun e W => e = .returned (.tuple #[avv (rva s.data.toList).1, .bool (rva s.data.toList).2]) ∧ Below w.heap.size w W := by
  obtain ⟨W0, hW0⟩ : ∃ W0, W0 = w.alloc (.cells #[.string ⟨#[]⟩, .string ⟨#[]⟩] 39) := ⟨_, rfl⟩
  have HB := hide (show Below w.heap.size w W0 by rw [hW0]; exact (Below.refl w.heap.size w).alloc (Nat.le_refl _) _)
  have hx : W0.heap[w.heap.size]? = some (.cells #[.string ⟨#[]⟩, .string ⟨#[]⟩] 39 (0, 0)) := by rw [hW0]; exact World.alloc_heap_new _ _
  have Hx := hide hx
  have cl : Hid (∀ W, Below W0.heap.size W0 W → (W.cell? ⟨w.heap.size, 0, none⟩ = some (.string ⟨#[]⟩) ∧ W.cell? ⟨w.heap.size, 1, none⟩ = some (.string ⟨#[]⟩)) ∧ W.frozen? ⟨w.heap.size, 0, none⟩ = false ∧ W.frozen? ⟨w.heap.size, 1, none⟩ = false) := hide fun W hb => by
    have := (hb.block _ (Array.getElem?_eq_some_iff.1 hx).1).trans hx
    simp [World.cell?, World.frozen?, this]
  obtain ⟨R, hR⟩ : ∃ R, rva s.data.toList = R := ⟨_, rfl⟩
  rw [hR]
  have HR := hide hR
  have hss : (s.size : Int) ≤ 900 := by omega
  have HRN := hide fun t W ht => E.refReadName_any t W ht
  obtain ⟨B, hB⟩ : ∃ B, w.heap.size = B := ⟨_, rfl⟩
  clear hx hR
  go_enter Tryz.func35, Tryz.ntmps35
  go_wp2
  rw [← hW0]
  clear hW0
  go_loopw [4] (fun y wr => ∃ i : Nat, i ≤ s.size ∧ y = .int .i64 (i : Int) ∧ Hid (∀ x ∈ s.data.toList.take i, x ≠ 61) ∧ wr = W0)
    (fun y _ => s.size - (intOf y).toNat)
  case atStart => exact ⟨0, Nat.zero_le _, rfl, hide (by simp), rfl⟩
  case round =>
    obtain ⟨i, hi, rfl, hn, rfl⟩ := hrel
    by_cases hlt : i < s.size
    · have hlt' : (i : Int) < s.size := by omega
      have hb61 := beq_int s[i] 61
      have e61 : (((61 : UInt8).toNat : Nat) : Int) = 61 := rfl
      rw [e61] at hb61
      have hd := drop_at hlt
      have htd := List.take_append_drop i s.data.toList
      have hts : s.data.toList.take (i + 1) = s.data.toList.take i ++ [s[i]] := by rw [List.take_succ_eq_append_getElem (show i < s.data.toList.length by rw [Array.length_toList]; exact hlt)]; rfl
      obtain ⟨y, hy⟩ : ∃ y, s[i] = y := ⟨_, rfl⟩
      rw [hy] at hd hb61 hts
      by_cases h6 : y = 61
      · rw [decide_eq_true h6] at hb61
        obtain ⟨kk, hkk⟩ : ∃ kk, s.extract 0 i = kk := ⟨_, rfl⟩
        obtain ⟨tt, htt⟩ : ∃ tt, s.extract (i + 1) s.size = tt := ⟨_, rfl⟩
        have ek : (⟨(s.data.toList.take i).toArray⟩ : ByteArray) = kk := by
          rw [← hkk]
          refine ByteArray.ext (Array.ext' ?_)
          rw [ext_list]; simp
        have et : (⟨(s.data.toList.drop (i + 1)).toArray⟩ : ByteArray) = tt := by
          rw [← htt]
          refine ByteArray.ext (Array.ext' ?_)
          rw [ext_list, List.take_of_length_le (by rw [Array.length_toList]; exact Nat.le_refl _)]
        have hRv : R = ((kk, (E.und true tt).1), decide ((E.und true tt).2 = 0)) := by
          rw [← unhide HR]
          unfold rva
          have e2 : cutE s.data.toList = some (s.data.toList.take i, s.data.toList.drop (i + 1)) := by
            have := cutE_at (s.data.toList.take i) (s.data.toList.drop (i + 1)) (unhide hn)
            rw [← h6, ← hd, htd] at this
            exact this
          rw [e2]
          show ((_, _), _) = _
          rw [ek, et]
        have htz : tt.size ≤ 1000 := by rw [← htt, ByteArray.size_extract]; omega
        have H := hide ((unhide HRN) tt wr htz)
        have huc := E.und_cases true tt
        unfold E.RPost at H
        generalize E.und true tt = un at *
        obtain ⟨uv, ue⟩ := un
        dsimp only at H hRv huc
        have HRv := hide hRv
        have hi1 : (i : Int) + 1 ≤ s.size := by omega
        clear hRv ek et hts htd hd h6 e61 hn HRN HR htz
        go_wp2_with fail
        try rw [htt]
        refine (unhide H).mono ?_
        rintro e w2 ⟨rfl, hb2⟩
        have Hlx : Hid (w2.heap[B]? = some (.cells #[.string ⟨#[]⟩, .string ⟨#[]⟩] 39 (0, 0))) := hide (by rw [← hB]; exact (hb2.block _ (Array.getElem?_eq_some_iff.1 (unhide Hx)).1).trans (unhide Hx))
        have HB6 := hide ((unhide HB).trans (hb2.mono (unhide HB).size))
        obtain ⟨⟨c0, c1⟩, f0, f1⟩ := (unhide cl) _ hb2
        rw [hB] at c0 c1 f0 f1
        try rw [hB]
        clear hb2 H cl HB Hx
        have Hfin : Hid (∀ b, ((ue : Int) == 0) = b → b = R.2) := hide (by
          intro b h
          rw [← h, unhide HRv]
          show _ = decide (ue = 0)
          rw [Bool.eq_iff_iff]; simp)
        have Hav : Hid (avv R.1 = .agg #[.string kk, .string uv]) := hide (by rw [unhide HRv])
        cases hz : ((ue : Int) == 0)
        · have hbv := (unhide Hfin) _ hz
          have Hbv := hide hbv
          clear hbv Hfin HRv huc
          go_wp2
          try rw [hkk]
          exact finB rfl rfl (set2_cells (unhide Hlx) _ _).1 (set2_cells (unhide Hlx) _ _).2 ⟨by rw [unhide Hav, ← unhide Hbv]; rfl, set2_below (unhide HB6) hB _ _⟩
        · have hbv := (unhide Hfin) _ hz
          have Hbv := hide hbv
          clear hbv Hfin HRv huc
          go_wp2
          try rw [hkk]
          exact finB rfl rfl (set2_cells (unhide Hlx) _ _).1 (set2_cells (unhide Hlx) _ _).2 ⟨by rw [unhide Hav, ← unhide Hbv]; rfl, set2_below (unhide HB6) hB _ _⟩
      · rw [decide_eq_false h6] at hb61
        have Hn : Hid (∀ x ∈ s.data.toList.take (i + 1), x ≠ 61) := hide (by
          rw [hts]
          intro x hx
          rcases List.mem_append.1 hx with h | h
          · exact (unhide hn) x h
          · rw [List.mem_singleton.1 h]; exact h6)
        clear hts htd hd h6 e61 hn
        go_wp2
        go_roundw
        case rel => exact ⟨i + 1, by omega, by simp, Hn, by first | rfl | trivial⟩
        case measure => simp [intOf]; omega
    · have hge : ¬ (i : Int) < s.size := by omega
      have hRv : R = ((⟨#[]⟩, ⟨#[]⟩), false) := by
        rw [← unhide HR]
        unfold rva
        have := unhide hn
        rw [List.take_of_length_le (by rw [Array.length_toList]; show s.size ≤ i; omega)] at this
        rw [cutE_no _ this]
      subst hRv
      obtain ⟨⟨c0, c1⟩, f0, f1⟩ := (unhide cl) wr (Below.refl _ _)
      have Hlx : Hid (wr.heap[B]? = some (.cells #[.string ⟨#[]⟩, .string ⟨#[]⟩] 39 (0, 0))) := hide (by rw [← hB]; exact unhide Hx)
      rw [hB] at c0 c1 f0 f1
      try rw [hB]
      clear hn HR
      go_wp2
      exact finB rfl rfl (set2_cells (unhide Hlx) _ _).1 (set2_cells (unhide Hlx) _ _).2 ⟨rfl, by have h9 := set2_below (unhide HB) hB (.string ⟨#[]⟩) (.string ⟨#[]⟩); rw [hB] at h9; exact h9⟩
end Go.Proofs.YthfcnjcpanoldaaGreatDoor.D
