/-
  What the document's own answers of layer 4 say: Text, IsSafe. Conditions: none.
-/
import Derived.Test.YtpfopmjpchiekaaDoorURef3
namespace Go.Proofs.YtpfopmjpchiekaaDoor.U
open Go Go.RowKit

theorem ext_data {a c : ByteArray} (h : a.data.toList = c.data.toList) : a = c := by
  apply ByteArray.ext
  exact Array.ext' h
set_option maxRecDepth 100000 in
set_option maxHeartbeats 2000000 in
theorem refText_any (l : List Int) (v : Value) (w : World) (hl : l.length ≤ 1000) (hv : Lies w v l) :
    Calls Tryd.prog 16 #[v] w fun e w' => e = .returned (.tuple #[.string (txt l).1, .int .i64 (txt l).2]) ∧ Below w.heap.size w w' := by
  obtain ⟨a, c, rfl, hc⟩ := hv
  go_enter Tryd.func16, Tryd.ntmps16
  go_wp2
  go_loopw [4, 5] (fun o x wr => ∃ (j : Nat) (t : ByteArray), j ≤ l.length ∧ x = .int .i64 (j : Int) ∧ o = .string t ∧ t.data.toList = byt (l.take j) ∧ (l.take j).all isg = true ∧ Below w.heap.size w wr)
    (fun _ x _ => l.length - (intOf x).toNat)
  case atStart => exact ⟨0, ⟨#[]⟩, Nat.zero_le _, rfl, rfl, rfl, rfl, Below.refl _ _⟩
  case round =>
    obtain ⟨j, t, hj, rfl, rfl, ht, hall, hb⟩ := hrel
    by_cases hlt : j < l.length
    · obtain ⟨n, hn⟩ : ∃ n, l[j]? = some n := ⟨_, List.getElem?_eq_getElem hlt⟩
      obtain ⟨b, o, rfl, hcell⟩ : ∃ b o, a = some ⟨b, o, none⟩ ∧ ∀ (i : Nat) n, l[i]? = some n → w.cell? ⟨b, o + i, none⟩ = some (.int .i64 n) := by
        rcases hc with rfl | h
        · simp at hlt
        · exact h
      have hcj : wr.cell? ⟨b, o + j, none⟩ = some (.int .i64 n) := (hb.cell (lt_of_cell (hcell j n hn))).trans (hcell j n hn)
      have hlt' : (j : Int) < l.length := by omega
      have htk : l.take (j + 1) = l.take j ++ [n] := by
        rw [List.take_succ_eq_append_getElem hlt]
        rw [List.getElem?_eq_getElem hlt] at hn
        rw [Option.some.inj hn]
      have hts : (t.size : Int) ≤ 4000 := by
        have h1 : t.size = (byt (l.take j)).length := by rw [← len_toList, ht]
        have h2 := byt_le (l.take j)
        rw [List.length_take] at h2
        omega
      have HS := hide (refSign_any n wr)
      have HALL := hide hall
      have HB := hide hb
      have HT := hide htk
      have HN := hide hn
      have Ht := hide ht
      have hj2 : (j : Int) ≤ 1000 := by omega
      clear hall hb htk hn hcell hc ht
      by_cases hs : isg n = true
      · obtain ⟨m, rfl, hm⟩ := isg_nat hs
        rw [hs] at HS
        have Hs := hide hs
        have hA := hide (refBytes_any m wr hm)
        have hel := Ut.enc_le m
        have hu : ((str (Ut.enc m)).size : Int) ≤ 4 := by rw [size_mk]; omega
        have hud : (str (Ut.enc m)).data.toList = Ut.enc m := data_mk _
        have Hud := hide hud
        clear hs hm hel hud
        generalize str (Ut.enc m) = u at *
        go_wp2_with fail
        refine (unhide HS).mono ?_
        rintro e w1 ⟨rfl, rfl⟩
        go_wp2_with fail
        refine (unhide hA).mono ?_
        rintro e w2 ⟨rfl, hb2⟩
        have HB2 := hide hb2
        clear hb2
        go_wp2
        go_roundw
        case rel =>
          refine ⟨j + 1, t ++ u, by omega, by simp, rfl, ?_, ?_, step (unhide HB) (unhide HB2)⟩
          · rw [data_append, unhide Ht, unhide Hud, unhide HT, byt_snoc]
            rfl
          · rw [unhide HT, List.all_append, unhide HALL]
            simpa using unhide Hs
        case measure => simp [intOf]; omega
      · have hs' : isg n = false := by simpa using hs
        rw [hs'] at HS
        have Hs := hide hs'
        clear hs hs'
        go_wp2_with fail
        refine (unhide HS).mono ?_
        rintro e w1 ⟨rfl, rfl⟩
        go_wp2
        go_ret2
        refine ⟨?_, unhide HB⟩
        rw [txt_no]
        · rfl
        · rw [List.all_eq_false]
          exact ⟨n, List.mem_of_getElem? (unhide HN), by rw [unhide Hs]; simp⟩
    · have hge : ¬ (j : Int) < l.length := by omega
      have htk : l.take j = l := List.take_of_length_le (by omega)
      rw [htk] at hall ht
      have HALL := hide hall
      have HB := hide hb
      have Ht : t = ⟨(byt l).toArray⟩ := ext_data (by rw [ht, data_mk])
      have HT := hide Ht
      clear hall hb ht htk Ht hc
      go_wp2
      go_ret2
      refine ⟨?_, unhide HB⟩
      rw [txt_ok (unhide HALL)]
      show Ending.returned (.tuple #[.string t, .int .i64 0]) = _
      rw [unhide HT]

/-- is a text safe, by its bytes? -/
theorem safe_split (s : ByteArray) : safe s = true ↔ (∀ q, q < s.size → plain (at_ s q) = true) ∧ (s.size = 0 ∨ ((at_ s 0 ≠ 32 ∧ at_ s 0 ≠ 58 ∧ at_ s 0 ≠ 60) ∧ at_ s (s.size - 1) ≠ 32)) := by
  rw [safe_iff]
  have hk : ∀ q n, ok3 s q n = true ↔ plain n = true ∧ begins q n = true ∧ ends s q n = true := fun q n => by unfold ok3; rw [Bool.and_eq_true, Bool.and_eq_true, and_assoc]
  have hb : ∀ q n, begins q n = true ↔ ¬ (q = 0 ∧ (n = 32 ∨ n = 58 ∨ n = 60)) := fun q n => by
    unfold begins
    simp only [Bool.not_eq_true', Bool.and_eq_false_iff, Bool.or_eq_false_iff, beq_eq_false_iff_ne]
    omega
  have he : ∀ q n, ends s q n = true ↔ ¬ ((q : Int) = (s.size : Int) - 1 ∧ n = 32) := fun q n => by
    unfold ends
    simp only [Bool.not_eq_true', Bool.and_eq_false_iff, decide_eq_false_iff_not, beq_eq_false_iff_ne]
    omega
  constructor
  · intro h
    refine ⟨fun q hq => ((hk _ _).1 (h q hq)).1, ?_⟩
    rcases Nat.eq_zero_or_pos s.size with h0 | h0
    · exact .inl h0
    · right
      have h1 := (hb _ _).1 ((hk _ _).1 (h 0 h0)).2.1
      have h2 := (he _ _).1 ((hk _ _).1 (h (s.size - 1) (by omega))).2.2
      omega
  · rintro ⟨h1, h2⟩ q hq
    refine (hk _ _).2 ⟨h1 q hq, (hb _ _).2 ?_, (he _ _).2 ?_⟩
    · rintro ⟨rfl, h3⟩
      omega
    · rintro ⟨h3, h4⟩
      have : q = s.size - 1 := by omega
      subst this
      omega

set_option maxRecDepth 100000 in
set_option maxHeartbeats 2000000 in
theorem refSafe_any (s : ByteArray) (w : World) (hs : s.size ≤ 1000) :
    Calls Tryd.prog 23 #[.string s] w fun e w' => e = .returned (.bool (safe s)) ∧ Below w.heap.size w w' := by
  have hz : (s.size : Int) ≤ 1000 := by omega
  go_enter Tryd.func23, Tryd.ntmps23
  go_wp2
  go_loopw [3] (fun x wr => ∃ j : Nat, j ≤ s.size ∧ x = .int .i64 (j : Int) ∧ (∀ q, q < j → plain (at_ s q) = true) ∧ wr = w)
    (fun x _ => s.size - (intOf x).toNat)
  case atStart => exact ⟨0, Nat.zero_le _, rfl, fun q h => by omega, rfl⟩
  case round =>
    obtain ⟨j, hj, rfl, hpre, rfl⟩ := hrel
    by_cases hlt : j < s.size
    · have hlt' : (j : Int) < s.size := by omega
      have hat := at_getElem s j hlt
      have Hpre := hide hpre
      have hpl : Hid (plain (at_ s j) = !((s[j]'hlt).toNat == 0 || (s[j]'hlt).toNat == 10 || (s[j]'hlt).toNat == 13 || decide (128 ≤ (s[j]'hlt).toNat))) := by show _ = _; rw [hat]; rfl
      have k0 : (((s[j]'hlt).toNat : Int) == 0) = ((s[j]'hlt).toNat == 0) := beq_cast _ 0
      have k1 : (((s[j]'hlt).toNat : Int) == 10) = ((s[j]'hlt).toNat == 10) := beq_cast _ 10
      have k2 : (((s[j]'hlt).toNat : Int) == 13) = ((s[j]'hlt).toNat == 13) := beq_cast _ 13
      have k3 : decide ((127 : Int) < ((s[j]'hlt).toNat : Int)) = decide (128 ≤ (s[j]'hlt).toNat) := by rw [Bool.eq_iff_iff]; simp; omega
      clear hpre hat
      generalize ((s[j]'hlt).toNat == 0) = b0 at *
      generalize ((s[j]'hlt).toNat == 10) = b1 at *
      generalize ((s[j]'hlt).toNat == 13) = b2 at *
      generalize decide (128 ≤ (s[j]'hlt).toNat) = b3 at *
      cases b0 <;> cases b1 <;> cases b2 <;> cases b3
      · go_wp2
        go_roundw
        case rel =>
          refine ⟨j + 1, by omega, by simp, fun q hq => ?_, trivial⟩
          by_cases e : q = j
          · subst e; exact unhide hpl
          · exact unhide Hpre q (by omega)
        case measure => simp [intOf]; omega
      all_goals
        go_wp2
        go_ret
        refine ⟨?_, Below.refl _ _⟩
        have : safe s = false := by
          rw [Bool.eq_false_iff]
          intro h
          have h1 := ((safe_split s).1 h).1 j hlt
          rw [unhide hpl] at h1
          cases h1
        rw [this]
        rfl
    · have hge : ¬ (j : Int) < s.size := by omega
      have hall : ∀ q, q < s.size → plain (at_ s q) = true := fun q hq => hpre q (by omega)
      have HA := hide hall
      clear hpre hall
      by_cases h0 : s.size = 0
      · have he : s.toList.isEmpty = true := by
          rw [ByteArray.toList_eq, List.isEmpty_iff]
          exact List.length_eq_zero_iff.1 (by rw [len_toList]; exact h0)
        have Hs : Hid (safe s = true) := (safe_split s).2 ⟨unhide HA, .inl h0⟩
        clear h0
        go_wp2
        go_ret
        refine ⟨?_, Below.refl _ _⟩
        rw [unhide Hs]
        rfl
      · have he : s.toList.isEmpty = false := by
          rw [ByteArray.toList_eq, List.isEmpty_eq_false_iff]
          intro e
          have := len_toList s
          rw [e] at this
          simp at this
          omega
        have hp0 : 0 < s.size := by omega
        have hpl : s.size - 1 < s.size := by omega
        have a0 := at_getElem s 0 hp0
        have a1 := at_getElem s (s.size - 1) hpl
        have Hs : Hid (safe s = (((s[0]'hp0).toNat != 32) && ((s[0]'hp0).toNat != 58) && ((s[0]'hp0).toNat != 60) && ((s[s.size - 1]'hpl).toNat != 32))) := by
          show _ = _
          rw [Bool.eq_iff_iff, safe_split]
          simp only [Bool.and_eq_true, bne_iff_ne]
          rw [← a0, ← a1]
          have := unhide HA
          constructor
          · rintro ⟨_, h | h⟩
            · omega
            · exact ⟨⟨⟨h.1.1, h.1.2.1⟩, h.1.2.2⟩, h.2⟩
          · rintro ⟨⟨⟨h1, h2⟩, h3⟩, h4⟩
            exact ⟨this, .inr ⟨⟨h1, h2, h3⟩, h4⟩⟩
        clear a0 a1 h0
        have hl1 : (s.size : Int) - 1 < s.size := by omega
        have hl0 : 0 ≤ (s.size : Int) - 1 := by omega
        have hw1 : wrap64 ((s.size : Int) - 1) = s.size - 1 := by unfold wrap64; omega
        by_cases c0 : (s[0]'hp0).toNat = 32
        · have Hv : Hid (safe s = false) := by show _ = _; rw [unhide Hs, c0]; rfl
          clear Hs
          go_wp2
          go_ret
          refine ⟨?_, Below.refl _ _⟩
          rw [unhide Hv]
          rfl
        by_cases c1 : (s[0]'hp0).toNat = 58
        · have Hv : Hid (safe s = false) := by show _ = _; rw [unhide Hs, c1]; rfl
          clear Hs
          go_wp2
          go_ret
          refine ⟨?_, Below.refl _ _⟩
          rw [unhide Hv]
          rfl
        by_cases c2 : (s[0]'hp0).toNat = 60
        · have Hv : Hid (safe s = false) := by show _ = _; rw [unhide Hs, c2]; rfl
          clear Hs
          go_wp2
          go_ret
          refine ⟨?_, Below.refl _ _⟩
          rw [unhide Hv]
          rfl
        have d0 : ¬ ((s[0]'hp0).toNat : Int) = 32 := by omega
        have d1 : ¬ ((s[0]'hp0).toNat : Int) = 58 := by omega
        have d2 : ¬ ((s[0]'hp0).toNat : Int) = 60 := by omega
        have hnat : ((s.size : Int) - 1).toNat = s.size - 1 := by omega
        by_cases c3 : (s[s.size - 1]'hpl).toNat = 32
        · have Hv : Hid (safe s = false) := by show _ = _; rw [unhide Hs, c3]; simp
          clear Hs
          go_wp2
          go_ret
          refine ⟨?_, Below.refl _ _⟩
          rw [unhide Hv]
          rfl
        · have d3 : ¬ ((s[s.size - 1]'hpl).toNat : Int) = 32 := by omega
          have Hv : Hid (safe s = true) := by show _ = _; rw [unhide Hs]; simp [c0, c1, c2, c3]
          clear Hs
          go_wp2
          go_ret
          refine ⟨?_, Below.refl _ _⟩
          rw [unhide Hv]
          show Ending.returned (.bool (((((s[0]'hp0).toNat : Int) != 32) && (((s[0]'hp0).toNat : Int) != 58)) && (((s[0]'hp0).toNat : Int) != 60) && (((s[s.size - 1]'hpl).toNat : Int) != 32))) = _
          rw [bne_iff_ne.2 d0, bne_iff_ne.2 d1, bne_iff_ne.2 d2, bne_iff_ne.2 d3]
          rfl
end Go.Proofs.YtpfopmjpchiekaaDoor.U
