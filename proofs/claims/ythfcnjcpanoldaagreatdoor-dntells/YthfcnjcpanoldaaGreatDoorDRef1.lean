/-
  What the document's own Letter, Digit, Key, Oid and IsType of layer 7 answer. Conditions: none.
-/
import Derived.Test.YthfcnjcpanoldaaGreatDoorDDoor
namespace Go.Proofs.YthfcnjcpanoldaaGreatDoor.D
open Go Go.RowKit Go.Shelf Dp
attribute [local go_sem] Oper.semAt_some

theorem refDigit_any (x : UInt8) (w : World) :
    Calls Tryz.prog 61 #[.int .u8 x.toNat] w fun e w' => e = .returned (.bool (dig x)) ∧ w' = w := by
  by_cases h1 : 48 ≤ x.toNat
  · have k1 : (48 : Int) ≤ x.toNat := by omega
    by_cases h2 : x.toNat ≤ 57
    · have k2 : (x.toNat : Int) ≤ 57 := by omega
      rw [show dig x = true by unfold dig; simp; omega]
      clear h1 h2
      go_enter Tryz.func61, Tryz.ntmps61
      go_wp2
      go_ret
      exact ⟨rfl, rfl⟩
    · have k2 : ¬ (x.toNat : Int) ≤ 57 := by omega
      rw [show dig x = false by unfold dig; simp; omega]
      clear h1 h2
      go_enter Tryz.func61, Tryz.ntmps61
      go_wp2
      go_ret
      exact ⟨rfl, rfl⟩
  · have k1 : ¬ (48 : Int) ≤ x.toNat := by omega
    rw [show dig x = false by unfold dig; simp; omega]
    clear h1
    go_enter Tryz.func61, Tryz.ntmps61
    go_wp2
    go_ret
    exact ⟨rfl, rfl⟩
theorem refLetter_any (x : UInt8) (w : World) :
    Calls Tryz.prog 60 #[.int .u8 x.toNat] w fun e w' => e = .returned (.bool (ltr x)) ∧ w' = w := by
  by_cases h1 : 97 ≤ x.toNat
  · have k1 : (97 : Int) ≤ x.toNat := by omega
    have k5 : (65 : Int) ≤ x.toNat := by omega
    by_cases h2 : x.toNat ≤ 122
    · have k2 : (x.toNat : Int) ≤ 122 := by omega
      rw [show ltr x = true by unfold ltr; simp; omega]
      clear h1 h2
      go_enter Tryz.func60, Tryz.ntmps60
      go_wp2
      go_ret
      exact ⟨rfl, rfl⟩
    · have k2 : ¬ (x.toNat : Int) ≤ 122 := by omega
      have k4 : ¬ (x.toNat : Int) ≤ 90 := by omega
      rw [show ltr x = false by unfold ltr; simp; omega]
      clear h1 h2
      go_enter Tryz.func60, Tryz.ntmps60
      go_wp2
      go_ret
      exact ⟨rfl, rfl⟩
  · have k1 : ¬ (97 : Int) ≤ x.toNat := by omega
    by_cases h3 : 65 ≤ x.toNat
    · have k3 : (65 : Int) ≤ x.toNat := by omega
      by_cases h4 : x.toNat ≤ 90
      · have k4 : (x.toNat : Int) ≤ 90 := by omega
        rw [show ltr x = true by unfold ltr; simp; omega]
        clear h1 h3 h4
        go_enter Tryz.func60, Tryz.ntmps60
        go_wp2
        go_ret
        exact ⟨rfl, rfl⟩
      · have k4 : ¬ (x.toNat : Int) ≤ 90 := by omega
        rw [show ltr x = false by unfold ltr; simp; omega]
        clear h1 h3 h4
        go_enter Tryz.func60, Tryz.ntmps60
        go_wp2
        go_ret
        exact ⟨rfl, rfl⟩
    · have k3 : ¬ (65 : Int) ≤ x.toNat := by omega
      rw [show ltr x = false by unfold ltr; simp; omega]
      clear h1 h3
      go_enter Tryz.func60, Tryz.ntmps60
      go_wp2
      go_ret
      exact ⟨rfl, rfl⟩

theorem word_fit {s : ByteArray} (h : 0 < s.size) : word s.data.toList = (ltr s[0] && s.data.toList.all fit) := by
  have e := drop_at (s := s) (j := 0) h
  rw [List.drop_zero] at e
  rw [e, word, List.all_cons]
  cases hl : ltr s[0]
  · rfl
  · simp [fit, hl]
theorem fit_or (x : UInt8) : fit x = (ltr x || (dig x || decide (x = 45))) := by
  unfold fit
  rw [show (x == 45) = decide (x = 45) by rw [Bool.eq_iff_iff]; simp]
  cases dig x <;> cases ltr x <;> cases decide (x = 45) <;> rfl
set_option maxRecDepth 100000 in
set_option maxHeartbeats 1000000 in
theorem refKey_any (s : ByteArray) (w : World) (hs : s.size ≤ 1000) :
    Calls Tryz.prog 41 #[.string s] w fun e w' => e = .returned (.bool (word s.data.toList)) ∧ w' = w := by
  by_cases h0 : s.size = 0
  · obtain rfl : s = ⟨#[]⟩ := by
      cases s with
      | mk d => congr 1; exact Array.eq_empty_of_size_eq_zero h0
    rw [show word (ByteArray.mk #[]).data.toList = false from rfl]
    clear h0
    go_enter Tryz.func41, Tryz.ntmps41
    go_wp2
    go_ret
    exact ⟨rfl, rfl⟩
  · have hps : 0 < s.size := by omega
    have hps' : (0 : Int) < s.size := by omega
    have hne : (s.toList == ([] : List UInt8)) = false := by
      rw [beq_eq_false_iff_ne, ByteArray.toList_eq]
      intro e
      exact h0 (by rw [show s.size = s.data.toList.length from (Array.length_toList).symm, e]; rfl)
    have hne2 : s.toList.isEmpty = false := by simpa using hne
    rw [word_fit hps]
    have HL := hide fun x W => refLetter_any x W
    have HD := hide fun x W => refDigit_any x W
    clear h0
    obtain ⟨y, hy⟩ : ∃ y, s[0] = y := ⟨_, rfl⟩
    rw [hy]
    obtain ⟨r, hr⟩ : ∃ r, s.data.toList.all fit = r := ⟨_, rfl⟩
    rw [hr]
    have Hr := hide hr
    have H0 := hide ((unhide HL) y)
    clear hr
    generalize ltr y = b at *
    cases b
    · rw [Bool.false_and]
      go_enter Tryz.func41, Tryz.ntmps41
      go_wp2_with fail
      refine ((unhide H0) _).mono ?_
      rintro e w1 ⟨rfl, rfl⟩
      go_wp2
      go_ret
      exact ⟨rfl, rfl⟩
    · rw [Bool.true_and]
      go_enter Tryz.func41, Tryz.ntmps41
      go_wp2_with fail
      refine ((unhide H0) _).mono ?_
      rintro e w1 ⟨rfl, rfl⟩
      clear H0 hy
      go_wp2
      go_loopw [3] (fun ix wr => ∃ j : Nat, j ≤ s.size ∧ ix = .int .i64 (j : Int) ∧ Hid ((s.data.toList.drop j).all fit = r) ∧ wr = w1)
        (fun ix _ => s.size - (intOf ix).toNat)
      case atStart => exact ⟨0, Nat.zero_le _, rfl, by rw [List.drop_zero]; exact Hr, rfl⟩
      case round =>
        obtain ⟨j, hj, rfl, hd, rfl⟩ := hrel
        by_cases hlt : j < s.size
        · have hlt' : (j : Int) < s.size := by omega
          have hj' : (j : Int) ≤ 1000 := by omega
          obtain ⟨y, hy⟩ : ∃ y, s[j] = y := ⟨_, rfl⟩
          have hn : (fit y && (s.data.toList.drop (j + 1)).all fit) = r := by rw [← hy, ← List.all_cons, ← drop_at hlt]; exact unhide hd
          rw [fit_or] at hn
          have HLy := hide ((unhide HL) y)
          have HDy := hide ((unhide HD) y)
          have h45 := beq_int y 45
          rw [show (((45 : UInt8).toNat : Nat) : Int) = 45 from rfl] at h45
          have Hn := hide hn
          clear hn hd
          generalize decide (y = 45) = b3 at *
          generalize ltr y = b1 at *
          generalize dig y = b2 at *
          cases b1
          · cases b2
            · cases b3
              · obtain rfl : r = false := by rw [← unhide Hn]; rfl
                go_wp2_with fail
                refine ((unhide HLy) _).mono ?_
                rintro e w1 ⟨rfl, rfl⟩
                go_wp2_with fail
                refine ((unhide HDy) _).mono ?_
                rintro e w1 ⟨rfl, rfl⟩
                go_wp2
                go_ret
                exact ⟨rfl, rfl⟩
              · have Hq : Hid ((s.data.toList.drop (j + 1)).all fit = r) := hide (by rw [← unhide Hn]; simp)
                go_wp2_with fail
                refine ((unhide HLy) _).mono ?_
                rintro e w1 ⟨rfl, rfl⟩
                go_wp2_with fail
                refine ((unhide HDy) _).mono ?_
                rintro e w1 ⟨rfl, rfl⟩
                go_wp2
                go_roundw
                case rel => exact ⟨j + 1, by omega, by simp, Hq, by first | rfl | trivial⟩
                case measure => simp [intOf]; omega
            · have Hq : Hid ((s.data.toList.drop (j + 1)).all fit = r) := hide (by rw [← unhide Hn]; simp)
              clear h45
              go_wp2_with fail
              refine ((unhide HLy) _).mono ?_
              rintro e w1 ⟨rfl, rfl⟩
              go_wp2_with fail
              refine ((unhide HDy) _).mono ?_
              rintro e w1 ⟨rfl, rfl⟩
              go_wp2
              go_roundw
              case rel => exact ⟨j + 1, by omega, by simp, Hq, by first | rfl | trivial⟩
              case measure => simp [intOf]; omega
          · have Hq : Hid ((s.data.toList.drop (j + 1)).all fit = r) := hide (by rw [← unhide Hn]; simp)
            clear h45
            go_wp2_with fail
            refine ((unhide HLy) _).mono ?_
            rintro e w1 ⟨rfl, rfl⟩
            go_wp2
            go_roundw
            case rel => exact ⟨j + 1, by omega, by simp, Hq, by first | rfl | trivial⟩
            case measure => simp [intOf]; omega
        · have hge : ¬ (j : Int) < s.size := by omega
          have hd := unhide hd
          rw [drop_out hlt] at hd
          obtain rfl : r = true := by rw [← hd]; rfl
          clear hd
          go_wp2
          go_ret
          exact ⟨rfl, rfl⟩
end Go.Proofs.YthfcnjcpanoldaaGreatDoor.D
