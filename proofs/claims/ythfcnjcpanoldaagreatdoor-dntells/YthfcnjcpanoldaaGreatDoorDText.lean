/-
  What package dn's text answers: has, next, end, piece; and what a byte may be: isDigit, isLetter, fits, isWord, isNumber. Conditions: none.
-/
import Derived.Test.YthfcnjcpanoldaaGreatDoorProg
import Derived.Test.YthfcnjcpanoldaaGreatDoorDPure
import Derived.WalkKit
import Derived.OwnWalkIn
import Derived.Laws.DeepStrings4
namespace Go.Proofs.YthfcnjcpanoldaaGreatDoor.D
open Go Go.RowKit Dp
attribute [local go_sem] Oper.semAt_some

theorem hide {p : Prop} (h : p) : Hid p := h
theorem unhide {p : Prop} (h : Hid p) : p := h
theorem lt_cell {w : World} {a : Addr} {v : Value} (h : w.cell? a = some v) : a.block < w.heap.size := by
  rcases Nat.lt_or_ge a.block w.heap.size with h' | h'
  · exact h'
  · simp [World.cell?, Array.getElem?_eq_none h'] at h
theorem beq_u8 (x y : UInt8) (h : x ≠ y) : ((x.toNat : Int) == y.toNat) = false := by
  rw [beq_eq_false_iff_ne]
  intro e
  exact h (UInt8.toNat.inj (by omega))
theorem beq_int (x y : UInt8) : ((x.toNat : Int) == y.toNat) = decide (x = y) := by
  by_cases h : x = y
  · rw [h]; simp
  · rw [beq_u8 x y h, decide_eq_false h]
theorem drop_at {s : ByteArray} {j : Nat} (h : j < s.size) : s.data.toList.drop j = s[j] :: s.data.toList.drop (j + 1) := by
  rw [List.drop_eq_getElem_cons (by rw [Array.length_toList]; exact h)]
  rfl
theorem drop_out {s : ByteArray} {j : Nat} (h : ¬ j < s.size) : s.data.toList.drop j = [] :=
  List.drop_of_length_le (by rw [Array.length_toList]; show s.size ≤ j; omega)

/-- the text in its box. -/
abbrev tb (s : ByteArray) : Obj := .cells #[.string s] 74
theorem has_any (s : ByteArray) (p : Nat) (c : UInt8) (w : World) (hp : p < s.size) :
    Calls Tryz.prog 85 #[.agg #[.string s], .int .i64 p, .int .u8 c.toNat] w fun e w' => e = .returned (.bool (decide (s[p] = c))) ∧ Below w.heap.size w w' := by
  have HB := hide ((Below.refl w.heap.size w).alloc (Nat.le_refl _) (tb s))
  have hp' : (p : Int) < s.size := by omega
  have hb := beq_int s[p] c
  generalize decide (s[p] = c) = b at *
  go_enter Tryz.func85, Tryz.ntmps85
  go_wp2
  go_ret
  exact ⟨by rw [← hb]; rfl, unhide HB⟩
theorem end_any (s : ByteArray) (w : World) :
    Calls Tryz.prog 83 #[.agg #[.string s]] w fun e w' => e = .returned (.int .i64 s.size) ∧ Below w.heap.size w w' := by
  have HB := hide ((Below.refl w.heap.size w).alloc (Nat.le_refl _) (tb s))
  go_enter Tryz.func83, Tryz.ntmps83
  go_wp2
  go_ret
  exact ⟨rfl, unhide HB⟩
/-- the next place. -/
def nx (s : ByteArray) (p : Nat) : Nat := if h : p < s.size then (if s[p] = 92 then min (p + 2) s.size else p + 1) else p
theorem nx_lt {s : ByteArray} {p : Nat} (h : p < s.size) : p < nx s p ∧ nx s p ≤ s.size := by
  unfold nx
  rw [dif_pos h]
  split <;> omega
theorem next_any (s : ByteArray) (p : Nat) (w : World) (hs : s.size ≤ 10000) (hp : p < s.size) :
    Calls Tryz.prog 84 #[.agg #[.string s], .int .i64 p] w fun e w' => e = .returned (.int .i64 (nx s p : Nat)) ∧ Below w.heap.size w w' := by
  have HB := hide ((Below.refl w.heap.size w).alloc (Nat.le_refl _) (tb s))
  have H := hide fun W => has_any s p 92 W hp
  have H2 := hide fun W => end_any s W
  have Hx : Hid ((w.alloc (tb s)).cell? ⟨w.heap.size, 0, none⟩ = some (.string s)) := hide (by rw [World.cell?_alloc_at _ _ _ _ rfl]; rfl)
  unfold nx
  rw [dif_pos hp]
  have hp1 : (p : Int) ≤ 10000 := by omega
  by_cases h : s[p] = 92
  · rw [if_pos h]
    rw [decide_eq_true h] at H
    clear h
    go_enter Tryz.func84, Tryz.ntmps84
    go_wp2_with fail
    refine ((unhide H) _).mono ?_
    rintro e w1 ⟨rfl, hb⟩
    have HB1 := hide ((unhide HB).trans (hb.mono (by simp)))
    have c1 : w1.cell? ⟨w.heap.size, 0, none⟩ = some (.string s) := (hb.cell (lt_cell (unhide Hx))).trans (unhide Hx)
    clear hb
    go_wp2_with fail
    refine ((unhide H2) _).mono ?_
    rintro e w2 ⟨rfl, hb⟩
    have HB2 := hide ((unhide HB1).trans (hb.mono (unhide HB1).size))
    clear hb
    go_wp2
    all_goals go_ret
    all_goals exact ⟨by simp; omega, unhide HB2⟩
  · rw [if_neg h]
    rw [decide_eq_false h] at H
    clear h
    go_enter Tryz.func84, Tryz.ntmps84
    go_wp2_with fail
    refine ((unhide H) _).mono ?_
    rintro e w1 ⟨rfl, hb⟩
    have HB1 := hide ((unhide HB).trans (hb.mono (by simp)))
    clear hb
    go_wp2
    go_ret
    exact ⟨by simp, unhide HB1⟩
theorem piece_any (s : ByteArray) (a b : Nat) (w : World) (hab : a ≤ b) (hb : b ≤ s.size) :
    Calls Tryz.prog 86 #[.agg #[.string s], .int .i64 a, .int .i64 b] w fun e w' => e = .returned (.string (s.extract a b)) ∧ Below w.heap.size w w' := by
  have HB := hide ((Below.refl w.heap.size w).alloc (Nat.le_refl _) (tb s))
  have h1 : (a : Int) ≤ b := by omega
  have h2 : (b : Int) ≤ s.size := by omega
  go_enter Tryz.func86, Tryz.ntmps86
  go_wp2
  go_ret
  exact ⟨rfl, unhide HB⟩

/-! ### bytes -/
theorem isDigit_any (x : UInt8) (w : World) :
    Calls Tryz.prog 80 #[.int .u8 x.toNat] w fun e w' => e = .returned (.bool (dig x)) ∧ w' = w := by
  unfold dig
  by_cases h1 : 48 ≤ x.toNat
  · have k1 : (48 : Int) ≤ x.toNat := by omega
    rw [decide_eq_true h1, Bool.true_and]
    by_cases h2 : x.toNat ≤ 57
    · have k2 : (x.toNat : Int) ≤ 57 := by omega
      rw [decide_eq_true h2]
      clear h1 h2
      go_enter Tryz.func80, Tryz.ntmps80
      go_wp2
      go_ret
      exact ⟨rfl, rfl⟩
    · have k2 : ¬ (x.toNat : Int) ≤ 57 := by omega
      rw [decide_eq_false h2]
      clear h1 h2
      go_enter Tryz.func80, Tryz.ntmps80
      go_wp2
      go_ret
      exact ⟨rfl, rfl⟩
  · have k1 : ¬ (48 : Int) ≤ x.toNat := by omega
    rw [decide_eq_false h1, Bool.false_and]
    clear h1
    go_enter Tryz.func80, Tryz.ntmps80
    go_wp2
    go_ret
    exact ⟨rfl, rfl⟩
theorem isLetter_any (x : UInt8) (w : World) :
    Calls Tryz.prog 81 #[.int .u8 x.toNat] w fun e w' => e = .returned (.bool (ltr x)) ∧ w' = w := by
  have H : ∀ b, ltr x = b → Hid (ltr x = b) := fun b h => h
  by_cases h1 : 65 ≤ x.toNat
  · have k1 : (65 : Int) ≤ x.toNat := by omega
    by_cases h2 : x.toNat ≤ 90
    · have k2 : (x.toNat : Int) ≤ 90 := by omega
      rw [show ltr x = true by unfold ltr; simp; omega]
      clear H h1 h2
      go_enter Tryz.func81, Tryz.ntmps81
      go_wp2
      go_ret
      exact ⟨rfl, rfl⟩
    · have k2 : ¬ (x.toNat : Int) ≤ 90 := by omega
      by_cases h3 : 97 ≤ x.toNat
      · have k3 : (97 : Int) ≤ x.toNat := by omega
        by_cases h4 : x.toNat ≤ 122
        · have k4 : (x.toNat : Int) ≤ 122 := by omega
          rw [show ltr x = true by unfold ltr; simp; omega]
          clear H h1 h2 h3 h4
          go_enter Tryz.func81, Tryz.ntmps81
          go_wp2
          go_ret
          exact ⟨rfl, rfl⟩
        · have k4 : ¬ (x.toNat : Int) ≤ 122 := by omega
          rw [show ltr x = false by unfold ltr; simp; omega]
          clear H h1 h2 h3 h4
          go_enter Tryz.func81, Tryz.ntmps81
          go_wp2
          go_ret
          exact ⟨rfl, rfl⟩
      · have k3 : ¬ (97 : Int) ≤ x.toNat := by omega
        rw [show ltr x = false by unfold ltr; simp; omega]
        clear H h1 h2 h3
        go_enter Tryz.func81, Tryz.ntmps81
        go_wp2
        go_ret
        exact ⟨rfl, rfl⟩
  · have k1 : ¬ (65 : Int) ≤ x.toNat := by omega
    have k3 : ¬ (97 : Int) ≤ x.toNat := by omega
    rw [show ltr x = false by unfold ltr; simp; omega]
    clear H h1
    go_enter Tryz.func81, Tryz.ntmps81
    go_wp2
    go_ret
    exact ⟨rfl, rfl⟩
theorem fits_ahead (x : UInt8) (w : World) :
    Calls Tryz.prog 57 #[.int .i64 0, .int .u8 x.toNat] w fun e w' => e = .returned (.bool (ltr x)) ∧ w' = w := by
  have H := hide fun W => isLetter_any x W
  generalize ltr x = b at *
  go_enter Tryz.func57, Tryz.ntmps57
  go_wp2_with fail
  refine ((unhide H) _).mono ?_
  rintro e w1 ⟨rfl, rfl⟩
  go_wp2
  go_ret
  exact ⟨rfl, rfl⟩
theorem fits_behind (x : UInt8) (w : World) :
    Calls Tryz.prog 57 #[.int .i64 1, .int .u8 x.toNat] w fun e w' => e = .returned (.bool (fit x)) ∧ w' = w := by
  have H := hide fun W => isLetter_any x W
  have H2 := hide fun W => isDigit_any x W
  have e0 : fit x = (dig x || x == 45 || ltr x) := rfl
  rw [e0]
  clear e0
  have hb := beq_int x 45
  rw [show (x == 45) = decide (x = 45) by rw [Bool.eq_iff_iff]; simp]
  have e45 : (((45 : UInt8).toNat : Nat) : Int) = 45 := rfl
  rw [e45] at hb
  generalize ltr x = b at *
  generalize dig x = b2 at *
  cases b2
  · cases h : decide (x = 45)
    · rw [h] at hb
      clear h
      go_enter Tryz.func57, Tryz.ntmps57
      go_wp2_with fail
      refine ((unhide H2) _).mono ?_
      rintro e w1 ⟨rfl, rfl⟩
      go_wp2_with fail
      refine ((unhide H) _).mono ?_
      rintro e w1 ⟨rfl, rfl⟩
      go_wp2
      go_ret
      exact ⟨rfl, rfl⟩
    · rw [h] at hb
      clear h
      go_enter Tryz.func57, Tryz.ntmps57
      go_wp2_with fail
      refine ((unhide H2) _).mono ?_
      rintro e w1 ⟨rfl, rfl⟩
      go_wp2
      go_ret
      exact ⟨rfl, rfl⟩
  · clear hb
    go_enter Tryz.func57, Tryz.ntmps57
    go_wp2_with fail
    refine ((unhide H2) _).mono ?_
    rintro e w1 ⟨rfl, rfl⟩
    go_wp2
    go_ret
    exact ⟨rfl, rfl⟩

/-- word, from a place on. -/
def wordAt (s : ByteArray) (j : Nat) : Bool := if j = 0 then s.data.toList == [] || word s.data.toList else (s.data.toList.drop j).all fit
set_option maxRecDepth 100000 in
theorem isWord_any (s : ByteArray) (w : World) (hs : s.size ≤ 1000) :
    Calls Tryz.prog 39 #[.string s] w fun e w' => e = .returned (.bool (word s.data.toList)) ∧ w' = w := by
  by_cases h0 : s.size = 0
  · obtain rfl : s = ⟨#[]⟩ := by
      cases s with
      | mk d => congr 1; exact Array.eq_empty_of_size_eq_zero h0
    rw [show word (ByteArray.mk #[]).data.toList = false from rfl]
    clear h0
    go_enter Tryz.func39, Tryz.ntmps39
    go_wp2
    go_loopw [3, 7] (fun m ix wr => m = .int .i64 0 ∧ ix = .int .i64 0 ∧ wr = w) (fun _ _ _ => 0)
    case atStart => exact ⟨rfl, rfl, rfl⟩
    case round =>
      obtain ⟨rfl, rfl, rfl⟩ := hrel
      go_wp2
      go_ret
      exact ⟨rfl, rfl⟩
  · have hne : (s.toList != ([] : List UInt8)) = true := by
      rw [bne_iff_ne, ByteArray.toList_eq]
      intro e
      exact h0 (by rw [show s.size = s.data.toList.length from (Array.length_toList).symm, e]; rfl)
    have H1 := hide fun x W => fits_ahead x W
    have H2 := hide fun x W => fits_behind x W
    obtain ⟨r, hr⟩ : ∃ r, word s.data.toList = r := ⟨_, rfl⟩
    rw [hr]
    have hps : 0 < s.size := by omega
    have hw : word s.data.toList = (ltr (s[0]'hps) && (s.data.toList.drop 1).all fit) := by
      have := drop_at (s := s) (j := 0) hps
      rw [List.drop_zero] at this
      rw [this]
      rfl
    have Hr := hide hr
    have Hw := hide hw
    have H0 := hide h0
    clear hr hw h0
    go_enter Tryz.func39, Tryz.ntmps39
    go_wp2
    go_loopw [3, 7] (fun m ix wr => ∃ j : Nat, j ≤ s.size ∧ m = .int .i64 (if j = 0 then 0 else 1) ∧ ix = .int .i64 (j : Int) ∧ (j = 0 ∨ Hid ((s.data.toList.drop j).all fit = r)) ∧ wr = w)
      (fun _ ix _ => s.size - (intOf ix).toNat)
    case atStart => exact ⟨0, Nat.zero_le _, rfl, rfl, .inl rfl, rfl⟩
    case round =>
      obtain ⟨j, hj, rfl, rfl, hd, rfl⟩ := hrel
      by_cases hlt : j < s.size
      · have hlt' : (j : Int) < s.size := by omega
        have hj' : (j : Int) ≤ 1000 := by omega
        by_cases hj0 : j = 0
        · subst hj0
          have hz : 0 < s.size := hlt
          obtain ⟨b, hb⟩ : ∃ b, ltr s[0] = b := ⟨_, rfl⟩
          have Hc := hide ((unhide H1) s[0])
          rw [hb] at Hc
          have Hn : Hid ((b && (s.data.toList.drop 1).all fit) = r) := hide (by rw [← hb, ← unhide Hw]; exact unhide Hr)
          obtain ⟨y, hy⟩ : ∃ y, s[0] = y := ⟨_, rfl⟩
          rw [hy] at Hc
          clear hb hd
          cases b
          · obtain rfl : r = false := by rw [← unhide Hn]; rfl
            go_wp2_with fail
            refine ((unhide Hc) _).mono ?_
            rintro e w1 ⟨rfl, rfl⟩
            go_wp2
            go_ret
            exact ⟨rfl, rfl⟩
          · go_wp2_with fail
            refine ((unhide Hc) _).mono ?_
            rintro e w1 ⟨rfl, rfl⟩
            go_wp2
            go_roundw
            case rel => exact ⟨1, by omega, by simp, by simp, .inr (by have := unhide Hn; rw [Bool.true_and] at this; exact this), by first | rfl | trivial⟩
            case measure => simp [intOf]; omega
        · have hd := hd.resolve_left hj0
          obtain ⟨b, hb⟩ : ∃ b, fit s[j] = b := ⟨_, rfl⟩
          have Hc := hide ((unhide H2) s[j])
          rw [hb] at Hc
          have Hn : Hid ((b && (s.data.toList.drop (j + 1)).all fit) = r) := hide (by rw [← hb, ← List.all_cons, ← drop_at hlt]; exact unhide hd)
          have hjj : ((if j = 0 then 0 else 1 : Int)) = 1 := if_neg hj0
          obtain ⟨y, hy⟩ : ∃ y, s[j] = y := ⟨_, rfl⟩
          rw [hy] at Hc
          clear hb hd
          rw [hjj]
          clear hjj
          cases b
          · obtain rfl : r = false := by rw [← unhide Hn]; rfl
            go_wp2_with fail
            refine ((unhide Hc) _).mono ?_
            rintro e w1 ⟨rfl, rfl⟩
            go_wp2
            go_ret
            exact ⟨rfl, rfl⟩
          · go_wp2_with fail
            refine ((unhide Hc) _).mono ?_
            rintro e w1 ⟨rfl, rfl⟩
            go_wp2
            go_roundw
            case rel => exact ⟨j + 1, by omega, by simp, by simp, .inr (by have := unhide Hn; rw [Bool.true_and] at this; exact this), by first | rfl | trivial⟩
            case measure => simp [intOf]; omega
      · have hge : ¬ (j : Int) < s.size := by omega
        have hj0 : j ≠ 0 := by have := unhide H0; omega
        have hd := unhide (hd.resolve_left hj0)
        rw [drop_out hlt] at hd
        obtain rfl : r = true := by rw [← hd]; rfl
        clear hd
        go_wp2
        go_ret
        exact ⟨by simpa using hne, rfl⟩

theorem num_iff (l : List UInt8) : num l = (l.all dig && (l == [48] || (l != [] && l.head? != some 48))) := by
  match l with
  | [] => rfl
  | [x] =>
    rw [num]
    by_cases h : x = 48
    · subst h; rfl
    · have e1 : (([x] : List UInt8) == [48]) = false := by simpa using h
      simp [h]
  | x :: y :: r =>
    rw [num]
    · have e1 : ((x :: y :: r : List UInt8) == [48]) = false := by simp
      rw [e1, Bool.false_or]
      by_cases h : x = 48
      · subst h; simp
      · have e2 : (x != 48) = true := by simpa using h
        have e3 : ((x :: y :: r : List UInt8).head? != some 48) = true := by simpa using h
        have e4 : ((x :: y :: r : List UInt8) != []) = true := by simp
        rw [e2, e3, e4, List.all_cons]
        simp
    · simp
set_option maxRecDepth 100000 in
theorem isNumber_any (s : ByteArray) (w : World) (hs : s.size ≤ 1000) :
    Calls Tryz.prog 59 #[.string s] w fun e w' => e = .returned (.bool (num s.data.toList)) ∧ w' = w := by
  have H := hide fun x W => isDigit_any x W
  obtain ⟨r, hr⟩ : ∃ r, s.data.toList.all dig = r := ⟨_, rfl⟩
  rw [num_iff, hr]
  have Hr := hide hr
  clear hr
  go_enter Tryz.func59, Tryz.ntmps59
  go_wp2
  go_loopw [6] (fun ix wr => ∃ j : Nat, j ≤ s.size ∧ ix = .int .i64 (j : Int) ∧ Hid ((s.data.toList.drop j).all dig = r) ∧ wr = w)
    (fun ix _ => s.size - (intOf ix).toNat)
  case atStart => exact ⟨0, Nat.zero_le _, rfl, by rw [List.drop_zero]; exact Hr, rfl⟩
  case round =>
    obtain ⟨j, hj, rfl, hd, rfl⟩ := hrel
    by_cases hlt : j < s.size
    · have hlt' : (j : Int) < s.size := by omega
      have hj' : (j : Int) ≤ 1000 := by omega
      obtain ⟨b, hb⟩ : ∃ b, dig s[j] = b := ⟨_, rfl⟩
      have Hc := hide ((unhide H) s[j])
      rw [hb] at Hc
      have Hn : Hid ((b && (s.data.toList.drop (j + 1)).all dig) = r) := hide (by rw [← hb, ← List.all_cons, ← drop_at hlt]; exact unhide hd)
      obtain ⟨y, hy⟩ : ∃ y, s[j] = y := ⟨_, rfl⟩
      rw [hy] at Hc
      clear hb hd
      cases b
      · obtain rfl : r = false := by rw [← unhide Hn]; rfl
        go_wp2_with fail
        refine ((unhide Hc) _).mono ?_
        rintro e w1 ⟨rfl, rfl⟩
        go_wp2
        go_ret
        exact ⟨by rw [Bool.false_and]; rfl, rfl⟩
      · go_wp2_with fail
        refine ((unhide Hc) _).mono ?_
        rintro e w1 ⟨rfl, rfl⟩
        go_wp2
        go_roundw
        case rel => exact ⟨j + 1, by omega, by simp, by have := unhide Hn; rw [Bool.true_and] at this; exact this, by first | rfl | trivial⟩
        case measure => simp [intOf]; omega
    · have hge : ¬ (j : Int) < s.size := by omega
      have hd := unhide hd
      rw [drop_out hlt] at hd
      obtain rfl : r = true := by rw [← hd]; rfl
      clear hd Hr H
      have HT : Hid (s.toList = s.data.toList) := hide (ByteArray.toList_eq s)
      cases h1 : (s.toList == ([48] : List UInt8))
      · have E1 : Hid ((s.data.toList == ([48] : List UInt8)) = false) := hide (by rw [← unhide HT]; exact h1)
        cases h2 : (s.toList != ([] : List UInt8))
        · have h2' : s.toList = [] := by simpa using h2
          obtain rfl : s = ⟨#[]⟩ := by
            cases s with
            | mk d => congr 1; exact Array.eq_empty_of_size_eq_zero (by rw [← Array.length_toList, show d.toList = [] from (unhide HT).symm.trans h2']; rfl)
          clear h1 h2 h2' E1 HT hlt
          go_wp2
          go_ret
          exact ⟨rfl, rfl⟩
        · have E2 : Hid ((s.data.toList != ([] : List UInt8)) = true) := hide (by rw [← unhide HT]; exact h2)
          have hpos : 0 < s.size := by
            rcases Nat.eq_zero_or_pos s.size with h | h
            · exfalso
              rw [bne_iff_ne, unhide HT] at h2
              exact h2 (List.length_eq_zero_iff.1 (by rw [Array.length_toList]; exact h))
            · exact h
          have hh : s.data.toList.head? = some s[0] := by
            have := drop_at (s := s) (j := 0) hpos
            rw [List.drop_zero] at this
            rw [this]
            rfl
          have hpos' : (0 : Int) < s.size := by omega
          have hb := beq_int s[0] 48
          have e48 : (((48 : UInt8).toNat : Nat) : Int) = 48 := rfl
          rw [e48] at hb
          obtain ⟨y, hy⟩ : ∃ y, s[0] = y := ⟨_, rfl⟩
          rw [hy] at hb hh
          have E3 : Hid ((s.data.toList.head? != some 48) = !decide (y = 48)) := hide (by rw [hh, Bool.eq_iff_iff]; simp)
          have h2' : s.toList.isEmpty = false := by simpa using h2
          clear hh hlt hj e48 h2
          generalize decide (y = 48) = d at *
          cases d
          · go_wp2
            go_ret
            exact ⟨by rw [unhide E1, unhide E2, unhide E3]; simp [bne, hb], rfl⟩
          · go_wp2
            go_ret
            exact ⟨by rw [unhide E1, unhide E2, unhide E3]; simp [bne, hb], rfl⟩
      · have E1 : Hid ((s.data.toList == ([48] : List UInt8)) = true) := hide (by rw [← unhide HT]; exact h1)
        go_wp2
        go_ret
        exact ⟨by rw [unhide E1]; rfl, rfl⟩
end Go.Proofs.YthfcnjcpanoldaaGreatDoor.D
