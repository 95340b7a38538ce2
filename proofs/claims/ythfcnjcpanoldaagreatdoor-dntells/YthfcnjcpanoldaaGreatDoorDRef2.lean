/-
  What the document's own Oid and IsType of layer 7 answer. Conditions: none.
-/
import Derived.Test.YthfcnjcpanoldaaGreatDoorDRef1
namespace Go.Proofs.YthfcnjcpanoldaaGreatDoor.D
open Go Go.RowKit Go.Shelf Dp
attribute [local go_sem] Oper.semAt_some

theorem sp_head (c : UInt8) : ∀ (l : List UInt8) (e : Bool) (a : List UInt8), ∀ z ∈ a, z ∈ (sp c e a l).head (sp_ne c l e a) := by
  intro l
  induction l with
  | nil => intro e a z hz; cases e <;> simpa [sp] using hz
  | cons w l ih =>
    intro e a z hz
    cases e with
    | true => simp only [sp]; exact ih false (a ++ [w]) z (by simp [hz])
    | false =>
      simp only [sp]
      split
      · simpa using hz
      · exact ih _ (a ++ [w]) z (by simp [hz])
/-- what the loop of Oid keeps: the pieces behind are numbers, what stands in the piece so far are digits. -/
structure Oi (s : ByteArray) (fr i n : Nat) : Prop where
  le : fr ≤ i
  ile : i ≤ s.size
  digs : ((s.data.toList.take i).drop fr).all dig = true
  ds : ∃ ds : List (List UInt8), ds.length = n ∧ ds.all num = true ∧ pcs 46 s.data.toList = ds ++ sp 46 false ((s.data.toList.take i).drop fr) (s.data.toList.drop i)
theorem Oi.first (s : ByteArray) : Oi s 0 0 0 := ⟨Nat.le_refl _, Nat.zero_le _, by simp, [], rfl, rfl, by simp⟩
theorem Oi.digit {s : ByteArray} {fr i n : Nat} (h : Oi s fr i n) (hi : i < s.size) (hd : dig s[i] = true) : Oi s fr (i + 1) n := by
  have hx : s[i] ≠ 46 ∧ s[i] ≠ 92 := by
    constructor <;> intro e <;> rw [e] at hd <;> revert hd <;> decide
  obtain ⟨ds, h1, h2, h3⟩ := h.ds
  refine ⟨by have := h.le; omega, hi, ?_, ds, h1, h2, ?_⟩
  · rw [td_snoc hi h.le, List.all_append, h.digs]
    simp [hd]
  · rw [h3, drop_at hi, sp, if_neg hx.1, td_snoc hi h.le, show (s[i] == 92) = false by simpa using hx.2]
theorem Oi.other {s : ByteArray} {fr i n : Nat} (h : Oi s fr i n) (hi : i < s.size) (hd : dig s[i] = false) (hp : s[i] ≠ 46) : nums s.data.toList = false := by
  obtain ⟨ds, h1, h2, h3⟩ := h.ds
  unfold nums
  rw [Bool.and_eq_false_iff]
  right
  rw [h3, drop_at hi, sp, if_neg hp, List.all_append, Bool.and_eq_false_iff]
  right
  rw [List.all_eq_false]
  refine ⟨_, List.head_mem (sp_ne 46 _ (s[i] == 92) _), fun hn => ?_⟩
  have := num_dig hn s[i] (sp_head 46 _ _ _ _ (by simp))
  rw [hd] at this
  cases this
theorem num_of {a : List UInt8} (h : a.all dig = true) : num a = (a != [] && !(decide (2 ≤ a.length) && (a.head? == some 48))) := by
  rw [num_iff, h, Bool.true_and]
  match a with
  | [] => rfl
  | [x] =>
    by_cases hx : x = 48
    · subst hx; rfl
    · have e1 : (([x] : List UInt8) == [48]) = false := by simpa using hx
      have e2 : (([x] : List UInt8).head? != some 48) = true := by simpa using hx
      rw [e1, e2]
      simp
  | x :: y :: r =>
    have e0 : ((x :: y :: r : List UInt8) == [48]) = false := by simp
    by_cases hx : x = 48
    · subst hx; rw [e0]; simp
    · have e2 : ((x :: y :: r : List UInt8).head? != some 48) = true := by simpa using hx
      have e3 : ((x :: y :: r : List UInt8).head? == some 48) = false := by simpa using hx
      rw [e0, e2, e3]
      simp
theorem td_len {s : ByteArray} {fr i : Nat} (h : fr ≤ i) (hi : i ≤ s.size) : ((s.data.toList.take i).drop fr).length = i - fr := by
  rw [List.length_drop, List.length_take, Array.length_toList]
  have : s.data.size = s.size := rfl
  omega
theorem td_head {s : ByteArray} {fr i : Nat} (h : fr < i) (hi : i ≤ s.size) : ((s.data.toList.take i).drop fr).head? = some (s[fr]'(by omega)) := by
  have hl : fr < s.data.toList.length := by rw [Array.length_toList]; show fr < s.size; omega
  rw [List.head?_drop, List.getElem?_take, if_pos h, List.getElem?_eq_getElem hl]
  rfl
/-- is what stands between two places a number? -/
def pnum (s : ByteArray) (fr i : Nat) : Bool := num ((s.data.toList.take i).drop fr)
theorem pnum_eq {s : ByteArray} {fr i : Nat} (hd : ((s.data.toList.take i).drop fr).all dig = true) (h : fr ≤ i) (hi : i ≤ s.size) : (i = fr → pnum s fr i = false) ∧ (i = fr + 1 → pnum s fr i = true) ∧ (∀ hl : fr + 1 < i, pnum s fr i = !decide (s[fr]'(by omega) = 48)) := by
  unfold pnum
  have hl := td_len h hi
  refine ⟨fun e => ?_, fun e => ?_, fun hlt => ?_⟩
  · have : (s.data.toList.take i).drop fr = [] := List.length_eq_zero_iff.1 (by rw [hl]; omega)
    rw [this]; rfl
  · rw [num_of hd, hl]
    have : (s.data.toList.take i).drop fr ≠ [] := fun e2 => by rw [e2] at hl; simp at hl; omega
    have e3 : decide (2 ≤ i - fr) = false := decide_eq_false (by omega)
    rw [e3]
    simpa using this
  · rw [num_of hd, hl, td_head (by omega) hi, decide_eq_true (by omega)]
    have : (s.data.toList.take i).drop fr ≠ [] := fun e2 => by rw [e2] at hl; simp at hl; omega
    have e4 : ((s.data.toList.take i).drop fr != []) = true := by simpa using this
    rw [e4, Bool.eq_iff_iff]
    simp
theorem Oi.dot {s : ByteArray} {fr i n : Nat} (h : Oi s fr i n) (hi : i < s.size) (hp : s[i] = 46) (hn : pnum s fr i = true) : Oi s (i + 1) (i + 1) (n + 1) := by
  obtain ⟨ds, h1, h2, h3⟩ := h.ds
  have e : (s.data.toList.take (i + 1)).drop (i + 1) = [] := List.drop_of_length_le (by rw [List.length_take]; omega)
  refine ⟨Nat.le_refl _, hi, by rw [e]; rfl, ds ++ [(s.data.toList.take i).drop fr], by simp [h1], ?_, ?_⟩
  · rw [List.all_append, h2]
    simpa [pnum] using hn
  · rw [h3, drop_at hi, sp, if_pos hp, e]
    simp
theorem Oi.dotno {s : ByteArray} {fr i n : Nat} (h : Oi s fr i n) (hi : i < s.size) (hp : s[i] = 46) (hn : pnum s fr i = false) : nums s.data.toList = false := by
  obtain ⟨ds, h1, h2, h3⟩ := h.ds
  unfold nums
  rw [Bool.and_eq_false_iff]
  right
  rw [h3, drop_at hi, sp, if_pos hp, List.all_append, List.all_cons]
  have hn' : num ((s.data.toList.take i).drop fr) = false := hn
  rw [hn']
  simp
theorem Oi.over {s : ByteArray} {fr i n : Nat} (h : Oi s fr i n) (hi : ¬ i < s.size) : nums s.data.toList = (decide (2 ≤ n + 1) && pnum s fr i) := by
  obtain ⟨ds, h1, h2, h3⟩ := h.ds
  unfold nums
  rw [h3, drop_out hi, sp, List.all_append, h2, List.length_append, h1]
  simp [pnum]

set_option maxRecDepth 100000 in
set_option maxHeartbeats 1000000 in
theorem refOid_any (s : ByteArray) (w : World) (hs : s.size ≤ 1000) :
    Calls Tryz.prog 42 #[.string s] w fun e w' => e = .returned (.bool (nums s.data.toList)) ∧ w' = w := by
  have HD := hide fun x W => refDigit_any x W
  obtain ⟨r, hr⟩ : ∃ r, nums s.data.toList = r := ⟨_, rfl⟩
  rw [hr]
  have Hr := hide hr
  clear hr
  go_enter Tryz.func42, Tryz.ntmps42
  go_wp2
  go_loopw [3, 4, 5] (fun f p ix wr => ∃ fr n i : Nat, f = .int .i64 (fr : Int) ∧ p = .int .i64 (n : Int) ∧ ix = .int .i64 (i : Int) ∧ n ≤ i ∧ i ≤ s.size + 1 ∧ fr ≤ i ∧ ((i ≤ s.size ∧ Hid (Oi s fr i n)) ∨ (i = s.size + 1 ∧ Hid (r = decide (2 ≤ n)))) ∧ wr = w)
    (fun _ _ ix _ => s.size + 1 - (intOf ix).toNat)
  case atStart => exact ⟨0, 0, 0, rfl, rfl, rfl, Nat.le_refl _, Nat.zero_le _, Nat.le_refl _, .inl ⟨Nat.zero_le _, hide (Oi.first s)⟩, rfl⟩
  case round =>
    obtain ⟨fr, n, i, rfl, rfl, rfl, hni, his, hfi, hO, rfl⟩ := hrel
    have hi' : (i : Int) ≤ 1001 := by omega
    have hn' : (n : Int) ≤ 1001 := by omega
    have hf' : (fr : Int) ≤ 1001 := by omega
    rcases hO with ⟨hle, hO⟩ | ⟨heq, hre⟩
    · have hle' : (i : Int) ≤ s.size := by omega
      by_cases hlt : i < s.size
      · have hlt' : (i : Int) < s.size := by omega
        obtain ⟨y, hy⟩ : ∃ y, s[i] = y := ⟨_, rfl⟩
        have HDy := hide ((unhide HD) y)
        cases hd : dig y
        · rw [hd] at HDy
          by_cases hp : y = 46
          · have hpe : ((y.toNat : Int) == 46) = true := by rw [hp]; rfl
            have hpe2 : (y.toNat : Int) = 46 := by rw [hp]; rfl
            have hq := pnum_eq (unhide hO).digs hfi hle
            cases hpn : pnum s fr i
            · obtain rfl : r = false := by rw [← unhide Hr]; exact (unhide hO).dotno hlt (by rw [hy, hp]) hpn
              by_cases h1 : i = fr
              · subst h1
                have F := hide hpe2
                clear hq hpn hO hd hp hpe hpe2
                go_wp2_with fail
                refine ((unhide HDy) _).mono ?_
                rintro e w1 ⟨rfl, rfl⟩
                have hpe2 := unhide F
                go_wp2
                go_ret
                exact ⟨rfl, rfl⟩
              · have h1' : ((i : Int) == fr) = false := by rw [beq_eq_false_iff_ne]; omega
                have h2 : fr + 1 < i := by
                  rcases Nat.lt_or_ge (fr + 1) i with h | h
                  · exact h
                  · exfalso
                    have := hq.2.1 (by omega)
                    rw [hpn] at this
                    cases this
                have h2' : (fr : Int) + 1 < i := by omega
                have h3 : s[fr]'(by omega) = 48 := by
                  have := hq.2.2 h2
                  rw [hpn] at this
                  simpa using this
                have hfl : (fr : Int) < s.size := by omega
                have F := hide (And.intro hpe2 h3)
                clear hq hpn hO hd hp hpe hpe2 h3
                go_wp2_with fail
                refine ((unhide HDy) _).mono ?_
                rintro e w1 ⟨rfl, rfl⟩
                obtain ⟨hpe2, h3⟩ := unhide F
                go_wp2
                go_ret
                exact ⟨rfl, rfl⟩
            · have h1 : i ≠ fr := fun e => by have := hq.1 e; rw [hpn] at this; cases this
              have h1' : ((i : Int) == fr) = false := by rw [beq_eq_false_iff_ne]; omega
              have hnx := hide ((unhide hO).dot hlt (by rw [hy, hp]) hpn)
              by_cases h2 : fr + 1 < i
              · have h2' : (fr : Int) + 1 < i := by omega
                have hfl : (fr : Int) < s.size := by omega
                obtain ⟨z, hz⟩ : ∃ z, s[fr]'(by omega) = z := ⟨_, rfl⟩
                have h3 : z ≠ 48 := fun e => by
                  have := hq.2.2 h2
                  rw [hpn, hz, e] at this
                  simp at this
                have h3' := beq_u8 z 48 h3
                rw [show (((48 : UInt8).toNat : Nat) : Int) = 48 from rfl] at h3'
                have F := hide hpe2
                clear hq hpn hO hd hp hpe h3 hpe2
                go_wp2_with fail
                refine ((unhide HDy) _).mono ?_
                rintro e w1 ⟨rfl, rfl⟩
                have hpe2 := unhide F
                go_wp2
                go_roundw
                case rel => exact ⟨i + 1, n + 1, i + 1, by simp, by simp, by simp, by omega, by omega, Nat.le_refl _, .inl ⟨hlt, hnx⟩, by first | rfl | trivial⟩
                case measure => simp [intOf]; omega
              · have h2' : ¬ (fr : Int) + 1 < i := by omega
                have F := hide hpe2
                clear hq hpn hO hd hp hpe hpe2
                go_wp2_with fail
                refine ((unhide HDy) _).mono ?_
                rintro e w1 ⟨rfl, rfl⟩
                have hpe2 := unhide F
                go_wp2
                go_roundw
                case rel => exact ⟨i + 1, n + 1, i + 1, by simp, by simp, by simp, by omega, by omega, Nat.le_refl _, .inl ⟨hlt, hnx⟩, by first | rfl | trivial⟩
                case measure => simp [intOf]; omega
          · have hpe0 := beq_u8 y 46 hp
            rw [show (((46 : UInt8).toNat : Nat) : Int) = 46 from rfl] at hpe0
            have hpe : ¬ (y.toNat : Int) = 46 := beq_eq_false_iff_ne.1 hpe0
            clear hpe0
            obtain rfl : r = false := by rw [← unhide Hr]; exact (unhide hO).other hlt (by rw [hy]; exact hd) (by rw [hy]; exact hp)
            clear hO hd hp
            go_wp2_with fail
            refine ((unhide HDy) _).mono ?_
            rintro e w1 ⟨rfl, rfl⟩
            go_wp2
            go_ret
            exact ⟨rfl, rfl⟩
        · rw [hd] at HDy
          have hnx := hide ((unhide hO).digit hlt (by rw [hy]; exact hd))
          clear hO hd
          go_wp2_with fail
          refine ((unhide HDy) _).mono ?_
          rintro e w1 ⟨rfl, rfl⟩
          go_wp2
          go_roundw
          case rel => exact ⟨fr, n, i + 1, rfl, rfl, by simp, by omega, by omega, by omega, .inl ⟨hlt, hnx⟩, by first | rfl | trivial⟩
          case measure => simp [intOf]; omega
      · have hlt' : ¬ (i : Int) < s.size := by omega
        have hq := pnum_eq (unhide hO).digs hfi hle
        have hov := (unhide hO).over hlt
        rw [unhide Hr] at hov
        cases hpn : pnum s fr i
        · rw [hpn, Bool.and_false] at hov
          subst hov
          by_cases h1 : i = fr
          · subst h1
            clear hq hpn hO
            go_wp2
            go_ret
            exact ⟨rfl, rfl⟩
          · have h1' : ((i : Int) == fr) = false := by rw [beq_eq_false_iff_ne]; omega
            have h2 : fr + 1 < i := by
              rcases Nat.lt_or_ge (fr + 1) i with h | h
              · exact h
              · exfalso
                have := hq.2.1 (by omega)
                rw [hpn] at this
                cases this
            have h2' : (fr : Int) + 1 < i := by omega
            have h3 : s[fr]'(by omega) = 48 := by
              have := hq.2.2 h2
              rw [hpn] at this
              simpa using this
            have hfl : (fr : Int) < s.size := by omega
            clear hq hpn hO
            go_wp2
            go_ret
            exact ⟨rfl, rfl⟩
        · rw [hpn, Bool.and_true] at hov
          have h1 : i ≠ fr := fun e => by have := hq.1 e; rw [hpn] at this; cases this
          have h1' : ((i : Int) == fr) = false := by rw [beq_eq_false_iff_ne]; omega
          have Hov := hide hov
          by_cases h2 : fr + 1 < i
          · have h2' : (fr : Int) + 1 < i := by omega
            have hfl : (fr : Int) < s.size := by omega
            obtain ⟨z, hz⟩ : ∃ z, s[fr]'(by omega) = z := ⟨_, rfl⟩
            have h3 : z ≠ 48 := fun e => by
              have := hq.2.2 h2
              rw [hpn, hz, e] at this
              simp at this
            have h3' := beq_u8 z 48 h3
            rw [show (((48 : UInt8).toNat : Nat) : Int) = 48 from rfl] at h3'
            clear hq hpn hO h3 hov
            go_wp2
            go_roundw
            case rel => exact ⟨i + 1, n + 1, i + 1, by simp, by simp, by simp, by omega, by omega, Nat.le_refl _, .inr ⟨by omega, Hov⟩, by first | rfl | trivial⟩
            case measure => simp [intOf]; omega
          · have h2' : ¬ (fr : Int) + 1 < i := by omega
            clear hq hpn hO hov
            go_wp2
            go_roundw
            case rel => exact ⟨i + 1, n + 1, i + 1, by simp, by simp, by simp, by omega, by omega, Nat.le_refl _, .inr ⟨by omega, Hov⟩, by first | rfl | trivial⟩
            case measure => simp [intOf]; omega
    · have hle' : ¬ (i : Int) ≤ s.size := by omega
      have hre' := unhide hre
      have hdd : decide (2 ≤ n) = decide ((2 : Int) ≤ n) := by rw [Bool.eq_iff_iff]; simp; omega
      rw [hdd] at hre'
      have Hre := hide hre'
      clear hre hre' hdd
      go_wp2
      go_ret
      exact ⟨by rw [unhide Hre]; rfl, rfl⟩

theorem refIsType_any (s : ByteArray) (w : World) (hs : s.size ≤ 1000) :
    Calls Tryz.prog 26 #[.string s] w fun e w' => e = .returned (.bool (isTy s)) ∧ w' = w := by
  have H1 := hide fun W => refKey_any s W hs
  have H2 := hide fun W => refOid_any s W hs
  have hl : s.data.toList.length = s.size := Array.length_toList
  unfold isTy tyL
  rw [hl]
  clear hl
  by_cases h : s.size ≤ 20
  · have h' : (s.size : Int) ≤ 20 := by omega
    rw [decide_eq_true h, Bool.true_and]
    generalize nums s.data.toList = b2 at *
    generalize word s.data.toList = b1 at *
    cases b1
    · go_enter Tryz.func26, Tryz.ntmps26
      go_wp2_with fail
      refine ((unhide H1) _).mono ?_
      rintro e w1 ⟨rfl, rfl⟩
      go_wp2_with fail
      refine ((unhide H2) _).mono ?_
      rintro e w2 ⟨rfl, rfl⟩
      go_wp2
      go_ret
      exact ⟨rfl, rfl⟩
    · go_enter Tryz.func26, Tryz.ntmps26
      go_wp2_with fail
      refine ((unhide H1) _).mono ?_
      rintro e w1 ⟨rfl, rfl⟩
      go_wp2
      go_ret
      exact ⟨rfl, rfl⟩
  · have h' : ¬ (s.size : Int) ≤ 20 := by omega
    rw [decide_eq_false h, Bool.false_and]
    go_enter Tryz.func26, Tryz.ntmps26
    go_wp2
    go_ret
    exact ⟨rfl, rfl⟩
end Go.Proofs.YthfcnjcpanoldaaGreatDoor.D
