/-
  Laws on least bytes and on what bytes tell: plain mathematics; no program. Conditions: none.
-/
import Derived.Test.YthibodkemnkjeaaDoorPure
namespace Sz

theorem wd_pos (n : Nat) (h : 0 < n) : 1 ≤ wd n := by
  unfold wd; repeat (split <;> try omega)
theorem wd_le (n : Nat) : wd n ≤ 4 := by
  unfold wd; repeat (split <;> try omega)
theorem wd_le3 (n : Nat) (h : n ≤ 16777215) : wd n ≤ 3 := by
  unfold wd; repeat (split <;> try omega)
theorem lt_pow_wd (n : Nat) (h : n < 4294967296) : n < 256 ^ wd n := by
  unfold wd
  split
  · omega
  · split
    · omega
    · split
      · omega
      · split <;> omega
theorem wd_min (n c : Nat) (hc : c ≤ 4) (h : n < 256 ^ c) : wd n ≤ c := by
  have hc' : c = 0 ∨ c = 1 ∨ c = 2 ∨ c = 3 ∨ c = 4 := by omega
  unfold wd
  rcases hc' with rfl | rfl | rfl | rfl | rfl <;> simp at h <;> repeat (split <;> try omega)

theorem be_length (k n : Nat) : (be k n).length = k := by
  induction k with
  | zero => rfl
  | succ k ih => simp [be, ih]
theorem numFrom_be (k n m : Nat) : numFrom m (be k n) = m * 256 ^ k + n % 256 ^ k := by
  induction k generalizing m with
  | zero => simp [be, numFrom, Nat.mod_one]
  | succ k ih =>
    have e : numFrom m (be (k + 1) n) = numFrom (256 * m + (UInt8.ofNat (n / 256 ^ k)).toNat) (be k n) := rfl
    have hx : (UInt8.ofNat (n / 256 ^ k)).toNat = n / 256 ^ k % 256 := by simp
    rw [e, ih, hx, Nat.mod_pow_succ, Nat.pow_succ, Nat.add_mul]
    have a1 : 256 * m * 256 ^ k = m * (256 ^ k * 256) := by rw [Nat.mul_comm 256 m, Nat.mul_assoc, Nat.mul_comm 256]
    have a2 : n / 256 ^ k % 256 * 256 ^ k = 256 ^ k * (n / 256 ^ k % 256) := Nat.mul_comm _ _
    omega
theorem numFrom_inj : ∀ (a b : List UInt8) (m m' : Nat), a.length = b.length → numFrom m a = numFrom m' b → m = m' ∧ a = b
  | [], [], _, _, _, h => ⟨h, rfl⟩
  | x :: a, y :: b, m, m', hl, h => by
    have h' : numFrom (256 * m + x.toNat) a = numFrom (256 * m' + y.toNat) b := h
    obtain ⟨e1, e2⟩ := numFrom_inj a b _ _ (by simpa using hl) h'
    have hx := x.toNat_lt
    have hy := y.toNat_lt
    have e3 : x = y := UInt8.toNat.inj (by omega)
    exact ⟨by omega, by rw [e2, e3]⟩
  | [], _ :: _, _, _, hl, _ => by simp at hl
  | _ :: _, [], _, _, hl, _ => by simp at hl

theorem least_length (n : Nat) : (least n).length = if n < 128 then 1 else 1 + wd n := by
  unfold least
  split
  · rfl
  · simp [be_length]; omega

theorem getD_app (s r : List UInt8) (x : UInt8) : (s ++ x :: r).getD (s.length : Int).toNat 0 = x := by
  simp [List.getD_eq_getElem?_getD]
theorem drop_app (s r : List UInt8) (x : UInt8) : (s ++ x :: r).drop ((s.length : Int).toNat + 1) = r := by
  simp [List.drop_append]

/-- a length is told by its least bytes, whatever stands ahead and behind. -/
theorem dec_least (n : Nat) (hn : n ≤ 16777215) (s t : List UInt8) : dec (s ++ least n ++ t) s.length = ((n : Int), ((s.length + (least n).length : Nat) : Int), 0) := by
  by_cases h : n < 128
  · have e : s ++ least n ++ t = s ++ UInt8.ofNat n :: t := by unfold least; rw [if_pos h]; simp
    have hx : (UInt8.ofNat n).toNat = n := by simp; omega
    rw [e]
    unfold dec
    rw [getD_app, hx, if_neg (by simp; omega), if_pos h, least_length, if_pos h]
    simp
  · have e : s ++ least n ++ t = s ++ UInt8.ofNat (128 + wd n) :: (be (wd n) n ++ t) := by unfold least; rw [if_neg h]; simp
    have w1 := wd_pos n (by omega)
    have w3 := wd_le3 n hn
    have hx : (UInt8.ofNat (128 + wd n)).toNat = 128 + wd n := by simp; omega
    have ht : (be (wd n) n ++ t).take (wd n) = be (wd n) n := by
      rw [List.take_append_of_le_length (by rw [be_length]; exact Nat.le_refl _), List.take_of_length_le (by rw [be_length]; exact Nat.le_refl _)]
    have hv : numFrom 0 (be (wd n) n) = n := by
      rw [numFrom_be, Nat.zero_mul, Nat.zero_add, Nat.mod_eq_of_lt (lt_pow_wd n (by omega))]
    rw [e]
    unfold dec
    rw [getD_app, drop_app, hx, Nat.add_sub_cancel_left, ht, hv, if_neg (by simp; omega), if_neg (by omega), if_neg (by omega), if_neg (by simp [be_length]; omega), if_neg (by omega), least_length, if_neg h]
    simp
    omega

/-- the shape of what is told. -/
theorem dec_shape (l : List UInt8) (a n p E : Int) (h : dec l a = (n, p, E)) : (E ≠ 0 → n = 0 ∧ p = 0) ∧ (E = 0 → ∃ k n' p' : Nat, a = k ∧ n = n' ∧ p = p' ∧ k < p' ∧ p' ≤ l.length ∧ n' ≤ 16777215 ∧
    (least n').length ≤ p' - k ∧ (((least n').length = p' - k) ↔ (l.drop k).take (p' - k) = least n')) := by
  unfold dec at h
  by_cases h0 : a < 0 ∨ (l.length : Int) ≤ a
  · rw [if_pos h0] at h
    cases h
    exact ⟨fun _ => ⟨rfl, rfl⟩, fun e => by cases e⟩
  · rw [if_neg h0] at h
    obtain ⟨k, rfl⟩ := Int.eq_ofNat_of_zero_le (show 0 ≤ a by omega)
    have hk : k < l.length := by omega
    have hx : l.getD (k : Int).toNat 0 = l[k] := by simp [List.getD_eq_getElem?_getD, hk]
    rw [hx, Int.toNat_natCast] at h
    have hd : l.drop k = l[k] :: l.drop (k + 1) := List.drop_eq_getElem_cons hk
    have hlt := l[k].toNat_lt
    by_cases h1 : l[k].toNat < 128
    · rw [if_pos h1] at h
      cases h
      have el : least l[k].toNat = [l[k]] := by unfold least; rw [if_pos h1]; simp
      refine ⟨fun e => absurd rfl e, fun _ => ⟨k, l[k].toNat, k + 1, rfl, rfl, rfl, by omega, by omega, by omega, ?_, ?_⟩⟩
      · rw [el]; simp
      · rw [el, hd, show k + 1 - k = 1 by omega]; exact ⟨fun _ => rfl, fun _ => rfl⟩
    · rw [if_neg h1] at h
      by_cases h2 : l[k].toNat = 128 ∨ 132 < l[k].toNat
      · rw [if_pos h2] at h
        cases h
        exact ⟨fun _ => ⟨rfl, rfl⟩, fun e => by cases e⟩
      · rw [if_neg h2] at h
        by_cases h3 : l.length - (k + 1) < l[k].toNat - 128
        · rw [if_pos h3] at h
          cases h
          exact ⟨fun _ => ⟨rfl, rfl⟩, fun e => by cases e⟩
        · rw [if_neg h3] at h
          obtain ⟨c, hc⟩ : ∃ c, c = l[k].toNat - 128 := ⟨l[k].toNat - 128, Eq.refl _⟩
          rw [← hc] at h h3
          obtain ⟨bs, hbs⟩ : ∃ bs, bs = (l.drop (k + 1)).take c := ⟨_, rfl⟩
          rw [← hbs] at h
          have hbl : bs.length = c := by rw [hbs]; simp; omega
          by_cases h4 : 16777215 < numFrom 0 bs
          · rw [if_pos h4] at h
            cases h
            exact ⟨fun _ => ⟨rfl, rfl⟩, fun e => by cases e⟩
          · rw [if_neg h4] at h
            cases h
            have hN := numFrom_lt 0 bs
            rw [hbl] at hN
            have hxe : l[k] = UInt8.ofNat (128 + c) := UInt8.toNat.inj (by simp; omega)
            have htk : (l.drop k).take (k + 1 + c - k) = UInt8.ofNat (128 + c) :: bs := by
              rw [hd, show k + 1 + c - k = c + 1 by omega, List.take_succ_cons, ← hbs, hxe]
            refine ⟨fun e => absurd rfl e, fun _ => ⟨k, numFrom 0 bs, k + 1 + c, rfl, rfl, by simp, by omega, by omega, by omega, ?_, ?_⟩⟩
            · rw [least_length]
              have := wd_min (numFrom 0 bs) c (by omega) (by omega)
              split <;> omega
            · rw [htk]
              constructor
              · intro hl
                rw [least_length] at hl
                unfold least
                by_cases h5 : numFrom 0 bs < 128
                · rw [if_pos h5] at hl; omega
                · rw [if_neg h5] at hl ⊢
                  have hw : wd (numFrom 0 bs) = c := by omega
                  rw [hw]
                  have hb := numFrom_inj bs (be c (numFrom 0 bs)) 0 0 (by rw [be_length, hbl]) (by rw [numFrom_be, Nat.zero_mul, Nat.zero_add, Nat.mod_eq_of_lt (by omega)])
                  rw [← hb.2]
              · intro he
                rw [← he]
                simp [hbl]
                omega

/-- a beginning of the least bytes is too short. -/
theorem dec_cut (n : Nat) (hn : n ≤ 16777215) (j : Nat) (hj : j < (least n).length) : dec ((least n).take j) 0 = (0, 0, 10) := by
  by_cases h0 : j = 0
  · subst h0; simp [dec]
  · rw [least_length] at hj
    by_cases h : n < 128
    · rw [if_pos h] at hj; omega
    · rw [if_neg h] at hj
      have w1 := wd_pos n (by omega)
      have w3 := wd_le3 n hn
      obtain ⟨i, rfl⟩ : ∃ i, j = i + 1 := ⟨j - 1, by omega⟩
      have e : (least n).take (i + 1) = UInt8.ofNat (128 + wd n) :: (be (wd n) n).take i := by unfold least; rw [if_neg h]; rfl
      have hx : (UInt8.ofNat (128 + wd n)).toNat = 128 + wd n := by simp; omega
      rw [e]
      unfold dec
      simp only [Int.toNat_zero, List.getD_cons_zero, hx]
      rw [if_neg (by simp), if_neg (by omega), if_neg (by omega), if_pos (by simp [be_length]; omega)]

/-- four bytes behind 84. -/
theorem dec_long (n : Nat) (hn : n ≤ 16777215) (b3 b2 b1 b0 : UInt8) (h3 : b3.toNat = 0) (h2 : b2.toNat = n / 65536 % 256) (h1 : b1.toNat = n / 256 % 256) (h0 : b0.toNat = n % 256) : dec [132, b3, b2, b1, b0] 0 = ((n : Int), 5, 0) := by
  have e : numFrom 0 [b3, b2, b1, b0] = n := by
    simp [numFrom, h3, h2, h1, h0]; omega
  unfold dec
  simp only [Int.toNat_zero, List.getD_cons_zero]
  rw [if_neg (by simp), if_neg (by decide), if_neg (by decide), if_neg (by simp)]
  have e2 : (List.drop (0 + 1) [132, b3, b2, b1, b0]).take ((132 : UInt8).toNat - 128) = [b3, b2, b1, b0] := rfl
  rw [e2, e, if_neg (by omega)]
  rfl
theorem least_not_long (n : Nat) (hn : n ≤ 16777215) (l : List UInt8) (hl : l.length = 5) : l ≠ least n := by
  intro e
  have := least_length n
  have w3 := wd_le3 n hn
  rw [← e, hl] at this
  split at this <;> omega
end Sz
