/-
  The document's answers of layer 1 (latinerref01), walked: Decode, at texts of at most 9000 bytes. Conditions: none.
-/
import Derived.Test.YthibodkemnkjeaaDoorRefs
import Derived.Test.YthibodkemnkjeaaDoorDecode
namespace Go.Proofs.YthibodkemnkjeaaDoor
open Go.RowKit

theorem rest_take (s : ByteArray) (k j : Nat) (h : k + 1 + j < s.size) : (s.data.toList.drop (k + 1)).take (j + 1) = (s.data.toList.drop (k + 1)).take j ++ [s[k + 1 + j]] := getElem_drop s (k + 1) j h

theorem ret3 {a b c a' b' c' : Int} (h1 : a = a') (h2 : b = b') (h3 : c = c') : Ending.returned (.tuple #[.int .i64 a, .int .i64 b, .int .i64 c]) = .returned (.tuple #[.int .i64 a', .int .i64 b', .int .i64 c']) := by rw [h1, h2, h3]

set_option maxRecDepth 100000 in
set_option maxHeartbeats 1000000 in
theorem refDecode_loop (s : ByteArray) (k c : Nat) (w : World) (hs : s.size ≤ 9000) (hk : k < s.size) (hx : s[k].toNat = 128 + c) (hc1 : 1 ≤ c) (hc : c ≤ 4) (hl : k + 1 + c ≤ s.size) (N : Nat) (hN : N = Sz.numFrom 0 ((s.data.toList.drop (k + 1)).take c)) :
    Calls Tryd.prog 52 #[.string s, .int .i64 k] w fun e w' => e = .returned (tup (if 16777215 < N then (0, 0, 12) else ((N : Int), (k : Int) + 1 + c, 0))) ∧ w' = w := by
  have hs' : (s.size : Int) ≤ 9000 := by omega
  have HN : Hid (N = Sz.numFrom 0 ((s.data.toList.drop (k + 1)).take c)) := hN
  have Hx : Hid (s[k].toNat = 128 + c) := hx
  have t1 : ¬ (s[k].toNat : Int) < 128 := by omega
  have t2 : ((s[k].toNat : Int) == 128) = false := beq_eq_false_iff_ne.2 (by omega)
  have t3 : ¬ 132 < (s[k].toNat : Int) := by omega
  have t3' : (s[k].toNat : Int) ≤ 132 := by omega
  have t4 : ¬ (s.size : Int) - k - 1 < (s[k].toNat : Int) - 128 := by omega
  have hk' : (k : Int) < s.size := by omega
  have t5 : (0 : Int) ≤ s.size := by omega
  have hbd : ∀ j, j ≤ 3 → Sz.numFrom 0 ((s.data.toList.drop (k + 1)).take j) ≤ 16777215 := fun j hj => by
    have h1 := Sz.numFrom_lt 0 ((s.data.toList.drop (k + 1)).take j)
    have h2 : ((s.data.toList.drop (k + 1)).take j).length ≤ 3 := by simp; omega
    have h3 : 256 ^ ((s.data.toList.drop (k + 1)).take j).length ≤ 256 ^ 3 := Nat.pow_le_pow_right (by omega) h2
    omega
  have Hbd : Hid (∀ j, j ≤ 3 → Sz.numFrom 0 ((s.data.toList.drop (k + 1)).take j) ≤ 16777215) := hbd
  obtain ⟨t, ht⟩ : ∃ t : Int × Int × Int, t = (if 16777215 < N then (0, 0, 12) else ((N : Int), (k : Int) + 1 + c, 0)) := ⟨_, rfl⟩
  rw [← ht]
  have Ht : Hid (t = (if 16777215 < N then (0, 0, 12) else ((N : Int), (k : Int) + 1 + c, 0))) := ht
  clear hN hx hbd ht
  go_enter Tryd.func52, Tryd.ntmps52
  go_wp2
  go_loop [8, 9] (fun n i => ∃ j : Nat, j ≤ c ∧ i = .int .i64 ((j : Int) + 1) ∧ n = .int .i64 (Sz.numFrom 0 ((s.data.toList.drop (k + 1)).take j) : Nat)) (fun _ i => c + 1 - (intOf i).toNat)
  case atStart => exact ⟨0, by omega, rfl, rfl⟩
  case round =>
    obtain ⟨j, hj, rfl, rfl⟩ := hrel
    have hx := Hx.out
    by_cases hlt : j < c
    · have hi1 : k + 1 + j < s.size := by omega
      obtain ⟨p, hp⟩ : ∃ p, p = k + 1 + j := ⟨_, rfl⟩
      rw [← hp] at hi1
      have hsn : Hid (Sz.numFrom 0 ((s.data.toList.drop (k + 1)).take (j + 1)) = 256 * Sz.numFrom 0 ((s.data.toList.drop (k + 1)).take j) + (s[p]'hi1).toNat) := by
        show _ = _
        subst hp
        rw [rest_take s k j (by omega), Sz.numFrom_snoc]
      have u1 : (j : Int) + 1 ≤ (s[k].toNat : Int) - 128 := by omega
      have hb := Hbd.out j (by omega)
      have hbn : ((Sz.numFrom 0 ((s.data.toList.drop (k + 1)).take j) : Nat) : Int) ≤ 16777215 := by omega
      have hpe : (k : Int) + ((j : Int) + 1) = (p : Int) := by omega
      have hp1 : (p : Int) < s.size := by omega
      generalize Sz.numFrom 0 ((s.data.toList.drop (k + 1)).take j) = q at *
      have hbx : ((s[p]'hi1).toNat : Int) ≤ 255 := by have := (s[p]'hi1).toNat_lt; omega
      clear hx hb hp t2 t3 t4
      generalize (s[k].toNat : Int) = X at *
      go_wp2
      go_round
      case rel => exact ⟨j + 1, by omega, by go_num, by rw [hsn.out]; go_num⟩
      case measure => simp [intOf]; omega
    · obtain rfl : j = c := by omega
      have u1 : ¬ (j : Int) + 1 ≤ (s[k].toNat : Int) - 128 := by omega
      have hN := HN.out
      rw [← hN]
      have ht := Ht.out
      have e2 : (k : Int) + 1 + (s[k].toNat : Int) - 128 = (k : Int) + 1 + j := by omega
      have E2 : Hid ((k : Int) + 1 + (s[k].toNat : Int) - 128 = (k : Int) + 1 + j) := e2
      clear hN hx e2
      by_cases hbig : 16777215 < N
      · rw [if_pos hbig] at ht
        subst ht
        have hbig' : 16777215 < (N : Int) := by omega
        go_wp2
        go_ret3
        exact ⟨rfl, rfl⟩
      · rw [if_neg hbig] at ht
        subst ht
        have hbig' : ¬ 16777215 < (N : Int) := by omega
        go_wp2
        go_ret3
        exact ⟨ret3 rfl E2.out rfl, rfl⟩

theorem refDecode_out (s : ByteArray) (a : Int) (w : World) (hs : s.size ≤ 9000) (h : ¬ (0 ≤ a ∧ a < s.size)) :
    Calls Tryd.prog 52 #[.string s, .int .i64 a] w fun e w' => e = .returned (tup (0, 0, 10)) ∧ w' = w := by
  have hs' : (s.size : Int) ≤ 9000 := by omega
  by_cases h0 : a < 0
  · clear h
    go_enter Tryd.func52, Tryd.ntmps52
    go_wp2
    go_ret3
    exact ⟨rfl, rfl⟩
  · have h1 : (s.size : Int) ≤ a := by omega
    clear h
    go_enter Tryd.func52, Tryd.ntmps52
    go_wp2
    go_ret3
    exact ⟨rfl, rfl⟩
set_option maxRecDepth 100000 in
theorem refDecode_low (s : ByteArray) (k : Nat) (w : World) (hs : s.size ≤ 9000) (hk : k < s.size) (hx : s[k].toNat < 128) :
    Calls Tryd.prog 52 #[.string s, .int .i64 k] w fun e w' => e = .returned (tup ((s[k].toNat : Int), (k : Int) + 1, 0)) ∧ w' = w := by
  have hs' : (s.size : Int) ≤ 9000 := by omega
  have hk' : (k : Int) < s.size := by omega
  have t1 : (s[k].toNat : Int) < 128 := by omega
  have hbx : (s[k].toNat : Int) ≤ 255 := by omega
  go_enter Tryd.func52, Tryd.ntmps52
  go_wp2
  go_ret3
  exact ⟨rfl, rfl⟩
set_option maxRecDepth 100000 in
theorem refDecode_form (s : ByteArray) (k : Nat) (w : World) (hs : s.size ≤ 9000) (hk : k < s.size) (hx : s[k].toNat = 128 ∨ 132 < s[k].toNat) :
    Calls Tryd.prog 52 #[.string s, .int .i64 k] w fun e w' => e = .returned (tup (0, 0, 11)) ∧ w' = w := by
  have hs' : (s.size : Int) ≤ 9000 := by omega
  have hk' : (k : Int) < s.size := by omega
  have t1 : ¬ (s[k].toNat : Int) < 128 := by omega
  have hbx : (s[k].toNat : Int) ≤ 255 := by have := s[k].toNat_lt; omega
  rcases hx with hx | hx
  · have t2 : ((s[k].toNat : Int) == 128) = true := by rw [hx]; rfl
    clear hx
    go_enter Tryd.func52, Tryd.ntmps52
    go_wp2
    go_ret3
    exact ⟨rfl, rfl⟩
  · have t2 : ((s[k].toNat : Int) == 128) = false := beq_eq_false_iff_ne.2 (by omega)
    have t3 : 132 < (s[k].toNat : Int) := by omega
    clear hx
    go_enter Tryd.func52, Tryd.ntmps52
    go_wp2
    go_ret3
    exact ⟨rfl, rfl⟩
set_option maxRecDepth 100000 in
theorem refDecode_short (s : ByteArray) (k : Nat) (w : World) (hs : s.size ≤ 9000) (hk : k < s.size) (hx : 128 < s[k].toNat) (hx' : s[k].toNat ≤ 132) (hl : s.size - (k + 1) < s[k].toNat - 128) :
    Calls Tryd.prog 52 #[.string s, .int .i64 k] w fun e w' => e = .returned (tup (0, 0, 10)) ∧ w' = w := by
  have hs' : (s.size : Int) ≤ 9000 := by omega
  have hk' : (k : Int) < s.size := by omega
  have t1 : ¬ (s[k].toNat : Int) < 128 := by omega
  have t2 : ((s[k].toNat : Int) == 128) = false := beq_eq_false_iff_ne.2 (by omega)
  have t3 : ¬ 132 < (s[k].toNat : Int) := by omega
  have t3' : (s[k].toNat : Int) ≤ 132 := by omega
  have t4 : (s.size : Int) - k - 1 < (s[k].toNat : Int) - 128 := by omega
  clear hx hx' hl
  go_enter Tryd.func52, Tryd.ntmps52
  go_wp2
  go_ret3
  exact ⟨rfl, rfl⟩

set_option maxRecDepth 100000 in
theorem refDecode_any (s : ByteArray) (a : Int) (w : World) (hs : s.size ≤ 9000) :
    Calls Tryd.prog 52 #[.string s, .int .i64 a] w fun e w' => e = .returned (tup (Sz.dec s.data.toList a)) ∧ w' = w := by
  have hsz : s.data.toList.length = s.size := by simp
  by_cases h0 : 0 ≤ a ∧ a < s.size
  · obtain ⟨k, rfl⟩ := Int.eq_ofNat_of_zero_le h0.1
    have hk : k < s.size := by omega
    have hx := getD_at s k hk
    by_cases h1 : s[k].toNat < 128
    · have e : Sz.dec s.data.toList k = ((s[k].toNat : Int), (k : Int) + 1, 0) := by
        unfold Sz.dec; rw [if_neg (by omega), hx, if_pos h1]
      rw [e]
      exact refDecode_low s k w hs hk h1
    · by_cases h2 : s[k].toNat = 128 ∨ 132 < s[k].toNat
      · have e : Sz.dec s.data.toList k = (0, 0, 11) := by
          unfold Sz.dec; rw [if_neg (by omega), hx, if_neg h1, if_pos h2]
        rw [e]
        exact refDecode_form s k w hs hk h2
      · by_cases h3 : s.size - (k + 1) < s[k].toNat - 128
        · have e : Sz.dec s.data.toList k = (0, 0, 10) := by
            unfold Sz.dec; rw [if_neg (by omega), hx, if_neg h1, if_neg h2, if_pos (by rw [hsz, Int.toNat_natCast]; exact h3)]
          rw [e]
          exact refDecode_short s k w hs hk (by omega) (by omega) h3
        · have e : Sz.dec s.data.toList k = (if 16777215 < Sz.numFrom 0 ((s.data.toList.drop (k + 1)).take (s[k].toNat - 128)) then (0, 0, 12) else ((Sz.numFrom 0 ((s.data.toList.drop (k + 1)).take (s[k].toNat - 128)) : Int), (k : Int) + 1 + (s[k].toNat - 128 : Nat), 0)) := by
            unfold Sz.dec; rw [if_neg (by omega), hx, if_neg h1, if_neg h2, if_neg (by rw [hsz, Int.toNat_natCast]; exact h3), Int.toNat_natCast]
          rw [e]
          exact refDecode_loop s k (s[k].toNat - 128) w hs hk (by omega) (by omega) (by omega) (by omega) _ rfl
  · have e : Sz.dec s.data.toList a = (0, 0, 10) := by
      unfold Sz.dec; rw [if_pos (by omega)]
    rw [e]
    exact refDecode_out s a w hs h0

end Go.Proofs.YthibodkemnkjeaaDoor
