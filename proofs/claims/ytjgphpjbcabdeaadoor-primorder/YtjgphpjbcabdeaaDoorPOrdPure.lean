/-
  How numbers' bytes lie among each other. Plain arithmetic. Conditions: none.
-/
import Derived.Test.YtjgphpjbcabdeaaDoorPPure
import Derived.WalkKit
namespace Go.Proofs.YtjgphpjbcabdeaaDoor.Pr
open Go

theorem u8lt (a b : UInt8) : (a < b) = ((a.toNat : Int) < b.toNat) := by rw [UInt8.lt_iff_toNat_lt]; simp
theorem u8eq (a b : UInt8) : (a = b) = ((a.toNat : Int) = b.toNat) := propext ⟨fun h => by rw [h], u8_ext⟩

/-- a number of four bytes, by its bytes. -/
theorem four (n : Int) (h : -2147483648 ≤ n ∧ n ≤ 2147483647) : n = 16777216 * (((bt n 3).toNat : Int) - if n < 0 then 256 else 0) + 65536 * ((bt n 2).toNat : Int) + 256 * ((bt n 1).toNat : Int) + ((bt n 0).toNat : Int) := by
  have n0 := bt0 n
  have n1 := bt1 n
  have n2 := bt2 n
  have n3 := bt3 n
  split <;> omega

theorem less_bts (n m : Int) (k : Nat) (hs : (n < 0) = (m < 0)) (h : (k = 1 ∧ (-128 ≤ n ∧ n ≤ 127) ∧ -128 ≤ m ∧ m ≤ 127) ∨ (k = 2 ∧ (-32768 ≤ n ∧ n ≤ 32767) ∧ -32768 ≤ m ∧ m ≤ 32767) ∨ (k = 3 ∧ (-8388608 ≤ n ∧ n ≤ 8388607) ∧ -8388608 ≤ m ∧ m ≤ 8388607) ∨ (k = 4 ∧ (-2147483648 ≤ n ∧ n ≤ 2147483647) ∧ -2147483648 ≤ m ∧ m ≤ 2147483647)) :
    Op.bytesLess (bts n k) (bts m k) = decide (n < m) := by
  have n0 := bt0 n
  have n1 := bt1 n
  have n2 := bt2 n
  have n3 := bt3 n
  have m0 := bt0 m
  have m1 := bt1 m
  have m2 := bt2 m
  have m3 := bt3 m
  have hs' : n < 0 ↔ m < 0 := by rw [hs]
  rw [Bool.eq_iff_iff]
  rcases h with ⟨rfl, h⟩ | ⟨rfl, h⟩ | ⟨rfl, h⟩ | ⟨rfl, h⟩
  · simp only [bts, Op.bytesLess, Bool.or_eq_true, Bool.and_eq_true, decide_eq_true_eq, beq_iff_eq, u8lt, u8eq, Bool.false_eq_true, and_false, or_false]
    omega
  · simp only [bts, Op.bytesLess, Bool.or_eq_true, Bool.and_eq_true, decide_eq_true_eq, beq_iff_eq, u8lt, u8eq, Bool.false_eq_true, and_false, or_false]
    omega
  · simp only [bts, Op.bytesLess, Bool.or_eq_true, Bool.and_eq_true, decide_eq_true_eq, beq_iff_eq, u8lt, u8eq, Bool.false_eq_true, and_false, or_false]
    omega
  · simp only [bts, Op.bytesLess, Bool.or_eq_true, Bool.and_eq_true, decide_eq_true_eq, beq_iff_eq, u8lt, u8eq, Bool.false_eq_true, and_false, or_false]
    have fn := four n h.1
    have fm := four m h.2
    have x0 := (bt n 0).toNat_lt
    have x1 := (bt n 1).toNat_lt
    have x2 := (bt n 2).toNat_lt
    have x3 := (bt n 3).toNat_lt
    have y0 := (bt m 0).toNat_lt
    have y1 := (bt m 1).toNat_lt
    have y2 := (bt m 2).toNat_lt
    have y3 := (bt m 3).toNat_lt
    clear n0 n1 n2 n3 m0 m1 m2 m3 hs
    by_cases hn : n < 0
    · rw [if_pos hn] at fn
      rw [if_pos (hs'.1 hn)] at fm
      generalize (bt n 0).toNat = a0 at *
      generalize (bt n 1).toNat = a1 at *
      generalize (bt n 2).toNat = a2 at *
      generalize (bt n 3).toNat = a3 at *
      generalize (bt m 0).toNat = b0 at *
      generalize (bt m 1).toNat = b1 at *
      generalize (bt m 2).toNat = b2 at *
      generalize (bt m 3).toNat = b3 at *
      omega
    · rw [if_neg hn] at fn
      rw [if_neg (fun h => hn (hs'.2 h))] at fm
      generalize (bt n 0).toNat = a0 at *
      generalize (bt n 1).toNat = a1 at *
      generalize (bt n 2).toNat = a2 at *
      generalize (bt n 3).toNat = a3 at *
      generalize (bt m 0).toNat = b0 at *
      generalize (bt m 1).toNat = b1 at *
      generalize (bt m 2).toNat = b2 at *
      generalize (bt m 3).toNat = b3 at *
      omega

theorem less_enc (n m : Int) (hm : wd m ≠ 0) (hw : wd n = wd m) (hs : (n < 0) = (m < 0)) : Op.bytesLess (enc n) (enc m) = decide (n < m) := by
  unfold enc
  rw [hw]
  apply less_bts n m _ hs
  have := wd_cases n
  have := wd_cases m
  omega
theorem enc_inj (n m : Int) (hn : wd n ≠ 0) (hm : wd m ≠ 0) (h : enc n = enc m) : n = m := by
  rw [← val_enc n hn, ← val_enc m hm, h]
theorem first_enc (n : Int) (hn : wd n ≠ 0) : Op.bytesLess ((enc n).take 1) [128] = decide (0 ≤ n) := by
  have n0 := bt0 n
  have n1 := bt1 n
  have n2 := bt2 n
  have n3 := bt3 n
  have e : ((128 : UInt8).toNat : Int) = 128 := rfl
  rw [Bool.eq_iff_iff]
  unfold enc
  rcases wd_cases n with ⟨h, hr⟩ | ⟨h, hr⟩ | ⟨h, hr⟩ | ⟨h, hr⟩ | ⟨h, hr⟩
  · rw [h]
    simp only [bts, List.take_succ_cons, List.take_zero, Op.bytesLess, Bool.or_eq_true, Bool.and_eq_true, decide_eq_true_eq, beq_iff_eq, u8lt, u8eq, Bool.false_eq_true, and_false, or_false, e]
    omega
  · rw [h]
    simp only [bts, List.take_succ_cons, List.take_zero, Op.bytesLess, Bool.or_eq_true, Bool.and_eq_true, decide_eq_true_eq, beq_iff_eq, u8lt, u8eq, Bool.false_eq_true, and_false, or_false, e]
    omega
  · rw [h]
    simp only [bts, List.take_succ_cons, List.take_zero, Op.bytesLess, Bool.or_eq_true, Bool.and_eq_true, decide_eq_true_eq, beq_iff_eq, u8lt, u8eq, Bool.false_eq_true, and_false, or_false, e]
    omega
  · rw [h]
    simp only [bts, List.take_succ_cons, List.take_zero, Op.bytesLess, Bool.or_eq_true, Bool.and_eq_true, decide_eq_true_eq, beq_iff_eq, u8lt, u8eq, Bool.false_eq_true, and_false, or_false, e]
    omega
  · exact absurd h hn
end Go.Proofs.YtjgphpjbcabdeaaDoor.Pr
