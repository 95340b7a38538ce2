/-
  A tree of one tag whose length is told by more bytes than it needs: plain mathematics; no program. Conditions: none.
-/
import Derived.Test.YtgblpepopfaljaaDoorTDoor
namespace Tv

theorem dec_three (n : Nat) (hn : n ≤ 3000) (t hi lo : UInt8) (d : List UInt8) (hd : d.length = n) (h1 : hi.toNat = n / 256) (h0 : lo.toNat = n % 256) : Sz.dec (t :: 131 :: 0 :: hi :: lo :: d) 1 = ((n : Int), 5, 0) := by
  have e : Sz.numFrom 0 [0, hi, lo] = n := by
    simp [Sz.numFrom, h1, h0]; omega
  unfold Sz.dec
  simp only [Int.toNat_one, List.getD_cons_succ, List.getD_cons_zero]
  rw [if_neg (by simp; omega), if_neg (by decide), if_neg (by decide), if_neg (by simp)]
  have e2 : (List.drop (1 + 1) (t :: 131 :: 0 :: hi :: lo :: d)).take ((131 : UInt8).toNat - 128) = [0, hi, lo] := rfl
  rw [e2, e, if_neg (by omega)]
  rfl

/-- a tree of one tag. -/
def one (t : Int) (d : ByteArray) : Tr 13 := mk t d []
theorem one_count (t : Int) (d : ByteArray) : count 13 (one t d) = 1 := rfl
theorem one_body (t : Int) (d : ByteArray) : body (one t d) = d.data.toList := by unfold body one; simp
theorem one_shape (t : Int) (d : ByteArray) : shape 13 12 (one t d) = fitB t d.size 0 := by
  unfold shape one; simp
theorem one_right (t : Int) (d : ByteArray) (hd : d.size ≤ 3000) : right (one t d) = fitB t d.size 0 := by
  have hl : d.data.toList.length = d.size := Array.length_toList
  have h : (enc 13 (one t d)).length = 1 + (Sz.least (body (one t d)).length).length + (body (one t d)).length := enc_len (one t d)
  rw [one_body, hl] at h
  have h5 := least_len d.size
  unfold right
  rw [one_count, one_shape]
  cases fitB t d.size 0
  · rfl
  · simp; omega

theorem long_whole (t : Int) (d : ByteArray) (hd : d.size ≤ 3000) (h : right (one t d) = true) (hi lo : UInt8) (h1 : hi.toNat = d.size / 256) (h0 : lo.toNat = d.size % 256) :
    wholeT (UInt8.ofNat t.toNat :: 131 :: 0 :: hi :: lo :: d.data.toList) = .ok (one t d) := by
  have hl : d.data.toList.length = d.size := Array.length_toList
  have hf := h
  rw [one_right t d hd] at hf
  obtain ⟨ht0, ht1, ht2, hin, _⟩ := (fit_iff _ _ _).1 hf
  have hx : (UInt8.ofNat t.toNat).toNat = t.toNat := by simp; omega
  have hh : headT (UInt8.ofNat t.toNat :: 131 :: 0 :: hi :: lo :: d.data.toList) 0 (d.size + 5) = .ok (t.toNat, 5, 5 + d.size) := by
    have hdc := dec_three d.size hd (UInt8.ofNat t.toNat) hi lo d.data.toList hl h1 h0
    unfold headT
    rw [List.take_of_length_le (by simp), show (((0 : Nat) : Int) + 1) = 1 by rfl, hdc, List.getD_cons_zero, hx, if_neg (by omega), if_neg (by omega)]
    simp only [ne_eq, not_true_eq_false, if_false, Int.toNat_natCast]
    rw [if_neg (by omega)]
    rfl
  have hr : readT (UInt8.ofNat t.toNat :: 131 :: 0 :: hi :: lo :: d.data.toList) 12 0 (d.size + 5) 0 = .ok (one t d, 5 + d.size, 1) := by
    unfold readT
    rw [if_neg (by omega), hh]
    simp only
    rw [show ((t.toNat : Nat) : Int) = t by omega]
    cases hi' : isIn t
    · simp only [Bool.false_eq_true, if_false]
      congr 2
      unfold one
      have : (⟨(List.take (5 + d.size - 5) (List.drop 5 (UInt8.ofNat t.toNat :: 131 :: 0 :: hi :: lo :: d.data.toList))).toArray⟩ : ByteArray) = d := by
        rw [show List.drop 5 (UInt8.ofNat t.toNat :: 131 :: 0 :: hi :: lo :: d.data.toList) = d.data.toList from rfl, List.take_of_length_le (by omega)]
      rw [this]
    · have hz := hin hi'
      obtain rfl := nil_of_size hz
      simp only [if_true]
      rfl
  have hd2 : decT (UInt8.ofNat t.toNat :: 131 :: 0 :: hi :: lo :: d.data.toList) 0 = .ok (one t d, 5 + d.size) := by
    unfold decT
    rw [if_pos ⟨by omega, by simp; omega⟩, show (UInt8.ofNat t.toNat :: 131 :: 0 :: hi :: lo :: d.data.toList).length = d.size + 5 by simp [hl], Int.toNat_zero, hr]
    simp only [h, if_true]
  unfold wholeT
  rw [hd2]
  simp only [List.length_cons, hl]
  rw [if_neg (by omega)]
end Tv
