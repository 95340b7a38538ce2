/-
  What is read of a beginning of a right tree's bytes, and of more bytes: plain mathematics; no program. Conditions: none.
-/
import Derived.Test.YthibodkemnkjeaaDoorTvBack
namespace Sz
theorem dec_cons10 (x : UInt8) (l : List UInt8) (h : dec l 0 = (0, 0, 10)) : dec (x :: l) 1 = (0, 0, 10) := by
  by_cases h0 : l = []
  · subst h0
    unfold dec
    rw [if_pos (by simp)]
  · have hl : 1 ≤ l.length := by cases l with | nil => exact absurd rfl h0 | cons _ _ => simp
    unfold dec at h ⊢
    rw [if_neg (by omega)] at h
    rw [if_neg (by simp only [List.length_cons]; omega)]
    rw [show (1 : Int).toNat = 1 from rfl, List.getD_cons_succ]
    rw [show (0 : Int).toNat = 0 from rfl] at h
    split at h
    next hc => simp at h
    next hc =>
      rw [if_neg hc]
      split at h
      next hd => simp at h
      next hd =>
        rw [if_neg hd]
        split at h
        next he => rw [if_pos (by simp only [List.length_cons]; omega)]
        next he =>
          split at h
          next => simp at h
          next => simp at h
end Sz
namespace Tv
theorem headT_cut {n : Nat} (T : Tr (n + 1)) (h0 : 0 ≤ tag T) (h1 : tag T ≤ 255) (h2 : tag T % 32 ≠ 31) (hb : (body T).length ≤ 16777215) (j : Nat) (hj : j < (enc (n + 1) T).length) :
    headT ((enc (n + 1) T).take j) 0 ((enc (n + 1) T).take j).length = .error 10 := by
  have hl := enc_len T
  have hx : (UInt8.ofNat (tag T).toNat).toNat = (tag T).toNat := by simp; omega
  have hlen : ((enc (n + 1) T).take j).length = j := by rw [List.length_take]; omega
  cases j with
  | zero => simp [headT]
  | succ j =>
    have e : (enc (n + 1) T).take (j + 1) = UInt8.ofNat (tag T).toNat :: (Sz.least (body T).length ++ body T).take j := by rw [enc_succ]; rfl
    have hd : Sz.dec (UInt8.ofNat (tag T).toNat :: (Sz.least (body T).length ++ body T).take j) 1 = (0, 0, 10) ∨
        (Sz.dec (UInt8.ofNat (tag T).toNat :: (Sz.least (body T).length ++ body T).take j) 1 = (((body T).length : Int), ((1 + (Sz.least (body T).length).length : Nat) : Int), 0)) := by
      by_cases hc : j < (Sz.least (body T).length).length
      · left
        rw [List.take_append_of_le_length (by omega)]
        exact Sz.dec_cons10 _ _ (Sz.dec_cut _ hb j hc)
      · right
        rw [List.take_append, List.take_of_length_le (by omega)]
        have := Sz.dec_least (body T).length hb [UInt8.ofNat (tag T).toNat] ((body T).take (j - (Sz.least (body T).length).length))
        simpa using this
    unfold headT
    rw [hlen, e]
    have ht : (UInt8.ofNat (tag T).toNat :: (Sz.least (body T).length ++ body T).take j).take (j + 1) = UInt8.ofNat (tag T).toNat :: (Sz.least (body T).length ++ body T).take j := List.take_of_length_le (by rw [← e, hlen]; omega)
    rw [if_neg (by omega), List.getD_cons_zero, hx, if_neg (by omega), ht, show ((0 : Nat) : Int) + 1 = 1 from rfl]
    rcases hd with hd | hd
    · rw [hd, if_pos (by simp)]
    · rw [hd, if_neg (by simp), if_pos (by simp only; omega)]

theorem dec_cut (T : Tr 13) (h : right T = true) (j : Nat) (hj : j < (enc 13 T).length) : decT ((enc 13 T).take j) 0 = .error 10 := by
  obtain ⟨h1, h2, h3⟩ := right_iff.1 h
  have hf := (fit_iff _ _ _).1 (shape_succ h1).2.1
  have hl : (enc 13 T).length = 1 + (Sz.least (body T).length).length + (body T).length := enc_len T
  have hh := headT_cut T hf.1 hf.2.1 hf.2.2.1 (by omega) j hj
  unfold decT
  rw [if_pos ⟨by omega, by omega⟩, show (0 : Int).toNat = 0 from rfl]
  unfold readT
  rw [if_neg (by omega)]
  show (match (match headT ((enc 13 T).take j) 0 ((enc 13 T).take j).length with | .error e => .error e | .ok (t, a, b) => _ : Except Int (Tr 13 × Nat × Nat)) with | .error e => _ | .ok (T, nx, _) => _) = _
  rw [show headT ((enc 13 T).take j) 0 ((enc 13 T).take j).length = .error 10 from hh]

theorem whole_more (T : Tr 13) (h : right T = true) (x : UInt8) (r : List UInt8) : wholeT (enc 13 T ++ x :: r) = .error 11 := by
  have := dec_enc T h [] (x :: r)
  simp only [List.nil_append, List.length_nil, Nat.zero_add] at this
  unfold wholeT
  rw [show (0 : Int) = ((0 : Nat) : Int) from rfl, this]
  simp only
  rw [if_pos (by simp)]
end Tv
