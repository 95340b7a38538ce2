/-
  What is read of the bytes of a right tree, and of what was read: plain mathematics; no program. Conditions: none.
-/
import Derived.Test.YthibodkemnkjeaaDoorTDoor
namespace Tv

theorem right_iff {n : Nat} {T : Tr n} : right T = true ↔ shape n 12 T = true ∧ count n T ≤ 200 ∧ (enc n T).length ≤ 4000 := by
  unfold right
  simp only [Bool.and_eq_true, decide_eq_true_eq]
  exact and_assoc
/-- a right tree's bytes, with others ahead and behind. -/
theorem dec_enc (T : Tr 13) (h : right T = true) (pre post : List UInt8) : decT (pre ++ enc 13 T ++ post) pre.length = .ok (T, pre.length + (enc 13 T).length) := by
  obtain ⟨h1, h2, h3⟩ := right_iff.1 h
  have hr := readT_enc 12 T h1 (by show (enc 13 T).length ≤ _; omega) pre post (pre ++ enc 13 T ++ post).length 0 (by show 0 + count 13 T ≤ _; omega) (by show pre.length + (enc 13 T).length ≤ _; simp)
  unfold decT
  rw [if_pos ⟨by omega, by simp; omega⟩, Int.toNat_natCast, hr]
  simp only [h, if_true]
theorem whole_enc (T : Tr 13) (h : right T = true) : wholeT (enc 13 T) = .ok T := by
  have := dec_enc T h [] []
  simp only [List.nil_append, List.append_nil, List.length_nil, Nat.zero_add] at this
  unfold wholeT
  rw [show (0 : Int) = ((0 : Nat) : Int) from rfl, this]
  simp
theorem dec_right {l : List UInt8} {p : Int} {T : Tr 13} {nx : Nat} (h : decT l p = .ok (T, nx)) : right T = true ∧ 0 ≤ p ∧ p + (enc 13 T).length ≤ nx ∧ nx ≤ l.length := by
  unfold decT at h
  split at h
  next hp =>
    split at h
    next => cases h
    next T' nx' c' hr =>
      split at h
      next hrt =>
        cases h
        have := readT_props l 12 p.toNat l.length 0 T nx c' (Nat.le_refl _) (by omega) hr
        refine ⟨hrt, hp.1, ?_, ?_⟩
        · have h1 : p.toNat + (enc 13 T).length ≤ nx := this.1
          omega
        · have := this.2.1; omega
      next => cases h
  next => cases h

theorem headT_err {l : List UInt8} {p stop : Nat} {E : Int} (h : headT l p stop = .error E) : E ≠ 0 := by
  unfold headT at h
  split at h
  · cases h; omega
  · split at h
    · cases h; omega
    · split at h
      next hne => cases h; exact hne
      next => split at h
              · cases h; omega
              · cases h
theorem readL_err {α : Type} {rd : Nat → Nat → Except Int (α × Nat × Nat)} (hr : ∀ p c E, rd p c = .error E → E ≠ 0) : ∀ (f p stop c : Nat) (E : Int), readL rd f p stop c = .error E → E ≠ 0
  | 0, p, stop, c, E, h => by cases h
  | f + 1, p, stop, c, E, h => by
    unfold readL at h
    split at h
    · split at h
      next e he => cases h; exact hr _ _ _ he
      next x nx c' he =>
        split at h
        next e he2 => cases h; exact readL_err hr f _ _ _ _ he2
        next => cases h
    · cases h
theorem readT_err (l : List UInt8) : ∀ (k p stop c : Nat) (E : Int), readT l k p stop c = .error E → E ≠ 0
  | 0, p, stop, c, E, h => by cases h; omega
  | k + 1, p, stop, c, E, h => by
    unfold readT at h
    split at h
    · cases h; omega
    · split at h
      next e he => cases h; exact headT_err he
      next t a b he =>
        split at h
        · split at h
          next e he2 => cases h; exact readL_err (fun q c' E hq => readT_err l k q b c' E hq) _ _ _ _ _ he2
          next => cases h
        · cases h
theorem dec_err {l : List UInt8} {p E : Int} (h : decT l p = .error E) : E ≠ 0 := by
  unfold decT at h
  split at h
  next hp =>
    split at h
    next e he => cases h; exact readT_err l 12 _ _ _ _ he
    next T' nx' c' hr =>
      split at h
      next => cases h
      next => cases h; omega
  next => cases h; omega
end Tv
