/-
  Reading a name without looking whether its parts are right, and then looking, is reading it. Conditions: none.
-/
import Derived.Test.YthfcnjcpanoldaaGreatDoorDRef5
namespace Go.Proofs.YthfcnjcpanoldaaGreatDoor.D
open Go Go.RowKit Go.Shelf Dp

def grd {α : Type} (p : α → Bool) : Option α → Option α
  | some a => if p a = true then some a else none
  | none => none
theorem grd_some {α : Type} (p : α → Bool) (a : α) : grd p (some a) = if p a = true then some a else none := rfl
theorem grd_none {α : Type} (p : α → Bool) : grd p none = none := rfl
def rvA (l : List UInt8) : Option Av := if (rva l).2 = true then some (rva l).1 else none
def rvR (l : List UInt8) : Option Rd := mp rvA (pcs 43 l)
def rvN (l : List UInt8) : Option Nm := mp rvR (pcs 44 l)
theorem rdA_rv (l : List UInt8) : rdA l = grd okA (rvA l) := by
  unfold rdA rvA rva
  cases cutE l with
  | none => rfl
  | some q =>
    obtain ⟨k, t⟩ := q
    dsimp only
    by_cases h : (E.und true ⟨t.toArray⟩).2 = 0
    · rw [if_pos (decide_eq_true h)]
      rw [grd_some]
      by_cases h2 : okA (⟨k.toArray⟩, (E.und true ⟨t.toArray⟩).1) = true
      · rw [if_pos ⟨h, h2⟩, if_pos h2]
      · rw [if_neg (fun e => h2 e.2), if_neg h2]
    · have hn : ¬ (decide ((E.und true ⟨t.toArray⟩).2 = 0) = true) := fun e => h (of_decide_eq_true e)
      rw [if_neg (fun e => h e.1), if_neg hn]
      rfl
theorem mp_grd {α : Type} (p : α → Bool) (f g : List UInt8 → Option α) (h : ∀ x, f x = grd p (g x)) : ∀ xs, mp f xs = grd (fun l => l.all p) (mp g xs)
  | [] => rfl
  | x :: xs => by
    rw [mp, mp, h x, mp_grd p f g h xs]
    cases g x with
    | none => rfl
    | some a =>
      cases mp g xs with
      | none =>
        rw [grd_some, grd_none]
        cases h1 : p a <;> simp
      | some b =>
        rw [grd_some, grd_some]
        cases h1 : p a <;> cases h2 : b.all p <;> simp [grd, h1, h2]
theorem rdR_rv (l : List UInt8) : rdR l = grd okR (rvR l) := by
  unfold rdR rdAll rvR
  rw [mp_grd okA rdA rvA rdA_rv]
  cases h : mp rvA (pcs 43 l) with
  | none =>
    rw [grd_none, grd_none]
    split <;> rfl
  | some r =>
    have hl := mp_len _ _ _ h
    have hne : 1 ≤ (pcs 43 l).length := by
      rcases Nat.eq_zero_or_pos (pcs 43 l).length with h0 | h0
      · exact absurd (List.length_eq_zero_iff.1 h0) (sp_ne 43 l false [])
      · exact h0
    rw [grd_some, grd_some]
    by_cases h3 : (pcs 43 l).length ≤ 3
    · rw [if_pos h3]
      have : okR r = r.all okA := by unfold okR; rw [decide_eq_true (by omega), decide_eq_true (by omega)]; rfl
      rw [this]
    · rw [if_neg h3]
      have : okR r = false := by unfold okR; rw [decide_eq_false (show ¬ r.length ≤ 3 by omega)]; simp
      rw [this]
      rfl
theorem rdN_rv (l : List UInt8) (hl0 : l ≠ []) : rdN l = grd okN (rvN l) := by
  unfold rdN rdAll rvN
  rw [if_neg hl0, mp_grd okR rdR rvR rdR_rv]
  cases h : mp rvR (pcs 44 l) with
  | none =>
    rw [grd_none, grd_none]
    split <;> rfl
  | some d =>
    have hl := mp_len _ _ _ h
    rw [grd_some, grd_some]
    by_cases h3 : (pcs 44 l).length ≤ 8
    · rw [if_pos h3]
      have : okN d = d.all okR := by unfold okN; rw [decide_eq_true (by omega)]; rfl
      rw [this]
    · rw [if_neg h3]
      have : okN d = false := by unfold okN; rw [decide_eq_false (show ¬ d.length ≤ 8 by omega)]; rfl
      rw [this]
      rfl
theorem mp_mem {α : Type} (f : List UInt8 → Option α) : ∀ (xs : List (List UInt8)) (l : List α), mp f xs = some l → ∀ a ∈ l, ∃ x ∈ xs, f x = some a
  | [], l, h, a, ha => by rw [mp] at h; cases h; cases ha
  | x :: xs, l, h, a, ha => by
    rw [mp] at h
    cases h1 : f x with
    | none => rw [h1] at h; cases h
    | some b =>
      cases h2 : mp f xs with
      | none => rw [h1, h2] at h; cases h
      | some m =>
        rw [h1, h2] at h
        cases h
        rcases List.mem_cons.1 ha with rfl | ha
        · exact ⟨x, by simp, h1⟩
        · obtain ⟨y, hy, hf⟩ := mp_mem f xs m h2 a ha
          exact ⟨y, by simp [hy], hf⟩
theorem rvA_size {l : List UInt8} {a : Av} (h : rvA l = some a) : a.1.size ≤ l.length ∧ a.2.size ≤ l.length := by
  unfold rvA rva at h
  cases hc : cutE l with
  | none => rw [hc] at h; cases h
  | some q =>
    obtain ⟨k, t⟩ := q
    rw [hc] at h
    dsimp only at h
    have hl := congrArg List.length (cutE_len _ _ _ hc)
    rw [List.length_append, List.length_cons] at hl
    split at h
    · cases h
      have h1 : (⟨k.toArray⟩ : ByteArray).size = k.length := by show k.toArray.size = _; simp
      have h2 : (⟨t.toArray⟩ : ByteArray).size = t.length := by show t.toArray.size = _; simp
      refine ⟨by show (⟨k.toArray⟩ : ByteArray).size ≤ _; omega, ?_⟩
      show (E.und true ⟨t.toArray⟩).1.size ≤ _
      rcases E.und_cases true ⟨t.toArray⟩ with h | h
      · omega
      · rw [h]; exact Nat.zero_le _
    · cases h
/-- what is read of a short text is not large. -/
theorem rvN_sm {l : List UInt8} {d : Nm} (hl : l.length ≤ 900) (h : rvN l = some d) : Sm d := by
  have h0 := mp_len _ _ _ h
  have h1 := sp_len 44 l false []
  refine ⟨by have : (pcs 44 l).length = (sp 44 false [] l).length := rfl; omega, fun r hr => ?_⟩
  obtain ⟨x, hx, hf⟩ := mp_mem _ _ _ h r hr
  have h2 := sp_small 44 l false [] x hx
  have h3 := mp_len _ _ _ hf
  have h4 := sp_len 43 x false []
  simp only [List.length_nil, Nat.zero_add] at h2
  refine ⟨by have : (pcs 43 x).length = (sp 43 false [] x).length := rfl; omega, fun a ha => ?_⟩
  obtain ⟨y, hy, hg⟩ := mp_mem _ _ _ hf a ha
  have h5 := sp_small 43 x false [] y hy
  simp only [List.length_nil, Nat.zero_add] at h5
  have h6 := rvA_size hg
  omega
end Go.Proofs.YthfcnjcpanoldaaGreatDoor.D
