/-
  The names of a filter that is right, plainly. Conditions: none.
-/
import Derived.Test.YtmjfkdpaeenfgaaGreatDoorG31
namespace Go.Proofs.YtmjfkdpaeenfgaaGreatDoor.F
open Go Go.RowKit Go.Shelf Fp

theorem right_parts {n d : Nat} {F : Fl (n + 1)} (h : right (n + 1) d F = true) : 0 < d ∧ fitF F = true ∧ ∀ x ∈ ls F, right n (d - 1) x = true := by
  rw [right] at h
  simp only [Bool.and_eq_true, decide_eq_true_eq, List.all_eq_true] at h
  exact ⟨h.1.1, h.1.2, h.2⟩
/-- a set has no name, and others in it. -/
theorem set_parts {n : Nat} {F : Fl (n + 1)} (hf : fitF F = true) (hs : isSet (kd F) = true) : (nm F).size = 0 ∧ ls F ≠ [] := by
  unfold fitF fitB at hf
  rw [if_pos hs] at hf
  unfold fitS at hf
  simp only [Bool.and_eq_true, decide_eq_true_eq] at hf
  exact ⟨hf.1.2.1, fun e => by rw [e] at hf; exact absurd hf.1.1.1 (by simp)⟩
theorem fit_kind {n : Nat} {F : Fl (n + 1)} (hf : fitF F = true) : isSet (kd F) = true ∨ isSet (kd F) = false ∧ 2 < kd F := by
  cases hs : isSet (kd F) with
  | true => exact .inl rfl
  | false =>
    right
    refine ⟨rfl, ?_⟩
    unfold fitF fitB at hf
    rw [hs, if_neg (by simp)] at hf
    split at hf
    · omega
    · split at hf
      · omega
      · cases hf
theorem set_le {k : Int} (h : isSet k = true) : k ≤ 2 := by
  unfold isSet at h
  simp only [Bool.or_eq_true, beq_iff_eq] at h
  omega
theorem names_ok : ∀ (n d : Nat) (F : Fl n), right n d F = true → ∀ x ∈ names n F, okName x = true
  | 0, _, t, _ => Empty.elim t
  | n + 1, d, F, h => by
    obtain ⟨_, hf, hk⟩ := right_parts h
    intro x hx
    rw [names] at hx
    rcases List.mem_append.1 hx with hx | hx
    · split at hx
      · cases hx
      · rename_i hz
        simp at hx
        subst hx
        rcases fit_kind hf with hs | ⟨hs, _⟩
        · exact absurd (set_parts hf hs).1 hz
        · exact (leaf_name hf hs).1
    · obtain ⟨l, hl, hx⟩ := List.mem_flatten.1 hx
      obtain ⟨G, hG, rfl⟩ := List.mem_map.1 hl
      exact names_ok n (d - 1) G (hk G hG) x hx
theorem names_leaf {n d : Nat} {F : Fl (n + 1)} (h : right (n + 1) d F = true) (hk : 2 < kd F) : names (n + 1) F = [nm F] := by
  obtain ⟨_, hf, _⟩ := right_parts h
  rcases fit_kind hf with hs | ⟨hs, _⟩
  · have := set_le hs; omega
  · obtain ⟨h1, h2⟩ := leaf_name hf hs
    rw [names, if_neg (name_size h1).1, h2]
    simp
theorem names_pos : ∀ (n d : Nat) (F : Fl n), right n d F = true → names n F ≠ []
  | 0, _, t, _ => Empty.elim t
  | n + 1, d, F, h => by
    obtain ⟨_, hf, hk⟩ := right_parts h
    rcases fit_kind hf with hs | ⟨hs, h2⟩
    · obtain ⟨h1, h2⟩ := set_parts hf hs
      cases hl : ls F with
      | nil => exact absurd hl h2
      | cons G Gs =>
        have := names_pos n (d - 1) G (hk G (by rw [hl]; simp))
        rw [names, hl]
        intro e
        have e2 := (List.append_eq_nil_iff.1 e).2
        rw [List.map_cons, List.flatten_cons] at e2
        exact this (List.append_eq_nil_iff.1 e2).1
    · rw [names_leaf h h2]
      simp
/-- the names that Names tells. -/
def nmsF (F : Fl 8) : List ByteArray := if right 8 6 F = true then names 8 F else []
theorem nmsF_ok {F : Fl 8} : ∀ x ∈ nmsF F, okName x = true := by
  intro x hx
  unfold nmsF at hx
  split at hx
  · exact names_ok 8 6 F (by assumption) x hx
  · cases hx
theorem ls_len {n : Nat} {F : Fl (n + 1)} (hf : fitF F = true) : (ls F).length ≤ 8 := by
  rcases fit_kind hf with hs | ⟨hs, _⟩
  · unfold fitF fitB at hf
    rw [if_pos hs] at hf
    unfold fitS at hf
    simp only [Bool.and_eq_true, decide_eq_true_eq] at hf
    have := hf.1.1.2
    split at this <;> omega
  · rw [(leaf_name hf hs).2]; simp
theorem flat_len {α β : Type} (f : α → List β) (m : Nat) : ∀ l : List α, (∀ x ∈ l, (f x).length ≤ m) → ((l.map f).flatten).length ≤ l.length * m
  | [], _ => by simp
  | x :: l, h => by
    have h1 := h x (by simp)
    have h2 := flat_len f m l (fun y hy => h y (by simp [hy]))
    rw [List.map_cons, List.flatten_cons, List.length_append, List.length_cons, Nat.add_mul]
    omega
theorem names_len : ∀ (n d : Nat) (F : Fl n), right n d F = true → (names n F).length ≤ 8 ^ (d - 1)
  | 0, _, t, _ => Empty.elim t
  | n + 1, d, F, h => by
    obtain ⟨h0, hf, hk⟩ := right_parts h
    have hp : 0 < 8 ^ (d - 1) := Nat.pow_pos (by omega)
    rcases fit_kind hf with hs | ⟨hs, h2⟩
    · obtain ⟨h1, h2⟩ := set_parts hf hs
      have hl := ls_len hf
      rw [names, if_pos h1, List.nil_append]
      obtain ⟨G, Gs, hG⟩ : ∃ G Gs, ls F = G :: Gs := by
        cases hx : ls F with
        | nil => exact absurd hx h2
        | cons G Gs => exact ⟨G, Gs, rfl⟩
      have hd : 2 ≤ d := by
        have h3 := hk G (by rw [hG]; simp)
        cases n with
        | zero => exact Empty.elim G
        | succ n => have := (right_parts h3).1; omega
      have h4 := flat_len (names n) (8 ^ (d - 1 - 1)) (ls F) (fun x hx => names_len n (d - 1) x (hk x hx))
      have h5 : 8 ^ (d - 1) = 8 ^ (d - 1 - 1) * 8 := by rw [← Nat.pow_succ]; congr 1; omega
      have h6 : (ls F).length * 8 ^ (d - 1 - 1) ≤ 8 * 8 ^ (d - 1 - 1) := Nat.mul_le_mul_right _ hl
      omega
    · rw [names_leaf h h2]
      simp
      omega
theorem nmsF_len (F : Fl 8) : (nmsF F).length ≤ 32768 := by
  unfold nmsF
  split
  · exact names_len 8 6 F (by assumption)
  · simp
end Go.Proofs.YtmjfkdpaeenfgaaGreatDoor.F
