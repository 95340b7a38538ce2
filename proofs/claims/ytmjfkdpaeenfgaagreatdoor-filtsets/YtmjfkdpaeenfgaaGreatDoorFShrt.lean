/-
  The texts of right filters: how long they are, and that what is read of values in them is not large. Conditions: none.
-/
import Derived.Test.YtmjfkdpaeenfgaaGreatDoorFNmP
namespace Go.Proofs.YtmjfkdpaeenfgaaGreatDoor.F
open Go Go.RowKit Go.Shelf Fp

theorem pv_len {s : ByteArray} (h : s.size ≤ 60) : (pv s).length ≤ 180 := by
  have := (E.pri_size false s).2
  rw [E.len_toList]
  omega
/-- the values of a leaf are short. -/
theorem leaf_vals {n : Nat} {F : Fl (n + 1)} (hf : fitF F = true) (hs : isSet (kd F) = false) : (va F).size ≤ 60 ∧ (kd F = 4 → (fi F).size ≤ 60 ∧ (an F).length ≤ 4 ∧ ∀ x ∈ an F, x.size ≤ 60) := by
  unfold fitF fitB at hf
  rw [hs, if_neg (by simp)] at hf
  split at hf
  · unfold fitU at hf
    simp only [Bool.and_eq_true, decide_eq_true_eq, List.all_eq_true] at hf
    refine ⟨hf.1.1.2.1, fun _ => ⟨hf.1.1.2.2, hf.1.1.1.1.2, fun x hx => ?_⟩⟩
    have := hf.1.1.1.2 x hx
    unfold okP at this
    simp only [Bool.and_eq_true, decide_eq_true_eq] at this
    exact this.2
  · rename_i h4
    split at hf
    · unfold fitV at hf
      simp only [Bool.and_eq_true, decide_eq_true_eq] at hf
      refine ⟨?_, fun h => absurd h h4⟩
      have := hf.1.1.2
      split at this <;> omega
    · cases hf
theorem pieces_mem {v f : ByteArray} {l : List ByteArray} (hv : v.size ≤ 60) (hf : f.size ≤ 60) (hl : ∀ x ∈ l, x.size ≤ 60) : ∀ x ∈ (pv v :: (l.map pv ++ [pv f])), x.length ≤ 180 ∧ (42 : UInt8) ∉ x := by
  intro x hx
  have : ∃ s : ByteArray, s.size ≤ 60 ∧ x = pv s := by
    rcases List.mem_cons.1 hx with rfl | hx
    · exact ⟨v, hv, rfl⟩
    · rcases List.mem_append.1 hx with hx | hx
      · obtain ⟨s, hs, rfl⟩ := List.mem_map.1 hx
        exact ⟨s, hl s hs, rfl⟩
      · simp at hx; exact ⟨f, hf, hx⟩
  obtain ⟨s, hs, rfl⟩ := this
  exact ⟨pv_len hs, fun hm => (pv_no _ _ hm).2.2 rfl⟩
theorem name_len {s : ByteArray} (h : okName s = true) : s.data.toList.length ≤ 30 := by rw [Array.length_toList]; exact (name_size h).2
theorem sgnLen (k : Int) : (sgn k).length ≤ 2 := by
  unfold sgn
  repeat' split
  all_goals simp
theorem inner_len {n : Nat} {F : Fl (n + 1)} (hf : fitF F = true) (hs : isSet (kd F) = false) : (inner F).length ≤ 1200 := by
  have hn := name_len (leaf_name hf hs).1
  obtain ⟨h1, h2⟩ := leaf_vals hf hs
  unfold inner
  split
  · rename_i h4
    obtain ⟨h3, h5, h6⟩ := h2 h4
    have := Dp.jn_len 42 180 _ (fun x hx => (pieces_mem h1 h3 h6 x hx).1)
    have e : (pv (va F) :: ((an F).map pv ++ [pv (fi F)])).length = (an F).length + 2 := by simp
    rw [e] at this
    unfold pieces
    rw [List.length_append, List.length_cons]
    have h7 : ((an F).length + 2) * (180 + 1) ≤ 6 * 181 := Nat.mul_le_mul_right _ (by omega)
    omega
  · have := pv_len h1
    have h3 := sgnLen (kd F)
    rw [List.length_append, List.length_append]
    omega
theorem inner_pc {n : Nat} {F : Fl (n + 1)} (hf : fitF F = true) (hs : isSet (kd F) = false) : Pc (inner F) := by
  have hn := (leaf_name hf hs).1
  have h61 : (61 : UInt8) ∉ (nm F).data.toList := fun hm => (name_no hn _ hm).1.1 rfl
  have hl := inner_len hf hs
  obtain ⟨h1, h2⟩ := leaf_vals hf hs
  refine ⟨by omega, ?_⟩
  by_cases h4 : kd F = 4
  · obtain ⟨h3, h5, h6⟩ := h2 h4
    unfold inner
    rw [if_pos h4, cutB_at 61 _ _ h61]
    show if (kindOf (nm F).data.toList).2 = 3 then ∀ q ∈ spl 42 (pieces (va F) (an F) (fi F)), q.length ≤ 1000 else _
    rw [kindOf_name hn, if_pos rfl]
    unfold pieces
    rw [spl_jn 42 _ (by simp) (fun x hx => (pieces_mem h1 h3 h6 x hx).2)]
    intro q hq
    have := (pieces_mem h1 h3 h6 q hq).1
    omega
  · have hi : inner F = (nm F).data.toList ++ (sgn (kd F) ++ pv (va F)) := by unfold inner; rw [if_neg h4]
    cases hc : cutB 61 (inner F) with
    | none => trivial
    | some x =>
      obtain ⟨p, t⟩ := x
      obtain ⟨e, _⟩ := cutB_some 61 _ _ _ hc
      have ht : t.length ≤ 212 := by
        have h3 := pv_len h1
        have h5 := sgnLen (kd F)
        have h6 := name_len hn
        have h7 := congrArg List.length e
        rw [hi, List.length_append, List.length_append, List.length_append, List.length_cons] at h7
        omega
      show if (kindOf p).2 = 3 then ∀ q ∈ spl 42 t, q.length ≤ 1000 else t.length ≤ 1000
      split
      · intro y hy
        have := spl_small 42 t y hy
        omega
      · omega
theorem text_leafF {n : Nat} {F : Fl (n + 1)} (hs : isSet (kd F) = false) : text (n + 1) F = 40 :: (inner F ++ [41]) := by
  rw [text]
  unfold inner
  rw [hs]
  by_cases h4 : kd F = 4
  · rw [if_pos h4]; rfl
  · rw [if_neg h4]; rfl
theorem text_setF {n : Nat} {F : Fl (n + 1)} (hs : isSet (kd F) = true) : ∃ s, setK s ≠ none ∧ text (n + 1) F = 40 :: s :: (((ls F).map (text n)).flatten ++ [41]) := by
  rw [text, if_pos hs]
  unfold isSet at hs
  simp only [Bool.or_eq_true, beq_iff_eq] at hs
  rcases hs with (h | h) | h
  · exact ⟨38, by decide, by rw [h]; rfl⟩
  · exact ⟨124, by decide, by rw [h]; rfl⟩
  · exact ⟨33, by decide, by rw [h]; rfl⟩
theorem text_len : ∀ (n d : Nat) (F : Fl n), right n d F = true → (text n F).length ≤ 1300 * 9 ^ (d - 1)
  | 0, _, t, _ => Empty.elim t
  | n + 1, d, F, h => by
    obtain ⟨h0, hf, hk⟩ := right_parts h
    have hp : 0 < 9 ^ (d - 1) := Nat.pow_pos (by omega)
    cases hs : isSet (kd F) with
    | true =>
      obtain ⟨h1, h2⟩ := set_parts hf hs
      obtain ⟨s, _, e⟩ := text_setF hs
      have hl := ls_len hf
      obtain ⟨G, Gs, hG⟩ : ∃ G Gs, ls F = G :: Gs := by
        cases hx : ls F with
        | nil => exact absurd hx h2
        | cons G Gs => exact ⟨G, Gs, rfl⟩
      have hd : 2 ≤ d := by
        have h3 := hk G (by rw [hG]; simp)
        cases n with
        | zero => exact Empty.elim G
        | succ n => have := (right_parts h3).1; omega
      have h4 := flat_len (text n) (1300 * 9 ^ (d - 1 - 1)) (ls F) (fun x hx => text_len n (d - 1) x (hk x hx))
      have h5 : 9 ^ (d - 1) = 9 ^ (d - 1 - 1) * 9 := by rw [← Nat.pow_succ]; congr 1; omega
      have h6 : (ls F).length * (1300 * 9 ^ (d - 1 - 1)) ≤ 8 * (1300 * 9 ^ (d - 1 - 1)) := Nat.mul_le_mul_right _ hl
      have h7 : 0 < 9 ^ (d - 1 - 1) := Nat.pow_pos (by omega)
      rw [e, List.length_cons, List.length_cons, List.length_append, List.length_singleton]
      omega
    | false =>
      have := inner_len hf hs
      rw [text_leafF hs, List.length_cons, List.length_append, List.length_singleton]
      omega
theorem at_of {L rest a b : List UInt8} (h : L ++ rest = a ++ 40 :: b) (hl : a.length < L.length) : L[a.length]? = some 40 := by
  have h1 : (L ++ rest)[a.length]? = some 40 := by rw [h, List.getElem?_append_right (Nat.le_refl _), Nat.sub_self]; rfl
  rwa [List.getElem?_append_left hl] at h1
theorem text_pc : ∀ (n d : Nat) (F : Fl n), right n d F = true → ∀ rest a b : List UInt8, text n F ++ rest = a ++ 40 :: b → a.length < (text n F).length → b.head?.bind setK = none → ∀ q c, cutB 41 b = some (q, c) → Pc q
  | 0, _, t, _ => Empty.elim t
  | n + 1, d, F, h => by
    obtain ⟨h0, hf, hk⟩ := right_parts h
    intro rest a b he hl hb q c hc
    cases hs : isSet (kd F) with
    | false =>
      rw [text_leafF hs] at he hl
      cases a with
      | nil =>
        have e2 : inner F ++ 41 :: rest = b := by simpa using he
        rw [← e2, cutB_at 41 _ _ (inner_no hf hs)] at hc
        cases hc
        exact inner_pc hf hs
      | cons x a =>
        exfalso
        have h1 := at_of he hl
        rw [List.length_cons, List.getElem?_cons_succ] at h1
        have h2 := List.mem_of_getElem? h1
        rcases List.mem_append.1 h2 with h2 | h2
        · have hn := (leaf_name hf hs).1
          unfold inner at h2
          split at h2
          · rcases List.mem_append.1 h2 with h2 | h2
            · exact (name_no hn _ h2).2.1.1 rfl
            · rcases List.mem_cons.1 h2 with h2 | h2
              · cases h2
              · exact (pieces_no _ _ _ _ h2).1 rfl
          · rcases List.mem_append.1 h2 with h2 | h2
            · exact (name_no hn _ h2).2.1.1 rfl
            · rcases List.mem_append.1 h2 with h2 | h2
              · exact (sgn_no _ hs _ h2).1 rfl
              · exact (pv_no _ _ h2).1 rfl
        · simp at h2
    | true =>
      obtain ⟨s, hsk, e⟩ := text_setF hs
      rw [e] at he hl
      have kids : ∀ (Gs : List (Fl n)), (∀ x ∈ Gs, right n (d - 1) x = true) → ∀ rest a : List UInt8, (Gs.map (text n)).flatten ++ rest = a ++ 40 :: b → a.length < ((Gs.map (text n)).flatten).length → Pc q := by
        intro Gs
        induction Gs with
        | nil => intro _ rest a _ hl; cases hl
        | cons G Gs ih =>
          intro hG rest a he hl
          rw [List.map_cons, List.flatten_cons] at he hl
          rw [List.append_assoc] at he
          by_cases hlt : a.length < (text n G).length
          · exact text_pc n (d - 1) G (hG G (by simp)) _ _ _ he hlt hb q c hc
          · obtain ⟨a', rfl⟩ : ∃ a', a = text n G ++ a' := by
              have := List.append_eq_append_iff.1 he
              rcases this with ⟨y, h1, _⟩ | ⟨y, h1, h2⟩
              · exact ⟨y, h1⟩
              · refine ⟨[], ?_⟩
                have h3 := congrArg List.length h1
                rw [List.length_append] at h3
                have h4 : y = [] := List.eq_nil_of_length_eq_zero (by omega)
                rw [h4] at h1
                simpa using h1.symm
            rw [List.append_assoc] at he
            refine ih (fun x hx => hG x (by simp [hx])) rest a' (List.append_cancel_left he) ?_
            rw [List.length_append, List.length_append] at hl
            omega
      cases a with
      | nil =>
        exfalso
        have e2 : s :: (((ls F).map (text n)).flatten ++ [41]) ++ rest = b := by simpa using he
        rw [← e2] at hb
        exact hsk hb
      | cons x a =>
        cases a with
        | nil =>
          exfalso
          have h1 := at_of he hl
          simp at h1
          rw [h1] at hsk
          exact hsk (by decide)
        | cons y a =>
          have he2 : ((ls F).map (text n)).flatten ++ ([41] ++ rest) = a ++ 40 :: b := by
            have := (List.cons.inj (List.cons.inj he).2).2
            simpa using this
          by_cases hlt : a.length < (((ls F).map (text n)).flatten).length
          · exact kids (ls F) hk _ a he2 hlt
          · exfalso
            have h1 := at_of he hl
            simp only [List.length_cons, List.getElem?_cons_succ] at h1
            rw [List.getElem?_append_right (by omega)] at h1
            have h2 := List.mem_of_getElem? h1
            simp at h2
theorem shrt_text {F : Fl 8} (h : right 8 6 F = true) : Shrt ⟨(text 8 F).toArray⟩ := by
  have hl := text_len 8 6 F h
  have hz : (⟨(text 8 F).toArray⟩ : ByteArray).size = (text 8 F).length := by show (text 8 F).toArray.size = _; simp
  refine ⟨by rw [hz]; omega, fun p hp h40 hset q c hc => ?_⟩
  have hd : (⟨(text 8 F).toArray⟩ : ByteArray).data.toList = text 8 F := rfl
  rw [hd] at h40 hset hc
  rw [hz] at hp
  refine text_pc 8 6 F h [] ((text 8 F).take p) ((text 8 F).drop (p + 1)) ?_ (by rw [List.length_take]; omega) hset q c hc
  rw [List.append_nil]
  have e : (text 8 F).drop p = 40 :: (text 8 F).drop (p + 1) := by
    rw [List.head?_drop] at h40
    rw [List.drop_eq_getElem_cons hp]
    rw [List.getElem?_eq_getElem hp] at h40
    rw [Option.some.inj h40]
  rw [← e, List.take_append_drop]
end Go.Proofs.YtmjfkdpaeenfgaaGreatDoor.F
