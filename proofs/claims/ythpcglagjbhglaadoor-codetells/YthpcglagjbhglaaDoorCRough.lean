/-
  The document's rough reading of base64, plainly: what it makes of a text's base64 is that text. Conditions: none.
-/
import Derived.Test.YthpcglagjbhglaaDoorCRef3
namespace Go.Proofs.YthpcglagjbhglaaDoor.C
open Go Go.RowKit Cd

/-- read roughly. -/
def rgh : List UInt8 → List UInt8
  | x :: y :: z :: u :: r => unp (vl x * 262144 + vl y * 4096 + vl z * 64 + vl u) 3 ++ rgh r
  | _ => []
/-- what the fill leaves. -/
def cutE (l o : List UInt8) : List UInt8 := if 1 < l.length then (if l.drop (l.length - 2) = [61, 61] then o.take (o.length - 2) else if l.getD (l.length - 1) 0 = 61 then o.take (o.length - 1) else o) else o
theorem vl_sx (n : Nat) (h : n < 64) : vl (sx n) = n := vl_at h rfl
theorem vl61 : vl 61 = 0 := by decide
theorem sx_ne (n : Nat) (h : n < 64) : sx n ≠ 61 := by
  intro e
  have := nx_sx n h
  rw [e, nx61] at this
  cases this
theorem vl_lt (x : UInt8) : vl x < 64 := by
  unfold vl
  cases h : nx x with
  | none => decide
  | some n => exact (nx_some h).1
theorem rough : ∀ c : List UInt8, ∃ pad, rgh (enc kB c) = c ++ pad ∧ ((pad.length = 0 ∧ (c = [] ∨ ∃ pre s, enc kB c = pre ++ [s] ∧ s ≠ 61)) ∨ (pad.length = 1 ∧ ∃ pre s, enc kB c = pre ++ [s, 61] ∧ s ≠ 61) ∨ (pad.length = 2 ∧ ∃ pre, enc kB c = pre ++ [61, 61]))
  | [] => ⟨[], rfl, .inl ⟨rfl, .inl rfl⟩⟩
  | [a] => by
    have ha := a.toNat_lt
    have e : pk [a] = a.toNat * 65536 := rfl
    rw [enc_B1, gr_B1]
    refine ⟨[0, 0], ?_, .inr (.inr ⟨rfl, [_, _], rfl⟩)⟩
    rw [rgh, rgh, vl_sx _ (by omega), vl_sx _ (by omega), vl61, unp3, List.append_nil]
    · rw [ofNat_eq (a := a) (by rw [e]; omega), ofNat_eq (a := 0) (by rw [e]; show _ = 0; omega), ofNat_eq (a := 0) (by rw [e]; show _ = 0; omega)]
      rfl
    · intros; simp_all
  | [a, b] => by
    have ha := a.toNat_lt
    have hb := b.toNat_lt
    have e : pk [a, b] = a.toNat * 65536 + b.toNat * 256 := rfl
    rw [enc_B2, gr_B2]
    refine ⟨[0], ?_, .inr (.inl ⟨rfl, [_, _], _, rfl, sx_ne _ (by omega)⟩)⟩
    rw [rgh, rgh, vl_sx _ (by omega), vl_sx _ (by omega), vl_sx _ (by omega), vl61, unp3, List.append_nil]
    · rw [ofNat_eq (a := a) (by rw [e]; omega), ofNat_eq (a := b) (by rw [e]; omega), ofNat_eq (a := 0) (by rw [e]; show _ = 0; omega)]
      rfl
    · intros; simp_all
  | a :: b :: c :: r => by
    have ha := a.toNat_lt
    have hb := b.toNat_lt
    have hc := c.toNat_lt
    have e : pk [a, b, c] = a.toNat * 65536 + b.toNat * 256 + c.toNat := rfl
    obtain ⟨pad, h1, h2⟩ := rough r
    rw [enc_B3, gr_B3]
    refine ⟨pad, ?_, ?_⟩
    · rw [List.cons_append, List.cons_append, List.cons_append, List.cons_append, List.nil_append, rgh, vl_sx _ (by omega), vl_sx _ (by omega), vl_sx _ (by omega), vl_sx _ (by omega), unp3, h1]
      rw [ofNat_eq (a := a) (by rw [e]; omega), ofNat_eq (a := b) (by rw [e]; omega), ofNat_eq (a := c) (by rw [e]; omega)]
      rfl
    · rcases h2 with ⟨h, hr | ⟨pre, s, h3, h4⟩⟩ | ⟨h, pre, s, h3, h4⟩ | ⟨h, pre, h3⟩
      · subst hr
        exact .inl ⟨h, .inr ⟨[_, _, _], _, rfl, sx_ne _ (by omega)⟩⟩
      · exact .inl ⟨h, .inr ⟨_, s, by rw [h3, ← List.append_assoc], h4⟩⟩
      · exact .inr (.inl ⟨h, _, s, by rw [h3, ← List.append_assoc], h4⟩)
      · exact .inr (.inr ⟨h, _, by rw [h3, ← List.append_assoc]⟩)
theorem rough_back (c : List UInt8) : cutE (enc kB c) (rgh (enc kB c)) = c := by
  obtain ⟨pad, h1, h2⟩ := rough c
  rw [h1]
  rcases h2 with ⟨h, hr | ⟨pre, s, h3, h4⟩⟩ | ⟨h, pre, s, h3, h4⟩ | ⟨h, pre, h3⟩
  · subst hr
    have : pad = [] := List.length_eq_zero_iff.1 h
    subst this
    rfl
  · have : pad = [] := List.length_eq_zero_iff.1 h
    subst this
    rw [h3, List.append_nil]
    unfold cutE
    split
    · rename_i hl
      have hl' : 1 ≤ pre.length := by simp at hl; omega
      rw [if_neg, if_neg]
      · simp [List.getD_eq_getElem?_getD, h4]
      · intro hd
        have h5 : (pre ++ [s]).drop ((pre ++ [s]).length - 2) = pre.drop (pre.length - 1) ++ [s] := by
          rw [List.drop_append_of_le_length (by simp)]
          simp
        rw [h5] at hd
        have h6 := congrArg List.getLast? hd
        rw [List.getLast?_append] at h6
        simp at h6
        exact h4 h6
    · rfl
  · rw [h3]
    unfold cutE
    rw [if_pos (by simp), if_neg, if_pos]
    · rw [List.length_append, h, Nat.add_sub_cancel, List.take_left']
      rfl
    · simp [List.getD_eq_getElem?_getD]
    · have : (pre ++ [s, 61]).drop ((pre ++ [s, 61]).length - 2) = [s, 61] := by simp
      rw [this]
      intro hd
      simp at hd
      exact h4 hd
  · rw [h3]
    unfold cutE
    rw [if_pos (by simp), if_pos (by simp), List.length_append, h, Nat.add_sub_cancel, List.take_left']
    rfl
theorem und_rough (s : ByteArray) (o : ByteArray) (ho : o.data.toList = cutE s.data.toList (rgh s.data.toList)) :
    (pri kB o = s → dec kB s.data.toList = some o.data.toList) ∧ (pri kB o ≠ s → dec kB s.data.toList = none) := by
  constructor
  · intro h
    rw [← h, pri_data, back_B]
  · intro h
    cases hd : dec kB s.data.toList with
    | none => rfl
    | some c =>
      have hc := told_B _ _ hd
      refine absurd ?_ h
      have e : o.data.toList = c := by rw [ho, ← hc, rough_back]
      refine ByteArray.ext (Array.ext' ?_)
      show enc kB o.data.toList = _
      rw [e, hc]
theorem dec_four (l : List UInt8) (h : l.length % 4 ≠ 0) : dec kB l = none := by
  cases hd : dec kB l with
  | none => rfl
  | some c =>
    have hc := told_B _ _ hd
    rw [← hc, Cd.size_B] at h
    omega
end Go.Proofs.YthpcglagjbhglaaDoor.C
