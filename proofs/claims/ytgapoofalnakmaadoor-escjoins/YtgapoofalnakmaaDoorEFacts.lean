/-
  Plain facts on what is printed and read in layer 6. Conditions: none.
-/
import Derived.Test.YtgapoofalnakmaaDoorEShown
namespace Go.Proofs.YtgapoofalnakmaaDoor.E
open Go Go.RowKit Ec

theorem len_toList (s : ByteArray) : s.data.toList.length = s.size := Array.length_toList
theorem pri_data (nm : Bool) (s : ByteArray) : (pri nm s).data.toList = prt nm s.data.toList.length 0 s.data.toList := by rw [len_toList]; rfl
theorem pri_size (nm : Bool) (s : ByteArray) : s.size ≤ (pri nm s).size ∧ (pri nm s).size ≤ 3 * s.size := by
  have h := prt_len nm s.data.toList.length s.data.toList 0
  rw [← pri_data, len_toList, len_toList] at h
  exact h
theorem pri_plain (nm : Bool) (s : ByteArray) : (pri nm s).data.toList.all pln = true := by
  rw [List.all_eq_true, pri_data]
  exact fun x hx => prt_pln nm _ _ 0 x hx
/-- a text of low bytes is right. -/
theorem is_low : ∀ l : List UInt8, (∀ x ∈ l, x.toNat < 128) → Ut.Is l (l.map UInt8.toNat) []
  | [], _ => ⟨by simp, rfl, by simp [Ut.fl]⟩
  | x :: l, h => by
    have h1 := is_low l (fun y hy => h y (by simp [hy]))
    have hx := h x (by simp)
    have e : Ut.enc x.toNat = [x] := by
      rcases Ut.enc_cases x.toNat with ⟨_, e⟩ | ⟨h2, _⟩ | ⟨h2, _⟩ | ⟨h2, _⟩
      · rw [e, show Ut.b x.toNat = x from UInt8.toNat.inj (Ut.bn _ (by omega))]
      · omega
      · omega
      · omega
    have := Ut.Is.behind (U.is_enc (n := x.toNat) ⟨by omega, by omega⟩) h1
    rw [e] at this
    exact this
theorem bad_low {s : ByteArray} (h : ∀ x ∈ s.data.toList, x.toNat < 128) : U.bad s = none := U.bad_of_is (is_low _ h)
theorem pln_low {x : UInt8} (h : pln x = true) : x.toNat < 128 := by unfold pln at h; simp at h; omega
theorem rd_low (nm : Bool) {s : ByteArray} (h : ∀ x ∈ s.data.toList, x.toNat < 128) : rd nm s = rdk nm s.size 0 0 s.data.toList := by unfold rd; rw [bad_low h]; rfl
theorem mk_data (s : ByteArray) : (⟨s.data.toList.toArray⟩ : ByteArray) = s := by cases s; rfl
/-- values are read from what is printed of them. -/
theorem und_pri (nm : Bool) (s : ByteArray) : und nm (pri nm s) = (s, 0) := by
  have h := rd_low nm (s := pri nm s) (fun x hx => pln_low (List.all_eq_true.1 (pri_plain nm s) x hx))
  have h2 := back0 nm s.data.toList
  rw [← pri_data, len_toList, ← h] at h2
  unfold und
  rw [h2]
theorem und_cases (nm : Bool) (s : ByteArray) : ((und nm s).2 = 0 ∧ (und nm s).1.size ≤ s.size) ∨ und nm s = (⟨#[]⟩, 60) := by
  unfold und
  cases h : rd nm s with
  | none => exact .inr rfl
  | some t =>
    left
    refine ⟨rfl, ?_⟩
    unfold rd at h
    split at h
    · have := rdk_len nm _ _ _ _ _ h
      rw [len_toList] at this
      show t.toArray.size ≤ _
      rw [List.size_toArray]
      exact this
    · cases h
theorem data_app (a b : ByteArray) : (a ++ b).data.toList = a.data.toList ++ b.data.toList := by simp [ByteArray.data_append]
theorem pri_join (p q : ByteArray) : pri false (p ++ q) = pri false p ++ pri false q := by
  refine ByteArray.ext (Array.ext' ?_)
  rw [data_app, pri_data, pri_data, pri_data, data_app, joins]
theorem toList_ne {a b : ByteArray} (h : a ≠ b) : (a.toList == b.toList) = false := by
  rw [beq_eq_false_iff_ne, ByteArray.toList_eq, ByteArray.toList_eq]
  intro e
  exact h (ByteArray.ext (Array.ext' e))
theorem pri_ne (nm : Bool) {a b : ByteArray} (h : a ≠ b) : pri nm a ≠ pri nm b := by
  intro e
  have e2 : (pri nm a).data.toList = (pri nm b).data.toList := by rw [e]
  rw [pri_data, pri_data] at e2
  exact h (ByteArray.ext (Array.ext' ((apart nm).1 e2)))
/-- letters are printed, and read, as they are. -/
theorem pri_low (nm : Bool) {s : ByteArray} (h : ∀ x ∈ s.data.toList, 97 ≤ x.toNat ∧ x.toNat ≤ 122) : pri nm s = s := by
  refine ByteArray.ext (Array.ext' ?_)
  rw [pri_data, prt_low nm _ _ _ h]
theorem und_low (nm : Bool) {s : ByteArray} (h : ∀ x ∈ s.data.toList, 97 ≤ x.toNat ∧ x.toNat ≤ 122) : und nm s = (s, 0) := by
  have := und_pri nm s
  rwa [pri_low nm h] at this
end Go.Proofs.YtgapoofalnakmaaDoor.E
