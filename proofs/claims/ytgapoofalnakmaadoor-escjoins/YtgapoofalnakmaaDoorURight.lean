/-
  Which texts are right, plainly. Conditions: none.
-/
import Derived.Test.YtgapoofalnakmaaDoorUTells
import Derived.Test.YtgapoofalnakmaaDoorUDoor
namespace Go.Proofs.YtgapoofalnakmaaDoor.U
open Go

theorem mem_fl {x : UInt8} : ∀ {cs : List Nat}, x ∈ Ut.fl cs → ∃ c ∈ cs, x ∈ Ut.enc c
  | [], h => by simp [Ut.fl] at h
  | c :: cs, h => by
    rcases List.mem_append.1 h with h | h
    · exact ⟨c, by simp, h⟩
    · obtain ⟨d, hd, hx⟩ := mem_fl h
      exact ⟨d, by simp [hd], hx⟩
theorem enc_lt {c : Nat} (h : Ut.sg c) {x : UInt8} (hx : x ∈ Ut.enc c) : x.toNat < 248 := by
  obtain ⟨h, _⟩ := h
  rcases Ut.enc_cases c with ⟨h1, e⟩ | ⟨h1, h2, e⟩ | ⟨h1, h2, e⟩ | ⟨h1, e⟩ <;> rw [e] at hx <;> simp only [List.mem_cons, List.not_mem_nil, or_false] at hx
  · subst hx; rw [Ut.bn _ (by omega)]; omega
  · rcases hx with rfl | rfl <;> rw [Ut.bn _ (by omega)] <;> omega
  · rcases hx with rfl | rfl | rfl <;> rw [Ut.bn _ (by omega)] <;> omega
  · rcases hx with rfl | rfl | rfl | rfl <;> rw [Ut.bn _ (by omega)] <;> omega

theorem bad_none_iff (s : ByteArray) : bad s = none ↔ ∃ cs, Ut.Is s.data.toList cs [] := by
  obtain ⟨cs, r, h⟩ := Ut.is_ex s.data.toList
  rw [bad_is h]
  constructor
  · intro hn
    split at hn
    · rename_i h0; subst h0; exact ⟨cs, h⟩
    · cases hn
  · rintro ⟨ds, hd⟩
    rw [if_pos (Ut.is_inj h hd).2]
theorem bad_of_is {s : ByteArray} {cs : List Nat} (h : Ut.Is s.data.toList cs []) : bad s = none := (bad_none_iff s).2 ⟨cs, h⟩
theorem bad_none_false {s : ByteArray} (h : ∀ cs, ¬ Ut.Is s.data.toList cs []) : (bad s).isNone = false := by
  cases hb : bad s with
  | none => obtain ⟨cs, hc⟩ := (bad_none_iff s).1 hb; exact absurd hc (h cs)
  | some p => rfl
theorem is_enc {n : Nat} (h : Ut.sg n) : Ut.Is (Ut.enc n) [n] [] := ⟨by simpa using h, rfl, by simp [Ut.fl]⟩
theorem is_fl {cs : List Nat} (h : ∀ c ∈ cs, Ut.sg c) : Ut.Is (Ut.fl cs) cs [] := ⟨h, rfl, by simp⟩
theorem no255 {l : List UInt8} (h : (255 : UInt8) ∈ l) (cs : List Nat) : ¬ Ut.Is l cs [] := fun hi => by
  have e := hi.eq
  rw [List.append_nil] at e
  rw [e] at h
  obtain ⟨c, hc, hx⟩ := mem_fl h
  have := enc_lt (hi.all c hc) hx
  revert this
  decide
theorem isg_sg {n : Nat} : isg n = true ↔ Ut.sg n := by
  unfold isg Ut.sg
  rw [decide_eq_true_iff]
  omega
theorem data_mk (l : List UInt8) : (⟨l.toArray⟩ : ByteArray).data.toList = l := by simp
theorem size_mk (l : List UInt8) : (⟨l.toArray⟩ : ByteArray).size = l.length := by show l.toArray.size = _; simp
theorem data_append (a c : ByteArray) : (a ++ c).data.toList = a.data.toList ++ c.data.toList := by simp
end Go.Proofs.YtgapoofalnakmaaDoor.U
