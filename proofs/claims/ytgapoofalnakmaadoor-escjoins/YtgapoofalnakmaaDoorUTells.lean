/-
  What the model's range over a text says of it, plainly: where it is not right, its signs, whether it is safe. Conditions: none.
-/
import Derived.Test.YtgapoofalnakmaaDoorUFollow
namespace Go.Proofs.YtgapoofalnakmaaDoor.U
open Go

theorem len_toList (s : ByteArray) : s.data.toList.length = s.size := by rw [Array.length_toList]; rfl

theorem al_is (s : ByteArray) (r : List UInt8) (hr : Ut.dc r = none) : ∀ (cs : List Nat) (f p : Nat), s.data.toList.drop p = Ut.fl cs ++ r → (∀ c ∈ cs, Ut.sg c) → s.size ≤ p + f → p ≤ s.size →
    first (st s) (al s f p) = (if r = [] then none else some (p + (Ut.fl cs).length)) ∧ (r = [] → (al s f p).map (·.n) = cs) := by
  intro cs
  induction cs with
  | nil =>
    intro f p hd _ hf hp
    have hd' : s.data.toList.drop p = r := hd
    have hl : r.length = s.size - p := by rw [← hd', List.length_drop, len_toList]
    by_cases h0 : r = []
    · have hge : ¬ p < s.size := by rw [h0] at hl; simp at hl; omega
      rw [al_end s f p hge, if_pos h0]
      exact ⟨rfl, fun _ => rfl⟩
    · have hlt : p < s.size := by
        rcases Nat.lt_or_ge p s.size with h | h
        · exact h
        · exact absurd (List.length_eq_zero_iff.1 (by omega)) h0
      obtain ⟨f', rfl, ha, hf'⟩ := al_cons s f p hlt hf
      refine ⟨?_, fun h => absurd h h0⟩
      have hde : (Utf8.decode s p).1 = 65533 := by rw [Ut.decode_eq s p hlt, hd', hr]
      have hst : st s p (Utf8.decode s p).1 = false := by
        rw [hde, Bool.eq_false_iff]
        unfold st
        rw [hd', Ne, List.isPrefixOf_iff_prefix]
        rintro ⟨t, ht⟩
        rw [← ht, Ut.dc_enc 65533 ⟨by omega, by omega⟩] at hr
        cases hr
      rw [ha, first, if_neg (by simpa using hst), if_neg h0]
      rfl
  | cons c cs ih =>
    intro f p hd hs hf hp
    have hd' : s.data.toList.drop p = Ut.enc c ++ (Ut.fl cs ++ r) := by rw [hd]; simp [Ut.fl]
    have hc := hs c (by simp)
    have hpos := Ut.enc_pos c
    have hl : (Ut.enc c).length + (Ut.fl cs ++ r).length = s.size - p := by rw [← List.length_append, ← hd', List.length_drop, len_toList]
    have hlt : p < s.size := by omega
    obtain ⟨f', rfl, ha, hf'⟩ := al_cons s f p hlt hf
    have hde : Utf8.decode s p = (c, (Ut.enc c).length) := by rw [Ut.decode_eq s p hlt, hd', Ut.dc_enc c hc]
    have hst : st s p (Utf8.decode s p).1 = true := by
      rw [hde]
      unfold st
      rw [hd', List.isPrefixOf_iff_prefix]
      exact ⟨_, rfl⟩
    have hn : s.data.toList.drop (p + (Utf8.decode s p).2) = Ut.fl cs ++ r := by
      rw [hde, ← List.drop_drop, hd']
      simp
    obtain ⟨i1, i2⟩ := ih f' (p + (Utf8.decode s p).2) hn (fun x hx => hs x (by simp [hx])) hf' (by rw [hde]; show p + (Ut.enc c).length ≤ _; omega)
    rw [ha]
    refine ⟨?_, fun h0 => ?_⟩
    · rw [first, if_pos hst, i1]
      split
      · rfl
      · rw [hde]
        simp only [Ut.fl, List.length_append]
        congr 1
        show p + _ + _ = _
        omega
    · rw [List.map_cons, i2 h0]
      show (Utf8.decode s p).1 :: cs = _
      rw [hde]

theorem bad_is {s : ByteArray} {cs : List Nat} {r : List UInt8} (h : Ut.Is s.data.toList cs r) : bad s = if r = [] then none else some (Ut.fl cs).length := by
  have := (al_is s r h.none cs s.size 0 (by rw [List.drop_zero]; exact h.eq) h.all (by omega) (Nat.zero_le _)).1
  rw [Nat.zero_add] at this
  exact this
theorem signs_is {s : ByteArray} {cs : List Nat} (h : Ut.Is s.data.toList cs []) : (all s).map (·.n) = cs :=
  (al_is s [] h.none cs s.size 0 (by rw [List.drop_zero]; exact h.eq) h.all (by omega) (Nat.zero_le _)).2 rfl

/-- the byte at a place. -/
def at_ (s : ByteArray) (q : Nat) : Nat := Ut.g s.data.toList q
theorem at_getElem (s : ByteArray) (p : Nat) (h : p < s.size) : at_ s p = (s[p]'h).toNat := by
  unfold at_ Ut.g
  rw [List.getD_eq_getElem?_getD, List.getElem?_eq_getElem (by rw [len_toList]; exact h)]
  rfl
end Go.Proofs.YtgapoofalnakmaaDoor.U
