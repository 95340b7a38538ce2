/-
  What the document's 'one' answers at every place of a text. Conditions: none.
-/
import Derived.Test.YtgapoofalnakmaaDoorUOne
namespace Go.Proofs.YtgapoofalnakmaaDoor.U
open Go Go.RowKit

set_option maxRecDepth 100000 in
theorem one2s (s : ByteArray) (p : Nat) (w : World) (x0 : Nat) (h : p < s.size) (e0 : (s[p]'h).toNat = x0) (b0 : (x0 : Int) ≤ 255) (d0 : decide ((240 : Int) ≤ (x0 : Int)) = false) (d1 : decide ((224 : Int) ≤ (x0 : Int)) = false) (d2 : decide ((192 : Int) ≤ (x0 : Int)) = true) (hi0 : (p : Int) < s.size) (hz : (s.size : Int) ≤ 1000) (w0 : wrap64 (x0 : Int) = x0) (dl : decide ((s.size : Int) - p < 2) = true) :
    Calls Tryd.prog 56 #[.string s, .int .i64 p] w fun e w' => e = .returned (.tuple #[.int .i64 0, .int .i64 0]) ∧ Below w.heap.size w w' := by
  go_enter Tryd.func56, Tryd.ntmps56
  go_wp2
  go_ret2
  exact ⟨rfl, Below.refl _ _⟩

set_option maxRecDepth 100000 in
theorem one3s (s : ByteArray) (p : Nat) (w : World) (x0 : Nat) (h : p < s.size) (e0 : (s[p]'h).toNat = x0) (b0 : (x0 : Int) ≤ 255) (d0 : decide ((240 : Int) ≤ (x0 : Int)) = false) (d1 : decide ((224 : Int) ≤ (x0 : Int)) = true) (hi0 : (p : Int) < s.size) (hz : (s.size : Int) ≤ 1000) (w0 : wrap64 (x0 : Int) = x0) (dl : decide ((s.size : Int) - p < 3) = true) :
    Calls Tryd.prog 56 #[.string s, .int .i64 p] w fun e w' => e = .returned (.tuple #[.int .i64 0, .int .i64 0]) ∧ Below w.heap.size w w' := by
  go_enter Tryd.func56, Tryd.ntmps56
  go_wp2
  go_ret2
  exact ⟨rfl, Below.refl _ _⟩

set_option maxRecDepth 100000 in
theorem one4s (s : ByteArray) (p : Nat) (w : World) (x0 : Nat) (h : p < s.size) (e0 : (s[p]'h).toNat = x0) (b0 : (x0 : Int) ≤ 255) (d0 : decide ((240 : Int) ≤ (x0 : Int)) = true) (hi0 : (p : Int) < s.size) (hz : (s.size : Int) ≤ 1000) (w0 : wrap64 (x0 : Int) = x0) (dl : decide ((s.size : Int) - p < 4) = true) :
    Calls Tryd.prog 56 #[.string s, .int .i64 p] w fun e w' => e = .returned (.tuple #[.int .i64 0, .int .i64 0]) ∧ Below w.heap.size w w' := by
  go_enter Tryd.func56, Tryd.ntmps56
  go_wp2
  go_ret2
  exact ⟨rfl, Below.refl _ _⟩

/-- what the first byte says of a sign that stands ahead. -/
theorem lead {l : List UInt8} {c : Nat} (h : Ut.dc l = some c) : (Ut.g l 0 < 128 ∧ c = Ut.g l 0 ∧ (Ut.enc c).length = 1) ∨ (192 ≤ Ut.g l 0 ∧ Ut.g l 0 < 224 ∧ c = 64 * (Ut.g l 0 - 192) + Ut.g l 1 % 64 ∧ (Ut.enc c).length = 2) ∨
    (224 ≤ Ut.g l 0 ∧ Ut.g l 0 < 240 ∧ c = 64 * (64 * (Ut.g l 0 - 224) + Ut.g l 1 % 64) + Ut.g l 2 % 64 ∧ (Ut.enc c).length = 3) ∨
    (240 ≤ Ut.g l 0 ∧ c = 64 * (64 * (64 * (Ut.g l 0 - 240) + Ut.g l 1 % 64) + Ut.g l 2 % 64) + Ut.g l 3 % 64 ∧ (Ut.enc c).length = 4) := by
  obtain ⟨hs, t, rfl⟩ := Ut.dc_some h
  clear h
  obtain ⟨hs, hs'⟩ := hs
  rcases Ut.enc_cases c with ⟨h1, e⟩ | ⟨h1, h2, e⟩ | ⟨h1, h2, e⟩ | ⟨h1, e⟩
  · left
    rw [e]
    simp only [Ut.g, List.cons_append, List.nil_append, List.getD_cons_zero, Ut.bn c (by omega)]
    exact ⟨h1, trivial, rfl⟩
  · right; left
    rw [e]
    simp only [Ut.g, List.cons_append, List.nil_append, List.getD_cons_zero, List.getD_cons_succ, Ut.bn (192 + c / 64) (by omega), Ut.bn (128 + c % 64) (by omega)]
    exact ⟨by omega, by omega, by omega, rfl⟩
  · right; right; left
    rw [e]
    simp only [Ut.g, List.cons_append, List.nil_append, List.getD_cons_zero, List.getD_cons_succ, Ut.bn (224 + c / 4096) (by omega), Ut.bn (128 + c / 64 % 64) (by omega), Ut.bn (128 + c % 64) (by omega)]
    exact ⟨by omega, by omega, by omega, rfl⟩
  · right; right; right
    rw [e]
    simp only [Ut.g, List.cons_append, List.nil_append, List.getD_cons_zero, List.getD_cons_succ, Ut.bn (240 + c / 262144) (by omega), Ut.bn (128 + c / 4096 % 64) (by omega), Ut.bn (128 + c / 64 % 64) (by omega), Ut.bn (128 + c % 64) (by omega)]
    exact ⟨by omega, by omega, rfl⟩

/-- what 'one' answers. -/
def ov (s : ByteArray) (p : Nat) : Nat × Nat := match Ut.dc (s.data.toList.drop p) with | some c => (c, (Ut.enc c).length) | none => (0, 0)
theorem ov_some {s : ByteArray} {p c : Nat} (h : Ut.dc (s.data.toList.drop p) = some c) : ov s p = (c, (Ut.enc c).length) := by unfold ov; rw [h]
theorem ov_none {s : ByteArray} {p : Nat} (h : Ut.dc (s.data.toList.drop p) = none) : ov s p = (0, 0) := by unfold ov; rw [h]
theorem g_at (s : ByteArray) (p i : Nat) (h : p + i < s.size) : Ut.g (s.data.toList.drop p) i = (s[p + i]'h).toNat := by
  have := at_getElem s (p + i) h
  unfold at_ Ut.g at this
  unfold Ut.g
  rw [← this, List.getD_eq_getElem?_getD, List.getElem?_drop, List.getD_eq_getElem?_getD]
theorem u8w (x : Nat) (h : x ≤ 255) : wrap64 (x : Int) = x := by unfold wrap64; omega
theorem len_drop (s : ByteArray) (p : Nat) : (s.data.toList.drop p).length = s.size - p := by rw [List.length_drop, len_toList]
/-- the bytes of a value stand there, or they do not. -/
theorem hit {s : ByteArray} {p v k : Nat} (hv : isg v = true) (he : ((str (Ut.enc v)).toList == (s.extract p (p + k)).toList) = true) (hk : p + k ≤ s.size) : ov s p = (v, k) := by
  rw [beq_iff_eq, extract_toList, ByteArray.toList_eq, data_mk, show p + k - p = k by omega] at he
  have hpre : Ut.enc v <+: s.data.toList.drop p := by rw [he]; exact List.take_prefix _ _
  obtain ⟨t, ht⟩ := hpre
  have hd : Ut.dc (s.data.toList.drop p) = some v := by rw [← ht]; exact Ut.dc_enc v (isg_sg.1 hv) t
  rw [ov_some hd]
  congr 1
  rw [he, List.length_take, len_drop]
  omega
theorem miss {s : ByteArray} {p v k : Nat} (hv : isg v = false ∨ ((str (Ut.enc v)).toList == (s.extract p (p + k)).toList) = false) (hl : ∀ c, Ut.dc (s.data.toList.drop p) = some c → c = v ∧ (Ut.enc c).length = k) : ov s p = (0, 0) := by
  cases hd : Ut.dc (s.data.toList.drop p) with
  | none => exact ov_none hd
  | some c =>
    obtain ⟨rfl, hk⟩ := hl c hd
    obtain ⟨hs, t, ht⟩ := Ut.dc_some hd
    rcases hv with hv | hv
    · rw [isg_sg.2 hs] at hv; cases hv
    · rw [beq_eq_false_iff_ne] at hv
      refine absurd ?_ hv
      rw [extract_toList, ByteArray.toList_eq, data_mk, ht, show p + k - p = (Ut.enc c).length by omega]
      simp
theorem gone {s : ByteArray} {p : Nat} (hl : ∀ c, Ut.dc (s.data.toList.drop p) = some c → (Ut.enc c).length ≤ s.size - p → False) : ov s p = (0, 0) := by
  cases hd : Ut.dc (s.data.toList.drop p) with
  | none => exact ov_none hd
  | some c =>
    obtain ⟨hs, t, ht⟩ := Ut.dc_some hd
    exact (hl c hd (by rw [← len_drop, ht, List.length_append]; omega)).elim

theorem one_any (s : ByteArray) (p : Nat) (w : World) (hp : p < s.size) (hs : s.size ≤ 1000) :
    Calls Tryd.prog 56 #[.string s, .int .i64 p] w fun e w' => e = .returned (.tuple #[.int .i64 ((ov s p).1 : Int), .int .i64 ((ov s p).2 : Int)]) ∧ Below w.heap.size w w' := by
  have hi0 : (p : Int) < s.size := by omega
  have hz : (s.size : Int) ≤ 1000 := by omega
  have k0 := g_at s p 0 hp
  have c0 : (s[p]'hp).toNat ≤ 255 := by have := (s[p]'hp).toNat_lt; omega
  have k0' : Ut.g (s.data.toList.drop p) 0 = (s[p]'hp).toNat := k0
  generalize hx0 : (s[p]'hp).toNat = x0 at *
  clear k0
  by_cases h4 : 240 ≤ x0
  · by_cases hl : s.size - p < 4
    · rw [gone (fun c hc hle => by have := lead hc; omega)]
      exact one4s s p w x0 hp hx0 (by omega) (decide_eq_true (by omega)) hi0 hz (u8w x0 c0) (decide_eq_true (by omega))
    · have h1i : p + 1 < s.size := by omega
      have k1 := g_at s p 1 h1i
      have c1 : (s[p + 1]'h1i).toNat ≤ 255 := by have := (s[p + 1]'h1i).toNat_lt; omega
      generalize hx1 : (s[p + 1]'h1i).toNat = x1 at *
      have h2i : p + 2 < s.size := by omega
      have k2 := g_at s p 2 h2i
      have c2 : (s[p + 2]'h2i).toNat ≤ 255 := by have := (s[p + 2]'h2i).toNat_lt; omega
      generalize hx2 : (s[p + 2]'h2i).toNat = x2 at *
      have h3i : p + 3 < s.size := by omega
      have k3 := g_at s p 3 h3i
      have c3 : (s[p + 3]'h3i).toNat ≤ 255 := by have := (s[p + 3]'h3i).toNat_lt; omega
      generalize hx3 : (s[p + 3]'h3i).toNat = x3 at *
      obtain ⟨v1, q1⟩ : ∃ v1, v1 = 64 * (x0 - 240) + x1 % 64 := ⟨_, rfl⟩
      obtain ⟨v2, q2⟩ : ∃ v2, v2 = 64 * v1 + x2 % 64 := ⟨_, rfl⟩
      obtain ⟨v3, q3⟩ : ∃ v3, v3 = 64 * v2 + x3 % 64 := ⟨_, rfl⟩
      have hlead : ∀ c, Ut.dc (s.data.toList.drop p) = some c → c = v3 ∧ (Ut.enc c).length = 4 := fun c hc => by have := lead hc; omega
      cases hg : isg (v3 : Int) with
      | false =>
        rw [miss (.inl hg) hlead]
        exact one4n s p w x0 x1 x2 x3 v1 v2 v3 (by omega) hx0 (show ((x0 : Nat) : Int) ≤ 255 by omega) hx1 (show ((x1 : Nat) : Int) ≤ 255 by omega) hx2 (show ((x2 : Nat) : Int) ≤ 255 by omega) hx3 (show ((x3 : Nat) : Int) ≤ 255 by omega) (decide_eq_true (by omega)) (show (v1 : Int) = 64 * ((x0 : Int) - 240) + (x1 : Int) % 64 by omega) (show (v1 : Int) ≤ 4194303 by omega) (show (v2 : Int) = 64 * (v1 : Int) + (x2 : Int) % 64 by omega) (show (v2 : Int) ≤ 4194303 by omega) (show (v3 : Int) = 64 * (v2 : Int) + (x3 : Int) % 64 by omega) (show (v3 : Int) ≤ 4194303 by omega) hi0 (show (p : Int) + 1 < s.size by omega) (show (p : Int) + 2 < s.size by omega) (show (p : Int) + 3 < s.size by omega) hz (u8w x0 c0) (u8w x1 c1) (u8w x2 c2) (u8w x3 c3) (decide_eq_false (by omega)) hg
      | true =>
        cases he : ((str (Ut.enc v3)).toList == (s.extract p (p + 4)).toList) with
        | true =>
          rw [hit hg he (by omega)]
          exact one4y s p w x0 x1 x2 x3 v1 v2 v3 (by omega) hx0 (show ((x0 : Nat) : Int) ≤ 255 by omega) hx1 (show ((x1 : Nat) : Int) ≤ 255 by omega) hx2 (show ((x2 : Nat) : Int) ≤ 255 by omega) hx3 (show ((x3 : Nat) : Int) ≤ 255 by omega) (decide_eq_true (by omega)) (show (v1 : Int) = 64 * ((x0 : Int) - 240) + (x1 : Int) % 64 by omega) (show (v1 : Int) ≤ 4194303 by omega) (show (v2 : Int) = 64 * (v1 : Int) + (x2 : Int) % 64 by omega) (show (v2 : Int) ≤ 4194303 by omega) (show (v3 : Int) = 64 * (v2 : Int) + (x3 : Int) % 64 by omega) (show (v3 : Int) ≤ 4194303 by omega) hi0 (show (p : Int) + 1 < s.size by omega) (show (p : Int) + 2 < s.size by omega) (show (p : Int) + 3 < s.size by omega) hz (u8w x0 c0) (u8w x1 c1) (u8w x2 c2) (u8w x3 c3) (decide_eq_false (by omega)) _ _ rfl rfl hg he
        | false =>
          rw [miss (.inr he) hlead]
          exact one4x s p w x0 x1 x2 x3 v1 v2 v3 (by omega) hx0 (show ((x0 : Nat) : Int) ≤ 255 by omega) hx1 (show ((x1 : Nat) : Int) ≤ 255 by omega) hx2 (show ((x2 : Nat) : Int) ≤ 255 by omega) hx3 (show ((x3 : Nat) : Int) ≤ 255 by omega) (decide_eq_true (by omega)) (show (v1 : Int) = 64 * ((x0 : Int) - 240) + (x1 : Int) % 64 by omega) (show (v1 : Int) ≤ 4194303 by omega) (show (v2 : Int) = 64 * (v1 : Int) + (x2 : Int) % 64 by omega) (show (v2 : Int) ≤ 4194303 by omega) (show (v3 : Int) = 64 * (v2 : Int) + (x3 : Int) % 64 by omega) (show (v3 : Int) ≤ 4194303 by omega) hi0 (show (p : Int) + 1 < s.size by omega) (show (p : Int) + 2 < s.size by omega) (show (p : Int) + 3 < s.size by omega) hz (u8w x0 c0) (u8w x1 c1) (u8w x2 c2) (u8w x3 c3) (decide_eq_false (by omega)) _ _ rfl rfl hg he
  by_cases h3 : 224 ≤ x0
  · by_cases hl : s.size - p < 3
    · rw [gone (fun c hc hle => by have := lead hc; omega)]
      exact one3s s p w x0 hp hx0 (by omega) (decide_eq_false (by omega)) (decide_eq_true (by omega)) hi0 hz (u8w x0 c0) (decide_eq_true (by omega))
    · have h1i : p + 1 < s.size := by omega
      have k1 := g_at s p 1 h1i
      have c1 : (s[p + 1]'h1i).toNat ≤ 255 := by have := (s[p + 1]'h1i).toNat_lt; omega
      generalize hx1 : (s[p + 1]'h1i).toNat = x1 at *
      have h2i : p + 2 < s.size := by omega
      have k2 := g_at s p 2 h2i
      have c2 : (s[p + 2]'h2i).toNat ≤ 255 := by have := (s[p + 2]'h2i).toNat_lt; omega
      generalize hx2 : (s[p + 2]'h2i).toNat = x2 at *
      obtain ⟨v1, q1⟩ : ∃ v1, v1 = 64 * (x0 - 224) + x1 % 64 := ⟨_, rfl⟩
      obtain ⟨v2, q2⟩ : ∃ v2, v2 = 64 * v1 + x2 % 64 := ⟨_, rfl⟩
      have hlead : ∀ c, Ut.dc (s.data.toList.drop p) = some c → c = v2 ∧ (Ut.enc c).length = 3 := fun c hc => by have := lead hc; omega
      cases hg : isg (v2 : Int) with
      | false =>
        rw [miss (.inl hg) hlead]
        exact one3n s p w x0 x1 x2 v1 v2 (by omega) hx0 (show ((x0 : Nat) : Int) ≤ 255 by omega) hx1 (show ((x1 : Nat) : Int) ≤ 255 by omega) hx2 (show ((x2 : Nat) : Int) ≤ 255 by omega) (decide_eq_false (by omega)) (decide_eq_true (by omega)) (show (v1 : Int) = 64 * ((x0 : Int) - 224) + (x1 : Int) % 64 by omega) (show (v1 : Int) ≤ 4194303 by omega) (show (v2 : Int) = 64 * (v1 : Int) + (x2 : Int) % 64 by omega) (show (v2 : Int) ≤ 4194303 by omega) hi0 (show (p : Int) + 1 < s.size by omega) (show (p : Int) + 2 < s.size by omega) hz (u8w x0 c0) (u8w x1 c1) (u8w x2 c2) (decide_eq_false (by omega)) hg
      | true =>
        cases he : ((str (Ut.enc v2)).toList == (s.extract p (p + 3)).toList) with
        | true =>
          rw [hit hg he (by omega)]
          exact one3y s p w x0 x1 x2 v1 v2 (by omega) hx0 (show ((x0 : Nat) : Int) ≤ 255 by omega) hx1 (show ((x1 : Nat) : Int) ≤ 255 by omega) hx2 (show ((x2 : Nat) : Int) ≤ 255 by omega) (decide_eq_false (by omega)) (decide_eq_true (by omega)) (show (v1 : Int) = 64 * ((x0 : Int) - 224) + (x1 : Int) % 64 by omega) (show (v1 : Int) ≤ 4194303 by omega) (show (v2 : Int) = 64 * (v1 : Int) + (x2 : Int) % 64 by omega) (show (v2 : Int) ≤ 4194303 by omega) hi0 (show (p : Int) + 1 < s.size by omega) (show (p : Int) + 2 < s.size by omega) hz (u8w x0 c0) (u8w x1 c1) (u8w x2 c2) (decide_eq_false (by omega)) _ _ rfl rfl hg he
        | false =>
          rw [miss (.inr he) hlead]
          exact one3x s p w x0 x1 x2 v1 v2 (by omega) hx0 (show ((x0 : Nat) : Int) ≤ 255 by omega) hx1 (show ((x1 : Nat) : Int) ≤ 255 by omega) hx2 (show ((x2 : Nat) : Int) ≤ 255 by omega) (decide_eq_false (by omega)) (decide_eq_true (by omega)) (show (v1 : Int) = 64 * ((x0 : Int) - 224) + (x1 : Int) % 64 by omega) (show (v1 : Int) ≤ 4194303 by omega) (show (v2 : Int) = 64 * (v1 : Int) + (x2 : Int) % 64 by omega) (show (v2 : Int) ≤ 4194303 by omega) hi0 (show (p : Int) + 1 < s.size by omega) (show (p : Int) + 2 < s.size by omega) hz (u8w x0 c0) (u8w x1 c1) (u8w x2 c2) (decide_eq_false (by omega)) _ _ rfl rfl hg he
  by_cases h2 : 192 ≤ x0
  · by_cases hl : s.size - p < 2
    · rw [gone (fun c hc hle => by have := lead hc; omega)]
      exact one2s s p w x0 hp hx0 (by omega) (decide_eq_false (by omega)) (decide_eq_false (by omega)) (decide_eq_true (by omega)) hi0 hz (u8w x0 c0) (decide_eq_true (by omega))
    · have h1i : p + 1 < s.size := by omega
      have k1 := g_at s p 1 h1i
      have c1 : (s[p + 1]'h1i).toNat ≤ 255 := by have := (s[p + 1]'h1i).toNat_lt; omega
      generalize hx1 : (s[p + 1]'h1i).toNat = x1 at *
      obtain ⟨v1, q1⟩ : ∃ v1, v1 = 64 * (x0 - 192) + x1 % 64 := ⟨_, rfl⟩
      have hlead : ∀ c, Ut.dc (s.data.toList.drop p) = some c → c = v1 ∧ (Ut.enc c).length = 2 := fun c hc => by have := lead hc; omega
      cases hg : isg (v1 : Int) with
      | false =>
        rw [miss (.inl hg) hlead]
        exact one2n s p w x0 x1 v1 (by omega) hx0 (show ((x0 : Nat) : Int) ≤ 255 by omega) hx1 (show ((x1 : Nat) : Int) ≤ 255 by omega) (decide_eq_false (by omega)) (decide_eq_false (by omega)) (decide_eq_true (by omega)) (show (v1 : Int) = 64 * ((x0 : Int) - 192) + (x1 : Int) % 64 by omega) (show (v1 : Int) ≤ 4194303 by omega) hi0 (show (p : Int) + 1 < s.size by omega) hz (u8w x0 c0) (u8w x1 c1) (decide_eq_false (by omega)) hg
      | true =>
        cases he : ((str (Ut.enc v1)).toList == (s.extract p (p + 2)).toList) with
        | true =>
          rw [hit hg he (by omega)]
          exact one2y s p w x0 x1 v1 (by omega) hx0 (show ((x0 : Nat) : Int) ≤ 255 by omega) hx1 (show ((x1 : Nat) : Int) ≤ 255 by omega) (decide_eq_false (by omega)) (decide_eq_false (by omega)) (decide_eq_true (by omega)) (show (v1 : Int) = 64 * ((x0 : Int) - 192) + (x1 : Int) % 64 by omega) (show (v1 : Int) ≤ 4194303 by omega) hi0 (show (p : Int) + 1 < s.size by omega) hz (u8w x0 c0) (u8w x1 c1) (decide_eq_false (by omega)) _ _ rfl rfl hg he
        | false =>
          rw [miss (.inr he) hlead]
          exact one2x s p w x0 x1 v1 (by omega) hx0 (show ((x0 : Nat) : Int) ≤ 255 by omega) hx1 (show ((x1 : Nat) : Int) ≤ 255 by omega) (decide_eq_false (by omega)) (decide_eq_false (by omega)) (decide_eq_true (by omega)) (show (v1 : Int) = 64 * ((x0 : Int) - 192) + (x1 : Int) % 64 by omega) (show (v1 : Int) ≤ 4194303 by omega) hi0 (show (p : Int) + 1 < s.size by omega) hz (u8w x0 c0) (u8w x1 c1) (decide_eq_false (by omega)) _ _ rfl rfl hg he
  have hlead : ∀ c, Ut.dc (s.data.toList.drop p) = some c → c = x0 ∧ (Ut.enc c).length = 1 := fun c hc => by have := lead hc; omega
  cases hg : isg (x0 : Int) with
  | false =>
    rw [miss (.inl hg) hlead]
    exact one1n s p w x0 (by omega) hx0 (show ((x0 : Nat) : Int) ≤ 255 by omega) (decide_eq_false (by omega)) (decide_eq_false (by omega)) (decide_eq_false (by omega)) hi0 hz (u8w x0 c0) (decide_eq_false (by omega)) hg
  | true =>
    cases he : ((str (Ut.enc x0)).toList == (s.extract p (p + 1)).toList) with
    | true =>
      rw [hit hg he (by omega)]
      exact one1y s p w x0 (by omega) hx0 (show ((x0 : Nat) : Int) ≤ 255 by omega) (decide_eq_false (by omega)) (decide_eq_false (by omega)) (decide_eq_false (by omega)) hi0 hz (u8w x0 c0) (decide_eq_false (by omega)) _ _ rfl rfl hg he
    | false =>
      rw [miss (.inr he) hlead]
      exact one1x s p w x0 (by omega) hx0 (show ((x0 : Nat) : Int) ≤ 255 by omega) (decide_eq_false (by omega)) (decide_eq_false (by omega)) (decide_eq_false (by omega)) hi0 hz (u8w x0 c0) (decide_eq_false (by omega)) _ _ rfl rfl hg he
end Go.Proofs.YtgapoofalnakmaaDoor.U
