/- Laws of base64 and digits: they are read from what is printed of them, and printed as they were read. Conditions: none. -/
import Derived.Test.YtmenllnokgjdlaaGreatDoorG03
namespace Go.Proofs.YtmenllnokgjdlaaGreatDoor.Cd
theorem chs_nil (n f : Nat) : chs n f [] = [] := by cases f <;> simp [chs]
theorem chs_more (n : Nat) (hn : 1 <= n) : ∀ (f g : Nat) (l : List UInt8), l.length <= f -> l.length <= g -> chs n f l = chs n g l
 | 0, g, l, h, _ => by
  have : l = [] := List.length_eq_zero_iff.1 (by omega)
  subst this
  rw [chs_nil, chs_nil]
 | f + 1, 0, l, _, h => by
  have : l = [] := List.length_eq_zero_iff.1 (by omega)
  subst this
  rw [chs_nil, chs_nil]
 | f + 1, g + 1, l, h1, h2 => by
  rw [chs, chs]
  split
  ·rfl
  ·rename_i hl
   have : 1 <= l.length := List.length_pos_iff.2 hl
   rw [chs_more n hn f g (l.drop n) (by rw [List.length_drop]; omega) (by rw [List.length_drop]; omega)]
theorem chs_step (n : Nat) (hn : 1 <= n) (l : List UInt8) (hl : l ≠ []) : chs n l.length l = l.take n :: chs n (l.drop n).length (l.drop n) := by
 obtain ⟨f, hf⟩ : ∃ f, l.length = f + 1 := ⟨l.length - 1, by have := List.length_pos_iff.2 hl; omega⟩
 rw [hf, chs, if_neg hl]
 congr 1
 exact chs_more n hn _ _ _ (by rw [List.length_drop]; omega) (Nat.le_refl _)
theorem enc_nil (k : Kd) : enc k [] = [] := rfl
theorem enc_step (k : Kd) (hk : 1 <= k.bs) (l : List UInt8) (hl : l ≠ []) : enc k l = gr k (l.take k.bs) ++ enc k (l.drop k.bs) := by
 unfold enc
 rw [chs_step k.bs hk l hl, List.flatMap_cons]
theorem enc_H1 (a : UInt8) (r : List UInt8) : enc kH (a :: r) = gr kH [a] ++ enc kH r := enc_step kH (by decide) _ (by simp)
theorem gr_H1 (a : UInt8) : gr kH [a] = [dx (a.toNat / 16), dx (a.toNat % 16)] := by
 have h1 : pk [a] / 1048576 % 16 = a.toNat / 16 := by show a.toNat * 65536 / 1048576 % 16 = _; have := a.toNat_lt; omega
 have h2 : pk [a] / 65536 % 16 = a.toNat % 16 := by show a.toNat * 65536 / 65536 % 16 = _; omega
 simp [gr, kH, List.range_succ, h1, h2]
theorem ofNat_eq {n : Nat} {a : UInt8} (h : n % 256 = a.toNat) : UInt8.ofNat n = a := UInt8.toNat.inj (by simpa using h)
end Go.Proofs.YtmenllnokgjdlaaGreatDoor.Cd
