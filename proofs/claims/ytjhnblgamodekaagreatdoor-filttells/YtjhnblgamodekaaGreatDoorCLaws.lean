/- Laws of base64 and digits: they are read from what is printed of them, and printed as they were read. Conditions: none. -/
import Derived.Test.YtjhnblgamodekaaGreatDoorG03
namespace Go.Proofs.YtjhnblgamodekaaGreatDoor.Cd
theorem u8_all {p : UInt8 -> Prop} (h : ∀ i : Fin 256, p (UInt8.ofNat i.val)) (x : UInt8) : p x := by
 have := h ⟨x.toNat, x.toNat_lt⟩
 rwa [UInt8.ofNat_toNat] at this
theorem nh_some {x : UInt8} {n : Nat} (h : nh x = some n) : n < 16 := by
 have : ∀ x : UInt8, ((nh x).map fun n => decide (n < 16)) ≠ some false := u8_all (by decide +kernel)
 have := this x
 rw [h] at this
 simpa using this
theorem nh_ok (x : UInt8) (n : Nat) (h : nh x = some n) : n < 16 /\ x.toNat < 128 /\ x ≠ 61 := by
 have : ∀ x : UInt8, ((nh x).map fun n => decide (n < 16 /\ x.toNat < 128 /\ x ≠ 61)) ≠ some false := u8_all (by decide +kernel)
 have := this x
 rw [h] at this
 simpa using this
theorem chs_nil (n f : Nat) : chs n f [] = [] := by cases f <;> simp [chs]
theorem chs_more (n : Nat) (hn : 1 <= n) : ∀ (f g : Nat) (l : List UInt8), l.length <= f -> l.length <= g -> chs n f l = chs n g l
 | 0, g, l, h, _ => by
  have : l = [] := List.length_eq_zero_iff.1 (by omega)
  subst this
  rw [chs_nil, chs_nil]
 | f + 1, 0, l, _, h => by
  have : l = [] := List.length_eq_zero_iff.1 (by omega)
  subst this
  rw [chs_nil, chs_nil]
 | f + 1, g + 1, l, h1, h2 => by
  rw [chs, chs]
  split
  ·rfl
  ·rename_i hl
   have : 1 <= l.length := List.length_pos_iff.2 hl
   rw [chs_more n hn f g (l.drop n) (by rw [List.length_drop]; omega) (by rw [List.length_drop]; omega)]
theorem chs_step (n : Nat) (hn : 1 <= n) (l : List UInt8) (hl : l ≠ []) : chs n l.length l = l.take n :: chs n (l.drop n).length (l.drop n) := by
 obtain ⟨f, hf⟩ : ∃ f, l.length = f + 1 := ⟨l.length - 1, by have := List.length_pos_iff.2 hl; omega⟩
 rw [hf, chs, if_neg hl]
 congr 1
 exact chs_more n hn _ _ _ (by rw [List.length_drop]; omega) (Nat.le_refl _)
theorem chs_empty (n : Nat) (hn : 1 <= n) (l : List UInt8) : (chs n l.length l).isEmpty = l.isEmpty := by
 cases l with
 | nil => rfl
 | cons x l => rw [chs_step n hn (x :: l) (by simp)]; rfl
theorem enc_nil (k : Kd) : enc k [] = [] := rfl
theorem enc_step (k : Kd) (hk : 1 <= k.bs) (l : List UInt8) (hl : l ≠ []) : enc k l = gr k (l.take k.bs) ++ enc k (l.drop k.bs) := by
 unfold enc
 rw [chs_step k.bs hk l hl, List.flatMap_cons]
theorem dec_nil (k : Kd) : dec k [] = some [] := rfl
theorem dec_step (k : Kd) (hk : 1 <= k.wd) (l : List UInt8) (hl : l ≠ []) : dec k l = (stp k (l.drop k.wd).isEmpty (l.take k.wd)).bind fun t => (dec k (l.drop k.wd)).map (t ++ ·) := by
 unfold dec
 rw [chs_step k.wd hk l hl, dcs, chs_empty k.wd hk]
theorem enc_H1 (a : UInt8) (r : List UInt8) : enc kH (a :: r) = gr kH [a] ++ enc kH r := enc_step kH (by decide) _ (by simp)
theorem dec_H2 (x y : UInt8) (r : List UInt8) : dec kH (x :: y :: r) = (stp kH r.isEmpty [x, y]).bind fun t => (dec kH r).map (t ++ ·) := dec_step kH (by decide) _ (by simp)
theorem gr_H1 (a : UInt8) : gr kH [a] = [dx (a.toNat / 16), dx (a.toNat % 16)] := by
 have h1 : pk [a] / 1048576 % 16 = a.toNat / 16 := by show a.toNat * 65536 / 1048576 % 16 = _; have := a.toNat_lt; omega
 have h2 : pk [a] / 65536 % 16 = a.toNat % 16 := by show a.toNat * 65536 / 65536 % 16 = _; omega
 simp [gr, kH, List.range_succ, h1, h2]
theorem stp_H2 (last : Bool) {x y : UInt8} {i j : Nat} (h1 : nh x = some i) (h2 : nh y = some j) :
  stp kH last [x, y] = some (unp (i * 1048576 + j * 65536) 1) := by
 have : (i * 1048576 + j * 65536) % 65536 = 0 := by omega
 simp [stp, tl, lp, kH, h1, h2, this]
theorem unp1 (b : Nat) : unp b 1 = [UInt8.ofNat (b / 65536)] := by simp [unp, List.range_succ]
theorem ofNat_eq {n : Nat} {a : UInt8} (h : n % 256 = a.toNat) : UInt8.ofNat n = a := UInt8.toNat.inj (by simpa using h)
theorem dec_short (k : Kd) (hk : 1 <= k.wd) (l : List UInt8) (hl : l ≠ []) (h : l.length < k.wd) : dec k l = none := by
 rw [dec_step k hk l hl]
 have : tl k (l.take k.wd) = none := by
  unfold tl
  rw [if_pos (by rw [List.length_take]; omega)]
 simp [stp, this]
def up (x : UInt8) : UInt8 := if 97 <= x.toNat /\ x.toNat <= 102 then UInt8.ofNat (x.toNat - 32) else x
end Go.Proofs.YtjhnblgamodekaaGreatDoor.Cd
