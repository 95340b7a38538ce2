/-
  Laws of base64 and digits: they are read from what is printed of them, and printed as they were read. Conditions: none.
-/
import Derived.Test.YtmjfkdpaeenfgaaGreatDoorG03
namespace Go.Proofs.YtmjfkdpaeenfgaaGreatDoor.Cd

theorem nx_sx (n : Nat) (h : n < 64) : nx (sx n) = some n := by
  have : ∀ i : Fin 64, nx (sx i.val) = some i.val := by decide +kernel
  exact this ⟨n, h⟩
theorem nh_dx (n : Nat) (h : n < 16) : nh (dx n) = some n := by
  have : ∀ i : Fin 16, nh (dx i.val) = some i.val := by decide +kernel
  exact this ⟨n, h⟩
theorem u8_all {p : UInt8 → Prop} (h : ∀ i : Fin 256, p (UInt8.ofNat i.val)) (x : UInt8) : p x := by
  have := h ⟨x.toNat, x.toNat_lt⟩
  rwa [UInt8.ofNat_toNat] at this
theorem nx_some {x : UInt8} {n : Nat} (h : nx x = some n) : n < 64 ∧ sx n = x := by
  have : ∀ x : UInt8, ((nx x).map fun n => decide (n < 64 ∧ sx n = x)) ≠ some false := u8_all (by decide +kernel)
  have := this x
  rw [h] at this
  simpa using this
theorem nh_some {x : UInt8} {n : Nat} (h : nh x = some n) : n < 16 := by
  have : ∀ x : UInt8, ((nh x).map fun n => decide (n < 16)) ≠ some false := u8_all (by decide +kernel)
  have := this x
  rw [h] at this
  simpa using this
theorem nx_ok (x : UInt8) (n : Nat) (h : nx x = some n) : n < 64 ∧ x.toNat < 128 ∧ x ≠ 61 := by
  have : ∀ x : UInt8, ((nx x).map fun n => decide (n < 64 ∧ x.toNat < 128 ∧ x ≠ 61)) ≠ some false := u8_all (by decide +kernel)
  have := this x
  rw [h] at this
  simpa using this
theorem nh_ok (x : UInt8) (n : Nat) (h : nh x = some n) : n < 16 ∧ x.toNat < 128 ∧ x ≠ 61 := by
  have : ∀ x : UInt8, ((nh x).map fun n => decide (n < 16 ∧ x.toNat < 128 ∧ x ≠ 61)) ≠ some false := u8_all (by decide +kernel)
  have := this x
  rw [h] at this
  simpa using this

theorem chs_nil (n f : Nat) : chs n f [] = [] := by cases f <;> simp [chs]
theorem chs_more (n : Nat) (hn : 1 ≤ n) : ∀ (f g : Nat) (l : List UInt8), l.length ≤ f → l.length ≤ g → chs n f l = chs n g l
  | 0, g, l, h, _ => by
    have : l = [] := List.length_eq_zero_iff.1 (by omega)
    subst this
    rw [chs_nil, chs_nil]
  | f + 1, 0, l, _, h => by
    have : l = [] := List.length_eq_zero_iff.1 (by omega)
    subst this
    rw [chs_nil, chs_nil]
  | f + 1, g + 1, l, h1, h2 => by
    rw [chs, chs]
    split
    · rfl
    · rename_i hl
      have : 1 ≤ l.length := List.length_pos_iff.2 hl
      rw [chs_more n hn f g (l.drop n) (by rw [List.length_drop]; omega) (by rw [List.length_drop]; omega)]
theorem chs_step (n : Nat) (hn : 1 ≤ n) (l : List UInt8) (hl : l ≠ []) : chs n l.length l = l.take n :: chs n (l.drop n).length (l.drop n) := by
  obtain ⟨f, hf⟩ : ∃ f, l.length = f + 1 := ⟨l.length - 1, by have := List.length_pos_iff.2 hl; omega⟩
  rw [hf, chs, if_neg hl]
  congr 1
  exact chs_more n hn _ _ _ (by rw [List.length_drop]; omega) (Nat.le_refl _)
theorem chs_empty (n : Nat) (hn : 1 ≤ n) (l : List UInt8) : (chs n l.length l).isEmpty = l.isEmpty := by
  cases l with
  | nil => rfl
  | cons x l => rw [chs_step n hn (x :: l) (by simp)]; rfl

theorem enc_nil (k : Kd) : enc k [] = [] := rfl
theorem enc_step (k : Kd) (hk : 1 ≤ k.bs) (l : List UInt8) (hl : l ≠ []) : enc k l = gr k (l.take k.bs) ++ enc k (l.drop k.bs) := by
  unfold enc
  rw [chs_step k.bs hk l hl, List.flatMap_cons]
theorem dec_nil (k : Kd) : dec k [] = some [] := rfl
theorem dec_step (k : Kd) (hk : 1 ≤ k.wd) (l : List UInt8) (hl : l ≠ []) : dec k l = (stp k (l.drop k.wd).isEmpty (l.take k.wd)).bind fun t => (dec k (l.drop k.wd)).map (t ++ ·) := by
  unfold dec
  rw [chs_step k.wd hk l hl, dcs, chs_empty k.wd hk]

theorem enc_B3 (a b c : UInt8) (r : List UInt8) : enc kB (a :: b :: c :: r) = gr kB [a, b, c] ++ enc kB r := enc_step kB (by decide) _ (by simp)
theorem enc_B2 (a b : UInt8) : enc kB [a, b] = gr kB [a, b] := by rw [enc_step kB (by decide) _ (by simp)]; simp [kB, enc_nil]
theorem enc_B1 (a : UInt8) : enc kB [a] = gr kB [a] := by rw [enc_step kB (by decide) _ (by simp)]; simp [kB, enc_nil]
theorem enc_H1 (a : UInt8) (r : List UInt8) : enc kH (a :: r) = gr kH [a] ++ enc kH r := enc_step kH (by decide) _ (by simp)
theorem dec_B4 (x y z u : UInt8) (r : List UInt8) : dec kB (x :: y :: z :: u :: r) = (stp kB r.isEmpty [x, y, z, u]).bind fun t => (dec kB r).map (t ++ ·) := dec_step kB (by decide) _ (by simp)
theorem dec_H2 (x y : UInt8) (r : List UInt8) : dec kH (x :: y :: r) = (stp kH r.isEmpty [x, y]).bind fun t => (dec kH r).map (t ++ ·) := dec_step kH (by decide) _ (by simp)

theorem gr_B3 (a b c : UInt8) : gr kB [a, b, c] = [sx (pk [a, b, c] / 262144 % 64), sx (pk [a, b, c] / 4096 % 64), sx (pk [a, b, c] / 64 % 64), sx (pk [a, b, c] % 64)] := by
  simp [gr, kB, List.range_succ]
theorem gr_B2 (a b : UInt8) : gr kB [a, b] = [sx (pk [a, b] / 262144 % 64), sx (pk [a, b] / 4096 % 64), sx (pk [a, b] / 64 % 64), 61] := by
  simp [gr, kB, List.range_succ]
theorem gr_B1 (a : UInt8) : gr kB [a] = [sx (pk [a] / 262144 % 64), sx (pk [a] / 4096 % 64), 61, 61] := by
  simp [gr, kB, List.range_succ]
theorem gr_H1 (a : UInt8) : gr kH [a] = [dx (a.toNat / 16), dx (a.toNat % 16)] := by
  have h1 : pk [a] / 1048576 % 16 = a.toNat / 16 := by show a.toNat * 65536 / 1048576 % 16 = _; have := a.toNat_lt; omega
  have h2 : pk [a] / 65536 % 16 = a.toNat % 16 := by show a.toNat * 65536 / 65536 % 16 = _; omega
  simp [gr, kH, List.range_succ, h1, h2]

theorem nx61 : nx 61 = none := by decide
theorem stp_B4 (last : Bool) {x y z u : UInt8} {i j k m : Nat} (h1 : nx x = some i) (h2 : nx y = some j) (h3 : nx z = some k) (h4 : nx u = some m) :
    stp kB last [x, y, z, u] = some (unp (i * 262144 + j * 4096 + k * 64 + m) 3) := by
  simp [stp, tl, lp, kB, h1, h2, h3, h4, Nat.mod_one]
theorem stp_B3 (last : Bool) {x y z : UInt8} {i j k : Nat} (h1 : nx x = some i) (h2 : nx y = some j) (h3 : nx z = some k) :
    stp kB last [x, y, z, 61] = if (i * 262144 + j * 4096 + k * 64) % 256 = 0 ∧ last = true then some (unp (i * 262144 + j * 4096 + k * 64) 2) else none := by
  simp [stp, tl, lp, kB, h1, h2, h3, nx61]
  by_cases h : (i * 262144 + j * 4096 + k * 64) % 256 = 0 <;> cases last <;> simp [h]
theorem stp_B2 (last : Bool) {x y : UInt8} {i j : Nat} (h1 : nx x = some i) (h2 : nx y = some j) :
    stp kB last [x, y, 61, 61] = if (i * 262144 + j * 4096) % 65536 = 0 ∧ last = true then some (unp (i * 262144 + j * 4096) 1) else none := by
  simp [stp, tl, lp, kB, h1, h2, nx61]
  by_cases h : (i * 262144 + j * 4096) % 65536 = 0 <;> cases last <;> simp [h]
theorem stp_H2 (last : Bool) {x y : UInt8} {i j : Nat} (h1 : nh x = some i) (h2 : nh y = some j) :
    stp kH last [x, y] = some (unp (i * 1048576 + j * 65536) 1) := by
  have : (i * 1048576 + j * 65536) % 65536 = 0 := by omega
  simp [stp, tl, lp, kH, h1, h2, this]
theorem unp1 (b : Nat) : unp b 1 = [UInt8.ofNat (b / 65536)] := by simp [unp, List.range_succ]
theorem unp2 (b : Nat) : unp b 2 = [UInt8.ofNat (b / 65536), UInt8.ofNat (b / 256)] := by simp [unp, List.range_succ]
theorem unp3 (b : Nat) : unp b 3 = [UInt8.ofNat (b / 65536), UInt8.ofNat (b / 256), UInt8.ofNat b] := by simp [unp, List.range_succ]
theorem ofNat_eq {n : Nat} {a : UInt8} (h : n % 256 = a.toNat) : UInt8.ofNat n = a := UInt8.toNat.inj (by simpa using h)

/-- what is told has been told. -/
theorem back_B : ∀ l : List UInt8, dec kB (enc kB l) = some l
  | [] => rfl
  | [a] => by
    have ha := a.toNat_lt
    have e : pk [a] = a.toNat * 65536 := rfl
    rw [enc_B1, gr_B1, dec_B4, stp_B2 _ (nx_sx _ (by omega)) (nx_sx _ (by omega)), if_pos ⟨by rw [e]; omega, rfl⟩, unp1, dec_nil]
    simp only [Option.bind_some, Option.map_some, List.append_nil]
    rw [ofNat_eq (a := a) (by rw [e]; omega)]
  | [a, b] => by
    have ha := a.toNat_lt
    have hb := b.toNat_lt
    have e : pk [a, b] = a.toNat * 65536 + b.toNat * 256 := rfl
    rw [enc_B2, gr_B2, dec_B4, stp_B3 _ (nx_sx _ (by omega)) (nx_sx _ (by omega)) (nx_sx _ (by omega)), if_pos ⟨by rw [e]; omega, rfl⟩, unp2, dec_nil]
    simp only [Option.bind_some, Option.map_some, List.append_nil]
    rw [ofNat_eq (a := a) (by rw [e]; omega), ofNat_eq (a := b) (by rw [e]; omega)]
  | a :: b :: c :: r => by
    have ha := a.toNat_lt
    have hb := b.toNat_lt
    have hc := c.toNat_lt
    have e : pk [a, b, c] = a.toNat * 65536 + b.toNat * 256 + c.toNat := rfl
    rw [enc_B3, gr_B3, List.cons_append, List.cons_append, List.cons_append, List.cons_append, List.nil_append, dec_B4, stp_B4 _ (nx_sx _ (by omega)) (nx_sx _ (by omega)) (nx_sx _ (by omega)) (nx_sx _ (by omega)), unp3, back_B r]
    simp only [Option.bind_some, Option.map_some, List.cons_append, List.nil_append]
    rw [ofNat_eq (a := a) (by rw [e]; omega), ofNat_eq (a := b) (by rw [e]; omega), ofNat_eq (a := c) (by rw [e]; omega)]
theorem back_H : ∀ l : List UInt8, dec kH (enc kH l) = some l
  | [] => rfl
  | a :: r => by
    have ha := a.toNat_lt
    rw [enc_H1, gr_H1, List.cons_append, List.cons_append, List.nil_append, dec_H2, stp_H2 _ (nh_dx _ (by omega)) (nh_dx _ (by omega)), unp1, back_H r]
    simp only [Option.bind_some, Option.map_some, List.cons_append, List.nil_append]
    rw [ofNat_eq (a := a) (by omega)]

theorem stp_inv {last : Bool} {x y z u : UInt8} {t : List UInt8} (h : stp kB last [x, y, z, u] = some t) :
    (∃ a b c, t = [a, b, c] ∧ gr kB [a, b, c] = [x, y, z, u]) ∨ (last = true ∧ ((∃ a b, t = [a, b] ∧ gr kB [a, b] = [x, y, z, u]) ∨ ∃ a, t = [a] ∧ gr kB [a] = [x, y, z, u])) := by
  cases h1 : nx x with
  | none => simp [stp, tl, lp, kB, h1] at h
  | some i =>
  cases h2 : nx y with
  | none => simp [stp, tl, lp, kB, h1, h2] at h
  | some j =>
  obtain ⟨i1, e1⟩ := nx_some h1
  obtain ⟨j1, e2⟩ := nx_some h2
  cases h3 : nx z with
  | none =>
    have hz : z = 61 := by
      by_cases hz : z = 61
      · exact hz
      · simp [stp, tl, lp, kB, h1, h2, h3, hz] at h
    subst hz
    cases h4 : nx u with
    | some m => simp [stp, tl, lp, kB, h1, h2, h3, h4] at h
    | none =>
      have hu : u = 61 := by
        by_cases hu : u = 61
        · exact hu
        · simp [stp, tl, lp, kB, h1, h2, h3, h4, hu] at h
      subst hu
      rw [stp_B2 last h1 h2] at h
      split at h
      · rename_i hc
        refine .inr ⟨hc.2, .inr ?_⟩
        rw [unp1] at h
        refine ⟨_, (Option.some.inj h).symm, ?_⟩
        rw [gr_B1]
        have e : pk [UInt8.ofNat ((i * 262144 + j * 4096) / 65536)] = i * 262144 + j * 4096 := by
          show (UInt8.ofNat _).toNat * 65536 = _
          simp only [UInt8.toNat_ofNat']
          omega
        rw [e, show (i * 262144 + j * 4096) / 262144 % 64 = i by omega, show (i * 262144 + j * 4096) / 4096 % 64 = j by omega, e1, e2]
      · cases h
  | some k =>
    obtain ⟨k1, e3⟩ := nx_some h3
    cases h4 : nx u with
    | none =>
      have hu : u = 61 := by
        by_cases hu : u = 61
        · exact hu
        · simp [stp, tl, lp, kB, h1, h2, h3, h4, hu] at h
      subst hu
      rw [stp_B3 last h1 h2 h3] at h
      split at h
      · rename_i hc
        refine .inr ⟨hc.2, .inl ?_⟩
        rw [unp2] at h
        refine ⟨_, _, (Option.some.inj h).symm, ?_⟩
        rw [gr_B2]
        have e : pk [UInt8.ofNat ((i * 262144 + j * 4096 + k * 64) / 65536), UInt8.ofNat ((i * 262144 + j * 4096 + k * 64) / 256)] = i * 262144 + j * 4096 + k * 64 := by
          show (UInt8.ofNat _).toNat * 65536 + (UInt8.ofNat _).toNat * 256 = _
          simp only [UInt8.toNat_ofNat']
          omega
        rw [e, show (i * 262144 + j * 4096 + k * 64) / 262144 % 64 = i by omega, show (i * 262144 + j * 4096 + k * 64) / 4096 % 64 = j by omega, show (i * 262144 + j * 4096 + k * 64) / 64 % 64 = k by omega, e1, e2, e3]
      · cases h
    | some m =>
      obtain ⟨m1, e4⟩ := nx_some h4
      rw [stp_B4 last h1 h2 h3 h4, unp3] at h
      refine .inl ⟨_, _, _, (Option.some.inj h).symm, ?_⟩
      rw [gr_B3]
      have e : pk [UInt8.ofNat ((i * 262144 + j * 4096 + k * 64 + m) / 65536), UInt8.ofNat ((i * 262144 + j * 4096 + k * 64 + m) / 256), UInt8.ofNat (i * 262144 + j * 4096 + k * 64 + m)] = i * 262144 + j * 4096 + k * 64 + m := by
        show (UInt8.ofNat _).toNat * 65536 + (UInt8.ofNat _).toNat * 256 + (UInt8.ofNat _).toNat = _
        simp only [UInt8.toNat_ofNat']
        omega
      rw [e, show (i * 262144 + j * 4096 + k * 64 + m) / 262144 % 64 = i by omega, show (i * 262144 + j * 4096 + k * 64 + m) / 4096 % 64 = j by omega, show (i * 262144 + j * 4096 + k * 64 + m) / 64 % 64 = k by omega, show (i * 262144 + j * 4096 + k * 64 + m) % 64 = m by omega, e1, e2, e3, e4]
theorem dec_short (k : Kd) (hk : 1 ≤ k.wd) (l : List UInt8) (hl : l ≠ []) (h : l.length < k.wd) : dec k l = none := by
  rw [dec_step k hk l hl]
  have : tl k (l.take k.wd) = none := by
    unfold tl
    rw [if_pos (by rw [List.length_take]; omega)]
  simp [stp, this]
/-- what is told has just that base64. -/
theorem told_B : ∀ (l t : List UInt8), dec kB l = some t → enc kB t = l
  | [], t, h => by rw [dec_nil] at h; cases h; rfl
  | [x], t, h => by rw [dec_short kB (by decide) _ (by simp) (by simp [kB])] at h; cases h
  | [x, y], t, h => by rw [dec_short kB (by decide) _ (by simp) (by simp [kB])] at h; cases h
  | [x, y, z], t, h => by rw [dec_short kB (by decide) _ (by simp) (by simp [kB])] at h; cases h
  | x :: y :: z :: u :: r, t, h => by
    rw [dec_B4] at h
    cases h1 : stp kB r.isEmpty [x, y, z, u] with
    | none => rw [h1] at h; cases h
    | some t1 =>
      rw [h1, Option.bind_some] at h
      cases h2 : dec kB r with
      | none => rw [h2] at h; cases h
      | some t2 =>
        rw [h2, Option.map_some] at h
        obtain rfl := Option.some.inj h
        have ih := told_B r t2 h2
        rcases stp_inv h1 with ⟨a, b, c, rfl, hg⟩ | ⟨hl, ⟨a, b, rfl, hg⟩ | ⟨a, rfl, hg⟩⟩
        · rw [List.cons_append, List.cons_append, List.cons_append, List.nil_append, enc_B3, hg, ih]
          rfl
        · have : r = [] := by simpa using hl
          subst this
          rw [dec_nil] at h2
          cases h2
          rw [List.append_nil, enc_B2, hg]
        · have : r = [] := by simpa using hl
          subst this
          rw [dec_nil] at h2
          cases h2
          rw [List.append_nil, enc_B1, hg]
theorem told_H : ∀ (l t : List UInt8), dec kH l = some t → 2 * t.length = l.length
  | [], t, h => by rw [dec_nil] at h; cases h; rfl
  | [x], t, h => by rw [dec_short kH (by decide) _ (by simp) (by simp [kH])] at h; cases h
  | x :: y :: r, t, h => by
    rw [dec_H2] at h
    cases h1 : nh x with
    | none => simp [stp, tl, lp, kH, h1] at h
    | some i =>
    cases h2 : nh y with
    | none => simp [stp, tl, lp, kH, h1, h2] at h
    | some j =>
      rw [stp_H2 _ h1 h2, Option.bind_some] at h
      cases h3 : dec kH r with
      | none => rw [h3] at h; cases h
      | some t2 =>
        rw [h3, Option.map_some, unp1] at h
        obtain rfl := Option.some.inj h
        have := told_H r t2 h3
        simp
        omega
theorem gr_len (k : Kd) (g : List UInt8) : (gr k g).length = k.wd := by simp [gr]
theorem size_B : ∀ l : List UInt8, (enc kB l).length = 4 * ((l.length + 2) / 3)
  | [] => rfl
  | [a] => by rw [enc_B1, gr_len]; show 4 = _; simp
  | [a, b] => by rw [enc_B2, gr_len]; show 4 = _; simp
  | a :: b :: c :: r => by
    rw [enc_B3, List.length_append, gr_len, size_B r]
    show 4 + _ = _
    simp
    omega
theorem size_H : ∀ l : List UInt8, (enc kH l).length = 2 * l.length
  | [] => rfl
  | a :: r => by
    rw [enc_H1, List.length_append, gr_len, size_H r]
    show 2 + _ = _
    simp
    omega
theorem join_B : ∀ (s t : List UInt8), s.length % 3 = 0 → enc kB (s ++ t) = enc kB s ++ enc kB t
  | [], t, _ => rfl
  | [a], t, h => by simp at h
  | [a, b], t, h => by simp at h
  | a :: b :: c :: r, t, h => by
    rw [List.cons_append, List.cons_append, List.cons_append, enc_B3, enc_B3, join_B r t (by simp at h; omega), List.append_assoc]
theorem join_H : ∀ (s t : List UInt8), enc kH (s ++ t) = enc kH s ++ enc kH t
  | [], t => rfl
  | a :: r, t => by rw [List.cons_append, enc_H1, enc_H1, join_H r t, List.append_assoc]
theorem apart_B {s t : List UInt8} : enc kB s = enc kB t ↔ s = t :=
  ⟨fun h => by have := back_B s; rw [h, back_B] at this; exact (Option.some.inj this).symm, fun h => by rw [h]⟩
theorem apart_H {s t : List UInt8} : enc kH s = enc kH t ↔ s = t :=
  ⟨fun h => by have := back_H s; rw [h, back_H] at this; exact (Option.some.inj this).symm, fun h => by rw [h]⟩
/-- great letters. -/
def up (x : UInt8) : UInt8 := if 97 ≤ x.toNat ∧ x.toNat ≤ 102 then UInt8.ofNat (x.toNat - 32) else x
theorem nh_up (n : Nat) (h : n < 16) : nh (up (dx n)) = some n := by
  have : ∀ i : Fin 16, nh (up (dx i.val)) = some i.val := by decide +kernel
  exact this ⟨n, h⟩
theorem cases_H : ∀ l : List UInt8, dec kH ((enc kH l).map up) = some l
  | [] => rfl
  | a :: r => by
    have ha := a.toNat_lt
    rw [enc_H1, gr_H1, List.cons_append, List.cons_append, List.nil_append, List.map_cons, List.map_cons, dec_H2, stp_H2 _ (nh_up _ (by omega)) (nh_up _ (by omega)), unp1, cases_H r]
    simp only [Option.bind_some, Option.map_some, List.cons_append, List.nil_append]
    rw [ofNat_eq (a := a) (by omega)]
end Go.Proofs.YtmjfkdpaeenfgaaGreatDoor.Cd
