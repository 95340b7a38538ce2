/-
  Numbers and their bytes, plainly: what the document says of layer 3. Conditions: none.
-/
namespace Go.Proofs.YtjgphpjbcabdeaaDoor.Pr

/-- how many bytes a number has; 0: it is none. -/
def wd (n : Int) : Nat := if -128 ≤ n ∧ n ≤ 127 then 1 else if -32768 ≤ n ∧ n ≤ 32767 then 2 else if -8388608 ≤ n ∧ n ≤ 8388607 then 3 else if -2147483648 ≤ n ∧ n ≤ 2147483647 then 4 else 0
/-- a number's byte at a place, counted from the last one. -/
def bt (n : Int) (i : Nat) : UInt8 := UInt8.ofNat (n / 256 ^ i % 256).toNat
/-- so many last bytes. -/
def bts (n : Int) : Nat → List UInt8
  | 0 => []
  | k + 1 => bt n k :: bts n k
/-- a number's bytes. -/
def enc (n : Int) : List UInt8 := bts n (wd n)
/-- what stands ahead of all bytes. -/
def start : List UInt8 → Int
  | [] => 0
  | x :: _ => if 128 ≤ x.toNat then -1 else 0
def tell (a : Int) (l : List UInt8) : Int := l.foldl (fun a b => 256 * a + b.toNat) a
/-- the number that bytes tell. -/
def val (l : List UInt8) : Int := tell (start l) l
/-- what ReadInt answers. -/
def dec (l : List UInt8) : Int × Int := if 1 ≤ l.length ∧ l.length ≤ 4 ∧ wd (val l) = l.length then (val l, 0) else (0, 30)

theorem wd_le (n : Int) : wd n ≤ 4 := by unfold wd; repeat (split <;> try omega)
theorem wd_pos (n : Int) : wd n = 0 ↔ ¬ (-2147483648 ≤ n ∧ n ≤ 2147483647) := by unfold wd; repeat (split <;> try omega)
theorem bts_length (n : Int) (k : Nat) : (bts n k).length = k := by
  induction k with
  | zero => rfl
  | succ k ih => simp [bts, ih]
theorem enc_length (n : Int) : (enc n).length = wd n := bts_length _ _
theorem bt_toNat (n : Int) (i : Nat) : ((bt n i).toNat : Int) = n / 256 ^ i % 256 := by
  unfold bt
  have h1 : 0 ≤ n / 256 ^ i % 256 := Int.emod_nonneg _ (by decide)
  have h2 : n / 256 ^ i % 256 < 256 := Int.emod_lt_of_pos _ (by decide)
  simp only [UInt8.toNat_ofNat']
  omega
theorem bt0 (n : Int) : ((bt n 0).toNat : Int) = n % 256 := by rw [bt_toNat]; simp
theorem bt1 (n : Int) : ((bt n 1).toNat : Int) = n / 256 % 256 := by rw [bt_toNat]; rfl
theorem bt2 (n : Int) : ((bt n 2).toNat : Int) = n / 65536 % 256 := by rw [bt_toNat]; rfl
theorem bt3 (n : Int) : ((bt n 3).toNat : Int) = n / 16777216 % 256 := by rw [bt_toNat]; rfl

theorem wd_cases (n : Int) : (wd n = 1 ∧ -128 ≤ n ∧ n ≤ 127) ∨ (wd n = 2 ∧ -32768 ≤ n ∧ n ≤ 32767 ∧ ¬ (-128 ≤ n ∧ n ≤ 127)) ∨ (wd n = 3 ∧ -8388608 ≤ n ∧ n ≤ 8388607 ∧ ¬ (-32768 ≤ n ∧ n ≤ 32767)) ∨
    (wd n = 4 ∧ -2147483648 ≤ n ∧ n ≤ 2147483647 ∧ ¬ (-8388608 ≤ n ∧ n ≤ 8388607)) ∨ (wd n = 0 ∧ ¬ (-2147483648 ≤ n ∧ n ≤ 2147483647)) := by
  unfold wd
  repeat (split <;> try omega)

/-- lists of one to four bytes. -/
theorem list_cases {l : List UInt8} (h1 : 1 ≤ l.length) (h4 : l.length ≤ 4) : (∃ a, l = [a]) ∨ (∃ a b, l = [a, b]) ∨ (∃ a b c, l = [a, b, c]) ∨ (∃ a b c d, l = [a, b, c, d]) := by
  match l, h1, h4 with
  | [a], _, _ => exact .inl ⟨a, rfl⟩
  | [a, b], _, _ => exact .inr (.inl ⟨a, b, rfl⟩)
  | [a, b, c], _, _ => exact .inr (.inr (.inl ⟨a, b, c, rfl⟩))
  | [a, b, c, d], _, _ => exact .inr (.inr (.inr ⟨a, b, c, d, rfl⟩))

theorem val_bts (n : Int) (k : Nat) (h : (k = 1 ∧ -128 ≤ n ∧ n ≤ 127) ∨ (k = 2 ∧ -32768 ≤ n ∧ n ≤ 32767) ∨ (k = 3 ∧ -8388608 ≤ n ∧ n ≤ 8388607) ∨ (k = 4 ∧ -2147483648 ≤ n ∧ n ≤ 2147483647)) : val (bts n k) = n := by
  have h0 := bt0 n
  have h1 := bt1 n
  have h2 := bt2 n
  have h3 := bt3 n
  rcases h with ⟨rfl, h⟩ | ⟨rfl, h⟩ | ⟨rfl, h⟩ | ⟨rfl, h⟩ <;> simp only [bts, val, tell, start, List.foldl_cons, List.foldl_nil] <;> split <;> omega

theorem val_enc (n : Int) (h : wd n ≠ 0) : val (enc n) = n := by
  unfold enc
  apply val_bts
  have := wd_cases n
  omega

theorem dec_enc (n : Int) (h : wd n ≠ 0) : dec (enc n) = (n, 0) := by
  unfold dec
  rw [val_enc n h, enc_length, if_pos ⟨by omega, wd_le n, rfl⟩]

theorem u8_ext {a b : UInt8} (h : (a.toNat : Int) = b.toNat) : a = b := UInt8.toNat.inj (by omega)

theorem bts_val (l : List UInt8) (h1 : 1 ≤ l.length) (h4 : l.length ≤ 4) : bts (val l) l.length = l := by
  rcases list_cases h1 h4 with ⟨a, rfl⟩ | ⟨a, b, rfl⟩ | ⟨a, b, c, rfl⟩ | ⟨a, b, c, d, rfl⟩
  · have ha := a.toNat_lt
    have e0 := bt0 (val [a])
    simp only [List.length_cons, List.length_nil, bts]
    rw [u8_ext (a := bt (val [a]) 0) (b := a)]
    rw [e0]; simp only [val, tell, start, List.foldl_cons, List.foldl_nil]; split <;> omega
  · have ha := a.toNat_lt
    have hb := b.toNat_lt
    have e0 := bt0 (val [a, b])
    have e1 := bt1 (val [a, b])
    simp only [List.length_cons, List.length_nil, bts]
    rw [u8_ext (a := bt (val [a, b]) 0) (b := b), u8_ext (a := bt (val [a, b]) 1) (b := a)]
    · rw [e1]; simp only [val, tell, start, List.foldl_cons, List.foldl_nil]; split <;> omega
    · rw [e0]; simp only [val, tell, start, List.foldl_cons, List.foldl_nil]; split <;> omega
  · have ha := a.toNat_lt
    have hb := b.toNat_lt
    have hc := c.toNat_lt
    have e0 := bt0 (val [a, b, c])
    have e1 := bt1 (val [a, b, c])
    have e2 := bt2 (val [a, b, c])
    simp only [List.length_cons, List.length_nil, bts]
    rw [u8_ext (a := bt (val [a, b, c]) 0) (b := c), u8_ext (a := bt (val [a, b, c]) 1) (b := b), u8_ext (a := bt (val [a, b, c]) 2) (b := a)]
    · rw [e2]; simp only [val, tell, start, List.foldl_cons, List.foldl_nil]; split <;> omega
    · rw [e1]; simp only [val, tell, start, List.foldl_cons, List.foldl_nil]; split <;> omega
    · rw [e0]; simp only [val, tell, start, List.foldl_cons, List.foldl_nil]; split <;> omega
  · have ha := a.toNat_lt
    have hb := b.toNat_lt
    have hc := c.toNat_lt
    have hd := d.toNat_lt
    have e0 := bt0 (val [a, b, c, d])
    have e1 := bt1 (val [a, b, c, d])
    have e2 := bt2 (val [a, b, c, d])
    have e3 := bt3 (val [a, b, c, d])
    simp only [List.length_cons, List.length_nil, bts]
    rw [u8_ext (a := bt (val [a, b, c, d]) 0) (b := d), u8_ext (a := bt (val [a, b, c, d]) 1) (b := c), u8_ext (a := bt (val [a, b, c, d]) 2) (b := b), u8_ext (a := bt (val [a, b, c, d]) 3) (b := a)]
    · rw [e3]; simp only [val, tell, start, List.foldl_cons, List.foldl_nil]; split <;> omega
    · rw [e2]; simp only [val, tell, start, List.foldl_cons, List.foldl_nil]; split <;> omega
    · rw [e1]; simp only [val, tell, start, List.foldl_cons, List.foldl_nil]; split <;> omega
    · rw [e0]; simp only [val, tell, start, List.foldl_cons, List.foldl_nil]; split <;> omega

theorem val_range (l : List UInt8) (h1 : 1 ≤ l.length) (h4 : l.length ≤ 4) : (l.length = 1 ∧ -128 ≤ val l ∧ val l ≤ 127) ∨ (l.length = 2 ∧ -32768 ≤ val l ∧ val l ≤ 32767) ∨ (l.length = 3 ∧ -8388608 ≤ val l ∧ val l ≤ 8388607) ∨ (l.length = 4 ∧ -2147483648 ≤ val l ∧ val l ≤ 2147483647) := by
  rcases list_cases h1 h4 with ⟨a, rfl⟩ | ⟨a, b, rfl⟩ | ⟨a, b, c, rfl⟩ | ⟨a, b, c, d, rfl⟩
  · have ha := a.toNat_lt
    refine .inl ⟨rfl, ?_⟩
    simp only [val, tell, start, List.foldl_cons, List.foldl_nil]; split <;> omega
  · have ha := a.toNat_lt
    have hb := b.toNat_lt
    refine .inr (.inl ⟨rfl, ?_⟩)
    simp only [val, tell, start, List.foldl_cons, List.foldl_nil]; split <;> omega
  · have ha := a.toNat_lt
    have hb := b.toNat_lt
    have hc := c.toNat_lt
    refine .inr (.inr (.inl ⟨rfl, ?_⟩))
    simp only [val, tell, start, List.foldl_cons, List.foldl_nil]; split <;> omega
  · have ha := a.toNat_lt
    have hb := b.toNat_lt
    have hc := c.toNat_lt
    have hd := d.toNat_lt
    refine .inr (.inr (.inr ⟨rfl, ?_⟩))
    simp only [val, tell, start, List.foldl_cons, List.foldl_nil]; split <;> omega

/-- what so many bytes tell has no more bytes. -/
theorem wd_val (l : List UInt8) (h1 : 1 ≤ l.length) (h4 : l.length ≤ 4) : wd (val l) ≤ l.length ∧ wd (val l) ≠ 0 := by
  have h := val_range l h1 h4
  have h' := wd_cases (val l)
  omega

theorem dec_ok (l : List UInt8) (k : Int) (h : dec l = (k, 0)) : enc k = l ∧ wd k ≠ 0 ∧ 1 ≤ l.length ∧ l.length ≤ 4 := by
  unfold dec at h
  split at h
  · rename_i hc
    obtain ⟨h1, h4, hw⟩ := hc
    obtain rfl : val l = k := (Prod.mk.inj h).1
    refine ⟨?_, by omega, h1, h4⟩
    unfold enc
    rw [hw, bts_val l h1 h4]
  · cases h
theorem dec_shape (l : List UInt8) : dec l = (val l, 0) ∨ dec l = (0, 30) := by
  unfold dec
  split
  · exact .inl rfl
  · exact .inr rfl

/-- one byte ahead that says nothing. -/
theorem dec_longer (n : Int) (h : wd n ≠ 0) : dec ((if n < 0 then 255 else 0) :: enc n) = (0, 30) := by
  unfold dec
  rw [if_neg]
  rintro ⟨_, h4, hw⟩
  simp only [List.length_cons] at h4 hw
  rw [enc_length] at h4 hw
  have e : val ((if n < 0 then 255 else 0) :: enc n) = n := by
    have h0 := bt0 n
    have h1 := bt1 n
    have h2 := bt2 n
    unfold enc
    rcases wd_cases n with ⟨e, hr⟩ | ⟨e, hr⟩ | ⟨e, hr⟩ | ⟨e, hr⟩ | ⟨e, hr⟩
    · rw [e]; simp only [bts, val, tell, start, List.foldl_cons, List.foldl_nil]; by_cases hn : n < 0 <;> simp [hn] <;> omega
    · rw [e]; simp only [bts, val, tell, start, List.foldl_cons, List.foldl_nil]; by_cases hn : n < 0 <;> simp [hn] <;> omega
    · rw [e]; simp only [bts, val, tell, start, List.foldl_cons, List.foldl_nil]; by_cases hn : n < 0 <;> simp [hn] <;> omega
    · omega
    · omega
  rw [e] at hw
  omega
end Go.Proofs.YtjgphpjbcabdeaaDoor.Pr
namespace Go.Proofs.YtjgphpjbcabdeaaDoor.Pr
theorem tell_snoc (a : Int) (l : List UInt8) (x : UInt8) : tell a (l ++ [x]) = 256 * tell a l + x.toNat := by simp [tell]
theorem val_nil : val [] = 0 := rfl
theorem val_one (x : UInt8) : val [x] = 256 * (if 128 ≤ x.toNat then -1 else 0) + x.toNat := rfl
theorem val_snoc (l : List UInt8) (x : UInt8) (h : l ≠ []) : val (l ++ [x]) = 256 * val l + x.toNat := by
  cases l with
  | nil => exact absurd rfl h
  | cons y l => rw [val, tell_snoc]; rfl
/-- what ReadInt answers, by cases. -/
theorem dec_five (l : List UInt8) (h : 5 ≤ l.length) : dec l = (0, 30) := by
  unfold dec; rw [if_neg]; omega
theorem dec_none : dec [] = (0, 30) := by unfold dec; rw [if_neg]; simp
theorem dec_few (l : List UInt8) (h : wd (val l) < l.length) : dec l = (0, 30) := by
  unfold dec; rw [if_neg]; omega
theorem dec_fine (l : List UInt8) (h1 : 1 ≤ l.length) (h4 : l.length ≤ 4) (h : wd (val l) = l.length) : dec l = (val l, 0) := by
  unfold dec; rw [if_pos ⟨h1, h4, h⟩]
end Go.Proofs.YtjgphpjbcabdeaaDoor.Pr
