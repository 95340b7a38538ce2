/-
  Lengths as plain numbers and lists of bytes: least bytes, what bytes tell. Plain mathematics; no program. Conditions: none.
-/
namespace Sz

/-- how many bytes a number above 0 takes. -/
def wd (n : Nat) : Nat := if n = 0 then 0 else if n < 256 then 1 else if n < 65536 then 2 else if n < 16777216 then 3 else 4
/-- the k lowest bytes of n, the greatest part first. -/
def be : Nat → Nat → List UInt8
  | 0, _ => []
  | k + 1, n => UInt8.ofNat (n / 256 ^ k) :: be k n
/-- a length's least bytes. -/
def least (n : Nat) : List UInt8 := if n < 128 then [UInt8.ofNat n] else UInt8.ofNat (128 + wd n) :: be (wd n) n
/-- the number that bytes are, behind a number. -/
def numFrom (m : Nat) (l : List UInt8) : Nat := l.foldl (fun a b => 256 * a + b.toNat) m
theorem numFrom_snoc (m : Nat) (l : List UInt8) (x : UInt8) : numFrom m (l ++ [x]) = 256 * numFrom m l + x.toNat := by simp [numFrom]
theorem numFrom_lt (m : Nat) (l : List UInt8) : numFrom m l < (m + 1) * 256 ^ l.length := by
  induction l generalizing m with
  | nil => simp [numFrom]
  | cons x l ih =>
    have h := ih (256 * m + x.toNat)
    have hx : x.toNat < 256 := x.toNat_lt
    have e : numFrom m (x :: l) = numFrom (256 * m + x.toNat) l := rfl
    rw [e, List.length_cons, Nat.pow_succ]
    have h2 : (256 * m + x.toNat + 1) * 256 ^ l.length ≤ ((m + 1) * 256) * 256 ^ l.length := Nat.mul_le_mul_right _ (by omega)
    have h3 : (m + 1) * 256 * 256 ^ l.length = (m + 1) * (256 ^ l.length * 256) := by rw [Nat.mul_assoc, Nat.mul_comm 256]
    omega
/-- with one byte more to come the number still has room. -/
theorem numFrom_step (m : Nat) (l : List UInt8) (c : Nat) (hl : l.length < c) (hm : (m + 1) * 256 ^ c ≤ 4294967296) : 256 * numFrom m l + 255 < 4294967296 := by
  have h := numFrom_lt m l
  have h2 : (m + 1) * 256 ^ (l.length + 1) ≤ (m + 1) * 256 ^ c := Nat.mul_le_mul_left _ (Nat.pow_le_pow_right (by omega) hl)
  rw [Nat.pow_succ] at h2
  have h3 : (m + 1) * (256 ^ l.length * 256) = (m + 1) * 256 ^ l.length * 256 := by rw [Nat.mul_assoc]
  omega
/-- what the bytes at a place tell: a length, the place behind, an error's number. -/
def dec (l : List UInt8) (a : Int) : Int × Int × Int :=
  if a < 0 ∨ (l.length : Int) ≤ a then (0, 0, 10)
  else if (l.getD a.toNat 0).toNat < 128 then ((l.getD a.toNat 0).toNat, a + 1, 0)
  else if (l.getD a.toNat 0).toNat = 128 ∨ 132 < (l.getD a.toNat 0).toNat then (0, 0, 11)
  else if l.length - (a.toNat + 1) < (l.getD a.toNat 0).toNat - 128 then (0, 0, 10)
  else if 16777215 < numFrom 0 ((l.drop (a.toNat + 1)).take ((l.getD a.toNat 0).toNat - 128)) then (0, 0, 12)
  else (numFrom 0 ((l.drop (a.toNat + 1)).take ((l.getD a.toNat 0).toNat - 128)), a + 1 + ((l.getD a.toNat 0).toNat - 128 : Nat), 0)
end Sz
