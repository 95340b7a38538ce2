/-
  Base64 and digits, plainly: what the document says of layer 5. Conditions: none.
-/
import Derived.KernelRfl
namespace Go.Proofs.YtgapoofalnakmaaDoor.Cd

/-- the sign of a number in base64, and in digits. -/
def sx (n : Nat) : UInt8 := ([65, 66, 67, 68, 69, 70, 71, 72, 73, 74, 75, 76, 77, 78, 79, 80, 81, 82, 83, 84, 85, 86, 87, 88, 89, 90, 97, 98, 99, 100, 101, 102, 103, 104, 105, 106, 107, 108, 109, 110, 111, 112, 113, 114, 115, 116, 117, 118, 119, 120, 121, 122, 48, 49, 50, 51, 52, 53, 54, 55, 56, 57, 43, 47] : List UInt8).getD n 0
def dx (n : Nat) : UInt8 := ([48, 49, 50, 51, 52, 53, 54, 55, 56, 57, 97, 98, 99, 100, 101, 102] : List UInt8).getD n 0
/-- what a sign tells. -/
def nx (x : UInt8) : Option Nat :=
  if 65 ≤ x.toNat ∧ x.toNat ≤ 90 then some (x.toNat - 65) else if 97 ≤ x.toNat ∧ x.toNat ≤ 122 then some (x.toNat - 71)
  else if 48 ≤ x.toNat ∧ x.toNat ≤ 57 then some (x.toNat + 4) else if x.toNat = 43 then some 62 else if x.toNat = 47 then some 63 else none
def nh (x : UInt8) : Option Nat :=
  if 48 ≤ x.toNat ∧ x.toNat ≤ 57 then some (x.toNat - 48) else if 97 ≤ x.toNat ∧ x.toNat ≤ 102 then some (x.toNat - 87)
  else if 65 ≤ x.toNat ∧ x.toNat ≤ 70 then some (x.toNat - 55) else none

/-- the bits of one to three bytes. -/
def pk : List UInt8 → Nat
  | [a] => a.toNat * 65536
  | [a, b] => a.toNat * 65536 + b.toNat * 256
  | [a, b, c] => a.toNat * 65536 + b.toNat * 256 + c.toNat
  | _ => 0
/-- a code: its signs, what they tell, how many bytes, signs, bits. -/
structure Kd where
  nm : UInt8 → Option Nat
  sg : Nat → UInt8
  bs : Nat
  wd : Nat
  bt : Nat
def kB : Kd := ⟨nx, sx, 3, 4, 6⟩
def kH : Kd := ⟨nh, dx, 1, 2, 4⟩
/-- the signs of a group of bytes. -/
def gr (k : Kd) (g : List UInt8) : List UInt8 := (List.range k.wd).map fun i => if 8 * g.length ≤ i * k.bt then 61 else k.sg (pk g / 2 ^ (24 - k.bt * (i + 1)) % 2 ^ k.bt)
/-- the bits of signs, and how many there are ahead of the fill. -/
def lp (k : Kd) : List UInt8 → Nat → Nat → Nat → Option (Nat × Nat)
  | [], _, b, c => some (b, c)
  | x :: r, i, b, c => match k.nm x with
    | some n => if c = i then lp k r (i + 1) (b + n * 2 ^ (24 - k.bt * (i + 1))) (c + 1) else none
    | none => if x = 61 ∧ 2 ≤ i then lp k r (i + 1) b c else none
def tl (k : Kd) (g : List UInt8) : Option (Nat × Nat) :=
  if g.length < k.wd then none else (lp k g 0 0 0).bind fun r => if r.1 % 2 ^ (24 - 8 * (r.2 * k.bt / 8)) = 0 then some r else none
def unp (b n : Nat) : List UInt8 := (List.range n).map fun i => UInt8.ofNat (b / 2 ^ (24 - 8 * (i + 1)))
/-- the bytes of a group of signs; is it the last one? -/
def stp (k : Kd) (last : Bool) (g : List UInt8) : Option (List UInt8) := (tl k g).bind fun r => if r.2 < k.wd ∧ last = false then none else some (unp r.1 (r.2 * k.bt / 8))
/-- pieces of a length. -/
def chs (n : Nat) : Nat → List UInt8 → List (List UInt8)
  | 0, _ => []
  | f + 1, l => if l = [] then [] else l.take n :: chs n f (l.drop n)
def dcs (k : Kd) : List (List UInt8) → Option (List UInt8)
  | [] => some []
  | g :: r => (stp k r.isEmpty g).bind fun t => (dcs k r).map (t ++ ·)
def enc (k : Kd) (l : List UInt8) : List UInt8 := (chs k.bs l.length l).flatMap (gr k)
def dec (k : Kd) (l : List UInt8) : Option (List UInt8) := dcs k (chs k.wd l.length l)
end Go.Proofs.YtgapoofalnakmaaDoor.Cd
