/-
  Trees of tags as plain data (so many levels at most), their bytes, and what is read of bytes: plain mathematics; no program. Conditions: none.
-/
import Derived.Test.YthibodkemnkjeaaDoorPureLaws
namespace Tv

/-- a tree of at most so many levels: its tag, its data, the trees in it. -/
def Tr : Nat → Type
  | 0 => Empty
  | n + 1 => Int × ByteArray × List (Tr n)
def mk {n : Nat} (t : Int) (d : ByteArray) (ks : List (Tr n)) : Tr (n + 1) := (t, d, ks)
def tag {n : Nat} (T : Tr (n + 1)) : Int := (show Int × ByteArray × List (Tr n) from T).1
def dat {n : Nat} (T : Tr (n + 1)) : ByteArray := (show Int × ByteArray × List (Tr n) from T).2.1
def kids {n : Nat} (T : Tr (n + 1)) : List (Tr n) := (show Int × ByteArray × List (Tr n) from T).2.2
theorem mk_eta {n : Nat} (T : Tr (n + 1)) : mk (tag T) (dat T) (kids T) = T := rfl
@[simp] theorem tag_mk {n : Nat} (t : Int) (d : ByteArray) (ks : List (Tr n)) : tag (mk t d ks) = t := rfl
@[simp] theorem dat_mk {n : Nat} (t : Int) (d : ByteArray) (ks : List (Tr n)) : dat (mk t d ks) = d := rfl
@[simp] theorem kids_mk {n : Nat} (t : Int) (d : ByteArray) (ks : List (Tr n)) : kids (mk t d ks) = ks := rfl

/-- is it among the tag's bits? -/
def isIn (t : Int) : Bool := decide (t / 32 % 2 = 1)
/-- a tag, and just what it allows. -/
def fitB (t : Int) (d : Nat) (k : Nat) : Bool := decide (0 ≤ t ∧ t ≤ 255 ∧ t % 32 ≠ 31 ∧ (isIn t = true → d = 0) ∧ (isIn t = false → k = 0))

def shape : (n : Nat) → Nat → Tr n → Bool
  | 0, _, t => Empty.elim t
  | n + 1, k, T => decide (0 < k) && fitB (tag T) (dat T).size (kids T).length && (kids T).all (shape n (k - 1))
def count : (n : Nat) → Tr n → Nat
  | 0, t => Empty.elim t
  | n + 1, T => 1 + ((kids T).map (count n)).sum
def enc : (n : Nat) → Tr n → List UInt8
  | 0, t => Empty.elim t
  | n + 1, T => UInt8.ofNat (tag T).toNat :: (Sz.least ((dat T).data.toList ++ ((kids T).map (enc n)).flatten).length ++ ((dat T).data.toList ++ ((kids T).map (enc n)).flatten))
/-- the body's bytes. -/
def body {n : Nat} (T : Tr (n + 1)) : List UInt8 := (dat T).data.toList ++ ((kids T).map (enc n)).flatten
theorem enc_succ {n : Nat} (T : Tr (n + 1)) : enc (n + 1) T = UInt8.ofNat (tag T).toNat :: (Sz.least (body T).length ++ body T) := rfl
/-- no data is longer than this. -/
def small : (n : Nat) → Tr n → Bool
  | 0, t => Empty.elim t
  | n + 1, T => decide ((dat T).size ≤ 9000) && (kids T).all (small n)
def allB {α : Type} (f : α → α → Bool) : List α → List α → Bool
  | [], [] => true
  | x :: xs, y :: ys => f x y && allB f xs ys
  | _, _ => false
def same : (n : Nat) → Tr n → Tr n → Bool
  | 0, t, _ => Empty.elim t
  | n + 1, A, B => decide (tag A = tag B) && ((dat A).data.toList == (dat B).data.toList) && allB (same n) (kids A) (kids B)

/-- passed in their order, up to one that may not be; how many there were. -/
def okL {α : Type} (f : Nat → α → Option Nat) : Nat → List α → Option Nat
  | c, [] => some c
  | c, x :: xs => (f c x).bind fun c' => okL f c' xs
def okT : (n : Nat) → Nat → Nat → Tr n → Option Nat
  | 0, _, _, t => Empty.elim t
  | n + 1, c, deep, T => if c < 200 ∧ deep ≤ 12 ∧ fitB (tag T) (dat T).size (kids T).length = true then okL (fun c' x => okT n c' (deep + 1) x) (c + 1) (kids T) else none

/-- is it right? -/
def right {n : Nat} (T : Tr n) : Bool := shape n 12 T && decide (count n T ≤ 200) && decide ((enc n T).length ≤ 4000)

/-- trees one behind the other, up to a stop. -/
def readL {α : Type} (rd : Nat → Nat → Except Int (α × Nat × Nat)) : Nat → Nat → Nat → Nat → Except Int (List α × Nat)
  | 0, _, _, c => .ok ([], c)
  | f + 1, p, stop, c =>
    if p < stop then
      match rd p c with
      | .error e => .error e
      | .ok (x, nx, c') =>
        match readL rd f nx stop c' with
        | .error e => .error e
        | .ok (xs, c'') => .ok (x :: xs, c'')
    else .ok ([], c)
/-- what stands ahead of a body: its tag, where it begins, where it ends. -/
def headT (l : List UInt8) (p stop : Nat) : Except Int (Nat × Nat × Nat) :=
  if p = stop then .error 10
  else if (l.getD p 0).toNat % 32 = 31 then .error 20
  else if (Sz.dec (l.take stop) ((p : Int) + 1)).2.2 ≠ 0 then .error (Sz.dec (l.take stop) ((p : Int) + 1)).2.2
  else if (stop : Int) - (Sz.dec (l.take stop) ((p : Int) + 1)).2.1 < (Sz.dec (l.take stop) ((p : Int) + 1)).1 then .error 10
  else .ok ((l.getD p 0).toNat, (Sz.dec (l.take stop) ((p : Int) + 1)).2.1.toNat, (Sz.dec (l.take stop) ((p : Int) + 1)).2.1.toNat + (Sz.dec (l.take stop) ((p : Int) + 1)).1.toNat)
/-- the tree at a place; so many levels are left, and so many trees were met. -/
def readT (l : List UInt8) : (k : Nat) → Nat → Nat → Nat → Except Int (Tr (k + 1) × Nat × Nat)
  | 0, _, _, _ => .error 21
  | k + 1, p, stop, c =>
    if c = 200 then .error 21
    else
      match headT l p stop with
      | .error e => .error e
      | .ok (t, a, b) =>
        if isIn t = true then
          match readL (fun q c' => readT l k q b c') (b - a) a b (c + 1) with
          | .error e => .error e
          | .ok (ks, c') => .ok (mk t ⟨#[]⟩ ks, b, c')
        else .ok (mk t ⟨((l.drop a).take (b - a)).toArray⟩ [], b, c + 1)
end Tv
