/- Several texts in one: Pure, PureLaws, TvPure, DPure, CErrFacts. Each says what it proves, and its conditions. -/
import Derived.Lib.Join
import Derived.Lib.IndexMore
import Derived.Test.YtmenllnokgjdlaaGreatDoorProg
import Derived.WalkKit
import Derived.Stop.Asserts
import Derived.RowKitTokens
/-
 Lengths as plain numbers and lists of bytes: least bytes, what bytes tell. Plain mathematics; no program. Conditions: none.
-/
namespace Sz
def wd (n : Nat) : Nat := if n = 0 then 0 else if n < 256 then 1 else if n < 65536 then 2 else if n < 16777216 then 3 else 4
def be : Nat -> Nat -> List UInt8
 | 0, _ => []
 | k + 1, n => UInt8.ofNat (n / 256 ^ k) :: be k n
def least (n : Nat) : List UInt8 := if n < 128 then [UInt8.ofNat n] else UInt8.ofNat (128 + wd n) :: be (wd n) n
def numFrom (m : Nat) (l : List UInt8) : Nat := l.foldl (fun a b => 256 * a + b.toNat) m
theorem numFrom_snoc (m : Nat) (l : List UInt8) (x : UInt8) : numFrom m (l ++ [x]) = 256 * numFrom m l + x.toNat := by simp [numFrom]
theorem numFrom_lt (m : Nat) (l : List UInt8) : numFrom m l < (m + 1) * 256 ^ l.length := by
 induction l generalizing m with
 | nil => simp [numFrom]
 | cons x l ih =>
  have h := ih (256 * m + x.toNat)
  have hx : x.toNat < 256 := x.toNat_lt
  have e : numFrom m (x :: l) = numFrom (256 * m + x.toNat) l := rfl
  rw [e, List.length_cons, Nat.pow_succ]
  have h2 : (256 * m + x.toNat + 1) * 256 ^ l.length <= ((m + 1) * 256) * 256 ^ l.length := Nat.mul_le_mul_right _ (by omega)
  have h3 : (m + 1) * 256 * 256 ^ l.length = (m + 1) * (256 ^ l.length * 256) := by rw [Nat.mul_assoc, Nat.mul_comm 256]
  omega
theorem numFrom_step (m : Nat) (l : List UInt8) (c : Nat) (hl : l.length < c) (hm : (m + 1) * 256 ^ c <= 4294967296) : 256 * numFrom m l + 255 < 4294967296 := by
 have h := numFrom_lt m l
 have h2 : (m + 1) * 256 ^ (l.length + 1) <= (m + 1) * 256 ^ c := Nat.mul_le_mul_left _ (Nat.pow_le_pow_right (by omega) hl)
 rw [Nat.pow_succ] at h2
 have h3 : (m + 1) * (256 ^ l.length * 256) = (m + 1) * 256 ^ l.length * 256 := by rw [Nat.mul_assoc]
 omega
def dec (l : List UInt8) (a : Int) : Int × Int × Int :=
 if a < 0 \/ (l.length : Int) <= a then (0, 0, 10)
 else if (l.getD a.toNat 0).toNat < 128 then ((l.getD a.toNat 0).toNat, a + 1, 0)
 else if (l.getD a.toNat 0).toNat = 128 \/ 132 < (l.getD a.toNat 0).toNat then (0, 0, 11)
 else if l.length - (a.toNat + 1) < (l.getD a.toNat 0).toNat - 128 then (0, 0, 10)
 else if 16777215 < numFrom 0 ((l.drop (a.toNat + 1)).take ((l.getD a.toNat 0).toNat - 128)) then (0, 0, 12)
 else (numFrom 0 ((l.drop (a.toNat + 1)).take ((l.getD a.toNat 0).toNat - 128)), a + 1 + ((l.getD a.toNat 0).toNat - 128 : Nat), 0)
end Sz
/-
 Laws on least bytes and on what bytes tell: plain mathematics; no program. Conditions: none.
-/
namespace Sz
theorem wd_le (n : Nat) : wd n <= 4 := by
 unfold wd; repeat (split <;> try omega)
theorem lt_pow_wd (n : Nat) (h : n < 4294967296) : n < 256 ^ wd n := by
 unfold wd
 split
 ·omega
 ·split
  ·omega
  ·split
   ·omega
   ·split <;> omega
theorem wd_min (n c : Nat) (hc : c <= 4) (h : n < 256 ^ c) : wd n <= c := by
 have hc' : c = 0 \/ c = 1 \/ c = 2 \/ c = 3 \/ c = 4 := by omega
 unfold wd
 rcases hc' with rfl | rfl | rfl | rfl | rfl <;> simp at h <;> repeat (split <;> try omega)
theorem be_length (k n : Nat) : (be k n).length = k := by
 induction k with
 | zero => rfl
 | succ k ih => simp [be, ih]
theorem numFrom_be (k n m : Nat) : numFrom m (be k n) = m * 256 ^ k + n % 256 ^ k := by
 induction k generalizing m with
 | zero => simp [be, numFrom, Nat.mod_one]
 | succ k ih =>
  have e : numFrom m (be (k + 1) n) = numFrom (256 * m + (UInt8.ofNat (n / 256 ^ k)).toNat) (be k n) := rfl
  have hx : (UInt8.ofNat (n / 256 ^ k)).toNat = n / 256 ^ k % 256 := by simp
  rw [e, ih, hx, Nat.mod_pow_succ, Nat.pow_succ, Nat.add_mul]
  have a1 : 256 * m * 256 ^ k = m * (256 ^ k * 256) := by rw [Nat.mul_comm 256 m, Nat.mul_assoc, Nat.mul_comm 256]
  have a2 : n / 256 ^ k % 256 * 256 ^ k = 256 ^ k * (n / 256 ^ k % 256) := Nat.mul_comm _ _
  omega
theorem numFrom_inj : ∀ (a b : List UInt8) (m m' : Nat), a.length = b.length -> numFrom m a = numFrom m' b -> m = m' /\ a = b
 | [], [], _, _, _, h => ⟨h, rfl⟩
 | x :: a, y :: b, m, m', hl, h => by
  have h' : numFrom (256 * m + x.toNat) a = numFrom (256 * m' + y.toNat) b := h
  obtain ⟨e1, e2⟩ := numFrom_inj a b _ _ (by simpa using hl) h'
  have hx := x.toNat_lt
  have hy := y.toNat_lt
  have e3 : x = y := UInt8.toNat.inj (by omega)
  exact ⟨by omega, by rw [e2, e3]⟩
 | [], _ :: _, _, _, hl, _ => by simp at hl
 | _ :: _, [], _, _, hl, _ => by simp at hl
theorem least_length (n : Nat) : (least n).length = if n < 128 then 1 else 1 + wd n := by
 unfold least
 split
 ·rfl
 ·simp [be_length]; omega
theorem dec_shape (l : List UInt8) (a n p E : Int) (h : dec l a = (n, p, E)) : (E ≠ 0 -> n = 0 /\ p = 0) /\ (E = 0 -> ∃ k n' p' : Nat, a = k /\ n = n' /\ p = p' /\ k < p' /\ p' <= l.length /\ n' <= 16777215 /\
  (least n').length <= p' - k /\ (((least n').length = p' - k) ↔ (l.drop k).take (p' - k) = least n')) := by
 unfold dec at h
 by_cases h0 : a < 0 \/ (l.length : Int) <= a
 ·rw [if_pos h0] at h
  cases h
  exact ⟨fun _ => ⟨rfl, rfl⟩, fun e => by cases e⟩
 ·rw [if_neg h0] at h
  obtain ⟨k, rfl⟩ := Int.eq_ofNat_of_zero_le (show 0 <= a by omega)
  have hk : k < l.length := by omega
  have hx : l.getD (k : Int).toNat 0 = l[k] := by simp [List.getD_eq_getElem?_getD, hk]
  rw [hx, Int.toNat_natCast] at h
  have hd : l.drop k = l[k] :: l.drop (k + 1) := List.drop_eq_getElem_cons hk
  have hlt := l[k].toNat_lt
  by_cases h1 : l[k].toNat < 128
  ·rw [if_pos h1] at h
   cases h
   have el : least l[k].toNat = [l[k]] := by unfold least; rw [if_pos h1]; simp
   refine ⟨fun e => absurd rfl e, fun _ => ⟨k, l[k].toNat, k + 1, rfl, rfl, rfl, by omega, by omega, by omega, ?_, ?_⟩⟩
   ·rw [el]; simp
   ·rw [el, hd, show k + 1 - k = 1 by omega]; exact ⟨fun _ => rfl, fun _ => rfl⟩
  ·rw [if_neg h1] at h
   by_cases h2 : l[k].toNat = 128 \/ 132 < l[k].toNat
   ·rw [if_pos h2] at h
    cases h
    exact ⟨fun _ => ⟨rfl, rfl⟩, fun e => by cases e⟩
   ·rw [if_neg h2] at h
    by_cases h3 : l.length - (k + 1) < l[k].toNat - 128
    ·rw [if_pos h3] at h
     cases h
     exact ⟨fun _ => ⟨rfl, rfl⟩, fun e => by cases e⟩
    ·rw [if_neg h3] at h
     obtain ⟨c, hc⟩ : ∃ c, c = l[k].toNat - 128 := ⟨l[k].toNat - 128, Eq.refl _⟩
     rw [<- hc] at h h3
     obtain ⟨bs, hbs⟩ : ∃ bs, bs = (l.drop (k + 1)).take c := ⟨_, rfl⟩
     rw [<- hbs] at h
     have hbl : bs.length = c := by rw [hbs]; simp; omega
     by_cases h4 : 16777215 < numFrom 0 bs
     ·rw [if_pos h4] at h
      cases h
      exact ⟨fun _ => ⟨rfl, rfl⟩, fun e => by cases e⟩
     ·rw [if_neg h4] at h
      cases h
      have hN := numFrom_lt 0 bs
      rw [hbl] at hN
      have hxe : l[k] = UInt8.ofNat (128 + c) := UInt8.toNat.inj (by simp; omega)
      have htk : (l.drop k).take (k + 1 + c - k) = UInt8.ofNat (128 + c) :: bs := by
       rw [hd, show k + 1 + c - k = c + 1 by omega, List.take_succ_cons, <- hbs, hxe]
      refine ⟨fun e => absurd rfl e, fun _ => ⟨k, numFrom 0 bs, k + 1 + c, rfl, rfl, by simp, by omega, by omega, by omega, ?_, ?_⟩⟩
      ·rw [least_length]
       have := wd_min (numFrom 0 bs) c (by omega) (by omega)
       split <;> omega
      ·rw [htk]
       constructor
       ·intro hl
        rw [least_length] at hl
        unfold least
        by_cases h5 : numFrom 0 bs < 128
        ·rw [if_pos h5] at hl; omega
        ·rw [if_neg h5] at hl ⊢
         have hw : wd (numFrom 0 bs) = c := by omega
         rw [hw]
         have hb := numFrom_inj bs (be c (numFrom 0 bs)) 0 0 (by rw [be_length, hbl]) (by rw [numFrom_be, Nat.zero_mul, Nat.zero_add, Nat.mod_eq_of_lt (by omega)])
         rw [<- hb.2]
       ·intro he
        rw [<- he]
        simp [hbl]
        omega
end Sz
/-
 Trees of tags as plain data (so many levels at most), their bytes, and what is read of bytes: plain mathematics; no program. Conditions: none.
-/
namespace Tv
def Tr : Nat -> Type
 | 0 => Empty
 | n + 1 => Int × ByteArray × List (Tr n)
def mk {n : Nat} (t : Int) (d : ByteArray) (ks : List (Tr n)) : Tr (n + 1) := (t, d, ks)
def tag {n : Nat} (T : Tr (n + 1)) : Int := (show Int × ByteArray × List (Tr n) from T).1
def dat {n : Nat} (T : Tr (n + 1)) : ByteArray := (show Int × ByteArray × List (Tr n) from T).2.1
def kids {n : Nat} (T : Tr (n + 1)) : List (Tr n) := (show Int × ByteArray × List (Tr n) from T).2.2
@[simp] theorem tag_mk {n : Nat} (t : Int) (d : ByteArray) (ks : List (Tr n)) : tag (mk t d ks) = t := rfl
@[simp] theorem dat_mk {n : Nat} (t : Int) (d : ByteArray) (ks : List (Tr n)) : dat (mk t d ks) = d := rfl
@[simp] theorem kids_mk {n : Nat} (t : Int) (d : ByteArray) (ks : List (Tr n)) : kids (mk t d ks) = ks := rfl
def isIn (t : Int) : Bool := decide (t / 32 % 2 = 1)
def fitB (t : Int) (d : Nat) (k : Nat) : Bool := decide (0 <= t /\ t <= 255 /\ t % 32 ≠ 31 /\ (isIn t = true -> d = 0) /\ (isIn t = false -> k = 0))
def shape : (n : Nat) -> Nat -> Tr n -> Bool
 | 0, _, t => Empty.elim t
 | n + 1, k, T => decide (0 < k) && fitB (tag T) (dat T).size (kids T).length && (kids T).all (shape n (k - 1))
def count : (n : Nat) -> Tr n -> Nat
 | 0, t => Empty.elim t
 | n + 1, T => 1 + ((kids T).map (count n)).sum
def enc : (n : Nat) -> Tr n -> List UInt8
 | 0, t => Empty.elim t
 | n + 1, T => UInt8.ofNat (tag T).toNat :: (Sz.least ((dat T).data.toList ++ ((kids T).map (enc n)).flatten).length ++ ((dat T).data.toList ++ ((kids T).map (enc n)).flatten))
def body {n : Nat} (T : Tr (n + 1)) : List UInt8 := (dat T).data.toList ++ ((kids T).map (enc n)).flatten
theorem enc_succ {n : Nat} (T : Tr (n + 1)) : enc (n + 1) T = UInt8.ofNat (tag T).toNat :: (Sz.least (body T).length ++ body T) := rfl
def small : (n : Nat) -> Tr n -> Bool
 | 0, t => Empty.elim t
 | n + 1, T => decide ((dat T).size <= 9000) && (kids T).all (small n)
def allB {α : Type} (f : α -> α -> Bool) : List α -> List α -> Bool
 | [], [] => true
 | x :: xs, y :: ys => f x y && allB f xs ys
 | _, _ => false
def same : (n : Nat) -> Tr n -> Tr n -> Bool
 | 0, t, _ => Empty.elim t
 | n + 1, A, B => decide (tag A = tag B) && ((dat A).data.toList == (dat B).data.toList) && allB (same n) (kids A) (kids B)
def okL {α : Type} (f : Nat -> α -> Option Nat) : Nat -> List α -> Option Nat
 | c, [] => some c
 | c, x :: xs => (f c x).bind fun c' => okL f c' xs
def okT : (n : Nat) -> Nat -> Nat -> Tr n -> Option Nat
 | 0, _, _, t => Empty.elim t
 | n + 1, c, deep, T => if c < 200 /\ deep <= 12 /\ fitB (tag T) (dat T).size (kids T).length = true then okL (fun c' x => okT n c' (deep + 1) x) (c + 1) (kids T) else none
def right {n : Nat} (T : Tr n) : Bool := shape n 12 T && decide (count n T <= 200) && decide ((enc n T).length <= 4000)
def readL {α : Type} (rd : Nat -> Nat -> Except Int (α × Nat × Nat)) : Nat -> Nat -> Nat -> Nat -> Except Int (List α × Nat)
 | 0, _, _, c => .ok ([], c)
 | f + 1, p, stop, c =>
  if p < stop then
   match rd p c with
   | .error e => .error e
   | .ok (x, nx, c') =>
    match readL rd f nx stop c' with
    | .error e => .error e
    | .ok (xs, c'') => .ok (x :: xs, c'')
  else .ok ([], c)
def headT (l : List UInt8) (p stop : Nat) : Except Int (Nat × Nat × Nat) :=
 if p = stop then .error 10
 else if (l.getD p 0).toNat % 32 = 31 then .error 20
 else if (Sz.dec (l.take stop) ((p : Int) + 1)).2.2 ≠ 0 then .error (Sz.dec (l.take stop) ((p : Int) + 1)).2.2
 else if (stop : Int) - (Sz.dec (l.take stop) ((p : Int) + 1)).2.1 < (Sz.dec (l.take stop) ((p : Int) + 1)).1 then .error 10
 else .ok ((l.getD p 0).toNat, (Sz.dec (l.take stop) ((p : Int) + 1)).2.1.toNat, (Sz.dec (l.take stop) ((p : Int) + 1)).2.1.toNat + (Sz.dec (l.take stop) ((p : Int) + 1)).1.toNat)
def readT (l : List UInt8) : (k : Nat) -> Nat -> Nat -> Nat -> Except Int (Tr (k + 1) × Nat × Nat)
 | 0, _, _, _ => .error 21
 | k + 1, p, stop, c =>
  if c = 200 then .error 21
  else
   match headT l p stop with
   | .error e => .error e
   | .ok (t, a, b) =>
    if isIn t = true then
     match readL (fun q c' => readT l k q b c') (b - a) a b (c + 1) with
     | .error e => .error e
     | .ok (ks, c') => .ok (mk t ⟨#[]⟩ ks, b, c')
    else .ok (mk t ⟨((l.drop a).take (b - a)).toArray⟩ [], b, c + 1)
end Tv
/-
 Names, plainly: types, cutting, joining, what is right; what the document says of layer 7, and what follows. Conditions: none.
-/
namespace Go.Proofs.YtmenllnokgjdlaaGreatDoor.Dp
def ltr (x : UInt8) : Bool := (decide (65 <= x.toNat) && decide (x.toNat <= 90)) || (decide (97 <= x.toNat) && decide (x.toNat <= 122))
def dig (x : UInt8) : Bool := decide (48 <= x.toNat) && decide (x.toNat <= 57)
def fit (x : UInt8) : Bool := dig x || x == 45 || ltr x
def word : List UInt8 -> Bool
 | [] => false
 | x :: r => ltr x && r.all fit
def num : List UInt8 -> Bool
 | [] => false
 | [x] => dig x
 | x :: r => dig x && x != 48 && r.all dig
def sp (c : UInt8) : Bool -> List UInt8 -> List UInt8 -> List (List UInt8)
 | _, a, [] => [a]
 | true, a, x :: r => sp c false (a ++ [x]) r
 | false, a, x :: r => if x = c then a :: sp c false [] r else sp c (x == 92) (a ++ [x]) r
abbrev pcs (c : UInt8) (l : List UInt8) : List (List UInt8) := sp c false [] l
def nums (l : List UInt8) : Bool := decide (2 <= (pcs 46 l).length) && (pcs 46 l).all num
def tyL (l : List UInt8) : Bool := decide (l.length <= 20) && (word l || nums l)
def isTy (s : ByteArray) : Bool := tyL s.data.toList
theorem sp_ne (c : UInt8) : ∀ (l : List UInt8) (e : Bool) (a : List UInt8), sp c e a l ≠ []
 | [], e, a => by cases e <;> simp [sp]
 | x :: r, true, a => by rw [sp]; exact sp_ne c r false _
 | x :: r, false, a => by
  rw [sp]
  split
  ·simp
  ·exact sp_ne c r _ _
def jn (c : UInt8) (xs : List (List UInt8)) : List UInt8 := Go.Lib.join xs [c]
theorem jn_nil (c : UInt8) : jn c [] = [] := rfl
theorem jn_one (c : UInt8) (x : List UInt8) : jn c [x] = x := Go.Lib.join_one x [c]
theorem jn_cons (c : UInt8) (x y : List UInt8) (r : List (List UInt8)) : jn c (x :: y :: r) = x ++ c :: jn c (y :: r) := by
 unfold jn
 rw [Go.Lib.join_cons, Go.Lib.join_cons]
 simp [Go.Lib.joinTail]
theorem jn_len (c : UInt8) (n : Nat) : ∀ xs : List (List UInt8), (∀ x ∈ xs, x.length <= n) -> (jn c xs).length <= xs.length * (n + 1)
 | [], _ => by simp [jn_nil]
 | [x], h => by rw [jn_one]; have := h x (by simp); simp; omega
 | x :: y :: r, h => by
  rw [jn_cons]
  have h1 := jn_len c n (y :: r) (fun z hz => h z (by simp [hz]))
  have h2 := h x (by simp)
  simp only [List.length_append, List.length_cons] at h1 ⊢
  have e : (r.length + 1 + 1) * (n + 1) = (r.length + 1) * (n + 1) + (n + 1) := by rw [Nat.succ_mul]
  omega
def mp {α : Type} (f : List UInt8 -> Option α) : List (List UInt8) -> Option (List α)
 | [] => some []
 | x :: r => match f x, mp f r with
  | some a, some b => some (a :: b)
  | _, _ => none
theorem mp_map {α : Type} (f : List UInt8 -> Option α) (g : α -> List UInt8) : ∀ (l : List α), (∀ a ∈ l, f (g a) = some a) -> mp f (l.map g) = some l
 | [], _ => rfl
 | a :: l, h => by
  rw [List.map_cons, mp, h a (by simp), mp_map f g l (fun b hb => h b (by simp [hb]))]
def tyB (x : UInt8) : Bool := fit x || x == 46
theorem sp_bytes (c : UInt8) : ∀ (l : List UInt8) (e : Bool) (a : List UInt8), ∀ x ∈ l, x = c \/ ∃ q ∈ sp c e a l, x ∈ q
 | [], _, _, x, h => by cases h
 | y :: l, true, a, x, h => by
  rw [sp]
  rcases List.mem_cons.1 h with rfl | h
  ·right
   refine ⟨_, List.head_mem (sp_ne c l false (a ++ [x])), ?_⟩
   have : ∀ (l : List UInt8) (e : Bool) (a : List UInt8), ∀ z ∈ a, z ∈ (sp c e a l).head (sp_ne c l e a) := by
    intro l
    induction l with
    | nil => intro e a z hz; cases e <;> simpa [sp] using hz
    | cons w l ih =>
     intro e a z hz
     cases e with
     | true => simp only [sp]; exact ih false (a ++ [w]) z (by simp [hz])
     | false =>
      simp only [sp]
      split
      ·simpa using hz
      ·exact ih _ (a ++ [w]) z (by simp [hz])
   exact this l false (a ++ [x]) x (by simp)
  ·exact sp_bytes c l false _ x h
 | y :: l, false, a, x, h => by
  rw [sp]
  split
  ·rename_i hy
   rcases List.mem_cons.1 h with rfl | h
   ·exact .inl hy
   ·rcases sp_bytes c l false [] x h with h1 | ⟨q, h1, h2⟩
    ·exact .inl h1
    ·exact .inr ⟨q, by simp [h1], h2⟩
  ·rcases List.mem_cons.1 h with rfl | h
   ·right
    refine ⟨_, List.head_mem (sp_ne c l (x == 92) (a ++ [x])), ?_⟩
    have : ∀ (l : List UInt8) (e : Bool) (a : List UInt8), ∀ z ∈ a, z ∈ (sp c e a l).head (sp_ne c l e a) := by
     intro l
     induction l with
     | nil => intro e a z hz; cases e <;> simpa [sp] using hz
     | cons w l ih =>
      intro e a z hz
      cases e with
      | true => simp only [sp]; exact ih false (a ++ [w]) z (by simp [hz])
      | false =>
       simp only [sp]
       split
       ·simpa using hz
       ·exact ih _ (a ++ [w]) z (by simp [hz])
    exact this l (x == 92) (a ++ [x]) x (by simp)
   ·exact sp_bytes c l _ _ x h
theorem num_dig {l : List UInt8} (h : num l = true) : ∀ x ∈ l, dig x = true := by
 match l, h with
 | [x], h => intro y hy; simp at hy; subst hy; exact h
 | x :: y :: r, h =>
  rw [num] at h
  ·simp only [Bool.and_eq_true, List.all_eq_true] at h
   intro z hz
   rcases List.mem_cons.1 hz with rfl | hz
   ·exact h.1.1
   ·exact h.2 z hz
  ·simp
theorem ty_bytes {l : List UInt8} (h : tyL l = true) : ∀ x ∈ l, tyB x = true := by
 unfold tyL at h
 rw [Bool.and_eq_true, Bool.or_eq_true] at h
 intro x hx
 unfold tyB
 rcases h.2 with h | h
 ·cases l with
  | nil => cases hx
  | cons y r =>
   rw [word, Bool.and_eq_true, List.all_eq_true] at h
   rcases List.mem_cons.1 hx with rfl | hx
   ·simp [fit, h.1]
   ·simp [h.2 x hx]
 ·unfold nums at h
  rw [Bool.and_eq_true, List.all_eq_true] at h
  rcases sp_bytes 46 l false [] x hx with h1 | ⟨q, h1, h2⟩
  ·simp [h1]
  ·simp [fit, num_dig (h.2 q h1) x h2]
theorem ty_ne {l : List UInt8} (h : tyL l = true) : l ≠ [] := by
 rintro rfl
 revert h
 decide
end Go.Proofs.YtmenllnokgjdlaaGreatDoor.Dp
/-
 Closed facts on the model's entries for reflectlite at this program's types, and on the assertions that errors.As and errors.Is make there. Conditions: none.
-/
namespace Go.Proofs.YtmenllnokgjdlaaGreatDoor.C
open Go.RowKit Go.Extern.Stop Go.Stop Go.Extern
end Go.Proofs.YtmenllnokgjdlaaGreatDoor.C
