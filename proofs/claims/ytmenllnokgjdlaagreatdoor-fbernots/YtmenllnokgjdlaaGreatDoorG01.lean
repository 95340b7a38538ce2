/- Several texts in one: DPure, CErrFacts. Each says what it proves, and its conditions. -/
import Derived.Lib.Join
import Derived.Lib.IndexMore
import Derived.Test.YtmenllnokgjdlaaGreatDoorProg
import Derived.WalkKit
import Derived.Stop.Asserts
import Derived.RowKitTokens
/-
 Names, plainly: types, cutting, joining, what is right; what the document says of layer 7, and what follows. Conditions: none.
-/
namespace Go.Proofs.YtmenllnokgjdlaaGreatDoor.Dp
def ltr (x : UInt8) : Bool := (decide (65 <= x.toNat) && decide (x.toNat <= 90)) || (decide (97 <= x.toNat) && decide (x.toNat <= 122))
def dig (x : UInt8) : Bool := decide (48 <= x.toNat) && decide (x.toNat <= 57)
def fit (x : UInt8) : Bool := dig x || x == 45 || ltr x
def word : List UInt8 -> Bool
 | [] => false
 | x :: r => ltr x && r.all fit
def num : List UInt8 -> Bool
 | [] => false
 | [x] => dig x
 | x :: r => dig x && x != 48 && r.all dig
def sp (c : UInt8) : Bool -> List UInt8 -> List UInt8 -> List (List UInt8)
 | _, a, [] => [a]
 | true, a, x :: r => sp c false (a ++ [x]) r
 | false, a, x :: r => if x = c then a :: sp c false [] r else sp c (x == 92) (a ++ [x]) r
abbrev pcs (c : UInt8) (l : List UInt8) : List (List UInt8) := sp c false [] l
def nums (l : List UInt8) : Bool := decide (2 <= (pcs 46 l).length) && (pcs 46 l).all num
def tyL (l : List UInt8) : Bool := decide (l.length <= 20) && (word l || nums l)
def isTy (s : ByteArray) : Bool := tyL s.data.toList
theorem sp_ne (c : UInt8) : ∀ (l : List UInt8) (e : Bool) (a : List UInt8), sp c e a l ≠ []
 | [], e, a => by cases e <;> simp [sp]
 | x :: r, true, a => by rw [sp]; exact sp_ne c r false _
 | x :: r, false, a => by
  rw [sp]
  split
  ·simp
  ·exact sp_ne c r _ _
def jn (c : UInt8) (xs : List (List UInt8)) : List UInt8 := Go.Lib.join xs [c]
theorem jn_nil (c : UInt8) : jn c [] = [] := rfl
theorem jn_one (c : UInt8) (x : List UInt8) : jn c [x] = x := Go.Lib.join_one x [c]
theorem jn_cons (c : UInt8) (x y : List UInt8) (r : List (List UInt8)) : jn c (x :: y :: r) = x ++ c :: jn c (y :: r) := by
 unfold jn
 rw [Go.Lib.join_cons, Go.Lib.join_cons]
 simp [Go.Lib.joinTail]
theorem jn_len (c : UInt8) (n : Nat) : ∀ xs : List (List UInt8), (∀ x ∈ xs, x.length <= n) -> (jn c xs).length <= xs.length * (n + 1)
 | [], _ => by simp [jn_nil]
 | [x], h => by rw [jn_one]; have := h x (by simp); simp; omega
 | x :: y :: r, h => by
  rw [jn_cons]
  have h1 := jn_len c n (y :: r) (fun z hz => h z (by simp [hz]))
  have h2 := h x (by simp)
  simp only [List.length_append, List.length_cons] at h1 ⊢
  have e : (r.length + 1 + 1) * (n + 1) = (r.length + 1) * (n + 1) + (n + 1) := by rw [Nat.succ_mul]
  omega
def mp {α : Type} (f : List UInt8 -> Option α) : List (List UInt8) -> Option (List α)
 | [] => some []
 | x :: r => match f x, mp f r with
  | some a, some b => some (a :: b)
  | _, _ => none
theorem mp_map {α : Type} (f : List UInt8 -> Option α) (g : α -> List UInt8) : ∀ (l : List α), (∀ a ∈ l, f (g a) = some a) -> mp f (l.map g) = some l
 | [], _ => rfl
 | a :: l, h => by
  rw [List.map_cons, mp, h a (by simp), mp_map f g l (fun b hb => h b (by simp [hb]))]
def tyB (x : UInt8) : Bool := fit x || x == 46
theorem sp_bytes (c : UInt8) : ∀ (l : List UInt8) (e : Bool) (a : List UInt8), ∀ x ∈ l, x = c \/ ∃ q ∈ sp c e a l, x ∈ q
 | [], _, _, x, h => by cases h
 | y :: l, true, a, x, h => by
  rw [sp]
  rcases List.mem_cons.1 h with rfl | h
  ·right
   refine ⟨_, List.head_mem (sp_ne c l false (a ++ [x])), ?_⟩
   have : ∀ (l : List UInt8) (e : Bool) (a : List UInt8), ∀ z ∈ a, z ∈ (sp c e a l).head (sp_ne c l e a) := by
    intro l
    induction l with
    | nil => intro e a z hz; cases e <;> simpa [sp] using hz
    | cons w l ih =>
     intro e a z hz
     cases e with
     | true => simp only [sp]; exact ih false (a ++ [w]) z (by simp [hz])
     | false =>
      simp only [sp]
      split
      ·simpa using hz
      ·exact ih _ (a ++ [w]) z (by simp [hz])
   exact this l false (a ++ [x]) x (by simp)
  ·exact sp_bytes c l false _ x h
 | y :: l, false, a, x, h => by
  rw [sp]
  split
  ·rename_i hy
   rcases List.mem_cons.1 h with rfl | h
   ·exact .inl hy
   ·rcases sp_bytes c l false [] x h with h1 | ⟨q, h1, h2⟩
    ·exact .inl h1
    ·exact .inr ⟨q, by simp [h1], h2⟩
  ·rcases List.mem_cons.1 h with rfl | h
   ·right
    refine ⟨_, List.head_mem (sp_ne c l (x == 92) (a ++ [x])), ?_⟩
    have : ∀ (l : List UInt8) (e : Bool) (a : List UInt8), ∀ z ∈ a, z ∈ (sp c e a l).head (sp_ne c l e a) := by
     intro l
     induction l with
     | nil => intro e a z hz; cases e <;> simpa [sp] using hz
     | cons w l ih =>
      intro e a z hz
      cases e with
      | true => simp only [sp]; exact ih false (a ++ [w]) z (by simp [hz])
      | false =>
       simp only [sp]
       split
       ·simpa using hz
       ·exact ih _ (a ++ [w]) z (by simp [hz])
    exact this l (x == 92) (a ++ [x]) x (by simp)
   ·exact sp_bytes c l _ _ x h
theorem num_dig {l : List UInt8} (h : num l = true) : ∀ x ∈ l, dig x = true := by
 match l, h with
 | [x], h => intro y hy; simp at hy; subst hy; exact h
 | x :: y :: r, h =>
  rw [num] at h
  ·simp only [Bool.and_eq_true, List.all_eq_true] at h
   intro z hz
   rcases List.mem_cons.1 hz with rfl | hz
   ·exact h.1.1
   ·exact h.2 z hz
  ·simp
theorem ty_bytes {l : List UInt8} (h : tyL l = true) : ∀ x ∈ l, tyB x = true := by
 unfold tyL at h
 rw [Bool.and_eq_true, Bool.or_eq_true] at h
 intro x hx
 unfold tyB
 rcases h.2 with h | h
 ·cases l with
  | nil => cases hx
  | cons y r =>
   rw [word, Bool.and_eq_true, List.all_eq_true] at h
   rcases List.mem_cons.1 hx with rfl | hx
   ·simp [fit, h.1]
   ·simp [h.2 x hx]
 ·unfold nums at h
  rw [Bool.and_eq_true, List.all_eq_true] at h
  rcases sp_bytes 46 l false [] x hx with h1 | ⟨q, h1, h2⟩
  ·simp [h1]
  ·simp [fit, num_dig (h.2 q h1) x h2]
theorem ty_ne {l : List UInt8} (h : tyL l = true) : l ≠ [] := by
 rintro rfl
 revert h
 decide
end Go.Proofs.YtmenllnokgjdlaaGreatDoor.Dp
/-
 Closed facts on the model's entries for reflectlite at this program's types, and on the assertions that errors.As and errors.Is make there. Conditions: none.
-/
namespace Go.Proofs.YtmenllnokgjdlaaGreatDoor.C
open Go.RowKit Go.Extern.Stop Go.Stop Go.Extern
end Go.Proofs.YtmenllnokgjdlaaGreatDoor.C
