/- Values with escapes, plainly: what the document says of layer 6, and what follows. Conditions: none. -/
import Derived.Test.YtmenllnokgjdlaaGreatDoorCLaws
namespace Go.Proofs.YtmenllnokgjdlaaGreatDoor.Ec
open Cd
abbrev sF : List UInt8 := [92, 42, 40, 41]
abbrev sN : List UInt8 := [92, 34, 43, 44, 59, 60, 62]
abbrev sE : List UInt8 := [92, 34, 43, 44, 59, 60, 62, 32, 35, 61]
def res (nm : Bool) (n p : Nat) (x : UInt8) : Bool :=
 if nm then sN.contains x || (decide (p = 0) && ([32, 35] : List UInt8).contains x) || (decide (p + 1 = n) && ([32] : List UInt8).contains x) else sF.contains x
def pln (x : UInt8) : Bool := decide (32 <= x.toNat) && decide (x.toNat <= 126)
def hx (x : UInt8) : List UInt8 := [dx (x.toNat / 16), dx (x.toNat % 16)]
def pb (nm : Bool) (n p : Nat) (x : UInt8) : List UInt8 := if pln x && !res nm n p x then [x] else if pln x && nm then [92, x] else 92 :: hx x
def prt (nm : Bool) (n : Nat) : Nat -> List UInt8 -> List UInt8
 | _, [] => []
 | p, x :: r => pb nm n p x ++ prt nm n (p + 1) r
def esc1 (nm : Bool) : List UInt8 -> Option (List UInt8 × Nat)
 | [] => none
 | y :: r => if nm && sE.contains y then some ([y], 1) else match r with
  | [] => none
  | z :: _ => match nh y, nh z with
   | some a, some b => some ([UInt8.ofNat (16 * a + b)], 2)
   | _, _ => none
def stp (nm : Bool) (n p : Nat) (x : UInt8) (r : List UInt8) : Option (List UInt8 × Nat) :=
 if x = 92 then esc1 nm r else if (x == 0 || res nm n p x) = true then none else some ([x], 0)
def rdk (nm : Bool) (n : Nat) : Nat -> Nat -> List UInt8 -> Option (List UInt8)
 | _, _, [] => some []
 | k + 1, p, _ :: r => rdk nm n k (p + 1) r
 | 0, p, x :: r => match stp nm n p x r with
  | none => none
  | some (t, k) => (rdk nm n k (p + 1) r).map (t ++ ·)
theorem esc1_mark {nm : Bool} {y : UInt8} (r : List UInt8) (h : (nm && sE.contains y) = true) : esc1 nm (y :: r) = some ([y], 1) := by
 cases r <;> simp only [esc1, h, if_true]
theorem enc_hx (x : UInt8) : enc kH [x] = hx x := by
 rw [enc_H1, enc_nil, List.append_nil, gr_H1]; rfl
theorem rdk_cons (nm : Bool) (n p : Nat) (x : UInt8) (r : List UInt8) : rdk nm n 0 p (x :: r) = match stp nm n p x r with
  | none => none
  | some (t, k) => (rdk nm n k (p + 1) r).map (t ++ ·) := by rw [rdk]
theorem dx_ok (i : Nat) (h : i < 16) : nh (dx i) = some i /\ sE.contains (dx i) = false /\ pln (dx i) = true := by
 have : ∀ j : Fin 16, nh (dx j.val) = some j.val /\ sE.contains (dx j.val) = false /\ pln (dx j.val) = true := by decide +kernel
 exact this ⟨i, h⟩
theorem pb_len (nm : Bool) (n p : Nat) (x : UInt8) : 1 <= (pb nm n p x).length /\ (pb nm n p x).length <= 3 := by unfold pb; split; simp; split <;> simp [hx]
theorem prt_len (nm : Bool) (n : Nat) : ∀ (l : List UInt8) (p : Nat), l.length <= (prt nm n p l).length /\ (prt nm n p l).length <= 3 * l.length
 | [], _ => by simp [prt]
 | x :: l, p => by
  have h1 := prt_len nm n l (p + 1)
  have h2 := pb_len nm n p x
  rw [prt]
  simp
  omega
theorem u16 (x : UInt8) : x.toNat / 16 < 16 /\ x.toNat % 16 < 16 := by have := x.toNat_lt; omega
theorem pln92 : pln 92 = true := by decide
theorem pb_pln (nm : Bool) (n p : Nat) (x : UInt8) : ∀ y ∈ pb nm n p x, pln y = true := by
 intro y hy
 unfold pb at hy
 split at hy
 ·rename_i h
  simp at hy
  subst hy
  simp at h
  exact h.1
 ·split at hy
  ·rename_i h
   simp at h
   simp at hy
   rcases hy with rfl | rfl
   ·exact pln92
   ·exact h.1
  ·simp [hx] at hy
   rcases hy with rfl | rfl | rfl
   ·exact pln92
   ·exact (dx_ok _ (u16 x).1).2.2
   ·exact (dx_ok _ (u16 x).2).2.2
theorem prt_pln (nm : Bool) (n : Nat) : ∀ (l : List UInt8) (p : Nat), ∀ y ∈ prt nm n p l, pln y = true
 | [], _, y, h => by simp [prt] at h
 | x :: l, p, y, h => by
  rw [prt] at h
  rcases List.mem_append.1 h with h | h
  ·exact pb_pln nm n p x y h
  ·exact prt_pln nm n l (p + 1) y h
theorem res_sE {n p : Nat} {x : UInt8} (h : res true n p x = true) : sE.contains x = true := by
 unfold res at h
 rw [if_pos rfl] at h
 rw [Bool.or_eq_true, Bool.or_eq_true, Bool.and_eq_true, Bool.and_eq_true] at h
 rw [List.contains_iff_mem] at h ⊢
 rcases h with (h | ⟨_, h⟩) | ⟨_, h⟩
 ·simp at h ⊢
  rcases h with h | h | h | h | h | h | h <;> simp [h]
 ·simp at h ⊢
  rcases h with h | h <;> simp [h]
 ·simp at h ⊢
  simp [h]
theorem res92 (nm : Bool) (n p : Nat) : res nm n p 92 = true := by unfold res; cases nm <;> simp
theorem pln0 : pln 0 = false := by decide
theorem back (nm : Bool) (n N : Nat) : ∀ (l : List UInt8) (p q : Nat), n = p + l.length -> N = q + (prt nm n p l).length -> (q = 0 -> p = 0) -> rdk nm N 0 q (prt nm n p l) = some l
 | [], p, q, _, _, _ => by rw [prt, rdk]
 | x :: l, p, q, hn, hN, h0 => by
  have IH := fun q' h1 h2 => back nm n N l (p + 1) q' (by simp at hn; omega) h1 h2
  rw [prt] at hN ⊢
  rw [List.length_append] at hN
  unfold pb at hN ⊢
  by_cases hp : (pln x && !res nm n p x) = true
  ·rw [if_pos hp] at hN ⊢
   rw [Bool.and_eq_true, Bool.not_eq_true'] at hp
   obtain ⟨hp1, hp2⟩ := hp
   have h92 : x ≠ 92 := fun e => by subst e; rw [res92] at hp2; cases hp2
   have hz : x ≠ 0 := fun e => by subst e; rw [pln0] at hp1; cases hp1
   have hr : res nm N q x = false := by
    cases nm with
    | false => exact hp2
    | true =>
     unfold res at hp2 ⊢
     rw [if_pos rfl] at hp2 ⊢
     rw [Bool.or_eq_false_iff, Bool.or_eq_false_iff, Bool.and_eq_false_iff, Bool.and_eq_false_iff] at hp2 ⊢
     obtain ⟨⟨a1, a2⟩, a3⟩ := hp2
     refine ⟨⟨a1, ?_⟩, ?_⟩
     ·rcases a2 with a2 | a2
      ·left
       simp at a2 ⊢
       exact fun e => a2 (h0 e)
      ·exact .inr a2
     ·rcases a3 with a3 | a3
      ·left
       simp at a3 ⊢
       intro e
       apply a3
       have : (prt true n (p + 1) l).length = 0 := by simp at hN; omega
       have h2 := (prt_len true n l (p + 1)).1
       simp at hn
       omega
      ·exact .inr a3
   have hs : stp nm N q x (prt nm n (p + 1) l) = some ([x], 0) := by
    unfold stp
    rw [if_neg h92, if_neg (by simp [hz, hr])]
   rw [List.singleton_append, rdk_cons, hs]
   simp only
   rw [IH (q + 1) (by simp at hN; omega) (by omega)]
   rfl
  ·rw [if_neg hp] at hN ⊢
   by_cases hm : (pln x && nm) = true
   ·rw [if_pos hm] at hN ⊢
    rw [Bool.and_eq_true] at hm
    obtain ⟨h1, rfl⟩ := hm
    have hr : res true n p x = true := by simpa [h1] using hp
    have he := res_sE hr
    have hs : stp true N q 92 (x :: prt true n (p + 1) l) = some ([x], 1) := by
     unfold stp
     rw [if_pos rfl]
     exact esc1_mark _ (by simp only [he, Bool.and_self])
    show rdk true N 0 q (92 :: x :: prt true n (p + 1) l) = _
    rw [rdk_cons, hs]
    simp only
    rw [rdk, IH (q + 1 + 1) (by simp at hN; omega) (by omega)]
    rfl
   ·rw [if_neg hm] at hN ⊢
    obtain ⟨a1, a2, _⟩ := dx_ok _ (u16 x).1
    obtain ⟨b1, b2, _⟩ := dx_ok _ (u16 x).2
    have hs : stp nm N q 92 (dx (x.toNat / 16) :: dx (x.toNat % 16) :: prt nm n (p + 1) l) = some ([x], 2) := by
     unfold stp
     rw [if_pos rfl]
     rw [esc1, if_neg (by rw [a2]; simp)]
     simp only [a1, b1]
     congr 2
     have : UInt8.ofNat (16 * (x.toNat / 16) + x.toNat % 16) = x := ofNat_eq (by have := x.toNat_lt; omega)
     rw [this]
    show rdk nm N 0 q (92 :: dx (x.toNat / 16) :: dx (x.toNat % 16) :: prt nm n (p + 1) l) = _
    rw [rdk_cons, hs]
    simp only
    rw [rdk, rdk, IH (q + 1 + 1 + 1) (by simp [hx] at hN; omega) (by omega)]
    rfl
theorem back0 (nm : Bool) (l : List UInt8) : rdk nm (prt nm l.length 0 l).length 0 0 (prt nm l.length 0 l) = some l :=
 back nm _ _ l 0 0 (by omega) (by omega) (fun _ => rfl)
theorem apart (nm : Bool) {a b : List UInt8} : prt nm a.length 0 a = prt nm b.length 0 b ↔ a = b :=
 ⟨fun h => by
  have h1 := back0 nm a
  rw [h, back0 nm b] at h1
  exact (Option.some.inj h1).symm, fun h => by rw [h]⟩
end Go.Proofs.YtmenllnokgjdlaaGreatDoor.Ec
