/- Several texts in one: UErrFacts, UErrs, UPure, UWid, UAdd, UStands. Each says what it proves, and its conditions. -/
import Derived.Test.YtmenllnokgjdlaaGreatDoorProg
import Derived.WalkKit
import Derived.Stop.Asserts
import Derived.RowKitTokens
import Derived.Deep.AppendLies
import Derived.Deep.RegionWith
import Derived.BigQuiet
import Derived.RangeFuncRecord
set_option maxRecDepth 100000
/-
 Closed facts on the model's entries for reflectlite at this program's types, and on the assertions that errors.As and errors.Is make there. Conditions: none.
-/
namespace Go.Proofs.YtmenllnokgjdlaaGreatDoor.U
open Go.RowKit Go.Extern.Stop Go.Stop Go.Extern
end Go.Proofs.YtmenllnokgjdlaaGreatDoor.U
/-
 What errors.As and errors.Is answer where package utf asks them: at a fault that wraps a noSign or a sentinel, and at a bare noSign. Conditions: the three package-level variables hold what the program's text lays.
-/
namespace Go.Proofs.YtmenllnokgjdlaaGreatDoor.U
open Go.RowKit Go.Extern.Stop Go.Stop Go.Extern
end Go.Proofs.YtmenllnokgjdlaaGreatDoor.U
/-
 Signs and their bytes, plainly: what the document says of layer 4, and how the model's own decoding goes by it. Conditions: none.
-/
namespace Go.Proofs.YtmenllnokgjdlaaGreatDoor.Ut
abbrev sg (n : Nat) : Prop := n <= 1114111 /\ (n < 55296 \/ 57343 < n)
abbrev b (n : Nat) : UInt8 := UInt8.ofNat n
def enc (n : Nat) : List UInt8 :=
 if n < 128 then [b n] else if n < 2048 then [b (192 + n / 64), b (128 + n % 64)]
 else if n < 65536 then [b (224 + n / 4096), b (128 + n / 64 % 64), b (128 + n % 64)]
 else [b (240 + n / 262144), b (128 + n / 4096 % 64), b (128 + n / 64 % 64), b (128 + n % 64)]
abbrev g (l : List UInt8) (k : Nat) : Nat := (l.getD k 0).toNat
def dc (l : List UInt8) : Option Nat :=
 if l = [] then none
 else if g l 0 < 128 then some (g l 0)
 else if g l 0 / 32 = 6 /\ 1 < l.length /\ g l 1 / 64 = 2 /\ 128 <= g l 0 % 32 * 64 + g l 1 % 64 then some (g l 0 % 32 * 64 + g l 1 % 64)
 else if g l 0 / 16 = 14 /\ 2 < l.length /\ g l 1 / 64 = 2 /\ g l 2 / 64 = 2 /\ 2048 <= g l 0 % 16 * 4096 + g l 1 % 64 * 64 + g l 2 % 64 /\ sg (g l 0 % 16 * 4096 + g l 1 % 64 * 64 + g l 2 % 64) then some (g l 0 % 16 * 4096 + g l 1 % 64 * 64 + g l 2 % 64)
 else if g l 0 / 8 = 30 /\ 3 < l.length /\ g l 1 / 64 = 2 /\ g l 2 / 64 = 2 /\ g l 3 / 64 = 2 /\ 65536 <= g l 0 % 8 * 262144 + g l 1 % 64 * 4096 + g l 2 % 64 * 64 + g l 3 % 64 /\ sg (g l 0 % 8 * 262144 + g l 1 % 64 * 4096 + g l 2 % 64 * 64 + g l 3 % 64) then some (g l 0 % 8 * 262144 + g l 1 % 64 * 4096 + g l 2 % 64 * 64 + g l 3 % 64)
 else none
theorem bn (n : Nat) (h : n < 256) : (b n).toNat = n := by
 simp only [b, UInt8.toNat_ofNat']
 omega
theorem u8 {x y : UInt8} (h : x.toNat = y.toNat) : x = y := UInt8.toNat.inj h
theorem enc_cases (n : Nat) : (n < 128 /\ enc n = [b n]) \/ (128 <= n /\ n < 2048 /\ enc n = [b (192 + n / 64), b (128 + n % 64)]) \/ (2048 <= n /\ n < 65536 /\ enc n = [b (224 + n / 4096), b (128 + n / 64 % 64), b (128 + n % 64)]) \/
  (65536 <= n /\ enc n = [b (240 + n / 262144), b (128 + n / 4096 % 64), b (128 + n / 64 % 64), b (128 + n % 64)]) := by
 unfold enc
 by_cases h1 : n < 128
 ·exact .inl ⟨h1, if_pos h1⟩
 rw [if_neg h1]
 by_cases h2 : n < 2048
 ·exact .inr (.inl ⟨by omega, h2, if_pos h2⟩)
 rw [if_neg h2]
 by_cases h3 : n < 65536
 ·exact .inr (.inr (.inl ⟨by omega, h3, if_pos h3⟩))
 rw [if_neg h3]
 exact .inr (.inr (.inr ⟨by omega, rfl⟩))
theorem dc_enc (n : Nat) (h : sg n) (t : List UInt8) : dc (enc n ++ t) = some n := by
 obtain ⟨h, h'⟩ := h
 rcases enc_cases n with ⟨h1, e⟩ | ⟨h1, h2, e⟩ | ⟨h1, h2, e⟩ | ⟨h1, e⟩
 ·have e0 := bn n (by omega)
  simp only [e, dc, List.cons_append, List.nil_append, g, List.getD_cons_zero, List.getD_cons_succ, List.length_cons, e0]
  rw [if_neg (by simp), if_pos h1]
 ·have e0 := bn (192 + n / 64) (by omega)
  have e1 := bn (128 + n % 64) (by omega)
  simp only [e, dc, List.cons_append, List.nil_append, g, List.getD_cons_zero, List.getD_cons_succ, List.length_cons, e0, e1]
  rw [if_neg (by simp), if_neg (by omega), if_pos (by omega)]
  congr 1
  omega
 ·have e0 := bn (224 + n / 4096) (by omega)
  have e1 := bn (128 + n / 64 % 64) (by omega)
  have e2 := bn (128 + n % 64) (by omega)
  have ev : (224 + n / 4096) % 16 * 4096 + (128 + n / 64 % 64) % 64 * 64 + (128 + n % 64) % 64 = n := by omega
  simp only [e, dc, List.cons_append, List.nil_append, g, List.getD_cons_zero, List.getD_cons_succ, List.length_cons, e0, e1, e2, ev]
  rw [if_neg (by simp), if_neg (by omega), if_neg (by omega), if_pos (by omega)]
 ·have e0 := bn (240 + n / 262144) (by omega)
  have e1 := bn (128 + n / 4096 % 64) (by omega)
  have e2 := bn (128 + n / 64 % 64) (by omega)
  have e3 := bn (128 + n % 64) (by omega)
  have ev : (240 + n / 262144) % 8 * 262144 + (128 + n / 4096 % 64) % 64 * 4096 + (128 + n / 64 % 64) % 64 * 64 + (128 + n % 64) % 64 = n := by omega
  simp only [e, dc, List.cons_append, List.nil_append, g, List.getD_cons_zero, List.getD_cons_succ, List.length_cons, e0, e1, e2, e3, ev]
  rw [if_neg (by simp), if_neg (by omega), if_neg (by omega), if_neg (by omega), if_pos (by omega)]
theorem dc_some {l : List UInt8} {n : Nat} (h : dc l = some n) : sg n /\ ∃ t, l = enc n ++ t := by
 unfold dc at h
 split at h
 ·cases h
 rename_i h0
 split at h
 ·obtain rfl : g l 0 = n := Option.some.inj h
  rename_i h1
  match l, h0 with
  | a :: t, _ =>
   simp only [g, List.getD_cons_zero] at h1 ⊢
   refine ⟨by constructor <;> omega, t, ?_⟩
   simp only [enc, h1, if_true, List.cons_append, List.nil_append]
   congr 1
   exact u8 (bn _ (by omega)).symm
 split at h
 ·rename_i h1 h2
  obtain ⟨p1, p2, p3, p4⟩ := h2
  match l, h0 with
  | a :: c :: t, _ =>
   simp only [g, List.getD_cons_zero, List.getD_cons_succ] at *
   have ha := a.toNat_lt
   have hc := c.toNat_lt
   obtain rfl : a.toNat % 32 * 64 + c.toNat % 64 = n := Option.some.inj h
   refine ⟨by constructor <;> omega, t, ?_⟩
   rcases enc_cases (a.toNat % 32 * 64 + c.toNat % 64) with ⟨h1, e⟩ | ⟨h1, h2, e⟩ | ⟨h1, h2, e⟩ | ⟨h1, e⟩
   ·omega
   ·rw [e]
    simp only [List.cons_append, List.nil_append]
    congr 1
    ·refine u8 ?_; rw [bn _ (by omega)]; omega
    ·congr 1
     refine u8 ?_; rw [bn _ (by omega)]; omega
   ·omega
   ·omega
  | [_], _ => simp at p2
 split at h
 ·rename_i h1 h2 h3
  obtain ⟨p1, p2, p3, p4, p5, p6⟩ := h3
  clear h2
  rcases l with _ | ⟨a, _ | ⟨c, _ | ⟨d, t⟩⟩⟩
  ·exact absurd rfl h0
  ·exact absurd p2 (by simp)
  ·exact absurd p2 (by simp)
  clear h0 p2
  simp only [g, List.getD_cons_zero, List.getD_cons_succ] at h h1 p1 p3 p4 p5 p6
  have ha := a.toNat_lt
  have hc := c.toNat_lt
  have hd := d.toNat_lt
  generalize hv : a.toNat % 16 * 4096 + c.toNat % 64 * 64 + d.toNat % 64 = v at h p5 p6
  obtain rfl : v = n := Option.some.inj h
  refine ⟨p6, t, ?_⟩
  rcases enc_cases v with ⟨h1, e⟩ | ⟨h1, h2, e⟩ | ⟨h1, h2, e⟩ | ⟨h1, e⟩
  ·omega
  ·omega
  ·rw [e]
   simp only [List.cons_append, List.nil_append]
   rw [u8 (x := a) (y := b (224 + v / 4096)) (by rw [bn _ (by omega)]; omega), u8 (x := c) (y := b (128 + v / 64 % 64)) (by rw [bn _ (by omega)]; omega), u8 (x := d) (y := b (128 + v % 64)) (by rw [bn _ (by omega)]; omega)]
  ·omega
 split at h
 ·rename_i h1 h2 h3 h4
  obtain ⟨p1, p2, p3, p4, p5, p6, p7⟩ := h4
  clear h2 h3
  rcases l with _ | ⟨a, _ | ⟨c, _ | ⟨d, _ | ⟨f, t⟩⟩⟩⟩
  ·exact absurd rfl h0
  ·exact absurd p2 (by simp)
  ·exact absurd p2 (by simp)
  ·exact absurd p2 (by simp)
  clear h0 p2
  simp only [g, List.getD_cons_zero, List.getD_cons_succ] at h h1 p1 p3 p4 p5 p6 p7
  have ha := a.toNat_lt
  have hc := c.toNat_lt
  have hd := d.toNat_lt
  have hf := f.toNat_lt
  generalize hv : a.toNat % 8 * 262144 + c.toNat % 64 * 4096 + d.toNat % 64 * 64 + f.toNat % 64 = v at h p6 p7
  obtain rfl : v = n := Option.some.inj h
  refine ⟨p7, t, ?_⟩
  rcases enc_cases v with ⟨h1, e⟩ | ⟨h1, h2, e⟩ | ⟨h1, h2, e⟩ | ⟨h1, e⟩
  ·omega
  ·omega
  ·omega
  ·rw [e]
   simp only [List.cons_append, List.nil_append]
   rw [u8 (x := a) (y := b (240 + v / 262144)) (by rw [bn _ (by omega)]; omega), u8 (x := c) (y := b (128 + v / 4096 % 64)) (by rw [bn _ (by omega)]; omega), u8 (x := d) (y := b (128 + v / 64 % 64)) (by rw [bn _ (by omega)]; omega), u8 (x := f) (y := b (128 + v % 64)) (by rw [bn _ (by omega)]; omega)]
 ·cases h
theorem enc_length (n : Nat) : (enc n).length = if n < 128 then 1 else if n < 2048 then 2 else if n < 65536 then 3 else 4 := by
 unfold enc
 repeat (split <;> try rfl)
theorem enc_pos (n : Nat) : 1 <= (enc n).length := by rw [enc_length]; repeat (split <;> try omega)
def fl : List Nat -> List UInt8
 | [] => []
 | c :: cs => enc c ++ fl cs
theorem fl_append (a c : List Nat) : fl (a ++ c) = fl a ++ fl c := by
 induction a with
 | nil => rfl
 | cons x a ih => simp [fl, ih, List.append_assoc]
structure Is (l : List UInt8) (cs : List Nat) (r : List UInt8) : Prop where
 all : ∀ c ∈ cs, sg c
 none : dc r = none
 eq : l = fl cs ++ r
theorem is_ex (l : List UInt8) : ∃ cs r, Is l cs r := by
 suffices h : ∀ n (l : List UInt8), l.length <= n -> ∃ cs r, Is l cs r from h _ l (Nat.le_refl _)
 intro n
 induction n with
 | zero => intro l h; cases l with
  | nil => exact ⟨[], [], by simp, rfl, rfl⟩
  | cons a t => simp at h
 | succ n ih =>
  intro l h
  cases hd : dc l with
  | none => exact ⟨[], l, by simp, hd, rfl⟩
  | some c =>
   obtain ⟨hs, t, rfl⟩ := dc_some hd
   obtain ⟨cs, r, hi⟩ := ih t (by have := enc_pos c; simp at h; omega)
   refine ⟨c :: cs, r, ?_, hi.none, ?_⟩
   ·intro x hx
    rcases List.mem_cons.1 hx with rfl | hx
    ·exact hs
    ·exact hi.all x hx
   ·rw [hi.eq]; simp [fl]
theorem is_inj : ∀ {cs : List Nat} {l : List UInt8} {r : List UInt8} {cs' : List Nat} {r' : List UInt8}, Is l cs r -> Is l cs' r' -> cs = cs' /\ r = r' := by
 intro cs
 induction cs with
 | nil =>
  intro l r cs' r' h h'
  cases cs' with
  | nil => exact ⟨rfl, by rw [<- show fl [] ++ r = r from rfl, <- h.eq, h'.eq]; rfl⟩
  | cons c cs' =>
   have e : r = enc c ++ (fl cs' ++ r') := by rw [<- show fl [] ++ r = r from rfl, <- h.eq, h'.eq]; simp [fl]
   have := h.none
   rw [e, dc_enc c (h'.all c (by simp))] at this
   cases this
 | cons c cs ih =>
  intro l r cs' r' h h'
  have e : l = enc c ++ (fl cs ++ r) := by rw [h.eq]; simp [fl]
  have hd := dc_enc c (h.all c (by simp)) (fl cs ++ r)
  rw [<- e] at hd
  cases cs' with
  | nil =>
   have e' : l = r' := by rw [h'.eq]; rfl
   rw [e', h'.none] at hd
   cases hd
  | cons c' cs' =>
   have e' : l = enc c' ++ (fl cs' ++ r') := by rw [h'.eq]; simp [fl]
   have hd' := dc_enc c' (h'.all c' (by simp)) (fl cs' ++ r')
   rw [<- e', hd] at hd'
   obtain rfl : c = c' := Option.some.inj hd'
   have ht : fl cs ++ r = fl cs' ++ r' := List.append_cancel_left (e.symm.trans e')
   obtain ⟨h1, h2⟩ := ih (l := fl cs ++ r) (r := r) (cs' := cs') (r' := r') ⟨fun x hx => h.all x (by simp [hx]), h.none, rfl⟩ ⟨fun x hx => h'.all x (by simp [hx]), h'.none, ht⟩
   exact ⟨by rw [h1], h2⟩
theorem Is.behind {s t : List UInt8} {cs ds : List Nat} {r : List UInt8} (h : Is s cs []) (k : Is t ds r) : Is (s ++ t) (cs ++ ds) r := by
 refine ⟨?_, k.none, ?_⟩
 ·intro x hx
  rcases List.mem_append.1 hx with hx | hx
  ·exact h.all x hx
  ·exact k.all x hx
 ·rw [h.eq, k.eq, fl_append]; simp
theorem get_drop (s : ByteArray) (i k : Nat) : (s.get! (i + k)).toNat = g (s.data.toList.drop i) k := by
 obtain ⟨⟨l⟩⟩ := s
 show ((⟨l⟩ : Array UInt8)[i + k]!).toNat = _
 simp only [g, List.getD_eq_getElem?_getD, List.getElem?_drop, getElem!_def, List.getElem?_toArray]
 cases l[i + k]? with
 | none => rfl
 | some x => rfl
theorem valid_iff (n : Nat) : Go.Utf8.valid (n : Int) = decide (sg n) := by
 rw [Bool.eq_iff_iff]
 simp only [Go.Utf8.valid, sg, Bool.or_eq_true, Bool.and_eq_true, decide_eq_true_eq]
 omega
theorem decode_eq (s : ByteArray) (i : Nat) (h : i < s.size) :
  Go.Utf8.decode s i = match dc (s.data.toList.drop i) with | some c => (c, (enc c).length) | none => (65533, 1) := by
 have hl : (s.data.toList.drop i).length = s.size - i := by rw [List.length_drop, Array.length_toList]; rfl
 have hne : s.data.toList.drop i ≠ [] := by intro e; rw [e] at hl; simp at hl; omega
 have h0 := get_drop s i 0
 have h1 := get_drop s i 1
 have h2 := get_drop s i 2
 have h3 := get_drop s i 3
 have c1 : decide (i + 1 < s.size) = decide (1 < (s.data.toList.drop i).length) := by rw [hl]; congr 1; apply propext; omega
 have c2 : decide (i + 2 < s.size) = decide (2 < (s.data.toList.drop i).length) := by rw [hl]; congr 1; apply propext; omega
 have c3 : decide (i + 3 < s.size) = decide (3 < (s.data.toList.drop i).length) := by rw [hl]; congr 1; apply propext; omega
 unfold Go.Utf8.decode dc
 simp only [h0, h1, h2, h3, c1, c2, c3, valid_iff]
 generalize s.data.toList.drop i = l at *
 rw [if_neg hne]
 generalize g l 0 = x0
 generalize g l 1 = x1
 generalize g l 2 = x2
 generalize g l 3 = x3
 generalize l.length = n
 by_cases a0 : x0 < 128
 ·refine Eq.trans (b := (x0, 1)) (if_pos a0) ?_
  rw [if_pos a0]
  simp only [enc_length, if_pos a0]
 refine Eq.trans (if_neg a0) ?_
 conv => rhs; rw [if_neg a0]
 by_cases a1 : x0 / 32 = 6 /\ 1 < n /\ x1 / 64 = 2
 ·refine Eq.trans (if_pos (by simp only [Bool.and_eq_true, decide_eq_true_eq, beq_iff_eq]; exact a1)) ?_
  by_cases a2 : 128 <= x0 % 32 * 64 + x1 % 64
  ·refine Eq.trans (if_pos a2) ?_
   rw [if_pos ⟨a1.1, a1.2.1, a1.2.2, a2⟩]
   simp only [enc_length]
   rw [if_neg (by omega), if_pos (by omega)]
  ·refine Eq.trans (if_neg a2) ?_
   rw [if_neg (by omega), if_neg (by omega), if_neg (by omega)]
   rfl
 refine Eq.trans (if_neg (by simp only [Bool.and_eq_true, decide_eq_true_eq, beq_iff_eq]; exact a1)) ?_
 conv => rhs; rw [if_neg (by omega)]
 by_cases a3 : (x0 / 16 = 14 /\ 1 < n /\ x1 / 64 = 2) /\ 2 < n /\ x2 / 64 = 2
 ·refine Eq.trans (if_pos (by simp only [Bool.and_eq_true, decide_eq_true_eq, beq_iff_eq]; exact a3)) ?_
  by_cases a4 : 2048 <= x0 % 16 * 4096 + x1 % 64 * 64 + x2 % 64 /\ sg (x0 % 16 * 4096 + x1 % 64 * 64 + x2 % 64)
  ·refine Eq.trans (if_pos (by simp only [Bool.and_eq_true, decide_eq_true_eq]; exact a4)) ?_
   rw [if_pos ⟨a3.1.1, a3.2.1, a3.1.2.2, a3.2.2, a4.1, a4.2⟩]
   simp only [enc_length]
   rw [if_neg (by omega), if_neg (by omega), if_pos (by omega)]
  ·refine Eq.trans (if_neg (by simp only [Bool.and_eq_true, decide_eq_true_eq]; exact a4)) ?_
   rw [if_neg (fun h => a4 ⟨h.2.2.2.2.1, h.2.2.2.2.2⟩), if_neg (by omega)]
   rfl
 refine Eq.trans (if_neg (by simp only [Bool.and_eq_true, decide_eq_true_eq, beq_iff_eq]; exact a3)) ?_
 conv => rhs; rw [if_neg (by omega)]
 by_cases a5 : ((x0 / 8 = 30 /\ 1 < n /\ x1 / 64 = 2) /\ 2 < n /\ x2 / 64 = 2) /\ 3 < n /\ x3 / 64 = 2
 ·refine Eq.trans (if_pos (by simp only [Bool.and_eq_true, decide_eq_true_eq, beq_iff_eq]; exact a5)) ?_
  by_cases a6 : 65536 <= x0 % 8 * 262144 + x1 % 64 * 4096 + x2 % 64 * 64 + x3 % 64 /\ sg (x0 % 8 * 262144 + x1 % 64 * 4096 + x2 % 64 * 64 + x3 % 64)
  ·refine Eq.trans (if_pos (by simp only [Bool.and_eq_true, decide_eq_true_eq]; exact a6)) ?_
   rw [if_pos ⟨a5.1.1.1, a5.2.1, a5.1.1.2.2, a5.1.2.2, a5.2.2, a6.1, a6.2⟩]
   simp only [enc_length]
   rw [if_neg (by omega), if_neg (by omega), if_neg (by omega)]
  ·refine Eq.trans (if_neg (by simp only [Bool.and_eq_true, decide_eq_true_eq]; exact a6)) ?_
   rw [if_neg (fun h => a6 ⟨h.2.2.2.2.2.1, h.2.2.2.2.2.2⟩)]
   rfl
 refine Eq.trans (if_neg (by simp only [Bool.and_eq_true, decide_eq_true_eq, beq_iff_eq]; exact a5)) ?_
 conv => rhs; rw [if_neg (by omega)]
 rfl
end Go.Proofs.YtmenllnokgjdlaaGreatDoor.Ut
/-
 What utf.width, next and isSign answer. Conditions: none.
-/
namespace Go.Proofs.YtmenllnokgjdlaaGreatDoor.U
open Go Go.RowKit
def wd (n : Nat) : Nat := (Ut.enc n).length
end Go.Proofs.YtmenllnokgjdlaaGreatDoor.U
/-
 What utf.add lays: a sign's bytes behind others. Conditions: none.
-/
namespace Go.Proofs.YtmenllnokgjdlaaGreatDoor.U
open Go Go.RowKit
def cells (l : List UInt8) : List Value := l.map fun x => .int .u8 (x.toNat : Int)
end Go.Proofs.YtmenllnokgjdlaaGreatDoor.U
/-
 What utf.text.stands answers. Conditions: none.
-/
namespace Go.Proofs.YtmenllnokgjdlaaGreatDoor.U
open Go Go.RowKit
def st (s : ByteArray) (p n : Nat) : Bool := (Ut.enc n).isPrefixOf (s.data.toList.drop p)
theorem below_drewN {B : Nat} {u w : World} (h : Below B u w) (n : Nat) : Below B u (w.drewN n) := ⟨h.os, h.tape, h.output, h.size, h.block⟩
end Go.Proofs.YtmenllnokgjdlaaGreatDoor.U
