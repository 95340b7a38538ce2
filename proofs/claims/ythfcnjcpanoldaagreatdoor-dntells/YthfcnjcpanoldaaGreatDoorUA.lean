/-
  Several texts in one: UPure, UErrFacts, UErrs, UWid, UAdd, UStands, UStand2, URules, UIter, UCheck, UFollow, UFault, UDoor, UTells, URight. Each says what it proves, and its conditions.
-/
import GoSem.Core.Utf8
import Derived.Test.YthfcnjcpanoldaaGreatDoorProg
import Derived.WalkKit
import Derived.LaidEql
import Derived.Stop.Asserts
import Derived.RowKitTokens
import Derived.Laws.BitsAllLaws
import Derived.Laws.OwnMore
import Derived.Deep.AppendLies
import Derived.Deep.RegionWith
import Derived.Deep.QuietTactic
import Derived.BigQuiet
import Derived.RangeFuncRecord
import Derived.Deep.RegionHeld
import Derived.RangeFuncNested
import Derived.RangeFuncBound
import Derived.RangeFuncCalls
import Derived.RangeFuncLeaves
import Derived.Shelf.Abstract
import Derived.Shelf.RegionOpen
import Derived.OwnWalkIn
import Derived.TacticsInMore
import Derived.LoopNIn
import Derived.LoopIn
import Derived.Laws.RangeAny
import Derived.Deep.Light
/-
  Signs and their bytes, plainly: what the document says of layer 4, and how the model's own decoding goes by it. Conditions: none.
-/
namespace Go.Proofs.YthfcnjcpanoldaaGreatDoor.Ut

/-- a sign. -/
abbrev sg (n : Nat) : Prop := n ≤ 1114111 ∧ (n < 55296 ∨ 57343 < n)
abbrev b (n : Nat) : UInt8 := UInt8.ofNat n
/-- a sign's bytes. -/
def enc (n : Nat) : List UInt8 :=
  if n < 128 then [b n] else if n < 2048 then [b (192 + n / 64), b (128 + n % 64)]
  else if n < 65536 then [b (224 + n / 4096), b (128 + n / 64 % 64), b (128 + n % 64)]
  else [b (240 + n / 262144), b (128 + n / 4096 % 64), b (128 + n / 64 % 64), b (128 + n % 64)]
/-- the byte at a place. -/
abbrev g (l : List UInt8) (k : Nat) : Nat := (l.getD k 0).toNat
/-- the sign whose bytes stand ahead. -/
def dc (l : List UInt8) : Option Nat :=
  if l = [] then none
  else if g l 0 < 128 then some (g l 0)
  else if g l 0 / 32 = 6 ∧ 1 < l.length ∧ g l 1 / 64 = 2 ∧ 128 ≤ g l 0 % 32 * 64 + g l 1 % 64 then some (g l 0 % 32 * 64 + g l 1 % 64)
  else if g l 0 / 16 = 14 ∧ 2 < l.length ∧ g l 1 / 64 = 2 ∧ g l 2 / 64 = 2 ∧ 2048 ≤ g l 0 % 16 * 4096 + g l 1 % 64 * 64 + g l 2 % 64 ∧ sg (g l 0 % 16 * 4096 + g l 1 % 64 * 64 + g l 2 % 64) then some (g l 0 % 16 * 4096 + g l 1 % 64 * 64 + g l 2 % 64)
  else if g l 0 / 8 = 30 ∧ 3 < l.length ∧ g l 1 / 64 = 2 ∧ g l 2 / 64 = 2 ∧ g l 3 / 64 = 2 ∧ 65536 ≤ g l 0 % 8 * 262144 + g l 1 % 64 * 4096 + g l 2 % 64 * 64 + g l 3 % 64 ∧ sg (g l 0 % 8 * 262144 + g l 1 % 64 * 4096 + g l 2 % 64 * 64 + g l 3 % 64) then some (g l 0 % 8 * 262144 + g l 1 % 64 * 4096 + g l 2 % 64 * 64 + g l 3 % 64)
  else none

theorem bn (n : Nat) (h : n < 256) : (b n).toNat = n := by
  simp only [b, UInt8.toNat_ofNat']
  omega
theorem u8 {x y : UInt8} (h : x.toNat = y.toNat) : x = y := UInt8.toNat.inj h

theorem enc_cases (n : Nat) : (n < 128 ∧ enc n = [b n]) ∨ (128 ≤ n ∧ n < 2048 ∧ enc n = [b (192 + n / 64), b (128 + n % 64)]) ∨ (2048 ≤ n ∧ n < 65536 ∧ enc n = [b (224 + n / 4096), b (128 + n / 64 % 64), b (128 + n % 64)]) ∨
    (65536 ≤ n ∧ enc n = [b (240 + n / 262144), b (128 + n / 4096 % 64), b (128 + n / 64 % 64), b (128 + n % 64)]) := by
  unfold enc
  by_cases h1 : n < 128
  · exact .inl ⟨h1, if_pos h1⟩
  rw [if_neg h1]
  by_cases h2 : n < 2048
  · exact .inr (.inl ⟨by omega, h2, if_pos h2⟩)
  rw [if_neg h2]
  by_cases h3 : n < 65536
  · exact .inr (.inr (.inl ⟨by omega, h3, if_pos h3⟩))
  rw [if_neg h3]
  exact .inr (.inr (.inr ⟨by omega, rfl⟩))

/-- a sign's bytes are read as it, whatever stands behind. -/
theorem dc_enc (n : Nat) (h : sg n) (t : List UInt8) : dc (enc n ++ t) = some n := by
  obtain ⟨h, h'⟩ := h
  rcases enc_cases n with ⟨h1, e⟩ | ⟨h1, h2, e⟩ | ⟨h1, h2, e⟩ | ⟨h1, e⟩
  · have e0 := bn n (by omega)
    simp only [e, dc, List.cons_append, List.nil_append, g, List.getD_cons_zero, List.getD_cons_succ, List.length_cons, e0]
    rw [if_neg (by simp), if_pos h1]
  · have e0 := bn (192 + n / 64) (by omega)
    have e1 := bn (128 + n % 64) (by omega)
    simp only [e, dc, List.cons_append, List.nil_append, g, List.getD_cons_zero, List.getD_cons_succ, List.length_cons, e0, e1]
    rw [if_neg (by simp), if_neg (by omega), if_pos (by omega)]
    congr 1
    omega
  · have e0 := bn (224 + n / 4096) (by omega)
    have e1 := bn (128 + n / 64 % 64) (by omega)
    have e2 := bn (128 + n % 64) (by omega)
    have ev : (224 + n / 4096) % 16 * 4096 + (128 + n / 64 % 64) % 64 * 64 + (128 + n % 64) % 64 = n := by omega
    simp only [e, dc, List.cons_append, List.nil_append, g, List.getD_cons_zero, List.getD_cons_succ, List.length_cons, e0, e1, e2, ev]
    rw [if_neg (by simp), if_neg (by omega), if_neg (by omega), if_pos (by omega)]
  · have e0 := bn (240 + n / 262144) (by omega)
    have e1 := bn (128 + n / 4096 % 64) (by omega)
    have e2 := bn (128 + n / 64 % 64) (by omega)
    have e3 := bn (128 + n % 64) (by omega)
    have ev : (240 + n / 262144) % 8 * 262144 + (128 + n / 4096 % 64) % 64 * 4096 + (128 + n / 64 % 64) % 64 * 64 + (128 + n % 64) % 64 = n := by omega
    simp only [e, dc, List.cons_append, List.nil_append, g, List.getD_cons_zero, List.getD_cons_succ, List.length_cons, e0, e1, e2, e3, ev]
    rw [if_neg (by simp), if_neg (by omega), if_neg (by omega), if_neg (by omega), if_pos (by omega)]

set_option maxRecDepth 100000 in
/-- what is read is a sign, and its bytes stand there. -/
theorem dc_some {l : List UInt8} {n : Nat} (h : dc l = some n) : sg n ∧ ∃ t, l = enc n ++ t := by
  unfold dc at h
  split at h
  · cases h
  rename_i h0
  split at h
  · obtain rfl : g l 0 = n := Option.some.inj h
    rename_i h1
    match l, h0 with
    | a :: t, _ =>
      simp only [g, List.getD_cons_zero] at h1 ⊢
      refine ⟨by constructor <;> omega, t, ?_⟩
      simp only [enc, h1, if_true, List.cons_append, List.nil_append]
      congr 1
      exact u8 (bn _ (by omega)).symm
  split at h
  · rename_i h1 h2
    obtain ⟨p1, p2, p3, p4⟩ := h2
    match l, h0 with
    | a :: c :: t, _ =>
      simp only [g, List.getD_cons_zero, List.getD_cons_succ] at *
      have ha := a.toNat_lt
      have hc := c.toNat_lt
      obtain rfl : a.toNat % 32 * 64 + c.toNat % 64 = n := Option.some.inj h
      refine ⟨by constructor <;> omega, t, ?_⟩
      rcases enc_cases (a.toNat % 32 * 64 + c.toNat % 64) with ⟨h1, e⟩ | ⟨h1, h2, e⟩ | ⟨h1, h2, e⟩ | ⟨h1, e⟩
      · omega
      · rw [e]
        simp only [List.cons_append, List.nil_append]
        congr 1
        · refine u8 ?_; rw [bn _ (by omega)]; omega
        · congr 1
          refine u8 ?_; rw [bn _ (by omega)]; omega
      · omega
      · omega
    | [_], _ => simp at p2
  split at h
  · rename_i h1 h2 h3
    obtain ⟨p1, p2, p3, p4, p5, p6⟩ := h3
    clear h2
    rcases l with _ | ⟨a, _ | ⟨c, _ | ⟨d, t⟩⟩⟩
    · exact absurd rfl h0
    · exact absurd p2 (by simp)
    · exact absurd p2 (by simp)
    clear h0 p2
    simp only [g, List.getD_cons_zero, List.getD_cons_succ] at h h1 p1 p3 p4 p5 p6
    have ha := a.toNat_lt
    have hc := c.toNat_lt
    have hd := d.toNat_lt
    generalize hv : a.toNat % 16 * 4096 + c.toNat % 64 * 64 + d.toNat % 64 = v at h p5 p6
    obtain rfl : v = n := Option.some.inj h
    refine ⟨p6, t, ?_⟩
    rcases enc_cases v with ⟨h1, e⟩ | ⟨h1, h2, e⟩ | ⟨h1, h2, e⟩ | ⟨h1, e⟩
    · omega
    · omega
    · rw [e]
      simp only [List.cons_append, List.nil_append]
      rw [u8 (x := a) (y := b (224 + v / 4096)) (by rw [bn _ (by omega)]; omega), u8 (x := c) (y := b (128 + v / 64 % 64)) (by rw [bn _ (by omega)]; omega), u8 (x := d) (y := b (128 + v % 64)) (by rw [bn _ (by omega)]; omega)]
    · omega
  split at h
  · rename_i h1 h2 h3 h4
    obtain ⟨p1, p2, p3, p4, p5, p6, p7⟩ := h4
    clear h2 h3
    rcases l with _ | ⟨a, _ | ⟨c, _ | ⟨d, _ | ⟨f, t⟩⟩⟩⟩
    · exact absurd rfl h0
    · exact absurd p2 (by simp)
    · exact absurd p2 (by simp)
    · exact absurd p2 (by simp)
    clear h0 p2
    simp only [g, List.getD_cons_zero, List.getD_cons_succ] at h h1 p1 p3 p4 p5 p6 p7
    have ha := a.toNat_lt
    have hc := c.toNat_lt
    have hd := d.toNat_lt
    have hf := f.toNat_lt
    generalize hv : a.toNat % 8 * 262144 + c.toNat % 64 * 4096 + d.toNat % 64 * 64 + f.toNat % 64 = v at h p6 p7
    obtain rfl : v = n := Option.some.inj h
    refine ⟨p7, t, ?_⟩
    rcases enc_cases v with ⟨h1, e⟩ | ⟨h1, h2, e⟩ | ⟨h1, h2, e⟩ | ⟨h1, e⟩
    · omega
    · omega
    · omega
    · rw [e]
      simp only [List.cons_append, List.nil_append]
      rw [u8 (x := a) (y := b (240 + v / 262144)) (by rw [bn _ (by omega)]; omega), u8 (x := c) (y := b (128 + v / 4096 % 64)) (by rw [bn _ (by omega)]; omega), u8 (x := d) (y := b (128 + v / 64 % 64)) (by rw [bn _ (by omega)]; omega), u8 (x := f) (y := b (128 + v % 64)) (by rw [bn _ (by omega)]; omega)]
  · cases h

theorem enc_length (n : Nat) : (enc n).length = if n < 128 then 1 else if n < 2048 then 2 else if n < 65536 then 3 else 4 := by
  unfold enc
  repeat (split <;> try rfl)
theorem enc_pos (n : Nat) : 1 ≤ (enc n).length := by rw [enc_length]; repeat (split <;> try omega)
theorem enc_le (n : Nat) : (enc n).length ≤ 4 := by rw [enc_length]; repeat (split <;> try omega)

/-- signs' bytes, one behind the other. -/
def fl : List Nat → List UInt8
  | [] => []
  | c :: cs => enc c ++ fl cs
theorem fl_append (a c : List Nat) : fl (a ++ c) = fl a ++ fl c := by
  induction a with
  | nil => rfl
  | cons x a ih => simp [fl, ih, List.append_assoc]
theorem fl_one (c : Nat) : fl [c] = enc c := by simp [fl]

/-- what a text is: signs' bytes, and behind them nothing that begins with a sign's. -/
structure Is (l : List UInt8) (cs : List Nat) (r : List UInt8) : Prop where
  all : ∀ c ∈ cs, sg c
  none : dc r = none
  eq : l = fl cs ++ r

theorem dc_nil : dc [] = none := rfl
theorem is_ex (l : List UInt8) : ∃ cs r, Is l cs r := by
  suffices h : ∀ n (l : List UInt8), l.length ≤ n → ∃ cs r, Is l cs r from h _ l (Nat.le_refl _)
  intro n
  induction n with
  | zero => intro l h; cases l with
    | nil => exact ⟨[], [], by simp, rfl, rfl⟩
    | cons a t => simp at h
  | succ n ih =>
    intro l h
    cases hd : dc l with
    | none => exact ⟨[], l, by simp, hd, rfl⟩
    | some c =>
      obtain ⟨hs, t, rfl⟩ := dc_some hd
      obtain ⟨cs, r, hi⟩ := ih t (by have := enc_pos c; simp at h; omega)
      refine ⟨c :: cs, r, ?_, hi.none, ?_⟩
      · intro x hx
        rcases List.mem_cons.1 hx with rfl | hx
        · exact hs
        · exact hi.all x hx
      · rw [hi.eq]; simp [fl]

/-- there is one way. -/
theorem is_inj : ∀ {cs : List Nat} {l : List UInt8} {r : List UInt8} {cs' : List Nat} {r' : List UInt8}, Is l cs r → Is l cs' r' → cs = cs' ∧ r = r' := by
  intro cs
  induction cs with
  | nil =>
    intro l r cs' r' h h'
    cases cs' with
    | nil => exact ⟨rfl, by rw [← show fl [] ++ r = r from rfl, ← h.eq, h'.eq]; rfl⟩
    | cons c cs' =>
      have e : r = enc c ++ (fl cs' ++ r') := by rw [← show fl [] ++ r = r from rfl, ← h.eq, h'.eq]; simp [fl]
      have := h.none
      rw [e, dc_enc c (h'.all c (by simp))] at this
      cases this
  | cons c cs ih =>
    intro l r cs' r' h h'
    have e : l = enc c ++ (fl cs ++ r) := by rw [h.eq]; simp [fl]
    have hd := dc_enc c (h.all c (by simp)) (fl cs ++ r)
    rw [← e] at hd
    cases cs' with
    | nil =>
      have e' : l = r' := by rw [h'.eq]; rfl
      rw [e', h'.none] at hd
      cases hd
    | cons c' cs' =>
      have e' : l = enc c' ++ (fl cs' ++ r') := by rw [h'.eq]; simp [fl]
      have hd' := dc_enc c' (h'.all c' (by simp)) (fl cs' ++ r')
      rw [← e', hd] at hd'
      obtain rfl : c = c' := Option.some.inj hd'
      have ht : fl cs ++ r = fl cs' ++ r' := List.append_cancel_left (e.symm.trans e')
      obtain ⟨h1, h2⟩ := ih (l := fl cs ++ r) (r := r) (cs' := cs') (r' := r') ⟨fun x hx => h.all x (by simp [hx]), h.none, rfl⟩ ⟨fun x hx => h'.all x (by simp [hx]), h'.none, ht⟩
      exact ⟨by rw [h1], h2⟩

/-- behind a right text. -/
theorem Is.behind {s t : List UInt8} {cs ds : List Nat} {r : List UInt8} (h : Is s cs []) (k : Is t ds r) : Is (s ++ t) (cs ++ ds) r := by
  refine ⟨?_, k.none, ?_⟩
  · intro x hx
    rcases List.mem_append.1 hx with hx | hx
    · exact h.all x hx
    · exact k.all x hx
  · rw [h.eq, k.eq, fl_append]; simp

/-- the model's own decoding. -/
theorem get_drop (s : ByteArray) (i k : Nat) : (s.get! (i + k)).toNat = g (s.data.toList.drop i) k := by
  obtain ⟨⟨l⟩⟩ := s
  show ((⟨l⟩ : Array UInt8)[i + k]!).toNat = _
  simp only [g, List.getD_eq_getElem?_getD, List.getElem?_drop, getElem!_def, List.getElem?_toArray]
  cases l[i + k]? with
  | none => rfl
  | some x => rfl
theorem valid_iff (n : Nat) : Go.Utf8.valid (n : Int) = decide (sg n) := by
  rw [Bool.eq_iff_iff]
  simp only [Go.Utf8.valid, sg, Bool.or_eq_true, Bool.and_eq_true, decide_eq_true_eq]
  omega
set_option maxRecDepth 100000 in
theorem decode_eq (s : ByteArray) (i : Nat) (h : i < s.size) :
    Go.Utf8.decode s i = match dc (s.data.toList.drop i) with | some c => (c, (enc c).length) | none => (65533, 1) := by
  have hl : (s.data.toList.drop i).length = s.size - i := by rw [List.length_drop, Array.length_toList]; rfl
  have hne : s.data.toList.drop i ≠ [] := by intro e; rw [e] at hl; simp at hl; omega
  have h0 := get_drop s i 0
  have h1 := get_drop s i 1
  have h2 := get_drop s i 2
  have h3 := get_drop s i 3
  have c1 : decide (i + 1 < s.size) = decide (1 < (s.data.toList.drop i).length) := by rw [hl]; congr 1; apply propext; omega
  have c2 : decide (i + 2 < s.size) = decide (2 < (s.data.toList.drop i).length) := by rw [hl]; congr 1; apply propext; omega
  have c3 : decide (i + 3 < s.size) = decide (3 < (s.data.toList.drop i).length) := by rw [hl]; congr 1; apply propext; omega
  unfold Go.Utf8.decode dc
  simp only [h0, h1, h2, h3, c1, c2, c3, valid_iff]
  generalize s.data.toList.drop i = l at *
  rw [if_neg hne]
  generalize g l 0 = x0
  generalize g l 1 = x1
  generalize g l 2 = x2
  generalize g l 3 = x3
  generalize l.length = n
  by_cases a0 : x0 < 128
  · refine Eq.trans (b := (x0, 1)) (if_pos a0) ?_
    rw [if_pos a0]
    simp only [enc_length, if_pos a0]
  refine Eq.trans (if_neg a0) ?_
  conv => rhs; rw [if_neg a0]
  by_cases a1 : x0 / 32 = 6 ∧ 1 < n ∧ x1 / 64 = 2
  · refine Eq.trans (if_pos (by simp only [Bool.and_eq_true, decide_eq_true_eq, beq_iff_eq]; exact a1)) ?_
    by_cases a2 : 128 ≤ x0 % 32 * 64 + x1 % 64
    · refine Eq.trans (if_pos a2) ?_
      rw [if_pos ⟨a1.1, a1.2.1, a1.2.2, a2⟩]
      simp only [enc_length]
      rw [if_neg (by omega), if_pos (by omega)]
    · refine Eq.trans (if_neg a2) ?_
      rw [if_neg (by omega), if_neg (by omega), if_neg (by omega)]
      rfl
  refine Eq.trans (if_neg (by simp only [Bool.and_eq_true, decide_eq_true_eq, beq_iff_eq]; exact a1)) ?_
  conv => rhs; rw [if_neg (by omega)]
  by_cases a3 : (x0 / 16 = 14 ∧ 1 < n ∧ x1 / 64 = 2) ∧ 2 < n ∧ x2 / 64 = 2
  · refine Eq.trans (if_pos (by simp only [Bool.and_eq_true, decide_eq_true_eq, beq_iff_eq]; exact a3)) ?_
    by_cases a4 : 2048 ≤ x0 % 16 * 4096 + x1 % 64 * 64 + x2 % 64 ∧ sg (x0 % 16 * 4096 + x1 % 64 * 64 + x2 % 64)
    · refine Eq.trans (if_pos (by simp only [Bool.and_eq_true, decide_eq_true_eq]; exact a4)) ?_
      rw [if_pos ⟨a3.1.1, a3.2.1, a3.1.2.2, a3.2.2, a4.1, a4.2⟩]
      simp only [enc_length]
      rw [if_neg (by omega), if_neg (by omega), if_pos (by omega)]
    · refine Eq.trans (if_neg (by simp only [Bool.and_eq_true, decide_eq_true_eq]; exact a4)) ?_
      rw [if_neg (fun h => a4 ⟨h.2.2.2.2.1, h.2.2.2.2.2⟩), if_neg (by omega)]
      rfl
  refine Eq.trans (if_neg (by simp only [Bool.and_eq_true, decide_eq_true_eq, beq_iff_eq]; exact a3)) ?_
  conv => rhs; rw [if_neg (by omega)]
  by_cases a5 : ((x0 / 8 = 30 ∧ 1 < n ∧ x1 / 64 = 2) ∧ 2 < n ∧ x2 / 64 = 2) ∧ 3 < n ∧ x3 / 64 = 2
  · refine Eq.trans (if_pos (by simp only [Bool.and_eq_true, decide_eq_true_eq, beq_iff_eq]; exact a5)) ?_
    by_cases a6 : 65536 ≤ x0 % 8 * 262144 + x1 % 64 * 4096 + x2 % 64 * 64 + x3 % 64 ∧ sg (x0 % 8 * 262144 + x1 % 64 * 4096 + x2 % 64 * 64 + x3 % 64)
    · refine Eq.trans (if_pos (by simp only [Bool.and_eq_true, decide_eq_true_eq]; exact a6)) ?_
      rw [if_pos ⟨a5.1.1.1, a5.2.1, a5.1.1.2.2, a5.1.2.2, a5.2.2, a6.1, a6.2⟩]
      simp only [enc_length]
      rw [if_neg (by omega), if_neg (by omega), if_neg (by omega)]
    · refine Eq.trans (if_neg (by simp only [Bool.and_eq_true, decide_eq_true_eq]; exact a6)) ?_
      rw [if_neg (fun h => a6 ⟨h.2.2.2.2.2.1, h.2.2.2.2.2.2⟩)]
      rfl
  refine Eq.trans (if_neg (by simp only [Bool.and_eq_true, decide_eq_true_eq, beq_iff_eq]; exact a5)) ?_
  conv => rhs; rw [if_neg (by omega)]
  rfl
end Go.Proofs.YthfcnjcpanoldaaGreatDoor.Ut

/-
  Closed facts on the model's entries for reflectlite at this program's types, and on the assertions that errors.As and errors.Is make there. Conditions: none.
-/
namespace Go.Proofs.YthfcnjcpanoldaaGreatDoor.U
open Go.RowKit Go.Extern.Stop Go.Stop Go.Extern

/-! ### closed facts on reflectlite's entries -/
theorem methodKind (h : Value) (w : World) : (Go.method 348 135 (.agg #[h]) "Kind").run Tryz.prog w = .ok (162, h) w := by kernel_rfl
/-- one step of a run, the first part known. -/
theorem run_step {α β : Type} {P : Program} {m : Sem α} {k : α → Sem β} {w w1 : World} {a : α} {r : Result β} (h : m.run P w = .ok a w1) (h2 : (k a).run P w1 = r) : (m >>= k).run P w = r := by
  rw [Sem.run_bind, h]; exact h2
theorem methodElem (h : Value) (w : World) : (Go.method 348 135 (.agg #[h]) "Elem").run Tryz.prog w = .ok (174, .agg #[h]) w := by kernel_rfl
theorem methodImplements (h : Value) (w : World) : (Go.method 348 135 (.agg #[h]) "Implements").run Tryz.prog w = .ok (175, .agg #[h]) w := by kernel_rfl
theorem methodAssignableTo (h : Value) (w : World) : (Go.method 348 135 (.agg #[h]) "AssignableTo").run Tryz.prog w = .ok (172, .agg #[h]) w := by kernel_rfl
theorem typeOfF (v : Value) (w : World) : (ReflectliteType.typeOf #[.iface 189 v]).run Tryz.prog w = .ok (.iface 135 (.agg #[.pointer (some ⟨12, 189, none⟩)])) w := by kernel_rfl
theorem typeOfS (v : Value) (w : World) : (ReflectliteType.typeOf #[.iface 219 v]).run Tryz.prog w = .ok (.iface 135 (.agg #[.pointer (some ⟨12, 219, none⟩)])) w := by kernel_rfl
theorem load1 (b : Addr) (x : Value) (W : World) (hb : W.cell? b = some x) : (loadCells b 1).run Tryz.prog W = .ok #[x] W := by
  have h : W.cell? (b.add 0) = some x := by simpa [Addr.add] using hb
  simp [loadCells, loadCellsFrom, h, Result.andThen]
/-! ### what errors.as and errors.is find on the dynamic types -/
theorem noAsF (v : Value) (xT : TypeId) (w : World) : (Instr.typeAssert (.iface 189 v) xT 139 true).run Tryz.prog w = .ok (.tuple #[.nilIface, .bool false]) w := run_typeAssert_lacksB Tryz.underlying139 (by kernel_rfl) (by kernel_rfl) v xT w
theorem noAsS (v : Value) (xT : TypeId) (w : World) : (Instr.typeAssert (.iface 219 v) xT 139 true).run Tryz.prog w = .ok (.tuple #[.nilIface, .bool false]) w := run_typeAssert_lacksB Tryz.underlying139 (by kernel_rfl) (by kernel_rfl) v xT w
theorem noIsF (v : Value) (xT : TypeId) (w : World) : (Instr.typeAssert (.iface 189 v) xT 147 true).run Tryz.prog w = .ok (.tuple #[.nilIface, .bool false]) w := run_typeAssert_lacksB Tryz.underlying147 (by kernel_rfl) (by kernel_rfl) v xT w
theorem noIsS (v : Value) (xT : TypeId) (w : World) : (Instr.typeAssert (.iface 219 v) xT 147 true).run Tryz.prog w = .ok (.tuple #[.nilIface, .bool false]) w := run_typeAssert_lacksB Tryz.underlying147 (by kernel_rfl) (by kernel_rfl) v xT w
theorem unwF (v : Value) (xT : TypeId) (w : World) : (Instr.typeAssert (.iface 189 v) xT 142 true).run Tryz.prog w = .ok (.tuple #[.iface 189 v, .bool true]) w := run_typeAssert_hasB Tryz.underlying142 (by kernel_rfl) v xT w
theorem noUnwS (v : Value) (xT : TypeId) (w : World) : (Instr.typeAssert (.iface 219 v) xT 142 true).run Tryz.prog w = .ok (.tuple #[.nilIface, .bool false]) w := run_typeAssert_lacksB Tryz.underlying142 (by kernel_rfl) (by kernel_rfl) v xT w
theorem noUnwsS (v : Value) (xT : TypeId) (w : World) : (Instr.typeAssert (.iface 219 v) xT 144 true).run Tryz.prog w = .ok (.tuple #[.nilIface, .bool false]) w := run_typeAssert_lacksB Tryz.underlying144 (by kernel_rfl) (by kernel_rfl) v xT w
theorem methodUnwrap (v : Value) (w : World) : (Go.method 348 189 v "Unwrap").run Tryz.prog w = .ok (187, v) w := by kernel_rfl
/-- the model's entry for (rtype).Comparable, by its name, says that a pointer can be compared. -/
theorem cmpExt : ∃ ext : Array Value → Sem Value, find Tryz.f173 = some ext ∧
    ∀ w : World, (ext #[.agg #[.pointer (some ⟨12, 219, none⟩)]]).run Tryz.prog w = .ok (.bool true) w :=
  ⟨(find Tryz.f173).getD fun _ => pure (.tuple #[]), by kernel_rfl, fun w => by kernel_rfl⟩
theorem methodComparable (v : Value) (w : World) : (Go.method 348 135 v "Comparable").run Tryz.prog w = .ok (173, v) w := by kernel_rfl
theorem compS : (Tryz.prog.info? 219).map (·.comparable) = some true := by kernel_rfl
theorem sizeS : (Tryz.prog.info? 237).map (·.size) = some 1 := by kernel_rfl
end Go.Proofs.YthfcnjcpanoldaaGreatDoor.U

/-
  What errors.As and errors.Is answer where package utf asks them: at a fault that wraps a noSign or a sentinel, and at a bare noSign. Conditions: the three package-level variables hold what the program's text lays.
-/
namespace Go.Proofs.YthfcnjcpanoldaaGreatDoor.U
open Go.RowKit Go.Extern.Stop Go.Stop Go.Extern

theorem lt_of_cell {w : World} {a : Addr} {v : Value} (h : w.cell? a = some v) : a.block < w.heap.size := by
  rcases Nat.lt_or_ge a.block w.heap.size with h' | h'
  · exact h'
  · simp [World.cell?, Array.getElem?_eq_none h'] at h

end Go.Proofs.YthfcnjcpanoldaaGreatDoor.U

/-
  What utf.width, next and isSign answer. Conditions: none.
-/
namespace Go.Proofs.YthfcnjcpanoldaaGreatDoor.U
open Go Go.RowKit

theorem hide {p : Prop} (h : p) : Hid p := h
theorem unhide {p : Prop} (h : Hid p) : p := h

theorem or192 (x : Int) (h : 0 ≤ x ∧ x < 32) : bits .or .u8 192 x = 192 + x := by
  have : ∀ y : Fin 32, bits .or .u8 192 ((y.val : Nat) : Int) = 192 + ((y.val : Nat) : Int) := by decide +kernel
  have := this ⟨x.toNat, by omega⟩
  rwa [show ((x.toNat : Nat) : Int) = x by omega] at this
theorem or224 (x : Int) (h : 0 ≤ x ∧ x < 16) : bits .or .u8 224 x = 224 + x := by
  have : ∀ y : Fin 16, bits .or .u8 224 ((y.val : Nat) : Int) = 224 + ((y.val : Nat) : Int) := by decide +kernel
  have := this ⟨x.toNat, by omega⟩
  rwa [show ((x.toNat : Nat) : Int) = x by omega] at this
theorem or240 (x : Int) (h : 0 ≤ x ∧ x < 8) : bits .or .u8 240 x = 240 + x := by
  have : ∀ y : Fin 8, bits .or .u8 240 ((y.val : Nat) : Int) = 240 + ((y.val : Nat) : Int) := by decide +kernel
  have := this ⟨x.toNat, by omega⟩
  rwa [show ((x.toNat : Nat) : Int) = x by omega] at this
theorem or128 (x : Int) (h : 0 ≤ x ∧ x < 64) : bits .or .u8 128 x = 128 + x := by
  have : ∀ y : Fin 64, bits .or .u8 128 ((y.val : Nat) : Int) = 128 + ((y.val : Nat) : Int) := by decide +kernel
  have := this ⟨x.toNat, by omega⟩
  rwa [show ((x.toNat : Nat) : Int) = x by omega] at this
theorem and63 (x : Int) (h : 0 ≤ x ∧ x < 256) : bits .and .u8 x 63 = x % 64 := by
  have : ∀ y : Fin 256, bits .and .u8 ((y.val : Nat) : Int) 63 = ((y.val : Nat) : Int) % 64 := by decide +kernel
  have := this ⟨x.toNat, by omega⟩
  rwa [show ((x.toNat : Nat) : Int) = x by omega] at this

set_option maxRecDepth 100000 in
theorem next_any (n : Int) (w : World) :
    Calls Tryz.prog 143 #[.int .i32 n] w fun e w' => e = .returned (.int .u8 (128 + n % 64)) ∧ w' = w := by
  go_enter Tryz.func143, Tryz.ntmps143
  go_wp2
  go_ret
  exact ⟨rfl, rfl⟩

/-- how many bytes a sign has. -/
def wd (n : Nat) : Nat := (Ut.enc n).length
theorem wd_eq (n : Nat) : wd n = if n < 128 then 1 else if n < 2048 then 2 else if n < 65536 then 3 else 4 := Ut.enc_length n
set_option maxRecDepth 100000 in
theorem width_any (n : Nat) (w : World) (h : n ≤ 1114111) :
    Calls Tryz.prog 138 #[.int .i32 n] w fun e w' => e = .returned (.int .i64 (wd n)) ∧ w' = w := by
  rw [wd_eq]
  by_cases h1 : n < 128
  · have a : ¬ (65536 : Int) ≤ n := by omega
    have c : ¬ (2048 : Int) ≤ n := by omega
    have d : ¬ (128 : Int) ≤ n := by omega
    rw [if_pos h1]
    go_enter Tryz.func138, Tryz.ntmps138
    go_wp2
    go_ret
    exact ⟨rfl, rfl⟩
  rw [if_neg h1]
  by_cases h2 : n < 2048
  · have a : ¬ (65536 : Int) ≤ n := by omega
    have c : ¬ (2048 : Int) ≤ n := by omega
    have d : (128 : Int) ≤ n := by omega
    rw [if_pos h2]
    go_enter Tryz.func138, Tryz.ntmps138
    go_wp2
    go_ret
    exact ⟨rfl, rfl⟩
  rw [if_neg h2]
  by_cases h3 : n < 65536
  · have a : ¬ (65536 : Int) ≤ n := by omega
    have c : (2048 : Int) ≤ n := by omega
    have d : (128 : Int) ≤ n := by omega
    rw [if_pos h3]
    go_enter Tryz.func138, Tryz.ntmps138
    go_wp2
    go_ret
    exact ⟨rfl, rfl⟩
  · have a : (65536 : Int) ≤ n := by omega
    have c : (2048 : Int) ≤ n := by omega
    have d : (128 : Int) ≤ n := by omega
    rw [if_neg h3]
    go_enter Tryz.func138, Tryz.ntmps138
    go_wp2
    go_ret
    exact ⟨rfl, rfl⟩

/-- is a number a sign? -/
def isg (n : Int) : Bool := decide (0 ≤ n ∧ n ≤ 1114111 ∧ (n < 55296 ∨ 57344 ≤ n))
end Go.Proofs.YthfcnjcpanoldaaGreatDoor.U

/-
  What utf.add lays: a sign's bytes behind others. Conditions: none.
-/
namespace Go.Proofs.YthfcnjcpanoldaaGreatDoor.U
open Go Go.RowKit

/-- the cells of bytes. -/
def cells (l : List UInt8) : List Value := l.map fun x => .int .u8 (x.toNat : Int)
theorem infoB : ∃ i, Tryz.prog.info? 5 = some i ∧ i.zero = some (.int .u8 0) ∧ i.size = 1 ∧ i.bytes = 1 := ⟨Tryz.t5, by kernel_rfl, by kernel_rfl, by kernel_rfl, by kernel_rfl⟩
theorem news (w : World) (l : List Value) (t : TypeId) : ∀ (j : Nat) (u : Value), l[j]? = some u → (w.alloc (.cells l.toArray t)).cell? ((⟨w.heap.size, 0, none⟩ : Addr).add j) = some u := by
  intro j u h
  rw [Addr.add_lit, Nat.zero_add, World.cell?_alloc_at _ _ _ _ rfl]
  simpa using h

/-- what add leaves: the bytes lie behind the others. -/
def AddPost (w : World) (base m : Nat) (xs : List Value) (n : Nat) (e : Ending) (w' : World) : Prop :=
  ∃ g cap, e = .returned (.slice (some ⟨g, 0, none⟩) (m + wd n) cap) ∧ w'.ownsRow base 5 1 (.slice (some ⟨g, 0, none⟩) (m + wd n) cap) (m + wd n) (xs ++ cells (Ut.enc n)) ∧ Below base w w'
theorem addPost_mk {w w2 : World} {o : Obj} {base m k : Nat} {xs : List Value} {v : Value} {n : Nat} {g cap : Nat} {l : List Value} (hk : wd n = k) (hl : cells (Ut.enc n) = l)
    (ho : w.ownsRow base 5 1 v m xs) (hb : base ≤ w.heap.size)
    (h1 : w2.ownsRow base 5 1 (.slice (some ⟨g, 0, none⟩) (m + k) cap) (m + k) (xs ++ l)) (h2 : (w.alloc o).grownBy w2 v.ownBlock) :
    AddPost w base m xs n (.returned (.slice (some ⟨g, 0, none⟩) (m + k) cap)) w2 := by
  subst hk
  subst hl
  refine ⟨g, cap, rfl, h1, ?_⟩
  have hs := h2.size
  refine ⟨h2.os, h2.tape, h2.output, by simp at hs; omega, fun k hk => ?_⟩
  rw [h2.block k (by simp; omega) (fun e => by have := (ho.lt k e.symm).1; omega)]
  exact heap_alloc_old _ _ (by omega)

set_option maxRecDepth 100000 in
theorem add1 (n : Nat) (w : World) (base : Nat) (v : Value) (m : Nat) (xs : List Value) (h : n < 128) (ho : w.ownsRow base 5 1 v m xs) (hm : m ≤ 100000) (hb : base ≤ w.heap.size) :
    Calls Tryz.prog 139 #[v, .int .i32 n] w (AddPost w base m xs n) := by
  have hk : wd n = 1 := by rw [wd_eq, if_pos h]
  have hl : cells (Ut.enc n) = [.int .u8 n] := by
    unfold Ut.enc
    rw [if_pos h]
    simp only [cells, List.map_cons, List.map_nil, Ut.bn n (by omega)]
  have hw := width_any n w (by omega)
  rw [hk] at hw
  obtain ⟨i0, hi0, hz0, hz1, hz2⟩ := infoB
  have HN := hide (news w [.int .u8 n] 5)
  have HO := hide (ho.alloc (.cells #[.int .u8 n] 5))
  have Ho := hide ho
  have Hk := hide hk
  have Hl := hide hl
  clear ho hk hl
  go_enter Tryz.func139, Tryz.ntmps139
  go_wp2_with fail
  refine hw.mono ?_
  rintro e w1 ⟨rfl, rfl⟩
  go_wp2_with (at_builtin; refine wpList_append_lies _ rfl (.tmp 24) (.tmp 27) 85 rfl base 5 i0 (.int .u8 0) 1 1 Tryz.underlying85 hi0 hz0 hz1 hz2 rfl (by omega) v m xs rfl (unhide HO) ⟨w1.heap.size, 0, none⟩ 1 1 [.int .u8 n] rfl rfl (unhide HN) (by simp [Value.oneCell']) (by omega) (by unfold maxLen; omega) (by omega) (by simp; omega) (w1.heap.size + 1) (by simp) ?_; intro gg cp w4 hown hgrow hat hglt; replace hown := hide hown; replace hgrow := hide hgrow; clear hat)
  go_ret
  exact addPost_mk (unhide Hk) (unhide Hl) (unhide Ho) hb (unhide hown) (unhide hgrow)

set_option maxRecDepth 100000 in
theorem add2 (n : Nat) (w : World) (base : Nat) (v : Value) (m : Nat) (xs : List Value) (h : 128 ≤ n ∧ n < 2048) (ho : w.ownsRow base 5 1 v m xs) (hm : m ≤ 100000) (hb : base ≤ w.heap.size) :
    Calls Tryz.prog 139 #[v, .int .i32 n] w (AddPost w base m xs n) := by
  have hk : wd n = 2 := by rw [wd_eq, if_neg (by omega), if_pos h.2]
  have hl : cells (Ut.enc n) = [.int .u8 (192 + (n : Int) / 64), .int .u8 (128 + (n : Int) % 64)] := by
    unfold Ut.enc
    rw [if_neg (by omega), if_pos h.2]
    simp only [cells, List.map_cons, List.map_nil, Ut.bn _ (show 192 + n / 64 < 256 by omega), Ut.bn _ (show 128 + n % 64 < 256 by omega)]
    rfl
  have hw := width_any n w (by omega)
  have h2 := hide (next_any n w)
  rw [hk] at hw
  obtain ⟨i0, hi0, hz0, hz1, hz2⟩ := infoB
  have HN := hide (news w [.int .u8 (192 + (n : Int) / 64), .int .u8 (128 + (n : Int) % 64)] 5)
  have HO := hide (ho.alloc (.cells #[.int .u8 (192 + (n : Int) / 64), .int .u8 (128 + (n : Int) % 64)] 5))
  have Ho := hide ho
  have Hk := hide hk
  have Hl := hide hl
  have e1 : (n : Int) / 64 % 256 = n / 64 := by omega
  have e2 := or192 ((n : Int) / 64) (by omega)
  clear ho hk hl h
  go_enter Tryz.func139, Tryz.ntmps139
  go_wp2_with fail
  refine hw.mono ?_
  rintro e w1 ⟨rfl, rfl⟩
  go_wp2_with fail
  refine (unhide h2).mono ?_
  rintro e w1 ⟨rfl, rfl⟩
  go_wp2_with (at_builtin; refine wpList_append_lies _ rfl (.tmp 31) (.tmp 38) 85 rfl base 5 i0 (.int .u8 0) 1 1 Tryz.underlying85 hi0 hz0 hz1 hz2 rfl (by omega) v m xs rfl (unhide HO) ⟨w1.heap.size, 0, none⟩ 2 2 [.int .u8 (192 + (n : Int) / 64), .int .u8 (128 + (n : Int) % 64)] rfl rfl (unhide HN) (by simp [Value.oneCell']) (by omega) (by unfold maxLen; omega) (by omega) (by simp; omega) (w1.heap.size + 1) (by simp) ?_; intro gg cp w4 hown hgrow hat hglt; replace hown := hide hown; replace hgrow := hide hgrow; clear hat)
  go_ret
  exact addPost_mk (unhide Hk) (unhide Hl) (unhide Ho) hb (unhide hown) (unhide hgrow)

set_option maxRecDepth 100000 in
theorem add3 (n : Nat) (w : World) (base : Nat) (v : Value) (m : Nat) (xs : List Value) (h : 2048 ≤ n ∧ n < 65536) (ho : w.ownsRow base 5 1 v m xs) (hm : m ≤ 100000) (hb : base ≤ w.heap.size) :
    Calls Tryz.prog 139 #[v, .int .i32 n] w (AddPost w base m xs n) := by
  have hk : wd n = 3 := by rw [wd_eq, if_neg (by omega), if_neg (by omega), if_pos h.2]
  have hl : cells (Ut.enc n) = [.int .u8 (224 + (n : Int) / 4096), .int .u8 (128 + (n : Int) / 64 % 64), .int .u8 (128 + (n : Int) % 64)] := by
    unfold Ut.enc
    rw [if_neg (by omega), if_neg (by omega), if_pos h.2]
    simp only [cells, List.map_cons, List.map_nil, Ut.bn _ (show 224 + n / 4096 < 256 by omega), Ut.bn _ (show 128 + n / 64 % 64 < 256 by omega), Ut.bn _ (show 128 + n % 64 < 256 by omega)]
    rfl
  have hw := width_any n w (by omega)
  have h2 := hide (next_any (n / 64) w)
  have h3 := hide (next_any n w)
  rw [hk] at hw
  obtain ⟨i0, hi0, hz0, hz1, hz2⟩ := infoB
  have HN := hide (news w [.int .u8 (224 + (n : Int) / 4096), .int .u8 (128 + (n : Int) / 64 % 64), .int .u8 (128 + (n : Int) % 64)] 5)
  have HO := hide (ho.alloc (.cells #[.int .u8 (224 + (n : Int) / 4096), .int .u8 (128 + (n : Int) / 64 % 64), .int .u8 (128 + (n : Int) % 64)] 5))
  have Ho := hide ho
  have Hk := hide hk
  have Hl := hide hl
  have e1 : (n : Int) / 4096 % 256 = n / 4096 := by omega
  have e2 := or224 ((n : Int) / 4096) (by omega)
  clear ho hk hl h
  go_enter Tryz.func139, Tryz.ntmps139
  go_wp2_with fail
  refine hw.mono ?_
  rintro e w1 ⟨rfl, rfl⟩
  go_wp2_with fail
  refine (unhide h2).mono ?_
  rintro e w1 ⟨rfl, rfl⟩
  go_wp2_with fail
  refine (unhide h3).mono ?_
  rintro e w1 ⟨rfl, rfl⟩
  go_wp2_with (at_builtin; refine wpList_append_lies _ rfl (.tmp 42) (.tmp 52) 85 rfl base 5 i0 (.int .u8 0) 1 1 Tryz.underlying85 hi0 hz0 hz1 hz2 rfl (by omega) v m xs rfl (unhide HO) ⟨w1.heap.size, 0, none⟩ 3 3 [.int .u8 (224 + (n : Int) / 4096), .int .u8 (128 + (n : Int) / 64 % 64), .int .u8 (128 + (n : Int) % 64)] rfl rfl (unhide HN) (by simp [Value.oneCell']) (by omega) (by unfold maxLen; omega) (by omega) (by simp; omega) (w1.heap.size + 1) (by simp) ?_; intro gg cp w4 hown hgrow hat hglt; replace hown := hide hown; replace hgrow := hide hgrow; clear hat)
  go_ret
  exact addPost_mk (unhide Hk) (unhide Hl) (unhide Ho) hb (unhide hown) (unhide hgrow)

set_option maxRecDepth 100000 in
theorem add4 (n : Nat) (w : World) (base : Nat) (v : Value) (m : Nat) (xs : List Value) (h : 65536 ≤ n ∧ n ≤ 1114111) (ho : w.ownsRow base 5 1 v m xs) (hm : m ≤ 100000) (hb : base ≤ w.heap.size) :
    Calls Tryz.prog 139 #[v, .int .i32 n] w (AddPost w base m xs n) := by
  have hk : wd n = 4 := by rw [wd_eq, if_neg (by omega), if_neg (by omega), if_neg (by omega)]
  have hl : cells (Ut.enc n) = [.int .u8 (240 + (n : Int) / 262144), .int .u8 (128 + (n : Int) / 4096 % 64), .int .u8 (128 + (n : Int) / 64 % 64), .int .u8 (128 + (n : Int) % 64)] := by
    unfold Ut.enc
    rw [if_neg (by omega), if_neg (by omega), if_neg (by omega)]
    simp only [cells, List.map_cons, List.map_nil, Ut.bn _ (show 240 + n / 262144 < 256 by omega), Ut.bn _ (show 128 + n / 4096 % 64 < 256 by omega), Ut.bn _ (show 128 + n / 64 % 64 < 256 by omega), Ut.bn _ (show 128 + n % 64 < 256 by omega)]
    rfl
  have hw := width_any n w (by omega)
  have h1 := hide (next_any (n / 4096) w)
  have h2 := hide (next_any (n / 64) w)
  have h3 := hide (next_any n w)
  rw [hk] at hw
  obtain ⟨i0, hi0, hz0, hz1, hz2⟩ := infoB
  have HN := hide (news w [.int .u8 (240 + (n : Int) / 262144), .int .u8 (128 + (n : Int) / 4096 % 64), .int .u8 (128 + (n : Int) / 64 % 64), .int .u8 (128 + (n : Int) % 64)] 5)
  have HO := hide (ho.alloc (.cells #[.int .u8 (240 + (n : Int) / 262144), .int .u8 (128 + (n : Int) / 4096 % 64), .int .u8 (128 + (n : Int) / 64 % 64), .int .u8 (128 + (n : Int) % 64)] 5))
  have Ho := hide ho
  have Hk := hide hk
  have Hl := hide hl
  have e1 : (n : Int) / 262144 % 256 = n / 262144 := by omega
  have e2 := or240 ((n : Int) / 262144) (by omega)
  clear ho hk hl h
  go_enter Tryz.func139, Tryz.ntmps139
  go_wp2_with fail
  refine hw.mono ?_
  rintro e w1 ⟨rfl, rfl⟩
  go_wp2_with fail
  refine (unhide h1).mono ?_
  rintro e w1 ⟨rfl, rfl⟩
  go_wp2_with fail
  refine (unhide h2).mono ?_
  rintro e w1 ⟨rfl, rfl⟩
  go_wp2_with fail
  refine (unhide h3).mono ?_
  rintro e w1 ⟨rfl, rfl⟩
  go_wp2_with (at_builtin; refine wpList_append_lies _ rfl (.tmp 7) (.tmp 20) 85 rfl base 5 i0 (.int .u8 0) 1 1 Tryz.underlying85 hi0 hz0 hz1 hz2 rfl (by omega) v m xs rfl (unhide HO) ⟨w1.heap.size, 0, none⟩ 4 4 [.int .u8 (240 + (n : Int) / 262144), .int .u8 (128 + (n : Int) / 4096 % 64), .int .u8 (128 + (n : Int) / 64 % 64), .int .u8 (128 + (n : Int) % 64)] rfl rfl (unhide HN) (by simp [Value.oneCell']) (by omega) (by unfold maxLen; omega) (by omega) (by simp; omega) (w1.heap.size + 1) (by simp) ?_; intro gg cp w4 hown hgrow hat hglt; replace hown := hide hown; replace hgrow := hide hgrow; clear hat)
  go_ret
  exact addPost_mk (unhide Hk) (unhide Hl) (unhide Ho) hb (unhide hown) (unhide hgrow)

theorem add_any (n : Nat) (w : World) (base : Nat) (v : Value) (m : Nat) (xs : List Value) (h : n ≤ 1114111) (ho : w.ownsRow base 5 1 v m xs) (hm : m ≤ 100000) (hb : base ≤ w.heap.size) :
    Calls Tryz.prog 139 #[v, .int .i32 n] w (AddPost w base m xs n) := by
  by_cases h1 : n < 128
  · exact add1 n w base v m xs h1 ho hm hb
  by_cases h2 : n < 2048
  · exact add2 n w base v m xs ⟨by omega, h2⟩ ho hm hb
  by_cases h3 : n < 65536
  · exact add3 n w base v m xs ⟨by omega, h3⟩ ho hm hb
  · exact add4 n w base v m xs ⟨by omega, h⟩ ho hm hb
end Go.Proofs.YthfcnjcpanoldaaGreatDoor.U

/-
  What utf.text.stands answers. Conditions: none.
-/
namespace Go.Proofs.YthfcnjcpanoldaaGreatDoor.U
open Go Go.RowKit

abbrev zero4 : Obj := .cells #[.int .u8 0, .int .u8 0, .int .u8 0, .int .u8 0] 204
theorem rcell {R : Nat} {w : World} (h : w.heap[R]? = some zero4) : (w.cell? ⟨R, 0, none⟩ = some (.int .u8 0) ∧ w.cell? ⟨R, 1, none⟩ = some (.int .u8 0) ∧ w.cell? ⟨R, 2, none⟩ = some (.int .u8 0) ∧ w.cell? ⟨R, 3, none⟩ = some (.int .u8 0)) ∧
    w.frozen? ⟨R, 0, none⟩ = false ∧ w.frozen? ⟨R, 1, none⟩ = false ∧ w.frozen? ⟨R, 2, none⟩ = false ∧ w.frozen? ⟨R, 3, none⟩ = false := by
  simp [World.cell?, World.frozen?, h]

set_option maxRecDepth 100000 in
theorem room1 (n : Nat) (w : World) (R : Nat) (h : n < 128) (hR : w.heap[R]? = some zero4) :
    Calls Tryz.prog 139 #[.slice (some ⟨R, 0, none⟩) 0 4, .int .i32 n] w fun e w' => e = .returned (.slice (some ⟨R, 0, none⟩) 1 4) ∧ w' = (w.setCell ⟨R, 0, none⟩ (.int .u8 n)).alloc (.cells #[.int .u8 n] 5) := by
  have hk : wd n = 1 := by rw [wd_eq]; repeat (split <;> try omega)
  have hw := width_any n w (by omega)
  rw [hk] at hw
  have e1 : (n : Int) % 256 = n := by omega
  obtain ⟨⟨c0, c1, c2, c3⟩, f0, f1, f2, f3⟩ := rcell hR
  have hlt := lt_of_cell c0
  have hlt' : ¬ R = w.heap.size := by simp at hlt; omega
  clear hk h
  go_enter Tryz.func139, Tryz.ntmps139
  go_wp2_with fail
  refine hw.mono ?_
  rintro e w1 ⟨rfl, rfl⟩
  go_wp2
  go_ret
  exact ⟨rfl, rfl⟩

set_option maxRecDepth 100000 in
theorem room2 (n : Nat) (w : World) (R : Nat) (h : 128 ≤ n ∧ n < 2048) (hR : w.heap[R]? = some zero4) :
    Calls Tryz.prog 139 #[.slice (some ⟨R, 0, none⟩) 0 4, .int .i32 n] w fun e w' => e = .returned (.slice (some ⟨R, 0, none⟩) 2 4) ∧ w' = ((w.setCell ⟨R, 0, none⟩ (.int .u8 (192 + (n : Int) / 64))).setCell ⟨R, 1, none⟩ (.int .u8 (128 + (n : Int) % 64))).alloc (.cells #[.int .u8 (192 + (n : Int) / 64), .int .u8 (128 + (n : Int) % 64)] 5) := by
  have hk : wd n = 2 := by rw [wd_eq]; repeat (split <;> try omega)
  have hw := width_any n w (by omega)
  rw [hk] at hw
  have g0 := hide (next_any (n) w)
  have e1 : (n : Int) / 64 % 256 = n / 64 := by omega
  have e2 := or192 ((n : Int) / 64) (by omega)
  obtain ⟨⟨c0, c1, c2, c3⟩, f0, f1, f2, f3⟩ := rcell hR
  have hlt := lt_of_cell c0
  have hlt' : ¬ R = w.heap.size := by simp at hlt; omega
  clear hk h
  go_enter Tryz.func139, Tryz.ntmps139
  go_wp2_with fail
  refine hw.mono ?_
  rintro e w1 ⟨rfl, rfl⟩
  go_wp2_with fail
  refine (unhide g0).mono ?_
  rintro e w1 ⟨rfl, rfl⟩
  go_wp2
  go_ret
  exact ⟨rfl, rfl⟩

set_option maxRecDepth 100000 in
theorem room3 (n : Nat) (w : World) (R : Nat) (h : 2048 ≤ n ∧ n < 65536) (hR : w.heap[R]? = some zero4) :
    Calls Tryz.prog 139 #[.slice (some ⟨R, 0, none⟩) 0 4, .int .i32 n] w fun e w' => e = .returned (.slice (some ⟨R, 0, none⟩) 3 4) ∧ w' = (((w.setCell ⟨R, 0, none⟩ (.int .u8 (224 + (n : Int) / 4096))).setCell ⟨R, 1, none⟩ (.int .u8 (128 + (n : Int) / 64 % 64))).setCell ⟨R, 2, none⟩ (.int .u8 (128 + (n : Int) % 64))).alloc (.cells #[.int .u8 (224 + (n : Int) / 4096), .int .u8 (128 + (n : Int) / 64 % 64), .int .u8 (128 + (n : Int) % 64)] 5) := by
  have hk : wd n = 3 := by rw [wd_eq]; repeat (split <;> try omega)
  have hw := width_any n w (by omega)
  rw [hk] at hw
  have g0 := hide (next_any (n / 64) w)
  have g1 := hide (next_any (n) w)
  have e1 : (n : Int) / 4096 % 256 = n / 4096 := by omega
  have e2 := or224 ((n : Int) / 4096) (by omega)
  obtain ⟨⟨c0, c1, c2, c3⟩, f0, f1, f2, f3⟩ := rcell hR
  have hlt := lt_of_cell c0
  have hlt' : ¬ R = w.heap.size := by simp at hlt; omega
  clear hk h
  go_enter Tryz.func139, Tryz.ntmps139
  go_wp2_with fail
  refine hw.mono ?_
  rintro e w1 ⟨rfl, rfl⟩
  go_wp2_with fail
  refine (unhide g0).mono ?_
  rintro e w1 ⟨rfl, rfl⟩
  go_wp2_with fail
  refine (unhide g1).mono ?_
  rintro e w1 ⟨rfl, rfl⟩
  go_wp2
  go_ret
  exact ⟨rfl, rfl⟩

set_option maxRecDepth 100000 in
theorem room4 (n : Nat) (w : World) (R : Nat) (h : 65536 ≤ n ∧ n ≤ 1114111) (hR : w.heap[R]? = some zero4) :
    Calls Tryz.prog 139 #[.slice (some ⟨R, 0, none⟩) 0 4, .int .i32 n] w fun e w' => e = .returned (.slice (some ⟨R, 0, none⟩) 4 4) ∧ w' = ((((w.setCell ⟨R, 0, none⟩ (.int .u8 (240 + (n : Int) / 262144))).setCell ⟨R, 1, none⟩ (.int .u8 (128 + (n : Int) / 4096 % 64))).setCell ⟨R, 2, none⟩ (.int .u8 (128 + (n : Int) / 64 % 64))).setCell ⟨R, 3, none⟩ (.int .u8 (128 + (n : Int) % 64))).alloc (.cells #[.int .u8 (240 + (n : Int) / 262144), .int .u8 (128 + (n : Int) / 4096 % 64), .int .u8 (128 + (n : Int) / 64 % 64), .int .u8 (128 + (n : Int) % 64)] 5) := by
  have hk : wd n = 4 := by rw [wd_eq]; repeat (split <;> try omega)
  have hw := width_any n w (by omega)
  rw [hk] at hw
  have g0 := hide (next_any (n / 4096) w)
  have g1 := hide (next_any (n / 64) w)
  have g2 := hide (next_any (n) w)
  have e1 : (n : Int) / 262144 % 256 = n / 262144 := by omega
  have e2 := or240 ((n : Int) / 262144) (by omega)
  obtain ⟨⟨c0, c1, c2, c3⟩, f0, f1, f2, f3⟩ := rcell hR
  have hlt := lt_of_cell c0
  have hlt' : ¬ R = w.heap.size := by simp at hlt; omega
  clear hk h
  go_enter Tryz.func139, Tryz.ntmps139
  go_wp2_with fail
  refine hw.mono ?_
  rintro e w1 ⟨rfl, rfl⟩
  go_wp2_with fail
  refine (unhide g0).mono ?_
  rintro e w1 ⟨rfl, rfl⟩
  go_wp2_with fail
  refine (unhide g1).mono ?_
  rintro e w1 ⟨rfl, rfl⟩
  go_wp2_with fail
  refine (unhide g2).mono ?_
  rintro e w1 ⟨rfl, rfl⟩
  go_wp2
  go_ret
  exact ⟨rfl, rfl⟩

/-- cells laid one behind the other. -/
def fill (R : Nat) : List Value → Nat → World → World
  | [], _, w => w
  | x :: l, i, w => fill R l (i + 1) (w.setCell ⟨R, i, none⟩ x)
abbrev Wr (w : World) (R n : Nat) : World := (fill R (cells (Ut.enc n)) 0 w).alloc (.cells (cells (Ut.enc n)).toArray 5)
theorem room_any (n : Nat) (w : World) (R : Nat) (h : n ≤ 1114111) (hR : w.heap[R]? = some zero4) :
    Calls Tryz.prog 139 #[.slice (some ⟨R, 0, none⟩) 0 4, .int .i32 n] w fun e w' => e = .returned (.slice (some ⟨R, 0, none⟩) (wd n) 4) ∧ w' = Wr w R n := by
  by_cases h1 : n < 128
  · have := room1 n w R h1 hR
    have hl : cells (Ut.enc n) = [.int .u8 n] := by
      unfold Ut.enc
      rw [if_pos h1]
      simp only [cells, List.map_cons, List.map_nil, Ut.bn n (by omega)]
    rw [Wr, hl, show wd n = 1 by rw [wd_eq, if_pos h1]]
    exact this
  by_cases h2 : n < 2048
  · have := room2 n w R ⟨by omega, h2⟩ hR
    have hl : cells (Ut.enc n) = [.int .u8 (192 + (n : Int) / 64), .int .u8 (128 + (n : Int) % 64)] := by
      unfold Ut.enc
      rw [if_neg (by omega), if_pos h2]
      simp only [cells, List.map_cons, List.map_nil, Ut.bn _ (show 192 + n / 64 < 256 by omega), Ut.bn _ (show 128 + n % 64 < 256 by omega)]
      rfl
    rw [Wr, hl, show wd n = 2 by rw [wd_eq, if_neg h1, if_pos h2]]
    exact this
  by_cases h3 : n < 65536
  · have := room3 n w R ⟨by omega, h3⟩ hR
    have hl : cells (Ut.enc n) = [.int .u8 (224 + (n : Int) / 4096), .int .u8 (128 + (n : Int) / 64 % 64), .int .u8 (128 + (n : Int) % 64)] := by
      unfold Ut.enc
      rw [if_neg (by omega), if_neg (by omega), if_pos h3]
      simp only [cells, List.map_cons, List.map_nil, Ut.bn _ (show 224 + n / 4096 < 256 by omega), Ut.bn _ (show 128 + n / 64 % 64 < 256 by omega), Ut.bn _ (show 128 + n % 64 < 256 by omega)]
      rfl
    rw [Wr, hl, show wd n = 3 by rw [wd_eq, if_neg h1, if_neg h2, if_pos h3]]
    exact this
  · have := room4 n w R ⟨by omega, h⟩ hR
    have hl : cells (Ut.enc n) = [.int .u8 (240 + (n : Int) / 262144), .int .u8 (128 + (n : Int) / 4096 % 64), .int .u8 (128 + (n : Int) / 64 % 64), .int .u8 (128 + (n : Int) % 64)] := by
      unfold Ut.enc
      rw [if_neg (by omega), if_neg (by omega), if_neg (by omega)]
      simp only [cells, List.map_cons, List.map_nil, Ut.bn _ (show 240 + n / 262144 < 256 by omega), Ut.bn _ (show 128 + n / 4096 % 64 < 256 by omega), Ut.bn _ (show 128 + n / 64 % 64 < 256 by omega), Ut.bn _ (show 128 + n % 64 < 256 by omega)]
      rfl
    rw [Wr, hl, show wd n = 4 by rw [wd_eq, if_neg h1, if_neg h2, if_neg h3]]
    exact this

theorem fill_size (R : Nat) : ∀ (l : List Value) (i : Nat) (w : World), (fill R l i w).heap.size = w.heap.size
  | [], _, _ => rfl
  | x :: l, i, w => by rw [fill, fill_size R l]; simp
theorem fill_other (R : Nat) : ∀ (l : List Value) (i : Nat) (w : World) (k : Nat), k ≠ R → (fill R l i w).heap[k]? = w.heap[k]?
  | [], _, _, _, _ => rfl
  | x :: l, i, w, k, h => by rw [fill, fill_other R l _ _ k h, Below.heap_setCell _ _ _ _ (by simpa using h)]
theorem fill_lt (R : Nat) : ∀ (l : List Value) (i : Nat) (w : World) (j : Nat), j < i → (fill R l i w).cell? ⟨R, j, none⟩ = w.cell? ⟨R, j, none⟩
  | [], _, _, _, _ => rfl
  | x :: l, i, w, j, h => by
    rw [fill, fill_lt R l (i + 1) _ j (by omega), World.cell?_setCell_other (h := by simp <;> omega)]
theorem fill_at (R : Nat) : ∀ (l : List Value) (i : Nat) (w : World) (k : Nat), k < l.length → (∀ q, q < l.length → (w.cell? ⟨R, i + q, none⟩).isSome) → (fill R l i w).cell? ⟨R, i + k, none⟩ = l[k]?
  | [], _, _, k, h, _ => by simp at h
  | x :: l, i, w, 0, _, hs => by
    rw [fill, fill_lt R l (i + 1) _ _ (by omega)]
    exact World.cell?_setCell_same' _ _ _ (by simpa using hs 0 (by simp))
  | x :: l, i, w, k + 1, h, hs => by
    rw [fill, show i + (k + 1) = (i + 1) + k by omega, fill_at R l (i + 1) _ k (by simpa using h) (fun q hq => ?_)]
    · rfl
    · rw [World.cell?_setCell_other (h := by simp <;> omega), show i + 1 + q = i + (q + 1) by omega]
      exact hs (q + 1) (by simp <;> omega)
theorem cells_length (l : List UInt8) : (cells l).length = l.length := by simp [cells]
theorem nums_str (l : List UInt8) : strOfNums (l.map fun x => (x.toNat : Int)) = ⟨l.toArray⟩ := by
  unfold strOfNums
  congr 1
  simp [List.map_map]
  refine (List.map_congr_left (g := id) fun x _ => ?_).trans (List.map_id _)
  simp
theorem conv_room (w : World) (R n : Nat) (hR : w.heap[R]? = some zero4) (V : World) (hV : V.heap = (Wr w R n).heap) :
    (convert 85 9 (.slice (some ⟨R, 0, none⟩) (wd n) 4)).run Tryz.prog V = .ok (.string ⟨(Ut.enc n).toArray⟩) V := by
  rw [← nums_str]
  refine run_convert_bytes_arg V _ _ Tryz.underlying85 Tryz.underlying5 R 0 (wd n) 4 ((Ut.enc n).map fun x => (x.toNat : Int)) (by simp [wd]) (fun i hi => ?_) _ Tryz.underlying9
  have hlt : R < w.heap.size := (Array.getElem?_eq_some_iff.1 hR).1
  have hb : V.cell? ⟨R, 0 + i, none⟩ = (fill R (cells (Ut.enc n)) 0 w).cell? ⟨R, 0 + i, none⟩ := by
    refine World.cell?_of_block ?_
    rw [hV]
    exact heap_alloc_old _ _ (by rw [fill_size]; exact hlt)
  have hle := Ut.enc_le n
  have hi' : i < (Ut.enc n).length := hi
  rw [hb, fill_at R _ 0 w i (by rw [cells_length]; exact hi) (fun q hq => ?_)]
  · simp only [cells, List.getElem?_map, List.getD_eq_getElem?_getD]
    rw [List.getElem?_eq_getElem hi']
    rfl
  · rw [cells_length] at hq
    obtain ⟨⟨c0, c1, c2, c3⟩, _⟩ := rcell hR
    rcases q with _ | _ | _ | _ | q
    · rw [c0]; rfl
    · rw [c1]; rfl
    · rw [c2]; rfl
    · rw [c3]; rfl
    · omega

/-- do a sign's bytes stand at a place? -/
def st (s : ByteArray) (p n : Nat) : Bool := (Ut.enc n).isPrefixOf (s.data.toList.drop p)
theorem Wr_below (w : World) (R n : Nat) (B : Nat) (hB : B ≤ R) (hs : B ≤ w.heap.size) : Below B w (Wr w R n) := by
  refine Below.alloc ?_ (by rw [fill_size]; exact hs) _
  suffices h : ∀ (l : List Value) (i : Nat) (w0 : World), Below B w w0 → Below B w (fill R l i w0) from h _ _ _ (Below.refl _ _)
  intro l
  induction l with
  | nil => intro i w0 h; exact h
  | cons x l ih => intro i w0 h; exact ih _ _ (Below.setCell (p := ⟨R, i, none⟩) h hB _)

theorem below_drewN {B : Nat} {u w : World} (h : Below B u w) (n : Nat) : Below B u (w.drewN n) := ⟨h.os, h.tape, h.output, h.size, h.block⟩
theorem heap_new (w : World) (o : Obj) : (w.alloc o).heap[w.heap.size]? = some o := World.alloc_heap_new w o
set_option maxRecDepth 100000 in
theorem stands_far (s : ByteArray) (p n : Nat) (w : World) (h : n ≤ 1114111) (hp : p ≤ s.size) (hs : s.size ≤ 1000) (hf : s.size < p + wd n) :
    Calls Tryz.prog 135 #[.agg #[.string s], .int .i64 p, .int .i32 n] w fun e w' => e = .returned (.bool false) ∧ Below w.heap.size w w' := by
  have hw := width_any n ((w.alloc (.cells #[.string s] 195)).alloc zero4) h
  have hle := Ut.enc_le n
  have hwd : (wd n : Int) ≤ 4 := by unfold wd; omega
  have he : wrap64 ((p : Int) + wd n) = p + wd n := by unfold wrap64; omega
  have hf' : decide ((p : Int) + wd n ≤ s.size) = false := decide_eq_false (by omega)
  clear hf hle
  go_enter Tryz.func135, Tryz.ntmps135
  go_wp2_with fail
  refine hw.mono ?_
  rintro e w1 ⟨rfl, rfl⟩
  go_wp2
  go_quiet (fail)
  go_wp2
  go_ret
  refine ⟨rfl, below_drewN ?_ _⟩
  repeat (refine Below.alloc ?_ (by simp <;> omega) _)
  exact Below.refl _ _

end Go.Proofs.YthfcnjcpanoldaaGreatDoor.U

/-
  What utf.text.stands answers where the text is long enough. Conditions: none.
-/
namespace Go.Proofs.YthfcnjcpanoldaaGreatDoor.U
open Go Go.RowKit

/-- what the region leaves. -/
def OutS (v : Value) (V : World) : Exit → Act → World → Prop
  | .normal, a, w => a.tmps.getD 6 undef = v ∧ a.defers = [] ∧ w = V
  | _, _, _ => False
set_option maxRecDepth 100000 in
set_option maxHeartbeats 4000000 in
theorem stands_near (s : ByteArray) (p n : Nat) (w : World) (h : n ≤ 1114111) (hs : s.size ≤ 1000) (hf : p + wd n ≤ s.size) :
    Calls Tryz.prog 135 #[.agg #[.string s], .int .i64 p, .int .i32 n] w fun e w' => e = .returned (.bool ((s.extract p (p + wd n)).toList == (Ut.enc n))) ∧ Below w.heap.size w w' := by
  have hw := width_any n ((w.alloc (.cells #[.string s] 195)).alloc zero4) h
  have hR : ((w.alloc (.cells #[.string s] 195)).alloc zero4).drew.heap[w.heap.size + 1]? = some zero4 := by
    have := heap_new (w.alloc (.cells #[.string s] 195)) zero4
    rwa [World.size_alloc] at this
  have hA := room_any n ((w.alloc (.cells #[.string s] 195)).alloc zero4).drew (w.heap.size + 1) h hR
  have hC := conv_room ((w.alloc (.cells #[.string s] 195)).alloc zero4).drew (w.heap.size + 1) n hR _ rfl
  have hS : (Wr ((w.alloc (.cells #[.string s] 195)).alloc zero4).drew (w.heap.size + 1) n).cell? ⟨w.heap.size, 0, none⟩ = some (.string s) := by
    rw [(Wr_below ((w.alloc (.cells #[.string s] 195)).alloc zero4).drew (w.heap.size + 1) n (w.heap.size + 1) (by omega) (by simp)).cell (by simp)]
    simp
  have hS0 : ((w.alloc (.cells #[.string s] 195)).alloc zero4).drew.cell? ⟨w.heap.size, 0, none⟩ = some (.string s) := by
    show ((w.alloc (.cells #[.string s] 195)).alloc zero4).cell? ⟨w.heap.size, 0, none⟩ = _
    simp
  have hB := hide (Wr_below ((w.alloc (.cells #[.string s] 195)).alloc zero4).drew (w.heap.size + 1) n w.heap.size (by omega) (by simp; omega))
  have hle := Ut.enc_le n
  have hwd : (wd n : Int) ≤ 4 := by unfold wd; omega
  have he : wrap64 ((p : Int) + wd n) = p + wd n := by unfold wrap64; omega
  have hf' : decide ((p : Int) + wd n ≤ s.size) = true := decide_eq_true (by omega)
  have hsl := fun wx => run_slice_string (P := Tryz.prog) (w := wx) 9 s .i64 .i64 (p : Int) ((p : Int) + wd n) Tryz.underlying9 (by omega) (by omega) (by omega)
  rw [show ((p : Int)).toNat = p by omega, show ((p : Int) + wd n).toNat = p + wd n by omega] at hsl
  clear hle hR
  go_enter Tryz.func135, Tryz.ntmps135
  go_wp2_with fail
  refine hw.mono ?_
  rintro e w1 ⟨rfl, rfl⟩
  go_wp2
  refine wp_mono (Q := OutS (.bool ((s.extract p (p + wd n)).toList == (Ut.enc n))) (Wr ((w.alloc (.cells #[.string s] 195)).alloc zero4).drew (w.heap.size + 1) n)) ?_ ?_
  rotate_left
  · intro e a1 V hq
    cases e with
    | normal =>
      obtain ⟨tmps, defers⟩ := a1
      obtain ⟨h1, h2, h3⟩ := hq
      dsimp only at h1 h2
      subst h2
      subst h3
      go_wp2
      go_ret
      refine ⟨congrArg _ h1, ?_⟩
      refine Below.trans ?_ (unhide hB)
      refine Below.drew ?_
      repeat (refine Below.alloc ?_ (by simp <;> omega) _)
      exact Below.refl _ _
    | _ => exact hq.elim
  refine wp_region_held (S := fun w' => w'.cell? ⟨w.heap.size, 0, none⟩ = some (.string s)) (by kernel_rfl) ?_
  change wpAnyH _ _ _ _ _ 18 #[false, false, false, false, false, false, false, false, false, false, false, false, false, false, false, false, false, false] _ ((w.alloc (.cells #[.string s] 195)).alloc zero4).drew
  refine wpAnyH_take (i := 0) (v := .int .i64 ((p : Int) + wd n)) rfl (by kernel_rfl) (by kernel_rfl) (by kernel_rfl) (fun _ _ _ h => h) (Or.inl ⟨by kernel_rfl, by intro w1 hS1; go_simp⟩) hS0 ?_
  simp only [Act.put, List.setIfInBounds_toArray, List.set_cons_zero, List.set_cons_succ, List.getElem_toArray, List.getElem_cons_zero]
  refine wpAnyH_take (i := 1) (v := .pointer (some ⟨w.heap.size, 0, none⟩)) rfl (by kernel_rfl) (by kernel_rfl) (by kernel_rfl) (fun _ _ _ h => h) (Or.inl ⟨by kernel_rfl, by intro w1 hS1; go_simp⟩) hS0 ?_
  simp only [Act.put, List.setIfInBounds_toArray, List.set_cons_zero, List.set_cons_succ, List.getElem_toArray, List.getElem_cons_zero, List.getElem_cons_succ]
  refine wpAnyH_take (i := 2) (v := .string s) rfl (by kernel_rfl) (by kernel_rfl) (by kernel_rfl) (fun _ _ _ h => h) (Or.inl ⟨by kernel_rfl, by intro w1 hS1; go_simp⟩) hS0 ?_
  simp only [Act.put, List.setIfInBounds_toArray, List.set_cons_zero, List.set_cons_succ, List.getElem_toArray, List.getElem_cons_zero, List.getElem_cons_succ]
  refine wpAnyH_take (i := 3) (v := .int .i64 s.size) rfl (by kernel_rfl) (by kernel_rfl) (by kernel_rfl) (fun _ _ _ h => h) (Or.inl ⟨by kernel_rfl, by intro w1 hS1; go_simp⟩) hS0 ?_
  simp only [Act.put, List.setIfInBounds_toArray, List.set_cons_zero, List.set_cons_succ, List.getElem_toArray, List.getElem_cons_zero, List.getElem_cons_succ]
  refine wpAnyH_take (i := 4) (v := .bool true) rfl (by kernel_rfl) (by kernel_rfl) (by kernel_rfl) (fun _ _ _ h => h) (Or.inl ⟨by kernel_rfl, by intro w1 hS1; go_simp⟩) hS0 ?_
  simp only [Act.put, List.setIfInBounds_toArray, List.set_cons_zero, List.set_cons_succ, List.getElem_toArray, List.getElem_cons_zero, List.getElem_cons_succ]
  refine wpAnyH_take (i := 5) (v := .bool true) rfl (by kernel_rfl) (by kernel_rfl) (by kernel_rfl) (fun _ _ _ h => h) (Or.inl ⟨by kernel_rfl, by intro w1 hS1; go_simp⟩) hS0 ?_
  simp only [Act.put, List.setIfInBounds_toArray, List.set_cons_zero, List.set_cons_succ, List.getElem_toArray, List.getElem_cons_zero, List.getElem_cons_succ]
  refine wpAnyH_take (i := 6) (v := .pointer (some ⟨w.heap.size, 0, none⟩)) rfl (by kernel_rfl) (by kernel_rfl) (by kernel_rfl) (fun _ _ _ h => h) (Or.inl ⟨by kernel_rfl, by intro w1 hS1; go_simp⟩) hS0 ?_
  simp only [Act.put, List.setIfInBounds_toArray, List.set_cons_zero, List.set_cons_succ, List.getElem_toArray, List.getElem_cons_zero, List.getElem_cons_succ]
  refine wpAnyH_take (i := 7) (v := .string s) rfl (by kernel_rfl) (by kernel_rfl) (by kernel_rfl) (fun _ _ _ h => h) (Or.inl ⟨by kernel_rfl, by intro w1 hS1; go_simp⟩) hS0 ?_
  simp only [Act.put, List.setIfInBounds_toArray, List.set_cons_zero, List.set_cons_succ, List.getElem_toArray, List.getElem_cons_zero, List.getElem_cons_succ]
  refine wpAnyH_take (i := 8) (v := .int .i64 p) rfl (by kernel_rfl) (by kernel_rfl) (by kernel_rfl) (fun _ _ _ h => h) (Or.inl ⟨by kernel_rfl, by intro w1 hS1; go_simp⟩) hS0 ?_
  simp only [Act.put, List.setIfInBounds_toArray, List.set_cons_zero, List.set_cons_succ, List.getElem_toArray, List.getElem_cons_zero, List.getElem_cons_succ]
  refine wpAnyH_take (i := 9) (v := .int .i64 ((p : Int) + wd n)) rfl (by kernel_rfl) (by kernel_rfl) (by kernel_rfl) (fun _ _ _ h => h) (Or.inl ⟨by kernel_rfl, by intro w1 hS1; go_simp⟩) hS0 ?_
  simp only [Act.put, List.setIfInBounds_toArray, List.set_cons_zero, List.set_cons_succ, List.getElem_toArray, List.getElem_cons_zero, List.getElem_cons_succ]
  refine wpAnyH_take (i := 10) (v := .string (s.extract p (p + wd n))) rfl (by kernel_rfl) (by kernel_rfl) (by kernel_rfl) (fun _ _ _ h => h) (Or.inl ⟨by kernel_rfl, by intro w1 hS1; go_simp⟩) hS0 ?_
  simp only [Act.put, List.setIfInBounds_toArray, List.set_cons_zero, List.set_cons_succ, List.getElem_toArray, List.getElem_cons_zero, List.getElem_cons_succ]
  refine wpAnyH_take (i := 11) (v := .slice (some ⟨w.heap.size + 1, 0, none⟩) 0 4) rfl (by kernel_rfl) (by kernel_rfl) (by kernel_rfl) (fun _ _ _ h => h) (Or.inl ⟨by kernel_rfl, by intro w1 hS1; go_simp⟩) hS0 ?_
  simp only [Act.put, List.setIfInBounds_toArray, List.set_cons_zero, List.set_cons_succ, List.getElem_toArray, List.getElem_cons_zero, List.getElem_cons_succ]
  refine wpAnyH_take (i := 12) (v := .int .i32 n) rfl (by kernel_rfl) (by kernel_rfl) (by kernel_rfl) (fun _ _ _ h => h) (Or.inl ⟨by kernel_rfl, by intro w1 hS1; go_simp⟩) hS0 ?_
  simp only [Act.put, List.setIfInBounds_toArray, List.set_cons_zero, List.set_cons_succ, List.getElem_toArray, List.getElem_cons_zero, List.getElem_cons_succ]
  refine wpAnyH_ready (rs := [13]) (by kernel_rfl) (by simp) ?_
  refine AllReadyH.cons rfl (fun K hK => ?_) AllReadyH.nil
  rw [if_pos (by kernel_rfl)]
  go_wp2_with fail
  refine hA.mono ?_
  rintro e w' ⟨rfl, rfl⟩
  go_wp2
  refine hK.out _ _ hS (fun _ => ?_)
  clear hK K
  simp only [List.setIfInBounds_toArray, List.set_cons_zero, List.set_cons_succ]
  refine wpAnyH_ready (rs := [14]) (by kernel_rfl) (by simp) ?_
  refine AllReadyH.cons rfl (fun K hK => ?_) AllReadyH.nil
  rw [if_pos (by kernel_rfl)]
  go_simp
  refine hK.out _ _ hS (fun _ => ?_)
  clear hK K
  simp only [List.setIfInBounds_toArray, List.set_cons_zero, List.set_cons_succ]
  refine wpAnyH_take (i := 15) (v := .bool ((s.extract p (p + wd n)).toList == (Ut.enc n))) rfl (by kernel_rfl) (by kernel_rfl) (by kernel_rfl) (fun _ _ _ h => h) (Or.inl ⟨by kernel_rfl, by intro w1 hS1; go_simp⟩) hS ?_
  simp only [Act.put, List.setIfInBounds_toArray, List.set_cons_zero, List.set_cons_succ, List.getElem_toArray, List.getElem_cons_zero, List.getElem_cons_succ]
  refine wpAnyH_take (i := 16) (v := .bool ((s.extract p (p + wd n)).toList == (Ut.enc n))) rfl (by kernel_rfl) (by kernel_rfl) (by kernel_rfl) (fun _ _ _ h => h) (Or.inl ⟨by kernel_rfl, by intro w1 hS1; go_simp⟩) hS ?_
  simp only [Act.put, List.setIfInBounds_toArray, List.set_cons_zero, List.set_cons_succ, List.getElem_toArray, List.getElem_cons_zero, List.getElem_cons_succ]
  refine wpAnyH_take (i := 17) (v := .bool ((s.extract p (p + wd n)).toList == (Ut.enc n))) rfl (by kernel_rfl) (by kernel_rfl) (by kernel_rfl) (fun _ _ _ h => h) (Or.inl ⟨by kernel_rfl, by intro w1 hS1; go_simp⟩) hS ?_
  simp only [Act.put, List.setIfInBounds_toArray, List.set_cons_zero, List.set_cons_succ, List.getElem_toArray, List.getElem_cons_zero, List.getElem_cons_succ]
  refine wpAnyH_done (by kernel_rfl) ?_ _
  exact ⟨rfl, rfl, rfl⟩

theorem extract_toList (s : ByteArray) (p q : Nat) : (s.extract p q).toList = (s.data.toList.drop p).take (q - p) := by
  rw [ByteArray.toList_eq]
  simp [ByteArray.data_extract]
theorem st_near (s : ByteArray) (p n : Nat) : ((s.extract p (p + wd n)).toList == (Ut.enc n)) = st s p n := by
  rw [extract_toList, show p + wd n - p = (Ut.enc n).length by unfold wd; omega, Bool.eq_iff_iff, beq_iff_eq]
  unfold st
  rw [List.isPrefixOf_iff_prefix, List.prefix_iff_eq_take, eq_comm]
theorem st_far (s : ByteArray) (p n : Nat) (hp : p ≤ s.size) (h : s.size < p + wd n) : st s p n = false := by
  rw [Bool.eq_false_iff]
  unfold st
  rw [Ne, List.isPrefixOf_iff_prefix]
  intro hx
  have := hx.length_le
  have e : s.data.toList.length = s.size := by rw [Array.length_toList]; rfl
  rw [List.length_drop, e] at this
  unfold wd at h
  omega
theorem stands_any (s : ByteArray) (p n : Nat) (w : World) (h : n ≤ 1114111) (hp : p ≤ s.size) (hs : s.size ≤ 1000) :
    Calls Tryz.prog 135 #[.agg #[.string s], .int .i64 p, .int .i32 n] w fun e w' => e = .returned (.bool (st s p n)) ∧ Below w.heap.size w w' := by
  by_cases hf : p + wd n ≤ s.size
  · rw [← st_near]
    exact stands_near s p n w h hs hf
  · rw [st_far s p n hp (by omega)]
    exact stands_far s p n w h hp hs (by omega)
end Go.Proofs.YthfcnjcpanoldaaGreatDoor.U

/-
  What the rules of package utf answer: isTold, isPlain, mayBegin, mayEnd. Conditions: the package-level variables hold what the program's text lays ('Glob').
-/
namespace Go.Proofs.YthfcnjcpanoldaaGreatDoor.U
open Go Go.RowKit

/-- The package-level variables hold what the program's text lays. -/
structure Glob (aU aS : Addr) (w : World) : Prop where
  ty : w.cell? ⟨4, 0, none⟩ = some (.iface 135 (.agg #[.pointer (some ⟨12, 45, none⟩)]))
  ut : w.cell? ⟨8, 0, none⟩ = some (.iface 219 (.pointer (some aU)))

theorem Glob.below {aU aS : Addr} {w w' : World} (g : Glob aU aS w) {B : Nat} (hB : w.heap.size ≤ B) (h : Below B w w') : Glob aU aS w' := by
  obtain ⟨ty, ut⟩ := g
  refine ⟨?_, ?_⟩
  · rw [h.cell (Nat.lt_of_lt_of_le (lt_of_cell ty) hB)]; exact ty
  · rw [h.cell (Nat.lt_of_lt_of_le (lt_of_cell ut) hB)]; exact ut
theorem Glob.alloc {aU aS : Addr} {w : World} (g : Glob aU aS w) (o : Obj) : Glob aU aS (w.alloc o) :=
  g.below (Nat.le_refl _) ((Below.refl _ _).alloc (Nat.le_refl _) _)

/-- an error, or none. -/
def er (b : Bool) (a : Addr) : Value := if b then .nilIface else .iface 219 (.pointer (some a))

theorem isTold_any (s : ByteArray) (p n : Nat) (aU aS : Addr) (w : World) (g : Glob aU aS w) (h : n ≤ 1114111) (hp : p ≤ s.size) (hs : s.size ≤ 1000) :
    Calls Tryz.prog 132 #[.agg #[.string s], .int .i64 p, .int .i32 n] w fun e w' => e = .returned (er (st s p n) aU) ∧ Below w.heap.size w w' := by
  have H := stands_any s p n (w.alloc (.cells #[.string s] 195)) h hp hs
  have g1 := g.alloc (.cells #[.string s] 195)
  have H' := H.mono (R' := fun e w' => e = .returned (.bool (st s p n)) ∧ Hid (Below w.heap.size w w') ∧ w'.cell? ⟨8, 0, none⟩ = some (.iface 219 (.pointer (some aU))))
    (fun e w' ⟨he, hb⟩ => ⟨he, hide (((Below.refl _ _).alloc (Nat.le_refl _) _).trans (hb.mono (by simp))), (g1.below (Nat.le_refl _) hb).ut⟩)
  clear H g g1
  generalize st s p n = b at *
  cases b
  · go_enter Tryz.func132, Tryz.ntmps132
    go_wp2_with fail
    refine H'.mono ?_
    rintro e w1 ⟨rfl, hb, hc⟩
    go_wp2
    go_ret
    exact ⟨rfl, unhide hb⟩
  · go_enter Tryz.func132, Tryz.ntmps132
    go_wp2_with fail
    refine H'.mono ?_
    rintro e w1 ⟨rfl, hb, hc⟩
    go_wp2
    go_ret
    exact ⟨rfl, unhide hb⟩

/-- may a sign stand in a line? -/
def plain (n : Nat) : Bool := !(n == 0 || n == 10 || n == 13 || decide (128 ≤ n))
def begins (p n : Nat) : Bool := !(p == 0 && (n == 32 || n == 58 || n == 60))
def ends (s : ByteArray) (p n : Nat) : Bool := !(decide ((p : Int) = (s.size : Int) - 1) && n == 32)

theorem beq_cast (a c : Nat) : ((a : Int) == (c : Int)) = (a == c) := by
  rw [Bool.eq_iff_iff, beq_iff_eq, beq_iff_eq]
  omega

end Go.Proofs.YthfcnjcpanoldaaGreatDoor.U

/-
  The iterator of package utf: 'text.signs' hands over what a range over the text gives, each with its place. Conditions: none.
-/
namespace Go.Proofs.YthfcnjcpanoldaaGreatDoor.U
open Go Go.RowKit Go.Shelf
attribute [local go_sem] Oper.semAt_some

theorem dec_pos (s : ByteArray) (p : Nat) (h : p < s.size) : 1 ≤ (Utf8.decode s p).2 := by
  rw [Ut.decode_eq s p h]
  cases Ut.dc (s.data.toList.drop p) with
  | none => exact Nat.le_refl _
  | some c => exact Ut.enc_pos c
theorem dec_le (s : ByteArray) (p : Nat) (h : p < s.size) : (Utf8.decode s p).1 ≤ 1114111 := by
  rw [Ut.decode_eq s p h]
  cases hd : Ut.dc (s.data.toList.drop p) with
  | none => show 65533 ≤ 1114111; omega
  | some c => exact (Ut.dc_some hd).1.1
/-- a place of a text, and what is read there. -/
structure Sg (s : ByteArray) where
  p : Nat
  n : Nat
  hp : p < s.size
  hn : n ≤ 1114111
/-- what a range over a text gives from a place on. -/
def al (s : ByteArray) : Nat → Nat → List (Sg s)
  | 0, _ => []
  | f + 1, p => if h : p < s.size then ⟨p, (Utf8.decode s p).1, h, dec_le s p h⟩ :: al s f (p + (Utf8.decode s p).2) else []
def all (s : ByteArray) : List (Sg s) := al s s.size 0
theorem al_cons (s : ByteArray) (f p : Nat) (h : p < s.size) (hf : s.size ≤ p + f) : ∃ f', f = f' + 1 ∧ al s f p = ⟨p, (Utf8.decode s p).1, h, dec_le s p h⟩ :: al s f' (p + (Utf8.decode s p).2) ∧ s.size ≤ p + (Utf8.decode s p).2 + f' := by
  cases f with
  | zero => omega
  | succ f => exact ⟨f, rfl, by rw [al, dif_pos h], by have := dec_pos s p h; omega⟩
theorem al_end (s : ByteArray) (f p : Nat) (h : ¬ p < s.size) : al s f p = [] := by
  cases f with
  | zero => rfl
  | succ f => rw [al, dif_neg h]

theorem run_next_at (w : World) (B : Nat) (s : ByteArray) (p : Nat) (ty : TypeId) (hB : w.heap[B]? = some (.stringIter s p)) (h : p < s.size) :
    (Instr.next (.pointer (some ⟨B, 0, none⟩)) true ty).run Tryz.prog w = .ok (.tuple #[.bool true, .int .i64 p, .int .i32 (Utf8.decode s p).1]) (w.putObj B (.stringIter s (p + (Utf8.decode s p).2))) := by
  simp only [Instr.next, getObj, setObj, Sem.run_bind, Sem.run, hB, Result.andThen, h, if_true]
  simp [goInt, World.putObj]
theorem run_next_over (w : World) (B : Nat) (s : ByteArray) (p : Nat) (ty : TypeId) (hB : w.heap[B]? = some (.stringIter s p)) (h : ¬ p < s.size) :
    (Instr.next (.pointer (some ⟨B, 0, none⟩)) true ty).run Tryz.prog w = .ok (.tuple #[.bool false]) w := by
  simp only [Instr.next, getObj, Sem.run_bind, Sem.run, hB, Result.andThen, h, if_false]
  simp

theorem signs_any (s : ByteArray) (w : World) :
    Calls Tryz.prog 137 #[.agg #[.string s]] w fun e w' => e = .returned (.func (.func 142) #[] #[.pointer (some ⟨w.heap.size, 0, none⟩)]) ∧ w' = w.alloc (.cells #[.string s] 195) := by
  go_enter Tryz.func137, Tryz.ntmps137
  go_wp2
  go_ret
  exact ⟨rfl, rfl⟩

set_option maxRecDepth 100000 in
set_option maxHeartbeats 2000000 in
theorem signs1_stops (n : Nat) (hn : 1 ≤ n) (Bs : Nat) (s : ByteArray) (w : World)
    (hBs : w.cell? ⟨Bs, 0, none⟩ = some (.string s)) :
    SeqStopsK Fence.wide n Tryz.prog 142 #[.pointer (some ⟨Bs, 0, none⟩)] (fun x : Sg s => #[.int .i64 x.p, .int .i32 x.n]) KeepsWalks
      (fun xs => xs = all s) (fun pre => pre <+: all s) s.size w := fun l J Jx W hW hJ hJx hY h0 => by
  have hbs := (hW.cell (p := ⟨Bs, 0, none⟩) (lt_of_cell hBs)).trans hBs
  clear hBs hW
  refine callsIn_of_wp Tryz.func142 rfl trivial ?_ rfl
  simp only [Tryz.ntmps142, List.size_toArray, List.length_cons, List.length_nil, Nat.reduceAdd, Nat.reduceSub, Array.replicate_succ, Array.replicate_zero, List.push_toArray, List.append_toArray, List.nil_append, List.cons_append]
  gi_wp2
  gi_loopw [3] (fun _ wr => ∃ (pre : List (Sg s)) (f p : Nat), pre ++ al s f p = all s ∧ s.size ≤ p + f ∧ pre.length ≤ p ∧ wr.heap[W.heap.size]? = some (.stringIter s p) ∧ J pre wr)
    (fun _ wr => s.size - wr.iterPos W.heap.size)
  case atStart =>
    exact ⟨[], s.size, 0, rfl, by omega, Nat.le_refl _, World.iter_heap W s 0, hJ [] W _ none h0 (World.grownBy_alloc _ _ _) (fun r e => by cases e)⟩
  case round =>
    obtain ⟨pre, f, p, hl, hf, hp, hit, hJs⟩ := hrel
    have hBlt : W.heap.size < wr.heap.size := (Array.getElem?_eq_some_iff.1 hit).1
    by_cases hlt : p < s.size
    · obtain ⟨f', rfl, ha, hf'⟩ := al_cons s f p hlt hf
      rw [ha] at hl
      have hpos := dec_pos s p hlt
      have hnx := fun ty => run_next_at wr W.heap.size s p ty hit hlt
      have hJ2 : J pre (wr.putObj W.heap.size (.stringIter s (p + (Utf8.decode s p).2))) :=
        hJ pre wr _ (some W.heap.size) hJs (grownBy_putObj' _ _ _) (fun r e => by cases e; exact ⟨Nat.le_refl _, _, hit, rfl⟩)
      obtain ⟨fn, tmps, assign, body, hy, hR⟩ := hY _ ⟨p, (Utf8.decode s p).1, hlt, dec_le s p hlt⟩ _ hJ2 (by omega)
      have Hl := hide hl
      have Hf := hide hf'
      have Hp := hide hp
      have Hlt := hide hlt
      have Hpos := hide hpos
      have hit2 : (wr.putObj W.heap.size (.stringIter s (p + (Utf8.decode s p).2))).heap[W.heap.size]? = some (.stringIter s (p + (Utf8.decode s p).2)) := World.putObj_heap_same hBlt
      have Hit2 := hide hit2
      have Hit := hide hit
      clear hl ha hf hf' hp hpos hit2 hit
      gi_wp2
      refine hR.mono ?_
      rintro e W3 (⟨rfl, hJ3, hk3⟩ | ⟨rfl, hJx3⟩)
      · gi_wp2
        go_roundw
        case rel =>
          refine ⟨_, f', p + (Utf8.decode s p).2, ?_, unhide Hf, ?_, hk3.same _ _ (unhide Hit2) rfl, hJ3⟩
          · rw [List.append_assoc]
            exact unhide Hl
          · have := unhide Hp
            have := unhide Hpos
            simp
            omega
        case measure =>
          have e1 : W3.iterPos W.heap.size = p + (Utf8.decode s p).2 := by simp [World.iterPos, hk3.same _ _ (unhide Hit2) rfl]
          have e2 : wr.iterPos W.heap.size = p := by simp [World.iterPos, unhide Hit]
          have := unhide Hpos
          have := unhide Hlt
          omega
      · gi_wp2
        refine bodyPost_ret (results_none rfl _ _ _) rfl ?_
        exact ⟨⟨_, rfl⟩, .inr ⟨_, ⟨al s f' (p + (Utf8.decode s p).2), by rw [List.append_assoc]; exact unhide Hl⟩, hJx3⟩⟩
    · have hnx := fun ty => run_next_over wr W.heap.size s p ty hit hlt
      rw [al_end s f p hlt, List.append_nil] at hl
      subst hl
      clear hit hf hp hlt
      gi_wp2
      go_end0
      exact ⟨⟨_, rfl⟩, .inl ⟨_, rfl, hJs⟩⟩
end Go.Proofs.YthfcnjcpanoldaaGreatDoor.U

/-
  What utf.checker.check answers: the first fault of a text by its rules. Conditions: the package-level variables hold what the program's text lays ('Glob').
-/
namespace Go.Proofs.YthfcnjcpanoldaaGreatDoor.U
open Go Go.RowKit Go.Shelf
attribute [local go_sem] Oper.semAt_some

/-- a fault at a place. -/
abbrev flt (p : Nat) (a : Addr) : Value := .iface 189 (.agg #[.int .i64 p, .iface 219 (.pointer (some a))])
/-- the first that is not as it should be. -/
def first {s : ByteArray} (ok : Nat → Nat → Bool) : List (Sg s) → Option Nat
  | [] => none
  | x :: l => if ok x.p x.n then first ok l else some x.p
/-- what the check answers. -/
def fv (a : Addr) : Option Nat → Value
  | none => .nilIface
  | some p => flt p a

theorem first_pre {s : ByteArray} {ok : Nat → Nat → Bool} : ∀ {pre l : List (Sg s)}, (∀ x ∈ pre, ok x.p x.n = true) → first ok (pre ++ l) = first ok l
  | [], _, _ => rfl
  | x :: pre, l, h => by
    rw [List.cons_append, first, if_pos (h x (by simp))]
    exact first_pre fun y hy => h y (by simp [hy])

/-- what lies in memory while the signs are gone through. -/
structure St (s : ByteArray) (rs err : Value) (w W : World) : Prop where
  box : W.heap[w.heap.size]? = some (.cells #[.string s, rs] 197)
  er : W.heap[w.heap.size + 1]? = some (.cells #[err] 45)
  bel : Below w.heap.size w W
  size : w.heap.size + 3 ≤ W.heap.size
theorem St.grown {s : ByteArray} {rs err : Value} {w W W' : World} {row : Option Nat} (h : St s rs err w W) (hg : W.grownBy W' row) (hr : ∀ r, row = some r → w.heap.size + 3 ≤ r) : St s rs err w W' := by
  have hz := h.size
  have hk : ∀ k, k < w.heap.size + 3 → W'.heap[k]? = W.heap[k]? := fun k hk => hg.block k (by omega) (fun e => by have := hr k e.symm; omega)
  exact ⟨(hk _ (by omega)).trans h.box, (hk _ (by omega)).trans h.er, ⟨hg.os.trans h.bel.os, hg.tape.trans h.bel.tape, hg.output.trans h.bel.output, Nat.le_trans h.bel.size hg.size, fun k hk' => (hk k (by omega)).trans (h.bel.block k hk')⟩, Nat.le_trans hz hg.size⟩
theorem St.below {s : ByteArray} {rs err : Value} {w W W' : World} (h : St s rs err w W) (hb : Below W.heap.size W W') : St s rs err w W' := by
  have hz := h.size
  exact ⟨(hb.block _ (by omega)).trans h.box, (hb.block _ (by omega)).trans h.er, h.bel.trans (hb.mono (by omega)), Nat.le_trans hz hb.size⟩
theorem St.cells {s : ByteArray} {rs err : Value} {w W : World} (h : St s rs err w W) : W.cell? ⟨w.heap.size, 0, none⟩ = some (.string s) ∧ W.cell? ⟨w.heap.size, 1, none⟩ = some rs ∧ W.cell? ⟨w.heap.size + 1, 0, none⟩ = some err ∧ W.frozen? ⟨w.heap.size + 1, 0, none⟩ = false := by
  have h1 := h.box
  have h2 := h.er
  simp [World.cell?, World.frozen?, h1, h2]

theorem keepsO {W W' : World} (h : Below W.heap.size W W') : KeepsOthers W W' := ⟨h.size, fun k _ hk _ => (h.block k (Array.getElem?_eq_some_iff.1 hk).1).trans hk⟩
theorem keepsW {W W' : World} (h : Below W.heap.size W W') : KeepsWalks W W' := ⟨h.size, fun k _ hk _ => (h.block k (Array.getElem?_eq_some_iff.1 hk).1).trans hk⟩
theorem St.setE {s : ByteArray} {rs err : Value} {w W : World} (h : St s rs err w W) (m : Value) : St s rs m w (W.setCell ⟨w.heap.size + 1, 0, none⟩ m) :=
  ⟨(Below.heap_setCell _ _ _ _ (by show w.heap.size ≠ w.heap.size + 1; omega)).trans h.box, heap_setCell_same W _ 0 _ _ _ h.er, h.bel.setCell (by show w.heap.size ≤ w.heap.size + 1; omega) _, by show _ ≤ (W.setCell _ _).heap.size; simp [World.setCell]; exact h.size⟩

theorem fin {w V : World} {D : Nat} {tmps : Array Value} {v : Value} {R : Ending → World → Prop} (hV : V.heap[D]? = some (.deferred (some []))) (hD : w.heap.size ≤ D) (hb : Below w.heap.size w V) (t2 : tmps.getD 2 undef = v)
    (hp : ∀ V', Below w.heap.size w V' → R (.returned v) V') :
    Exit.noGoto (bodyPostM Fence.wide 3 Tryz.prog Tryz.f134 R) Exit.ret { tmps, defers := [{ target := .collected D, args := #[] }] } V := by
  have hb' : Below w.heap.size w (V.putObj D (.deferred none)) :=
    ⟨hb.os, hb.tape, hb.output, by simpa using hb.size, fun k hk => (World.putObj_heap_other (by omega)).trans (hb.block k hk)⟩
  refine ⟨by simp, .inl ⟨_, _, rfl, run_takeDeferred hV, ?_⟩⟩
  refine ⟨v, ?_, hp _ hb'⟩
  subst t2
  simp [results, Tryz.results134, go_sem]

def ChkPost (ok : Nat → Nat → Bool) (a : Addr) (s : ByteArray) (w : World) (e : Ending) (w' : World) : Prop := e = .returned (fv a (first ok (all s))) ∧ Below w.heap.size w w'

def inv (ok : Nat → Nat → Bool) (s : ByteArray) (rs : Value) (w : World) (pre : List (Sg s)) (W : World) : Prop := (∀ x ∈ pre, ok x.p x.n = true) ∧ St s rs .nilIface w W
def outv (ok : Nat → Nat → Bool) (a : Addr) (s : ByteArray) (rs : Value) (w : World) (cd : Code) (pre : List (Sg s)) (W : World) : Prop := cd = .exit 0 ∧ ∃ l x, pre = l ++ [x] ∧ (∀ y ∈ l, ok y.p y.n = true) ∧ ok x.p x.n = false ∧ St s rs (flt x.p a) w W

set_option maxRecDepth 100000 in
set_option maxHeartbeats 2000000 in
theorem check_told (s : ByteArray) (Rb : Nat) (aU aS : Addr) (w : World) (g : Glob aU aS w) (hs : s.size ≤ 1000) (hR : w.cell? ⟨Rb, 0, none⟩ = some (.func (.func 132) #[] #[])) :
    Calls Tryz.prog 134 #[.agg #[.string s, .slice (some ⟨Rb, 0, none⟩) 1 1]] w (ChkPost (st s) aU s w) := by
  refine (callsIn_wide (n := 3)).1 ?_
  refine callsIn_of_wp_marks Tryz.func134 rfl trivial ?_ rfl
  simp only [Tryz.ntmps134, List.size_toArray, List.length_cons, List.length_nil, Nat.reduceAdd, Nat.reduceSub, Array.replicate_succ, Array.replicate_zero, List.push_toArray, List.append_toArray, List.nil_append, List.cons_append]
  refine wpIn_wide.2 ?_
  go_wp2
  refine wp_scope_straight ?_
  go_wp2
  refine wp_label ?_
  go_wp2_with (go_at_call 137; refine (signs_any s _).mono ?_; rintro e w' ⟨rfl, rfl⟩)
  obtain ⟨W0, hW0⟩ : ∃ W0, W0 = ((w.alloc (.cells #[.string s, .slice (some ⟨Rb, 0, none⟩) 1 1] 197)).alloc (.cells #[.nilIface] 45)).alloc (.cells #[.string s] 195) := ⟨_, rfl⟩
  have hz : W0.heap.size = w.heap.size + 3 := by rw [hW0]; simp
  have hSt : St s (.slice (some ⟨Rb, 0, none⟩) 1 1) .nilIface w W0 := by
    rw [hW0]
    refine ⟨?_, ?_, ((((Below.refl _ _).alloc (by simp) _).alloc (by simp <;> omega) _).alloc (by simp <;> omega) _), by simp⟩
    · rw [Below.heap_alloc _ _ _ (by simp <;> omega), Below.heap_alloc _ _ _ (by simp)]; exact World.alloc_heap_new _ _
    · rw [Below.heap_alloc _ _ _ (by simp)]; have := World.alloc_heap_new (w.alloc (.cells #[.string s, .slice (some ⟨Rb, 0, none⟩) 1 1] 197)) (.cells #[.nilIface] 45); rwa [World.size_alloc] at this
  have hBs : W0.cell? ⟨w.heap.size + 1 + 1, 0, none⟩ = some (.string s) := by
    rw [hW0, World.cell?_alloc_at _ _ _ _ (by simp)]
    rfl
  rw [← hW0]
  clear hW0
  refine (wpIn_wide (n := 3)).1 ?_
  refine wpIn_rangeFunc_ownF rfl (by omega) (gf := 142) (lb := #[.pointer (some ⟨w.heap.size + 1 + 1, 0, none⟩)]) rfl trivial (enters_of Tryz.func142 (by kernel_rfl) rfl)
    (signs1_stops (3 - 1) (by omega) (w.heap.size + 1 + 1) s W0 hBs) KeepsWalks.trans walksK_b (Below.refl _ _) (fun _ => rfl)
    (inv (st s) s (.slice (some ⟨Rb, 0, none⟩) 1 1) w) (outv (st s) aU s (.slice (some ⟨Rb, 0, none⟩) 1 1) w)
    (fun pre A B row hs hg hr => ⟨hs.1, hs.2.grown hg (fun r e => by have := (hr r e).1; omega)⟩)
    (fun cd pre A B row hs hg hr => by
      obtain ⟨e1, l, x, h1, h2, h3, hst⟩ := hs
      exact ⟨e1, l, x, h1, h2, h3, hst.grown hg (fun r e => by have := (hr r e).1; omega)⟩)
    ⟨by simp, hSt⟩
    (fun x => { tmps := #[.agg #[.string s, .slice (some ⟨Rb, 0, none⟩) 1 1], .pointer (some ⟨w.heap.size, 0, none⟩), .nilIface, .pointer (some ⟨w.heap.size + 1, 0, none⟩), .int .i64 x.p, .int .i32 x.n, undef, undef, undef, .pointer (some ⟨w.heap.size, 0, none⟩), .agg #[.string s], .func (.func 142) #[] #[.pointer (some ⟨w.heap.size + 1 + 1, 0, none⟩)], .int .i64 x.p, .int .i32 x.n,
      undef, undef, undef, undef, undef, undef, undef, undef, undef, undef, undef, undef, undef, undef, undef, undef, undef, undef, undef, undef, undef], defers := [] }) ?assign ?body ?done ?stop
  case assign =>
    intro l x W K hK
    gi_wp2
    exact hK
  case body =>
    rintro l pre x W ⟨hpl, hst⟩ hN
    go_light
    obtain ⟨c0, c1, c2, c3⟩ := hst.cells
    have hr0 : W.cell? ⟨Rb, 0, none⟩ = some (.func (.func 132) #[] #[]) := (hst.bel.cell (lt_of_cell hR)).trans hR
    have gW := g.below (Nat.le_refl _) hst.bel
    have Hst := hide hst
    clear hst
    have H0 := isTold_any s x.p x.n aU aS W gW x.hn (Nat.le_of_lt x.hp) hs
    have hpl' := hide hpl
    clear hpl hN g gW hBs hSt hR
    gi_wp2
    refine wpIn_loop_rounds 2 ?_
    rw [roundsIn_succ]
    by_cases hok : st s x.p x.n = true
    · rw [hok] at H0
      have Hok := hide hok
      clear hok
      gi_wp2_with fail
      refine ⟨trivial, (CallsIn.inRound _ (callsIn_wide.2 H0)).mono ?_⟩
      rintro e w' ⟨rfl, hb⟩
      unfold er
      have hst2 := (unhide Hst).below hb
      obtain ⟨d0, d1, d2, d3⟩ := hst2.cells
      have Hst2 := hide hst2
      have Hb := hide hb
      clear hst2 hb
      gi_wp2
      rw [roundsIn_succ]
      gi_wp2
      refine ⟨keepsO (unhide Hb), keepsW (unhide Hb), ?_, unhide Hst2⟩
      intro y hy
      rcases List.mem_append.1 hy with hy | hy
      · exact unhide hpl' y hy
      · rw [List.mem_singleton.1 hy]; exact unhide Hok
    · have hok' : st s x.p x.n = false := by simpa using hok
      rw [hok'] at H0
      have Hok := hide hok'
      clear hok hok'
      gi_wp2_with fail
      refine ⟨trivial, (CallsIn.inRound _ (callsIn_wide.2 H0)).mono ?_⟩
      rintro e w' ⟨rfl, hb⟩
      unfold er
      have hst2 := (unhide Hst).below hb
      obtain ⟨d0, d1, d2, d3⟩ := hst2.cells
      have Hst2 := hide hst2
      have Hb := hide hb
      clear hst2 hb
      gi_wp2
      exact ⟨(keepsO (unhide Hb)).trans (KeepsOthers.setCell _ _ _), rfl, pre, x, rfl, unhide hpl', unhide Hok, (unhide Hst2).setE _⟩
  case done =>
    rintro D ys W hD rfl ⟨hpl, hst⟩ hK
    obtain ⟨c0, c1, c2, c3⟩ := hst.cells
    have Hst := hide hst
    have HK := hide hK
    have hpl' := hide hpl
    clear hst hK hpl hBs hSt hR g
    go_wp2
    refine fin (unhide HK) (by omega) (unhide Hst).bel rfl fun V' hb => ⟨?_, hb⟩
    have := first_pre (ok := st s) (pre := all s) (l := []) (unhide hpl')
    rw [List.append_nil] at this
    rw [this]
    rfl
  case stop =>
    rintro D cd pre W hD hpre ⟨rfl, l, x, rfl, hl, hx, hst⟩ hK
    refine wpIn_exit ?_
    obtain ⟨c0, c1, c2, c3⟩ := hst.cells
    have Hst := hide hst
    have HK := hide hK
    have Hl := hide hl
    have Hx := hide hx
    have Hp := hide hpre
    clear hst hK hl hx hpre hBs hSt hR g
    go_wp2
    refine fin (unhide HK) (by omega) (unhide Hst).bel rfl fun V' hb => ⟨?_, hb⟩
    obtain ⟨t, ht⟩ := unhide Hp
    rw [← ht, List.append_assoc, first_pre (unhide Hl), List.cons_append, first, unhide Hx]
    rfl
end Go.Proofs.YthfcnjcpanoldaaGreatDoor.U

/-
  What utf.checkRight, Right and IsSafe answer. Conditions: the package-level variables hold what the program's text lays ('Glob').
-/
namespace Go.Proofs.YthfcnjcpanoldaaGreatDoor.U
open Go Go.RowKit

/-- the first place that is not right. -/
def bad (s : ByteArray) : Option Nat := first (st s) (all s)
theorem follow_any (s : ByteArray) (b n : Nat) (v : Value) (w : World) (h : Calls Tryz.prog 134 #[.agg #[.string s, .slice (some ⟨b, 0, none⟩) n n]] w fun e w' => e = .returned v ∧ Below w.heap.size w w') :
    Calls Tryz.prog 131 #[.string s, .slice (some ⟨b, 0, none⟩) n n] w fun e w' => e = .returned v ∧ Below w.heap.size w w' := by
  have H := hide h
  clear h
  go_enter Tryz.func131, Tryz.ntmps131
  go_wp2_with fail
  refine (unhide H).mono ?_
  rintro e w1 ⟨rfl, hb⟩
  have HB := hide hb
  clear hb
  go_wp2
  go_ret
  exact ⟨rfl, unhide HB⟩
theorem checkRight_any (s : ByteArray) (aU aS : Addr) (w : World) (g : Glob aU aS w) (hs : s.size ≤ 1000) :
    Calls Tryz.prog 129 #[.string s] w fun e w' => e = .returned (fv aU (bad s)) ∧ Below w.heap.size w w' := by
  have H := follow_any s _ _ _ _ (check_told s w.heap.size aU aS (w.alloc (.cells #[.func (.func 132) #[] #[]] 203)) (g.alloc _) hs (by simp))
  have H2 := hide H
  clear H g
  go_enter Tryz.func129, Tryz.ntmps129
  go_wp2_with fail
  refine (unhide H2).mono ?_
  rintro e w1 ⟨rfl, hb⟩
  have HB := hide hb
  clear hb
  go_wp2
  go_ret
  exact ⟨rfl, ((Below.refl _ _).alloc (Nat.le_refl _) _).trans ((unhide HB).mono (by simp))⟩
end Go.Proofs.YthfcnjcpanoldaaGreatDoor.U

/-
  What errors.As answers where package utf asks for a fault, and what utf.placeOf answers. Conditions: the package-level variables hold what the program's text lays.
-/
namespace Go.Proofs.YthfcnjcpanoldaaGreatDoor.U
open Go.RowKit Go.Extern.Stop Go.Stop Go.Extern

theorem vOfT2 (t : Addr) (w : World) : (ReflectliteValue.unpack (.iface 190 (.pointer (some t)))).run Tryz.prog w
    = .ok (.agg #[.pointer (some ⟨12, 190, none⟩), .pointer (some ⟨w.heap.size, 0, none⟩), .int .u64 150]) (w.alloc (.cells #[.pointer (some t)] 190)) := by kernel_rfl
theorem typeT2 (a : Addr) (w : World) : (ReflectliteValue.methodAny (ReflectliteValue.valueError "reflectlite.Value.Type" 0) (fun t _ _ _ => ReflectliteType.toType t) #[.agg #[.pointer (some ⟨12, 190, none⟩), .pointer (some a), .int .u64 150]]).run Tryz.prog w
    = .ok (.iface 135 (.agg #[.pointer (some ⟨12, 190, none⟩)])) w := by kernel_rfl
theorem kindT2 (w : World) : ((ReflectliteType.abiMethod fun t => (fun a : Nat => Value.int IntKind.u8 (a : Int)) <$> Rtype.kind t) #[.pointer (some ⟨12, 190, none⟩)]).run Tryz.prog w = .ok (.int .u8 22) w := by kernel_rfl
theorem kindE2 (w : World) : ((ReflectliteType.abiMethod fun t => (fun a : Nat => Value.int IntKind.u8 (a : Int)) <$> Rtype.kind t) #[.pointer (some ⟨12, 189, none⟩)]).run Tryz.prog w = .ok (.int .u8 25) w := by kernel_rfl
theorem partsT2 (a : Addr) (w : World) : (ReflectliteValue.parts (.agg #[.pointer (some ⟨12, 190, none⟩), .pointer (some a), .int .u64 150])).run Tryz.prog w = .ok (some (190, a, 150)) w := by kernel_rfl
theorem isNilT2 (a p : Addr) (W : World) (ha : W.cell? a = some (.pointer (some p))) :
    (ReflectliteValue.method (ReflectliteValue.valueError "reflectlite.Value.IsNil" 0) ReflectliteValue.isNil #[.agg #[.pointer (some ⟨12, 190, none⟩), .pointer (some a), .int .u64 150]]).run Tryz.prog W = .ok (.bool false) W := by
  refine run_step (partsT2 a W) ?_
  simp [ReflectliteValue.isNil, loadVar, isAgg, underlying, Tryz.underlying190, ha, Result.andThen]
theorem elemT2 (w : World) : (ReflectliteType.method ReflectliteType.elem #[.agg #[.pointer (some ⟨12, 190, none⟩)]]).run Tryz.prog w = .ok (.iface 135 (.agg #[.pointer (some ⟨12, 189, none⟩)])) w := by kernel_rfl
theorem implementsE2 (w : World) : (ReflectliteType.relation "Implements" ReflectliteType.implements_ #[.agg #[.pointer (some ⟨12, 189, none⟩)], .iface 135 (.agg #[.pointer (some ⟨12, 45, none⟩)])]).run Tryz.prog w = .ok (.bool true) w := by kernel_rfl
theorem assignF2 (w : World) : (ReflectliteType.relation "AssignableTo" ReflectliteType.assignableTo #[.agg #[.pointer (some ⟨12, 189, none⟩)], .iface 135 (.agg #[.pointer (some ⟨12, 189, none⟩)])]).run Tryz.prog w = .ok (.bool true) w := by kernel_rfl
theorem vOfE2 (x y : Value) (w : World) : (ReflectliteValue.unpack (.iface 189 (.agg #[x, y]))).run Tryz.prog w
    = .ok (.agg #[.pointer (some ⟨12, 189, none⟩), .pointer (some ⟨w.heap.size, 0, none⟩), .int .u64 153]) (w.alloc (.cells #[x, y] 189)) := by kernel_rfl
theorem elemOfT2 (w : World) : (Rtype.elem? 190).run Tryz.prog w = .ok (some 189) w := by kernel_rfl
theorem mkE2 (p : Addr) (w : World) : (ReflectliteValue.mk 189 p ReflectliteValue.flagAddr).run Tryz.prog w = .ok (.agg #[.pointer (some ⟨12, 189, none⟩), .pointer (some p), .int .u64 409]) w := by kernel_rfl
theorem elemVT2 (a p : Addr) (W : World) (ha : W.cell? a = some (.pointer (some p))) :
    (ReflectliteValue.method (ReflectliteValue.valueError "reflectlite.Value.Elem" 0) ReflectliteValue.elem #[.agg #[.pointer (some ⟨12, 190, none⟩), .pointer (some a), .int .u64 150]]).run Tryz.prog W
      = .ok (.agg #[.pointer (some ⟨12, 189, none⟩), .pointer (some p), .int .u64 409]) W := by
  refine run_step (partsT2 a W) ?_
  simp [ReflectliteValue.elem, loadVar, isAgg, underlying, Tryz.underlying190, ha, Result.andThen, elemOfT2, mkE2]
theorem partsEa2 (a : Addr) (w : World) : (ReflectliteValue.parts (.agg #[.pointer (some ⟨12, 189, none⟩), .pointer (some a), .int .u64 409])).run Tryz.prog w = .ok (some (189, a, 409)) w := by kernel_rfl
theorem partsE2 (a : Addr) (w : World) : (ReflectliteValue.parts (.agg #[.pointer (some ⟨12, 189, none⟩), .pointer (some a), .int .u64 153])).run Tryz.prog w = .ok (some (189, a, 153)) w := by kernel_rfl
theorem directE2 (w : World) : (Rtype.directlyAssignable 189 189).run Tryz.prog w = .ok true w := by kernel_rfl
theorem sizeE2 (w : World) : (sizeOf 189).run Tryz.prog w = .ok 2 w := by kernel_rfl
theorem load2 (b : Nat) (x y : Value) (W : World) (hb : W.cell? ⟨b, 0, none⟩ = some x) (hb1 : W.cell? ⟨b, 1, none⟩ = some y) : (loadCells ⟨b, 0, none⟩ 2).run Tryz.prog W = .ok #[x, y] W := by
  simp [loadCells, loadCellsFrom, hb, hb1, Addr.add, Result.andThen]
theorem setE2 (t b : Nat) (k : Int) (T : TypeId) (a : Addr) (old old1 : Value) (W : World) (hb : W.cell? ⟨b, 0, none⟩ = some (.int .i64 k)) (hb1 : W.cell? ⟨b, 1, none⟩ = some (.iface T (.pointer (some a)))) (ht : W.cell? ⟨t, 0, none⟩ = some old) (ht1 : W.cell? ⟨t, 1, none⟩ = some old1) (hf : W.frozen? ⟨t, 0, none⟩ = false) (hf1 : W.frozen? ⟨t, 1, none⟩ = false) :
    (ReflectliteValue.set #[.agg #[.pointer (some ⟨12, 189, none⟩), .pointer (some ⟨t, 0, none⟩), .int .u64 409], .agg #[.pointer (some ⟨12, 189, none⟩), .pointer (some ⟨b, 0, none⟩), .int .u64 153]]).run Tryz.prog W
      = .ok (.tuple #[]) ((W.setCell ⟨t, 0, none⟩ (.int .i64 k)).setCell ⟨t, 1, none⟩ (.iface T (.pointer (some a)))) := by
  have h1 : (W.setCell ⟨t, 0, none⟩ (.int .i64 k)).cell? ⟨t, 1, none⟩ = some old1 := by rw [World.cell?_setCell_other (h := by simp)]; exact ht1
  have h2 : (W.setCell ⟨t, 0, none⟩ (.int .i64 k)).frozen? ⟨t, 1, none⟩ = false := by simpa using hf1
  refine run_step (partsEa2 _ W) ?_
  refine run_step (partsE2 _ W) ?_
  simp [ReflectliteValue.flagAddr, loadVar, isAgg, underlying, Tryz.underlying189, load2 b _ _ W hb hb1, Result.andThen, directE2, storeVar, Value.cells, storeCells, Addr.add]
  rw [run_store Tryz.prog W _ _ _ (by rfl)]
  simp only [ht, hf, Bool.false_eq_true, if_false]
  rw [run_store Tryz.prog _ _ _ _ (by rfl)]
  simp [h1, h2]

/-- errors.as at a fault, the target a fault: it is set. -/
theorem as4 (k : Int) (T : TypeId) (a : Addr) (tg : Value) (va : Addr) (t : Nat) (old old1 : Value) (w : World) (hv : w.cell? va = some (.pointer (some ⟨t, 0, none⟩))) (ht : w.cell? ⟨t, 0, none⟩ = some old) (ht1 : w.cell? ⟨t, 1, none⟩ = some old1) (hf : w.frozen? ⟨t, 0, none⟩ = false) (hf1 : w.frozen? ⟨t, 1, none⟩ = false) :
    Calls Tryz.prog 72 #[.iface 189 (.agg #[.int .i64 k, .iface T (.pointer (some a))]), tg, .agg #[.pointer (some ⟨12, 190, none⟩), .pointer (some va), .int .u64 150], .iface 135 (.agg #[.pointer (some ⟨12, 189, none⟩)])] w
      fun e w' => e = .returned (.bool true) ∧ Below t w w' ∧ w'.cell? ⟨t, 0, none⟩ = some (.int .i64 k) := by
  have hext36 := @run_callFunc_extern Tryz.prog 73 _ ReflectliteType.typeOf Tryz.func73 (by kernel_rfl) (by kernel_rfl) (by kernel_rfl) (by kernel_rfl)
  have hext65 := @run_callFunc_extern Tryz.prog 172 _ (ReflectliteType.relation "AssignableTo" ReflectliteType.assignableTo) Tryz.func172 (by kernel_rfl) (by kernel_rfl) (by kernel_rfl) (by kernel_rfl)
  have hext39 := @run_callFunc_extern Tryz.prog 94 _ (ReflectliteValue.method (ReflectliteValue.valueError "reflectlite.Value.Elem" 0) ReflectliteValue.elem) Tryz.func94 (by kernel_rfl) (by kernel_rfl) (by kernel_rfl) (by kernel_rfl)
  have hext40 := @run_callFunc_extern Tryz.prog 95 _ ReflectliteValue.set Tryz.func95 (by kernel_rfl) (by kernel_rfl) (by kernel_rfl) (by kernel_rfl)
  have hext32 := @run_callFunc_extern Tryz.prog 69 _ (fun args => ReflectliteValue.unpack (args.getD 0 (.tuple #[]))) Tryz.func69 (by kernel_rfl) (by kernel_rfl) (by kernel_rfl) (by kernel_rfl)
  have h1 := typeOfF
  have h2 := assignF2
  have h3 := methodAssignableTo
  have h4 := vOfE2
  have hvl := lt_of_cell hv
  have htl : t < w.heap.size := lt_of_cell ht
  have el := elemVT2 va ⟨t, 0, none⟩ (w.alloc (.cells #[.pointer (some ⟨12, 190, none⟩), .pointer (some va), .int .u64 150] 107)) (by rw [World.cell?_alloc_lt _ _ va hvl]; exact hv)
  have sx := setE2 t (w.heap.size + 1) k T a old old1 ((w.alloc (.cells #[.pointer (some ⟨12, 190, none⟩), .pointer (some va), .int .u64 150] 107)).alloc (.cells #[.int .i64 k, .iface T (.pointer (some a))] 189))
    (by rw [World.cell?_alloc_at _ _ _ _ (by simp)]; rfl)
    (by rw [World.cell?_alloc_at _ _ _ _ (by simp)]; rfl)
    (by rw [World.cell?_alloc_lt _ _ _ (by simp; omega), World.cell?_alloc_lt _ _ _ htl]; exact ht)
    (by rw [World.cell?_alloc_lt _ _ _ (by simp; omega), World.cell?_alloc_lt _ _ _ htl]; exact ht1)
    (by rw [World.frozen?_alloc_old _ _ _ (by simp; omega), World.frozen?_alloc_old _ _ _ (Nat.ne_of_lt htl)]; exact hf)
    (by rw [World.frozen?_alloc_old _ _ _ (by simp; omega), World.frozen?_alloc_old _ _ _ (Nat.ne_of_lt htl)]; exact hf1)
  clear ht1 hf hf1
  go_enter Tryz.func72, Tryz.ntmps72
  go_wp2
  refine wp_loop_rounds 1 ?_
  rw [rounds_succ]
  go_wp2
  go_ret
  have hz : ((w.setCell ⟨t, 0, none⟩ (.int .i64 k)).setCell ⟨t, 1, none⟩ (.iface T (.pointer (some a)))).heap.size = w.heap.size := by simp [World.setCell]
  refine ⟨rfl, ?_, ?_⟩
  · refine Below.alloc (Below.alloc ?_ (by rw [hz]; omega) _) (by rw [World.size_alloc, hz]; omega) _
    exact Below.setCell (p := ⟨t, 1, none⟩) (Below.setCell (p := ⟨t, 0, none⟩) (Below.refl _ _) (Nat.le_refl _) _) (Nat.le_refl _) _
  · rw [World.cell?_alloc_lt _ _ _ (by rw [World.size_alloc, hz]; show t < _; omega), World.cell?_alloc_lt _ _ _ (by rw [hz]; exact htl), World.cell?_setCell_other (h := by simp)]
    exact World.cell?_setCell_same' _ _ _ (by rw [ht]; rfl)

/-- errors.As(err, &t), t a variable of fault. -/
theorem As_fault (k : Int) (T0 : TypeId) (a : Addr) (t : Nat) (old old1 : Value) (w : World)
    (hg : w.cell? ⟨4, 0, none⟩ = some (.iface 135 (.agg #[.pointer (some ⟨12, 45, none⟩)]))) (ht : w.cell? ⟨t, 0, none⟩ = some old) (ht1 : w.cell? ⟨t, 1, none⟩ = some old1) (hf : w.frozen? ⟨t, 0, none⟩ = false) (hf1 : w.frozen? ⟨t, 1, none⟩ = false) :
    Calls Tryz.prog 47 #[.iface 189 (.agg #[.int .i64 k, .iface T0 (.pointer (some a))]), .iface 190 (.pointer (some ⟨t, 0, none⟩))] w fun e w' => e = .returned (.bool true) ∧ Below t w w' ∧ w'.cell? ⟨t, 0, none⟩ = some (.int .i64 k) := by
  have hext32 := @run_callFunc_extern Tryz.prog 69 _ (fun args => ReflectliteValue.unpack (args.getD 0 (.tuple #[]))) Tryz.func69 (by kernel_rfl) (by kernel_rfl) (by kernel_rfl) (by kernel_rfl)
  have hext33 := @run_callFunc_extern Tryz.prog 70 _ (ReflectliteValue.methodAny (ReflectliteValue.valueError "reflectlite.Value.Type" 0) (fun t _ _ _ => ReflectliteType.toType t)) Tryz.func70 (by kernel_rfl) (by kernel_rfl) (by kernel_rfl) (by kernel_rfl)
  have hext34 := @run_callFunc_extern Tryz.prog 71 _ (ReflectliteValue.method (ReflectliteValue.valueError "reflectlite.Value.IsNil" 0) ReflectliteValue.isNil) Tryz.func71 (by kernel_rfl) (by kernel_rfl) (by kernel_rfl) (by kernel_rfl)
  have hext55 := @run_callFunc_extern Tryz.prog 162 _ (ReflectliteType.abiMethod fun t => do pure (.int .u8 (← Rtype.kind t))) Tryz.func162 (by kernel_rfl) (by kernel_rfl) (by kernel_rfl) (by kernel_rfl)
  have hext67 := @run_callFunc_extern Tryz.prog 174 _ (ReflectliteType.method ReflectliteType.elem) Tryz.func174 (by kernel_rfl) (by kernel_rfl) (by kernel_rfl) (by kernel_rfl)
  have hext68 := @run_callFunc_extern Tryz.prog 175 _ (ReflectliteType.relation "Implements" ReflectliteType.implements_) Tryz.func175 (by kernel_rfl) (by kernel_rfl) (by kernel_rfl) (by kernel_rfl)
  have f6 := vOfT2
  have f7 := typeT2
  have mK := methodKind
  have mE := methodElem
  have mI := methodImplements
  have k27 := kindT2
  have k25 := kindE2
  have e27 := elemT2
  have i25 := implementsE2
  have htl : t < w.heap.size := lt_of_cell ht
  have hgl := lt_of_cell hg
  have n8 := isNilT2 ⟨w.heap.size, 0, none⟩ ⟨t, 0, none⟩ ((w.alloc (.cells #[.pointer (some ⟨t, 0, none⟩)] 190)).alloc (.cells #[.pointer (some ⟨12, 190, none⟩), .pointer (some ⟨w.heap.size, 0, none⟩), .int .u64 150] 107)) (by simp)
  have hg2 : ((w.alloc (.cells #[.pointer (some ⟨t, 0, none⟩)] 190)).alloc (.cells #[.pointer (some ⟨12, 190, none⟩), .pointer (some ⟨w.heap.size, 0, none⟩), .int .u64 150] 107)).cell? ⟨4, 0, none⟩ = some (.iface 135 (.agg #[.pointer (some ⟨12, 45, none⟩)])) := by
    rw [World.cell?_alloc_lt _ _ _ (by simp at hgl ⊢; omega), World.cell?_alloc_lt _ _ _ hgl]; exact hg
  have H := as4 k T0 a (.iface 190 (.pointer (some ⟨t, 0, none⟩))) ⟨w.heap.size, 0, none⟩ t old old1 ((w.alloc (.cells #[.pointer (some ⟨t, 0, none⟩)] 190)).alloc (.cells #[.pointer (some ⟨12, 190, none⟩), .pointer (some ⟨w.heap.size, 0, none⟩), .int .u64 150] 107))
    (by simp)
    (by rw [World.cell?_alloc_lt _ _ _ (by simp; omega), World.cell?_alloc_lt _ _ _ htl]; exact ht)
    (by rw [World.cell?_alloc_lt _ _ _ (by simp; omega), World.cell?_alloc_lt _ _ _ htl]; exact ht1)
    (by rw [World.frozen?_alloc_old _ _ _ (by simp; omega), World.frozen?_alloc_old _ _ _ (Nat.ne_of_lt htl)]; exact hf)
    (by rw [World.frozen?_alloc_old _ _ _ (by simp; omega), World.frozen?_alloc_old _ _ _ (Nat.ne_of_lt htl)]; exact hf1)
  clear ht1 hf hf1
  go_enter Tryz.func47, Tryz.ntmps47
  go_wp2_with (go_at_call 72; refine H.mono ?_; rintro e w' ⟨rfl, hb, hcl⟩)
  go_ret
  exact ⟨rfl, (((Below.refl _ _).alloc (by omega) _).alloc (by simp; omega) _).trans hb, hcl⟩

theorem As_nil (v : Value) (w : World) : Calls Tryz.prog 47 #[.nilIface, v] w fun e w' => e = .returned (.bool false) ∧ w' = w := by
  go_enter Tryz.func47, Tryz.ntmps47
  go_wp2
  go_ret
  exact ⟨rfl, rfl⟩

/-- what placeOf answers. -/
def pv : Option Nat → Int
  | none => -1
  | some p => p
theorem placeOf_any (o : Option Nat) (aU aS : Addr) (w : World) (g : Glob aU aS w) :
    Calls Tryz.prog 128 #[fv aU o] w fun e w' => e = .returned (.int .i64 (pv o)) ∧ Below w.heap.size w w' := by
  cases o with
  | none =>
    unfold fv
    have H := hide fun v w' => As_nil v w'
    clear g
    go_enter Tryz.func128, Tryz.ntmps128
    go_wp2_with fail
    refine ((unhide H) _ _).mono ?_
    rintro e w1 ⟨rfl, rfl⟩
    go_wp2
    go_ret
    exact ⟨rfl, (Below.refl _ _).alloc (Nat.le_refl _) _⟩
  | some p =>
    unfold fv
    have H := hide (As_fault p 219 aU w.heap.size (.int .i64 0) .nilIface (w.alloc (.cells #[.int .i64 0, .nilIface] 189)) (g.alloc _).ty (by simp) (by simp) (by simp) (by simp))
    clear g
    go_enter Tryz.func128, Tryz.ntmps128
    go_wp2_with fail
    refine (unhide H).mono ?_
    rintro e w1 ⟨rfl, hb, hc⟩
    have HB := hide hb
    clear hb
    go_wp2
    go_ret
    exact ⟨rfl, ((Below.refl _ _).alloc (Nat.le_refl _) _).trans (unhide HB)⟩
end Go.Proofs.YthfcnjcpanoldaaGreatDoor.U

/-
  What utf.Text, Signs and Bad answer, at every input. Conditions: the package-level variables hold what the program's text lays ('Glob').
-/
namespace Go.Proofs.YthfcnjcpanoldaaGreatDoor.U
open Go Go.RowKit

theorem bad_any (s : ByteArray) (aU aS : Addr) (w : World) (g : Glob aU aS w) (hs : s.size ≤ 1000) :
    Calls Tryz.prog 121 #[.string s] w fun e w' => e = .returned (.int .i64 (pv (bad s))) ∧ Below w.heap.size w w' := by
  have H := hide (checkRight_any s aU aS w g hs)
  have H2 := hide fun w1 (hb : Below w.heap.size w w1) => placeOf_any (bad s) aU aS w1 (g.below (Nat.le_refl _) hb)
  clear g
  go_enter Tryz.func121, Tryz.ntmps121
  go_wp2_with fail
  refine (unhide H).mono ?_
  rintro e w1 ⟨rfl, hb⟩
  have HB := hide hb
  clear hb
  go_wp2_with fail
  refine ((unhide H2) _ (unhide HB)).mono ?_
  rintro e w2 ⟨rfl, hb⟩
  have HB2 := hide hb
  clear hb
  go_wp2
  go_ret
  exact ⟨rfl, (unhide HB).trans ((unhide HB2).mono (unhide HB).size)⟩

end Go.Proofs.YthfcnjcpanoldaaGreatDoor.U

/-
  What the model's range over a text says of it, plainly: where it is not right, its signs, whether it is safe. Conditions: none.
-/
namespace Go.Proofs.YthfcnjcpanoldaaGreatDoor.U
open Go

theorem len_toList (s : ByteArray) : s.data.toList.length = s.size := by rw [Array.length_toList]; rfl

theorem al_is (s : ByteArray) (r : List UInt8) (hr : Ut.dc r = none) : ∀ (cs : List Nat) (f p : Nat), s.data.toList.drop p = Ut.fl cs ++ r → (∀ c ∈ cs, Ut.sg c) → s.size ≤ p + f → p ≤ s.size →
    first (st s) (al s f p) = (if r = [] then none else some (p + (Ut.fl cs).length)) ∧ (r = [] → (al s f p).map (·.n) = cs) := by
  intro cs
  induction cs with
  | nil =>
    intro f p hd _ hf hp
    have hd' : s.data.toList.drop p = r := hd
    have hl : r.length = s.size - p := by rw [← hd', List.length_drop, len_toList]
    by_cases h0 : r = []
    · have hge : ¬ p < s.size := by rw [h0] at hl; simp at hl; omega
      rw [al_end s f p hge, if_pos h0]
      exact ⟨rfl, fun _ => rfl⟩
    · have hlt : p < s.size := by
        rcases Nat.lt_or_ge p s.size with h | h
        · exact h
        · exact absurd (List.length_eq_zero_iff.1 (by omega)) h0
      obtain ⟨f', rfl, ha, hf'⟩ := al_cons s f p hlt hf
      refine ⟨?_, fun h => absurd h h0⟩
      have hde : (Utf8.decode s p).1 = 65533 := by rw [Ut.decode_eq s p hlt, hd', hr]
      have hst : st s p (Utf8.decode s p).1 = false := by
        rw [hde, Bool.eq_false_iff]
        unfold st
        rw [hd', Ne, List.isPrefixOf_iff_prefix]
        rintro ⟨t, ht⟩
        rw [← ht, Ut.dc_enc 65533 ⟨by omega, by omega⟩] at hr
        cases hr
      rw [ha, first, if_neg (by simpa using hst), if_neg h0]
      rfl
  | cons c cs ih =>
    intro f p hd hs hf hp
    have hd' : s.data.toList.drop p = Ut.enc c ++ (Ut.fl cs ++ r) := by rw [hd]; simp [Ut.fl]
    have hc := hs c (by simp)
    have hpos := Ut.enc_pos c
    have hl : (Ut.enc c).length + (Ut.fl cs ++ r).length = s.size - p := by rw [← List.length_append, ← hd', List.length_drop, len_toList]
    have hlt : p < s.size := by omega
    obtain ⟨f', rfl, ha, hf'⟩ := al_cons s f p hlt hf
    have hde : Utf8.decode s p = (c, (Ut.enc c).length) := by rw [Ut.decode_eq s p hlt, hd', Ut.dc_enc c hc]
    have hst : st s p (Utf8.decode s p).1 = true := by
      rw [hde]
      unfold st
      rw [hd', List.isPrefixOf_iff_prefix]
      exact ⟨_, rfl⟩
    have hn : s.data.toList.drop (p + (Utf8.decode s p).2) = Ut.fl cs ++ r := by
      rw [hde, ← List.drop_drop, hd']
      simp
    obtain ⟨i1, i2⟩ := ih f' (p + (Utf8.decode s p).2) hn (fun x hx => hs x (by simp [hx])) hf' (by rw [hde]; show p + (Ut.enc c).length ≤ _; omega)
    rw [ha]
    refine ⟨?_, fun h0 => ?_⟩
    · rw [first, if_pos hst, i1]
      split
      · rfl
      · rw [hde]
        simp only [Ut.fl, List.length_append]
        congr 1
        show p + _ + _ = _
        omega
    · rw [List.map_cons, i2 h0]
      show (Utf8.decode s p).1 :: cs = _
      rw [hde]

theorem bad_is {s : ByteArray} {cs : List Nat} {r : List UInt8} (h : Ut.Is s.data.toList cs r) : bad s = if r = [] then none else some (Ut.fl cs).length := by
  have := (al_is s r h.none cs s.size 0 (by rw [List.drop_zero]; exact h.eq) h.all (by omega) (Nat.zero_le _)).1
  rw [Nat.zero_add] at this
  exact this
theorem signs_is {s : ByteArray} {cs : List Nat} (h : Ut.Is s.data.toList cs []) : (all s).map (·.n) = cs :=
  (al_is s [] h.none cs s.size 0 (by rw [List.drop_zero]; exact h.eq) h.all (by omega) (Nat.zero_le _)).2 rfl

/-- the byte at a place. -/
def at_ (s : ByteArray) (q : Nat) : Nat := Ut.g s.data.toList q
theorem at_getElem (s : ByteArray) (p : Nat) (h : p < s.size) : at_ s p = (s[p]'h).toNat := by
  unfold at_ Ut.g
  rw [List.getD_eq_getElem?_getD, List.getElem?_eq_getElem (by rw [len_toList]; exact h)]
  rfl
end Go.Proofs.YthfcnjcpanoldaaGreatDoor.U

/-
  Which texts are right, plainly. Conditions: none.
-/
namespace Go.Proofs.YthfcnjcpanoldaaGreatDoor.U
open Go

theorem mem_fl {x : UInt8} : ∀ {cs : List Nat}, x ∈ Ut.fl cs → ∃ c ∈ cs, x ∈ Ut.enc c
  | [], h => by simp [Ut.fl] at h
  | c :: cs, h => by
    rcases List.mem_append.1 h with h | h
    · exact ⟨c, by simp, h⟩
    · obtain ⟨d, hd, hx⟩ := mem_fl h
      exact ⟨d, by simp [hd], hx⟩
theorem enc_lt {c : Nat} (h : Ut.sg c) {x : UInt8} (hx : x ∈ Ut.enc c) : x.toNat < 248 := by
  obtain ⟨h, _⟩ := h
  rcases Ut.enc_cases c with ⟨h1, e⟩ | ⟨h1, h2, e⟩ | ⟨h1, h2, e⟩ | ⟨h1, e⟩ <;> rw [e] at hx <;> simp only [List.mem_cons, List.not_mem_nil, or_false] at hx
  · subst hx; rw [Ut.bn _ (by omega)]; omega
  · rcases hx with rfl | rfl <;> rw [Ut.bn _ (by omega)] <;> omega
  · rcases hx with rfl | rfl | rfl <;> rw [Ut.bn _ (by omega)] <;> omega
  · rcases hx with rfl | rfl | rfl | rfl <;> rw [Ut.bn _ (by omega)] <;> omega

theorem bad_none_iff (s : ByteArray) : bad s = none ↔ ∃ cs, Ut.Is s.data.toList cs [] := by
  obtain ⟨cs, r, h⟩ := Ut.is_ex s.data.toList
  rw [bad_is h]
  constructor
  · intro hn
    split at hn
    · rename_i h0; subst h0; exact ⟨cs, h⟩
    · cases hn
  · rintro ⟨ds, hd⟩
    rw [if_pos (Ut.is_inj h hd).2]
theorem bad_of_is {s : ByteArray} {cs : List Nat} (h : Ut.Is s.data.toList cs []) : bad s = none := (bad_none_iff s).2 ⟨cs, h⟩
theorem bad_none_false {s : ByteArray} (h : ∀ cs, ¬ Ut.Is s.data.toList cs []) : (bad s).isNone = false := by
  cases hb : bad s with
  | none => obtain ⟨cs, hc⟩ := (bad_none_iff s).1 hb; exact absurd hc (h cs)
  | some p => rfl
theorem is_enc {n : Nat} (h : Ut.sg n) : Ut.Is (Ut.enc n) [n] [] := ⟨by simpa using h, rfl, by simp [Ut.fl]⟩
theorem is_fl {cs : List Nat} (h : ∀ c ∈ cs, Ut.sg c) : Ut.Is (Ut.fl cs) cs [] := ⟨h, rfl, by simp⟩
theorem no255 {l : List UInt8} (h : (255 : UInt8) ∈ l) (cs : List Nat) : ¬ Ut.Is l cs [] := fun hi => by
  have e := hi.eq
  rw [List.append_nil] at e
  rw [e] at h
  obtain ⟨c, hc, hx⟩ := mem_fl h
  have := enc_lt (hi.all c hc) hx
  revert this
  decide
theorem isg_sg {n : Nat} : isg n = true ↔ Ut.sg n := by
  unfold isg Ut.sg
  rw [decide_eq_true_iff]
  omega
theorem data_mk (l : List UInt8) : (⟨l.toArray⟩ : ByteArray).data.toList = l := by simp
theorem size_mk (l : List UInt8) : (⟨l.toArray⟩ : ByteArray).size = l.length := by show l.toArray.size = _; simp
theorem data_append (a c : ByteArray) : (a ++ c).data.toList = a.data.toList ++ c.data.toList := by simp
end Go.Proofs.YthfcnjcpanoldaaGreatDoor.U
