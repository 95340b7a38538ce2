/- Several texts in one: UErrFacts, UErrs, UPure, UWid, UAdd, UStands, UStand2, URules. Each says what it proves, and its conditions. -/
import Derived.Test.YtjhnblgamodekaaGreatDoorNrm
import Derived.Test.YtjhnblgamodekaaGreatDoorProg
import Derived.Stop.Asserts
import Derived.RowKitTokens
import Derived.Deep.AppendLies
import Derived.BigQuiet
import Derived.RangeFuncRecord
set_option maxHeartbeats 4000000
set_option maxRecDepth 100000
/-
 Closed facts on the model's entries for reflectlite at this program's types, and on the assertions that errors.As and errors.Is make there. Conditions: none.
-/
namespace Go.Proofs.YtjhnblgamodekaaGreatDoor.U
open Go.RowKit Go.Extern.Stop Go.Stop Go.Extern
theorem methodKind (h : Value) (w : World) : (Go.method 383 121 (.agg #[h]) "Kind").run Tryz.prog w = .ok (196, h) w := by kernel_rfl
theorem run_step {α β : Type} {P : Program} {m : Sem α} {k : α -> Sem β} {w w1 : World} {a : α} {r : Result β} (h : m.run P w = .ok a w1) (h2 : (k a).run P w1 = r) : (m >>= k).run P w = r := by
 rw [Sem.run_bind, h]; exact h2
theorem methodElem (h : Value) (w : World) : (Go.method 383 121 (.agg #[h]) "Elem").run Tryz.prog w = .ok (209, .agg #[h]) w := by kernel_rfl
theorem methodImplements (h : Value) (w : World) : (Go.method 383 121 (.agg #[h]) "Implements").run Tryz.prog w = .ok (210, .agg #[h]) w := by kernel_rfl
theorem methodAssignableTo (h : Value) (w : World) : (Go.method 383 121 (.agg #[h]) "AssignableTo").run Tryz.prog w = .ok (207, .agg #[h]) w := by kernel_rfl
theorem typeOfF (v : Value) (w : World) : (ReflectliteType.typeOf #[.iface 226 v]).run Tryz.prog w = .ok (.iface 121 (.agg #[.pointer (some ⟨17, 226, none⟩)])) w := by kernel_rfl
end Go.Proofs.YtjhnblgamodekaaGreatDoor.U
/-
 What errors.As and errors.Is answer where package utf asks them: at a fault that wraps a noSign or a sentinel, and at a bare noSign. Conditions: the three package-level variables hold what the program's text lays.
-/
namespace Go.Proofs.YtjhnblgamodekaaGreatDoor.U
open Go.RowKit Go.Extern.Stop Go.Stop Go.Extern
theorem lt_of_cell {w : World} {a : Addr} {v : Value} (h : w.cell? a = some v) : a.block < w.heap.size := by
 rcases Nat.lt_or_ge a.block w.heap.size with h' | h'
 ·exact h'
 ·simp [World.cell?, Array.getElem?_eq_none h'] at h
end Go.Proofs.YtjhnblgamodekaaGreatDoor.U
/-
 Signs and their bytes, plainly: what the document says of layer 4, and how the model's own decoding goes by it. Conditions: none.
-/
namespace Go.Proofs.YtjhnblgamodekaaGreatDoor.Ut
abbrev sg (n : Nat) : Prop := n <= 1114111 /\ (n < 55296 \/ 57343 < n)
abbrev b (n : Nat) : UInt8 := UInt8.ofNat n
def enc (n : Nat) : List UInt8 :=
 if n < 128 then [b n] else if n < 2048 then [b (192 + n / 64), b (128 + n % 64)]
 else if n < 65536 then [b (224 + n / 4096), b (128 + n / 64 % 64), b (128 + n % 64)]
 else [b (240 + n / 262144), b (128 + n / 4096 % 64), b (128 + n / 64 % 64), b (128 + n % 64)]
abbrev g (l : List UInt8) (k : Nat) : Nat := (l.getD k 0).toNat
def dc (l : List UInt8) : Option Nat :=
 if l = [] then none
 else if g l 0 < 128 then some (g l 0)
 else if g l 0 / 32 = 6 /\ 1 < l.length /\ g l 1 / 64 = 2 /\ 128 <= g l 0 % 32 * 64 + g l 1 % 64 then some (g l 0 % 32 * 64 + g l 1 % 64)
 else if g l 0 / 16 = 14 /\ 2 < l.length /\ g l 1 / 64 = 2 /\ g l 2 / 64 = 2 /\ 2048 <= g l 0 % 16 * 4096 + g l 1 % 64 * 64 + g l 2 % 64 /\ sg (g l 0 % 16 * 4096 + g l 1 % 64 * 64 + g l 2 % 64) then some (g l 0 % 16 * 4096 + g l 1 % 64 * 64 + g l 2 % 64)
 else if g l 0 / 8 = 30 /\ 3 < l.length /\ g l 1 / 64 = 2 /\ g l 2 / 64 = 2 /\ g l 3 / 64 = 2 /\ 65536 <= g l 0 % 8 * 262144 + g l 1 % 64 * 4096 + g l 2 % 64 * 64 + g l 3 % 64 /\ sg (g l 0 % 8 * 262144 + g l 1 % 64 * 4096 + g l 2 % 64 * 64 + g l 3 % 64) then some (g l 0 % 8 * 262144 + g l 1 % 64 * 4096 + g l 2 % 64 * 64 + g l 3 % 64)
 else none
theorem bn (n : Nat) (h : n < 256) : (b n).toNat = n := by
 simp only [b, UInt8.toNat_ofNat']
 omega
theorem u8 {x y : UInt8} (h : x.toNat = y.toNat) : x = y := UInt8.toNat.inj h
theorem enc_cases (n : Nat) : (n < 128 /\ enc n = [b n]) \/ (128 <= n /\ n < 2048 /\ enc n = [b (192 + n / 64), b (128 + n % 64)]) \/ (2048 <= n /\ n < 65536 /\ enc n = [b (224 + n / 4096), b (128 + n / 64 % 64), b (128 + n % 64)]) \/
  (65536 <= n /\ enc n = [b (240 + n / 262144), b (128 + n / 4096 % 64), b (128 + n / 64 % 64), b (128 + n % 64)]) := by
 unfold enc
 by_cases h1 : n < 128
 ·exact .inl ⟨h1, if_pos h1⟩
 rw [if_neg h1]
 by_cases h2 : n < 2048
 ·exact .inr (.inl ⟨by omega, h2, if_pos h2⟩)
 rw [if_neg h2]
 by_cases h3 : n < 65536
 ·exact .inr (.inr (.inl ⟨by omega, h3, if_pos h3⟩))
 rw [if_neg h3]
 exact .inr (.inr (.inr ⟨by omega, rfl⟩))
theorem dc_enc (n : Nat) (h : sg n) (t : List UInt8) : dc (enc n ++ t) = some n := by
 obtain ⟨h, h'⟩ := h
 rcases enc_cases n with ⟨h1, e⟩ | ⟨h1, h2, e⟩ | ⟨h1, h2, e⟩ | ⟨h1, e⟩
 ·have e0 := bn n (by omega)
  simp only [e, dc, List.cons_append, List.nil_append, g, List.getD_cons_zero, List.getD_cons_succ, List.length_cons, e0]
  rw [if_neg (by simp), if_pos h1]
 ·have e0 := bn (192 + n / 64) (by omega)
  have e1 := bn (128 + n % 64) (by omega)
  simp only [e, dc, List.cons_append, List.nil_append, g, List.getD_cons_zero, List.getD_cons_succ, List.length_cons, e0, e1]
  rw [if_neg (by simp), if_neg (by omega), if_pos (by omega)]
  congr 1
  omega
 ·have e0 := bn (224 + n / 4096) (by omega)
  have e1 := bn (128 + n / 64 % 64) (by omega)
  have e2 := bn (128 + n % 64) (by omega)
  have ev : (224 + n / 4096) % 16 * 4096 + (128 + n / 64 % 64) % 64 * 64 + (128 + n % 64) % 64 = n := by omega
  simp only [e, dc, List.cons_append, List.nil_append, g, List.getD_cons_zero, List.getD_cons_succ, List.length_cons, e0, e1, e2, ev]
  rw [if_neg (by simp), if_neg (by omega), if_neg (by omega), if_pos (by omega)]
 ·have e0 := bn (240 + n / 262144) (by omega)
  have e1 := bn (128 + n / 4096 % 64) (by omega)
  have e2 := bn (128 + n / 64 % 64) (by omega)
  have e3 := bn (128 + n % 64) (by omega)
  have ev : (240 + n / 262144) % 8 * 262144 + (128 + n / 4096 % 64) % 64 * 4096 + (128 + n / 64 % 64) % 64 * 64 + (128 + n % 64) % 64 = n := by omega
  simp only [e, dc, List.cons_append, List.nil_append, g, List.getD_cons_zero, List.getD_cons_succ, List.length_cons, e0, e1, e2, e3, ev]
  rw [if_neg (by simp), if_neg (by omega), if_neg (by omega), if_neg (by omega), if_pos (by omega)]
theorem dc_some {l : List UInt8} {n : Nat} (h : dc l = some n) : sg n /\ ∃ t, l = enc n ++ t := by
 unfold dc at h
 split at h
 ·cases h
 rename_i h0
 split at h
 ·obtain rfl : g l 0 = n := Option.some.inj h
  rename_i h1
  match l, h0 with
  | a :: t, _ =>
   simp only [g, List.getD_cons_zero] at h1 ⊢
   refine ⟨by constructor <;> omega, t, ?_⟩
   simp only [enc, h1, if_true, List.cons_append, List.nil_append]
   congr 1
   exact u8 (bn _ (by omega)).symm
 split at h
 ·rename_i h1 h2
  obtain ⟨p1, p2, p3, p4⟩ := h2
  match l, h0 with
  | a :: c :: t, _ =>
   simp only [g, List.getD_cons_zero, List.getD_cons_succ] at *
   have ha := a.toNat_lt
   have hc := c.toNat_lt
   obtain rfl : a.toNat % 32 * 64 + c.toNat % 64 = n := Option.some.inj h
   refine ⟨by constructor <;> omega, t, ?_⟩
   rcases enc_cases (a.toNat % 32 * 64 + c.toNat % 64) with ⟨h1, e⟩ | ⟨h1, h2, e⟩ | ⟨h1, h2, e⟩ | ⟨h1, e⟩
   ·omega
   ·rw [e]
    simp only [List.cons_append, List.nil_append]
    congr 1
    ·refine u8 ?_; rw [bn _ (by omega)]; omega
    ·congr 1
     refine u8 ?_; rw [bn _ (by omega)]; omega
   ·omega
   ·omega
  | [_], _ => simp at p2
 split at h
 ·rename_i h1 h2 h3
  obtain ⟨p1, p2, p3, p4, p5, p6⟩ := h3
  clear h2
  rcases l with _ | ⟨a, _ | ⟨c, _ | ⟨d, t⟩⟩⟩
  ·exact absurd rfl h0
  ·exact absurd p2 (by simp)
  ·exact absurd p2 (by simp)
  clear h0 p2
  simp only [g, List.getD_cons_zero, List.getD_cons_succ] at h h1 p1 p3 p4 p5 p6
  have ha := a.toNat_lt
  have hc := c.toNat_lt
  have hd := d.toNat_lt
  generalize hv : a.toNat % 16 * 4096 + c.toNat % 64 * 64 + d.toNat % 64 = v at h p5 p6
  obtain rfl : v = n := Option.some.inj h
  refine ⟨p6, t, ?_⟩
  rcases enc_cases v with ⟨h1, e⟩ | ⟨h1, h2, e⟩ | ⟨h1, h2, e⟩ | ⟨h1, e⟩
  ·omega
  ·omega
  ·rw [e]
   simp only [List.cons_append, List.nil_append]
   rw [u8 (x := a) (y := b (224 + v / 4096)) (by rw [bn _ (by omega)]; omega), u8 (x := c) (y := b (128 + v / 64 % 64)) (by rw [bn _ (by omega)]; omega), u8 (x := d) (y := b (128 + v % 64)) (by rw [bn _ (by omega)]; omega)]
  ·omega
 split at h
 ·rename_i h1 h2 h3 h4
  obtain ⟨p1, p2, p3, p4, p5, p6, p7⟩ := h4
  clear h2 h3
  rcases l with _ | ⟨a, _ | ⟨c, _ | ⟨d, _ | ⟨f, t⟩⟩⟩⟩
  ·exact absurd rfl h0
  ·exact absurd p2 (by simp)
  ·exact absurd p2 (by simp)
  ·exact absurd p2 (by simp)
  clear h0 p2
  simp only [g, List.getD_cons_zero, List.getD_cons_succ] at h h1 p1 p3 p4 p5 p6 p7
  have ha := a.toNat_lt
  have hc := c.toNat_lt
  have hd := d.toNat_lt
  have hf := f.toNat_lt
  generalize hv : a.toNat % 8 * 262144 + c.toNat % 64 * 4096 + d.toNat % 64 * 64 + f.toNat % 64 = v at h p6 p7
  obtain rfl : v = n := Option.some.inj h
  refine ⟨p7, t, ?_⟩
  rcases enc_cases v with ⟨h1, e⟩ | ⟨h1, h2, e⟩ | ⟨h1, h2, e⟩ | ⟨h1, e⟩
  ·omega
  ·omega
  ·omega
  ·rw [e]
   simp only [List.cons_append, List.nil_append]
   rw [u8 (x := a) (y := b (240 + v / 262144)) (by rw [bn _ (by omega)]; omega), u8 (x := c) (y := b (128 + v / 4096 % 64)) (by rw [bn _ (by omega)]; omega), u8 (x := d) (y := b (128 + v / 64 % 64)) (by rw [bn _ (by omega)]; omega), u8 (x := f) (y := b (128 + v % 64)) (by rw [bn _ (by omega)]; omega)]
 ·cases h
theorem enc_length (n : Nat) : (enc n).length = if n < 128 then 1 else if n < 2048 then 2 else if n < 65536 then 3 else 4 := by
 unfold enc
 repeat (split <;> try rfl)
theorem enc_pos (n : Nat) : 1 <= (enc n).length := by rw [enc_length]; repeat (split <;> try omega)
theorem enc_le (n : Nat) : (enc n).length <= 4 := by rw [enc_length]; repeat (split <;> try omega)
def fl : List Nat -> List UInt8
 | [] => []
 | c :: cs => enc c ++ fl cs
theorem fl_append (a c : List Nat) : fl (a ++ c) = fl a ++ fl c := by
 induction a with
 | nil => rfl
 | cons x a ih => simp [fl, ih, List.append_assoc]
structure Is (l : List UInt8) (cs : List Nat) (r : List UInt8) : Prop where
 all : ∀ c ∈ cs, sg c
 none : dc r = none
 eq : l = fl cs ++ r
theorem is_ex (l : List UInt8) : ∃ cs r, Is l cs r := by
 suffices h : ∀ n (l : List UInt8), l.length <= n -> ∃ cs r, Is l cs r from h _ l (Nat.le_refl _)
 intro n
 induction n with
 | zero => intro l h; cases l with
  | nil => exact ⟨[], [], by simp, rfl, rfl⟩
  | cons a t => simp at h
 | succ n ih =>
  intro l h
  cases hd : dc l with
  | none => exact ⟨[], l, by simp, hd, rfl⟩
  | some c =>
   obtain ⟨hs, t, rfl⟩ := dc_some hd
   obtain ⟨cs, r, hi⟩ := ih t (by have := enc_pos c; simp at h; omega)
   refine ⟨c :: cs, r, ?_, hi.none, ?_⟩
   ·intro x hx
    rcases List.mem_cons.1 hx with rfl | hx
    ·exact hs
    ·exact hi.all x hx
   ·rw [hi.eq]; simp [fl]
theorem is_inj : ∀ {cs : List Nat} {l : List UInt8} {r : List UInt8} {cs' : List Nat} {r' : List UInt8}, Is l cs r -> Is l cs' r' -> cs = cs' /\ r = r' := by
 intro cs
 induction cs with
 | nil =>
  intro l r cs' r' h h'
  cases cs' with
  | nil => exact ⟨rfl, by rw [<- show fl [] ++ r = r from rfl, <- h.eq, h'.eq]; rfl⟩
  | cons c cs' =>
   have e : r = enc c ++ (fl cs' ++ r') := by rw [<- show fl [] ++ r = r from rfl, <- h.eq, h'.eq]; simp [fl]
   have := h.none
   rw [e, dc_enc c (h'.all c (by simp))] at this
   cases this
 | cons c cs ih =>
  intro l r cs' r' h h'
  have e : l = enc c ++ (fl cs ++ r) := by rw [h.eq]; simp [fl]
  have hd := dc_enc c (h.all c (by simp)) (fl cs ++ r)
  rw [<- e] at hd
  cases cs' with
  | nil =>
   have e' : l = r' := by rw [h'.eq]; rfl
   rw [e', h'.none] at hd
   cases hd
  | cons c' cs' =>
   have e' : l = enc c' ++ (fl cs' ++ r') := by rw [h'.eq]; simp [fl]
   have hd' := dc_enc c' (h'.all c' (by simp)) (fl cs' ++ r')
   rw [<- e', hd] at hd'
   obtain rfl : c = c' := Option.some.inj hd'
   have ht : fl cs ++ r = fl cs' ++ r' := List.append_cancel_left (e.symm.trans e')
   obtain ⟨h1, h2⟩ := ih (l := fl cs ++ r) (r := r) (cs' := cs') (r' := r') ⟨fun x hx => h.all x (by simp [hx]), h.none, rfl⟩ ⟨fun x hx => h'.all x (by simp [hx]), h'.none, ht⟩
   exact ⟨by rw [h1], h2⟩
theorem Is.behind {s t : List UInt8} {cs ds : List Nat} {r : List UInt8} (h : Is s cs []) (k : Is t ds r) : Is (s ++ t) (cs ++ ds) r := by
 refine ⟨?_, k.none, ?_⟩
 ·intro x hx
  rcases List.mem_append.1 hx with hx | hx
  ·exact h.all x hx
  ·exact k.all x hx
 ·rw [h.eq, k.eq, fl_append]; simp
theorem get_drop (s : ByteArray) (i k : Nat) : (s.get! (i + k)).toNat = g (s.data.toList.drop i) k := by
 obtain ⟨⟨l⟩⟩ := s
 show ((⟨l⟩ : Array UInt8)[i + k]!).toNat = _
 simp only [g, List.getD_eq_getElem?_getD, List.getElem?_drop, getElem!_def, List.getElem?_toArray]
 cases l[i + k]? with
 | none => rfl
 | some x => rfl
theorem valid_iff (n : Nat) : Go.Utf8.valid (n : Int) = decide (sg n) := by
 rw [Bool.eq_iff_iff]
 simp only [Go.Utf8.valid, sg, Bool.or_eq_true, Bool.and_eq_true, decide_eq_true_eq]
 omega
theorem decode_eq (s : ByteArray) (i : Nat) (h : i < s.size) :
  Go.Utf8.decode s i = match dc (s.data.toList.drop i) with | some c => (c, (enc c).length) | none => (65533, 1) := by
 have hl : (s.data.toList.drop i).length = s.size - i := by rw [List.length_drop, Array.length_toList]; rfl
 have hne : s.data.toList.drop i ≠ [] := by intro e; rw [e] at hl; simp at hl; omega
 have h0 := get_drop s i 0
 have h1 := get_drop s i 1
 have h2 := get_drop s i 2
 have h3 := get_drop s i 3
 have c1 : decide (i + 1 < s.size) = decide (1 < (s.data.toList.drop i).length) := by rw [hl]; congr 1; apply propext; omega
 have c2 : decide (i + 2 < s.size) = decide (2 < (s.data.toList.drop i).length) := by rw [hl]; congr 1; apply propext; omega
 have c3 : decide (i + 3 < s.size) = decide (3 < (s.data.toList.drop i).length) := by rw [hl]; congr 1; apply propext; omega
 unfold Go.Utf8.decode dc
 simp only [h0, h1, h2, h3, c1, c2, c3, valid_iff]
 generalize s.data.toList.drop i = l at *
 rw [if_neg hne]
 generalize g l 0 = x0
 generalize g l 1 = x1
 generalize g l 2 = x2
 generalize g l 3 = x3
 generalize l.length = n
 by_cases a0 : x0 < 128
 ·refine Eq.trans (b := (x0, 1)) (if_pos a0) ?_
  rw [if_pos a0]
  simp only [enc_length, if_pos a0]
 refine Eq.trans (if_neg a0) ?_
 conv => rhs; rw [if_neg a0]
 by_cases a1 : x0 / 32 = 6 /\ 1 < n /\ x1 / 64 = 2
 ·refine Eq.trans (if_pos (by simp only [Bool.and_eq_true, decide_eq_true_eq, beq_iff_eq]; exact a1)) ?_
  by_cases a2 : 128 <= x0 % 32 * 64 + x1 % 64
  ·refine Eq.trans (if_pos a2) ?_
   rw [if_pos ⟨a1.1, a1.2.1, a1.2.2, a2⟩]
   simp only [enc_length]
   rw [if_neg (by omega), if_pos (by omega)]
  ·refine Eq.trans (if_neg a2) ?_
   rw [if_neg (by omega), if_neg (by omega), if_neg (by omega)]
   rfl
 refine Eq.trans (if_neg (by simp only [Bool.and_eq_true, decide_eq_true_eq, beq_iff_eq]; exact a1)) ?_
 conv => rhs; rw [if_neg (by omega)]
 by_cases a3 : (x0 / 16 = 14 /\ 1 < n /\ x1 / 64 = 2) /\ 2 < n /\ x2 / 64 = 2
 ·refine Eq.trans (if_pos (by simp only [Bool.and_eq_true, decide_eq_true_eq, beq_iff_eq]; exact a3)) ?_
  by_cases a4 : 2048 <= x0 % 16 * 4096 + x1 % 64 * 64 + x2 % 64 /\ sg (x0 % 16 * 4096 + x1 % 64 * 64 + x2 % 64)
  ·refine Eq.trans (if_pos (by simp only [Bool.and_eq_true, decide_eq_true_eq]; exact a4)) ?_
   rw [if_pos ⟨a3.1.1, a3.2.1, a3.1.2.2, a3.2.2, a4.1, a4.2⟩]
   simp only [enc_length]
   rw [if_neg (by omega), if_neg (by omega), if_pos (by omega)]
  ·refine Eq.trans (if_neg (by simp only [Bool.and_eq_true, decide_eq_true_eq]; exact a4)) ?_
   rw [if_neg (fun h => a4 ⟨h.2.2.2.2.1, h.2.2.2.2.2⟩), if_neg (by omega)]
   rfl
 refine Eq.trans (if_neg (by simp only [Bool.and_eq_true, decide_eq_true_eq, beq_iff_eq]; exact a3)) ?_
 conv => rhs; rw [if_neg (by omega)]
 by_cases a5 : ((x0 / 8 = 30 /\ 1 < n /\ x1 / 64 = 2) /\ 2 < n /\ x2 / 64 = 2) /\ 3 < n /\ x3 / 64 = 2
 ·refine Eq.trans (if_pos (by simp only [Bool.and_eq_true, decide_eq_true_eq, beq_iff_eq]; exact a5)) ?_
  by_cases a6 : 65536 <= x0 % 8 * 262144 + x1 % 64 * 4096 + x2 % 64 * 64 + x3 % 64 /\ sg (x0 % 8 * 262144 + x1 % 64 * 4096 + x2 % 64 * 64 + x3 % 64)
  ·refine Eq.trans (if_pos (by simp only [Bool.and_eq_true, decide_eq_true_eq]; exact a6)) ?_
   rw [if_pos ⟨a5.1.1.1, a5.2.1, a5.1.1.2.2, a5.1.2.2, a5.2.2, a6.1, a6.2⟩]
   simp only [enc_length]
   rw [if_neg (by omega), if_neg (by omega), if_neg (by omega)]
  ·refine Eq.trans (if_neg (by simp only [Bool.and_eq_true, decide_eq_true_eq]; exact a6)) ?_
   rw [if_neg (fun h => a6 ⟨h.2.2.2.2.2.1, h.2.2.2.2.2.2⟩)]
   rfl
 refine Eq.trans (if_neg (by simp only [Bool.and_eq_true, decide_eq_true_eq, beq_iff_eq]; exact a5)) ?_
 conv => rhs; rw [if_neg (by omega)]
 rfl
end Go.Proofs.YtjhnblgamodekaaGreatDoor.Ut
/-
 What utf.width, next and isSign answer. Conditions: none.
-/
namespace Go.Proofs.YtjhnblgamodekaaGreatDoor.U
open Go Go.RowKit
theorem H_ {p : Prop} (h : p) : Hid p := h
theorem un {p : Prop} (h : Hid p) : p := h
theorem or192 (x : Int) (h : 0 <= x /\ x < 32) : bits .or .u8 192 x = 192 + x := by
 have : ∀ y : Fin 32, bits .or .u8 192 ((y.val : Nat) : Int) = 192 + ((y.val : Nat) : Int) := by decide +kernel
 have := this ⟨x.toNat, by omega⟩
 rwa [show ((x.toNat : Nat) : Int) = x by omega] at this
theorem or224 (x : Int) (h : 0 <= x /\ x < 16) : bits .or .u8 224 x = 224 + x := by
 have : ∀ y : Fin 16, bits .or .u8 224 ((y.val : Nat) : Int) = 224 + ((y.val : Nat) : Int) := by decide +kernel
 have := this ⟨x.toNat, by omega⟩
 rwa [show ((x.toNat : Nat) : Int) = x by omega] at this
theorem or240 (x : Int) (h : 0 <= x /\ x < 8) : bits .or .u8 240 x = 240 + x := by
 have : ∀ y : Fin 8, bits .or .u8 240 ((y.val : Nat) : Int) = 240 + ((y.val : Nat) : Int) := by decide +kernel
 have := this ⟨x.toNat, by omega⟩
 rwa [show ((x.toNat : Nat) : Int) = x by omega] at this
theorem next_any (n : Int) (w : World) :
  Calls Tryz.prog 177 #[.int .i32 n] w fun e w' => e = .returned (.int .u8 (128 + n % 64)) /\ w' = w := by
 go_enter Tryz.func177, Tryz.ntmps177
 go_wp2
 go_ret
 exact ⟨rfl, rfl⟩
def wd (n : Nat) : Nat := (Ut.enc n).length
theorem wd_eq (n : Nat) : wd n = if n < 128 then 1 else if n < 2048 then 2 else if n < 65536 then 3 else 4 := Ut.enc_length n
theorem width_any (n : Nat) (w : World) (h : n <= 1114111) :
  Calls Tryz.prog 172 #[.int .i32 n] w fun e w' => e = .returned (.int .i64 (wd n)) /\ w' = w := by
 rw [wd_eq]
 by_cases h1 : n < 128
 ·have a : ¬ (65536 : Int) <= n := by omega
  have c : ¬ (2048 : Int) <= n := by omega
  have d : ¬ (128 : Int) <= n := by omega
  rw [if_pos h1]
  go_enter Tryz.func172, Tryz.ntmps172
  go_wp2
  go_ret
  exact ⟨rfl, rfl⟩
 rw [if_neg h1]
 by_cases h2 : n < 2048
 ·have a : ¬ (65536 : Int) <= n := by omega
  have c : ¬ (2048 : Int) <= n := by omega
  have d : (128 : Int) <= n := by omega
  rw [if_pos h2]
  go_enter Tryz.func172, Tryz.ntmps172
  go_wp2
  go_ret
  exact ⟨rfl, rfl⟩
 rw [if_neg h2]
 by_cases h3 : n < 65536
 ·have a : ¬ (65536 : Int) <= n := by omega
  have c : (2048 : Int) <= n := by omega
  have d : (128 : Int) <= n := by omega
  rw [if_pos h3]
  go_enter Tryz.func172, Tryz.ntmps172
  go_wp2
  go_ret
  exact ⟨rfl, rfl⟩
 ·have a : (65536 : Int) <= n := by omega
  have c : (2048 : Int) <= n := by omega
  have d : (128 : Int) <= n := by omega
  rw [if_neg h3]
  go_enter Tryz.func172, Tryz.ntmps172
  go_wp2
  go_ret
  exact ⟨rfl, rfl⟩
def isg (n : Int) : Bool := decide (0 <= n /\ n <= 1114111 /\ (n < 55296 \/ 57344 <= n))
end Go.Proofs.YtjhnblgamodekaaGreatDoor.U
/-
 What utf.add lays: a sign's bytes behind others. Conditions: none.
-/
namespace Go.Proofs.YtjhnblgamodekaaGreatDoor.U
open Go Go.RowKit
def cells (l : List UInt8) : List Value := l.map fun x => .int .u8 (x.toNat : Int)
end Go.Proofs.YtjhnblgamodekaaGreatDoor.U
/-
 What utf.text.stands answers. Conditions: none.
-/
namespace Go.Proofs.YtjhnblgamodekaaGreatDoor.U
open Go Go.RowKit
abbrev zero4 : Obj := .cells #[.int .u8 0, .int .u8 0, .int .u8 0, .int .u8 0] 241
theorem rcell {R : Nat} {w : World} (h : w.heap[R]? = some zero4) : (w.cell? ⟨R, 0, none⟩ = some (.int .u8 0) /\ w.cell? ⟨R, 1, none⟩ = some (.int .u8 0) /\ w.cell? ⟨R, 2, none⟩ = some (.int .u8 0) /\ w.cell? ⟨R, 3, none⟩ = some (.int .u8 0)) /\
  w.frozen? ⟨R, 0, none⟩ = false /\ w.frozen? ⟨R, 1, none⟩ = false /\ w.frozen? ⟨R, 2, none⟩ = false /\ w.frozen? ⟨R, 3, none⟩ = false := by
 simp [World.cell?, World.frozen?, h]
theorem room1 (n : Nat) (w : World) (R : Nat) (h : n < 128) (hR : w.heap[R]? = some zero4) :
  Calls Tryz.prog 173 #[.slice (some ⟨R, 0, none⟩) 0 4, .int .i32 n] w fun e w' => e = .returned (.slice (some ⟨R, 0, none⟩) 1 4) /\ w' = (w.setCell ⟨R, 0, none⟩ (.int .u8 n)).alloc (.cells #[.int .u8 n] 5) := by
 have hk : wd n = 1 := by rw [wd_eq]; repeat (split <;> try omega)
 have hw := width_any n w (by omega)
 rw [hk] at hw
 have e1 : (n : Int) % 256 = n := by omega
 obtain ⟨⟨c0, c1, c2, c3⟩, f0, f1, f2, f3⟩ := rcell hR
 have hlt := lt_of_cell c0
 have hlt' : ¬ R = w.heap.size := by simp at hlt; omega
 clear hk h
 go_enter Tryz.func173, Tryz.ntmps173
 go_wp2_with fail
 refine hw.mono ?_
 rintro e w1 ⟨rfl, rfl⟩
 go_wp2
 go_ret
 exact ⟨rfl, rfl⟩
theorem room2 (n : Nat) (w : World) (R : Nat) (h : 128 <= n /\ n < 2048) (hR : w.heap[R]? = some zero4) :
  Calls Tryz.prog 173 #[.slice (some ⟨R, 0, none⟩) 0 4, .int .i32 n] w fun e w' => e = .returned (.slice (some ⟨R, 0, none⟩) 2 4) /\ w' = ((w.setCell ⟨R, 0, none⟩ (.int .u8 (192 + (n : Int) / 64))).setCell ⟨R, 1, none⟩ (.int .u8 (128 + (n : Int) % 64))).alloc (.cells #[.int .u8 (192 + (n : Int) / 64), .int .u8 (128 + (n : Int) % 64)] 5) := by
 have hk : wd n = 2 := by rw [wd_eq]; repeat (split <;> try omega)
 have hw := width_any n w (by omega)
 rw [hk] at hw
 have g0 := H_ (next_any (n) w)
 have e1 : (n : Int) / 64 % 256 = n / 64 := by omega
 have e2 := or192 ((n : Int) / 64) (by omega)
 obtain ⟨⟨c0, c1, c2, c3⟩, f0, f1, f2, f3⟩ := rcell hR
 have hlt := lt_of_cell c0
 have hlt' : ¬ R = w.heap.size := by simp at hlt; omega
 clear hk h
 go_enter Tryz.func173, Tryz.ntmps173
 go_wp2_with fail
 refine hw.mono ?_
 rintro e w1 ⟨rfl, rfl⟩
 go_wp2_with fail
 refine (un g0).mono ?_
 rintro e w1 ⟨rfl, rfl⟩
 go_wp2
 go_ret
 exact ⟨rfl, rfl⟩
theorem room3 (n : Nat) (w : World) (R : Nat) (h : 2048 <= n /\ n < 65536) (hR : w.heap[R]? = some zero4) :
  Calls Tryz.prog 173 #[.slice (some ⟨R, 0, none⟩) 0 4, .int .i32 n] w fun e w' => e = .returned (.slice (some ⟨R, 0, none⟩) 3 4) /\ w' = (((w.setCell ⟨R, 0, none⟩ (.int .u8 (224 + (n : Int) / 4096))).setCell ⟨R, 1, none⟩ (.int .u8 (128 + (n : Int) / 64 % 64))).setCell ⟨R, 2, none⟩ (.int .u8 (128 + (n : Int) % 64))).alloc (.cells #[.int .u8 (224 + (n : Int) / 4096), .int .u8 (128 + (n : Int) / 64 % 64), .int .u8 (128 + (n : Int) % 64)] 5) := by
 have hk : wd n = 3 := by rw [wd_eq]; repeat (split <;> try omega)
 have hw := width_any n w (by omega)
 rw [hk] at hw
 have g0 := H_ (next_any (n / 64) w)
 have g1 := H_ (next_any (n) w)
 have e1 : (n : Int) / 4096 % 256 = n / 4096 := by omega
 have e2 := or224 ((n : Int) / 4096) (by omega)
 obtain ⟨⟨c0, c1, c2, c3⟩, f0, f1, f2, f3⟩ := rcell hR
 have hlt := lt_of_cell c0
 have hlt' : ¬ R = w.heap.size := by simp at hlt; omega
 clear hk h
 go_enter Tryz.func173, Tryz.ntmps173
 go_wp2_with fail
 refine hw.mono ?_
 rintro e w1 ⟨rfl, rfl⟩
 go_wp2_with fail
 refine (un g0).mono ?_
 rintro e w1 ⟨rfl, rfl⟩
 go_wp2_with fail
 refine (un g1).mono ?_
 rintro e w1 ⟨rfl, rfl⟩
 go_wp2
 go_ret
 exact ⟨rfl, rfl⟩
theorem room4 (n : Nat) (w : World) (R : Nat) (h : 65536 <= n /\ n <= 1114111) (hR : w.heap[R]? = some zero4) :
  Calls Tryz.prog 173 #[.slice (some ⟨R, 0, none⟩) 0 4, .int .i32 n] w fun e w' => e = .returned (.slice (some ⟨R, 0, none⟩) 4 4) /\ w' = ((((w.setCell ⟨R, 0, none⟩ (.int .u8 (240 + (n : Int) / 262144))).setCell ⟨R, 1, none⟩ (.int .u8 (128 + (n : Int) / 4096 % 64))).setCell ⟨R, 2, none⟩ (.int .u8 (128 + (n : Int) / 64 % 64))).setCell ⟨R, 3, none⟩ (.int .u8 (128 + (n : Int) % 64))).alloc (.cells #[.int .u8 (240 + (n : Int) / 262144), .int .u8 (128 + (n : Int) / 4096 % 64), .int .u8 (128 + (n : Int) / 64 % 64), .int .u8 (128 + (n : Int) % 64)] 5) := by
 have hk : wd n = 4 := by rw [wd_eq]; repeat (split <;> try omega)
 have hw := width_any n w (by omega)
 rw [hk] at hw
 have g0 := H_ (next_any (n / 4096) w)
 have g1 := H_ (next_any (n / 64) w)
 have g2 := H_ (next_any (n) w)
 have e1 : (n : Int) / 262144 % 256 = n / 262144 := by omega
 have e2 := or240 ((n : Int) / 262144) (by omega)
 obtain ⟨⟨c0, c1, c2, c3⟩, f0, f1, f2, f3⟩ := rcell hR
 have hlt := lt_of_cell c0
 have hlt' : ¬ R = w.heap.size := by simp at hlt; omega
 clear hk h
 go_enter Tryz.func173, Tryz.ntmps173
 go_wp2_with fail
 refine hw.mono ?_
 rintro e w1 ⟨rfl, rfl⟩
 go_wp2_with fail
 refine (un g0).mono ?_
 rintro e w1 ⟨rfl, rfl⟩
 go_wp2_with fail
 refine (un g1).mono ?_
 rintro e w1 ⟨rfl, rfl⟩
 go_wp2_with fail
 refine (un g2).mono ?_
 rintro e w1 ⟨rfl, rfl⟩
 go_wp2
 go_ret
 exact ⟨rfl, rfl⟩
def fill (R : Nat) : List Value -> Nat -> World -> World
 | [], _, w => w
 | x :: l, i, w => fill R l (i + 1) (w.setCell ⟨R, i, none⟩ x)
abbrev Wr (w : World) (R n : Nat) : World := (fill R (cells (Ut.enc n)) 0 w).alloc (.cells (cells (Ut.enc n)).toArray 5)
theorem room_any (n : Nat) (w : World) (R : Nat) (h : n <= 1114111) (hR : w.heap[R]? = some zero4) :
  Calls Tryz.prog 173 #[.slice (some ⟨R, 0, none⟩) 0 4, .int .i32 n] w fun e w' => e = .returned (.slice (some ⟨R, 0, none⟩) (wd n) 4) /\ w' = Wr w R n := by
 by_cases h1 : n < 128
 ·have := room1 n w R h1 hR
  have hl : cells (Ut.enc n) = [.int .u8 n] := by
   unfold Ut.enc
   rw [if_pos h1]
   simp only [cells, List.map_cons, List.map_nil, Ut.bn n (by omega)]
  rw [Wr, hl, show wd n = 1 by rw [wd_eq, if_pos h1]]
  exact this
 by_cases h2 : n < 2048
 ·have := room2 n w R ⟨by omega, h2⟩ hR
  have hl : cells (Ut.enc n) = [.int .u8 (192 + (n : Int) / 64), .int .u8 (128 + (n : Int) % 64)] := by
   unfold Ut.enc
   rw [if_neg (by omega), if_pos h2]
   simp only [cells, List.map_cons, List.map_nil, Ut.bn _ (show 192 + n / 64 < 256 by omega), Ut.bn _ (show 128 + n % 64 < 256 by omega)]
   rfl
  rw [Wr, hl, show wd n = 2 by rw [wd_eq, if_neg h1, if_pos h2]]
  exact this
 by_cases h3 : n < 65536
 ·have := room3 n w R ⟨by omega, h3⟩ hR
  have hl : cells (Ut.enc n) = [.int .u8 (224 + (n : Int) / 4096), .int .u8 (128 + (n : Int) / 64 % 64), .int .u8 (128 + (n : Int) % 64)] := by
   unfold Ut.enc
   rw [if_neg (by omega), if_neg (by omega), if_pos h3]
   simp only [cells, List.map_cons, List.map_nil, Ut.bn _ (show 224 + n / 4096 < 256 by omega), Ut.bn _ (show 128 + n / 64 % 64 < 256 by omega), Ut.bn _ (show 128 + n % 64 < 256 by omega)]
   rfl
  rw [Wr, hl, show wd n = 3 by rw [wd_eq, if_neg h1, if_neg h2, if_pos h3]]
  exact this
 ·have := room4 n w R ⟨by omega, h⟩ hR
  have hl : cells (Ut.enc n) = [.int .u8 (240 + (n : Int) / 262144), .int .u8 (128 + (n : Int) / 4096 % 64), .int .u8 (128 + (n : Int) / 64 % 64), .int .u8 (128 + (n : Int) % 64)] := by
   unfold Ut.enc
   rw [if_neg (by omega), if_neg (by omega), if_neg (by omega)]
   simp only [cells, List.map_cons, List.map_nil, Ut.bn _ (show 240 + n / 262144 < 256 by omega), Ut.bn _ (show 128 + n / 4096 % 64 < 256 by omega), Ut.bn _ (show 128 + n / 64 % 64 < 256 by omega), Ut.bn _ (show 128 + n % 64 < 256 by omega)]
   rfl
  rw [Wr, hl, show wd n = 4 by rw [wd_eq, if_neg h1, if_neg h2, if_neg h3]]
  exact this
theorem fill_size (R : Nat) : ∀ (l : List Value) (i : Nat) (w : World), (fill R l i w).heap.size = w.heap.size
 | [], _, _ => rfl
 | x :: l, i, w => by rw [fill, fill_size R l]; simp
theorem fill_lt (R : Nat) : ∀ (l : List Value) (i : Nat) (w : World) (j : Nat), j < i -> (fill R l i w).cell? ⟨R, j, none⟩ = w.cell? ⟨R, j, none⟩
 | [], _, _, _, _ => rfl
 | x :: l, i, w, j, h => by
  rw [fill, fill_lt R l (i + 1) _ j (by omega), World.cell?_setCell_other (h := by simp <;> omega)]
theorem fill_at (R : Nat) : ∀ (l : List Value) (i : Nat) (w : World) (k : Nat), k < l.length -> (∀ q, q < l.length -> (w.cell? ⟨R, i + q, none⟩).isSome) -> (fill R l i w).cell? ⟨R, i + k, none⟩ = l[k]?
 | [], _, _, k, h, _ => by simp at h
 | x :: l, i, w, 0, _, hs => by
  rw [fill, fill_lt R l (i + 1) _ _ (by omega)]
  exact World.cell?_setCell_same' _ _ _ (by simpa using hs 0 (by simp))
 | x :: l, i, w, k + 1, h, hs => by
  rw [fill, show i + (k + 1) = (i + 1) + k by omega, fill_at R l (i + 1) _ k (by simpa using h) (fun q hq => ?_)]
  ·rfl
  ·rw [World.cell?_setCell_other (h := by simp <;> omega), show i + 1 + q = i + (q + 1) by omega]
   exact hs (q + 1) (by simp <;> omega)
theorem cells_length (l : List UInt8) : (cells l).length = l.length := by simp [cells]
theorem nums_str (l : List UInt8) : strOfNums (l.map fun x => (x.toNat : Int)) = ⟨l.toArray⟩ := by
 unfold strOfNums
 congr 1
 simp [List.map_map]
 refine (List.map_congr_left (g := id) fun x _ => ?_).trans (List.map_id _)
 simp
theorem conv_room (w : World) (R n : Nat) (hR : w.heap[R]? = some zero4) (V : World) (hV : V.heap = (Wr w R n).heap) :
  (convert 113 9 (.slice (some ⟨R, 0, none⟩) (wd n) 4)).run Tryz.prog V = .ok (.string ⟨(Ut.enc n).toArray⟩) V := by
 rw [<- nums_str]
 refine run_convert_bytes_arg V _ _ Tryz.underlying113 Tryz.underlying5 R 0 (wd n) 4 ((Ut.enc n).map fun x => (x.toNat : Int)) (by simp [wd]) (fun i hi => ?_) _ Tryz.underlying9
 have hlt : R < w.heap.size := (Array.getElem?_eq_some_iff.1 hR).1
 have hb : V.cell? ⟨R, 0 + i, none⟩ = (fill R (cells (Ut.enc n)) 0 w).cell? ⟨R, 0 + i, none⟩ := by
  refine World.cell?_of_block ?_
  rw [hV]
  exact heap_alloc_old _ _ (by rw [fill_size]; exact hlt)
 have hle := Ut.enc_le n
 have hi' : i < (Ut.enc n).length := hi
 rw [hb, fill_at R _ 0 w i (by rw [cells_length]; exact hi) (fun q hq => ?_)]
 ·simp only [cells, List.getElem?_map, List.getD_eq_getElem?_getD]
  rw [List.getElem?_eq_getElem hi']
  rfl
 ·rw [cells_length] at hq
  obtain ⟨⟨c0, c1, c2, c3⟩, _⟩ := rcell hR
  rcases q with _ | _ | _ | _ | q
  ·rw [c0]; rfl
  ·rw [c1]; rfl
  ·rw [c2]; rfl
  ·rw [c3]; rfl
  ·omega
def st (s : ByteArray) (p n : Nat) : Bool := (Ut.enc n).isPrefixOf (s.data.toList.drop p)
theorem Wr_below (w : World) (R n : Nat) (B : Nat) (hB : B <= R) (hs : B <= w.heap.size) : Below B w (Wr w R n) := by
 refine Below.alloc ?_ (by rw [fill_size]; exact hs) _
 suffices h : ∀ (l : List Value) (i : Nat) (w0 : World), Below B w w0 -> Below B w (fill R l i w0) from h _ _ _ (Below.refl _ _)
 intro l
 induction l with
 | nil => intro i w0 h; exact h
 | cons x l ih => intro i w0 h; exact ih _ _ (Below.setCell (p := ⟨R, i, none⟩) h hB _)
theorem below_drewN {B : Nat} {u w : World} (h : Below B u w) (n : Nat) : Below B u (w.drewN n) := ⟨h.os, h.tape, h.output, h.size, h.block⟩
theorem heap_new (w : World) (o : Obj) : (w.alloc o).heap[w.heap.size]? = some o := World.alloc_heap_new w o
theorem stands_far (s : ByteArray) (p n : Nat) (w : World) (h : n <= 1114111) (hp : p <= s.size) (hs : s.size <= 1000) (hf : s.size < p + wd n) :
  Calls Tryz.prog 169 #[.agg #[.string s], .int .i64 p, .int .i32 n] w fun e w' => e = .returned (.bool false) /\ Below w.heap.size w w' := by
 have hw := width_any n ((w.alloc (.cells #[.string s] 232)).alloc zero4) h
 have hle := Ut.enc_le n
 have hwd : (wd n : Int) <= 4 := by unfold wd; omega
 have he : wrap64 ((p : Int) + wd n) = p + wd n := by unfold wrap64; omega
 have hf' : decide ((p : Int) + wd n <= s.size) = false := decide_eq_false (by omega)
 clear hf hle
 go_enter Tryz.func169, Tryz.ntmps169
 go_wp2_with fail
 refine hw.mono ?_
 rintro e w1 ⟨rfl, rfl⟩
 go_wp2
 go_quiet (fail)
 go_wp2
 go_ret
 refine ⟨rfl, below_drewN ?_ _⟩
 repeat (refine Below.alloc ?_ (by simp <;> omega) _)
 exact Below.refl _ _
end Go.Proofs.YtjhnblgamodekaaGreatDoor.U
/-
 What utf.text.stands answers where the text is long enough. Conditions: none.
-/
namespace Go.Proofs.YtjhnblgamodekaaGreatDoor.U
open Go Go.RowKit
def OutS (v : Value) (V : World) : Exit -> Act -> World -> Prop
 | .normal, a, w => a.tmps.getD 6 undef = v /\ a.defers = [] /\ w = V
 | _, _, _ => False
theorem stands_near (s : ByteArray) (p n : Nat) (w : World) (h : n <= 1114111) (hs : s.size <= 1000) (hf : p + wd n <= s.size) :
  Calls Tryz.prog 169 #[.agg #[.string s], .int .i64 p, .int .i32 n] w fun e w' => e = .returned (.bool ((s.extract p (p + wd n)).toList == (Ut.enc n))) /\ Below w.heap.size w w' := by
 have hw := width_any n ((w.alloc (.cells #[.string s] 232)).alloc zero4) h
 have hR : ((w.alloc (.cells #[.string s] 232)).alloc zero4).drew.heap[w.heap.size + 1]? = some zero4 := by
  have := heap_new (w.alloc (.cells #[.string s] 232)) zero4
  rwa [World.size_alloc] at this
 have hA := room_any n ((w.alloc (.cells #[.string s] 232)).alloc zero4).drew (w.heap.size + 1) h hR
 have hC := conv_room ((w.alloc (.cells #[.string s] 232)).alloc zero4).drew (w.heap.size + 1) n hR _ rfl
 have hS : (Wr ((w.alloc (.cells #[.string s] 232)).alloc zero4).drew (w.heap.size + 1) n).cell? ⟨w.heap.size, 0, none⟩ = some (.string s) := by
  rw [(Wr_below ((w.alloc (.cells #[.string s] 232)).alloc zero4).drew (w.heap.size + 1) n (w.heap.size + 1) (by omega) (by simp)).cell (by simp)]
  simp
 have hS0 : ((w.alloc (.cells #[.string s] 232)).alloc zero4).drew.cell? ⟨w.heap.size, 0, none⟩ = some (.string s) := by
  show ((w.alloc (.cells #[.string s] 232)).alloc zero4).cell? ⟨w.heap.size, 0, none⟩ = _
  simp
 have hB := H_ (Wr_below ((w.alloc (.cells #[.string s] 232)).alloc zero4).drew (w.heap.size + 1) n w.heap.size (by omega) (by simp; omega))
 have hle := Ut.enc_le n
 have hwd : (wd n : Int) <= 4 := by unfold wd; omega
 have he : wrap64 ((p : Int) + wd n) = p + wd n := by unfold wrap64; omega
 have hf' : decide ((p : Int) + wd n <= s.size) = true := decide_eq_true (by omega)
 have hsl := fun wx => run_slice_string (P := Tryz.prog) (w := wx) 9 s .i64 .i64 (p : Int) ((p : Int) + wd n) Tryz.underlying9 (by omega) (by omega) (by omega)
 rw [show ((p : Int)).toNat = p by omega, show ((p : Int) + wd n).toNat = p + wd n by omega] at hsl
 clear hle hR
 go_enter Tryz.func169, Tryz.ntmps169
 go_wp2_with fail
 refine hw.mono ?_
 rintro e w1 ⟨rfl, rfl⟩
 go_wp2
 refine wp_mono (Q := OutS (.bool ((s.extract p (p + wd n)).toList == (Ut.enc n))) (Wr ((w.alloc (.cells #[.string s] 232)).alloc zero4).drew (w.heap.size + 1) n)) ?_ ?_
 rotate_left
 ·intro e a1 V hq
  cases e with
  | normal =>
   obtain ⟨tmps, defers⟩ := a1
   obtain ⟨h1, h2, h3⟩ := hq
   dsimp only at h1 h2
   subst h2
   subst h3
   go_wp2
   go_ret
   refine ⟨congrArg _ h1, ?_⟩
   refine Below.trans ?_ (un hB)
   refine Below.drew ?_
   repeat (refine Below.alloc ?_ (by simp <;> omega) _)
   exact Below.refl _ _
  | _ => exact hq.elim
 refine wp_region_held (S := fun w' => w'.cell? ⟨w.heap.size, 0, none⟩ = some (.string s)) (by kernel_rfl) ?_
 change wpAnyH _ _ _ _ _ 18 #[false, false, false, false, false, false, false, false, false, false, false, false, false, false, false, false, false, false] _ ((w.alloc (.cells #[.string s] 232)).alloc zero4).drew
 refine tkk 0 (.int .i64 ((p : Int) + wd n)) rfl (by intro w1 hS1; go_simp) hS0 ?_
 simp only [Act.put, List.setIfInBounds_toArray, List.set_cons_zero, List.set_cons_succ, List.getElem_toArray, List.getElem_cons_zero]
 refine tkk 1 (.pointer (some ⟨w.heap.size, 0, none⟩)) rfl (by intro w1 hS1; go_simp) hS0 ?_
 simp only [Act.put, nrm]
 refine tkk 2 (.string s) rfl (by intro w1 hS1; go_simp) hS0 ?_
 simp only [Act.put, nrm]
 refine tkk 3 (.int .i64 s.size) rfl (by intro w1 hS1; go_simp) hS0 ?_
 simp only [Act.put, nrm]
 refine tkk 4 (.bool true) rfl (by intro w1 hS1; go_simp) hS0 ?_
 simp only [Act.put, nrm]
 refine tkk 5 (.bool true) rfl (by intro w1 hS1; go_simp) hS0 ?_
 simp only [Act.put, nrm]
 refine tkk 6 (.pointer (some ⟨w.heap.size, 0, none⟩)) rfl (by intro w1 hS1; go_simp) hS0 ?_
 simp only [Act.put, nrm]
 refine tkk 7 (.string s) rfl (by intro w1 hS1; go_simp) hS0 ?_
 simp only [Act.put, nrm]
 refine tkk 8 (.int .i64 p) rfl (by intro w1 hS1; go_simp) hS0 ?_
 simp only [Act.put, nrm]
 refine tkk 9 (.int .i64 ((p : Int) + wd n)) rfl (by intro w1 hS1; go_simp) hS0 ?_
 simp only [Act.put, nrm]
 refine tkk 10 (.string (s.extract p (p + wd n))) rfl (by intro w1 hS1; go_simp) hS0 ?_
 simp only [Act.put, nrm]
 refine tkk 11 (.slice (some ⟨w.heap.size + 1, 0, none⟩) 0 4) rfl (by intro w1 hS1; go_simp) hS0 ?_
 simp only [Act.put, nrm]
 refine tkk 12 (.int .i32 n) rfl (by intro w1 hS1; go_simp) hS0 ?_
 simp only [Act.put, nrm]
 refine rdyy 13 rfl (fun K hK => ?_)
 rw [if_pos (by kernel_rfl)]
 go_wp2_with fail
 refine hA.mono ?_
 rintro e w' ⟨rfl, rfl⟩
 go_wp2
 refine hK.out _ _ hS (fun _ => ?_)
 clear hK K
 simp only [List.setIfInBounds_toArray, List.set_cons_zero, List.set_cons_succ]
 refine rdyy 14 rfl (fun K hK => ?_)
 rw [if_pos (by kernel_rfl)]
 go_simp
 refine hK.out _ _ hS (fun _ => ?_)
 clear hK K
 simp only [List.setIfInBounds_toArray, List.set_cons_zero, List.set_cons_succ]
 refine tkk 15 (.bool ((s.extract p (p + wd n)).toList == (Ut.enc n))) rfl (by intro w1 hS1; go_simp) hS ?_
 simp only [Act.put, nrm]
 refine tkk 16 (.bool ((s.extract p (p + wd n)).toList == (Ut.enc n))) rfl (by intro w1 hS1; go_simp) hS ?_
 simp only [Act.put, nrm]
 refine tkk 17 (.bool ((s.extract p (p + wd n)).toList == (Ut.enc n))) rfl (by intro w1 hS1; go_simp) hS ?_
 simp only [Act.put, nrm]
 refine wpAnyH_done (by kernel_rfl) ?_ _
 exact ⟨rfl, rfl, rfl⟩
theorem extract_toList (s : ByteArray) (p q : Nat) : (s.extract p q).toList = (s.data.toList.drop p).take (q - p) := by
 rw [ByteArray.toList_eq]
 simp [ByteArray.data_extract]
theorem st_near (s : ByteArray) (p n : Nat) : ((s.extract p (p + wd n)).toList == (Ut.enc n)) = st s p n := by
 rw [extract_toList, show p + wd n - p = (Ut.enc n).length by unfold wd; omega, Bool.eq_iff_iff, beq_iff_eq]
 unfold st
 rw [List.isPrefixOf_iff_prefix, List.prefix_iff_eq_take, eq_comm]
theorem st_far (s : ByteArray) (p n : Nat) (hp : p <= s.size) (h : s.size < p + wd n) : st s p n = false := by
 rw [Bool.eq_false_iff]
 unfold st
 rw [Ne, List.isPrefixOf_iff_prefix]
 intro hx
 have := hx.length_le
 have e : s.data.toList.length = s.size := by rw [Array.length_toList]; rfl
 rw [List.length_drop, e] at this
 unfold wd at h
 omega
theorem stands_any (s : ByteArray) (p n : Nat) (w : World) (h : n <= 1114111) (hp : p <= s.size) (hs : s.size <= 1000) :
  Calls Tryz.prog 169 #[.agg #[.string s], .int .i64 p, .int .i32 n] w fun e w' => e = .returned (.bool (st s p n)) /\ Below w.heap.size w w' := by
 by_cases hf : p + wd n <= s.size
 ·rw [<- st_near]
  exact stands_near s p n w h hs hf
 ·rw [st_far s p n hp (by omega)]
  exact stands_far s p n w h hp hs (by omega)
end Go.Proofs.YtjhnblgamodekaaGreatDoor.U
/-
 What the rules of package utf answer: isTold, isPlain, mayBegin, mayEnd. Conditions: the package-level variables hold what the program's text lays ('Glob').
-/
namespace Go.Proofs.YtjhnblgamodekaaGreatDoor.U
open Go Go.RowKit
structure Glob (aU aS : Addr) (w : World) : Prop where
 ty : w.cell? ⟨7, 0, none⟩ = some (.iface 121 (.agg #[.pointer (some ⟨17, 42, none⟩)]))
 ut : w.cell? ⟨13, 0, none⟩ = some (.iface 254 (.pointer (some aU)))
theorem Glob.below {aU aS : Addr} {w w' : World} (g : Glob aU aS w) {B : Nat} (hB : w.heap.size <= B) (h : Below B w w') : Glob aU aS w' := by
 obtain ⟨ty, ut⟩ := g
 refine ⟨?_, ?_⟩
 ·rw [h.cell (Nat.lt_of_lt_of_le (lt_of_cell ty) hB)]; exact ty
 ·rw [h.cell (Nat.lt_of_lt_of_le (lt_of_cell ut) hB)]; exact ut
theorem Glob.alloc {aU aS : Addr} {w : World} (g : Glob aU aS w) (o : Obj) : Glob aU aS (w.alloc o) :=
 g.below (Nat.le_refl _) ((Below.refl _ _).alloc (Nat.le_refl _) _)
def er (b : Bool) (a : Addr) : Value := if b then .nilIface else .iface 254 (.pointer (some a))
theorem isTold_any (s : ByteArray) (p n : Nat) (aU aS : Addr) (w : World) (g : Glob aU aS w) (h : n <= 1114111) (hp : p <= s.size) (hs : s.size <= 1000) :
  Calls Tryz.prog 166 #[.agg #[.string s], .int .i64 p, .int .i32 n] w fun e w' => e = .returned (er (st s p n) aU) /\ Below w.heap.size w w' := by
 have H := stands_any s p n (w.alloc (.cells #[.string s] 232)) h hp hs
 have g1 := g.alloc (.cells #[.string s] 232)
 have H' := H.mono (R' := fun e w' => e = .returned (.bool (st s p n)) /\ Hid (Below w.heap.size w w') /\ w'.cell? ⟨13, 0, none⟩ = some (.iface 254 (.pointer (some aU))))
  (fun e w' ⟨he, hb⟩ => ⟨he, H_ (((Below.refl _ _).alloc (Nat.le_refl _) _).trans (hb.mono (by simp))), (g1.below (Nat.le_refl _) hb).ut⟩)
 clear H g g1
 generalize st s p n = b at *
 cases b
 ·go_enter Tryz.func166, Tryz.ntmps166
  go_wp2_with fail
  refine H'.mono ?_
  rintro e w1 ⟨rfl, hb, hc⟩
  go_wp2
  go_ret
  exact ⟨rfl, un hb⟩
 ·go_enter Tryz.func166, Tryz.ntmps166
  go_wp2_with fail
  refine H'.mono ?_
  rintro e w1 ⟨rfl, hb, hc⟩
  go_wp2
  go_ret
  exact ⟨rfl, un hb⟩
def begins (p n : Nat) : Bool := !(p == 0 && (n == 32 || n == 58 || n == 60))
def ends (s : ByteArray) (p n : Nat) : Bool := !(decide ((p : Int) = (s.size : Int) - 1) && n == 32)
end Go.Proofs.YtjhnblgamodekaaGreatDoor.U
