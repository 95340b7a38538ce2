/- Several texts in one: UDoor, ERead2, EDoor, UTells, URight, EShown, EFacts, FPure, FPure2, GPure, TErrFacts, ErrFacts, Errs, Errno, TErrs. Each says w -/
import Derived.Test.YtmenllnokgjdlaaGreatDoorUFault
/-
 What utf.Text, Signs and Bad answer, at every input. Conditions: the package-level variables hold what the program's text lays ('Glob').
-/
namespace Go.Proofs.YtmenllnokgjdlaaGreatDoor.U
open Go Go.RowKit
end Go.Proofs.YtmenllnokgjdlaaGreatDoor.U
/-
 What esc.reader.read answers: the value that a text tells. Conditions: the package-level variables hold what the program's text lays ('Glob').
-/
namespace Go.Proofs.YtmenllnokgjdlaaGreatDoor.E
open Go Go.RowKit Go.Shelf Ec
attribute [local go_sem] Oper.semAt_some
def rfd (nm : Bool) {s : ByteArray} : List UInt8 -> Nat -> List (Pc s) -> Option (List UInt8)
 | out, _, [] => some out
 | out, dn, x :: l => if x.p < dn then rfd nm out dn l else match stp nm s.size x.p (s[x.p]'x.hp) (s.data.toList.drop (x.p + 1)) with
  | none => none
  | some (t, k) => rfd nm (out ++ t) (x.p + 1 + k) l
def Fd (nm : Bool) {s : ByteArray} (pre : List (Pc s)) (out : List UInt8) (dn : Nat) : Prop := out.length <= pre.length /\ dn <= 2000 /\ ∀ tail, rfd nm [] 0 (pre ++ tail) = rfd nm out dn tail
theorem Fd.skip {nm : Bool} {s : ByteArray} {pre : List (Pc s)} {out : List UInt8} {dn : Nat} {x : Pc s} (h : Fd nm pre out dn) (hx : x.p < dn) : Fd nm (pre ++ [x]) out dn :=
 ⟨by have := h.1; simp; omega, h.2.1, fun tail => by rw [List.append_assoc, h.2.2, List.singleton_append, rfd, if_pos hx]⟩
def Kr (A : Nat) (W W' : World) : Prop := KeepsOthers W W' /\ C.Two (A + 4) (A + 4) W W'
theorem Kr.trans {A : Nat} {U V W : World} (h : Kr A U V) (k : Kr A V W) : Kr A U W := ⟨h.1.trans k.1, h.2.trans k.2⟩
def rd (nm : Bool) (s : ByteArray) : Option (List UInt8) := if (U.bad s).isNone then rdk nm s.size 0 0 s.data.toList else none
end Go.Proofs.YtmenllnokgjdlaaGreatDoor.E
/-
 What esc.Filter, Name, ReadFilter and ReadName answer, at every text of at most one thousand bytes. Conditions: the package-level variables hold what the program's text lays ('Glob').
-/
namespace Go.Proofs.YtmenllnokgjdlaaGreatDoor.E
open Go Go.RowKit Ec
theorem prp_al (nm : Bool) (s : ByteArray) : ∀ f p, s.size <= p + f -> prp nm (C.al s 1 f p) = prt nm s.size p (s.data.toList.drop p)
 | 0, p, hf => by
  rw [drop_out (by omega), C.al, prt]
  rfl
 | f + 1, p, hf => by
  by_cases h : p < s.size
  ·rw [C.al, dif_pos h, drop_at h, prt, <- prp_al nm s f (p + 1) (by omega)]
   rfl
  ·rw [C.al, dif_neg h, drop_out h, prt]
   rfl
def pri (nm : Bool) (s : ByteArray) : ByteArray := ⟨(prt nm s.size 0 s.data.toList).toArray⟩
theorem prp_all (nm : Bool) (s : ByteArray) : (⟨(prp nm (all s)).toArray⟩ : ByteArray) = pri nm s := by
 have := prp_al nm s s.size 0 (by omega)
 rw [List.drop_zero] at this
 have e : all s = C.al s 1 s.size 0 := rfl
 unfold pri
 rw [e, this]
def und (nm : Bool) (s : ByteArray) : ByteArray × Int := match rd nm s with
 | some t => (⟨t.toArray⟩, 0)
 | none => (⟨#[]⟩, 60)
theorem filter_any (s : ByteArray) (w : World) (hs : s.size <= 1000) :
  Calls Tryz.prog 77 #[.string s] w fun e w' => e = .returned (.string (pri false s)) /\ Below w.heap.size w w' := by
 have H : Hid (Calls Tryz.prog 114 #[.int .i64 0, .string s] w (PPost false s w)) := printed_any false s w hs
 go_enter Tryz.func77, Tryz.ntmps77
 go_wp2_with fail
 refine (un H).mono ?_
 rintro e w1 ⟨rfl, hb⟩
 rw [prp_all]
 have HB := H_ hb
 clear hb H
 go_wp2
 go_ret
 exact ⟨rfl, un HB⟩
end Go.Proofs.YtmenllnokgjdlaaGreatDoor.E
/-
 What the model's range over a text says of it, plainly: where it is not right, its signs, whether it is safe. Conditions: none.
-/
namespace Go.Proofs.YtmenllnokgjdlaaGreatDoor.U
open Go
theorem len_toList (s : ByteArray) : s.data.toList.length = s.size := by rw [Array.length_toList]; rfl
theorem al_is (s : ByteArray) (r : List UInt8) (hr : Ut.dc r = none) : ∀ (cs : List Nat) (f p : Nat), s.data.toList.drop p = Ut.fl cs ++ r -> (∀ c ∈ cs, Ut.sg c) -> s.size <= p + f -> p <= s.size ->
  first (st s) (al s f p) = (if r = [] then none else some (p + (Ut.fl cs).length)) /\ (r = [] -> (al s f p).map (·.n) = cs) := by
 intro cs
 induction cs with
 | nil =>
  intro f p hd _ hf hp
  have hd' : s.data.toList.drop p = r := hd
  have hl : r.length = s.size - p := by rw [<- hd', List.length_drop, len_toList]
  by_cases h0 : r = []
  ·have hge : ¬ p < s.size := by rw [h0] at hl; simp at hl; omega
   rw [al_end s f p hge, if_pos h0]
   exact ⟨rfl, fun _ => rfl⟩
  ·have hlt : p < s.size := by
    rcases Nat.lt_or_ge p s.size with h | h
    ·exact h
    ·exact absurd (List.length_eq_zero_iff.1 (by omega)) h0
   obtain ⟨f', rfl, ha, hf'⟩ := al_cons s f p hlt hf
   refine ⟨?_, fun h => absurd h h0⟩
   have hde : (Utf8.decode s p).1 = 65533 := by rw [Ut.decode_eq s p hlt, hd', hr]
   have hst : st s p (Utf8.decode s p).1 = false := by
    rw [hde, Bool.eq_false_iff]
    unfold st
    rw [hd', Ne, List.isPrefixOf_iff_prefix]
    rintro ⟨t, ht⟩
    rw [<- ht, Ut.dc_enc 65533 ⟨by omega, by omega⟩] at hr
    cases hr
   rw [ha, first, if_neg (by simpa using hst), if_neg h0]
   rfl
 | cons c cs ih =>
  intro f p hd hs hf hp
  have hd' : s.data.toList.drop p = Ut.enc c ++ (Ut.fl cs ++ r) := by rw [hd]; simp [Ut.fl]
  have hc := hs c (by simp)
  have hpos := Ut.enc_pos c
  have hl : (Ut.enc c).length + (Ut.fl cs ++ r).length = s.size - p := by rw [<- List.length_append, <- hd', List.length_drop, len_toList]
  have hlt : p < s.size := by omega
  obtain ⟨f', rfl, ha, hf'⟩ := al_cons s f p hlt hf
  have hde : Utf8.decode s p = (c, (Ut.enc c).length) := by rw [Ut.decode_eq s p hlt, hd', Ut.dc_enc c hc]
  have hst : st s p (Utf8.decode s p).1 = true := by
   rw [hde]
   unfold st
   rw [hd', List.isPrefixOf_iff_prefix]
   exact ⟨_, rfl⟩
  have hn : s.data.toList.drop (p + (Utf8.decode s p).2) = Ut.fl cs ++ r := by
   rw [hde, <- List.drop_drop, hd']
   simp
  obtain ⟨i1, i2⟩ := ih f' (p + (Utf8.decode s p).2) hn (fun x hx => hs x (by simp [hx])) hf' (by rw [hde]; show p + (Ut.enc c).length <= _; omega)
  rw [ha]
  refine ⟨?_, fun h0 => ?_⟩
  ·rw [first, if_pos hst, i1]
   split
   ·rfl
   ·rw [hde]
    simp only [Ut.fl, List.length_append]
    congr 1
    show p + _ + _ = _
    omega
  ·rw [List.map_cons, i2 h0]
   show (Utf8.decode s p).1 :: cs = _
   rw [hde]
theorem bad_is {s : ByteArray} {cs : List Nat} {r : List UInt8} (h : Ut.Is s.data.toList cs r) : bad s = if r = [] then none else some (Ut.fl cs).length := by
 have := (al_is s r h.none cs s.size 0 (by rw [List.drop_zero]; exact h.eq) h.all (by omega) (Nat.zero_le _)).1
 rw [Nat.zero_add] at this
 exact this
def at_ (s : ByteArray) (q : Nat) : Nat := Ut.g s.data.toList q
end Go.Proofs.YtmenllnokgjdlaaGreatDoor.U
/-
 Which texts are right, plainly. Conditions: none.
-/
namespace Go.Proofs.YtmenllnokgjdlaaGreatDoor.U
open Go
theorem bad_none_iff (s : ByteArray) : bad s = none ↔ ∃ cs, Ut.Is s.data.toList cs [] := by
 obtain ⟨cs, r, h⟩ := Ut.is_ex s.data.toList
 rw [bad_is h]
 constructor
 ·intro hn
  split at hn
  ·rename_i h0; subst h0; exact ⟨cs, h⟩
  ·cases hn
 ·rintro ⟨ds, hd⟩
  rw [if_pos (Ut.is_inj h hd).2]
theorem bad_of_is {s : ByteArray} {cs : List Nat} (h : Ut.Is s.data.toList cs []) : bad s = none := (bad_none_iff s).2 ⟨cs, h⟩
theorem is_enc {n : Nat} (h : Ut.sg n) : Ut.Is (Ut.enc n) [n] [] := ⟨by simpa using h, rfl, by simp [Ut.fl]⟩
theorem data_append (a c : ByteArray) : (a ++ c).data.toList = a.data.toList ++ c.data.toList := by simp
end Go.Proofs.YtmenllnokgjdlaaGreatDoor.U
/-
 The law file's shown(), cut() and plain(). Conditions: the package-level variables hold what the program's text lays.
-/
namespace Go.Proofs.YtmenllnokgjdlaaGreatDoor.E
open Go Go.RowKit Ec
attribute [local go_sem] Oper.semAt_some
end Go.Proofs.YtmenllnokgjdlaaGreatDoor.E
/-
 Plain facts on what is printed and read in layer 6. Conditions: none.
-/
namespace Go.Proofs.YtmenllnokgjdlaaGreatDoor.E
open Go Go.RowKit Ec
theorem len_toList (s : ByteArray) : s.data.toList.length = s.size := Array.length_toList
theorem pri_data (nm : Bool) (s : ByteArray) : (pri nm s).data.toList = prt nm s.data.toList.length 0 s.data.toList := by rw [len_toList]; rfl
theorem pri_size (nm : Bool) (s : ByteArray) : s.size <= (pri nm s).size /\ (pri nm s).size <= 3 * s.size := by
 have h := prt_len nm s.data.toList.length s.data.toList 0
 rw [<- pri_data, len_toList, len_toList] at h
 exact h
theorem pri_plain (nm : Bool) (s : ByteArray) : (pri nm s).data.toList.all pln = true := by
 rw [List.all_eq_true, pri_data]
 exact fun x hx => prt_pln nm _ _ 0 x hx
theorem is_low : ∀ l : List UInt8, (∀ x ∈ l, x.toNat < 128) -> Ut.Is l (l.map UInt8.toNat) []
 | [], _ => ⟨by simp, rfl, by simp [Ut.fl]⟩
 | x :: l, h => by
  have h1 := is_low l (fun y hy => h y (by simp [hy]))
  have hx := h x (by simp)
  have e : Ut.enc x.toNat = [x] := by
   rcases Ut.enc_cases x.toNat with ⟨_, e⟩ | ⟨h2, _⟩ | ⟨h2, _⟩ | ⟨h2, _⟩
   ·rw [e, show Ut.b x.toNat = x from UInt8.toNat.inj (Ut.bn _ (by omega))]
   ·omega
   ·omega
   ·omega
  have := Ut.Is.behind (U.is_enc (n := x.toNat) ⟨by omega, by omega⟩) h1
  rw [e] at this
  exact this
theorem bad_low {s : ByteArray} (h : ∀ x ∈ s.data.toList, x.toNat < 128) : U.bad s = none := U.bad_of_is (is_low _ h)
theorem pln_low {x : UInt8} (h : pln x = true) : x.toNat < 128 := by unfold pln at h; simp at h; omega
theorem rd_low (nm : Bool) {s : ByteArray} (h : ∀ x ∈ s.data.toList, x.toNat < 128) : rd nm s = rdk nm s.size 0 0 s.data.toList := by unfold rd; rw [bad_low h]; rfl
theorem mk_data (s : ByteArray) : (⟨s.data.toList.toArray⟩ : ByteArray) = s := by cases s; rfl
theorem und_pri (nm : Bool) (s : ByteArray) : und nm (pri nm s) = (s, 0) := by
 have h := rd_low nm (s := pri nm s) (fun x hx => pln_low (List.all_eq_true.1 (pri_plain nm s) x hx))
 have h2 := back0 nm s.data.toList
 rw [<- pri_data, len_toList, <- h] at h2
 unfold und
 rw [h2]
theorem data_app (a b : ByteArray) : (a ++ b).data.toList = a.data.toList ++ b.data.toList := by simp [ByteArray.data_append]
end Go.Proofs.YtmenllnokgjdlaaGreatDoor.E
/-
 Filters, plainly: so many levels at most; names, what is right, texts, what is read of a text; what the document says of layer 8, and what follows. Conditions: none.
-/
namespace Go.Proofs.YtmenllnokgjdlaaGreatDoor.Fp
open Dp (tyL tyB jn mp)
open E (pri und)
def cutB (c : UInt8) : List UInt8 -> Option (List UInt8 × List UInt8)
 | [] => none
 | x :: r => if x = c then some ([], r) else (cutB c r).map fun q => (x :: q.1, q.2)
def spl (c : UInt8) : List UInt8 -> List (List UInt8)
 | [] => [[]]
 | x :: r => if x = c then [] :: spl c r else match spl c r with
  | [] => [[x]]
  | q :: qs => (x :: q) :: qs
theorem spl_ne (c : UInt8) : ∀ l, spl c l ≠ []
 | [] => by simp [spl]
 | x :: r => by
  rw [spl]
  split
  ·simp
  ·split <;> simp
theorem cutB_none (c : UInt8) : ∀ l : List UInt8, cutB c l = none ↔ c ∉ l
 | [] => by simp [cutB]
 | x :: r => by
  rw [cutB]
  by_cases h : x = c
  ·simp [h]
  ·rw [if_neg h, Option.map_eq_none_iff, cutB_none c r]
   simp [Ne.symm h]
theorem cutB_at (c : UInt8) : ∀ (a b : List UInt8), c ∉ a -> cutB c (a ++ c :: b) = some (a, b)
 | [], b, _ => by simp [cutB]
 | x :: a, b, h => by
  rw [List.cons_append, cutB, if_neg (fun e => h (by simp [e])), cutB_at c a b (fun e => h (by simp [e]))]
  rfl
theorem cutB_some (c : UInt8) : ∀ (l a b : List UInt8), cutB c l = some (a, b) -> l = a ++ c :: b /\ c ∉ a
 | [], a, b, h => by cases h
 | x :: l, a, b, h => by
  rw [cutB] at h
  split at h
  ·cases h; simp_all
  ·rw [Option.map_eq_some_iff] at h
   obtain ⟨⟨p, q⟩, h1, h2⟩ := h
   cases h2
   obtain ⟨h3, h4⟩ := cutB_some c l p q h1
   rename_i hx
   exact ⟨by rw [h3]; rfl, by simp [h4, Ne.symm hx]⟩
theorem spl_none (c : UInt8) : ∀ l : List UInt8, c ∉ l -> spl c l = [l]
 | [], _ => rfl
 | x :: r, h => by
  rw [spl, if_neg (fun e => h (by simp [e])), spl_none c r (fun e => h (by simp [e]))]
theorem spl_at (c : UInt8) : ∀ (a b : List UInt8), c ∉ a -> spl c (a ++ c :: b) = a :: spl c b
 | [], b, _ => by simp [spl]
 | x :: a, b, h => by
  rw [List.cons_append, spl, if_neg (fun e => h (by simp [e])), spl_at c a b (fun e => h (by simp [e]))]
theorem spl_cut (c : UInt8) (l : List UInt8) : spl c l = match cutB c l with
  | none => [l]
  | some (a, b) => a :: spl c b := by
 cases h : cutB c l with
 | none => exact spl_none c l ((cutB_none c l).1 h)
 | some q =>
  obtain ⟨a, b⟩ := q
  obtain ⟨h1, h2⟩ := cutB_some c l a b h
  rw [h1, spl_at c a b h2]
theorem spl_jn (c : UInt8) : ∀ xs : List (List UInt8), xs ≠ [] -> (∀ x ∈ xs, c ∉ x) -> spl c (jn c xs) = xs
 | [], h, _ => absurd rfl h
 | [x], _, h => by rw [Dp.jn_one]; exact spl_none c x (h x (by simp))
 | x :: y :: r, _, h => by
  rw [Dp.jn_cons, spl_at c x _ (h x (by simp)), spl_jn c (y :: r) (by simp) (fun z hz => h z (by simp [hz]))]
theorem count_jn (c : UInt8) : ∀ xs : List (List UInt8), xs ≠ [] -> (∀ x ∈ xs, c ∉ x) -> (jn c xs).count c + 1 = xs.length
 | [], h, _ => absurd rfl h
 | [x], _, h => by rw [Dp.jn_one, List.count_eq_zero.2 (h x (by simp))]; rfl
 | x :: y :: r, _, h => by
  have := count_jn c (y :: r) (by simp) (fun z hz => h z (by simp [hz]))
  rw [Dp.jn_cons, List.count_append, List.count_eq_zero.2 (h x (by simp)), List.count_cons_self, List.length_cons]
  omega
theorem spl_small (c : UInt8) : ∀ (l : List UInt8), ∀ q ∈ spl c l, q.length <= l.length
 | [], q, h => by simp [spl] at h; subst h; exact Nat.le_refl _
 | x :: r, q, h => by
  rw [spl] at h
  have ih := spl_small c r
  split at h
  ·rcases List.mem_cons.1 h with rfl | h
   ·simp
   ·have := ih q h; simp; omega
  ·split at h
   ·simp at h; subst h; simp
   ·rename_i p ps hq
    rcases List.mem_cons.1 h with rfl | h
    ·have := ih p (by rw [hq]; simp); simp; omega
    ·have := ih q (by rw [hq]; simp [h]); simp; omega
def opt (l : List UInt8) : Bool := l != [] && l.all Dp.fit
def nmL (l : List UInt8) : Bool := decide (l.length <= 30) && match cutB 59 l with
 | none => tyL l
 | some (k, o) => tyL k && (spl 59 o).all opt
def okName (s : ByteArray) : Bool := nmL s.data.toList
def Fl : Nat -> Type
 | 0 => Empty
 | n + 1 => Int × ByteArray × ByteArray × List ByteArray × ByteArray × List (Fl n)
def mk {n : Nat} (k : Int) (nm va : ByteArray) (an : List ByteArray) (fi : ByteArray) (ls : List (Fl n)) : Fl (n + 1) := (k, nm, va, an, fi, ls)
def kd {n : Nat} (F : Fl (n + 1)) : Int := (show Int × ByteArray × ByteArray × List ByteArray × ByteArray × List (Fl n) from F).1
def nm {n : Nat} (F : Fl (n + 1)) : ByteArray := (show Int × ByteArray × ByteArray × List ByteArray × ByteArray × List (Fl n) from F).2.1
def va {n : Nat} (F : Fl (n + 1)) : ByteArray := (show Int × ByteArray × ByteArray × List ByteArray × ByteArray × List (Fl n) from F).2.2.1
def an {n : Nat} (F : Fl (n + 1)) : List ByteArray := (show Int × ByteArray × ByteArray × List ByteArray × ByteArray × List (Fl n) from F).2.2.2.1
def fi {n : Nat} (F : Fl (n + 1)) : ByteArray := (show Int × ByteArray × ByteArray × List ByteArray × ByteArray × List (Fl n) from F).2.2.2.2.1
def ls {n : Nat} (F : Fl (n + 1)) : List (Fl n) := (show Int × ByteArray × ByteArray × List ByteArray × ByteArray × List (Fl n) from F).2.2.2.2.2
theorem mk_eta {n : Nat} (F : Fl (n + 1)) : mk (kd F) (nm F) (va F) (an F) (fi F) (ls F) = F := rfl
@[simp] theorem kd_mk {n : Nat} (k : Int) (a b : ByteArray) (l : List ByteArray) (c : ByteArray) (xs : List (Fl n)) : kd (mk k a b l c xs) = k := rfl
@[simp] theorem nm_mk {n : Nat} (k : Int) (a b : ByteArray) (l : List ByteArray) (c : ByteArray) (xs : List (Fl n)) : nm (mk k a b l c xs) = a := rfl
@[simp] theorem va_mk {n : Nat} (k : Int) (a b : ByteArray) (l : List ByteArray) (c : ByteArray) (xs : List (Fl n)) : va (mk k a b l c xs) = b := rfl
@[simp] theorem an_mk {n : Nat} (k : Int) (a b : ByteArray) (l : List ByteArray) (c : ByteArray) (xs : List (Fl n)) : an (mk k a b l c xs) = l := rfl
@[simp] theorem fi_mk {n : Nat} (k : Int) (a b : ByteArray) (l : List ByteArray) (c : ByteArray) (xs : List (Fl n)) : fi (mk k a b l c xs) = c := rfl
@[simp] theorem ls_mk {n : Nat} (k : Int) (a b : ByteArray) (l : List ByteArray) (c : ByteArray) (xs : List (Fl n)) : ls (mk k a b l c xs) = xs := rfl
def isSet (k : Int) : Bool := k == 0 || k == 1 || k == 2
def okP (s : ByteArray) : Bool := decide (s.size ≠ 0) && decide (s.size <= 60)
def fitS (k : Int) (a v : ByteArray) (l : List ByteArray) (f : ByteArray) (m : Nat) : Bool := decide (0 < m) && decide (m <= if k = 2 then 1 else 8) && (decide (a.size = 0) && decide (v.size = 0)) && (decide (l.length = 0) && decide (f.size = 0))
def fitV (k : Int) (a v : ByteArray) (l : List ByteArray) (f : ByteArray) (m : Nat) : Bool := okName a && decide (v.size <= if k = 7 then 0 else 60) && (decide (l.length = 0) && decide (f.size = 0)) && decide (m = 0)
def fitU (a v : ByteArray) (l : List ByteArray) (f : ByteArray) (m : Nat) : Bool := okName a && decide (l.length <= 4) && l.all okP && (decide (v.size <= 60) && decide (f.size <= 60)) && (decide (v.size ≠ 0) || decide (0 < l.length) || decide (f.size ≠ 0)) && decide (m = 0)
def fitB (k : Int) (a v : ByteArray) (l : List ByteArray) (f : ByteArray) (m : Nat) : Bool :=
 if isSet k then fitS k a v l f m else if k = 4 then fitU a v l f m else if k = 3 \/ k = 5 \/ k = 6 \/ k = 7 \/ k = 8 then fitV k a v l f m else false
def fitF {n : Nat} (F : Fl (n + 1)) : Bool := fitB (kd F) (nm F) (va F) (an F) (fi F) (ls F).length
def right : (n : Nat) -> Nat -> Fl n -> Bool
 | 0, _, t => Empty.elim t
 | n + 1, d, F => decide (0 < d) && fitF F && (ls F).all (right n (d - 1))
def names : (n : Nat) -> Fl n -> List ByteArray
 | 0, t => Empty.elim t
 | n + 1, F => (if (nm F).size = 0 then [] else [nm F]) ++ ((ls F).map (names n)).flatten
def allB {α : Type} (f : α -> α -> Bool) : List α -> List α -> Bool
 | [], [] => true
 | x :: xs, y :: ys => f x y && allB f xs ys
 | _, _ => false
def same : (n : Nat) -> Fl n -> Fl n -> Bool
 | 0, t, _ => Empty.elim t
 | n + 1, A, B => decide (kd A = kd B) && decide (nm A = nm B) && decide (va A = va B) && decide (fi A = fi B) && decide (an A = an B) && allB (same n) (ls A) (ls B)
theorem allB_eq {α : Type} (f : α -> α -> Bool) : ∀ (xs ys : List α), (∀ x ∈ xs, ∀ y, f x y = true ↔ x = y) -> (allB f xs ys = true ↔ xs = ys)
 | [], [], _ => by simp [allB]
 | [], _ :: _, _ => by simp [allB]
 | _ :: _, [], _ => by simp [allB]
 | x :: xs, y :: ys, h => by
  rw [allB, Bool.and_eq_true, allB_eq f xs ys (fun z hz => h z (by simp [hz])), h x (by simp) y]
  simp
theorem same_iff : ∀ (n : Nat) (A B : Fl n), same n A B = true ↔ A = B
 | 0, t, _ => Empty.elim t
 | n + 1, A, B => by
  rw [same]
  simp only [Bool.and_eq_true, decide_eq_true_eq, allB_eq (same n) (ls A) (ls B) (fun x _ y => same_iff n x y)]
  constructor
  ·rintro ⟨⟨⟨⟨⟨h1, h2⟩, h3⟩, h4⟩, h5⟩, h6⟩
   rw [<- mk_eta A, <- mk_eta B, h1, h2, h3, h4, h5, h6]
  ·rintro rfl
   exact ⟨⟨⟨⟨⟨rfl, rfl⟩, rfl⟩, rfl⟩, rfl⟩, rfl⟩
def sgn (k : Int) : List UInt8 := if k = 0 then [38] else if k = 1 then [124] else if k = 2 then [33] else if k = 3 then [61] else if k = 5 then [62, 61] else if k = 6 then [60, 61] else if k = 8 then [126, 61] else if k = 7 then [61, 42] else []
abbrev pv (s : ByteArray) : List UInt8 := (pri false s).data.toList
def pieces (v : ByteArray) (l : List ByteArray) (f : ByteArray) : List UInt8 := jn 42 (pv v :: (l.map pv ++ [pv f]))
def text : (n : Nat) -> Fl n -> List UInt8
 | 0, t => Empty.elim t
 | n + 1, F => 40 :: ((if isSet (kd F) then sgn (kd F) ++ ((ls F).map (text n)).flatten else if kd F = 4 then (nm F).data.toList ++ 61 :: pieces (va F) (an F) (fi F) else (nm F).data.toList ++ (sgn (kd F) ++ pv (va F))) ++ [41])
def rdV (t : List UInt8) : Option ByteArray := if (und false ⟨t.toArray⟩).2 = 0 then some (und false ⟨t.toArray⟩).1 else none
def subs {n : Nat} (a : ByteArray) (all : List ByteArray) : Fl (n + 1) := mk 4 a (all.headD ⟨#[]⟩) all.tail.dropLast (all.getLastD ⟨#[]⟩) []
def rdVals {n : Nat} (k : Int) (a : ByteArray) (t : List UInt8) : Option (Fl (n + 1)) :=
 if k ≠ 3 \/ 42 ∉ t then (rdV t).map fun v => mk k a v [] ⟨#[]⟩ []
 else if t = [42] then some (mk 7 a ⟨#[]⟩ [] ⟨#[]⟩ [])
 else if 5 < t.count 42 then none
 else (mp rdV (spl 42 t)).map (subs a)
def kindOf (l : List UInt8) : List UInt8 × Int :=
 if l.getLast? = some 62 then (l.dropLast, 5) else if l.getLast? = some 60 then (l.dropLast, 6) else if l.getLast? = some 126 then (l.dropLast, 8) else (l, 3)
def rdC {n : Nat} (l : List UInt8) : Option (Fl (n + 1)) := match cutB 61 l with
 | none => none
 | some (a, t) => rdVals (kindOf a).2 ⟨(kindOf a).1.toArray⟩ t
def rdL {α : Type} (rd : List UInt8 -> Option (α × List UInt8)) : Nat -> List UInt8 -> Option (List α × List UInt8)
 | 0, l => if l.head? = some 40 then none else some ([], l)
 | r + 1, l => if l.head? = some 40 then match rd l with
   | none => none
   | some (x, l') => (rdL rd r l').map fun q => (x :: q.1, q.2)
  else some ([], l)
def setK (s : UInt8) : Option Int := if s = 38 then some 0 else if s = 124 then some 1 else if s = 33 then some 2 else none
def rdB {n : Nat} (rd : List UInt8 -> Option (Fl n × List UInt8)) (r : List UInt8) : Option (Fl (n + 1) × List UInt8) := match r.head?.bind setK with
 | some k => (rdL rd 8 r.tail).map fun q => (mk k ⟨#[]⟩ ⟨#[]⟩ [] ⟨#[]⟩ q.1, q.2)
 | none => match cutB 41 r with
  | none => none
  | some (p, _) => (rdC p).map fun F => (F, r.drop p.length)
def rdF : (k : Nat) -> List UInt8 -> Option (Fl (k + 2) × List UInt8)
 | 0, _ => none
 | k + 1, l => if l.head? = some 40 then match rdB (rdF k) l.tail with
   | none => none
   | some (F, r) => if r.head? = some 41 /\ fitF F = true then some (F, r.tail) else none
  else none
end Go.Proofs.YtmenllnokgjdlaaGreatDoor.Fp
/-
 Filters, plainly: what is printed of a right filter is read as it; what is read is right. Conditions: none.
-/
namespace Go.Proofs.YtmenllnokgjdlaaGreatDoor.Fp
open Dp (tyL tyB jn mp)
open E (pri und)
open Go.Proofs.YtmenllnokgjdlaaGreatDoor
theorem dx_no (i : Nat) (h : i < 16) : Cd.dx i ≠ 40 /\ Cd.dx i ≠ 41 /\ Cd.dx i ≠ 42 := by
 have : ∀ i : Fin 16, Cd.dx i.val ≠ 40 /\ Cd.dx i.val ≠ 41 /\ Cd.dx i.val ≠ 42 := by decide
 exact this ⟨i, h⟩
theorem pb_no (n p : Nat) (x : UInt8) : ∀ y ∈ Ec.pb false n p x, y ≠ 40 /\ y ≠ 41 /\ y ≠ 42 := by
 intro y hy
 unfold Ec.pb at hy
 split at hy
 ·rename_i h
  simp at hy
  subst hy
  simp only [Ec.res, Bool.and_eq_true, Bool.not_eq_true'] at h
  have h2 := h.2
  simp at h2
  exact ⟨h2.2.2.1, h2.2.2.2, h2.2.1⟩
 ·simp at hy
  rcases hy with rfl | hy
  ·decide
  ·unfold Ec.hx at hy
   have := Ec.u16 x
   simp at hy
   rcases hy with rfl | rfl
   ·exact dx_no _ this.1
   ·exact dx_no _ this.2
theorem prt_no (n : Nat) : ∀ (l : List UInt8) (p : Nat), ∀ y ∈ Ec.prt false n p l, y ≠ 40 /\ y ≠ 41 /\ y ≠ 42
 | [], _, y, h => by cases h
 | x :: r, p, y, h => by
  rw [Ec.prt] at h
  rcases List.mem_append.1 h with h | h
  ·exact pb_no _ _ _ y h
  ·exact prt_no n r _ y h
theorem pv_no (s : ByteArray) : ∀ y ∈ pv s, y ≠ 40 /\ y ≠ 41 /\ y ≠ 42 := fun y hy => by
 rw [pv, E.pri_data] at hy
 exact prt_no _ _ _ y hy
theorem u8_each {p : UInt8 -> Prop} (h : ∀ i : Fin 256, p (UInt8.ofNat i.val)) (x : UInt8) : p x := by
 have := h ⟨x.toNat, x.toNat_lt⟩
 simpa using this
theorem pv_len (s : ByteArray) : (pv s).length <= 3 * s.size := by
 have := (E.pri_size false s).2
 rw [<- E.len_toList] at this
 exact this
theorem pv_nil (s : ByteArray) : pv s = [] ↔ s.size = 0 := by
 have := E.pri_size false s
 rw [<- E.len_toList (pri false s)] at this
 constructor
 ·intro h
  have h2 : (pri false s).data.toList.length = 0 := by rw [show (pri false s).data.toList = [] from h]; rfl
  omega
 ·intro h; exact List.eq_nil_of_length_eq_zero (show (pri false s).data.toList.length = 0 by omega)
theorem rdV_pv (s : ByteArray) : rdV (pv s) = some s := by
 unfold rdV
 rw [pv, E.mk_data, E.und_pri]
 rfl
theorem spl_bytes (c : UInt8) : ∀ (l : List UInt8), ∀ x ∈ l, x = c \/ ∃ q ∈ spl c l, x ∈ q
 | [], x, h => by cases h
 | y :: r, x, h => by
  rw [spl]
  split
  ·rename_i hy
   rcases List.mem_cons.1 h with rfl | h
   ·exact .inl hy
   ·rcases spl_bytes c r x h with h | ⟨q, h1, h2⟩
    ·exact .inl h
    ·exact .inr ⟨q, by simp [h1], h2⟩
  ·split
   ·rename_i hq; exact absurd hq (spl_ne c r)
   ·rename_i p ps hq
    rcases List.mem_cons.1 h with rfl | h
    ·exact .inr ⟨_, by simp; exact .inl rfl, by simp⟩
    ·rcases spl_bytes c r x h with h | ⟨q, h1, h2⟩
     ·exact .inl h
     ·rw [hq] at h1
      rcases List.mem_cons.1 h1 with rfl | h1
      ·exact .inr ⟨_, by simp; exact .inl rfl, by simp [h2]⟩
      ·exact .inr ⟨q, by simp [h1], h2⟩
theorem name_bytes {l : List UInt8} (h : nmL l = true) : (∀ x ∈ l, tyB x = true \/ x = 59) /\ l ≠ [] /\ (∀ x, l.head? = some x -> tyB x = true) := by
 unfold nmL at h
 rw [Bool.and_eq_true] at h
 have h2 := h.2
 cases hc : cutB 59 l with
 | none =>
  rw [hc] at h2
  have hb := Dp.ty_bytes h2
  exact ⟨fun x hx => .inl (hb x hx), Dp.ty_ne h2, fun x hx => hb x (List.mem_of_head? hx)⟩
 | some q =>
  obtain ⟨k, o⟩ := q
  rw [hc] at h2
  simp only [Bool.and_eq_true, List.all_eq_true] at h2
  obtain ⟨rfl, hk⟩ := cutB_some 59 l k o hc
  have hb := Dp.ty_bytes h2.1
  have hne := Dp.ty_ne h2.1
  refine ⟨fun x hx => ?_, by simp, fun x hx => ?_⟩
  ·rcases List.mem_append.1 hx with hx | hx
   ·exact .inl (hb x hx)
   ·rcases List.mem_cons.1 hx with rfl | hx
    ·exact .inr rfl
    ·rcases spl_bytes 59 o x hx with h3 | ⟨q, h3, h4⟩
     ·exact .inr h3
     ·have := h2.2 q h3
      unfold opt at this
      rw [Bool.and_eq_true, List.all_eq_true] at this
      left
      unfold Dp.tyB
      rw [this.2 x h4]
      rfl
  ·cases k with
   | nil => exact absurd rfl hne
   | cons y k =>
    simp at hx
    subst hx
    exact hb _ (by simp)
theorem nmB_ne (x : UInt8) (h : tyB x = true \/ x = 59) : (x ≠ 61 /\ x ≠ 62 /\ x ≠ 60 /\ x ≠ 126) /\ (x ≠ 40 /\ x ≠ 41 /\ x ≠ 42) /\ x ≠ 38 /\ x ≠ 124 /\ x ≠ 33 := by
 have : ∀ i : Fin 256, (tyB (UInt8.ofNat i.val) = true \/ UInt8.ofNat i.val = 59) -> (UInt8.ofNat i.val ≠ 61 /\ UInt8.ofNat i.val ≠ 62 /\ UInt8.ofNat i.val ≠ 60 /\ UInt8.ofNat i.val ≠ 126) /\ (UInt8.ofNat i.val ≠ 40 /\ UInt8.ofNat i.val ≠ 41 /\ UInt8.ofNat i.val ≠ 42) /\ UInt8.ofNat i.val ≠ 38 /\ UInt8.ofNat i.val ≠ 124 /\ UInt8.ofNat i.val ≠ 33 := by decide +kernel
 exact u8_each (p := fun x => (tyB x = true \/ x = 59) -> (x ≠ 61 /\ x ≠ 62 /\ x ≠ 60 /\ x ≠ 126) /\ (x ≠ 40 /\ x ≠ 41 /\ x ≠ 42) /\ x ≠ 38 /\ x ≠ 124 /\ x ≠ 33) this x h
theorem name_no {s : ByteArray} (h : okName s = true) : ∀ x ∈ s.data.toList, (x ≠ 61 /\ x ≠ 62 /\ x ≠ 60 /\ x ≠ 126) /\ (x ≠ 40 /\ x ≠ 41 /\ x ≠ 42) /\ x ≠ 38 /\ x ≠ 124 /\ x ≠ 33 := fun x hx => nmB_ne x ((name_bytes h).1 x hx)
theorem name_size {s : ByteArray} (h : okName s = true) : s.size ≠ 0 /\ s.size <= 30 := by
 have h1 := (name_bytes h).2.1
 have h2 : s.data.toList.length <= 30 := by
  unfold okName nmL at h
  rw [Bool.and_eq_true] at h
  simpa using h.1
 rw [E.len_toList] at h2
 refine ⟨fun e => h1 (List.eq_nil_of_length_eq_zero (by rw [E.len_toList]; exact e)), h2⟩
theorem size_nil {s : ByteArray} (h : s.size = 0) : s = ⟨#[]⟩ := by
 have h2 : s.data.toList = [] := List.eq_nil_of_length_eq_zero (by rw [E.len_toList]; exact h)
 rw [<- E.mk_data s, h2]
def inner {n : Nat} (F : Fl (n + 1)) : List UInt8 := if kd F = 4 then (nm F).data.toList ++ 61 :: pieces (va F) (an F) (fi F) else (nm F).data.toList ++ (sgn (kd F) ++ pv (va F))
theorem pieces_no (v : ByteArray) (l : List ByteArray) (f : ByteArray) : ∀ y ∈ pieces v l f, y ≠ 40 /\ y ≠ 41 := by
 have key : ∀ xs : List (List UInt8), (∀ x ∈ xs, ∀ y ∈ x, y ≠ 40 /\ y ≠ 41) -> ∀ y ∈ jn 42 xs, y ≠ 40 /\ y ≠ 41 := by
  intro xs
  induction xs with
  | nil => intro _ y hy; cases hy
  | cons x r ih =>
   intro h y hy
   cases r with
   | nil => rw [Dp.jn_one] at hy; exact h x (by simp) y hy
   | cons z r =>
    rw [Dp.jn_cons] at hy
    rcases List.mem_append.1 hy with hy | hy
    ·exact h x (by simp) y hy
    ·rcases List.mem_cons.1 hy with rfl | hy
     ·decide
     ·exact ih (fun q hq => h q (by simp at hq ⊢; exact .inr hq)) y hy
 refine key _ fun x hx y hy => ?_
 have : ∃ s, x = pv s := by
  rcases List.mem_cons.1 hx with rfl | hx
  ·exact ⟨v, rfl⟩
  ·rcases List.mem_append.1 hx with hx | hx
   ·obtain ⟨s, _, rfl⟩ := List.mem_map.1 hx; exact ⟨s, rfl⟩
   ·simp at hx; exact ⟨f, hx⟩
 obtain ⟨s, rfl⟩ := this
 exact ⟨(pv_no s y hy).1, (pv_no s y hy).2.1⟩
theorem sgn_no (k : Int) (hs : isSet k = false) : ∀ y ∈ sgn k, y ≠ 40 /\ y ≠ 41 := by
 unfold isSet at hs
 simp at hs
 unfold sgn
 rw [if_neg hs.1.1, if_neg hs.1.2, if_neg hs.2]
 repeat' split
 all_goals simp
theorem leaf_name {n : Nat} {F : Fl (n + 1)} (hf : fitF F = true) (hs : isSet (kd F) = false) : okName (nm F) = true /\ ls F = [] := by
 unfold fitF fitB at hf
 rw [hs] at hf
 simp only [Bool.false_eq_true, if_false] at hf
 split at hf
 ·unfold fitU at hf
  simp only [Bool.and_eq_true, decide_eq_true_eq] at hf
  exact ⟨hf.1.1.1.1.1, List.eq_nil_of_length_eq_zero hf.2⟩
 ·split at hf
  ·unfold fitV at hf
   simp only [Bool.and_eq_true, decide_eq_true_eq] at hf
   exact ⟨hf.1.1.1, List.eq_nil_of_length_eq_zero hf.2⟩
  ·cases hf
theorem inner_no {n : Nat} {F : Fl (n + 1)} (hf : fitF F = true) (hs : isSet (kd F) = false) : (41 : UInt8) ∉ inner F := by
 have hn := (leaf_name hf hs).1
 intro h
 unfold inner at h
 split at h
 ·rcases List.mem_append.1 h with h | h
  ·exact (name_no hn _ h).2.1.2.1 rfl
  ·rcases List.mem_cons.1 h with h | h
   ·cases h
   ·exact (pieces_no _ _ _ _ h).2 rfl
 ·rcases List.mem_append.1 h with h | h
  ·exact (name_no hn _ h).2.1.2.1 rfl
  ·rcases List.mem_append.1 h with h | h
   ·exact (sgn_no _ hs _ h).2 rfl
   ·exact (pv_no _ _ h).2.1 rfl
theorem inner_head {n : Nat} {F : Fl (n + 1)} (hf : fitF F = true) (hs : isSet (kd F) = false) (r : List UInt8) : (inner F ++ r).head?.bind setK = none := by
 have hn := (leaf_name hf hs).1
 have hne := (name_bytes hn).2.1
 obtain ⟨x, t, hx⟩ : ∃ x t, (nm F).data.toList = x :: t := by
  cases h : (nm F).data.toList with
  | nil => exact absurd h hne
  | cons x t => exact ⟨x, t, rfl⟩
 have hb := (name_no hn x (by rw [hx]; simp)).2.2
 have : (inner F ++ r).head? = some x := by
  unfold inner
  split <;> rw [hx] <;> rfl
 rw [this]
 show setK x = none
 unfold setK
 rw [if_neg hb.1, if_neg hb.2.1, if_neg hb.2.2]
theorem kindOf_name {s : ByteArray} (h : okName s = true) : kindOf s.data.toList = (s.data.toList, 3) := by
 have hb : ∀ x, s.data.toList.getLast? = some x -> _ := fun x hx => name_no h x (List.mem_of_getLast? hx)
 unfold kindOf
 rw [if_neg (fun e => (hb _ e).1.2.1 rfl), if_neg (fun e => (hb _ e).1.2.2.1 rfl), if_neg (fun e => (hb _ e).1.2.2.2 rfl)]
theorem kindOf_snoc (l : List UInt8) : kindOf (l ++ [62]) = (l, 5) /\ kindOf (l ++ [60]) = (l, 6) /\ kindOf (l ++ [126]) = (l, 8) := by
 unfold kindOf
 simp
theorem tail_last {l : List ByteArray} {v f : ByteArray} {n : Nat} (a : ByteArray) : (subs a (v :: (l ++ [f])) : Fl (n + 1)) = mk 4 a v l f [] := by
 have e : (v :: (l ++ [f])).getLastD ⟨#[]⟩ = f := by
  rw [<- List.cons_append, List.getLastD_eq_getLast?, List.getLast?_concat]
  rfl
 unfold subs
 rw [e]
 simp
theorem leaf_back {n : Nat} {F : Fl (n + 1)} (hf : fitF F = true) (hs : isSet (kd F) = false) : rdC (inner F) = some F := by
 obtain ⟨hn, hl⟩ := leaf_name hf hs
 have h61 : ∀ t, t = (nm F).data.toList -> (61 : UInt8) ∉ t := fun t ht hm => (name_no hn _ (ht ▸ hm)).1.1 rfl
 have hsg : ∀ x, (61 : UInt8) ≠ x -> (61 : UInt8) ∉ (nm F).data.toList ++ [x] := fun x hx hm => by
  rcases List.mem_append.1 hm with hm | hm
  ·exact h61 _ rfl hm
  ·simp at hm; exact hx hm
 have hno : (42 : UInt8) ∉ pv (va F) := fun hm => (pv_no _ _ hm).2.2 rfl
 unfold fitF fitB at hf
 rw [hs] at hf
 simp only [Bool.false_eq_true, if_false] at hf
 split at hf
 ·rename_i h4
  unfold fitU at hf
  simp only [Bool.and_eq_true, Bool.or_eq_true, decide_eq_true_eq] at hf
  obtain ⟨⟨⟨⟨⟨_, h5⟩, _⟩, _⟩, h6⟩, _⟩ := hf
  have hps : ∀ x ∈ (pv (va F) :: ((an F).map pv ++ [pv (fi F)])), (42 : UInt8) ∉ x := by
   intro x hx
   rcases List.mem_cons.1 hx with rfl | hx
   ·exact hno
   ·rcases List.mem_append.1 hx with hx | hx
    ·obtain ⟨s, _, rfl⟩ := List.mem_map.1 hx
     exact fun hm => (pv_no _ _ hm).2.2 rfl
    ·simp at hx; subst hx; exact fun hm => (pv_no _ _ hm).2.2 rfl
  have hct := count_jn 42 _ (by simp) hps
  simp only [List.length_cons, List.length_append, List.length_map, List.length_nil] at hct
  have hp : pieces (va F) (an F) (fi F) = jn 42 (pv (va F) :: ((an F).map pv ++ [pv (fi F)])) := rfl
  unfold inner rdC
  rw [if_pos h4, cutB_at 61 _ _ (h61 _ rfl)]
  simp only
  rw [kindOf_name hn]
  simp only
  unfold rdVals
  have hm : (42 : UInt8) ∈ pieces (va F) (an F) (fi F) := by
   rw [hp]
   exact List.count_pos_iff.1 (by omega)
  rw [if_neg (by simp [hm]), if_neg, if_neg (by rw [hp]; omega), hp, spl_jn 42 _ (by simp) hps]
  ·have : mp rdV (pv (va F) :: ((an F).map pv ++ [pv (fi F)])) = some (va F :: (an F ++ [fi F])) := by
    have := Dp.mp_map rdV pv (va F :: (an F ++ [fi F])) (fun a _ => rdV_pv a)
    simpa using this
   rw [this, Option.map_some, E.mk_data, tail_last, <- h4, <- hl]
   rfl
  ·intro e
   have h1 : (an F).length = 0 := by
    have := congrArg (List.count (42 : UInt8)) e
    rw [hp] at this
    simp at this
    omega
   have h2 := List.eq_nil_of_length_eq_zero h1
   rw [hp, h2] at e
   simp only [List.map_nil, List.nil_append] at e
   rw [Dp.jn_cons, Dp.jn_one] at e
   have h3 := congrArg List.length e
   simp at h3
   have h7 : pv (va F) = [] := List.eq_nil_of_length_eq_zero (by rw [E.len_toList]; omega)
   have h8 : pv (fi F) = [] := List.eq_nil_of_length_eq_zero (by rw [E.len_toList]; omega)
   rw [pv_nil] at h7 h8
   omega
 ·rename_i h4
  split at hf
  ·rename_i hk
   unfold fitV at hf
   simp only [Bool.and_eq_true, decide_eq_true_eq] at hf
   obtain ⟨⟨⟨_, h5⟩, h6, h7⟩, _⟩ := hf
   have h6' := List.eq_nil_of_length_eq_zero h6
   have h7' := size_nil h7
   have hF : ∀ k, kd F = k -> (mk k (nm F) (va F) [] ⟨#[]⟩ [] : Fl (n + 1)) = F := fun k e => by rw [<- h6', <- h7', <- hl, <- e]; rfl
   unfold inner rdC
   rw [if_neg h4]
   rcases hk with hk | hk | hk | hk | hk
   ·rw [show sgn (kd F) = [61] by rw [hk]; rfl, List.singleton_append, cutB_at 61 _ _ (h61 _ rfl)]
    simp only
    rw [kindOf_name hn]
    simp only
    unfold rdVals
    rw [if_pos (.inr hno), rdV_pv, Option.map_some, E.mk_data, hF 3 hk]
   ·rw [show sgn (kd F) = [62, 61] by rw [hk]; rfl, show (nm F).data.toList ++ ([62, 61] ++ pv (va F)) = ((nm F).data.toList ++ [62]) ++ 61 :: pv (va F) by simp, cutB_at 61 _ _ (hsg 62 (by decide))]
    simp only
    rw [(kindOf_snoc _).1]
    simp only
    unfold rdVals
    rw [if_pos (.inl (by decide)), rdV_pv, Option.map_some, E.mk_data, hF 5 hk]
   ·rw [show sgn (kd F) = [60, 61] by rw [hk]; rfl, show (nm F).data.toList ++ ([60, 61] ++ pv (va F)) = ((nm F).data.toList ++ [60]) ++ 61 :: pv (va F) by simp, cutB_at 61 _ _ (hsg 60 (by decide))]
    simp only
    rw [(kindOf_snoc _).2.1]
    simp only
    unfold rdVals
    rw [if_pos (.inl (by decide)), rdV_pv, Option.map_some, E.mk_data, hF 6 hk]
   ·rw [hk] at h5
    replace h5 : (va F).size = 0 := Nat.le_zero.1 h5
    rw [show sgn (kd F) = [61, 42] by rw [hk]; rfl, (pv_nil _).2 h5, List.append_nil, cutB_at 61 _ _ (h61 _ rfl)]
    simp only
    rw [kindOf_name hn]
    simp only
    unfold rdVals
    rw [if_neg (by simp), if_pos rfl, E.mk_data, <- hF 7 hk, size_nil h5]
    rfl
   ·rw [show sgn (kd F) = [126, 61] by rw [hk]; rfl, show (nm F).data.toList ++ ([126, 61] ++ pv (va F)) = ((nm F).data.toList ++ [126]) ++ 61 :: pv (va F) by simp, cutB_at 61 _ _ (hsg 126 (by decide))]
    simp only
    rw [(kindOf_snoc _).2.2]
    simp only
    unfold rdVals
    rw [if_pos (.inl (by decide)), rdV_pv, Option.map_some, E.mk_data, hF 8 hk]
  ·cases hf
theorem text_head : ∀ (n : Nat) (F : Fl n) (r : List UInt8), (text n F ++ r).head? = some 40
 | 0, t, _ => Empty.elim t
 | _ + 1, _, _ => rfl
theorem rdL_back {α : Type} (rd : List UInt8 -> Option (α × List UInt8)) (tx : α -> List UInt8) (r : List UInt8) : ∀ (fs : List α) (m : Nat), fs.length <= m -> (∀ f ∈ fs, ∀ q, rd (tx f ++ q) = some (f, q) /\ (tx f ++ q).head? = some 40) ->
  rdL rd m ((fs.map tx).flatten ++ 41 :: r) = some (fs, 41 :: r)
 | [], m, _, _ => by cases m <;> simp [rdL]
 | f :: fs, 0, h, _ => by simp at h
 | f :: fs, m + 1, h, hf => by
  rw [List.map_cons, List.flatten_cons, List.append_assoc, rdL, if_pos (hf f (by simp) _).2, (hf f (by simp) _).1]
  simp only
  rw [rdL_back rd tx r fs m (by simp at h; omega) (fun g hg => hf g (by simp [hg]))]
  rfl
theorem set_form {n : Nat} {F : Fl (n + 1)} (hf : fitF F = true) (hs : isSet (kd F) = true) : mk (kd F) ⟨#[]⟩ ⟨#[]⟩ [] ⟨#[]⟩ (ls F) = F /\ 0 < (ls F).length /\ (ls F).length <= 8 := by
 unfold fitF fitB at hf
 rw [if_pos hs] at hf
 unfold fitS at hf
 simp only [Bool.and_eq_true, decide_eq_true_eq] at hf
 obtain ⟨⟨⟨h1, h2⟩, h3, h4⟩, h5, h6⟩ := hf
 refine ⟨?_, h1, by split at h2 <;> omega⟩
 rw [<- size_nil h3]
 conv => lhs; arg 3; rw [size_nil h3, <- size_nil h4]
 conv => lhs; arg 4; rw [<- List.eq_nil_of_length_eq_zero h5]
 conv => lhs; arg 5; rw [size_nil h3, <- size_nil h6]
 rfl
theorem setK_sgn (k : Int) (hs : isSet k = true) : ∃ s, sgn k = [s] /\ setK s = some k := by
 unfold isSet at hs
 simp at hs
 rcases hs with (rfl | rfl) | rfl
 ·exact ⟨38, rfl, rfl⟩
 ·exact ⟨124, rfl, rfl⟩
 ·exact ⟨33, rfl, rfl⟩
theorem back : ∀ (k : Nat) (F : Fl (k + 2)) (r : List UInt8), right (k + 2) k F = true -> rdF k (text (k + 2) F ++ r) = some (F, r)
 | 0, F, r, h => by simp [right] at h
 | k + 1, F, r, h => by
  rw [right] at h
  simp only [Bool.and_eq_true, decide_eq_true_eq, List.all_eq_true, Nat.add_sub_cancel] at h
  obtain ⟨⟨_, hf⟩, hk⟩ := h
  rw [rdF, if_pos (text_head _ F r)]
  cases hs : isSet (kd F) with
  | true =>
   obtain ⟨s, hs1, hs2⟩ := setK_sgn _ hs
   obtain ⟨h1, h2, h3⟩ := set_form hf hs
   have e : (text (k + 1 + 2) F ++ r).tail = s :: (((ls F).map (text (k + 2))).flatten ++ 41 :: r) := by
    rw [text, if_pos hs, hs1]
    simp
   rw [e]
   unfold rdB
   simp only [List.head?_cons, Option.bind_some, hs2, List.tail_cons]
   rw [rdL_back (rdF k) (text (k + 2)) r (ls F) 8 h3 (fun f hf2 q => ⟨back k f q (hk f hf2), text_head _ f q⟩)]
   simp only [Option.map_some, List.head?_cons, List.tail_cons]
   rw [h1]
   simp [hf]
  | false =>
   have e : (text (k + 1 + 2) F ++ r).tail = inner F ++ 41 :: r := by
    rw [text, hs]
    unfold inner
    simp only [Bool.false_eq_true, if_false]
    split <;> simp
   rw [e]
   unfold rdB
   rw [inner_head hf hs, cutB_at 41 _ _ (inner_no hf hs)]
   simp only
   rw [leaf_back hf hs]
   simp [hf]
end Go.Proofs.YtmenllnokgjdlaaGreatDoor.Fp
/-
 Filters' trees, plainly: what tree a filter has, what filter is read of a tree, and that these tell each other; what the document says of layer 9, and what follows. Conditions: none.
-/
namespace Go.Proofs.YtmenllnokgjdlaaGreatDoor.Gp
open Fp (Fl kd nm va an fi ls isSet fitF fitB)
open Tv (Tr)
def tg (k : Int) : Int := if k = 7 then 135 else 160 + k
def lf {n : Nat} (t : Int) (d : ByteArray) : Tr (n + 1) := Tv.mk t d []
def pcs {n : Nat} (v : ByteArray) (l : List ByteArray) (f : ByteArray) : List (Tr (n + 1)) :=
 (if v.size = 0 then [] else [lf 128 v]) ++ (l.map (lf 129) ++ (if f.size = 0 then [] else [lf 130 f]))
def tree : (n : Nat) -> Fl n -> Tr (n + 2)
 | 0, F => Empty.elim F
 | n + 1, F =>
  if kd F = 7 then lf 135 (nm F)
  else if isSet (kd F) then Tv.mk (tg (kd F)) ⟨#[]⟩ ((ls F).map (tree n))
  else if kd F = 4 then Tv.mk 164 ⟨#[]⟩ [lf 4 (nm F), Tv.mk 48 ⟨#[]⟩ (pcs (va F) (an F) (fi F))]
  else Tv.mk (tg (kd F)) ⟨#[]⟩ [lf 4 (nm F), lf 4 (va F)]
def up : (n : Nat) -> Tr n -> Tr (n + 1)
 | 0, t => Empty.elim t
 | n + 1, T => Tv.mk (Tv.tag T) (Tv.dat T) ((Tv.kids T).map (up n))
def datN : (n : Nat) -> Tr n -> ByteArray
 | 0, t => Empty.elim t
 | _ + 1, T => Tv.dat T
def tagN : (n : Nat) -> Tr n -> Int
 | 0, t => Empty.elim t
 | _ + 1, T => Tv.tag T
def kidsN : (n : Nat) -> Tr n -> List (Tr (n - 1))
 | 0, t => Empty.elim t
 | _ + 1, T => Tv.kids T
def kindT (t : Int) : Option Int := if t = 135 then some 7 else if 160 <= t /\ t <= 168 /\ t ≠ 167 then some (t - 160) else none
def put (s : ByteArray × List ByteArray × ByteArray) (t : Int) (d : ByteArray) : ByteArray × List ByteArray × ByteArray :=
 if t = 128 then (d, s.2.1, s.2.2) else if t = 129 then (s.1, s.2.1 ++ [d], s.2.2) else if t = 130 then (s.1, s.2.1, d) else s
def take {n : Nat} (ks : List (Tr n)) : ByteArray × List ByteArray × ByteArray := ks.foldl (fun s x => put s (tagN n x) (datN n x)) (⟨#[]⟩, [], ⟨#[]⟩)
def asked {n m : Nat} (k : Int) (T : Tr (n + 1)) : Option (Fl (m + 1)) :=
 if k = 7 then some (Fp.mk 7 (Tv.dat T) ⟨#[]⟩ [] ⟨#[]⟩ [])
 else match Tv.kids T with
  | [x, y] => if k ≠ 4 then some (Fp.mk k (datN n x) (datN n y) [] ⟨#[]⟩ [])
   else if 6 < (kidsN n y).length then none
   else some (Fp.mk 4 (datN n x) (take (kidsN n y)).1 (take (kidsN n y)).2.1 (take (kidsN n y)).2.2 [])
  | _ => none
abbrev up2 (n : Nat) (T : Tr n) : Tr (n + 2) := up (n + 1) (up n T)
def cond {n : Nat} (k : Int) (T : Tr (n + 1)) : Option (Fl (n + 1)) := match (asked k T : Option (Fl (n + 1))) with
 | none => none
 | some f => if fitF f = true /\ Tv.same (n + 3) (tree (n + 1) f) (up2 (n + 1) T) = true then some f else none
def mpT {α β : Type} (f : α -> Option β) : List α -> Option (List β)
 | [] => some []
 | x :: r => match f x, mpT f r with
  | some a, some b => some (a :: b)
  | _, _ => none
def rd : (n : Nat) -> Nat -> Tr n -> Option (Fl n)
 | 0, _, t => Empty.elim t
 | n + 1, d, T => match kindT (Tv.tag T) with
  | none => none
  | some k => if 6 < d then none
   else if isSet k then
    if (Tv.dat T).size ≠ 0 then none
    else match mpT (rd n (d + 1)) (Tv.kids T) with
     | none => none
     | some l => if l.length = 0 \/ (if k = 2 then 1 else 8) < l.length then none else some (Fp.mk k ⟨#[]⟩ ⟨#[]⟩ [] ⟨#[]⟩ l)
   else cond k T
theorem mpT_some {α β : Type} {f : α -> Option β} : ∀ {xs : List α} {l : List β}, mpT f xs = some l -> l.length = xs.length /\ ∀ (i : Nat) x y, xs[i]? = some x -> l[i]? = some y -> f x = some y
 | [], l, h => by cases h; exact ⟨rfl, fun i x y h => by simp at h⟩
 | x :: xs, l, h => by
  rw [mpT] at h
  cases h1 : f x with
  | none => rw [h1] at h; cases h
  | some a =>
   cases h2 : mpT f xs with
   | none => rw [h1, h2] at h; cases h
   | some b =>
    rw [h1, h2] at h
    cases h
    obtain ⟨h3, h4⟩ := mpT_some h2
    refine ⟨by simp [h3], fun i u v hu hv => ?_⟩
    cases i with
    | zero => simp at hu hv; subst hu; subst hv; exact h1
    | succ i => exact h4 i u v (by simpa using hu) (by simpa using hv)
theorem kindT_tg {k : Int} (h0 : 0 <= k) (h1 : k <= 8) : kindT (tg k) = some k := by
 unfold kindT tg
 by_cases h7 : k = 7
 ·subst h7; rfl
 ·rw [if_neg h7, if_neg (by omega), if_pos (by omega)]
  congr 1
  omega
theorem tg_kindT {t k : Int} (h : kindT t = some k) : tg k = t /\ 0 <= k /\ k <= 8 := by
 unfold kindT at h
 split at h
 ·cases h; rename_i h1; subst h1; exact ⟨rfl, by omega, by omega⟩
 ·split at h
  ·cases h
   rename_i h1
   unfold tg
   rw [if_neg (by omega)]
   omega
  ·cases h
theorem fit_kind {n : Nat} {F : Fl (n + 1)} (h : fitF F = true) : 0 <= kd F /\ kd F <= 8 := by
 unfold fitF fitB at h
 split at h
 ·rename_i hs
  unfold isSet at hs
  simp at hs
  omega
 ·split at h
  ·omega
  ·split at h
   ·omega
   ·cases h
theorem asked_ls {n m : Nat} {k : Int} {T : Tr (n + 1)} {f : Fl (m + 1)} (h : asked k T = some f) : ls f = [] /\ (kd f = k) := by
 unfold asked at h
 split at h
 ·cases h; rename_i h7; exact ⟨rfl, h7.symm⟩
 ·split at h
  ·split at h
   ·cases h; exact ⟨rfl, rfl⟩
   ·rename_i h4
    split at h
    ·cases h
    ·cases h; exact ⟨rfl, (Classical.not_not.1 h4).symm⟩
  ·cases h
end Go.Proofs.YtmenllnokgjdlaaGreatDoor.Gp
/-
 Closed facts on the model's entries for reflectlite at this program's types, and on the assertions that errors.As and errors.Is make there. Conditions: none.
-/
namespace Go.Proofs.YtmenllnokgjdlaaGreatDoor.T
open Go.RowKit Go.Extern.Stop Go.Stop Go.Extern
theorem vOfT (t : Addr) (w : World) : (ReflectliteValue.unpack (.iface 150 (.pointer (some t)))).run Tryz.prog w
  = .ok (.agg #[.pointer (some ⟨29, 150, none⟩), .pointer (some ⟨w.heap.size, 0, none⟩), .int .u64 150]) (w.alloc (.cells #[.pointer (some t)] 150)) := by kernel_rfl
theorem typeT (a : Addr) (w : World) : (ReflectliteValue.methodAny (ReflectliteValue.valueError "reflectlite.Value.Type" 0) (fun t _ _ _ => ReflectliteType.toType t) #[.agg #[.pointer (some ⟨29, 150, none⟩), .pointer (some a), .int .u64 150]]).run Tryz.prog w
  = .ok (.iface 180 (.agg #[.pointer (some ⟨29, 150, none⟩)])) w := by kernel_rfl
theorem methodKind (h : Value) (w : World) : (Go.method 479 180 (.agg #[h]) "Kind").run Tryz.prog w = .ok (264, h) w := by kernel_rfl
theorem kindT (w : World) : ((ReflectliteType.abiMethod fun t => (fun a : Nat => Value.int IntKind.u8 (a : Int)) <$> Rtype.kind t) #[.pointer (some ⟨29, 150, none⟩)]).run Tryz.prog w = .ok (.int .u8 22) w := by kernel_rfl
theorem kindE (w : World) : ((ReflectliteType.abiMethod fun t => (fun a : Nat => Value.int IntKind.u8 (a : Int)) <$> Rtype.kind t) #[.pointer (some ⟨29, 149, none⟩)]).run Tryz.prog w = .ok (.int .u8 25) w := by kernel_rfl
theorem run_step {α β : Type} {P : Program} {m : Sem α} {k : α -> Sem β} {w w1 : World} {a : α} {r : Result β} (h : m.run P w = .ok a w1) (h2 : (k a).run P w1 = r) : (m >>= k).run P w = r := by
 rw [Sem.run_bind, h]; exact h2
theorem partsT (a : Addr) (w : World) : (ReflectliteValue.parts (.agg #[.pointer (some ⟨29, 150, none⟩), .pointer (some a), .int .u64 150])).run Tryz.prog w = .ok (some (150, a, 150)) w := by kernel_rfl
theorem isNilT (a p : Addr) (W : World) (ha : W.cell? a = some (.pointer (some p))) :
  (ReflectliteValue.method (ReflectliteValue.valueError "reflectlite.Value.IsNil" 0) ReflectliteValue.isNil #[.agg #[.pointer (some ⟨29, 150, none⟩), .pointer (some a), .int .u64 150]]).run Tryz.prog W = .ok (.bool false) W := by
 refine run_step (partsT a W) ?_
 simp [ReflectliteValue.isNil, loadVar, isAgg, underlying, Tryz.underlying150, ha, Result.andThen]
theorem methodElem (h : Value) (w : World) : (Go.method 479 180 (.agg #[h]) "Elem").run Tryz.prog w = .ok (284, .agg #[h]) w := by kernel_rfl
theorem methodImplements (h : Value) (w : World) : (Go.method 479 180 (.agg #[h]) "Implements").run Tryz.prog w = .ok (285, .agg #[h]) w := by kernel_rfl
theorem methodAssignableTo (h : Value) (w : World) : (Go.method 479 180 (.agg #[h]) "AssignableTo").run Tryz.prog w = .ok (282, .agg #[h]) w := by kernel_rfl
theorem elemT (w : World) : (ReflectliteType.method ReflectliteType.elem #[.agg #[.pointer (some ⟨29, 150, none⟩)]]).run Tryz.prog w = .ok (.iface 180 (.agg #[.pointer (some ⟨29, 149, none⟩)])) w := by kernel_rfl
theorem implementsE (w : World) : (ReflectliteType.relation "Implements" ReflectliteType.implements_ #[.agg #[.pointer (some ⟨29, 149, none⟩)], .iface 180 (.agg #[.pointer (some ⟨29, 52, none⟩)])]).run Tryz.prog w = .ok (.bool true) w := by kernel_rfl
theorem typeOfE (v : Value) (w : World) : (ReflectliteType.typeOf #[.iface 149 v]).run Tryz.prog w = .ok (.iface 180 (.agg #[.pointer (some ⟨29, 149, none⟩)])) w := by kernel_rfl
theorem typeOfF (v : Value) (w : World) : (ReflectliteType.typeOf #[.iface 97 v]).run Tryz.prog w = .ok (.iface 180 (.agg #[.pointer (some ⟨29, 97, none⟩)])) w := by kernel_rfl
theorem typeOfS (v : Value) (w : World) : (ReflectliteType.typeOf #[.iface 350 v]).run Tryz.prog w = .ok (.iface 180 (.agg #[.pointer (some ⟨29, 350, none⟩)])) w := by kernel_rfl
theorem assignE (w : World) : (ReflectliteType.relation "AssignableTo" ReflectliteType.assignableTo #[.agg #[.pointer (some ⟨29, 149, none⟩)], .iface 180 (.agg #[.pointer (some ⟨29, 149, none⟩)])]).run Tryz.prog w = .ok (.bool true) w := by kernel_rfl
theorem assignF (w : World) : (ReflectliteType.relation "AssignableTo" ReflectliteType.assignableTo #[.agg #[.pointer (some ⟨29, 97, none⟩)], .iface 180 (.agg #[.pointer (some ⟨29, 149, none⟩)])]).run Tryz.prog w = .ok (.bool false) w := by kernel_rfl
theorem assignS (w : World) : (ReflectliteType.relation "AssignableTo" ReflectliteType.assignableTo #[.agg #[.pointer (some ⟨29, 350, none⟩)], .iface 180 (.agg #[.pointer (some ⟨29, 149, none⟩)])]).run Tryz.prog w = .ok (.bool false) w := by kernel_rfl
theorem vOfE (x : Value) (w : World) : (ReflectliteValue.unpack (.iface 149 (.agg #[x]))).run Tryz.prog w
  = .ok (.agg #[.pointer (some ⟨29, 149, none⟩), .pointer (some ⟨w.heap.size, 0, none⟩), .int .u64 153]) (w.alloc (.cells #[x] 149)) := by kernel_rfl
theorem elemOfT (w : World) : (Rtype.elem? 150).run Tryz.prog w = .ok (some 149) w := by kernel_rfl
theorem mkE (p : Addr) (w : World) : (ReflectliteValue.mk 149 p ReflectliteValue.flagAddr).run Tryz.prog w = .ok (.agg #[.pointer (some ⟨29, 149, none⟩), .pointer (some p), .int .u64 409]) w := by kernel_rfl
theorem elemVT (a p : Addr) (W : World) (ha : W.cell? a = some (.pointer (some p))) :
  (ReflectliteValue.method (ReflectliteValue.valueError "reflectlite.Value.Elem" 0) ReflectliteValue.elem #[.agg #[.pointer (some ⟨29, 150, none⟩), .pointer (some a), .int .u64 150]]).run Tryz.prog W
   = .ok (.agg #[.pointer (some ⟨29, 149, none⟩), .pointer (some p), .int .u64 409]) W := by
 refine run_step (partsT a W) ?_
 simp [ReflectliteValue.elem, loadVar, isAgg, underlying, Tryz.underlying150, ha, Result.andThen, elemOfT, mkE]
theorem partsEa (a : Addr) (w : World) : (ReflectliteValue.parts (.agg #[.pointer (some ⟨29, 149, none⟩), .pointer (some a), .int .u64 409])).run Tryz.prog w = .ok (some (149, a, 409)) w := by kernel_rfl
theorem partsE (a : Addr) (w : World) : (ReflectliteValue.parts (.agg #[.pointer (some ⟨29, 149, none⟩), .pointer (some a), .int .u64 153])).run Tryz.prog w = .ok (some (149, a, 153)) w := by kernel_rfl
theorem directE (w : World) : (Rtype.directlyAssignable 149 149).run Tryz.prog w = .ok true w := by kernel_rfl
theorem load1 (b : Addr) (x : Value) (W : World) (hb : W.cell? b = some x) : (loadCells b 1).run Tryz.prog W = .ok #[x] W := by
 have h : W.cell? (b.add 0) = some x := by simpa [Addr.add] using hb
 simp [loadCells, loadCellsFrom, h, Result.andThen]
theorem setE (ta b : Addr) (n : Int) (old : Value) (W : World) (hb : W.cell? b = some (.int .i64 n)) (ht : W.cell? ta = some old) (hf : W.frozen? ta = false) :
  (ReflectliteValue.set #[.agg #[.pointer (some ⟨29, 149, none⟩), .pointer (some ta), .int .u64 409], .agg #[.pointer (some ⟨29, 149, none⟩), .pointer (some b), .int .u64 153]]).run Tryz.prog W
   = .ok (.tuple #[]) (W.setCell ta (.int .i64 n)) := by
 refine run_step (partsEa ta W) ?_
 refine run_step (partsE b W) ?_
 simp [ReflectliteValue.flagAddr, loadVar, isAgg, underlying, Tryz.underlying149, load1 b _ W hb, Result.andThen, directE, storeVar, Value.cells, storeCells, Addr.add]
 rw [run_store Tryz.prog W ta _ _ (by rfl)]
 simp [ht, hf]
theorem noAsF (v : Value) (xT : TypeId) (w : World) : (Instr.typeAssert (.iface 97 v) xT 184 true).run Tryz.prog w = .ok (.tuple #[.nilIface, .bool false]) w := run_typeAssert_lacksB Tryz.underlying184 (by kernel_rfl) (by kernel_rfl) v xT w
theorem noAsS (v : Value) (xT : TypeId) (w : World) : (Instr.typeAssert (.iface 350 v) xT 184 true).run Tryz.prog w = .ok (.tuple #[.nilIface, .bool false]) w := run_typeAssert_lacksB Tryz.underlying184 (by kernel_rfl) (by kernel_rfl) v xT w
theorem noIsF (v : Value) (xT : TypeId) (w : World) : (Instr.typeAssert (.iface 97 v) xT 192 true).run Tryz.prog w = .ok (.tuple #[.nilIface, .bool false]) w := run_typeAssert_lacksB Tryz.underlying192 (by kernel_rfl) (by kernel_rfl) v xT w
theorem noIsS (v : Value) (xT : TypeId) (w : World) : (Instr.typeAssert (.iface 350 v) xT 192 true).run Tryz.prog w = .ok (.tuple #[.nilIface, .bool false]) w := run_typeAssert_lacksB Tryz.underlying192 (by kernel_rfl) (by kernel_rfl) v xT w
theorem unwF (v : Value) (xT : TypeId) (w : World) : (Instr.typeAssert (.iface 97 v) xT 187 true).run Tryz.prog w = .ok (.tuple #[.iface 97 v, .bool true]) w := run_typeAssert_hasB Tryz.underlying187 (by kernel_rfl) v xT w
theorem noUnwS (v : Value) (xT : TypeId) (w : World) : (Instr.typeAssert (.iface 350 v) xT 187 true).run Tryz.prog w = .ok (.tuple #[.nilIface, .bool false]) w := run_typeAssert_lacksB Tryz.underlying187 (by kernel_rfl) (by kernel_rfl) v xT w
theorem noUnwsS (v : Value) (xT : TypeId) (w : World) : (Instr.typeAssert (.iface 350 v) xT 189 true).run Tryz.prog w = .ok (.tuple #[.nilIface, .bool false]) w := run_typeAssert_lacksB Tryz.underlying189 (by kernel_rfl) (by kernel_rfl) v xT w
theorem methodUnwrap (v : Value) (w : World) : (Go.method 479 97 v "Unwrap").run Tryz.prog w = .ok (272, v) w := by kernel_rfl
theorem cmpExt : ∃ ext : Array Value -> Sem Value, find Tryz.f283 = some ext /\
  ∀ w : World, (ext #[.agg #[.pointer (some ⟨29, 350, none⟩)]]).run Tryz.prog w = .ok (.bool true) w :=
 ⟨(find Tryz.f283).getD fun _ => pure (.tuple #[]), by kernel_rfl, fun w => by kernel_rfl⟩
theorem methodComparable (v : Value) (w : World) : (Go.method 479 180 v "Comparable").run Tryz.prog w = .ok (283, v) w := by kernel_rfl
theorem compS : (Tryz.prog.info? 350).map (·.comparable) = some true := by kernel_rfl
theorem sizeS : (Tryz.prog.info? 368).map (·.size) = some 1 := by kernel_rfl
end Go.Proofs.YtmenllnokgjdlaaGreatDoor.T
/-
 Closed facts on the model's entries for reflectlite at this program's types, and on the assertions that errors.As and errors.Is make there. Conditions: none.
-/
namespace Go.Proofs.YtmenllnokgjdlaaGreatDoor
open Go.RowKit Go.Extern.Stop Go.Stop Go.Extern
theorem vOfT (t : Addr) (w : World) : (ReflectliteValue.unpack (.iface 235 (.pointer (some t)))).run Tryz.prog w
  = .ok (.agg #[.pointer (some ⟨29, 235, none⟩), .pointer (some ⟨w.heap.size, 0, none⟩), .int .u64 150]) (w.alloc (.cells #[.pointer (some t)] 235)) := by kernel_rfl
theorem typeT (a : Addr) (w : World) : (ReflectliteValue.methodAny (ReflectliteValue.valueError "reflectlite.Value.Type" 0) (fun t _ _ _ => ReflectliteType.toType t) #[.agg #[.pointer (some ⟨29, 235, none⟩), .pointer (some a), .int .u64 150]]).run Tryz.prog w
  = .ok (.iface 180 (.agg #[.pointer (some ⟨29, 235, none⟩)])) w := by kernel_rfl
theorem methodKind (h : Value) (w : World) : (Go.method 479 180 (.agg #[h]) "Kind").run Tryz.prog w = .ok (264, h) w := by kernel_rfl
theorem kindT (w : World) : ((ReflectliteType.abiMethod fun t => (fun a : Nat => Value.int IntKind.u8 (a : Int)) <$> Rtype.kind t) #[.pointer (some ⟨29, 235, none⟩)]).run Tryz.prog w = .ok (.int .u8 22) w := by kernel_rfl
theorem kindE (w : World) : ((ReflectliteType.abiMethod fun t => (fun a : Nat => Value.int IntKind.u8 (a : Int)) <$> Rtype.kind t) #[.pointer (some ⟨29, 234, none⟩)]).run Tryz.prog w = .ok (.int .u8 25) w := by kernel_rfl
theorem run_step {α β : Type} {P : Program} {m : Sem α} {k : α -> Sem β} {w w1 : World} {a : α} {r : Result β} (h : m.run P w = .ok a w1) (h2 : (k a).run P w1 = r) : (m >>= k).run P w = r := by
 rw [Sem.run_bind, h]; exact h2
theorem partsT (a : Addr) (w : World) : (ReflectliteValue.parts (.agg #[.pointer (some ⟨29, 235, none⟩), .pointer (some a), .int .u64 150])).run Tryz.prog w = .ok (some (235, a, 150)) w := by kernel_rfl
theorem isNilT (a p : Addr) (W : World) (ha : W.cell? a = some (.pointer (some p))) :
  (ReflectliteValue.method (ReflectliteValue.valueError "reflectlite.Value.IsNil" 0) ReflectliteValue.isNil #[.agg #[.pointer (some ⟨29, 235, none⟩), .pointer (some a), .int .u64 150]]).run Tryz.prog W = .ok (.bool false) W := by
 refine run_step (partsT a W) ?_
 simp [ReflectliteValue.isNil, loadVar, isAgg, underlying, Tryz.underlying235, ha, Result.andThen]
theorem methodElem (h : Value) (w : World) : (Go.method 479 180 (.agg #[h]) "Elem").run Tryz.prog w = .ok (284, .agg #[h]) w := by kernel_rfl
theorem methodImplements (h : Value) (w : World) : (Go.method 479 180 (.agg #[h]) "Implements").run Tryz.prog w = .ok (285, .agg #[h]) w := by kernel_rfl
theorem methodAssignableTo (h : Value) (w : World) : (Go.method 479 180 (.agg #[h]) "AssignableTo").run Tryz.prog w = .ok (282, .agg #[h]) w := by kernel_rfl
theorem elemT (w : World) : (ReflectliteType.method ReflectliteType.elem #[.agg #[.pointer (some ⟨29, 235, none⟩)]]).run Tryz.prog w = .ok (.iface 180 (.agg #[.pointer (some ⟨29, 234, none⟩)])) w := by kernel_rfl
theorem implementsE (w : World) : (ReflectliteType.relation "Implements" ReflectliteType.implements_ #[.agg #[.pointer (some ⟨29, 234, none⟩)], .iface 180 (.agg #[.pointer (some ⟨29, 52, none⟩)])]).run Tryz.prog w = .ok (.bool true) w := by kernel_rfl
theorem typeOfE (v : Value) (w : World) : (ReflectliteType.typeOf #[.iface 234 v]).run Tryz.prog w = .ok (.iface 180 (.agg #[.pointer (some ⟨29, 234, none⟩)])) w := by kernel_rfl
theorem typeOfF (v : Value) (w : World) : (ReflectliteType.typeOf #[.iface 296 v]).run Tryz.prog w = .ok (.iface 180 (.agg #[.pointer (some ⟨29, 296, none⟩)])) w := by kernel_rfl
theorem typeOfS (v : Value) (w : World) : (ReflectliteType.typeOf #[.iface 350 v]).run Tryz.prog w = .ok (.iface 180 (.agg #[.pointer (some ⟨29, 350, none⟩)])) w := by kernel_rfl
theorem assignE (w : World) : (ReflectliteType.relation "AssignableTo" ReflectliteType.assignableTo #[.agg #[.pointer (some ⟨29, 234, none⟩)], .iface 180 (.agg #[.pointer (some ⟨29, 234, none⟩)])]).run Tryz.prog w = .ok (.bool true) w := by kernel_rfl
theorem assignF (w : World) : (ReflectliteType.relation "AssignableTo" ReflectliteType.assignableTo #[.agg #[.pointer (some ⟨29, 296, none⟩)], .iface 180 (.agg #[.pointer (some ⟨29, 234, none⟩)])]).run Tryz.prog w = .ok (.bool false) w := by kernel_rfl
theorem assignS (w : World) : (ReflectliteType.relation "AssignableTo" ReflectliteType.assignableTo #[.agg #[.pointer (some ⟨29, 350, none⟩)], .iface 180 (.agg #[.pointer (some ⟨29, 234, none⟩)])]).run Tryz.prog w = .ok (.bool false) w := by kernel_rfl
theorem vOfE (x : Value) (w : World) : (ReflectliteValue.unpack (.iface 234 (.agg #[x]))).run Tryz.prog w
  = .ok (.agg #[.pointer (some ⟨29, 234, none⟩), .pointer (some ⟨w.heap.size, 0, none⟩), .int .u64 153]) (w.alloc (.cells #[x] 234)) := by kernel_rfl
theorem elemOfT (w : World) : (Rtype.elem? 235).run Tryz.prog w = .ok (some 234) w := by kernel_rfl
theorem mkE (p : Addr) (w : World) : (ReflectliteValue.mk 234 p ReflectliteValue.flagAddr).run Tryz.prog w = .ok (.agg #[.pointer (some ⟨29, 234, none⟩), .pointer (some p), .int .u64 409]) w := by kernel_rfl
theorem elemVT (a p : Addr) (W : World) (ha : W.cell? a = some (.pointer (some p))) :
  (ReflectliteValue.method (ReflectliteValue.valueError "reflectlite.Value.Elem" 0) ReflectliteValue.elem #[.agg #[.pointer (some ⟨29, 235, none⟩), .pointer (some a), .int .u64 150]]).run Tryz.prog W
   = .ok (.agg #[.pointer (some ⟨29, 234, none⟩), .pointer (some p), .int .u64 409]) W := by
 refine run_step (partsT a W) ?_
 simp [ReflectliteValue.elem, loadVar, isAgg, underlying, Tryz.underlying235, ha, Result.andThen, elemOfT, mkE]
theorem partsEa (a : Addr) (w : World) : (ReflectliteValue.parts (.agg #[.pointer (some ⟨29, 234, none⟩), .pointer (some a), .int .u64 409])).run Tryz.prog w = .ok (some (234, a, 409)) w := by kernel_rfl
theorem partsE (a : Addr) (w : World) : (ReflectliteValue.parts (.agg #[.pointer (some ⟨29, 234, none⟩), .pointer (some a), .int .u64 153])).run Tryz.prog w = .ok (some (234, a, 153)) w := by kernel_rfl
theorem directE (w : World) : (Rtype.directlyAssignable 234 234).run Tryz.prog w = .ok true w := by kernel_rfl
theorem load1 (b : Addr) (x : Value) (W : World) (hb : W.cell? b = some x) : (loadCells b 1).run Tryz.prog W = .ok #[x] W := by
 have h : W.cell? (b.add 0) = some x := by simpa [Addr.add] using hb
 simp [loadCells, loadCellsFrom, h, Result.andThen]
theorem setE (ta b : Addr) (n : Int) (old : Value) (W : World) (hb : W.cell? b = some (.int .i64 n)) (ht : W.cell? ta = some old) (hf : W.frozen? ta = false) :
  (ReflectliteValue.set #[.agg #[.pointer (some ⟨29, 234, none⟩), .pointer (some ta), .int .u64 409], .agg #[.pointer (some ⟨29, 234, none⟩), .pointer (some b), .int .u64 153]]).run Tryz.prog W
   = .ok (.tuple #[]) (W.setCell ta (.int .i64 n)) := by
 refine run_step (partsEa ta W) ?_
 refine run_step (partsE b W) ?_
 simp [ReflectliteValue.flagAddr, loadVar, isAgg, underlying, Tryz.underlying234, load1 b _ W hb, Result.andThen, directE, storeVar, Value.cells, storeCells, Addr.add]
 rw [run_store Tryz.prog W ta _ _ (by rfl)]
 simp [ht, hf]
theorem noAsF (v : Value) (xT : TypeId) (w : World) : (Instr.typeAssert (.iface 296 v) xT 184 true).run Tryz.prog w = .ok (.tuple #[.nilIface, .bool false]) w := run_typeAssert_lacksB Tryz.underlying184 (by kernel_rfl) (by kernel_rfl) v xT w
theorem noAsS (v : Value) (xT : TypeId) (w : World) : (Instr.typeAssert (.iface 350 v) xT 184 true).run Tryz.prog w = .ok (.tuple #[.nilIface, .bool false]) w := run_typeAssert_lacksB Tryz.underlying184 (by kernel_rfl) (by kernel_rfl) v xT w
theorem noIsF (v : Value) (xT : TypeId) (w : World) : (Instr.typeAssert (.iface 296 v) xT 192 true).run Tryz.prog w = .ok (.tuple #[.nilIface, .bool false]) w := run_typeAssert_lacksB Tryz.underlying192 (by kernel_rfl) (by kernel_rfl) v xT w
theorem noIsS (v : Value) (xT : TypeId) (w : World) : (Instr.typeAssert (.iface 350 v) xT 192 true).run Tryz.prog w = .ok (.tuple #[.nilIface, .bool false]) w := run_typeAssert_lacksB Tryz.underlying192 (by kernel_rfl) (by kernel_rfl) v xT w
theorem unwF (v : Value) (xT : TypeId) (w : World) : (Instr.typeAssert (.iface 296 v) xT 187 true).run Tryz.prog w = .ok (.tuple #[.iface 296 v, .bool true]) w := run_typeAssert_hasB Tryz.underlying187 (by kernel_rfl) v xT w
theorem noUnwS (v : Value) (xT : TypeId) (w : World) : (Instr.typeAssert (.iface 350 v) xT 187 true).run Tryz.prog w = .ok (.tuple #[.nilIface, .bool false]) w := run_typeAssert_lacksB Tryz.underlying187 (by kernel_rfl) (by kernel_rfl) v xT w
theorem noUnwsS (v : Value) (xT : TypeId) (w : World) : (Instr.typeAssert (.iface 350 v) xT 189 true).run Tryz.prog w = .ok (.tuple #[.nilIface, .bool false]) w := run_typeAssert_lacksB Tryz.underlying189 (by kernel_rfl) (by kernel_rfl) v xT w
theorem methodUnwrap (v : Value) (w : World) : (Go.method 479 296 v "Unwrap").run Tryz.prog w = .ok (295, v) w := by kernel_rfl
theorem cmpExt : ∃ ext : Array Value -> Sem Value, find Tryz.f283 = some ext /\
  ∀ w : World, (ext #[.agg #[.pointer (some ⟨29, 350, none⟩)]]).run Tryz.prog w = .ok (.bool true) w :=
 ⟨(find Tryz.f283).getD fun _ => pure (.tuple #[]), by kernel_rfl, fun w => by kernel_rfl⟩
theorem methodComparable (v : Value) (w : World) : (Go.method 479 180 v "Comparable").run Tryz.prog w = .ok (283, v) w := by kernel_rfl
theorem compS : (Tryz.prog.info? 350).map (·.comparable) = some true := by kernel_rfl
theorem sizeS : (Tryz.prog.info? 368).map (·.size) = some 1 := by kernel_rfl
end Go.Proofs.YtmenllnokgjdlaaGreatDoor
/-
 What errors.As and errors.Is answer where package size asks them: at a fault that wraps a noLength or a sentinel, and at a bare noLength. Conditions: the three package-level variables hold what the program's text lays.
-/
namespace Go.Proofs.YtmenllnokgjdlaaGreatDoor
open Go.RowKit Go.Extern.Stop Go.Stop Go.Extern
theorem lt_of_cell {w : World} {a : Addr} {v : Value} (h : w.cell? a = some v) : a.block < w.heap.size := by
 rcases Nat.lt_or_ge a.block w.heap.size with h' | h'
 ·exact h'
 ·simp [World.cell?, Array.getElem?_eq_none h'] at h
def AsGives (err : Value) (b : Bool) : Prop := ∀ (tg : Value) (va t : Addr) (old : Value) (w : World), w.cell? va = some (.pointer (some t)) -> w.cell? t = some old -> w.frozen? t = false ->
  Calls Tryz.prog 85 #[err, tg, .agg #[.pointer (some ⟨29, 235, none⟩), .pointer (some va), .int .u64 150], .iface 180 (.agg #[.pointer (some ⟨29, 234, none⟩)])] w
   fun e w' => e = .returned (.bool b) /\ Below t.block w w'
theorem as2 (n k : Int) : AsGives (.iface 296 (.agg #[.int .i64 k, .iface 234 (.agg #[.int .i64 n])])) true := by
 intro tg va t old w hv ht hf
 have hext36 := @run_callFunc_extern Tryz.prog 86 _ ReflectliteType.typeOf Tryz.func86 (by kernel_rfl) (by kernel_rfl) (by kernel_rfl) (by kernel_rfl)
 have hext65 := @run_callFunc_extern Tryz.prog 282 _ (ReflectliteType.relation "AssignableTo" ReflectliteType.assignableTo) Tryz.func282 (by kernel_rfl) (by kernel_rfl) (by kernel_rfl) (by kernel_rfl)
 have hext39 := @run_callFunc_extern Tryz.prog 118 _ (ReflectliteValue.method (ReflectliteValue.valueError "reflectlite.Value.Elem" 0) ReflectliteValue.elem) Tryz.func118 (by kernel_rfl) (by kernel_rfl) (by kernel_rfl) (by kernel_rfl)
 have hext40 := @run_callFunc_extern Tryz.prog 119 _ ReflectliteValue.set Tryz.func119 (by kernel_rfl) (by kernel_rfl) (by kernel_rfl) (by kernel_rfl)
 have hext32 := @run_callFunc_extern Tryz.prog 82 _ (fun args => ReflectliteValue.unpack (args.getD 0 (.tuple #[]))) Tryz.func82 (by kernel_rfl) (by kernel_rfl) (by kernel_rfl) (by kernel_rfl)
 have h1 := typeOfE
 have h1' := typeOfF
 have h2 := assignE
 have h2' := assignF
 have h3 := methodAssignableTo
 have h4 := vOfE
 have h5 := noAsF
 have h6 := unwF
 have h7 := methodUnwrap
 have hvl := lt_of_cell hv
 have htl := lt_of_cell ht
 have el := elemVT va t ((w.alloc (.cells #[.pointer (some ⟨29, 235, none⟩), .pointer (some va), .int .u64 150] 135)).alloc (.cells #[.int .i64 k, .iface 234 (.agg #[.int .i64 n])] 296)) (by rw [World.cell?_alloc_lt _ _ va (by simp; omega), World.cell?_alloc_lt _ _ va hvl]; exact hv)
 have st := setE t ⟨w.heap.size + 1 + 1, 0, none⟩ n old (((w.alloc (.cells #[.pointer (some ⟨29, 235, none⟩), .pointer (some va), .int .u64 150] 135)).alloc (.cells #[.int .i64 k, .iface 234 (.agg #[.int .i64 n])] 296)).alloc (.cells #[.int .i64 n] 234))
  (by rw [World.cell?_alloc_at _ _ _ _ (by simp)]; rfl)
  (by rw [World.cell?_alloc_lt _ _ t (by simp; omega), World.cell?_alloc_lt _ _ t (by simp; omega), World.cell?_alloc_lt _ _ t htl]; exact ht)
  (by rw [World.frozen?_alloc_old _ _ t (by simp; omega), World.frozen?_alloc_old _ _ t (by simp; omega), World.frozen?_alloc_old _ _ t (Nat.ne_of_lt htl)]; exact hf)
 go_enter Tryz.func85, Tryz.ntmps85
 go_wp2
 refine wp_loop_rounds 2 ?_
 rw [rounds_succ]
 go_wp2
 rw [rounds_succ]
 go_wp2
 go_ret
 exact ⟨rfl, ((((Below.refl _ _).alloc (by omega) _).alloc (by simp; omega) _).alloc (by simp; omega) _).setCell (Nat.le_refl _) _⟩
theorem as3 (k : Int) (a : Addr) : AsGives (.iface 296 (.agg #[.int .i64 k, .iface 350 (.pointer (some a))])) false := by
 intro tg va t old w hv ht hf
 have hext36 := @run_callFunc_extern Tryz.prog 86 _ ReflectliteType.typeOf Tryz.func86 (by kernel_rfl) (by kernel_rfl) (by kernel_rfl) (by kernel_rfl)
 have hext65 := @run_callFunc_extern Tryz.prog 282 _ (ReflectliteType.relation "AssignableTo" ReflectliteType.assignableTo) Tryz.func282 (by kernel_rfl) (by kernel_rfl) (by kernel_rfl) (by kernel_rfl)
 have h1 := typeOfS
 have h1' := typeOfF
 have h2 := assignS
 have h2' := assignF
 have h3 := methodAssignableTo
 have h5 := noAsF
 have h5' := noAsS
 have h6 := unwF
 have h6' := noUnwS
 have h6'' := noUnwsS
 have h7 := methodUnwrap
 have htl := lt_of_cell ht
 go_enter Tryz.func85, Tryz.ntmps85
 go_wp2
 refine wp_loop_rounds 2 ?_
 rw [rounds_succ]
 go_wp2
 rw [rounds_succ]
 go_wp2
 go_ret
 exact ⟨rfl, ((Below.refl _ _).alloc (by omega) _).alloc (by simp; omega) _⟩
theorem As_gives (T : TypeId) (v : Value) (b : Bool) (h : AsGives (.iface T v) b) (t : Addr) (old : Value) (w : World)
  (hg : w.cell? ⟨15, 0, none⟩ = some (.iface 180 (.agg #[.pointer (some ⟨29, 52, none⟩)]))) (ht : w.cell? t = some old) (hf : w.frozen? t = false) :
  Calls Tryz.prog 54 #[.iface T v, .iface 235 (.pointer (some t))] w fun e w' => e = .returned (.bool b) /\ Below t.block w w' := by
 have hext32 := @run_callFunc_extern Tryz.prog 82 _ (fun args => ReflectliteValue.unpack (args.getD 0 (.tuple #[]))) Tryz.func82 (by kernel_rfl) (by kernel_rfl) (by kernel_rfl) (by kernel_rfl)
 have hext33 := @run_callFunc_extern Tryz.prog 83 _ (ReflectliteValue.methodAny (ReflectliteValue.valueError "reflectlite.Value.Type" 0) (fun t _ _ _ => ReflectliteType.toType t)) Tryz.func83 (by kernel_rfl) (by kernel_rfl) (by kernel_rfl) (by kernel_rfl)
 have hext34 := @run_callFunc_extern Tryz.prog 84 _ (ReflectliteValue.method (ReflectliteValue.valueError "reflectlite.Value.IsNil" 0) ReflectliteValue.isNil) Tryz.func84 (by kernel_rfl) (by kernel_rfl) (by kernel_rfl) (by kernel_rfl)
 have hext55 := @run_callFunc_extern Tryz.prog 264 _ (ReflectliteType.abiMethod fun t => do pure (.int .u8 (<- Rtype.kind t))) Tryz.func264 (by kernel_rfl) (by kernel_rfl) (by kernel_rfl) (by kernel_rfl)
 have hext67 := @run_callFunc_extern Tryz.prog 284 _ (ReflectliteType.method ReflectliteType.elem) Tryz.func284 (by kernel_rfl) (by kernel_rfl) (by kernel_rfl) (by kernel_rfl)
 have hext68 := @run_callFunc_extern Tryz.prog 285 _ (ReflectliteType.relation "Implements" ReflectliteType.implements_) Tryz.func285 (by kernel_rfl) (by kernel_rfl) (by kernel_rfl) (by kernel_rfl)
 have f6 := vOfT
 have f7 := typeT
 have mK := methodKind
 have mE := methodElem
 have mI := methodImplements
 have k27 := kindT
 have k25 := kindE
 have e27 := elemT
 have i25 := implementsE
 have htl := lt_of_cell ht
 have hgl := lt_of_cell hg
 have n8 := isNilT ⟨w.heap.size, 0, none⟩ t ((w.alloc (.cells #[.pointer (some t)] 235)).alloc (.cells #[.pointer (some ⟨29, 235, none⟩), .pointer (some ⟨w.heap.size, 0, none⟩), .int .u64 150] 135)) (by simp)
 have hg2 : ((w.alloc (.cells #[.pointer (some t)] 235)).alloc (.cells #[.pointer (some ⟨29, 235, none⟩), .pointer (some ⟨w.heap.size, 0, none⟩), .int .u64 150] 135)).cell? ⟨15, 0, none⟩ = some (.iface 180 (.agg #[.pointer (some ⟨29, 52, none⟩)])) := by
  rw [World.cell?_alloc_lt _ _ _ (by simp at hgl ⊢; omega), World.cell?_alloc_lt _ _ _ hgl]; exact hg
 have H := h (.iface 235 (.pointer (some t))) ⟨w.heap.size, 0, none⟩ t old ((w.alloc (.cells #[.pointer (some t)] 235)).alloc (.cells #[.pointer (some ⟨29, 235, none⟩), .pointer (some ⟨w.heap.size, 0, none⟩), .int .u64 150] 135))
  (by simp)
  (by rw [World.cell?_alloc_lt _ _ t (by simp; omega), World.cell?_alloc_lt _ _ t htl]; exact ht)
  (by rw [World.frozen?_alloc_old _ _ t (by simp; omega), World.frozen?_alloc_old _ _ t (Nat.ne_of_lt htl)]; exact hf)
 clear h
 go_enter Tryz.func54, Tryz.ntmps54
 go_wp2_with (go_at_call 85; refine H.mono ?_; rintro e w' ⟨rfl, hb⟩)
 go_ret
 exact ⟨rfl, (((Below.refl _ _).alloc (by omega) _).alloc (by simp; omega) _).trans hb⟩
end Go.Proofs.YtmenllnokgjdlaaGreatDoor
/-
 What size.errnoOf answers at each error that package size makes. Conditions: the package-level variables hold what the program's text lays ('Glob').
-/
namespace Go.Proofs.YtmenllnokgjdlaaGreatDoor
open Go.RowKit Go.Extern.Stop Go.Stop Go.Extern
theorem Is_same (k : Int) (a : Addr) (w : World) :
  Calls Tryz.prog 55 #[.iface 296 (.agg #[.int .i64 k, .iface 350 (.pointer (some a))]), .iface 350 (.pointer (some a))] w fun e w' => e = .returned (.bool true) /\ Below w.heap.size w w' := by
 obtain ⟨i, hi, hcmp⟩ := Option.map_eq_some_iff.1 compS
 obtain ⟨j, hj, hjs⟩ := Option.map_eq_some_iff.1 sizeS
 have hext36 := @run_callFunc_extern Tryz.prog 86 _ ReflectliteType.typeOf Tryz.func86 (by kernel_rfl) (by kernel_rfl) (by kernel_rfl) (by kernel_rfl)
 obtain ⟨ext, hfind, cT⟩ := cmpExt
 have hext66 := @run_callFunc_extern Tryz.prog 283 _ ext Tryz.func283 (by kernel_rfl) (by kernel_rfl) (by kernel_rfl) hfind
 clear hfind
 have tT := typeOfS
 have mR := methodComparable
 have nW := noIsF
 have uW := unwF
 have mU := methodUnwrap
 have heq := fun w => run_eql_iface_ptr_same (P := Tryz.prog) w a Tryz.underlying52 Tryz.underlying350 hi hcmp hj
 have hty := fun w => run_eql_iface_types (P := Tryz.prog) 296 350 (.agg #[.int .i64 k, .iface 350 (.pointer (some a))]) (.pointer (some a)) Tryz.underlying52 (by decide) w
 go_enter Tryz.func55, Tryz.ntmps55
 go_wp2
 refine wp_loop_rounds 2 ?_
 rw [rounds_succ]
 go_wp2
 rw [rounds_succ]
 go_wp2
 go_ret
 exact ⟨rfl, (Below.refl _ _).alloc (by simp) _⟩
theorem Is_other (k : Int) (a b : Addr) (ca cb : Array Value) (ta tb : TypeId) (w : World) (hne : a ≠ b) (ha : w.heap[a.block]? = some (.cells ca ta (0, 0))) (hb : w.heap[b.block]? = some (.cells cb tb (0, 0))) :
  Calls Tryz.prog 55 #[.iface 296 (.agg #[.int .i64 k, .iface 350 (.pointer (some a))]), .iface 350 (.pointer (some b))] w fun e w' => e = .returned (.bool false) /\ Below w.heap.size w w' := by
 obtain ⟨i, hi, hcmp⟩ := Option.map_eq_some_iff.1 compS
 obtain ⟨j, hj, hjs⟩ := Option.map_eq_some_iff.1 sizeS
 have hext36 := @run_callFunc_extern Tryz.prog 86 _ ReflectliteType.typeOf Tryz.func86 (by kernel_rfl) (by kernel_rfl) (by kernel_rfl) (by kernel_rfl)
 obtain ⟨ext, hfind, cT⟩ := cmpExt
 have hext66 := @run_callFunc_extern Tryz.prog 283 _ ext Tryz.func283 (by kernel_rfl) (by kernel_rfl) (by kernel_rfl) hfind
 clear hfind
 have tT := typeOfS
 have mR := methodComparable
 have nW := noIsF
 have nE := noIsS
 have uW := unwF
 have uE := noUnwS
 have vE := noUnwsS
 have mU := methodUnwrap
 have hal : a.block < w.heap.size := (Array.getElem?_eq_some_iff.1 ha).1
 have hbl : b.block < w.heap.size := (Array.getElem?_eq_some_iff.1 hb).1
 have heq := run_eql_iface_ptr_other (P := Tryz.prog) (w.alloc (.cells #[.int .i64 k, .iface 350 (.pointer (some a))] 296)) Tryz.underlying52 Tryz.underlying350 hi hcmp hj (by rw [hjs]; decide) hne ((Below.heap_alloc _ _ _ hal).trans ha) ((Below.heap_alloc _ _ _ hbl).trans hb)
 have hty := fun w => run_eql_iface_types (P := Tryz.prog) 296 350 (.agg #[.int .i64 k, .iface 350 (.pointer (some a))]) (.pointer (some b)) Tryz.underlying52 (by decide) w
 clear ha hb hal hbl
 go_enter Tryz.func55, Tryz.ntmps55
 go_wp2
 refine wp_loop_rounds 2 ?_
 rw [rounds_succ]
 go_wp2
 rw [rounds_succ]
 go_wp2
 go_ret
 exact ⟨rfl, (Below.refl _ _).alloc (by simp) _⟩
structure Glob (aS aF : Addr) (w : World) : Prop where
 ty : w.cell? ⟨15, 0, none⟩ = some (.iface 180 (.agg #[.pointer (some ⟨29, 52, none⟩)]))
 sh : w.cell? ⟨20, 0, none⟩ = some (.iface 350 (.pointer (some aS)))
 fo : w.cell? ⟨18, 0, none⟩ = some (.iface 350 (.pointer (some aF)))
 ne : aS ≠ aF
 hS : ∃ c t, w.heap[aS.block]? = some (.cells c t (0, 0))
 hF : ∃ c t, w.heap[aF.block]? = some (.cells c t (0, 0))
theorem Glob.below {aS aF : Addr} {w w' : World} (g : Glob aS aF w) {B : Nat} (hB : w.heap.size <= B) (h : Below B w w') : Glob aS aF w' := by
 obtain ⟨ty, sh, fo, ne, ⟨c, t, hS⟩, ⟨c', t', hF⟩⟩ := g
 refine ⟨?_, ?_, ?_, ne, ⟨c, t, ?_⟩, ⟨c', t', ?_⟩⟩
 ·rw [h.cell (Nat.lt_of_lt_of_le (lt_of_cell ty) hB)]; exact ty
 ·rw [h.cell (Nat.lt_of_lt_of_le (lt_of_cell sh) hB)]; exact sh
 ·rw [h.cell (Nat.lt_of_lt_of_le (lt_of_cell fo) hB)]; exact fo
 ·rw [h.block _ (Nat.lt_of_lt_of_le (Array.getElem?_eq_some_iff.1 hS).1 hB)]; exact hS
 ·rw [h.block _ (Nat.lt_of_lt_of_le (Array.getElem?_eq_some_iff.1 hF).1 hB)]; exact hF
theorem Glob.alloc {aS aF : Addr} {w : World} (g : Glob aS aF w) (o : Obj) : Glob aS aF (w.alloc o) :=
 g.below (Nat.le_refl _) ((Below.refl _ _).alloc (Nat.le_refl _) _)
theorem errnoOf_size (T : TypeId) (v : Value) (h : AsGives (.iface T v) true) (aS aF : Addr) (w : World) (g : Glob aS aF w) :
  Calls Tryz.prog 125 #[.iface T v] w fun e w' => e = .returned (.int .i64 12) /\ Below w.heap.size w w' := by
 have gt := (g.alloc (.cells #[.int .i64 0] 234)).ty
 have H := As_gives T v true h ⟨w.heap.size, 0, none⟩ (.int .i64 0) (w.alloc (.cells #[.int .i64 0] 234)) gt (by simp) (by simp)
 clear h gt
 go_enter Tryz.func125, Tryz.ntmps125
 go_wp2_with (go_at_call 54; refine H.mono ?_; rintro e w' ⟨rfl, hb⟩)
 go_ret
 exact ⟨rfl, ((Below.refl _ _).alloc (Nat.le_refl _) _).trans hb⟩
theorem errnoOf_form (k : Int) (aS aF : Addr) (w : World) (g : Glob aS aF w) :
  Calls Tryz.prog 125 #[.iface 296 (.agg #[.int .i64 k, .iface 350 (.pointer (some aF))])] w fun e w' => e = .returned (.int .i64 11) /\ Below w.heap.size w w' := by
 have gt := g.alloc (.cells #[.int .i64 0] 234)
 have H := (As_gives _ _ false (as3 k aF) ⟨w.heap.size, 0, none⟩ (.int .i64 0) (w.alloc (.cells #[.int .i64 0] 234)) gt.ty (by simp) (by simp)).mono
  (R' := fun e w' => e = .returned (.bool false) /\ Below w.heap.size (w.alloc (.cells #[.int .i64 0] 234)) w' /\ w'.cell? ⟨18, 0, none⟩ = some (.iface 350 (.pointer (some aF))))
  (fun e w' ⟨he, hb⟩ => ⟨he, hb, by rw [hb.cell (lt_of_cell g.fo)]; exact gt.fo⟩)
 clear gt
 go_enter Tryz.func125, Tryz.ntmps125
 go_wp2_with (first | (go_at_call 54; refine H.mono ?_; rintro e w' ⟨rfl, hb, hc⟩) | (go_at_call 55; refine (Is_same k aF _).mono ?_; rintro e w'' ⟨rfl, hb2⟩))
 go_ret
 exact ⟨rfl, (((Below.refl _ _).alloc (Nat.le_refl _) _).trans hb).trans (hb2.mono (by have := hb.size; simp at this; omega))⟩
theorem errnoOf_short (k : Int) (aS aF : Addr) (w : World) (g : Glob aS aF w) :
  Calls Tryz.prog 125 #[.iface 296 (.agg #[.int .i64 k, .iface 350 (.pointer (some aS))])] w fun e w' => e = .returned (.int .i64 10) /\ Below w.heap.size w w' := by
 have gt := g.alloc (.cells #[.int .i64 0] 234)
 obtain ⟨cS, tS, hS⟩ := g.hS
 obtain ⟨cF, tF, hF⟩ := g.hF
 have H := (As_gives _ _ false (as3 k aS) ⟨w.heap.size, 0, none⟩ (.int .i64 0) (w.alloc (.cells #[.int .i64 0] 234)) gt.ty (by simp) (by simp)).mono
  (R' := fun e w' => e = .returned (.bool false) /\ Below w.heap.size (w.alloc (.cells #[.int .i64 0] 234)) w' /\ w'.cell? ⟨18, 0, none⟩ = some (.iface 350 (.pointer (some aF)))
   /\ Hid (w'.heap[aS.block]? = some (.cells cS tS (0, 0))) /\ Hid (w'.heap[aF.block]? = some (.cells cF tF (0, 0))))
  (fun e w' ⟨he, hb⟩ => ⟨he, hb, by rw [hb.cell (lt_of_cell g.fo)]; exact gt.fo, by
   show _ = _
   rw [hb.block _ (Array.getElem?_eq_some_iff.1 hS).1, Below.heap_alloc _ _ _ (Array.getElem?_eq_some_iff.1 hS).1]; exact hS, by
   show _ = _
   rw [hb.block _ (Array.getElem?_eq_some_iff.1 hF).1, Below.heap_alloc _ _ _ (Array.getElem?_eq_some_iff.1 hF).1]; exact hF⟩)
 have hne := g.ne
 clear gt hS hF g
 go_enter Tryz.func125, Tryz.ntmps125
 go_wp2_with (first | (go_at_call 54; refine H.mono ?_; rintro e w' ⟨rfl, hb, hc, hS, hF⟩) | (go_at_call 55; refine (Is_other k aS aF cS cF tS tF _ hne hS.out hF.out).mono ?_; rintro e w'' ⟨rfl, hb2⟩))
 go_ret
 exact ⟨rfl, (((Below.refl _ _).alloc (Nat.le_refl _) _).trans hb).trans (hb2.mono (by have := hb.size; simp at this; omega))⟩
end Go.Proofs.YtmenllnokgjdlaaGreatDoor
/-
 What errors.As and errors.Is answer where package tlv asks them: at a fault that wraps a noLength or a sentinel, and at a bare noLength. Conditions: the three package-level variables hold what the program's text lays.
-/
namespace Go.Proofs.YtmenllnokgjdlaaGreatDoor.T
open Go.RowKit Go.Extern.Stop Go.Stop Go.Extern
def AsGives (err : Value) (b : Bool) (new : Value -> Value) : Prop := ∀ (tg : Value) (va t : Addr) (old : Value) (w : World), w.cell? va = some (.pointer (some t)) -> w.cell? t = some old -> w.frozen? t = false ->
  Calls Tryz.prog 85 #[err, tg, .agg #[.pointer (some ⟨29, 150, none⟩), .pointer (some va), .int .u64 150], .iface 180 (.agg #[.pointer (some ⟨29, 149, none⟩)])] w
   fun e w' => e = .returned (.bool b) /\ Below t.block w w' /\ w'.cell? t = some (new old)
theorem as2 (n k : Int) : AsGives (.iface 97 (.agg #[.int .i64 k, .iface 149 (.agg #[.int .i64 n])])) true (fun _ => .int .i64 n) := by
 intro tg va t old w hv ht hf
 have hext36 := @run_callFunc_extern Tryz.prog 86 _ ReflectliteType.typeOf Tryz.func86 (by kernel_rfl) (by kernel_rfl) (by kernel_rfl) (by kernel_rfl)
 have hext65 := @run_callFunc_extern Tryz.prog 282 _ (ReflectliteType.relation "AssignableTo" ReflectliteType.assignableTo) Tryz.func282 (by kernel_rfl) (by kernel_rfl) (by kernel_rfl) (by kernel_rfl)
 have hext39 := @run_callFunc_extern Tryz.prog 118 _ (ReflectliteValue.method (ReflectliteValue.valueError "reflectlite.Value.Elem" 0) ReflectliteValue.elem) Tryz.func118 (by kernel_rfl) (by kernel_rfl) (by kernel_rfl) (by kernel_rfl)
 have hext40 := @run_callFunc_extern Tryz.prog 119 _ ReflectliteValue.set Tryz.func119 (by kernel_rfl) (by kernel_rfl) (by kernel_rfl) (by kernel_rfl)
 have hext32 := @run_callFunc_extern Tryz.prog 82 _ (fun args => ReflectliteValue.unpack (args.getD 0 (.tuple #[]))) Tryz.func82 (by kernel_rfl) (by kernel_rfl) (by kernel_rfl) (by kernel_rfl)
 have h1 := typeOfE
 have h1' := typeOfF
 have h2 := assignE
 have h2' := assignF
 have h3 := methodAssignableTo
 have h4 := vOfE
 have h5 := noAsF
 have h6 := unwF
 have h7 := methodUnwrap
 have hvl := lt_of_cell hv
 have htl := lt_of_cell ht
 have el := elemVT va t ((w.alloc (.cells #[.pointer (some ⟨29, 150, none⟩), .pointer (some va), .int .u64 150] 135)).alloc (.cells #[.int .i64 k, .iface 149 (.agg #[.int .i64 n])] 97)) (by rw [World.cell?_alloc_lt _ _ va (by simp; omega), World.cell?_alloc_lt _ _ va hvl]; exact hv)
 have st := setE t ⟨w.heap.size + 1 + 1, 0, none⟩ n old (((w.alloc (.cells #[.pointer (some ⟨29, 150, none⟩), .pointer (some va), .int .u64 150] 135)).alloc (.cells #[.int .i64 k, .iface 149 (.agg #[.int .i64 n])] 97)).alloc (.cells #[.int .i64 n] 149))
  (by rw [World.cell?_alloc_at _ _ _ _ (by simp)]; rfl)
  (by rw [World.cell?_alloc_lt _ _ t (by simp; omega), World.cell?_alloc_lt _ _ t (by simp; omega), World.cell?_alloc_lt _ _ t htl]; exact ht)
  (by rw [World.frozen?_alloc_old _ _ t (by simp; omega), World.frozen?_alloc_old _ _ t (by simp; omega), World.frozen?_alloc_old _ _ t (Nat.ne_of_lt htl)]; exact hf)
 go_enter Tryz.func85, Tryz.ntmps85
 go_wp2
 refine wp_loop_rounds 2 ?_
 rw [rounds_succ]
 go_wp2
 rw [rounds_succ]
 go_wp2
 go_ret
 exact ⟨rfl, ((((Below.refl _ _).alloc (by omega) _).alloc (by simp; omega) _).alloc (by simp; omega) _).setCell (Nat.le_refl _) _, World.cell?_setCell_same' _ _ _ (by rw [World.cell?_alloc_lt _ _ t (by simp; omega), World.cell?_alloc_lt _ _ t (by simp; omega), World.cell?_alloc_lt _ _ t htl, ht]; rfl)⟩
theorem as3 (k : Int) (a : Addr) : AsGives (.iface 97 (.agg #[.int .i64 k, .iface 350 (.pointer (some a))])) false id := by
 intro tg va t old w hv ht hf
 have hext36 := @run_callFunc_extern Tryz.prog 86 _ ReflectliteType.typeOf Tryz.func86 (by kernel_rfl) (by kernel_rfl) (by kernel_rfl) (by kernel_rfl)
 have hext65 := @run_callFunc_extern Tryz.prog 282 _ (ReflectliteType.relation "AssignableTo" ReflectliteType.assignableTo) Tryz.func282 (by kernel_rfl) (by kernel_rfl) (by kernel_rfl) (by kernel_rfl)
 have h1 := typeOfS
 have h1' := typeOfF
 have h2 := assignS
 have h2' := assignF
 have h3 := methodAssignableTo
 have h5 := noAsF
 have h5' := noAsS
 have h6 := unwF
 have h6' := noUnwS
 have h6'' := noUnwsS
 have h7 := methodUnwrap
 have htl := lt_of_cell ht
 go_enter Tryz.func85, Tryz.ntmps85
 go_wp2
 refine wp_loop_rounds 2 ?_
 rw [rounds_succ]
 go_wp2
 rw [rounds_succ]
 go_wp2
 go_ret
 exact ⟨rfl, ((Below.refl _ _).alloc (by omega) _).alloc (by simp; omega) _, by rw [World.cell?_alloc_lt _ _ t (by simp; omega), World.cell?_alloc_lt _ _ t htl]; exact ht⟩
theorem As_gives (T : TypeId) (v : Value) (b : Bool) (new : Value -> Value) (h : AsGives (.iface T v) b new) (t : Addr) (old : Value) (w : World)
  (hg : w.cell? ⟨15, 0, none⟩ = some (.iface 180 (.agg #[.pointer (some ⟨29, 52, none⟩)]))) (ht : w.cell? t = some old) (hf : w.frozen? t = false) :
  Calls Tryz.prog 54 #[.iface T v, .iface 150 (.pointer (some t))] w fun e w' => e = .returned (.bool b) /\ Below t.block w w' /\ w'.cell? t = some (new old) := by
 have hext32 := @run_callFunc_extern Tryz.prog 82 _ (fun args => ReflectliteValue.unpack (args.getD 0 (.tuple #[]))) Tryz.func82 (by kernel_rfl) (by kernel_rfl) (by kernel_rfl) (by kernel_rfl)
 have hext33 := @run_callFunc_extern Tryz.prog 83 _ (ReflectliteValue.methodAny (ReflectliteValue.valueError "reflectlite.Value.Type" 0) (fun t _ _ _ => ReflectliteType.toType t)) Tryz.func83 (by kernel_rfl) (by kernel_rfl) (by kernel_rfl) (by kernel_rfl)
 have hext34 := @run_callFunc_extern Tryz.prog 84 _ (ReflectliteValue.method (ReflectliteValue.valueError "reflectlite.Value.IsNil" 0) ReflectliteValue.isNil) Tryz.func84 (by kernel_rfl) (by kernel_rfl) (by kernel_rfl) (by kernel_rfl)
 have hext55 := @run_callFunc_extern Tryz.prog 264 _ (ReflectliteType.abiMethod fun t => do pure (.int .u8 (<- Rtype.kind t))) Tryz.func264 (by kernel_rfl) (by kernel_rfl) (by kernel_rfl) (by kernel_rfl)
 have hext67 := @run_callFunc_extern Tryz.prog 284 _ (ReflectliteType.method ReflectliteType.elem) Tryz.func284 (by kernel_rfl) (by kernel_rfl) (by kernel_rfl) (by kernel_rfl)
 have hext68 := @run_callFunc_extern Tryz.prog 285 _ (ReflectliteType.relation "Implements" ReflectliteType.implements_) Tryz.func285 (by kernel_rfl) (by kernel_rfl) (by kernel_rfl) (by kernel_rfl)
 have f6 := vOfT
 have f7 := typeT
 have mK := methodKind
 have mE := methodElem
 have mI := methodImplements
 have k27 := kindT
 have k25 := kindE
 have e27 := elemT
 have i25 := implementsE
 have htl := lt_of_cell ht
 have hgl := lt_of_cell hg
 have n8 := isNilT ⟨w.heap.size, 0, none⟩ t ((w.alloc (.cells #[.pointer (some t)] 150)).alloc (.cells #[.pointer (some ⟨29, 150, none⟩), .pointer (some ⟨w.heap.size, 0, none⟩), .int .u64 150] 135)) (by simp)
 have hg2 : ((w.alloc (.cells #[.pointer (some t)] 150)).alloc (.cells #[.pointer (some ⟨29, 150, none⟩), .pointer (some ⟨w.heap.size, 0, none⟩), .int .u64 150] 135)).cell? ⟨15, 0, none⟩ = some (.iface 180 (.agg #[.pointer (some ⟨29, 52, none⟩)])) := by
  rw [World.cell?_alloc_lt _ _ _ (by simp at hgl ⊢; omega), World.cell?_alloc_lt _ _ _ hgl]; exact hg
 have H := h (.iface 150 (.pointer (some t))) ⟨w.heap.size, 0, none⟩ t old ((w.alloc (.cells #[.pointer (some t)] 150)).alloc (.cells #[.pointer (some ⟨29, 150, none⟩), .pointer (some ⟨w.heap.size, 0, none⟩), .int .u64 150] 135))
  (by simp)
  (by rw [World.cell?_alloc_lt _ _ t (by simp; omega), World.cell?_alloc_lt _ _ t htl]; exact ht)
  (by rw [World.frozen?_alloc_old _ _ t (by simp; omega), World.frozen?_alloc_old _ _ t (Nat.ne_of_lt htl)]; exact hf)
 clear h
 go_enter Tryz.func54, Tryz.ntmps54
 go_wp2_with (go_at_call 85; refine H.mono ?_; rintro e w' ⟨rfl, hb, hc⟩)
 go_ret
 exact ⟨rfl, (((Below.refl _ _).alloc (by omega) _).alloc (by simp; omega) _).trans hb, hc⟩
end Go.Proofs.YtmenllnokgjdlaaGreatDoor.T
