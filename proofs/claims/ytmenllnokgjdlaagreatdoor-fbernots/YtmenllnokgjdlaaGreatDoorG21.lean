/- Several texts in one: UDoor, ERead2, EDoor, UTells, URight, EShown, EFacts, FPure, DText, FNode, TShelf, FRange. Each says what it proves, and its con -/
import Derived.Test.YtmenllnokgjdlaaGreatDoorUFault
import Derived.Test.YtmenllnokgjdlaaGreatDoorERead1
import Derived.Laws.DeepStrings4
import Derived.Shelf.Strings.OnBuilder
import Derived.Shelf.Strconv.Clone
set_option maxHeartbeats 1000000
set_option maxRecDepth 100000
/-
 What utf.Text, Signs and Bad answer, at every input. Conditions: the package-level variables hold what the program's text lays ('Glob').
-/
namespace Go.Proofs.YtmenllnokgjdlaaGreatDoor.U
open Go Go.RowKit
end Go.Proofs.YtmenllnokgjdlaaGreatDoor.U
/-
 What esc.reader.read answers: the value that a text tells. Conditions: the package-level variables hold what the program's text lays ('Glob').
-/
namespace Go.Proofs.YtmenllnokgjdlaaGreatDoor.E
open Go Go.RowKit Go.Shelf Ec
attribute [local go_sem] Oper.semAt_some
def rfd (nm : Bool) {s : ByteArray} : List UInt8 -> Nat -> List (Pc s) -> Option (List UInt8)
 | out, _, [] => some out
 | out, dn, x :: l => if x.p < dn then rfd nm out dn l else match stp nm s.size x.p (s[x.p]'x.hp) (s.data.toList.drop (x.p + 1)) with
  | none => none
  | some (t, k) => rfd nm (out ++ t) (x.p + 1 + k) l
def Fd (nm : Bool) {s : ByteArray} (pre : List (Pc s)) (out : List UInt8) (dn : Nat) : Prop := out.length <= pre.length /\ dn <= 2000 /\ ∀ tail, rfd nm [] 0 (pre ++ tail) = rfd nm out dn tail
theorem Fd.skip {nm : Bool} {s : ByteArray} {pre : List (Pc s)} {out : List UInt8} {dn : Nat} {x : Pc s} (h : Fd nm pre out dn) (hx : x.p < dn) : Fd nm (pre ++ [x]) out dn :=
 ⟨by have := h.1; simp; omega, h.2.1, fun tail => by rw [List.append_assoc, h.2.2, List.singleton_append, rfd, if_pos hx]⟩
def Kr (A : Nat) (W W' : World) : Prop := KeepsOthers W W' /\ C.Two (A + 4) (A + 4) W W'
theorem Kr.trans {A : Nat} {U V W : World} (h : Kr A U V) (k : Kr A V W) : Kr A U W := ⟨h.1.trans k.1, h.2.trans k.2⟩
def rd (nm : Bool) (s : ByteArray) : Option (List UInt8) := if (U.bad s).isNone then rdk nm s.size 0 0 s.data.toList else none
end Go.Proofs.YtmenllnokgjdlaaGreatDoor.E
/-
 What esc.Filter, Name, ReadFilter and ReadName answer, at every text of at most one thousand bytes. Conditions: the package-level variables hold what the program's text lays ('Glob').
-/
namespace Go.Proofs.YtmenllnokgjdlaaGreatDoor.E
open Go Go.RowKit Ec
theorem prp_al (nm : Bool) (s : ByteArray) : ∀ f p, s.size <= p + f -> prp nm (C.al s 1 f p) = prt nm s.size p (s.data.toList.drop p)
 | 0, p, hf => by
  rw [drop_out (by omega), C.al, prt]
  rfl
 | f + 1, p, hf => by
  by_cases h : p < s.size
  ·rw [C.al, dif_pos h, drop_at h, prt, <- prp_al nm s f (p + 1) (by omega)]
   rfl
  ·rw [C.al, dif_neg h, drop_out h, prt]
   rfl
def pri (nm : Bool) (s : ByteArray) : ByteArray := ⟨(prt nm s.size 0 s.data.toList).toArray⟩
theorem prp_all (nm : Bool) (s : ByteArray) : (⟨(prp nm (all s)).toArray⟩ : ByteArray) = pri nm s := by
 have := prp_al nm s s.size 0 (by omega)
 rw [List.drop_zero] at this
 have e : all s = C.al s 1 s.size 0 := rfl
 unfold pri
 rw [e, this]
def und (nm : Bool) (s : ByteArray) : ByteArray × Int := match rd nm s with
 | some t => (⟨t.toArray⟩, 0)
 | none => (⟨#[]⟩, 60)
theorem filter_any (s : ByteArray) (w : World) (hs : s.size <= 1000) :
  Calls Tryz.prog 77 #[.string s] w fun e w' => e = .returned (.string (pri false s)) /\ Below w.heap.size w w' := by
 have H : Hid (Calls Tryz.prog 114 #[.int .i64 0, .string s] w (PPost false s w)) := printed_any false s w hs
 go_enter Tryz.func77, Tryz.ntmps77
 go_wp2_with fail
 refine (un H).mono ?_
 rintro e w1 ⟨rfl, hb⟩
 rw [prp_all]
 have HB := H_ hb
 clear hb H
 go_wp2
 go_ret
 exact ⟨rfl, un HB⟩
end Go.Proofs.YtmenllnokgjdlaaGreatDoor.E
/-
 What the model's range over a text says of it, plainly: where it is not right, its signs, whether it is safe. Conditions: none.
-/
namespace Go.Proofs.YtmenllnokgjdlaaGreatDoor.U
open Go
theorem len_toList (s : ByteArray) : s.data.toList.length = s.size := by rw [Array.length_toList]; rfl
theorem al_is (s : ByteArray) (r : List UInt8) (hr : Ut.dc r = none) : ∀ (cs : List Nat) (f p : Nat), s.data.toList.drop p = Ut.fl cs ++ r -> (∀ c ∈ cs, Ut.sg c) -> s.size <= p + f -> p <= s.size ->
  first (st s) (al s f p) = (if r = [] then none else some (p + (Ut.fl cs).length)) /\ (r = [] -> (al s f p).map (·.n) = cs) := by
 intro cs
 induction cs with
 | nil =>
  intro f p hd _ hf hp
  have hd' : s.data.toList.drop p = r := hd
  have hl : r.length = s.size - p := by rw [<- hd', List.length_drop, len_toList]
  by_cases h0 : r = []
  ·have hge : ¬ p < s.size := by rw [h0] at hl; simp at hl; omega
   rw [al_end s f p hge, if_pos h0]
   exact ⟨rfl, fun _ => rfl⟩
  ·have hlt : p < s.size := by
    rcases Nat.lt_or_ge p s.size with h | h
    ·exact h
    ·exact absurd (List.length_eq_zero_iff.1 (by omega)) h0
   obtain ⟨f', rfl, ha, hf'⟩ := al_cons s f p hlt hf
   refine ⟨?_, fun h => absurd h h0⟩
   have hde : (Utf8.decode s p).1 = 65533 := by rw [Ut.decode_eq s p hlt, hd', hr]
   have hst : st s p (Utf8.decode s p).1 = false := by
    rw [hde, Bool.eq_false_iff]
    unfold st
    rw [hd', Ne, List.isPrefixOf_iff_prefix]
    rintro ⟨t, ht⟩
    rw [<- ht, Ut.dc_enc 65533 ⟨by omega, by omega⟩] at hr
    cases hr
   rw [ha, first, if_neg (by simpa using hst), if_neg h0]
   rfl
 | cons c cs ih =>
  intro f p hd hs hf hp
  have hd' : s.data.toList.drop p = Ut.enc c ++ (Ut.fl cs ++ r) := by rw [hd]; simp [Ut.fl]
  have hc := hs c (by simp)
  have hpos := Ut.enc_pos c
  have hl : (Ut.enc c).length + (Ut.fl cs ++ r).length = s.size - p := by rw [<- List.length_append, <- hd', List.length_drop, len_toList]
  have hlt : p < s.size := by omega
  obtain ⟨f', rfl, ha, hf'⟩ := al_cons s f p hlt hf
  have hde : Utf8.decode s p = (c, (Ut.enc c).length) := by rw [Ut.decode_eq s p hlt, hd', Ut.dc_enc c hc]
  have hst : st s p (Utf8.decode s p).1 = true := by
   rw [hde]
   unfold st
   rw [hd', List.isPrefixOf_iff_prefix]
   exact ⟨_, rfl⟩
  have hn : s.data.toList.drop (p + (Utf8.decode s p).2) = Ut.fl cs ++ r := by
   rw [hde, <- List.drop_drop, hd']
   simp
  obtain ⟨i1, i2⟩ := ih f' (p + (Utf8.decode s p).2) hn (fun x hx => hs x (by simp [hx])) hf' (by rw [hde]; show p + (Ut.enc c).length <= _; omega)
  rw [ha]
  refine ⟨?_, fun h0 => ?_⟩
  ·rw [first, if_pos hst, i1]
   split
   ·rfl
   ·rw [hde]
    simp only [Ut.fl, List.length_append]
    congr 1
    show p + _ + _ = _
    omega
  ·rw [List.map_cons, i2 h0]
   show (Utf8.decode s p).1 :: cs = _
   rw [hde]
theorem bad_is {s : ByteArray} {cs : List Nat} {r : List UInt8} (h : Ut.Is s.data.toList cs r) : bad s = if r = [] then none else some (Ut.fl cs).length := by
 have := (al_is s r h.none cs s.size 0 (by rw [List.drop_zero]; exact h.eq) h.all (by omega) (Nat.zero_le _)).1
 rw [Nat.zero_add] at this
 exact this
def at_ (s : ByteArray) (q : Nat) : Nat := Ut.g s.data.toList q
end Go.Proofs.YtmenllnokgjdlaaGreatDoor.U
/-
 Which texts are right, plainly. Conditions: none.
-/
namespace Go.Proofs.YtmenllnokgjdlaaGreatDoor.U
open Go
theorem bad_none_iff (s : ByteArray) : bad s = none ↔ ∃ cs, Ut.Is s.data.toList cs [] := by
 obtain ⟨cs, r, h⟩ := Ut.is_ex s.data.toList
 rw [bad_is h]
 constructor
 ·intro hn
  split at hn
  ·rename_i h0; subst h0; exact ⟨cs, h⟩
  ·cases hn
 ·rintro ⟨ds, hd⟩
  rw [if_pos (Ut.is_inj h hd).2]
theorem bad_of_is {s : ByteArray} {cs : List Nat} (h : Ut.Is s.data.toList cs []) : bad s = none := (bad_none_iff s).2 ⟨cs, h⟩
theorem is_enc {n : Nat} (h : Ut.sg n) : Ut.Is (Ut.enc n) [n] [] := ⟨by simpa using h, rfl, by simp [Ut.fl]⟩
theorem data_append (a c : ByteArray) : (a ++ c).data.toList = a.data.toList ++ c.data.toList := by simp
end Go.Proofs.YtmenllnokgjdlaaGreatDoor.U
/-
 The law file's shown(), cut() and plain(). Conditions: the package-level variables hold what the program's text lays.
-/
namespace Go.Proofs.YtmenllnokgjdlaaGreatDoor.E
open Go Go.RowKit Ec
attribute [local go_sem] Oper.semAt_some
end Go.Proofs.YtmenllnokgjdlaaGreatDoor.E
/-
 Plain facts on what is printed and read in layer 6. Conditions: none.
-/
namespace Go.Proofs.YtmenllnokgjdlaaGreatDoor.E
open Go Go.RowKit Ec
theorem len_toList (s : ByteArray) : s.data.toList.length = s.size := Array.length_toList
theorem pri_data (nm : Bool) (s : ByteArray) : (pri nm s).data.toList = prt nm s.data.toList.length 0 s.data.toList := by rw [len_toList]; rfl
theorem pri_size (nm : Bool) (s : ByteArray) : s.size <= (pri nm s).size /\ (pri nm s).size <= 3 * s.size := by
 have h := prt_len nm s.data.toList.length s.data.toList 0
 rw [<- pri_data, len_toList, len_toList] at h
 exact h
theorem pri_plain (nm : Bool) (s : ByteArray) : (pri nm s).data.toList.all pln = true := by
 rw [List.all_eq_true, pri_data]
 exact fun x hx => prt_pln nm _ _ 0 x hx
theorem is_low : ∀ l : List UInt8, (∀ x ∈ l, x.toNat < 128) -> Ut.Is l (l.map UInt8.toNat) []
 | [], _ => ⟨by simp, rfl, by simp [Ut.fl]⟩
 | x :: l, h => by
  have h1 := is_low l (fun y hy => h y (by simp [hy]))
  have hx := h x (by simp)
  have e : Ut.enc x.toNat = [x] := by
   rcases Ut.enc_cases x.toNat with ⟨_, e⟩ | ⟨h2, _⟩ | ⟨h2, _⟩ | ⟨h2, _⟩
   ·rw [e, show Ut.b x.toNat = x from UInt8.toNat.inj (Ut.bn _ (by omega))]
   ·omega
   ·omega
   ·omega
  have := Ut.Is.behind (U.is_enc (n := x.toNat) ⟨by omega, by omega⟩) h1
  rw [e] at this
  exact this
theorem bad_low {s : ByteArray} (h : ∀ x ∈ s.data.toList, x.toNat < 128) : U.bad s = none := U.bad_of_is (is_low _ h)
theorem pln_low {x : UInt8} (h : pln x = true) : x.toNat < 128 := by unfold pln at h; simp at h; omega
theorem rd_low (nm : Bool) {s : ByteArray} (h : ∀ x ∈ s.data.toList, x.toNat < 128) : rd nm s = rdk nm s.size 0 0 s.data.toList := by unfold rd; rw [bad_low h]; rfl
theorem mk_data (s : ByteArray) : (⟨s.data.toList.toArray⟩ : ByteArray) = s := by cases s; rfl
theorem und_pri (nm : Bool) (s : ByteArray) : und nm (pri nm s) = (s, 0) := by
 have h := rd_low nm (s := pri nm s) (fun x hx => pln_low (List.all_eq_true.1 (pri_plain nm s) x hx))
 have h2 := back0 nm s.data.toList
 rw [<- pri_data, len_toList, <- h] at h2
 unfold und
 rw [h2]
theorem data_app (a b : ByteArray) : (a ++ b).data.toList = a.data.toList ++ b.data.toList := by simp [ByteArray.data_append]
end Go.Proofs.YtmenllnokgjdlaaGreatDoor.E
/-
 Filters, plainly: so many levels at most; names, what is right, texts, what is read of a text; what the document says of layer 8, and what follows. Conditions: none.
-/
namespace Go.Proofs.YtmenllnokgjdlaaGreatDoor.Fp
open Dp (tyL tyB jn mp)
open E (pri und)
def cutB (c : UInt8) : List UInt8 -> Option (List UInt8 × List UInt8)
 | [] => none
 | x :: r => if x = c then some ([], r) else (cutB c r).map fun q => (x :: q.1, q.2)
def spl (c : UInt8) : List UInt8 -> List (List UInt8)
 | [] => [[]]
 | x :: r => if x = c then [] :: spl c r else match spl c r with
  | [] => [[x]]
  | q :: qs => (x :: q) :: qs
theorem spl_ne (c : UInt8) : ∀ l, spl c l ≠ []
 | [] => by simp [spl]
 | x :: r => by
  rw [spl]
  split
  ·simp
  ·split <;> simp
theorem cutB_none (c : UInt8) : ∀ l : List UInt8, cutB c l = none ↔ c ∉ l
 | [] => by simp [cutB]
 | x :: r => by
  rw [cutB]
  by_cases h : x = c
  ·simp [h]
  ·rw [if_neg h, Option.map_eq_none_iff, cutB_none c r]
   simp [Ne.symm h]
theorem cutB_at (c : UInt8) : ∀ (a b : List UInt8), c ∉ a -> cutB c (a ++ c :: b) = some (a, b)
 | [], b, _ => by simp [cutB]
 | x :: a, b, h => by
  rw [List.cons_append, cutB, if_neg (fun e => h (by simp [e])), cutB_at c a b (fun e => h (by simp [e]))]
  rfl
theorem cutB_some (c : UInt8) : ∀ (l a b : List UInt8), cutB c l = some (a, b) -> l = a ++ c :: b /\ c ∉ a
 | [], a, b, h => by cases h
 | x :: l, a, b, h => by
  rw [cutB] at h
  split at h
  ·cases h; simp_all
  ·rw [Option.map_eq_some_iff] at h
   obtain ⟨⟨p, q⟩, h1, h2⟩ := h
   cases h2
   obtain ⟨h3, h4⟩ := cutB_some c l p q h1
   rename_i hx
   exact ⟨by rw [h3]; rfl, by simp [h4, Ne.symm hx]⟩
theorem spl_none (c : UInt8) : ∀ l : List UInt8, c ∉ l -> spl c l = [l]
 | [], _ => rfl
 | x :: r, h => by
  rw [spl, if_neg (fun e => h (by simp [e])), spl_none c r (fun e => h (by simp [e]))]
theorem spl_at (c : UInt8) : ∀ (a b : List UInt8), c ∉ a -> spl c (a ++ c :: b) = a :: spl c b
 | [], b, _ => by simp [spl]
 | x :: a, b, h => by
  rw [List.cons_append, spl, if_neg (fun e => h (by simp [e])), spl_at c a b (fun e => h (by simp [e]))]
theorem spl_cut (c : UInt8) (l : List UInt8) : spl c l = match cutB c l with
  | none => [l]
  | some (a, b) => a :: spl c b := by
 cases h : cutB c l with
 | none => exact spl_none c l ((cutB_none c l).1 h)
 | some q =>
  obtain ⟨a, b⟩ := q
  obtain ⟨h1, h2⟩ := cutB_some c l a b h
  rw [h1, spl_at c a b h2]
theorem spl_jn (c : UInt8) : ∀ xs : List (List UInt8), xs ≠ [] -> (∀ x ∈ xs, c ∉ x) -> spl c (jn c xs) = xs
 | [], h, _ => absurd rfl h
 | [x], _, h => by rw [Dp.jn_one]; exact spl_none c x (h x (by simp))
 | x :: y :: r, _, h => by
  rw [Dp.jn_cons, spl_at c x _ (h x (by simp)), spl_jn c (y :: r) (by simp) (fun z hz => h z (by simp [hz]))]
theorem count_jn (c : UInt8) : ∀ xs : List (List UInt8), xs ≠ [] -> (∀ x ∈ xs, c ∉ x) -> (jn c xs).count c + 1 = xs.length
 | [], h, _ => absurd rfl h
 | [x], _, h => by rw [Dp.jn_one, List.count_eq_zero.2 (h x (by simp))]; rfl
 | x :: y :: r, _, h => by
  have := count_jn c (y :: r) (by simp) (fun z hz => h z (by simp [hz]))
  rw [Dp.jn_cons, List.count_append, List.count_eq_zero.2 (h x (by simp)), List.count_cons_self, List.length_cons]
  omega
theorem spl_small (c : UInt8) : ∀ (l : List UInt8), ∀ q ∈ spl c l, q.length <= l.length
 | [], q, h => by simp [spl] at h; subst h; exact Nat.le_refl _
 | x :: r, q, h => by
  rw [spl] at h
  have ih := spl_small c r
  split at h
  ·rcases List.mem_cons.1 h with rfl | h
   ·simp
   ·have := ih q h; simp; omega
  ·split at h
   ·simp at h; subst h; simp
   ·rename_i p ps hq
    rcases List.mem_cons.1 h with rfl | h
    ·have := ih p (by rw [hq]; simp); simp; omega
    ·have := ih q (by rw [hq]; simp [h]); simp; omega
def opt (l : List UInt8) : Bool := l != [] && l.all Dp.fit
def nmL (l : List UInt8) : Bool := decide (l.length <= 30) && match cutB 59 l with
 | none => tyL l
 | some (k, o) => tyL k && (spl 59 o).all opt
def okName (s : ByteArray) : Bool := nmL s.data.toList
def Fl : Nat -> Type
 | 0 => Empty
 | n + 1 => Int × ByteArray × ByteArray × List ByteArray × ByteArray × List (Fl n)
def mk {n : Nat} (k : Int) (nm va : ByteArray) (an : List ByteArray) (fi : ByteArray) (ls : List (Fl n)) : Fl (n + 1) := (k, nm, va, an, fi, ls)
def kd {n : Nat} (F : Fl (n + 1)) : Int := (show Int × ByteArray × ByteArray × List ByteArray × ByteArray × List (Fl n) from F).1
def nm {n : Nat} (F : Fl (n + 1)) : ByteArray := (show Int × ByteArray × ByteArray × List ByteArray × ByteArray × List (Fl n) from F).2.1
def va {n : Nat} (F : Fl (n + 1)) : ByteArray := (show Int × ByteArray × ByteArray × List ByteArray × ByteArray × List (Fl n) from F).2.2.1
def an {n : Nat} (F : Fl (n + 1)) : List ByteArray := (show Int × ByteArray × ByteArray × List ByteArray × ByteArray × List (Fl n) from F).2.2.2.1
def fi {n : Nat} (F : Fl (n + 1)) : ByteArray := (show Int × ByteArray × ByteArray × List ByteArray × ByteArray × List (Fl n) from F).2.2.2.2.1
def ls {n : Nat} (F : Fl (n + 1)) : List (Fl n) := (show Int × ByteArray × ByteArray × List ByteArray × ByteArray × List (Fl n) from F).2.2.2.2.2
theorem mk_eta {n : Nat} (F : Fl (n + 1)) : mk (kd F) (nm F) (va F) (an F) (fi F) (ls F) = F := rfl
@[simp] theorem kd_mk {n : Nat} (k : Int) (a b : ByteArray) (l : List ByteArray) (c : ByteArray) (xs : List (Fl n)) : kd (mk k a b l c xs) = k := rfl
@[simp] theorem nm_mk {n : Nat} (k : Int) (a b : ByteArray) (l : List ByteArray) (c : ByteArray) (xs : List (Fl n)) : nm (mk k a b l c xs) = a := rfl
@[simp] theorem va_mk {n : Nat} (k : Int) (a b : ByteArray) (l : List ByteArray) (c : ByteArray) (xs : List (Fl n)) : va (mk k a b l c xs) = b := rfl
@[simp] theorem an_mk {n : Nat} (k : Int) (a b : ByteArray) (l : List ByteArray) (c : ByteArray) (xs : List (Fl n)) : an (mk k a b l c xs) = l := rfl
@[simp] theorem fi_mk {n : Nat} (k : Int) (a b : ByteArray) (l : List ByteArray) (c : ByteArray) (xs : List (Fl n)) : fi (mk k a b l c xs) = c := rfl
@[simp] theorem ls_mk {n : Nat} (k : Int) (a b : ByteArray) (l : List ByteArray) (c : ByteArray) (xs : List (Fl n)) : ls (mk k a b l c xs) = xs := rfl
def isSet (k : Int) : Bool := k == 0 || k == 1 || k == 2
def okP (s : ByteArray) : Bool := decide (s.size ≠ 0) && decide (s.size <= 60)
def fitS (k : Int) (a v : ByteArray) (l : List ByteArray) (f : ByteArray) (m : Nat) : Bool := decide (0 < m) && decide (m <= if k = 2 then 1 else 8) && (decide (a.size = 0) && decide (v.size = 0)) && (decide (l.length = 0) && decide (f.size = 0))
def fitV (k : Int) (a v : ByteArray) (l : List ByteArray) (f : ByteArray) (m : Nat) : Bool := okName a && decide (v.size <= if k = 7 then 0 else 60) && (decide (l.length = 0) && decide (f.size = 0)) && decide (m = 0)
def fitU (a v : ByteArray) (l : List ByteArray) (f : ByteArray) (m : Nat) : Bool := okName a && decide (l.length <= 4) && l.all okP && (decide (v.size <= 60) && decide (f.size <= 60)) && (decide (v.size ≠ 0) || decide (0 < l.length) || decide (f.size ≠ 0)) && decide (m = 0)
def fitB (k : Int) (a v : ByteArray) (l : List ByteArray) (f : ByteArray) (m : Nat) : Bool :=
 if isSet k then fitS k a v l f m else if k = 4 then fitU a v l f m else if k = 3 \/ k = 5 \/ k = 6 \/ k = 7 \/ k = 8 then fitV k a v l f m else false
def fitF {n : Nat} (F : Fl (n + 1)) : Bool := fitB (kd F) (nm F) (va F) (an F) (fi F) (ls F).length
def right : (n : Nat) -> Nat -> Fl n -> Bool
 | 0, _, t => Empty.elim t
 | n + 1, d, F => decide (0 < d) && fitF F && (ls F).all (right n (d - 1))
def names : (n : Nat) -> Fl n -> List ByteArray
 | 0, t => Empty.elim t
 | n + 1, F => (if (nm F).size = 0 then [] else [nm F]) ++ ((ls F).map (names n)).flatten
def allB {α : Type} (f : α -> α -> Bool) : List α -> List α -> Bool
 | [], [] => true
 | x :: xs, y :: ys => f x y && allB f xs ys
 | _, _ => false
def same : (n : Nat) -> Fl n -> Fl n -> Bool
 | 0, t, _ => Empty.elim t
 | n + 1, A, B => decide (kd A = kd B) && decide (nm A = nm B) && decide (va A = va B) && decide (fi A = fi B) && decide (an A = an B) && allB (same n) (ls A) (ls B)
theorem allB_eq {α : Type} (f : α -> α -> Bool) : ∀ (xs ys : List α), (∀ x ∈ xs, ∀ y, f x y = true ↔ x = y) -> (allB f xs ys = true ↔ xs = ys)
 | [], [], _ => by simp [allB]
 | [], _ :: _, _ => by simp [allB]
 | _ :: _, [], _ => by simp [allB]
 | x :: xs, y :: ys, h => by
  rw [allB, Bool.and_eq_true, allB_eq f xs ys (fun z hz => h z (by simp [hz])), h x (by simp) y]
  simp
theorem same_iff : ∀ (n : Nat) (A B : Fl n), same n A B = true ↔ A = B
 | 0, t, _ => Empty.elim t
 | n + 1, A, B => by
  rw [same]
  simp only [Bool.and_eq_true, decide_eq_true_eq, allB_eq (same n) (ls A) (ls B) (fun x _ y => same_iff n x y)]
  constructor
  ·rintro ⟨⟨⟨⟨⟨h1, h2⟩, h3⟩, h4⟩, h5⟩, h6⟩
   rw [<- mk_eta A, <- mk_eta B, h1, h2, h3, h4, h5, h6]
  ·rintro rfl
   exact ⟨⟨⟨⟨⟨rfl, rfl⟩, rfl⟩, rfl⟩, rfl⟩, rfl⟩
def sgn (k : Int) : List UInt8 := if k = 0 then [38] else if k = 1 then [124] else if k = 2 then [33] else if k = 3 then [61] else if k = 5 then [62, 61] else if k = 6 then [60, 61] else if k = 8 then [126, 61] else if k = 7 then [61, 42] else []
abbrev pv (s : ByteArray) : List UInt8 := (pri false s).data.toList
def pieces (v : ByteArray) (l : List ByteArray) (f : ByteArray) : List UInt8 := jn 42 (pv v :: (l.map pv ++ [pv f]))
def text : (n : Nat) -> Fl n -> List UInt8
 | 0, t => Empty.elim t
 | n + 1, F => 40 :: ((if isSet (kd F) then sgn (kd F) ++ ((ls F).map (text n)).flatten else if kd F = 4 then (nm F).data.toList ++ 61 :: pieces (va F) (an F) (fi F) else (nm F).data.toList ++ (sgn (kd F) ++ pv (va F))) ++ [41])
def rdV (t : List UInt8) : Option ByteArray := if (und false ⟨t.toArray⟩).2 = 0 then some (und false ⟨t.toArray⟩).1 else none
def subs {n : Nat} (a : ByteArray) (all : List ByteArray) : Fl (n + 1) := mk 4 a (all.headD ⟨#[]⟩) all.tail.dropLast (all.getLastD ⟨#[]⟩) []
def rdVals {n : Nat} (k : Int) (a : ByteArray) (t : List UInt8) : Option (Fl (n + 1)) :=
 if k ≠ 3 \/ 42 ∉ t then (rdV t).map fun v => mk k a v [] ⟨#[]⟩ []
 else if t = [42] then some (mk 7 a ⟨#[]⟩ [] ⟨#[]⟩ [])
 else if 5 < t.count 42 then none
 else (mp rdV (spl 42 t)).map (subs a)
def kindOf (l : List UInt8) : List UInt8 × Int :=
 if l.getLast? = some 62 then (l.dropLast, 5) else if l.getLast? = some 60 then (l.dropLast, 6) else if l.getLast? = some 126 then (l.dropLast, 8) else (l, 3)
def rdC {n : Nat} (l : List UInt8) : Option (Fl (n + 1)) := match cutB 61 l with
 | none => none
 | some (a, t) => rdVals (kindOf a).2 ⟨(kindOf a).1.toArray⟩ t
def rdL {α : Type} (rd : List UInt8 -> Option (α × List UInt8)) : Nat -> List UInt8 -> Option (List α × List UInt8)
 | 0, l => if l.head? = some 40 then none else some ([], l)
 | r + 1, l => if l.head? = some 40 then match rd l with
   | none => none
   | some (x, l') => (rdL rd r l').map fun q => (x :: q.1, q.2)
  else some ([], l)
def setK (s : UInt8) : Option Int := if s = 38 then some 0 else if s = 124 then some 1 else if s = 33 then some 2 else none
def rdB {n : Nat} (rd : List UInt8 -> Option (Fl n × List UInt8)) (r : List UInt8) : Option (Fl (n + 1) × List UInt8) := match r.head?.bind setK with
 | some k => (rdL rd 8 r.tail).map fun q => (mk k ⟨#[]⟩ ⟨#[]⟩ [] ⟨#[]⟩ q.1, q.2)
 | none => match cutB 41 r with
  | none => none
  | some (p, _) => (rdC p).map fun F => (F, r.drop p.length)
def rdF : (k : Nat) -> List UInt8 -> Option (Fl (k + 2) × List UInt8)
 | 0, _ => none
 | k + 1, l => if l.head? = some 40 then match rdB (rdF k) l.tail with
   | none => none
   | some (F, r) => if r.head? = some 41 /\ fitF F = true then some (F, r.tail) else none
  else none
end Go.Proofs.YtmenllnokgjdlaaGreatDoor.Fp
/-
 What package dn's text answers: has, next, end, piece; and what a byte may be: isDigit, isLetter, fits, isWord, isNumber. Conditions: none.
-/
namespace Go.Proofs.YtmenllnokgjdlaaGreatDoor.D
open Go Go.RowKit Dp
attribute [local go_sem] Oper.semAt_some
theorem H_ {p : Prop} (h : p) : Hid p := h
theorem un {p : Prop} (h : Hid p) : p := h
theorem lt_cell {w : World} {a : Addr} {v : Value} (h : w.cell? a = some v) : a.block < w.heap.size := by
 rcases Nat.lt_or_ge a.block w.heap.size with h' | h'
 ·exact h'
 ·simp [World.cell?, Array.getElem?_eq_none h'] at h
theorem beq_u8 (x y : UInt8) (h : x ≠ y) : ((x.toNat : Int) == y.toNat) = false := by
 rw [beq_eq_false_iff_ne]
 intro e
 exact h (UInt8.toNat.inj (by omega))
theorem beq_int (x y : UInt8) : ((x.toNat : Int) == y.toNat) = decide (x = y) := by
 by_cases h : x = y
 ·rw [h]; simp
 ·rw [beq_u8 x y h, decide_eq_false h]
theorem drop_at {s : ByteArray} {j : Nat} (h : j < s.size) : s.data.toList.drop j = s[j] :: s.data.toList.drop (j + 1) := by
 rw [List.drop_eq_getElem_cons (by rw [Array.length_toList]; exact h)]
 rfl
theorem drop_out {s : ByteArray} {j : Nat} (h : ¬ j < s.size) : s.data.toList.drop j = [] :=
 List.drop_of_length_le (by rw [Array.length_toList]; show s.size <= j; omega)
abbrev tb (s : ByteArray) : Obj := .cells #[.string s] 282
theorem has_any (s : ByteArray) (p : Nat) (c : UInt8) (w : World) (hp : p < s.size) :
  Calls Tryz.prog 216 #[.agg #[.string s], .int .i64 p, .int .u8 c.toNat] w fun e w' => e = .returned (.bool (decide (s[p] = c))) /\ Below w.heap.size w w' := by
 have HB := H_ ((Below.refl w.heap.size w).alloc (Nat.le_refl _) (tb s))
 have hp' : (p : Int) < s.size := by omega
 have hb := beq_int s[p] c
 generalize decide (s[p] = c) = b at *
 go_enter Tryz.func216, Tryz.ntmps216
 go_wp2
 go_ret
 exact ⟨by rw [<- hb]; rfl, un HB⟩
theorem end_any (s : ByteArray) (w : World) :
  Calls Tryz.prog 214 #[.agg #[.string s]] w fun e w' => e = .returned (.int .i64 s.size) /\ Below w.heap.size w w' := by
 have HB := H_ ((Below.refl w.heap.size w).alloc (Nat.le_refl _) (tb s))
 go_enter Tryz.func214, Tryz.ntmps214
 go_wp2
 go_ret
 exact ⟨rfl, un HB⟩
def nx (s : ByteArray) (p : Nat) : Nat := if h : p < s.size then (if s[p] = 92 then min (p + 2) s.size else p + 1) else p
theorem nx_lt {s : ByteArray} {p : Nat} (h : p < s.size) : p < nx s p /\ nx s p <= s.size := by
 unfold nx
 rw [dif_pos h]
 split <;> omega
theorem next_any (s : ByteArray) (p : Nat) (w : World) (hs : s.size <= 10000) (hp : p < s.size) :
  Calls Tryz.prog 215 #[.agg #[.string s], .int .i64 p] w fun e w' => e = .returned (.int .i64 (nx s p : Nat)) /\ Below w.heap.size w w' := by
 have HB := H_ ((Below.refl w.heap.size w).alloc (Nat.le_refl _) (tb s))
 have H := H_ fun W => has_any s p 92 W hp
 have H2 := H_ fun W => end_any s W
 have Hx : Hid ((w.alloc (tb s)).cell? ⟨w.heap.size, 0, none⟩ = some (.string s)) := H_ (by rw [World.cell?_alloc_at _ _ _ _ rfl]; rfl)
 unfold nx
 rw [dif_pos hp]
 have hp1 : (p : Int) <= 10000 := by omega
 by_cases h : s[p] = 92
 ·rw [if_pos h]
  rw [decide_eq_true h] at H
  clear h
  go_enter Tryz.func215, Tryz.ntmps215
  go_wp2_with fail
  refine ((un H) _).mono ?_
  rintro e w1 ⟨rfl, hb⟩
  have HB1 := H_ ((un HB).trans (hb.mono (by simp)))
  have c1 : w1.cell? ⟨w.heap.size, 0, none⟩ = some (.string s) := (hb.cell (lt_cell (un Hx))).trans (un Hx)
  clear hb
  go_wp2_with fail
  refine ((un H2) _).mono ?_
  rintro e w2 ⟨rfl, hb⟩
  have HB2 := H_ ((un HB1).trans (hb.mono (un HB1).size))
  clear hb
  go_wp2
  all_goals go_ret
  all_goals exact ⟨by simp; omega, un HB2⟩
 ·rw [if_neg h]
  rw [decide_eq_false h] at H
  clear h
  go_enter Tryz.func215, Tryz.ntmps215
  go_wp2_with fail
  refine ((un H) _).mono ?_
  rintro e w1 ⟨rfl, hb⟩
  have HB1 := H_ ((un HB).trans (hb.mono (by simp)))
  clear hb
  go_wp2
  go_ret
  exact ⟨by simp, un HB1⟩
theorem piece_any (s : ByteArray) (a b : Nat) (w : World) (hab : a <= b) (hb : b <= s.size) :
  Calls Tryz.prog 217 #[.agg #[.string s], .int .i64 a, .int .i64 b] w fun e w' => e = .returned (.string (s.extract a b)) /\ Below w.heap.size w w' := by
 have HB := H_ ((Below.refl w.heap.size w).alloc (Nat.le_refl _) (tb s))
 have h1 : (a : Int) <= b := by omega
 have h2 : (b : Int) <= s.size := by omega
 go_enter Tryz.func217, Tryz.ntmps217
 go_wp2
 go_ret
 exact ⟨rfl, un HB⟩
theorem isDigit_any (x : UInt8) (w : World) :
  Calls Tryz.prog 211 #[.int .u8 x.toNat] w fun e w' => e = .returned (.bool (dig x)) /\ w' = w := by
 unfold dig
 by_cases h1 : 48 <= x.toNat
 ·have k1 : (48 : Int) <= x.toNat := by omega
  rw [decide_eq_true h1, Bool.true_and]
  by_cases h2 : x.toNat <= 57
  ·have k2 : (x.toNat : Int) <= 57 := by omega
   rw [decide_eq_true h2]
   clear h1 h2
   go_enter Tryz.func211, Tryz.ntmps211
   go_wp2
   go_ret
   exact ⟨rfl, rfl⟩
  ·have k2 : ¬ (x.toNat : Int) <= 57 := by omega
   rw [decide_eq_false h2]
   clear h1 h2
   go_enter Tryz.func211, Tryz.ntmps211
   go_wp2
   go_ret
   exact ⟨rfl, rfl⟩
 ·have k1 : ¬ (48 : Int) <= x.toNat := by omega
  rw [decide_eq_false h1, Bool.false_and]
  clear h1
  go_enter Tryz.func211, Tryz.ntmps211
  go_wp2
  go_ret
  exact ⟨rfl, rfl⟩
theorem isLetter_any (x : UInt8) (w : World) :
  Calls Tryz.prog 212 #[.int .u8 x.toNat] w fun e w' => e = .returned (.bool (ltr x)) /\ w' = w := by
 have H : ∀ b, ltr x = b -> Hid (ltr x = b) := fun b h => h
 by_cases h1 : 65 <= x.toNat
 ·have k1 : (65 : Int) <= x.toNat := by omega
  by_cases h2 : x.toNat <= 90
  ·have k2 : (x.toNat : Int) <= 90 := by omega
   rw [show ltr x = true by unfold ltr; simp; omega]
   clear H h1 h2
   go_enter Tryz.func212, Tryz.ntmps212
   go_wp2
   go_ret
   exact ⟨rfl, rfl⟩
  ·have k2 : ¬ (x.toNat : Int) <= 90 := by omega
   by_cases h3 : 97 <= x.toNat
   ·have k3 : (97 : Int) <= x.toNat := by omega
    by_cases h4 : x.toNat <= 122
    ·have k4 : (x.toNat : Int) <= 122 := by omega
     rw [show ltr x = true by unfold ltr; simp; omega]
     clear H h1 h2 h3 h4
     go_enter Tryz.func212, Tryz.ntmps212
     go_wp2
     go_ret
     exact ⟨rfl, rfl⟩
    ·have k4 : ¬ (x.toNat : Int) <= 122 := by omega
     rw [show ltr x = false by unfold ltr; simp; omega]
     clear H h1 h2 h3 h4
     go_enter Tryz.func212, Tryz.ntmps212
     go_wp2
     go_ret
     exact ⟨rfl, rfl⟩
   ·have k3 : ¬ (97 : Int) <= x.toNat := by omega
    rw [show ltr x = false by unfold ltr; simp; omega]
    clear H h1 h2 h3
    go_enter Tryz.func212, Tryz.ntmps212
    go_wp2
    go_ret
    exact ⟨rfl, rfl⟩
 ·have k1 : ¬ (65 : Int) <= x.toNat := by omega
  have k3 : ¬ (97 : Int) <= x.toNat := by omega
  rw [show ltr x = false by unfold ltr; simp; omega]
  clear H h1
  go_enter Tryz.func212, Tryz.ntmps212
  go_wp2
  go_ret
  exact ⟨rfl, rfl⟩
theorem fits_ahead (x : UInt8) (w : World) :
  Calls Tryz.prog 192 #[.int .i64 0, .int .u8 x.toNat] w fun e w' => e = .returned (.bool (ltr x)) /\ w' = w := by
 have H := H_ fun W => isLetter_any x W
 generalize ltr x = b at *
 go_enter Tryz.func192, Tryz.ntmps192
 go_wp2_with fail
 refine ((un H) _).mono ?_
 rintro e w1 ⟨rfl, rfl⟩
 go_wp2
 go_ret
 exact ⟨rfl, rfl⟩
theorem fits_behind (x : UInt8) (w : World) :
  Calls Tryz.prog 192 #[.int .i64 1, .int .u8 x.toNat] w fun e w' => e = .returned (.bool (fit x)) /\ w' = w := by
 have H := H_ fun W => isLetter_any x W
 have H2 := H_ fun W => isDigit_any x W
 have e0 : fit x = (dig x || x == 45 || ltr x) := rfl
 rw [e0]
 clear e0
 have hb := beq_int x 45
 rw [show (x == 45) = decide (x = 45) by rw [Bool.eq_iff_iff]; simp]
 have e45 : (((45 : UInt8).toNat : Nat) : Int) = 45 := rfl
 rw [e45] at hb
 generalize ltr x = b at *
 generalize dig x = b2 at *
 cases b2
 ·cases h : decide (x = 45)
  ·rw [h] at hb
   clear h
   go_enter Tryz.func192, Tryz.ntmps192
   go_wp2_with fail
   refine ((un H2) _).mono ?_
   rintro e w1 ⟨rfl, rfl⟩
   go_wp2_with fail
   refine ((un H) _).mono ?_
   rintro e w1 ⟨rfl, rfl⟩
   go_wp2
   go_ret
   exact ⟨rfl, rfl⟩
  ·rw [h] at hb
   clear h
   go_enter Tryz.func192, Tryz.ntmps192
   go_wp2_with fail
   refine ((un H2) _).mono ?_
   rintro e w1 ⟨rfl, rfl⟩
   go_wp2
   go_ret
   exact ⟨rfl, rfl⟩
 ·clear hb
  go_enter Tryz.func192, Tryz.ntmps192
  go_wp2_with fail
  refine ((un H2) _).mono ?_
  rintro e w1 ⟨rfl, rfl⟩
  go_wp2
  go_ret
  exact ⟨rfl, rfl⟩
theorem isWord_any (s : ByteArray) (w : World) (hs : s.size <= 1000) :
  Calls Tryz.prog 174 #[.string s] w fun e w' => e = .returned (.bool (word s.data.toList)) /\ w' = w := by
 by_cases h0 : s.size = 0
 ·obtain rfl : s = ⟨#[]⟩ := by
   cases s with
   | mk d => congr 1; exact Array.eq_empty_of_size_eq_zero h0
  rw [show word (ByteArray.mk #[]).data.toList = false from rfl]
  clear h0
  go_enter Tryz.func174, Tryz.ntmps174
  go_wp2
  go_loopw [3, 7] (fun m ix wr => m = .int .i64 0 /\ ix = .int .i64 0 /\ wr = w) (fun _ _ _ => 0)
  case atStart => exact ⟨rfl, rfl, rfl⟩
  case round =>
   obtain ⟨rfl, rfl, rfl⟩ := hrel
   go_wp2
   go_ret
   exact ⟨rfl, rfl⟩
 ·have hne : (s.toList != ([] : List UInt8)) = true := by
   rw [bne_iff_ne, ByteArray.toList_eq]
   intro e
   exact h0 (by rw [show s.size = s.data.toList.length from (Array.length_toList).symm, e]; rfl)
  have H1 := H_ fun x W => fits_ahead x W
  have H2 := H_ fun x W => fits_behind x W
  obtain ⟨r, hr⟩ : ∃ r, word s.data.toList = r := ⟨_, rfl⟩
  rw [hr]
  have hps : 0 < s.size := by omega
  have hw : word s.data.toList = (ltr (s[0]'hps) && (s.data.toList.drop 1).all fit) := by
   have := drop_at (s := s) (j := 0) hps
   rw [List.drop_zero] at this
   rw [this]
   rfl
  have Hr := H_ hr
  have Hw := H_ hw
  have H0 := H_ h0
  clear hr hw h0
  go_enter Tryz.func174, Tryz.ntmps174
  go_wp2
  go_loopw [3, 7] (fun m ix wr => ∃ j : Nat, j <= s.size /\ m = .int .i64 (if j = 0 then 0 else 1) /\ ix = .int .i64 (j : Int) /\ (j = 0 \/ Hid ((s.data.toList.drop j).all fit = r)) /\ wr = w)
   (fun _ ix _ => s.size - (intOf ix).toNat)
  case atStart => exact ⟨0, Nat.zero_le _, rfl, rfl, .inl rfl, rfl⟩
  case round =>
   obtain ⟨j, hj, rfl, rfl, hd, rfl⟩ := hrel
   by_cases hlt : j < s.size
   ·have hlt' : (j : Int) < s.size := by omega
    have hj' : (j : Int) <= 1000 := by omega
    by_cases hj0 : j = 0
    ·subst hj0
     have hz : 0 < s.size := hlt
     obtain ⟨b, hb⟩ : ∃ b, ltr s[0] = b := ⟨_, rfl⟩
     have Hc := H_ ((un H1) s[0])
     rw [hb] at Hc
     have Hn : Hid ((b && (s.data.toList.drop 1).all fit) = r) := H_ (by rw [<- hb, <- un Hw]; exact un Hr)
     obtain ⟨y, hy⟩ : ∃ y, s[0] = y := ⟨_, rfl⟩
     rw [hy] at Hc
     clear hb hd
     cases b
     ·obtain rfl : r = false := by rw [<- un Hn]; rfl
      go_wp2_with fail
      refine ((un Hc) _).mono ?_
      rintro e w1 ⟨rfl, rfl⟩
      go_wp2
      go_ret
      exact ⟨rfl, rfl⟩
     ·go_wp2_with fail
      refine ((un Hc) _).mono ?_
      rintro e w1 ⟨rfl, rfl⟩
      go_wp2
      go_roundw
      case rel => exact ⟨1, by omega, by simp, by simp, .inr (by have := un Hn; rw [Bool.true_and] at this; exact this), by first | rfl | trivial⟩
      case measure => simp [intOf]; omega
    ·have hd := hd.resolve_left hj0
     obtain ⟨b, hb⟩ : ∃ b, fit s[j] = b := ⟨_, rfl⟩
     have Hc := H_ ((un H2) s[j])
     rw [hb] at Hc
     have Hn : Hid ((b && (s.data.toList.drop (j + 1)).all fit) = r) := H_ (by rw [<- hb, <- List.all_cons, <- drop_at hlt]; exact un hd)
     have hjj : ((if j = 0 then 0 else 1 : Int)) = 1 := if_neg hj0
     obtain ⟨y, hy⟩ : ∃ y, s[j] = y := ⟨_, rfl⟩
     rw [hy] at Hc
     clear hb hd
     rw [hjj]
     clear hjj
     cases b
     ·obtain rfl : r = false := by rw [<- un Hn]; rfl
      go_wp2_with fail
      refine ((un Hc) _).mono ?_
      rintro e w1 ⟨rfl, rfl⟩
      go_wp2
      go_ret
      exact ⟨rfl, rfl⟩
     ·go_wp2_with fail
      refine ((un Hc) _).mono ?_
      rintro e w1 ⟨rfl, rfl⟩
      go_wp2
      go_roundw
      case rel => exact ⟨j + 1, by omega, by simp, by simp, .inr (by have := un Hn; rw [Bool.true_and] at this; exact this), by first | rfl | trivial⟩
      case measure => simp [intOf]; omega
   ·have hge : ¬ (j : Int) < s.size := by omega
    have hj0 : j ≠ 0 := by have := un H0; omega
    have hd := un (hd.resolve_left hj0)
    rw [drop_out hlt] at hd
    obtain rfl : r = true := by rw [<- hd]; rfl
    clear hd
    go_wp2
    go_ret
    exact ⟨by simpa using hne, rfl⟩
theorem num_iff (l : List UInt8) : num l = (l.all dig && (l == [48] || (l != [] && l.head? != some 48))) := by
 match l with
 | [] => rfl
 | [x] =>
  rw [num]
  by_cases h : x = 48
  ·subst h; rfl
  ·have e1 : (([x] : List UInt8) == [48]) = false := by simpa using h
   simp [h]
 | x :: y :: r =>
  rw [num]
  ·have e1 : ((x :: y :: r : List UInt8) == [48]) = false := by simp
   rw [e1, Bool.false_or]
   by_cases h : x = 48
   ·subst h; simp
   ·have e2 : (x != 48) = true := by simpa using h
    have e3 : ((x :: y :: r : List UInt8).head? != some 48) = true := by simpa using h
    have e4 : ((x :: y :: r : List UInt8) != []) = true := by simp
    rw [e2, e3, e4, List.all_cons]
    simp
  ·simp
theorem isNumber_any (s : ByteArray) (w : World) (hs : s.size <= 1000) :
  Calls Tryz.prog 194 #[.string s] w fun e w' => e = .returned (.bool (num s.data.toList)) /\ w' = w := by
 have H := H_ fun x W => isDigit_any x W
 obtain ⟨r, hr⟩ : ∃ r, s.data.toList.all dig = r := ⟨_, rfl⟩
 rw [num_iff, hr]
 have Hr := H_ hr
 clear hr
 go_enter Tryz.func194, Tryz.ntmps194
 go_wp2
 go_loopw [6] (fun ix wr => ∃ j : Nat, j <= s.size /\ ix = .int .i64 (j : Int) /\ Hid ((s.data.toList.drop j).all dig = r) /\ wr = w)
  (fun ix _ => s.size - (intOf ix).toNat)
 case atStart => exact ⟨0, Nat.zero_le _, rfl, by rw [List.drop_zero]; exact Hr, rfl⟩
 case round =>
  obtain ⟨j, hj, rfl, hd, rfl⟩ := hrel
  by_cases hlt : j < s.size
  ·have hlt' : (j : Int) < s.size := by omega
   have hj' : (j : Int) <= 1000 := by omega
   obtain ⟨b, hb⟩ : ∃ b, dig s[j] = b := ⟨_, rfl⟩
   have Hc := H_ ((un H) s[j])
   rw [hb] at Hc
   have Hn : Hid ((b && (s.data.toList.drop (j + 1)).all dig) = r) := H_ (by rw [<- hb, <- List.all_cons, <- drop_at hlt]; exact un hd)
   obtain ⟨y, hy⟩ : ∃ y, s[j] = y := ⟨_, rfl⟩
   rw [hy] at Hc
   clear hb hd
   cases b
   ·obtain rfl : r = false := by rw [<- un Hn]; rfl
    go_wp2_with fail
    refine ((un Hc) _).mono ?_
    rintro e w1 ⟨rfl, rfl⟩
    go_wp2
    go_ret
    exact ⟨by rw [Bool.false_and]; rfl, rfl⟩
   ·go_wp2_with fail
    refine ((un Hc) _).mono ?_
    rintro e w1 ⟨rfl, rfl⟩
    go_wp2
    go_roundw
    case rel => exact ⟨j + 1, by omega, by simp, by have := un Hn; rw [Bool.true_and] at this; exact this, by first | rfl | trivial⟩
    case measure => simp [intOf]; omega
  ·have hge : ¬ (j : Int) < s.size := by omega
   have hd := un hd
   rw [drop_out hlt] at hd
   obtain rfl : r = true := by rw [<- hd]; rfl
   clear hd Hr H
   have HT : Hid (s.toList = s.data.toList) := H_ (ByteArray.toList_eq s)
   cases h1 : (s.toList == ([48] : List UInt8))
   ·have E1 : Hid ((s.data.toList == ([48] : List UInt8)) = false) := H_ (by rw [<- un HT]; exact h1)
    cases h2 : (s.toList != ([] : List UInt8))
    ·have h2' : s.toList = [] := by simpa using h2
     obtain rfl : s = ⟨#[]⟩ := by
      cases s with
      | mk d => congr 1; exact Array.eq_empty_of_size_eq_zero (by rw [<- Array.length_toList, show d.toList = [] from (un HT).symm.trans h2']; rfl)
     clear h1 h2 h2' E1 HT hlt
     go_wp2
     go_ret
     exact ⟨rfl, rfl⟩
    ·have E2 : Hid ((s.data.toList != ([] : List UInt8)) = true) := H_ (by rw [<- un HT]; exact h2)
     have hpos : 0 < s.size := by
      rcases Nat.eq_zero_or_pos s.size with h | h
      ·exfalso
       rw [bne_iff_ne, un HT] at h2
       exact h2 (List.length_eq_zero_iff.1 (by rw [Array.length_toList]; exact h))
      ·exact h
     have hh : s.data.toList.head? = some s[0] := by
      have := drop_at (s := s) (j := 0) hpos
      rw [List.drop_zero] at this
      rw [this]
      rfl
     have hpos' : (0 : Int) < s.size := by omega
     have hb := beq_int s[0] 48
     have e48 : (((48 : UInt8).toNat : Nat) : Int) = 48 := rfl
     rw [e48] at hb
     obtain ⟨y, hy⟩ : ∃ y, s[0] = y := ⟨_, rfl⟩
     rw [hy] at hb hh
     have E3 : Hid ((s.data.toList.head? != some 48) = !decide (y = 48)) := H_ (by rw [hh, Bool.eq_iff_iff]; simp)
     have h2' : s.toList.isEmpty = false := by simpa using h2
     clear hh hlt hj e48 h2
     generalize decide (y = 48) = d at *
     cases d
     ·go_wp2
      go_ret
      exact ⟨by rw [un E1, un E2, un E3]; simp [bne, hb], rfl⟩
     ·go_wp2
      go_ret
      exact ⟨by rw [un E1, un E2, un E3]; simp [bne, hb], rfl⟩
   ·have E1 : Hid ((s.data.toList == ([48] : List UInt8)) = true) := H_ (by rw [<- un HT]; exact h1)
    go_wp2
    go_ret
    exact ⟨by rw [un E1]; rfl, rfl⟩
end Go.Proofs.YtmenllnokgjdlaaGreatDoor.D
/-
 What lies in memory of a filter: 'FNode'; and small laws on it. Conditions: none.
-/
namespace Go.Proofs.YtmenllnokgjdlaaGreatDoor.F
open Go Go.RowKit Fp
structure Fd where
 k : Int
 a : ByteArray
 v : ByteArray
 sa : Option Addr
 sn : Nat
 sc : Nat
 f : ByteArray
 la : Option Addr
 ln : Nat
 lc : Nat
abbrev Fd.cs (d : Fd) : Array Value := #[.int .i64 d.k, .string d.a, .string d.v, .slice d.sa d.sn d.sc, .string d.f, .slice d.la d.ln d.lc]
abbrev Fd.val (d : Fd) : Value := .agg d.cs
abbrev Fd.obj (d : Fd) : Obj := .cells d.cs 25
abbrev zfd : Fd := ⟨0, ⟨#[]⟩, ⟨#[]⟩, none, 0, 0, ⟨#[]⟩, none, 0, 0⟩
structure At (W : World) (g o : Nat) (d : Fd) : Prop where
 c0 : W.cell? ⟨g, o, none⟩ = some (.int .i64 d.k)
 c1 : W.cell? ⟨g, o + 1, none⟩ = some (.string d.a)
 c2 : W.cell? ⟨g, o + 2, none⟩ = some (.string d.v)
 c3 : W.cell? ⟨g, o + 3, none⟩ = some (.slice d.sa d.sn d.sc)
 c4 : W.cell? ⟨g, o + 4, none⟩ = some (.string d.f)
 c5 : W.cell? ⟨g, o + 5, none⟩ = some (.slice d.la d.ln d.lc)
theorem At.of {W W' : World} {g o : Nat} {d : Fd} (h : At W g o d) (e : W'.heap[g]? = W.heap[g]?) : At W' g o d :=
 ⟨(World.cell?_of_block (w := W) (a := ⟨g, o, none⟩) e).trans h.c0, (World.cell?_of_block (w := W) (a := ⟨g, o + 1, none⟩) e).trans h.c1, (World.cell?_of_block (w := W) (a := ⟨g, o + 2, none⟩) e).trans h.c2, (World.cell?_of_block (w := W) (a := ⟨g, o + 3, none⟩) e).trans h.c3, (World.cell?_of_block (w := W) (a := ⟨g, o + 4, none⟩) e).trans h.c4, (World.cell?_of_block (w := W) (a := ⟨g, o + 5, none⟩) e).trans h.c5⟩
theorem At.lt {W : World} {g o : Nat} {d : Fd} (h : At W g o d) : g < W.heap.size := D.lt_cell h.c0
theorem At.box {W : World} {g : Nat} {d : Fd} (h : W.heap[g]? = some (.cells d.cs 25 (0, 0))) : At W g 0 d := by
 constructor <;> simp [World.cell?, h]
theorem At.new (W : World) (d : Fd) : At (W.alloc d.obj) W.heap.size 0 d := At.box (World.alloc_heap_new W _)
def Strs (W : World) (p : Nat -> Prop) (a : Option Addr) (xs : List ByteArray) : Prop := xs = [] \/ ∃ g off, a = some ⟨g, off, none⟩ /\ p g /\ ∀ (i : Nat) x, xs[i]? = some x -> W.cell? ⟨g, off + i, none⟩ = some (.string x)
theorem Strs.of {W W' : World} {p : Nat -> Prop} {a : Option Addr} {xs : List ByteArray} (h : Strs W p a xs) (hb : ∀ b, p b -> b < W.heap.size -> W'.heap[b]? = W.heap[b]?) : Strs W' p a xs := by
 rcases h with h | ⟨g, off, ha, hp, hx⟩
 ·exact .inl h
 ·exact .inr ⟨g, off, ha, hp, fun i x hi => (World.cell?_of_block (w := W) (a := ⟨g, off + i, none⟩) (hb g hp (D.lt_cell (hx i x hi)))).trans (hx i x hi)⟩
theorem Strs.imp {W : World} {p q : Nat -> Prop} {a : Option Addr} {xs : List ByteArray} (h : Strs W p a xs) (hb : ∀ b, p b -> b < W.heap.size -> q b) : Strs W q a xs := by
 rcases h with h | ⟨g, off, ha, hp, hx⟩
 ·exact .inl h
 ·cases xs with
  | nil => exact .inl rfl
  | cons y ys => exact .inr ⟨g, off, ha, hb g hp (D.lt_cell (hx 0 y rfl)), hx⟩
theorem Strs.at {W : World} {p : Nat -> Prop} {a : Option Addr} {xs : List ByteArray} (h : Strs W p a xs) {i : Nat} (hi : i < xs.length) : ∃ g off, a = some ⟨g, off, none⟩ /\ W.cell? ⟨g, off + i, none⟩ = some (.string xs[i]) := by
 rcases h with h | ⟨g, off, ha, _, hx⟩
 ·rw [h] at hi; cases hi
 ·exact ⟨g, off, ha, hx i _ (List.getElem?_eq_getElem hi)⟩
structure Sm {n : Nat} (F : Fl (n + 1)) : Prop where
 a : (nm F).size <= 2000
 v : (va F).size <= 2000
 f : (fi F).size <= 2000
 sn : (an F).length <= 1000
 s : ∀ x ∈ an F, x.size <= 2000
 ln : (ls F).length <= 1000
structure Is {n : Nat} (d : Fd) (F : Fl (n + 1)) : Prop where
 k : d.k = kd F
 a : d.a = nm F
 v : d.v = va F
 f : d.f = fi F
 sn : d.sn = (an F).length
 ln : d.ln = (ls F).length
def FNode : (n : Nat) -> World -> (Nat -> Prop) -> Fd -> Fl n -> Prop
 | 0, _, _, _, t => Empty.elim t
 | n + 1, W, p, d, F => Is d F /\ Sm F /\ Strs W p d.sa (an F) /\
   (ls F = [] \/ ∃ g off, d.la = some ⟨g, off, none⟩ /\ p g /\ ∀ (i : Nat) x, (ls F)[i]? = some x -> ∃ e : Fd, At W g (off + i * 6) e /\ FNode n W p e x)
theorem FNode.of : ∀ {n : Nat} {W W' : World} {p : Nat -> Prop} {d : Fd} {F : Fl n}, FNode n W p d F -> (∀ b, p b -> b < W.heap.size -> W'.heap[b]? = W.heap[b]?) -> FNode n W' p d F
 | 0, _, _, _, _, t, _, _ => Empty.elim t
 | n + 1, W, W', p, d, F, ⟨h1, h2, h3, h4⟩, hb => by
  refine ⟨h1, h2, h3.of hb, ?_⟩
  rcases h4 with h | ⟨g, off, ha, hp, hx⟩
  ·exact .inl h
  ·refine .inr ⟨g, off, ha, hp, fun i x hi => ?_⟩
   obtain ⟨e, he, hN⟩ := hx i x hi
   exact ⟨e, he.of (hb g hp he.lt), FNode.of hN hb⟩
theorem FNode.imp : ∀ {n : Nat} {W : World} {p q : Nat -> Prop} {d : Fd} {F : Fl n}, FNode n W p d F -> (∀ b, p b -> b < W.heap.size -> q b) -> FNode n W q d F
 | 0, _, _, _, _, t, _, _ => Empty.elim t
 | n + 1, W, p, q, d, F, ⟨h1, h2, h3, h4⟩, hb => by
  refine ⟨h1, h2, h3.imp hb, ?_⟩
  rcases h4 with h | ⟨g, off, ha, hp, hx⟩
  ·exact .inl h
  ·cases hks : ls F with
   | nil => exact .inl rfl
   | cons y ys =>
    rw [hks] at hx
    obtain ⟨_, h0, _⟩ := hx 0 y rfl
    refine .inr ⟨g, off, ha, hb g hp h0.lt, fun i x hi => ?_⟩
    obtain ⟨e, he, hN⟩ := hx i x hi
    exact ⟨e, he, FNode.imp hN hb⟩
theorem FNode.below {n : Nat} {W W' : World} {p : Nat -> Prop} {d : Fd} {F : Fl n} (h : FNode n W p d F) (hb : Below W.heap.size W W') : FNode n W' p d F := h.of fun b _ hl => hb.block b hl
theorem FNode.is {n : Nat} {W : World} {p : Nat -> Prop} {d : Fd} {F : Fl (n + 1)} (h : FNode (n + 1) W p d F) : Is d F := h.1
theorem FNode.sm {n : Nat} {W : World} {p : Nat -> Prop} {d : Fd} {F : Fl (n + 1)} (h : FNode (n + 1) W p d F) : Sm F := h.2.1
theorem FNode.strs {n : Nat} {W : World} {p : Nat -> Prop} {d : Fd} {F : Fl (n + 1)} (h : FNode (n + 1) W p d F) : Strs W p d.sa (an F) := h.2.2.1
theorem FNode.kids {n : Nat} {W : World} {p : Nat -> Prop} {d : Fd} {F : Fl (n + 1)} (h : FNode (n + 1) W p d F) : ∃ g off, (d.la = some ⟨g, off, none⟩ \/ ls F = []) := by
 rcases h.2.2.2 with h | ⟨g, off, ha, _⟩
 ·exact ⟨0, 0, .inr h⟩
 ·exact ⟨g, off, .inl ha⟩
theorem FNode.kid {n : Nat} {W : World} {p : Nat -> Prop} {d : Fd} {F : Fl (n + 1)} (h : FNode (n + 1) W p d F) {g off : Nat} (ha : d.la = some ⟨g, off, none⟩) {i : Nat} (hi : i < (ls F).length) : ∃ e : Fd, At W g (off + i * 6) e /\ FNode n W p e (ls F)[i] := by
 rcases h.2.2.2 with h | ⟨g', off', ha', _, hx⟩
 ·rw [h] at hi; cases hi
 ·rw [ha] at ha'
  cases ha'
  exact hx i _ (List.getElem?_eq_getElem hi)
end Go.Proofs.YtmenllnokgjdlaaGreatDoor.F
/-
 The library's strings.Join and strings.Clone at this program: its own numbers held against the contracts' bodies; what a call of each does. Conditions: the bounds that each statement names.
-/
namespace Go.Proofs.YtmenllnokgjdlaaGreatDoor
open Go.Shelf Go.RowKit
def lays156_ren : Go.Shelf.Ren := ⟨fun | 156 => 113 | 165 => 139 | 166 => 140 | 169 => 141 | 240 => 162 | 241 => 163 | 276 => 182 | 277 => 183 | n => n, fun | 31 => 22 | 9 => 9 | 3 => 3 | 4 => 4 | 0 => 0 | 20 => 20 | 72 => 220 | 76 => 222 | 70 => 218 | 37 => 152 | 75 => 52 | 127 => 246 | 164 => 132 | 5 => 5 | 80 => 224 | n => n, fun | n => n⟩
theorem lays156 : Go.Proofs.Lays.n156 Tryz.prog lays156_ren := {
 mixed := by kernel_rfl
 f156 := Tryz.func113.trans (congrArg some (by kernel_rfl))
 f165 := Tryz.func139.trans (congrArg some (by kernel_rfl))
 f166 := Tryz.func140.trans (congrArg some (by kernel_rfl))
 f169 := Tryz.func141.trans (congrArg some (by kernel_rfl))
 f240 := Tryz.func162.trans (congrArg some (by kernel_rfl))
 f241 := Tryz.func163.trans (congrArg some (by kernel_rfl))
 f276 := Tryz.func182.trans (congrArg some (by kernel_rfl))
 f277 := Tryz.func183.trans (congrArg some (by kernel_rfl))
 t0 := Tryz.underlying0
 a0 := Tryz.isAgg0
 z0 := Tryz.sizeOf0
 v0 := Tryz.zeroValue0
 t3 := Tryz.underlying3
 a3 := Tryz.isAgg3
 z3 := Tryz.sizeOf3
 v3 := Tryz.zeroValue3
 t4 := Tryz.underlying4
 a4 := Tryz.isAgg4
 z4 := Tryz.sizeOf4
 v4 := Tryz.zeroValue4
 t9 := Tryz.underlying9
 a9 := Tryz.isAgg9
 z9 := Tryz.sizeOf9
 v9 := Tryz.zeroValue9
 t20 := Tryz.underlying20
 a20 := Tryz.isAgg20
 z20 := Tryz.sizeOf20
 v20 := Tryz.zeroValue20
 t31 := Tryz.underlying22
 a31 := Tryz.isAgg22
 z31 := Tryz.sizeOf22
 v31 := Tryz.zeroValue22
 t37 := Tryz.underlying152
 a37 := Tryz.isAgg152
 z37 := Tryz.sizeOf152
 v37 := Tryz.zeroValue152
 t70 := Tryz.underlying218
 a70 := Tryz.isAgg218
 z70 := Tryz.sizeOf218
 v70 := Tryz.zeroValue218
 t72 := Tryz.underlying220
 a72 := Tryz.isAgg220
 z72 := Tryz.sizeOf220
 v72 := Tryz.zeroValue220
 t75 := Tryz.underlying52
 a75 := Tryz.isAgg52
 z75 := Tryz.sizeOf52
 v75 := Tryz.zeroValue52
 t76 := Tryz.underlying222
 a76 := Tryz.isAgg222
 z76 := Tryz.sizeOf222
 v76 := Tryz.zeroValue222
 t127 := Tryz.underlying246
 a127 := Tryz.isAgg246
 z127 := Tryz.sizeOf246
 v127 := Tryz.zeroValue246
 t164 := Tryz.underlying132
 a164 := Tryz.isAgg132
 z164 := Tryz.sizeOf132
 v164 := Tryz.zeroValue132 }
theorem Builder_Extra_156 : Builder.Extra Tryz.prog lays156_ren := {
 sizeBuilder := by kernel_rfl
 liesBuilder := by kernel_rfl
 t5 := Tryz.underlying5
 a5 := Tryz.isAgg5
 z5 := Tryz.sizeOf5
 v5 := Tryz.zeroValue5
 infoByte := by kernel_rfl
 cellsByte := by kernel_rfl
 sizeByte := by kernel_rfl
 neB5 := by decide }
def laysM316_ren : Go.Shelf.Ren := ⟨fun | 316 => 146 | n => n, fun | 9 => 9 | 3 => 3 | 4 => 4 | 37 => 152 | 0 => 0 | 127 => 246 | 5 => 5 | n => n, fun | n => n⟩
theorem laysM316 : Go.Proofs.LaysM.n316 Tryz.prog laysM316_ren := {
 mixed := by kernel_rfl
 f316 := Tryz.func146.trans (congrArg some (by kernel_rfl))
 t0 := Tryz.underlying0
 a0 := Tryz.isAgg0
 z0 := Tryz.sizeOf0
 v0 := Tryz.zeroValue0
 t3 := Tryz.underlying3
 a3 := Tryz.isAgg3
 z3 := Tryz.sizeOf3
 v3 := Tryz.zeroValue3
 t4 := Tryz.underlying4
 a4 := Tryz.isAgg4
 z4 := Tryz.sizeOf4
 v4 := Tryz.zeroValue4
 t9 := Tryz.underlying9
 a9 := Tryz.isAgg9
 z9 := Tryz.sizeOf9
 v9 := Tryz.zeroValue9
 t37 := Tryz.underlying152
 a37 := Tryz.isAgg152
 z37 := Tryz.sizeOf152
 v37 := Tryz.zeroValue152
 t127 := Tryz.underlying246
 a127 := Tryz.isAgg246
 z127 := Tryz.sizeOf246
 v127 := Tryz.zeroValue246
 t5 := Tryz.underlying5
 a5 := Tryz.isAgg5
 z5 := Tryz.sizeOf5
 v5 := Tryz.zeroValue5
 i0 := by kernel_rfl
 i3 := by kernel_rfl
 i4 := by kernel_rfl
 i5 := by kernel_rfl
 i9 := by kernel_rfl
 i37 := by kernel_rfl
 i127 := by kernel_rfl }
theorem join_some (bk o c : Nat) (xs : List ByteArray) (sep : ByteArray) (w : World) (hcells : ∀ (j : Nat) x, xs[j]? = some x -> w.cell? ⟨bk, o + j, none⟩ = some (.string x)) (hbk : bk < w.heap.size) (hN : xs.length <= 140737488355328) (hcap : xs.length <= c)
  (hlen : (Lib.join (xs.map (·.data.toList)) sep.data.toList).length <= 140737488355328) :
  Calls Tryz.prog 113 #[.slice (some ⟨bk, o, none⟩) xs.length c, .string sep] w fun e w' => e = .returned (.string ⟨(Lib.join (xs.map (·.data.toList)) sep.data.toList).toArray⟩) /\ Below w.heap.size w w' :=
 Any.strings_Join lays156 Builder_Extra_156 bk o c xs sep w hcells hbk hN hcap hlen
theorem clone0_any (s : ByteArray) (w : World) (hlim : s.size <= 281474976710656) : Calls Tryz.prog 146 #[.string s] w fun e w' => e = .returned (.string s) /\ Below w.heap.size w w' :=
 Any.stringslite_Clone laysM316 s w hlim
end Go.Proofs.YtmenllnokgjdlaaGreatDoor
/-
 A range over a function whose iterator may write a block of its own, with or without a box for the loop's variable. Conditions: the fence that asks nothing.
-/
namespace Go.Proofs.YtmenllnokgjdlaaGreatDoor.F
open Go Go.RowKit Go.Shelf
structure But (b : Nat) (w w' : World) : Prop where
 os : w'.os = w.os
 tape : w'.tape = w.tape
 output : w'.output = w.output
 size : w.heap.size <= w'.heap.size
 block : ∀ k, k < w.heap.size -> k ≠ b -> w'.heap[k]? = w.heap[k]?
theorem But.refl (b : Nat) (w : World) : But b w w := ⟨rfl, rfl, rfl, Nat.le_refl _, fun _ _ _ => rfl⟩
theorem But.trans {b : Nat} {u v w : World} (h : But b u v) (k : But b v w) : But b u w :=
 ⟨k.os.trans h.os, k.tape.trans h.tape, k.output.trans h.output, Nat.le_trans h.size k.size, fun i hi hn => (k.block i (Nat.lt_of_lt_of_le hi h.size) hn).trans (h.block i hi hn)⟩
theorem But.of_below {b : Nat} {w w' : World} (h : Below w.heap.size w w') : But b w w' := ⟨h.os, h.tape, h.output, h.size, fun k hk _ => h.block k hk⟩
theorem But.alloc {b : Nat} {u w : World} (h : But b u w) (o : Obj) : But b u (w.alloc o) := h.trans (But.of_below ((Below.refl _ _).alloc (Nat.le_refl _) _))
theorem But.setCell {b : Nat} {u w : World} (h : But b u w) (o : Nat) (v : Value) : But b u (w.setCell ⟨b, o, none⟩ v) :=
 ⟨h.os, h.tape, h.output, by simpa using h.size, fun k hk hn => (Below.heap_setCell _ _ _ _ hn).trans (h.block k hk hn)⟩
theorem But.putObj (b : Nat) (W : World) (o : Obj) : But b W (W.putObj b o) := ⟨rfl, rfl, rfl, by simp, fun _ _ hn => World.putObj_heap_other hn⟩
def Two (p q : Nat) (W W' : World) : Prop := W'.heap[p]? = W.heap[p]? /\ W'.heap[q]? = W.heap[q]?
theorem Two.trans {p q : Nat} {A B C : World} (h : Two p q A B) (k : Two p q B C) : Two p q A C := ⟨k.1.trans h.1, k.2.trans h.2⟩
theorem round_any {P : Program} {m m' l : Nat} {f : FuncId} {tmps : Array Value} {assign body : Code} {w : World} {R : Ending -> World -> Prop} (h : RoundIn Fence.wide m P l f tmps assign body w R) : RoundIn Fence.wide m' P l f tmps assign body w R :=
 ⟨h.1, fun c cs _ => h.2 c cs (room_wide _)⟩
def roundEnd {σ : Type} (D : Nat) (Kp : World -> World -> Prop) (I : σ -> World -> Prop) (Ix : Code -> σ -> World -> Prop) (s : σ) (g gx : Prop) (W : World) : Exit -> Act -> World -> Prop
 | .normal, _, W' => g /\ Two D (D + 1) W W' /\ Kp W W' /\ I s W'
 | .ret, _, W' => gx /\ Two D (D + 1) W W' /\ Ix .ret s W'
 | .exit id, _, W' => gx /\ Two D (D + 1) W W' /\ Ix (.exit id) s W'
 | .goto t, _, W' => gx /\ Two D (D + 1) W W' /\ Ix (.goto t) s W'
 | .panic _, _, _ => False
 | .outgrown, _, _ => False
theorem range_own {P : Program} {α σ : Type} {g : Operand} {ps : Array Tmp} {assign body : Code} {Q : Exit -> Act -> World -> Prop} {a : Act} {w : World}
  {gf : Nat} {lb : Array Value} (hg : a.eval g = .func (.func gf) #[] lb) (eg : ∀ args w, (callFunc gf args).run P w = .ok (.enter gf args) w)
  (encs : α -> Array Value) (hps : ∀ x, (encs x).size = ps.size)
  (Kp Ab : World -> World -> Prop) (I : σ -> World -> Prop) (Ix : Code -> σ -> World -> Prop) (Pr : σ -> α -> World -> Prop) (nx : σ -> α -> σ) (s0 : σ) (S : σ -> World -> Prop) (Sp : σ -> Prop) (G Gx : σ -> α -> Prop)
  (wa : α -> World -> World) (aa : α -> World -> Act) (hwa : ∀ x W, Below W.heap.size W (wa x W))
  (hKt : ∀ {A B C : World}, Kp A B -> Kp B C -> Kp A C) (hKp : ∀ A B, But (w.heap.size + 1) A B -> Kp A B)
  (hAb : ∀ A B, Ab A B -> w.heap.size + 2 <= A.heap.size -> Two w.heap.size (w.heap.size + 1) A B)
  (hI : ∀ s A B, But (w.heap.size + 1) A B -> I s A -> I s B) (hAI : ∀ s A B, Ab A B -> w.heap.size + 2 <= A.heap.size -> I s A -> I s B)
  (hIx : ∀ c s A B, But (w.heap.size + 1) A B -> Ix c s A -> Ix c s B) (hPr : ∀ s x A B, But (w.heap.size + 1) A B -> Pr s x A -> Pr s x B)
  (hS : ∀ s A B, But (w.heap.size + 1) A B -> S s A -> S s B) (h0 : I s0 w)
  (hiter : ∀ W : World, But (w.heap.size + 1) w W -> W.heap.size = w.heap.size + 2 -> ∀ J Jx : σ -> World -> Prop, (∀ s A B, Ab A B -> J s A -> J s B) -> (∀ s A, J s A -> I s A /\ w.heap.size + 2 <= A.heap.size) ->
   (∀ s x W' m, J s W' -> Pr s x W' -> YieldAt Fence.wide m P (w.heap.size + 1) (encs x) W' fun e W2 => (e = .returned (.bool true) /\ G s x /\ J (nx s x) W2 /\ Kp W' W2) \/ (e = .returned (.bool false) /\ Gx s x /\ Jx (nx s x) W2)) ->
   J s0 W -> CallsIn Fence.wide 6 P gf (#[.func (.yield (w.heap.size + 1)) #[] #[]] ++ lb) W fun e W' => (∃ v, e = .returned v) /\ ((∃ s, S s W' /\ J s W') \/ (∃ s, Sp s /\ Jx s W')))
  (hassign : ∀ s x W (K : Act -> World -> Prop), I s W -> Pr s x W -> K (aa x W) (wa x W) ->
   assign.wpIn (Fence.wide.inRound (w.heap.size + 1)) 5 P (Exit.then K (fun _ _ _ => False)) { tmps := (ps.zip (encs x)).foldl (fun t (p, v) => t.setIfInBounds p v) a.tmps, defers := [] } W)
  (hbody : ∀ s x W0 W, I s W -> Pr s x W -> w.heap.size + 2 <= W0.heap.size -> But (w.heap.size + 1) (wa x W0) W -> I s W0 -> body.wpIn (Fence.wide.inRound (w.heap.size + 1)) 5 P (roundEnd w.heap.size Kp I Ix (nx s x) (G s x) (Gx s x) W) (aa x W0) W)
  (hdone : ∀ s W, S s W -> I s W -> W.heap[w.heap.size]? = some (.deferred (some [])) -> Q .normal { a with defers := { target := .collected w.heap.size, args := #[] } :: a.defers } W)
  (hstop : ∀ c s W, Sp s -> Ix c s W -> W.heap[w.heap.size]? = some (.deferred (some [])) -> c.wpIn Fence.wide 7 P Q { a with defers := { target := .collected w.heap.size, args := #[] } :: a.defers } W) :
  (Code.rangeFunc g ps assign body).wpIn Fence.wide 7 P Q a w := by
 refine wpIn_rangeFunc ?_
 intro fn hfn
 obtain ⟨rec, hrec⟩ : ∃ rec : LoopState -> Option Code -> Loop, rec = fun st pe => { state := st, pending := pe, fn, tmps := a.tmps, params := ps, assign, body, defers := w.heap.size } := ⟨_, rfl⟩
 obtain ⟨W1, hW1⟩ : ∃ W1, W1 = (w.alloc (.deferred (some []))).alloc (.loop (rec .ready none)) := ⟨_, rfl⟩
 have hL1 : W1.heap[w.heap.size + 1]? = some (.loop (rec .ready none)) := by
  rw [hW1]; have := World.alloc_heap_new (w.alloc (.deferred (some []))) (.loop (rec .ready none)); rwa [World.size_alloc] at this
 have hK1 : W1.heap[w.heap.size]? = some (.deferred (some [])) := by
  rw [hW1]; exact (Below.heap_alloc _ _ _ (by simp)).trans (World.alloc_heap_new w _)
 have hb1 : But (w.heap.size + 1) w W1 := by rw [hW1]; exact ((But.refl _ _).alloc _).alloc _
 have hz1 : W1.heap.size = w.heap.size + 2 := by rw [hW1]; simp
 refine ⟨w.heap.size + 1, [{ target := .collected w.heap.size, args := #[] }], W1, { target := .fn (.func gf) lb, args := #[.func (.yield (w.heap.size + 1)) #[] #[]] }, W1, gf,
  #[.func (.yield (w.heap.size + 1)) #[] #[]] ++ lb, W1, ?_, ?_, fun _ _ => trivial, ?_, fun _ => by omega, ?_⟩
 ·rw [hW1, hrec]; exact run_enterLoop_outer _ _ _ _ _
 ·simp only [resolve, hg]
  simp [go_sem]
 ·simp [invoke, go_sem, eg]
 ·refine (hiter W1 hb1 hz1
   (fun s W => I s W /\ W.heap[w.heap.size + 1]? = some (.loop (rec .ready none)) /\ W.heap[w.heap.size]? = some (.deferred (some [])))
   (fun s W => ∃ c, Ix c s W /\ W.heap[w.heap.size + 1]? = some (.loop (rec .done (some c))) /\ W.heap[w.heap.size]? = some (.deferred (some [])))
   (fun s A B hab hs => by
    have hlt := (Array.getElem?_eq_some_iff.1 hs.2.1).1
    obtain ⟨e1, e2⟩ := hAb A B hab (by omega)
    exact ⟨hAI s A B hab (by omega) hs.1, e2.trans hs.2.1, e1.trans hs.2.2⟩)
   (fun s A hs => ⟨hs.1, by have := (Array.getElem?_eq_some_iff.1 hs.2.1).1; omega⟩)
   ?_ ⟨hI _ _ _ hb1 h0, hL1, hK1⟩).mono ?_
  ·rintro s x W m ⟨hi, hl, hk⟩ hpr
   have hlt : w.heap.size + 1 < W.heap.size := (Array.getElem?_eq_some_iff.1 hl).1
   have hy := run_yield (P := P) (args := encs x) hl (by rw [hrec]; exact hps x)
   rw [hrec] at hy
   refine ⟨fn, _, assign, body, hy, round_any (roundIn_of_wpIn hfn (hassign s x W _ hi hpr ?_))⟩
   have hba0 : But (w.heap.size + 1) W (wa x W) := But.of_below (hwa x W)
   have hsame : (wa x W).heap[w.heap.size + 1]? = W.heap[w.heap.size + 1]? := (hwa x W).block _ hlt
   ·skip
    obtain ⟨Wa, hWa⟩ : ∃ Wa, Wa = wa x W := ⟨_, rfl⟩
    have hba : But (w.heap.size + 1) W Wa := by rw [hWa]; exact hba0
    have hla : Wa.heap[w.heap.size + 1]? = some (.loop (rec .ready none)) := by rw [hWa]; exact hsame.trans hl
    have hka : Wa.heap[w.heap.size]? = some (.deferred (some [])) := (hba.block _ (by omega) (by omega)).trans hk
    have hwb : But (w.heap.size + 1) (wa x W) Wa := by rw [hWa]; exact But.refl _ _
    rw [<- hWa]
    refine ⟨_, run_beginRound hla (by rw [hrec]), ?_⟩
    obtain ⟨Wb, hWb⟩ : ∃ Wb, Wb = Wa.putObj (w.heap.size + 1) (.loop { rec .ready none with state := .busy }) := ⟨_, rfl⟩
    have hbb : But (w.heap.size + 1) Wa Wb := by rw [hWb]; exact But.putObj _ _ _
    have hlb : Wb.heap[w.heap.size + 1]? = some (.loop { rec .ready none with state := .busy }) := by rw [hWb]; exact World.putObj_heap_same (Array.getElem?_eq_some_iff.1 hla).1
    have hkb : Wb.heap[w.heap.size]? = some (.deferred (some [])) := (hbb.block _ (Array.getElem?_eq_some_iff.1 hka).1 (by omega)).trans hka
    rw [<- hWb]
    refine wpIn_mono (hbody s x W Wb (hI _ _ _ (hba.trans hbb) hi) (hPr _ _ _ _ (hba.trans hbb) hpr) (by omega) (hwb.trans hbb) hi) ?_
    have fin : ∀ (jump : Option Code) (W3 : World), Two w.heap.size (w.heap.size + 1) Wb W3 ->
      (Instr.endRound (w.heap.size + 1) jump).run P W3 = .ok (.bool jump.isNone) (W3.putObj (w.heap.size + 1) (.loop (rec (if jump.isNone then .ready else .done) jump))) /\
      (W3.putObj (w.heap.size + 1) (.loop (rec (if jump.isNone then .ready else .done) jump))).heap[w.heap.size + 1]? = some (.loop (rec (if jump.isNone then .ready else .done) jump)) /\
      (W3.putObj (w.heap.size + 1) (.loop (rec (if jump.isNone then .ready else .done) jump))).heap[w.heap.size]? = some (.deferred (some [])) := fun jump W3 hk3 => by
     have hl3 := hk3.2.trans hlb
     have := run_endRound (P := P) jump hl3
     rw [hrec] at this ⊢
     exact ⟨this, World.putObj_heap_same (Array.getElem?_eq_some_iff.1 hl3).1, (World.putObj_heap_other (by omega)).trans (hk3.1.trans hkb)⟩
    rintro e a3 W3 hp
    cases e with
    | normal =>
     obtain ⟨hg3, hk3, hkp3, hi3⟩ := hp
     obtain ⟨hr, hl4, hk4⟩ := fin none W3 hk3
     exact ⟨_, _, hr, .inl ⟨rfl, hg3, ⟨hI _ _ _ (But.putObj _ _ _) hi3, hl4, hk4⟩, hKt (hKp _ _ (hba.trans hbb)) (hKt hkp3 (hKp _ _ (But.putObj _ _ _)))⟩⟩
    | ret =>
     obtain ⟨hg3, hk3, hi3⟩ := hp
     obtain ⟨hr, hl4, hk4⟩ := fin (some .ret) W3 hk3
     exact ⟨_, _, hr, .inr ⟨rfl, hg3, .ret, hIx _ _ _ _ (But.putObj _ _ _) hi3, hl4, hk4⟩⟩
    | exit id =>
     obtain ⟨hg3, hk3, hi3⟩ := hp
     obtain ⟨hr, hl4, hk4⟩ := fin (some (.exit id)) W3 hk3
     exact ⟨_, _, hr, .inr ⟨rfl, hg3, .exit id, hIx _ _ _ _ (But.putObj _ _ _) hi3, hl4, hk4⟩⟩
    | goto t =>
     obtain ⟨hg3, hk3, hi3⟩ := hp
     obtain ⟨hr, hl4, hk4⟩ := fin (some (.goto t)) W3 hk3
     exact ⟨_, _, hr, .inr ⟨rfl, hg3, .goto t, hIx _ _ _ _ (But.putObj _ _ _) hi3, hl4, hk4⟩⟩
    | panic ch => exact hp.elim
    | outgrown => exact hp.elim
  ·rintro e W2 ⟨⟨v, rfl⟩, (⟨s, hs, hi, hl, hk⟩ | ⟨s, hSp, c, hi, hl, hk⟩)⟩
   ·exact ⟨none, _, by have := run_endLoop (P := P) hl (by rw [hrec]; simp); rw [hrec] at this; exact this, hdone s _ (hS _ _ _ (But.putObj _ _ _) hs) (hI _ _ _ (But.putObj _ _ _) hi) ((World.putObj_heap_other (by omega)).trans hk)⟩
   ·exact ⟨some c, _, by have := run_endLoop (P := P) hl (by rw [hrec]; simp); rw [hrec] at this; exact this, hstop c s _ hSp (hIx _ _ _ _ (But.putObj _ _ _) hi) ((World.putObj_heap_other (by omega)).trans hk)⟩
end Go.Proofs.YtmenllnokgjdlaaGreatDoor.F
