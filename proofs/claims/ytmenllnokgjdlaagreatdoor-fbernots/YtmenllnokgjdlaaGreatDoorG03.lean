/- Several texts in one: CErrno, CTake, CPure. Each says what it proves, and its conditions. -/
import Derived.Test.YtmenllnokgjdlaaGreatDoorCErrs
import Derived.RangeFuncNested
set_option maxHeartbeats 2000000
set_option maxRecDepth 100000
/-
 What code.errnoOf answers at each error that package code makes. Conditions: the package-level variables hold what the program's text lays ('Glob').
-/
namespace Go.Proofs.YtmenllnokgjdlaaGreatDoor.C
open Go.RowKit Go.Extern.Stop Go.Stop Go.Extern
theorem H_ {p : Prop} (h : p) : Hid p := h
theorem un {p : Prop} (h : Hid p) : p := h
structure Ad where
 c : Addr
 e : Addr
 b : Addr
structure Glob (a : Ad) (w : World) : Prop where
 ty : w.cell? ⟨15, 0, none⟩ = some (.iface 180 (.agg #[.pointer (some ⟨29, 52, none⟩)]))
 cu : w.cell? ⟨27, 0, none⟩ = some (.iface 350 (.pointer (some a.c)))
 en : w.cell? ⟨26, 0, none⟩ = some (.iface 350 (.pointer (some a.e)))
 bi : w.cell? ⟨28, 0, none⟩ = some (.iface 350 (.pointer (some a.b)))
 ec : a.e ≠ a.c
 bc : a.b ≠ a.c
 be : a.b ≠ a.e
 hC : ∃ c t, w.heap[a.c.block]? = some (.cells c t (0, 0))
 hE : ∃ c t, w.heap[a.e.block]? = some (.cells c t (0, 0))
 hB : ∃ c t, w.heap[a.b.block]? = some (.cells c t (0, 0))
abbrev flt (k : Int) (a : Addr) : Value := .iface 344 (.agg #[.int .i64 k, .iface 350 (.pointer (some a))])
abbrev nos (k n : Int) : Value := .iface 344 (.agg #[.int .i64 k, .iface 347 (.agg #[.int .i32 n])])
def IsErr (a : Ad) (v : Value) : Prop := (∃ k, v = flt k a.c) \/ (∃ k, v = flt k a.e) \/ (∃ k, v = flt k a.b) \/ (∃ k n, v = nos k n)
end Go.Proofs.YtmenllnokgjdlaaGreatDoor.C
/-
 What code.signs.take lays: the signs of a text, and what they tell. Conditions: none.
-/
namespace Go.Proofs.YtmenllnokgjdlaaGreatDoor.C
open Go Go.RowKit
attribute [local go_sem] Oper.semAt_some
theorem run_next_at (w : World) (B : Nat) (s : ByteArray) (p : Nat) (ty : TypeId) (hB : w.heap[B]? = some (.stringIter s p)) (h : p < s.size) :
  (Instr.next (.pointer (some ⟨B, 0, none⟩)) true ty).run Tryz.prog w = .ok (.tuple #[.bool true, .int .i64 p, .int .i32 (Utf8.decode s p).1]) (w.putObj B (.stringIter s (p + (Utf8.decode s p).2))) := by
 simp only [Instr.next, getObj, setObj, Sem.run_bind, Sem.run, hB, Result.andThen, h, if_true]
 simp [goInt, World.putObj]
theorem run_next_over (w : World) (B : Nat) (s : ByteArray) (p : Nat) (ty : TypeId) (hB : w.heap[B]? = some (.stringIter s p)) (h : ¬ p < s.size) :
  (Instr.next (.pointer (some ⟨B, 0, none⟩)) true ty).run Tryz.prog w = .ok (.tuple #[.bool false]) w := by
 simp only [Instr.next, getObj, Sem.run_bind, Sem.run, hB, Result.andThen, h, if_false]
 simp
abbrev at' (s : ByteArray) (p : Nat) : UInt8 := s.data.toList.getD p 0
theorem get_at (s : ByteArray) (p : Nat) : s.get! p = at' s p := by
 show s.data[p]! = _
 simp [getElem!_def, List.getD_eq_getElem?_getD]
 cases s.data[p]? <;> rfl
theorem dec_ascii (s : ByteArray) (p : Nat) (h : (at' s p).toNat < 128) : Utf8.decode s p = ((at' s p).toNat, 1) := by
 unfold Utf8.decode
 simp only [Nat.add_zero, get_at]
 rw [if_pos h]
def tk : List UInt8 -> Nat -> Array Value -> Array Value
 | [], _, cs => cs
 | x :: r, n, cs => tk r (n + 1) ((cs.setIfInBounds n (.int .u8 (x.toNat : Int))).setIfInBounds (64 + x.toNat) (.int .i8 ((n : Int) + 1)))
theorem drop_at (s : ByteArray) (p : Nat) (h : p < s.size) : s.data.toList.drop p = at' s p :: s.data.toList.drop (p + 1) := by
 have hl : p < s.data.toList.length := by simpa using h
 have : at' s p = s.data.toList[p] := by simp [at', List.getD_eq_getElem?_getD, List.getElem?_eq_getElem hl]
 rw [List.drop_eq_getElem_cons hl, this]
def TakePost (B : Nat) (w : World) (cs : Array Value) (ty : TypeId) (e : Ending) (w' : World) : Prop := e = .returned (.tuple #[]) /\ w'.heap[B]? = some (.cells cs ty) /\ Below B w w'
theorem putObj_below {B : Nat} {w W : World} {D : Nat} {o : Obj} (h : Below B w W) (hD : B <= D) : Below B w (W.putObj D o) :=
 ⟨h.os, h.tape, h.output, by simpa using h.size, fun k hk => (World.putObj_heap_other (by omega)).trans (h.block k hk)⟩
theorem cell_of {W : World} {B i : Nat} {c : Array Value} {ty : TypeId} (h : W.heap[B]? = some (.cells c ty)) (hi : i < c.size) : ∃ v, W.cell? ⟨B, i, none⟩ = some v /\ W.frozen? ⟨B, i, none⟩ = false := by
 refine ⟨c[i], ?_, ?_⟩
 ·simp [World.cell?, h, hi]
 ·simp [World.frozen?, h]
theorem take_any (first : Nat) (s : ByteArray) (B : Nat) (w : World) (cs : Array Value) (ty : TypeId) (hB : w.heap[B]? = some (.cells cs ty)) (hcs : cs.size = 195)
  (ha : ∀ p, p < s.size -> (at' s p).toNat < 128) (hf : first + s.size <= 64) :
  Calls Tryz.prog 184 #[.pointer (some ⟨B, 0, none⟩), .int .i64 first, .string s] w (TakePost B w (tk s.data.toList first cs) ty) := by
 have hBl : B < w.heap.size := (Array.getElem?_eq_some_iff.1 hB).1
 go_enter Tryz.func184, Tryz.ntmps184
 go_wp2
 go_loopw [6] (fun _ wr => ∃ (p : Nat) (c2 : Array Value), p <= s.size /\ c2.size = 195 /\ tk (s.data.toList.drop p) (first + p) c2 = tk s.data.toList first cs /\ wr.heap[w.heap.size]? = some (.stringIter s p) /\ wr.heap[B]? = some (.cells c2 ty) /\ Below B w wr)
  (fun _ wr => s.size - wr.iterPos w.heap.size)
 case atStart =>
  refine ⟨0, cs, Nat.zero_le _, hcs, rfl, World.iter_heap w s 0, ?_, ?_⟩
  ·exact (Below.heap_alloc _ _ _ hBl).trans hB
  ·exact (Below.refl _ _).alloc (Nat.le_of_lt hBl) _
 case round =>
  obtain ⟨p, c2, hp, hz, ht, hit, hb, hbl⟩ := hrel
  have hit' := H_ hit
  by_cases hlt : p < s.size
  ·have hnx := fun ty => run_next_at wr w.heap.size s p ty hit hlt
   rw [dec_ascii s p (ha p hlt)] at hnx
   rw [drop_at s p hlt, tk] at ht
   have hx := ha p hlt
   generalize at' s p = x at *
   have hb1 : (wr.putObj w.heap.size (.stringIter s (p + 1))).heap[B]? = some (.cells c2 ty) := (World.putObj_heap_other (by omega)).trans hb
   have hi1 : (wr.putObj w.heap.size (.stringIter s (p + 1))).heap[w.heap.size]? = some (.stringIter s (p + 1)) := World.putObj_heap_same (Array.getElem?_eq_some_iff.1 hit).1
   have hl1 := putObj_below (o := .stringIter s (p + 1)) hbl (Nat.le_of_lt hBl)
   generalize wr.putObj w.heap.size (.stringIter s (p + 1)) = W1 at *
   obtain ⟨v1, c1, f1⟩ := cell_of hb1 (i := first + p) (by omega)
   have hb2 := heap_setCell_same W1 B (first + p) c2 ty (.int .u8 (x.toNat : Int)) hb1
   obtain ⟨v2, d1, g1⟩ := cell_of hb2 (i := 64 + x.toNat) (by simp; omega)
   have hb3 := heap_setCell_same _ B (64 + x.toNat) _ ty (.int .i8 (((first + p : Nat) : Int) + 1)) hb2
   have hi3 : ((W1.setCell ⟨B, first + p, none⟩ (.int .u8 (x.toNat : Int))).setCell ⟨B, 64 + x.toNat, none⟩ (.int .i8 (((first + p : Nat) : Int) + 1))).heap[w.heap.size]? = some (.stringIter s (p + 1)) := by
    rw [Below.heap_setCell _ _ _ _ (by show w.heap.size ≠ B; omega), Below.heap_setCell _ _ _ _ (by show w.heap.size ≠ B; omega)]
    exact hi1
   have hl3 : Below B w ((W1.setCell ⟨B, first + p, none⟩ (.int .u8 (x.toNat : Int))).setCell ⟨B, 64 + x.toNat, none⟩ (.int .i8 (((first + p : Nat) : Int) + 1))) := (hl1.setCell (Nat.le_refl _) _).setCell (Nat.le_refl _) _
   have Hb := H_ hb3
   have Hi := H_ hi3
   have Hl := H_ hl3
   have Ht := H_ ht
   clear hb hb1 hb2 hb3 hi1 hi3 hl1 hl3 hbl hit ht hB ha
   have e1 : (((first + p : Nat) : Int)) = first + p := by omega
   rw [e1] at Hb Hi Hl
   go_wp2
   go_roundw
   case rel =>
    exact ⟨p + 1, _, by omega, by simp [hz], by rw [<- un Ht]; rfl, un Hi, un Hb, un Hl⟩
   case measure =>
    have e2 : wr.iterPos w.heap.size = p := by simp [World.iterPos, un hit']
    rw [e2]
    simp [World.iterPos, un Hi]
    omega
  ·have hnx := fun ty => run_next_over wr w.heap.size s p ty hit hlt
   have : p = s.size := by omega
   subst this
   rw [List.drop_of_length_le (by simp), tk] at ht
   subst ht
   clear hit hB ha
   go_wp2
   go_end0
   exact ⟨rfl, hb, hbl⟩
abbrev digitsS : ByteArray := ⟨#[48, 49, 50, 51, 52, 53, 54, 55, 56, 57, 97, 98, 99, 100, 101, 102]⟩
abbrev greatsS : ByteArray := ⟨#[65, 66, 67, 68, 69, 70]⟩
def fresh (b k t : Int) : Array Value := (List.replicate 64 (Value.int .u8 0) ++ List.replicate 128 (Value.int .i8 0) ++ [Value.int .i64 b, Value.int .i64 k, Value.int .i64 t]).toArray
def tabH : Array Value := tk digitsS.data.toList 0 (tk greatsS.data.toList 10 (fresh 1 2 4))
theorem fresh_H : (((Tryz.zeroCells268.setIfInBounds 192 (Value.int IntKind.i64 1)).setIfInBounds 193 (Value.int IntKind.i64 2)).setIfInBounds 194 (Value.int IntKind.i64 4)) = fresh 1 2 4 := by kernel_rfl
theorem size_H : (fresh 1 2 4).size = 195 := by kernel_rfl
theorem size_G : (tk greatsS.data.toList 10 (fresh 1 2 4)).size = 195 := by kernel_rfl
def CodH (w : World) (B : Nat) : Prop := w.heap[B]? = some (.cells tabH 268)
theorem hexCoder_any (w : World) :
  Calls Tryz.prog 168 #[] w fun e w' => e = .returned (.pointer (some ⟨w.heap.size, 0, none⟩)) /\ CodH w' w.heap.size /\ Below w.heap.size w w' := by
 have H := H_ (take_any 10 greatsS w.heap.size (w.alloc (.cells (fresh 1 2 4) 268)) (fresh 1 2 4) 268 (World.alloc_heap_new _ _) size_H (by decide +kernel) (by decide))
 have H2 := H_ fun w1 hc => take_any 0 digitsS w.heap.size w1 (tk greatsS.data.toList 10 (fresh 1 2 4)) 268 hc size_G (by decide +kernel) (by decide)
 go_enter Tryz.func168, Tryz.ntmps168
 go_wp2_with fail
 rw [fresh_H]
 refine (un H).mono ?_
 rintro e w1 ⟨rfl, hc, hb⟩
 have HC := H_ (((un H2) w1 hc).mono (R' := fun e w' => e = .returned (.tuple #[]) /\ CodH w' w.heap.size /\ Below w.heap.size w1 w') (fun _ _ h => h))
 have HB := H_ hb
 clear hc hb H H2
 generalize fresh 1 2 4 = fr at *
 go_wp2_with fail
 refine (un HC).mono ?_
 rintro e w2 ⟨rfl, hc, hb⟩
 have HC2 := H_ hc
 have HB2 := H_ hb
 clear hc hb HC
 go_wp2
 go_ret
 exact ⟨rfl, un HC2, (((Below.refl _ _).alloc (Nat.le_refl _) _).trans (un HB)).trans (un HB2)⟩
end Go.Proofs.YtmenllnokgjdlaaGreatDoor.C
/-
 Base64 and digits, plainly: what the document says of layer 5. Conditions: none.
-/
namespace Go.Proofs.YtmenllnokgjdlaaGreatDoor.Cd
def dx (n : Nat) : UInt8 := ([48, 49, 50, 51, 52, 53, 54, 55, 56, 57, 97, 98, 99, 100, 101, 102] : List UInt8).getD n 0
def nh (x : UInt8) : Option Nat :=
 if 48 <= x.toNat /\ x.toNat <= 57 then some (x.toNat - 48) else if 97 <= x.toNat /\ x.toNat <= 102 then some (x.toNat - 87)
 else if 65 <= x.toNat /\ x.toNat <= 70 then some (x.toNat - 55) else none
def pk : List UInt8 -> Nat
 | [a] => a.toNat * 65536
 | [a, b] => a.toNat * 65536 + b.toNat * 256
 | [a, b, c] => a.toNat * 65536 + b.toNat * 256 + c.toNat
 | _ => 0
structure Kd where
 nm : UInt8 -> Option Nat
 sg : Nat -> UInt8
 bs : Nat
 wd : Nat
 bt : Nat
def kH : Kd := ⟨nh, dx, 1, 2, 4⟩
def gr (k : Kd) (g : List UInt8) : List UInt8 := (List.range k.wd).map fun i => if 8 * g.length <= i * k.bt then 61 else k.sg (pk g / 2 ^ (24 - k.bt * (i + 1)) % 2 ^ k.bt)
def lp (k : Kd) : List UInt8 -> Nat -> Nat -> Nat -> Option (Nat × Nat)
 | [], _, b, c => some (b, c)
 | x :: r, i, b, c => match k.nm x with
  | some n => if c = i then lp k r (i + 1) (b + n * 2 ^ (24 - k.bt * (i + 1))) (c + 1) else none
  | none => if x = 61 /\ 2 <= i then lp k r (i + 1) b c else none
def tl (k : Kd) (g : List UInt8) : Option (Nat × Nat) :=
 if g.length < k.wd then none else (lp k g 0 0 0).bind fun r => if r.1 % 2 ^ (24 - 8 * (r.2 * k.bt / 8)) = 0 then some r else none
def unp (b n : Nat) : List UInt8 := (List.range n).map fun i => UInt8.ofNat (b / 2 ^ (24 - 8 * (i + 1)))
def stp (k : Kd) (last : Bool) (g : List UInt8) : Option (List UInt8) := (tl k g).bind fun r => if r.2 < k.wd /\ last = false then none else some (unp r.1 (r.2 * k.bt / 8))
def chs (n : Nat) : Nat -> List UInt8 -> List (List UInt8)
 | 0, _ => []
 | f + 1, l => if l = [] then [] else l.take n :: chs n f (l.drop n)
def dcs (k : Kd) : List (List UInt8) -> Option (List UInt8)
 | [] => some []
 | g :: r => (stp k r.isEmpty g).bind fun t => (dcs k r).map (t ++ ·)
def enc (k : Kd) (l : List UInt8) : List UInt8 := (chs k.bs l.length l).flatMap (gr k)
def dec (k : Kd) (l : List UInt8) : Option (List UInt8) := dcs k (chs k.wd l.length l)
end Go.Proofs.YtmenllnokgjdlaaGreatDoor.Cd
