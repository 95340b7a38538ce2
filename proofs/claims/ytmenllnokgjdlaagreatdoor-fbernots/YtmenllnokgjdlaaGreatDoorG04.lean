/- Several texts in one: CSmall, CIter. Each says what it proves, and its conditions. -/
import Derived.Test.YtmenllnokgjdlaaGreatDoorG03
import Derived.RangeFuncBound
import Derived.Shelf.RegionOpen
import Derived.OwnWalkIn
import Derived.LoopNIn
import Derived.LoopIn
set_option maxHeartbeats 2000000
set_option maxRecDepth 100000
/-
 What code.signs.sign, number, coder.whole and pack answer. Conditions: none.
-/
namespace Go.Proofs.YtmenllnokgjdlaaGreatDoor.C
open Go Go.RowKit Cd
attribute [local go_sem] Oper.semAt_some
structure Cod (k : Kd) (w : World) (B : Nat) : Prop where
 pr : ∀ n, n < 2 ^ k.bt -> w.cell? ⟨B, n, none⟩ = some (.int .u8 ((k.sg n).toNat : Int))
 nu : ∀ n, n < 128 -> w.cell? ⟨B, 64 + n, none⟩ = some (.int .i8 (match k.nm (UInt8.ofNat n) with | some m => (m : Int) + 1 | none => 0))
 by' : w.cell? ⟨B, 192, none⟩ = some (.int .i64 k.bs)
 wi : w.cell? ⟨B, 193, none⟩ = some (.int .i64 k.wd)
 bi : w.cell? ⟨B, 194, none⟩ = some (.int .i64 k.bt)
 lt : B < w.heap.size
theorem Cod.below {k : Kd} {w w' : World} {B X : Nat} (h : Cod k w B) (hX : B < X) (hb : Below X w w') : Cod k w' B :=
 ⟨fun n hn => (hb.cell hX).trans (h.pr n hn), fun n hn => (hb.cell hX).trans (h.nu n hn), (hb.cell hX).trans h.by', (hb.cell hX).trans h.wi, (hb.cell hX).trans h.bi, Nat.lt_of_lt_of_le h.lt hb.size⟩
theorem prH : (List.range 16).map (fun n => tabH[n]?) = (List.range 16).map (fun n => some (.int .u8 ((dx n).toNat : Int))) := by kernel_rfl
theorem nuH : (List.range 128).map (fun n => tabH[64 + n]?) = (List.range 128).map (fun n => some (.int .i8 (match nh (UInt8.ofNat n) with | some m => (m : Int) + 1 | none => 0))) := by kernel_rfl
theorem cell_tab {w : World} {B : Nat} {c : Array Value} {ty : TypeId} (h : w.heap[B]? = some (.cells c ty)) (i : Nat) : w.cell? ⟨B, i, none⟩ = c[i]? := by
 simp [World.cell?, h]
theorem codH {w : World} {B : Nat} (h : CodH w B) : Cod kH w B :=
 ⟨fun n hn => (cell_tab h n).trans (List.map_inj_left.1 prH n (List.mem_range.2 hn)), fun n hn => (cell_tab h _).trans (List.map_inj_left.1 nuH n (List.mem_range.2 hn)),
  (cell_tab h _).trans (by kernel_rfl), (cell_tab h _).trans (by kernel_rfl), (cell_tab h _).trans (by kernel_rfl), (Array.getElem?_eq_some_iff.1 h).1⟩
theorem sign_any (k : Kd) (B n : Nat) (w : World) (h : Cod k w B) (hn : n < 2 ^ k.bt) (h64 : n < 64) :
  Calls Tryz.prog 204 #[.pointer (some ⟨B, 0, none⟩), .int .i64 n] w fun e w' => e = .returned (.int .u8 ((k.sg n).toNat : Int)) /\ w' = w := by
 have hc := h.pr n hn
 clear h hn
 go_enter Tryz.func204, Tryz.ntmps204
 go_wp2
 go_ret
 exact ⟨rfl, rfl⟩
theorem getD_of {s : ByteArray} {l : List UInt8} (h : s.data.toList = l) (i : Nat) (hi : i < s.size) : s[i] = l.getD i 0 := by
 subst h
 have hl : i < s.data.toList.length := by simpa using hi
 rw [List.getD_eq_getElem?_getD, List.getElem?_eq_getElem hl]
 rfl
theorem ofInt_i64 (a : Nat) (ha : a < 2 ^ 63) : (BitVec.ofInt 64 (a : Int)).toNat = a := by
 rw [BitVec.ofInt_natCast, BitVec.toNat_ofNat]; exact Nat.mod_eq_of_lt (by omega)
theorem wrap_i64 (a : Nat) (ha : a < 2 ^ 63) : IntKind.i64.wrap (a : Int) = a := by
 simp only [IntKind.wrap, IntKind.bits, IntKind.signed]
 simp
 omega
theorem i64_or_nat (a b : Nat) (ha : a < 2 ^ 63) (hb : b < 2 ^ 63) : bits .or .i64 (a : Int) (b : Int) = ((a ||| b : Nat) : Int) := by
 have hx : a ||| b < 2 ^ 63 := Nat.or_lt_two_pow ha hb
 show IntKind.i64.wrap ((BitVec.ofInt 64 (a : Int) ||| BitVec.ofInt 64 (b : Int)).toNat : Int) = _
 rw [BitVec.toNat_or, ofInt_i64 a ha, ofInt_i64 b hb, wrap_i64 _ hx]
theorem i64_and_nat (a b : Nat) (ha : a < 2 ^ 63) (hb : b < 2 ^ 63) : bits .and .i64 (a : Int) (b : Int) = ((a &&& b : Nat) : Int) := by
 have hx : a &&& b < 2 ^ 63 := Nat.and_lt_two_pow _ hb
 show IntKind.i64.wrap ((BitVec.ofInt 64 (a : Int) &&& BitVec.ofInt 64 (b : Int)).toNat : Int) = _
 rw [BitVec.toNat_and, ofInt_i64 a ha, ofInt_i64 b hb, wrap_i64 _ hx]
theorem and_mask (x k : Nat) (hx : x < 2 ^ 63) (hk : 2 ^ k - 1 < 2 ^ 63) : bits .and .i64 (x : Int) ((2 ^ k - 1 : Nat) : Int) = ((x % 2 ^ k : Nat) : Int) := by
 rw [i64_and_nat x _ hx hk, Nat.and_two_pow_sub_one_eq_mod]
theorem or_hi (x y k : Nat) (hx : x < 2 ^ k) (h : y * 2 ^ k + x < 2 ^ 63) : bits .or .i64 (x : Int) ((y * 2 ^ k : Nat) : Int) = ((y * 2 ^ k + x : Nat) : Int) := by
 rw [i64_or_nat x (y * 2 ^ k) (by omega) (by omega), Nat.or_comm, <- Nat.shiftLeft_eq, Nat.shiftLeft_add_eq_or_of_lt hx]
theorem or_lo (x y k : Nat) (hy : y < 2 ^ k) (h : x * 2 ^ k + y < 2 ^ 63) : bits .or .i64 ((x * 2 ^ k : Nat) : Int) (y : Int) = ((x * 2 ^ k + y : Nat) : Int) := by
 rw [i64_or_nat (x * 2 ^ k) y (by omega) (by omega), <- Nat.shiftLeft_eq, Nat.shiftLeft_add_eq_or_of_lt hy]
theorem or_zero (y : Nat) (h : y < 2 ^ 63) : bits .or .i64 0 (y : Int) = y := by
 have := or_lo 0 y 63 h (by omega)
 simpa using this
theorem pack1 (s : ByteArray) (a : UInt8) (w : World) (h : s.data.toList = [a]) :
  Calls Tryz.prog 203 #[.string s] w fun e w' => e = .returned (.int .i64 (pk s.data.toList)) /\ w' = w := by
 have hz : s.size = 1 := by have := congrArg List.length h; simpa using this
 have hz' : (s.size : Int) = 1 := by omega
 have h0 : s[0] = a := getD_of h 0 (by omega)
 rw [h]
 have ha := a.toNat_lt
 have e1 : wrap64 (a.toNat : Int) = a.toNat := by unfold wrap64; omega
 have e2 : wrap64 ((a.toNat : Int) * 65536) = ((a.toNat * 65536 : Nat) : Int) := by unfold wrap64; omega
 have e3 := or_zero (a.toNat * 65536) (by omega)
 show Calls _ _ _ _ fun e w' => e = .returned (.int .i64 ((a.toNat * 65536 : Nat) : Int)) /\ w' = w
 generalize a.toNat * 65536 = x at *
 clear ha
 go_enter Tryz.func203, Tryz.ntmps203
 go_wp2
 go_ret
 exact ⟨rfl, rfl⟩
theorem pack2 (s : ByteArray) (a b : UInt8) (w : World) (h : s.data.toList = [a, b]) :
  Calls Tryz.prog 203 #[.string s] w fun e w' => e = .returned (.int .i64 (pk s.data.toList)) /\ w' = w := by
 have hz : s.size = 2 := by have := congrArg List.length h; simpa using this
 have hz' : (s.size : Int) = 2 := by omega
 have h0 : s[0] = a := getD_of h 0 (by omega)
 have h1 : s[1] = b := getD_of h 1 (by omega)
 rw [h]
 have ha := a.toNat_lt
 have hb := b.toNat_lt
 have e1 : wrap64 (a.toNat : Int) = a.toNat := by unfold wrap64; omega
 have e2 : wrap64 ((a.toNat : Int) * 65536) = ((a.toNat * 65536 : Nat) : Int) := by unfold wrap64; omega
 have e3 : wrap64 (b.toNat : Int) = b.toNat := by unfold wrap64; omega
 have e4 : wrap64 ((b.toNat : Int) * 256) = ((b.toNat * 256 : Nat) : Int) := by unfold wrap64; omega
 have e5 := or_zero (b.toNat * 256) (by omega)
 have e6 := or_hi (b.toNat * 256) a.toNat 16 (by omega) (by omega)
 show Calls _ _ _ _ fun e w' => e = .returned (.int .i64 ((a.toNat * 65536 + b.toNat * 256 : Nat) : Int)) /\ w' = w
 rw [show 2 ^ 16 = 65536 from rfl] at e6
 generalize b.toNat * 256 = y at *
 generalize a.toNat * 65536 = x at *
 generalize x + y = z at *
 clear ha hb
 go_enter Tryz.func203, Tryz.ntmps203
 go_wp2
 go_ret
 exact ⟨rfl, rfl⟩
theorem pack3 (s : ByteArray) (a b c : UInt8) (w : World) (h : s.data.toList = [a, b, c]) :
  Calls Tryz.prog 203 #[.string s] w fun e w' => e = .returned (.int .i64 (pk s.data.toList)) /\ w' = w := by
 have hz : s.size = 3 := by have := congrArg List.length h; simpa using this
 have hz' : (s.size : Int) = 3 := by omega
 have h0 : s[0] = a := getD_of h 0 (by omega)
 have h1 : s[1] = b := getD_of h 1 (by omega)
 have h2 : s[2] = c := getD_of h 2 (by omega)
 rw [h]
 have ha := a.toNat_lt
 have hb := b.toNat_lt
 have hc := c.toNat_lt
 have e1 : wrap64 (a.toNat : Int) = a.toNat := by unfold wrap64; omega
 have e2 : wrap64 ((a.toNat : Int) * 65536) = ((a.toNat * 65536 : Nat) : Int) := by unfold wrap64; omega
 have e3 : wrap64 (b.toNat : Int) = b.toNat := by unfold wrap64; omega
 have e4 : wrap64 ((b.toNat : Int) * 256) = ((b.toNat * 256 : Nat) : Int) := by unfold wrap64; omega
 have e7 : wrap64 (c.toNat : Int) = c.toNat := by unfold wrap64; omega
 have e5 := or_zero c.toNat (by omega)
 have e8 := or_hi c.toNat b.toNat 8 (by omega) (by omega)
 have e6 := or_hi (b.toNat * 2 ^ 8 + c.toNat) a.toNat 16 (by omega) (by omega)
 show Calls _ _ _ _ fun e w' => e = .returned (.int .i64 ((a.toNat * 65536 + b.toNat * 256 + c.toNat : Nat) : Int)) /\ w' = w
 rw [Nat.add_assoc]
 rw [show 2 ^ 8 = 256 from rfl] at e8 e6
 rw [show 2 ^ 16 = 65536 from rfl] at e6
 generalize b.toNat * 256 = y at *
 generalize a.toNat * 65536 = x at *
 generalize y + c.toNat = u at *
 generalize x + u = z at *
 clear ha hb hc
 go_enter Tryz.func203, Tryz.ntmps203
 go_wp2
 go_ret
 exact ⟨rfl, rfl⟩
theorem pack_any (s : ByteArray) (w : World) (h1 : 1 <= s.size) (h3 : s.size <= 3) :
  Calls Tryz.prog 203 #[.string s] w fun e w' => e = .returned (.int .i64 (pk s.data.toList)) /\ w' = w := by
 have hl : s.data.toList.length = s.size := by simp
 match hs : s.data.toList with
 | [] => rw [hs] at hl; simp at hl; omega
 | [a] => rw [<- hs]; exact pack1 s a w hs
 | [a, b] => rw [<- hs]; exact pack2 s a b w hs
 | [a, b, c] => rw [<- hs]; exact pack3 s a b c w hs
 | a :: b :: c :: d :: r => rw [hs] at hl; simp at hl; omega
end Go.Proofs.YtmenllnokgjdlaaGreatDoor.C
/-
 The iterator of package code: 'groups' hands over a text's pieces of one length, each with its place. Conditions: none.
-/
namespace Go.Proofs.YtmenllnokgjdlaaGreatDoor.C
open Go Go.RowKit Go.Shelf Cd
attribute [local go_sem] Oper.semAt_some
structure Pc (s : ByteArray) where
 p : Nat
 hp : p < s.size
abbrev Pc.g {s : ByteArray} (n : Nat) (x : Pc s) : ByteArray := s.extract x.p (min (x.p + n) s.size)
def al (s : ByteArray) (n : Nat) : Nat -> Nat -> List (Pc s)
 | 0, _ => []
 | f + 1, p => if h : p < s.size then ⟨p, h⟩ :: al s n f (p + n) else []
def all (s : ByteArray) (n : Nat) : List (Pc s) := al s n s.size 0
theorem al_cons (s : ByteArray) (n f p : Nat) (hn : 1 <= n) (h : p < s.size) (hf : s.size <= p + f) : ∃ f', f = f' + 1 /\ al s n f p = ⟨p, h⟩ :: al s n f' (p + n) /\ s.size <= p + n + f' := by
 cases f with
 | zero => omega
 | succ f => exact ⟨f, rfl, by rw [al, dif_pos h], by omega⟩
theorem al_end (s : ByteArray) (n f p : Nat) (h : ¬ p < s.size) : al s n f p = [] := by
 cases f with
 | zero => rfl
 | succ f => rw [al, dif_neg h]
theorem groups_any (s : ByteArray) (n : Nat) (w : World) :
  Calls Tryz.prog 185 #[.string s, .int .i64 n] w fun e w' => e = .returned (.func (.func 202) #[] #[.pointer (some ⟨w.heap.size, 0, none⟩), .pointer (some ⟨w.heap.size + 1, 0, none⟩)]) /\ w' = (w.alloc (.cells #[.string s] 9)).alloc (.cells #[.int .i64 n] 3) := by
 go_enter Tryz.func185, Tryz.ntmps185
 go_wp2
 go_ret
 exact ⟨rfl, rfl⟩
def Two (p q : Nat) (W W' : World) : Prop := W'.heap[p]? = W.heap[p]? /\ W'.heap[q]? = W.heap[q]?
theorem Two.trans {p q : Nat} {A B C : World} (h : Two p q A B) (k : Two p q B C) : Two p q A C := ⟨k.1.trans h.1, k.2.trans h.2⟩
theorem Two.book {p q : Nat} {w : World} (hp : p < w.heap.size) (hq : q < w.heap.size) (W : World) (l : Nat) (o o' : Obj) (hl : w.heap.size <= l) (_ : W.heap[l]? = some o) (_ : o.isCells = false) (_ : o.isWalk = false) : Two p q W (W.putObj l o') :=
 ⟨World.putObj_heap_other (by omega), World.putObj_heap_other (by omega)⟩
theorem groups1_stops (m : Nat) (hm : 1 <= m) (Bs Bn n : Nat) (s : ByteArray) (w : World) (hn : 1 <= n) (hn4 : n <= 4) (hs : s.size <= 2000)
  (hBs : w.cell? ⟨Bs, 0, none⟩ = some (.string s)) (hBn : w.cell? ⟨Bn, 0, none⟩ = some (.int .i64 n)) :
  SeqStopsK Fence.wide m Tryz.prog 202 #[.pointer (some ⟨Bs, 0, none⟩), .pointer (some ⟨Bn, 0, none⟩)] (fun x : Pc s => #[.int .i64 x.p, .string (x.g n)]) (Two Bs Bn)
   (fun xs => xs = all s n) (fun pre => pre <+: all s n) s.size w := fun l J Jx W hW hJ hJx hY h0 => by
 have hbs := (hW.cell (p := ⟨Bs, 0, none⟩) (lt_of_cell hBs)).trans hBs
 have hbn := (hW.cell (p := ⟨Bn, 0, none⟩) (lt_of_cell hBn)).trans hBn
 clear hBs hBn hW
 refine callsIn_of_wp Tryz.func202 rfl trivial ?_ rfl
 simp only [Tryz.ntmps202, List.size_toArray, List.length_cons, List.length_nil, Nat.reduceAdd, Nat.reduceSub, Array.replicate_succ, Array.replicate_zero, List.push_toArray, List.append_toArray, List.nil_append, List.cons_append]
 gi_wp2
 gi_loopw [4] (fun i wr => ∃ (pre : List (Pc s)) (f p : Nat), pre ++ al s n f p = all s n /\ s.size <= p + f /\ pre.length <= p /\ p <= s.size + 4 /\ i = .int .i64 (p : Int) /\ J pre wr /\ wr.cell? ⟨Bs, 0, none⟩ = some (.string s) /\ wr.cell? ⟨Bn, 0, none⟩ = some (.int .i64 n))
  (fun i _ => s.size - (intOf i).toNat)
 case atStart => exact ⟨[], s.size, 0, rfl, by omega, Nat.le_refl _, by omega, rfl, h0, hbs, hbn⟩
 case round =>
  obtain ⟨pre, f, p, hl, hf, hpl, hp4, rfl, hJs, ha, ht⟩ := hrel
  by_cases hlt : p < s.size
  ·obtain ⟨f', rfl, hal, hf'⟩ := al_cons s n f p hn hlt hf
   rw [hal] at hl
   obtain ⟨fn, tmps, assign, body, hy, hR⟩ := hY _ ⟨p, hlt⟩ _ hJs (by omega)
   have Hl := H_ hl
   have Hf := H_ hf'
   have Hpl := H_ hpl
   have Hlt := H_ hlt
   have hlt' : (p : Int) < s.size := by omega
   have hp' : (p : Int) <= 2000 := by omega
   have hn' : (n : Int) <= 4 := by omega
   have hs' : (s.size : Int) <= 2000 := by omega
   clear hl hal hf hf' hpl hbs hbn
   by_cases hq : p + n <= s.size
   ·have hsl := fun wx => run_slice_string (P := Tryz.prog) (w := wx) 9 s .i64 .i64 (p : Int) ((p : Int) + n) Tryz.underlying9 (by omega) (by omega) (by omega)
    rw [show ((p : Int)).toNat = p by omega, show ((p : Int) + n).toNat = p + n by omega] at hsl
    have hg : Pc.g n (⟨p, hlt⟩ : Pc s) = s.extract p (p + n) := by show s.extract p (min (p + n) s.size) = _; rw [Nat.min_eq_left hq]
    rw [hg] at hy
    have hq' : (p : Int) + n <= s.size := by omega
    clear hg
    gi_wp2
    refine hR.mono ?_
    rintro e W3 (⟨rfl, hJ3, hk3⟩ | ⟨rfl, hJx3⟩)
    ·have h3s := (World.cell?_of_block (a := ⟨Bs, 0, none⟩) hk3.1).trans ha
     have h3n := (World.cell?_of_block (a := ⟨Bn, 0, none⟩) hk3.2).trans ht
     clear hk3
     gi_wp2
     go_roundw
     case rel =>
      refine ⟨_, f', p + n, ?_, un Hf, ?_, by omega, by simp, hJ3, h3s, h3n⟩
      ·rw [List.append_assoc]
       exact un Hl
      ·have := un Hpl
       simp
       omega
     case measure => simp [intOf]; omega
    ·gi_wp2
     refine bodyPost_ret (results_none rfl _ _ _) rfl ?_
     exact ⟨⟨_, rfl⟩, .inr ⟨_, ⟨al s n f' (p + n), by rw [List.append_assoc]; exact un Hl⟩, hJx3⟩⟩
   ·have hsl := fun wx => run_slice_string (P := Tryz.prog) (w := wx) 9 s .i64 .i64 (p : Int) (s.size : Int) Tryz.underlying9 (by omega) (by omega) (by omega)
    rw [show ((p : Int)).toNat = p by omega, show ((s.size : Int)).toNat = s.size by omega] at hsl
    have hg : Pc.g n (⟨p, hlt⟩ : Pc s) = s.extract p s.size := by show s.extract p (min (p + n) s.size) = _; rw [Nat.min_eq_right (by omega)]
    rw [hg] at hy
    have hq' : ¬ (p : Int) + n <= s.size := by omega
    clear hg
    gi_wp2
    refine hR.mono ?_
    rintro e W3 (⟨rfl, hJ3, hk3⟩ | ⟨rfl, hJx3⟩)
    ·have h3s := (World.cell?_of_block (a := ⟨Bs, 0, none⟩) hk3.1).trans ha
     have h3n := (World.cell?_of_block (a := ⟨Bn, 0, none⟩) hk3.2).trans ht
     clear hk3
     gi_wp2
     go_roundw
     case rel =>
      refine ⟨_, f', p + n, ?_, un Hf, ?_, by omega, by simp, hJ3, h3s, h3n⟩
      ·rw [List.append_assoc]
       exact un Hl
      ·have := un Hpl
       simp
       omega
     case measure => simp [intOf]; omega
    ·gi_wp2
     refine bodyPost_ret (results_none rfl _ _ _) rfl ?_
     exact ⟨⟨_, rfl⟩, .inr ⟨_, ⟨al s n f' (p + n), by rw [List.append_assoc]; exact un Hl⟩, hJx3⟩⟩
  ·have hge : ¬ (p : Int) < s.size := by omega
   rw [al_end s n f p hlt, List.append_nil] at hl
   subst hl
   clear hbs hbn hf hpl
   gi_wp2
   go_end0
   first | exact ⟨⟨_, rfl⟩, .inl ⟨_, rfl, hJs⟩⟩ | exact ⟨⟨_, rfl⟩, .inl hJs⟩
end Go.Proofs.YtmenllnokgjdlaaGreatDoor.C
