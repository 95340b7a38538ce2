/-
  Several texts in one: CErrno, CTake, CPure, CSmall, CIter. Each says what it proves, and its conditions.
-/
import Derived.Test.YtmjfkdpaeenfgaaGreatDoorCErrs
import Derived.Laws.RangeAny
import Derived.RangeFuncNested
import Derived.KernelRfl
import Derived.Laws.BitsAllLaws
import Derived.RangeFuncBound
import Derived.RangeFuncCalls
import Derived.RangeFuncLeaves
import Derived.Shelf.Abstract
import Derived.Shelf.RegionOpen
import Derived.WalkKit
import Derived.OwnWalkIn
import Derived.TacticsInMore
import Derived.LoopNIn
import Derived.LoopIn
/-
  What code.errnoOf answers at each error that package code makes. Conditions: the package-level variables hold what the program's text lays ('Glob').
-/
namespace Go.Proofs.YtmjfkdpaeenfgaaGreatDoor.C
open Go.RowKit Go.Extern.Stop Go.Stop Go.Extern

/-- errors.Is(fault{k, x}, x), x a sentinel. -/
theorem Is_same (k : Int) (a : Addr) (w : World) :
    Calls Tryz.prog 50 #[.iface 252 (.agg #[.int .i64 k, .iface 258 (.pointer (some a))]), .iface 258 (.pointer (some a))] w fun e w' => e = .returned (.bool true) ∧ Below w.heap.size w w' := by
  obtain ⟨i, hi, hcmp⟩ := Option.map_eq_some_iff.1 compS
  obtain ⟨j, hj, hjs⟩ := Option.map_eq_some_iff.1 sizeS
  have hext36 := @run_callFunc_extern Tryz.prog 85 _ ReflectliteType.typeOf Tryz.func85 (by kernel_rfl) (by kernel_rfl) (by kernel_rfl) (by kernel_rfl)
  obtain ⟨ext, hfind, cT⟩ := cmpExt
  have hext66 := @run_callFunc_extern Tryz.prog 215 _ ext Tryz.func215 (by kernel_rfl) (by kernel_rfl) (by kernel_rfl) hfind
  clear hfind
  have tT := typeOfS
  have mR := methodComparable
  have nW := noIsF
  have uW := unwF
  have mU := methodUnwrap
  have heq := fun w => run_eql_iface_ptr_same (P := Tryz.prog) w a Tryz.underlying47 Tryz.underlying258 hi hcmp hj
  have hty := fun w => run_eql_iface_types (P := Tryz.prog) 252 258 (.agg #[.int .i64 k, .iface 258 (.pointer (some a))]) (.pointer (some a)) Tryz.underlying47 (by decide) w
  go_enter Tryz.func50, Tryz.ntmps50
  go_wp2
  refine wp_loop_rounds 2 ?_
  rw [rounds_succ]
  go_wp2
  rw [rounds_succ]
  go_wp2
  go_ret
  exact ⟨rfl, (Below.refl _ _).alloc (by simp) _⟩

/-- errors.Is(fault{k, x}, y), x and y two sentinels. -/
theorem Is_other (k : Int) (a b : Addr) (ca cb : Array Value) (ta tb : TypeId) (w : World) (hne : a ≠ b) (ha : w.heap[a.block]? = some (.cells ca ta (0, 0))) (hb : w.heap[b.block]? = some (.cells cb tb (0, 0))) :
    Calls Tryz.prog 50 #[.iface 252 (.agg #[.int .i64 k, .iface 258 (.pointer (some a))]), .iface 258 (.pointer (some b))] w fun e w' => e = .returned (.bool false) ∧ Below w.heap.size w w' := by
  obtain ⟨i, hi, hcmp⟩ := Option.map_eq_some_iff.1 compS
  obtain ⟨j, hj, hjs⟩ := Option.map_eq_some_iff.1 sizeS
  have hext36 := @run_callFunc_extern Tryz.prog 85 _ ReflectliteType.typeOf Tryz.func85 (by kernel_rfl) (by kernel_rfl) (by kernel_rfl) (by kernel_rfl)
  obtain ⟨ext, hfind, cT⟩ := cmpExt
  have hext66 := @run_callFunc_extern Tryz.prog 215 _ ext Tryz.func215 (by kernel_rfl) (by kernel_rfl) (by kernel_rfl) hfind
  clear hfind
  have tT := typeOfS
  have mR := methodComparable
  have nW := noIsF
  have nE := noIsS
  have uW := unwF
  have uE := noUnwS
  have vE := noUnwsS
  have mU := methodUnwrap
  have hal : a.block < w.heap.size := (Array.getElem?_eq_some_iff.1 ha).1
  have hbl : b.block < w.heap.size := (Array.getElem?_eq_some_iff.1 hb).1
  have heq := run_eql_iface_ptr_other (P := Tryz.prog) (w.alloc (.cells #[.int .i64 k, .iface 258 (.pointer (some a))] 252)) Tryz.underlying47 Tryz.underlying258 hi hcmp hj (by rw [hjs]; decide) hne ((Below.heap_alloc _ _ _ hal).trans ha) ((Below.heap_alloc _ _ _ hbl).trans hb)
  have hty := fun w => run_eql_iface_types (P := Tryz.prog) 252 258 (.agg #[.int .i64 k, .iface 258 (.pointer (some a))]) (.pointer (some b)) Tryz.underlying47 (by decide) w
  clear ha hb hal hbl
  go_enter Tryz.func50, Tryz.ntmps50
  go_wp2
  refine wp_loop_rounds 2 ?_
  rw [rounds_succ]
  go_wp2
  rw [rounds_succ]
  go_wp2
  go_ret
  exact ⟨rfl, (Below.refl _ _).alloc (by simp) _⟩

theorem hide {p : Prop} (h : p) : Hid p := h
theorem unhide {p : Prop} (h : Hid p) : p := h

/-- where the three sentinels lie. -/
structure Ad where
  c : Addr
  e : Addr
  b : Addr
/-- The package-level variables hold what the program's text lays. -/
structure Glob (a : Ad) (w : World) : Prop where
  ty : w.cell? ⟨7, 0, none⟩ = some (.iface 153 (.agg #[.pointer (some ⟨17, 47, none⟩)]))
  cu : w.cell? ⟨15, 0, none⟩ = some (.iface 258 (.pointer (some a.c)))
  en : w.cell? ⟨14, 0, none⟩ = some (.iface 258 (.pointer (some a.e)))
  bi : w.cell? ⟨16, 0, none⟩ = some (.iface 258 (.pointer (some a.b)))
  ec : a.e ≠ a.c
  bc : a.b ≠ a.c
  be : a.b ≠ a.e
  hC : ∃ c t, w.heap[a.c.block]? = some (.cells c t (0, 0))
  hE : ∃ c t, w.heap[a.e.block]? = some (.cells c t (0, 0))
  hB : ∃ c t, w.heap[a.b.block]? = some (.cells c t (0, 0))

theorem Glob.below {a : Ad} {w w' : World} (g : Glob a w) {B : Nat} (hB : w.heap.size ≤ B) (h : Below B w w') : Glob a w' := by
  obtain ⟨ty, cu, en, bi, ec, bc, be, ⟨c1, t1, h1⟩, ⟨c2, t2, h2⟩, ⟨c3, t3, h3⟩⟩ := g
  refine ⟨?_, ?_, ?_, ?_, ec, bc, be, ⟨c1, t1, ?_⟩, ⟨c2, t2, ?_⟩, ⟨c3, t3, ?_⟩⟩
  · rw [h.cell (Nat.lt_of_lt_of_le (lt_of_cell ty) hB)]; exact ty
  · rw [h.cell (Nat.lt_of_lt_of_le (lt_of_cell cu) hB)]; exact cu
  · rw [h.cell (Nat.lt_of_lt_of_le (lt_of_cell en) hB)]; exact en
  · rw [h.cell (Nat.lt_of_lt_of_le (lt_of_cell bi) hB)]; exact bi
  · rw [h.block _ (Nat.lt_of_lt_of_le (Array.getElem?_eq_some_iff.1 h1).1 hB)]; exact h1
  · rw [h.block _ (Nat.lt_of_lt_of_le (Array.getElem?_eq_some_iff.1 h2).1 hB)]; exact h2
  · rw [h.block _ (Nat.lt_of_lt_of_le (Array.getElem?_eq_some_iff.1 h3).1 hB)]; exact h3
theorem Glob.alloc {a : Ad} {w : World} (g : Glob a w) (o : Obj) : Glob a (w.alloc o) :=
  g.below (Nat.le_refl _) ((Below.refl _ _).alloc (Nat.le_refl _) _)

/-- a fault at a place that wraps a sentinel, one that wraps a noSign. -/
abbrev flt (k : Int) (a : Addr) : Value := .iface 252 (.agg #[.int .i64 k, .iface 258 (.pointer (some a))])
abbrev nos (k n : Int) : Value := .iface 252 (.agg #[.int .i64 k, .iface 255 (.agg #[.int .i32 n])])

/-- errnoOf at an error in which a noSign is found. -/
theorem errnoOf_sign (k n : Int) (a : Ad) (w : World) (g : Glob a w) :
    Calls Tryz.prog 182 #[nos k n] w fun e w' => e = .returned (.int .i64 50) ∧ Below w.heap.size w w' := by
  have gt := (g.alloc (.cells #[.int .i32 0] 255)).ty
  have H := hide (As_gives _ _ true (as2 n k) ⟨w.heap.size, 0, none⟩ (.int .i32 0) (w.alloc (.cells #[.int .i32 0] 255)) gt (by simp) (by simp))
  clear gt g
  go_enter Tryz.func182, Tryz.ntmps182
  go_wp2_with fail
  refine (unhide H).mono ?_
  rintro e w1 ⟨rfl, hb⟩
  have HB := hide hb
  clear hb
  go_wp2
  go_ret
  exact ⟨rfl, ((Below.refl _ _).alloc (Nat.le_refl _) _).trans (unhide HB)⟩

/-- what As leaves at a fault that wraps a sentinel. -/
theorem asNo (k : Int) (x : Addr) (a : Ad) (w : World) (g : Glob a w) :
    Calls Tryz.prog 49 #[flt k x, .iface 256 (.pointer (some ⟨w.heap.size, 0, none⟩))] (w.alloc (.cells #[.int .i32 0] 255)) fun e w' => e = .returned (.bool false) ∧ Hid (Below w.heap.size w w') ∧ Hid (Glob a w') ∧
      w'.cell? ⟨15, 0, none⟩ = some (.iface 258 (.pointer (some a.c))) := by
  have g1 := g.alloc (.cells #[.int .i32 0] 255)
  refine (As_gives _ _ false (as3 k x) ⟨w.heap.size, 0, none⟩ (.int .i32 0) _ g1.ty (by simp) (by simp)).mono fun e w' ⟨he, hb⟩ => ?_
  have hb' : Below w.heap.size w w' := ((Below.refl _ _).alloc (Nat.le_refl _) _).trans hb
  have g' := g.below (Nat.le_refl _) hb'
  exact ⟨he, hb', g', g'.cu⟩
/-- what Is says of a fault and its own sentinel, or another one. -/
theorem isYes (k : Int) (x : Addr) (w w1 : World) (h : Hid (Below w.heap.size w w1)) :
    Calls Tryz.prog 50 #[flt k x, .iface 258 (.pointer (some x))] w1 fun e w' => e = .returned (.bool true) ∧ Hid (Below w.heap.size w w') :=
  (Is_same k x w1).mono fun _ _ ⟨he, hb⟩ => ⟨he, (unhide h).trans (hb.mono (unhide h).size)⟩
theorem isNo (k : Int) (x y : Addr) (hne : x ≠ y) (a : Ad) (w w1 : World) (h : Hid (Below w.heap.size w w1)) (g : Hid (Glob a w1)) (hx : ∃ c t, w1.heap[x.block]? = some (.cells c t (0, 0))) (hy : ∃ c t, w1.heap[y.block]? = some (.cells c t (0, 0))) :
    Calls Tryz.prog 50 #[flt k x, .iface 258 (.pointer (some y))] w1 fun e w' => e = .returned (.bool false) ∧ Hid (Below w.heap.size w w') ∧ Hid (Glob a w') ∧
      w'.cell? ⟨14, 0, none⟩ = some (.iface 258 (.pointer (some a.e))) ∧ w'.cell? ⟨16, 0, none⟩ = some (.iface 258 (.pointer (some a.b))) := by
  obtain ⟨c1, t1, h1⟩ := hx
  obtain ⟨c2, t2, h2⟩ := hy
  refine (Is_other k x y c1 c2 t1 t2 w1 hne h1 h2).mono fun e w' ⟨he, hb⟩ => ?_
  have g' := (unhide g).below (Nat.le_refl _) hb
  exact ⟨he, (unhide h).trans (hb.mono (unhide h).size), g', g'.en, g'.bi⟩

theorem errnoOf_cut (k : Int) (a : Ad) (w : World) (g : Glob a w) :
    Calls Tryz.prog 182 #[flt k a.c] w fun e w' => e = .returned (.int .i64 50) ∧ Below w.heap.size w w' := by
  have H := hide (asNo k a.c a w g)
  clear g
  go_enter Tryz.func182, Tryz.ntmps182
  go_wp2_with fail
  refine (unhide H).mono ?_
  rintro e w1 ⟨rfl, hb, hg, hc⟩
  go_wp2_with fail
  refine (isYes k a.c w _ hb).mono ?_
  rintro e w2 ⟨rfl, hb2⟩
  go_wp2
  go_ret
  exact ⟨rfl, unhide hb2⟩

theorem errnoOf_end (k : Int) (a : Ad) (w : World) (g : Glob a w) :
    Calls Tryz.prog 182 #[flt k a.e] w fun e w' => e = .returned (.int .i64 50) ∧ Below w.heap.size w w' := by
  have H := hide (asNo k a.e a w g)
  have ne := hide g.ec
  clear g
  go_enter Tryz.func182, Tryz.ntmps182
  go_wp2_with fail
  refine (unhide H).mono ?_
  rintro e w1 ⟨rfl, hb, hg, hc⟩
  go_wp2_with fail
  refine (isNo k a.e a.c (unhide ne) a w _ hb hg (unhide hg).hE (unhide hg).hC).mono ?_
  rintro e w2 ⟨rfl, hb2, hg2, hc2, hc3⟩
  go_wp2_with fail
  refine (isYes k a.e w _ hb2).mono ?_
  rintro e w3 ⟨rfl, hb3⟩
  go_wp2
  go_ret
  exact ⟨rfl, unhide hb3⟩

theorem errnoOf_bits (k : Int) (a : Ad) (w : World) (g : Glob a w) :
    Calls Tryz.prog 182 #[flt k a.b] w fun e w' => e = .returned (.int .i64 50) ∧ Below w.heap.size w w' := by
  have H := hide (asNo k a.b a w g)
  have ne := hide g.bc
  have ne2 := hide g.be
  clear g
  go_enter Tryz.func182, Tryz.ntmps182
  go_wp2_with fail
  refine (unhide H).mono ?_
  rintro e w1 ⟨rfl, hb, hg, hc⟩
  go_wp2_with fail
  refine (isNo k a.b a.c (unhide ne) a w _ hb hg (unhide hg).hB (unhide hg).hC).mono ?_
  rintro e w2 ⟨rfl, hb2, hg2, hc2, hc3⟩
  go_wp2_with fail
  refine (isNo k a.b a.e (unhide ne2) a w _ hb2 hg2 (unhide hg2).hB (unhide hg2).hE).mono ?_
  rintro e w3 ⟨rfl, hb3, hg3, hc4, hc5⟩
  go_wp2_with fail
  refine (isYes k a.b w _ hb3).mono ?_
  rintro e w4 ⟨rfl, hb4⟩
  go_wp2
  go_ret
  exact ⟨rfl, unhide hb4⟩

/-- an error of this package. -/
def IsErr (a : Ad) (v : Value) : Prop := (∃ k, v = flt k a.c) ∨ (∃ k, v = flt k a.e) ∨ (∃ k, v = flt k a.b) ∨ (∃ k n, v = nos k n)
theorem errnoOf_any (v : Value) (a : Ad) (w : World) (g : Glob a w) (h : IsErr a v) :
    Calls Tryz.prog 182 #[v] w fun e w' => e = .returned (.int .i64 50) ∧ Below w.heap.size w w' := by
  rcases h with ⟨k, rfl⟩ | ⟨k, rfl⟩ | ⟨k, rfl⟩ | ⟨k, n, rfl⟩
  · exact errnoOf_cut k a w g
  · exact errnoOf_end k a w g
  · exact errnoOf_bits k a w g
  · exact errnoOf_sign k n a w g
theorem IsErr.form {a : Ad} {v : Value} (h : IsErr a v) : ∃ x, v = .iface 252 x := by
  rcases h with ⟨k, rfl⟩ | ⟨k, rfl⟩ | ⟨k, rfl⟩ | ⟨k, n, rfl⟩ <;> exact ⟨_, rfl⟩
end Go.Proofs.YtmjfkdpaeenfgaaGreatDoor.C

/-
  What code.signs.take lays: the signs of a text, and what they tell. Conditions: none.
-/
namespace Go.Proofs.YtmjfkdpaeenfgaaGreatDoor.C
open Go Go.RowKit
attribute [local go_sem] Oper.semAt_some

theorem run_next_at (w : World) (B : Nat) (s : ByteArray) (p : Nat) (ty : TypeId) (hB : w.heap[B]? = some (.stringIter s p)) (h : p < s.size) :
    (Instr.next (.pointer (some ⟨B, 0, none⟩)) true ty).run Tryz.prog w = .ok (.tuple #[.bool true, .int .i64 p, .int .i32 (Utf8.decode s p).1]) (w.putObj B (.stringIter s (p + (Utf8.decode s p).2))) := by
  simp only [Instr.next, getObj, setObj, Sem.run_bind, Sem.run, hB, Result.andThen, h, if_true]
  simp [goInt, World.putObj]
theorem run_next_over (w : World) (B : Nat) (s : ByteArray) (p : Nat) (ty : TypeId) (hB : w.heap[B]? = some (.stringIter s p)) (h : ¬ p < s.size) :
    (Instr.next (.pointer (some ⟨B, 0, none⟩)) true ty).run Tryz.prog w = .ok (.tuple #[.bool false]) w := by
  simp only [Instr.next, getObj, Sem.run_bind, Sem.run, hB, Result.andThen, h, if_false]
  simp

/-- the byte at a place. -/
abbrev at' (s : ByteArray) (p : Nat) : UInt8 := s.data.toList.getD p 0
theorem get_at (s : ByteArray) (p : Nat) : s.get! p = at' s p := by
  show s.data[p]! = _
  simp [getElem!_def, List.getD_eq_getElem?_getD]
  cases s.data[p]? <;> rfl
theorem dec_ascii (s : ByteArray) (p : Nat) (h : (at' s p).toNat < 128) : Utf8.decode s p = ((at' s p).toNat, 1) := by
  unfold Utf8.decode
  simp only [Nat.add_zero, get_at]
  rw [if_pos h]
theorem dec_big (s : ByteArray) (p : Nat) (h : 128 ≤ (at' s p).toNat) : 128 ≤ (Utf8.decode s p).1 := by
  unfold Utf8.decode
  simp only [Nat.add_zero, get_at]
  rw [if_neg (by omega)]
  have : 128 ≤ Utf8.runeError := by decide
  repeat' split
  all_goals (try simp_all)
  all_goals omega

/-- what is laid, sign by sign. -/
def tk : List UInt8 → Nat → Array Value → Array Value
  | [], _, cs => cs
  | x :: r, n, cs => tk r (n + 1) ((cs.setIfInBounds n (.int .u8 (x.toNat : Int))).setIfInBounds (64 + x.toNat) (.int .i8 ((n : Int) + 1)))

theorem drop_at (s : ByteArray) (p : Nat) (h : p < s.size) : s.data.toList.drop p = at' s p :: s.data.toList.drop (p + 1) := by
  have hl : p < s.data.toList.length := by simpa using h
  have : at' s p = s.data.toList[p] := by simp [at', List.getD_eq_getElem?_getD, List.getElem?_eq_getElem hl]
  rw [List.drop_eq_getElem_cons hl, this]

/-- what take leaves. -/
def TakePost (B : Nat) (w : World) (cs : Array Value) (ty : TypeId) (e : Ending) (w' : World) : Prop := e = .returned (.tuple #[]) ∧ w'.heap[B]? = some (.cells cs ty) ∧ Below B w w'

theorem putObj_below {B : Nat} {w W : World} {D : Nat} {o : Obj} (h : Below B w W) (hD : B ≤ D) : Below B w (W.putObj D o) :=
  ⟨h.os, h.tape, h.output, by simpa using h.size, fun k hk => (World.putObj_heap_other (by omega)).trans (h.block k hk)⟩

theorem cell_of {W : World} {B i : Nat} {c : Array Value} {ty : TypeId} (h : W.heap[B]? = some (.cells c ty)) (hi : i < c.size) : ∃ v, W.cell? ⟨B, i, none⟩ = some v ∧ W.frozen? ⟨B, i, none⟩ = false := by
  refine ⟨c[i], ?_, ?_⟩
  · simp [World.cell?, h, hi]
  · simp [World.frozen?, h]

set_option maxRecDepth 100000 in
set_option maxHeartbeats 2000000 in
theorem take_any (first : Nat) (s : ByteArray) (B : Nat) (w : World) (cs : Array Value) (ty : TypeId) (hB : w.heap[B]? = some (.cells cs ty)) (hcs : cs.size = 195)
    (ha : ∀ p, p < s.size → (at' s p).toNat < 128) (hf : first + s.size ≤ 64) :
    Calls Tryz.prog 75 #[.pointer (some ⟨B, 0, none⟩), .int .i64 first, .string s] w (TakePost B w (tk s.data.toList first cs) ty) := by
  have hBl : B < w.heap.size := (Array.getElem?_eq_some_iff.1 hB).1
  go_enter Tryz.func75, Tryz.ntmps75
  go_wp2
  go_loopw [6] (fun _ wr => ∃ (p : Nat) (c2 : Array Value), p ≤ s.size ∧ c2.size = 195 ∧ tk (s.data.toList.drop p) (first + p) c2 = tk s.data.toList first cs ∧ wr.heap[w.heap.size]? = some (.stringIter s p) ∧ wr.heap[B]? = some (.cells c2 ty) ∧ Below B w wr)
    (fun _ wr => s.size - wr.iterPos w.heap.size)
  case atStart =>
    refine ⟨0, cs, Nat.zero_le _, hcs, rfl, World.iter_heap w s 0, ?_, ?_⟩
    · exact (Below.heap_alloc _ _ _ hBl).trans hB
    · exact (Below.refl _ _).alloc (Nat.le_of_lt hBl) _
  case round =>
    obtain ⟨p, c2, hp, hz, ht, hit, hb, hbl⟩ := hrel
    have hit' := hide hit
    by_cases hlt : p < s.size
    · have hnx := fun ty => run_next_at wr w.heap.size s p ty hit hlt
      rw [dec_ascii s p (ha p hlt)] at hnx
      rw [drop_at s p hlt, tk] at ht
      have hx := ha p hlt
      generalize at' s p = x at *
      have hb1 : (wr.putObj w.heap.size (.stringIter s (p + 1))).heap[B]? = some (.cells c2 ty) := (World.putObj_heap_other (by omega)).trans hb
      have hi1 : (wr.putObj w.heap.size (.stringIter s (p + 1))).heap[w.heap.size]? = some (.stringIter s (p + 1)) := World.putObj_heap_same (Array.getElem?_eq_some_iff.1 hit).1
      have hl1 := putObj_below (o := .stringIter s (p + 1)) hbl (Nat.le_of_lt hBl)
      generalize wr.putObj w.heap.size (.stringIter s (p + 1)) = W1 at *
      obtain ⟨v1, c1, f1⟩ := cell_of hb1 (i := first + p) (by omega)
      have hb2 := heap_setCell_same W1 B (first + p) c2 ty (.int .u8 (x.toNat : Int)) hb1
      obtain ⟨v2, d1, g1⟩ := cell_of hb2 (i := 64 + x.toNat) (by simp; omega)
      have hb3 := heap_setCell_same _ B (64 + x.toNat) _ ty (.int .i8 (((first + p : Nat) : Int) + 1)) hb2
      have hi3 : ((W1.setCell ⟨B, first + p, none⟩ (.int .u8 (x.toNat : Int))).setCell ⟨B, 64 + x.toNat, none⟩ (.int .i8 (((first + p : Nat) : Int) + 1))).heap[w.heap.size]? = some (.stringIter s (p + 1)) := by
        rw [Below.heap_setCell _ _ _ _ (by show w.heap.size ≠ B; omega), Below.heap_setCell _ _ _ _ (by show w.heap.size ≠ B; omega)]
        exact hi1
      have hl3 : Below B w ((W1.setCell ⟨B, first + p, none⟩ (.int .u8 (x.toNat : Int))).setCell ⟨B, 64 + x.toNat, none⟩ (.int .i8 (((first + p : Nat) : Int) + 1))) := (hl1.setCell (Nat.le_refl _) _).setCell (Nat.le_refl _) _
      have Hb := hide hb3
      have Hi := hide hi3
      have Hl := hide hl3
      have Ht := hide ht
      clear hb hb1 hb2 hb3 hi1 hi3 hl1 hl3 hbl hit ht hB ha
      have e1 : (((first + p : Nat) : Int)) = first + p := by omega
      rw [e1] at Hb Hi Hl
      go_wp2
      go_roundw
      case rel =>
        exact ⟨p + 1, _, by omega, by simp [hz], by rw [← unhide Ht]; rfl, unhide Hi, unhide Hb, unhide Hl⟩
      case measure =>
        have e2 : wr.iterPos w.heap.size = p := by simp [World.iterPos, unhide hit']
        rw [e2]
        simp [World.iterPos, unhide Hi]
        omega
    · have hnx := fun ty => run_next_over wr w.heap.size s p ty hit hlt
      have : p = s.size := by omega
      subst this
      rw [List.drop_of_length_le (by simp), tk] at ht
      subst ht
      clear hit hB ha
      go_wp2
      go_end0
      exact ⟨rfl, hb, hbl⟩

/-- the cells of the two coders. -/
abbrev sixesS : ByteArray := ⟨#[65, 66, 67, 68, 69, 70, 71, 72, 73, 74, 75, 76, 77, 78, 79, 80, 81, 82, 83, 84, 85, 86, 87, 88, 89, 90, 97, 98, 99, 100, 101, 102, 103, 104, 105, 106, 107, 108, 109, 110, 111, 112, 113, 114, 115, 116, 117, 118, 119, 120, 121, 122, 48, 49, 50, 51, 52, 53, 54, 55, 56, 57, 43, 47]⟩
abbrev digitsS : ByteArray := ⟨#[48, 49, 50, 51, 52, 53, 54, 55, 56, 57, 97, 98, 99, 100, 101, 102]⟩
abbrev greatsS : ByteArray := ⟨#[65, 66, 67, 68, 69, 70]⟩
def fresh (b k t : Int) : Array Value := (List.replicate 64 (Value.int .u8 0) ++ List.replicate 128 (Value.int .i8 0) ++ [Value.int .i64 b, Value.int .i64 k, Value.int .i64 t]).toArray
def tabB : Array Value := tk sixesS.data.toList 0 (fresh 3 4 6)
def tabH : Array Value := tk digitsS.data.toList 0 (tk greatsS.data.toList 10 (fresh 1 2 4))
theorem fresh_B : (((Tryz.zeroCells111.setIfInBounds 192 (Value.int IntKind.i64 3)).setIfInBounds 193 (Value.int IntKind.i64 4)).setIfInBounds 194 (Value.int IntKind.i64 6)) = fresh 3 4 6 := by kernel_rfl
theorem fresh_H : (((Tryz.zeroCells111.setIfInBounds 192 (Value.int IntKind.i64 1)).setIfInBounds 193 (Value.int IntKind.i64 2)).setIfInBounds 194 (Value.int IntKind.i64 4)) = fresh 1 2 4 := by kernel_rfl
theorem size_B : (fresh 3 4 6).size = 195 := by kernel_rfl
theorem size_H : (fresh 1 2 4).size = 195 := by kernel_rfl
theorem size_G : (tk greatsS.data.toList 10 (fresh 1 2 4)).size = 195 := by kernel_rfl
/-- a coder lies in a block. -/
def CodB (w : World) (B : Nat) : Prop := w.heap[B]? = some (.cells tabB 111)
def CodH (w : World) (B : Nat) : Prop := w.heap[B]? = some (.cells tabH 111)
set_option maxRecDepth 100000 in
theorem hexCoder_any (w : World) :
    Calls Tryz.prog 46 #[] w fun e w' => e = .returned (.pointer (some ⟨w.heap.size, 0, none⟩)) ∧ CodH w' w.heap.size ∧ Below w.heap.size w w' := by
  have H := hide (take_any 10 greatsS w.heap.size (w.alloc (.cells (fresh 1 2 4) 111)) (fresh 1 2 4) 111 (World.alloc_heap_new _ _) size_H (by decide +kernel) (by decide))
  have H2 := hide fun w1 hc => take_any 0 digitsS w.heap.size w1 (tk greatsS.data.toList 10 (fresh 1 2 4)) 111 hc size_G (by decide +kernel) (by decide)
  go_enter Tryz.func46, Tryz.ntmps46
  go_wp2_with fail
  rw [fresh_H]
  refine (unhide H).mono ?_
  rintro e w1 ⟨rfl, hc, hb⟩
  have HC := hide (((unhide H2) w1 hc).mono (R' := fun e w' => e = .returned (.tuple #[]) ∧ CodH w' w.heap.size ∧ Below w.heap.size w1 w') (fun _ _ h => h))
  have HB := hide hb
  clear hc hb H H2
  generalize fresh 1 2 4 = fr at *
  go_wp2_with fail
  refine (unhide HC).mono ?_
  rintro e w2 ⟨rfl, hc, hb⟩
  have HC2 := hide hc
  have HB2 := hide hb
  clear hc hb HC
  go_wp2
  go_ret
  exact ⟨rfl, unhide HC2, (((Below.refl _ _).alloc (Nat.le_refl _) _).trans (unhide HB)).trans (unhide HB2)⟩
end Go.Proofs.YtmjfkdpaeenfgaaGreatDoor.C

/-
  Base64 and digits, plainly: what the document says of layer 5. Conditions: none.
-/
namespace Go.Proofs.YtmjfkdpaeenfgaaGreatDoor.Cd

/-- the sign of a number in base64, and in digits. -/
def sx (n : Nat) : UInt8 := ([65, 66, 67, 68, 69, 70, 71, 72, 73, 74, 75, 76, 77, 78, 79, 80, 81, 82, 83, 84, 85, 86, 87, 88, 89, 90, 97, 98, 99, 100, 101, 102, 103, 104, 105, 106, 107, 108, 109, 110, 111, 112, 113, 114, 115, 116, 117, 118, 119, 120, 121, 122, 48, 49, 50, 51, 52, 53, 54, 55, 56, 57, 43, 47] : List UInt8).getD n 0
def dx (n : Nat) : UInt8 := ([48, 49, 50, 51, 52, 53, 54, 55, 56, 57, 97, 98, 99, 100, 101, 102] : List UInt8).getD n 0
/-- what a sign tells. -/
def nx (x : UInt8) : Option Nat :=
  if 65 ≤ x.toNat ∧ x.toNat ≤ 90 then some (x.toNat - 65) else if 97 ≤ x.toNat ∧ x.toNat ≤ 122 then some (x.toNat - 71)
  else if 48 ≤ x.toNat ∧ x.toNat ≤ 57 then some (x.toNat + 4) else if x.toNat = 43 then some 62 else if x.toNat = 47 then some 63 else none
def nh (x : UInt8) : Option Nat :=
  if 48 ≤ x.toNat ∧ x.toNat ≤ 57 then some (x.toNat - 48) else if 97 ≤ x.toNat ∧ x.toNat ≤ 102 then some (x.toNat - 87)
  else if 65 ≤ x.toNat ∧ x.toNat ≤ 70 then some (x.toNat - 55) else none

/-- the bits of one to three bytes. -/
def pk : List UInt8 → Nat
  | [a] => a.toNat * 65536
  | [a, b] => a.toNat * 65536 + b.toNat * 256
  | [a, b, c] => a.toNat * 65536 + b.toNat * 256 + c.toNat
  | _ => 0
/-- a code: its signs, what they tell, how many bytes, signs, bits. -/
structure Kd where
  nm : UInt8 → Option Nat
  sg : Nat → UInt8
  bs : Nat
  wd : Nat
  bt : Nat
def kB : Kd := ⟨nx, sx, 3, 4, 6⟩
def kH : Kd := ⟨nh, dx, 1, 2, 4⟩
/-- the signs of a group of bytes. -/
def gr (k : Kd) (g : List UInt8) : List UInt8 := (List.range k.wd).map fun i => if 8 * g.length ≤ i * k.bt then 61 else k.sg (pk g / 2 ^ (24 - k.bt * (i + 1)) % 2 ^ k.bt)
/-- the bits of signs, and how many there are ahead of the fill. -/
def lp (k : Kd) : List UInt8 → Nat → Nat → Nat → Option (Nat × Nat)
  | [], _, b, c => some (b, c)
  | x :: r, i, b, c => match k.nm x with
    | some n => if c = i then lp k r (i + 1) (b + n * 2 ^ (24 - k.bt * (i + 1))) (c + 1) else none
    | none => if x = 61 ∧ 2 ≤ i then lp k r (i + 1) b c else none
def tl (k : Kd) (g : List UInt8) : Option (Nat × Nat) :=
  if g.length < k.wd then none else (lp k g 0 0 0).bind fun r => if r.1 % 2 ^ (24 - 8 * (r.2 * k.bt / 8)) = 0 then some r else none
def unp (b n : Nat) : List UInt8 := (List.range n).map fun i => UInt8.ofNat (b / 2 ^ (24 - 8 * (i + 1)))
/-- the bytes of a group of signs; is it the last one? -/
def stp (k : Kd) (last : Bool) (g : List UInt8) : Option (List UInt8) := (tl k g).bind fun r => if r.2 < k.wd ∧ last = false then none else some (unp r.1 (r.2 * k.bt / 8))
/-- pieces of a length. -/
def chs (n : Nat) : Nat → List UInt8 → List (List UInt8)
  | 0, _ => []
  | f + 1, l => if l = [] then [] else l.take n :: chs n f (l.drop n)
def dcs (k : Kd) : List (List UInt8) → Option (List UInt8)
  | [] => some []
  | g :: r => (stp k r.isEmpty g).bind fun t => (dcs k r).map (t ++ ·)
def enc (k : Kd) (l : List UInt8) : List UInt8 := (chs k.bs l.length l).flatMap (gr k)
def dec (k : Kd) (l : List UInt8) : Option (List UInt8) := dcs k (chs k.wd l.length l)
end Go.Proofs.YtmjfkdpaeenfgaaGreatDoor.Cd

/-
  What code.signs.sign, number, coder.whole and pack answer. Conditions: none.
-/
namespace Go.Proofs.YtmjfkdpaeenfgaaGreatDoor.C
open Go Go.RowKit Cd
attribute [local go_sem] Oper.semAt_some

/-- a coder of a kind lies in a block. -/
structure Cod (k : Kd) (w : World) (B : Nat) : Prop where
  pr : ∀ n, n < 2 ^ k.bt → w.cell? ⟨B, n, none⟩ = some (.int .u8 ((k.sg n).toNat : Int))
  nu : ∀ n, n < 128 → w.cell? ⟨B, 64 + n, none⟩ = some (.int .i8 (match k.nm (UInt8.ofNat n) with | some m => (m : Int) + 1 | none => 0))
  by' : w.cell? ⟨B, 192, none⟩ = some (.int .i64 k.bs)
  wi : w.cell? ⟨B, 193, none⟩ = some (.int .i64 k.wd)
  bi : w.cell? ⟨B, 194, none⟩ = some (.int .i64 k.bt)
  lt : B < w.heap.size
theorem Cod.below {k : Kd} {w w' : World} {B X : Nat} (h : Cod k w B) (hX : B < X) (hb : Below X w w') : Cod k w' B :=
  ⟨fun n hn => (hb.cell hX).trans (h.pr n hn), fun n hn => (hb.cell hX).trans (h.nu n hn), (hb.cell hX).trans h.by', (hb.cell hX).trans h.wi, (hb.cell hX).trans h.bi, Nat.lt_of_lt_of_le h.lt hb.size⟩
theorem prB : (List.range 64).map (fun n => tabB[n]?) = (List.range 64).map (fun n => some (.int .u8 ((sx n).toNat : Int))) := by kernel_rfl
theorem prH : (List.range 16).map (fun n => tabH[n]?) = (List.range 16).map (fun n => some (.int .u8 ((dx n).toNat : Int))) := by kernel_rfl
theorem nuB : (List.range 128).map (fun n => tabB[64 + n]?) = (List.range 128).map (fun n => some (.int .i8 (match nx (UInt8.ofNat n) with | some m => (m : Int) + 1 | none => 0))) := by kernel_rfl
theorem nuH : (List.range 128).map (fun n => tabH[64 + n]?) = (List.range 128).map (fun n => some (.int .i8 (match nh (UInt8.ofNat n) with | some m => (m : Int) + 1 | none => 0))) := by kernel_rfl
theorem cell_tab {w : World} {B : Nat} {c : Array Value} {ty : TypeId} (h : w.heap[B]? = some (.cells c ty)) (i : Nat) : w.cell? ⟨B, i, none⟩ = c[i]? := by
  simp [World.cell?, h]
theorem codB {w : World} {B : Nat} (h : CodB w B) : Cod kB w B :=
  ⟨fun n hn => (cell_tab h n).trans (List.map_inj_left.1 prB n (List.mem_range.2 hn)), fun n hn => (cell_tab h _).trans (List.map_inj_left.1 nuB n (List.mem_range.2 hn)),
    (cell_tab h _).trans (by kernel_rfl), (cell_tab h _).trans (by kernel_rfl), (cell_tab h _).trans (by kernel_rfl), (Array.getElem?_eq_some_iff.1 h).1⟩
theorem codH {w : World} {B : Nat} (h : CodH w B) : Cod kH w B :=
  ⟨fun n hn => (cell_tab h n).trans (List.map_inj_left.1 prH n (List.mem_range.2 hn)), fun n hn => (cell_tab h _).trans (List.map_inj_left.1 nuH n (List.mem_range.2 hn)),
    (cell_tab h _).trans (by kernel_rfl), (cell_tab h _).trans (by kernel_rfl), (cell_tab h _).trans (by kernel_rfl), (Array.getElem?_eq_some_iff.1 h).1⟩

set_option maxRecDepth 100000 in
theorem sign_any (k : Kd) (B n : Nat) (w : World) (h : Cod k w B) (hn : n < 2 ^ k.bt) (h64 : n < 64) :
    Calls Tryz.prog 105 #[.pointer (some ⟨B, 0, none⟩), .int .i64 n] w fun e w' => e = .returned (.int .u8 ((k.sg n).toNat : Int)) ∧ w' = w := by
  have hc := h.pr n hn
  clear h hn
  go_enter Tryz.func105, Tryz.ntmps105
  go_wp2
  go_ret
  exact ⟨rfl, rfl⟩

/-- what number answers. -/
def nv (k : Kd) (n : Nat) : Int × Bool := if n < 128 then (match k.nm (UInt8.ofNat n) with | some m => ((m : Int), true) | none => (0, false)) else (0, false)
set_option maxRecDepth 100000 in
theorem number_any (k : Kd) (B n : Nat) (w : World) (h : Cod k w B) (hm : ∀ x m, k.nm x = some m → m < 64) :
    Calls Tryz.prog 188 #[.pointer (some ⟨B, 0, none⟩), .int .i32 n] w fun e w' => e = .returned (.tuple #[.int .i64 (nv k n).1, .bool (nv k n).2]) ∧ w' = w := by
  unfold nv
  by_cases h1 : n < 128
  · rw [if_pos h1]
    have hc := h.nu n h1
    have h1' : ¬ (128 : Int) ≤ n := by omega
    cases hx : k.nm (UInt8.ofNat n) with
    | none =>
      rw [hx] at hc
      clear h hx hm
      go_enter Tryz.func188, Tryz.ntmps188
      go_wp2
      go_ret2
      exact ⟨rfl, rfl⟩
    | some m =>
      rw [hx] at hc
      have hm' := hm _ _ hx
      have e1 : ((m : Int) + 1 == 0) = false := by simp; omega
      have e2 : wrap64 ((m : Int) + 1 - 1) = m := by unfold wrap64; omega
      clear h hx hm
      go_enter Tryz.func188, Tryz.ntmps188
      go_wp2
      go_ret2
      exact ⟨by simp, rfl⟩
  · rw [if_neg h1]
    have h1' : (128 : Int) ≤ n := by omega
    clear h hm
    go_enter Tryz.func188, Tryz.ntmps188
    go_wp2
    go_ret2
    exact ⟨rfl, rfl⟩

set_option maxRecDepth 100000 in
theorem whole_any (k : Kd) (B c t : Nat) (w : World) (h : Cod k w B) (hk : k.bt = t) (ht : t ≤ 6) (hc : c ≤ 4) :
    Calls Tryz.prog 187 #[.pointer (some ⟨B, 0, none⟩), .int .i64 c] w fun e w' => e = .returned (.int .i64 ((c * k.bt / 8 : Nat) : Int)) ∧ w' = w := by
  have hb := h.bi
  rw [hk] at hb ⊢
  clear h hk
  have e1 : (c : Int) * t = ((c * t : Nat) : Int) := by simp
  have e2 : c * t ≤ 24 := Nat.mul_le_mul hc ht
  rw [show ((c * t / 8 : Nat) : Int) = ((c * t : Nat) : Int) / 8 by omega]
  generalize c * t = m at *
  have e3 : wrap64 (m : Int) = m := by unfold wrap64; omega
  go_enter Tryz.func187, Tryz.ntmps187
  go_wp2
  go_ret
  refine ⟨?_, rfl⟩
  rfl

theorem getD_of {s : ByteArray} {l : List UInt8} (h : s.data.toList = l) (i : Nat) (hi : i < s.size) : s[i] = l.getD i 0 := by
  subst h
  have hl : i < s.data.toList.length := by simpa using hi
  rw [List.getD_eq_getElem?_getD, List.getElem?_eq_getElem hl]
  rfl
theorem ofInt_i64 (a : Nat) (ha : a < 2 ^ 63) : (BitVec.ofInt 64 (a : Int)).toNat = a := by
  rw [BitVec.ofInt_natCast, BitVec.toNat_ofNat]; exact Nat.mod_eq_of_lt (by omega)
theorem wrap_i64 (a : Nat) (ha : a < 2 ^ 63) : IntKind.i64.wrap (a : Int) = a := by
  simp only [IntKind.wrap, IntKind.bits, IntKind.signed]
  simp
  omega
theorem i64_or_nat (a b : Nat) (ha : a < 2 ^ 63) (hb : b < 2 ^ 63) : bits .or .i64 (a : Int) (b : Int) = ((a ||| b : Nat) : Int) := by
  have hx : a ||| b < 2 ^ 63 := Nat.or_lt_two_pow ha hb
  show IntKind.i64.wrap ((BitVec.ofInt 64 (a : Int) ||| BitVec.ofInt 64 (b : Int)).toNat : Int) = _
  rw [BitVec.toNat_or, ofInt_i64 a ha, ofInt_i64 b hb, wrap_i64 _ hx]
theorem i64_and_nat (a b : Nat) (ha : a < 2 ^ 63) (hb : b < 2 ^ 63) : bits .and .i64 (a : Int) (b : Int) = ((a &&& b : Nat) : Int) := by
  have hx : a &&& b < 2 ^ 63 := Nat.and_lt_two_pow _ hb
  show IntKind.i64.wrap ((BitVec.ofInt 64 (a : Int) &&& BitVec.ofInt 64 (b : Int)).toNat : Int) = _
  rw [BitVec.toNat_and, ofInt_i64 a ha, ofInt_i64 b hb, wrap_i64 _ hx]
theorem and_mask (x k : Nat) (hx : x < 2 ^ 63) (hk : 2 ^ k - 1 < 2 ^ 63) : bits .and .i64 (x : Int) ((2 ^ k - 1 : Nat) : Int) = ((x % 2 ^ k : Nat) : Int) := by
  rw [i64_and_nat x _ hx hk, Nat.and_two_pow_sub_one_eq_mod]
/-- bits that do not meet. -/
theorem or_hi (x y k : Nat) (hx : x < 2 ^ k) (h : y * 2 ^ k + x < 2 ^ 63) : bits .or .i64 (x : Int) ((y * 2 ^ k : Nat) : Int) = ((y * 2 ^ k + x : Nat) : Int) := by
  rw [i64_or_nat x (y * 2 ^ k) (by omega) (by omega), Nat.or_comm, ← Nat.shiftLeft_eq, Nat.shiftLeft_add_eq_or_of_lt hx]
theorem or_lo (x y k : Nat) (hy : y < 2 ^ k) (h : x * 2 ^ k + y < 2 ^ 63) : bits .or .i64 ((x * 2 ^ k : Nat) : Int) (y : Int) = ((x * 2 ^ k + y : Nat) : Int) := by
  rw [i64_or_nat (x * 2 ^ k) y (by omega) (by omega), ← Nat.shiftLeft_eq, Nat.shiftLeft_add_eq_or_of_lt hy]
theorem or_zero (y : Nat) (h : y < 2 ^ 63) : bits .or .i64 0 (y : Int) = y := by
  have := or_lo 0 y 63 h (by omega)
  simpa using this
set_option maxRecDepth 100000 in
theorem pack1 (s : ByteArray) (a : UInt8) (w : World) (h : s.data.toList = [a]) :
    Calls Tryz.prog 104 #[.string s] w fun e w' => e = .returned (.int .i64 (pk s.data.toList)) ∧ w' = w := by
  have hz : s.size = 1 := by have := congrArg List.length h; simpa using this
  have hz' : (s.size : Int) = 1 := by omega
  have h0 : s[0] = a := getD_of h 0 (by omega)
  rw [h]
  have ha := a.toNat_lt
  have e1 : wrap64 (a.toNat : Int) = a.toNat := by unfold wrap64; omega
  have e2 : wrap64 ((a.toNat : Int) * 65536) = ((a.toNat * 65536 : Nat) : Int) := by unfold wrap64; omega
  have e3 := or_zero (a.toNat * 65536) (by omega)
  show Calls _ _ _ _ fun e w' => e = .returned (.int .i64 ((a.toNat * 65536 : Nat) : Int)) ∧ w' = w
  generalize a.toNat * 65536 = x at *
  clear ha
  go_enter Tryz.func104, Tryz.ntmps104
  go_wp2
  go_ret
  exact ⟨rfl, rfl⟩
set_option maxRecDepth 100000 in
theorem pack2 (s : ByteArray) (a b : UInt8) (w : World) (h : s.data.toList = [a, b]) :
    Calls Tryz.prog 104 #[.string s] w fun e w' => e = .returned (.int .i64 (pk s.data.toList)) ∧ w' = w := by
  have hz : s.size = 2 := by have := congrArg List.length h; simpa using this
  have hz' : (s.size : Int) = 2 := by omega
  have h0 : s[0] = a := getD_of h 0 (by omega)
  have h1 : s[1] = b := getD_of h 1 (by omega)
  rw [h]
  have ha := a.toNat_lt
  have hb := b.toNat_lt
  have e1 : wrap64 (a.toNat : Int) = a.toNat := by unfold wrap64; omega
  have e2 : wrap64 ((a.toNat : Int) * 65536) = ((a.toNat * 65536 : Nat) : Int) := by unfold wrap64; omega
  have e3 : wrap64 (b.toNat : Int) = b.toNat := by unfold wrap64; omega
  have e4 : wrap64 ((b.toNat : Int) * 256) = ((b.toNat * 256 : Nat) : Int) := by unfold wrap64; omega
  have e5 := or_zero (b.toNat * 256) (by omega)
  have e6 := or_hi (b.toNat * 256) a.toNat 16 (by omega) (by omega)
  show Calls _ _ _ _ fun e w' => e = .returned (.int .i64 ((a.toNat * 65536 + b.toNat * 256 : Nat) : Int)) ∧ w' = w
  rw [show 2 ^ 16 = 65536 from rfl] at e6
  generalize b.toNat * 256 = y at *
  generalize a.toNat * 65536 = x at *
  generalize x + y = z at *
  clear ha hb
  go_enter Tryz.func104, Tryz.ntmps104
  go_wp2
  go_ret
  exact ⟨rfl, rfl⟩
set_option maxRecDepth 100000 in
theorem pack3 (s : ByteArray) (a b c : UInt8) (w : World) (h : s.data.toList = [a, b, c]) :
    Calls Tryz.prog 104 #[.string s] w fun e w' => e = .returned (.int .i64 (pk s.data.toList)) ∧ w' = w := by
  have hz : s.size = 3 := by have := congrArg List.length h; simpa using this
  have hz' : (s.size : Int) = 3 := by omega
  have h0 : s[0] = a := getD_of h 0 (by omega)
  have h1 : s[1] = b := getD_of h 1 (by omega)
  have h2 : s[2] = c := getD_of h 2 (by omega)
  rw [h]
  have ha := a.toNat_lt
  have hb := b.toNat_lt
  have hc := c.toNat_lt
  have e1 : wrap64 (a.toNat : Int) = a.toNat := by unfold wrap64; omega
  have e2 : wrap64 ((a.toNat : Int) * 65536) = ((a.toNat * 65536 : Nat) : Int) := by unfold wrap64; omega
  have e3 : wrap64 (b.toNat : Int) = b.toNat := by unfold wrap64; omega
  have e4 : wrap64 ((b.toNat : Int) * 256) = ((b.toNat * 256 : Nat) : Int) := by unfold wrap64; omega
  have e7 : wrap64 (c.toNat : Int) = c.toNat := by unfold wrap64; omega
  have e5 := or_zero c.toNat (by omega)
  have e8 := or_hi c.toNat b.toNat 8 (by omega) (by omega)
  have e6 := or_hi (b.toNat * 2 ^ 8 + c.toNat) a.toNat 16 (by omega) (by omega)
  show Calls _ _ _ _ fun e w' => e = .returned (.int .i64 ((a.toNat * 65536 + b.toNat * 256 + c.toNat : Nat) : Int)) ∧ w' = w
  rw [Nat.add_assoc]
  rw [show 2 ^ 8 = 256 from rfl] at e8 e6
  rw [show 2 ^ 16 = 65536 from rfl] at e6
  generalize b.toNat * 256 = y at *
  generalize a.toNat * 65536 = x at *
  generalize y + c.toNat = u at *
  generalize x + u = z at *
  clear ha hb hc
  go_enter Tryz.func104, Tryz.ntmps104
  go_wp2
  go_ret
  exact ⟨rfl, rfl⟩
theorem pack_any (s : ByteArray) (w : World) (h1 : 1 ≤ s.size) (h3 : s.size ≤ 3) :
    Calls Tryz.prog 104 #[.string s] w fun e w' => e = .returned (.int .i64 (pk s.data.toList)) ∧ w' = w := by
  have hl : s.data.toList.length = s.size := by simp
  match hs : s.data.toList with
  | [] => rw [hs] at hl; simp at hl; omega
  | [a] => rw [← hs]; exact pack1 s a w hs
  | [a, b] => rw [← hs]; exact pack2 s a b w hs
  | [a, b, c] => rw [← hs]; exact pack3 s a b c w hs
  | a :: b :: c :: d :: r => rw [hs] at hl; simp at hl; omega
end Go.Proofs.YtmjfkdpaeenfgaaGreatDoor.C

/-
  The iterator of package code: 'groups' hands over a text's pieces of one length, each with its place. Conditions: none.
-/
namespace Go.Proofs.YtmjfkdpaeenfgaaGreatDoor.C
open Go Go.RowKit Go.Shelf Cd
attribute [local go_sem] Oper.semAt_some

/-- a piece of a text: its place. -/
structure Pc (s : ByteArray) where
  p : Nat
  hp : p < s.size
/-- its bytes. -/
abbrev Pc.g {s : ByteArray} (n : Nat) (x : Pc s) : ByteArray := s.extract x.p (min (x.p + n) s.size)
/-- the pieces from a place on. -/
def al (s : ByteArray) (n : Nat) : Nat → Nat → List (Pc s)
  | 0, _ => []
  | f + 1, p => if h : p < s.size then ⟨p, h⟩ :: al s n f (p + n) else []
def all (s : ByteArray) (n : Nat) : List (Pc s) := al s n s.size 0
theorem al_cons (s : ByteArray) (n f p : Nat) (hn : 1 ≤ n) (h : p < s.size) (hf : s.size ≤ p + f) : ∃ f', f = f' + 1 ∧ al s n f p = ⟨p, h⟩ :: al s n f' (p + n) ∧ s.size ≤ p + n + f' := by
  cases f with
  | zero => omega
  | succ f => exact ⟨f, rfl, by rw [al, dif_pos h], by omega⟩
theorem al_end (s : ByteArray) (n f p : Nat) (h : ¬ p < s.size) : al s n f p = [] := by
  cases f with
  | zero => rfl
  | succ f => rw [al, dif_neg h]

theorem groups_any (s : ByteArray) (n : Nat) (w : World) :
    Calls Tryz.prog 76 #[.string s, .int .i64 n] w fun e w' => e = .returned (.func (.func 103) #[] #[.pointer (some ⟨w.heap.size, 0, none⟩), .pointer (some ⟨w.heap.size + 1, 0, none⟩)]) ∧ w' = (w.alloc (.cells #[.string s] 9)).alloc (.cells #[.int .i64 n] 3) := by
  go_enter Tryz.func76, Tryz.ntmps76
  go_wp2
  go_ret
  exact ⟨rfl, rfl⟩

/-- what a round must keep for the iterator: its own two boxes. -/
def Two (p q : Nat) (W W' : World) : Prop := W'.heap[p]? = W.heap[p]? ∧ W'.heap[q]? = W.heap[q]?
theorem Two.trans {p q : Nat} {A B C : World} (h : Two p q A B) (k : Two p q B C) : Two p q A C := ⟨k.1.trans h.1, k.2.trans h.2⟩
theorem Two.book {p q : Nat} {w : World} (hp : p < w.heap.size) (hq : q < w.heap.size) (W : World) (l : Nat) (o o' : Obj) (hl : w.heap.size ≤ l) (_ : W.heap[l]? = some o) (_ : o.isCells = false) (_ : o.isWalk = false) : Two p q W (W.putObj l o') :=
  ⟨World.putObj_heap_other (by omega), World.putObj_heap_other (by omega)⟩

set_option maxRecDepth 100000 in
set_option maxHeartbeats 2000000 in
theorem groups1_stops (m : Nat) (hm : 1 ≤ m) (Bs Bn n : Nat) (s : ByteArray) (w : World) (hn : 1 ≤ n) (hn4 : n ≤ 4) (hs : s.size ≤ 2000)
    (hBs : w.cell? ⟨Bs, 0, none⟩ = some (.string s)) (hBn : w.cell? ⟨Bn, 0, none⟩ = some (.int .i64 n)) :
    SeqStopsK Fence.wide m Tryz.prog 103 #[.pointer (some ⟨Bs, 0, none⟩), .pointer (some ⟨Bn, 0, none⟩)] (fun x : Pc s => #[.int .i64 x.p, .string (x.g n)]) (Two Bs Bn)
      (fun xs => xs = all s n) (fun pre => pre <+: all s n) s.size w := fun l J Jx W hW hJ hJx hY h0 => by
  have hbs := (hW.cell (p := ⟨Bs, 0, none⟩) (lt_of_cell hBs)).trans hBs
  have hbn := (hW.cell (p := ⟨Bn, 0, none⟩) (lt_of_cell hBn)).trans hBn
  clear hBs hBn hW
  refine callsIn_of_wp Tryz.func103 rfl trivial ?_ rfl
  simp only [Tryz.ntmps103, List.size_toArray, List.length_cons, List.length_nil, Nat.reduceAdd, Nat.reduceSub, Array.replicate_succ, Array.replicate_zero, List.push_toArray, List.append_toArray, List.nil_append, List.cons_append]
  gi_wp2
  gi_loopw [4] (fun i wr => ∃ (pre : List (Pc s)) (f p : Nat), pre ++ al s n f p = all s n ∧ s.size ≤ p + f ∧ pre.length ≤ p ∧ p ≤ s.size + 4 ∧ i = .int .i64 (p : Int) ∧ J pre wr ∧ wr.cell? ⟨Bs, 0, none⟩ = some (.string s) ∧ wr.cell? ⟨Bn, 0, none⟩ = some (.int .i64 n))
    (fun i _ => s.size - (intOf i).toNat)
  case atStart => exact ⟨[], s.size, 0, rfl, by omega, Nat.le_refl _, by omega, rfl, h0, hbs, hbn⟩
  case round =>
    obtain ⟨pre, f, p, hl, hf, hpl, hp4, rfl, hJs, ha, ht⟩ := hrel
    by_cases hlt : p < s.size
    · obtain ⟨f', rfl, hal, hf'⟩ := al_cons s n f p hn hlt hf
      rw [hal] at hl
      obtain ⟨fn, tmps, assign, body, hy, hR⟩ := hY _ ⟨p, hlt⟩ _ hJs (by omega)
      have Hl := hide hl
      have Hf := hide hf'
      have Hpl := hide hpl
      have Hlt := hide hlt
      have hlt' : (p : Int) < s.size := by omega
      have hp' : (p : Int) ≤ 2000 := by omega
      have hn' : (n : Int) ≤ 4 := by omega
      have hs' : (s.size : Int) ≤ 2000 := by omega
      clear hl hal hf hf' hpl hbs hbn
      by_cases hq : p + n ≤ s.size
      · have hsl := fun wx => run_slice_string (P := Tryz.prog) (w := wx) 9 s .i64 .i64 (p : Int) ((p : Int) + n) Tryz.underlying9 (by omega) (by omega) (by omega)
        rw [show ((p : Int)).toNat = p by omega, show ((p : Int) + n).toNat = p + n by omega] at hsl
        have hg : Pc.g n (⟨p, hlt⟩ : Pc s) = s.extract p (p + n) := by show s.extract p (min (p + n) s.size) = _; rw [Nat.min_eq_left hq]
        rw [hg] at hy
        have hq' : (p : Int) + n ≤ s.size := by omega
        clear hg
        gi_wp2
        refine hR.mono ?_
        rintro e W3 (⟨rfl, hJ3, hk3⟩ | ⟨rfl, hJx3⟩)
        · have h3s := (World.cell?_of_block (a := ⟨Bs, 0, none⟩) hk3.1).trans ha
          have h3n := (World.cell?_of_block (a := ⟨Bn, 0, none⟩) hk3.2).trans ht
          clear hk3
          gi_wp2
          go_roundw
          case rel =>
            refine ⟨_, f', p + n, ?_, unhide Hf, ?_, by omega, by simp, hJ3, h3s, h3n⟩
            · rw [List.append_assoc]
              exact unhide Hl
            · have := unhide Hpl
              simp
              omega
          case measure => simp [intOf]; omega
        · gi_wp2
          refine bodyPost_ret (results_none rfl _ _ _) rfl ?_
          exact ⟨⟨_, rfl⟩, .inr ⟨_, ⟨al s n f' (p + n), by rw [List.append_assoc]; exact unhide Hl⟩, hJx3⟩⟩
      · have hsl := fun wx => run_slice_string (P := Tryz.prog) (w := wx) 9 s .i64 .i64 (p : Int) (s.size : Int) Tryz.underlying9 (by omega) (by omega) (by omega)
        rw [show ((p : Int)).toNat = p by omega, show ((s.size : Int)).toNat = s.size by omega] at hsl
        have hg : Pc.g n (⟨p, hlt⟩ : Pc s) = s.extract p s.size := by show s.extract p (min (p + n) s.size) = _; rw [Nat.min_eq_right (by omega)]
        rw [hg] at hy
        have hq' : ¬ (p : Int) + n ≤ s.size := by omega
        clear hg
        gi_wp2
        refine hR.mono ?_
        rintro e W3 (⟨rfl, hJ3, hk3⟩ | ⟨rfl, hJx3⟩)
        · have h3s := (World.cell?_of_block (a := ⟨Bs, 0, none⟩) hk3.1).trans ha
          have h3n := (World.cell?_of_block (a := ⟨Bn, 0, none⟩) hk3.2).trans ht
          clear hk3
          gi_wp2
          go_roundw
          case rel =>
            refine ⟨_, f', p + n, ?_, unhide Hf, ?_, by omega, by simp, hJ3, h3s, h3n⟩
            · rw [List.append_assoc]
              exact unhide Hl
            · have := unhide Hpl
              simp
              omega
          case measure => simp [intOf]; omega
        · gi_wp2
          refine bodyPost_ret (results_none rfl _ _ _) rfl ?_
          exact ⟨⟨_, rfl⟩, .inr ⟨_, ⟨al s n f' (p + n), by rw [List.append_assoc]; exact unhide Hl⟩, hJx3⟩⟩
    · have hge : ¬ (p : Int) < s.size := by omega
      rw [al_end s n f p hlt, List.append_nil] at hl
      subst hl
      clear hbs hbn hf hpl
      gi_wp2
      go_end0
      first | exact ⟨⟨_, rfl⟩, .inl ⟨_, rfl, hJs⟩⟩ | exact ⟨⟨_, rfl⟩, .inl hJs⟩
end Go.Proofs.YtmjfkdpaeenfgaaGreatDoor.C
