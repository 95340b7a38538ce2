/-
  What esc.errnoOf answers at each error that package esc makes. Conditions: the package-level variables hold what the program's text lays ('Glob').
-/
import Derived.Test.YtgapoofalnakmaaDoorEErrs
import Derived.Test.YtgapoofalnakmaaDoorCErrno
import Derived.Test.YtgapoofalnakmaaDoorURules
namespace Go.Proofs.YtgapoofalnakmaaDoor.E
open Go.RowKit Go.Extern.Stop Go.Stop Go.Extern

/-- errors.Is(fault{k, x}, x), x a sentinel. -/
theorem Is_same (k : Int) (a : Addr) (w : World) :
    Calls Tryd.prog 38 #[.iface 52 (.agg #[.int .i64 k, .iface 151 (.pointer (some a))]), .iface 151 (.pointer (some a))] w fun e w' => e = .returned (.bool true) ∧ Below w.heap.size w w' := by
  obtain ⟨i, hi, hcmp⟩ := Option.map_eq_some_iff.1 compS
  obtain ⟨j, hj, hjs⟩ := Option.map_eq_some_iff.1 sizeS
  have hext36 := @run_callFunc_extern Tryd.prog 54 _ ReflectliteType.typeOf Tryd.func54 (by kernel_rfl) (by kernel_rfl) (by kernel_rfl) (by kernel_rfl)
  obtain ⟨ext, hfind, cT⟩ := cmpExt
  have hext66 := @run_callFunc_extern Tryd.prog 111 _ ext Tryd.func111 (by kernel_rfl) (by kernel_rfl) (by kernel_rfl) hfind
  clear hfind
  have tT := typeOfS
  have mR := methodComparable
  have nW := noIsF
  have uW := unwF
  have mU := methodUnwrap
  have heq := fun w => run_eql_iface_ptr_same (P := Tryd.prog) w a Tryd.underlying36 Tryd.underlying151 hi hcmp hj
  have hty := fun w => run_eql_iface_types (P := Tryd.prog) 52 151 (.agg #[.int .i64 k, .iface 151 (.pointer (some a))]) (.pointer (some a)) Tryd.underlying36 (by decide) w
  go_enter Tryd.func38, Tryd.ntmps38
  go_wp2
  refine wp_loop_rounds 2 ?_
  rw [rounds_succ]
  go_wp2
  rw [rounds_succ]
  go_wp2
  go_ret
  exact ⟨rfl, (Below.refl _ _).alloc (by simp) _⟩

/-- errors.Is(fault{k, x}, y), x and y two sentinels. -/
theorem Is_other (k : Int) (a b : Addr) (ca cb : Array Value) (ta tb : TypeId) (w : World) (hne : a ≠ b) (ha : w.heap[a.block]? = some (.cells ca ta (0, 0))) (hb : w.heap[b.block]? = some (.cells cb tb (0, 0))) :
    Calls Tryd.prog 38 #[.iface 52 (.agg #[.int .i64 k, .iface 151 (.pointer (some a))]), .iface 151 (.pointer (some b))] w fun e w' => e = .returned (.bool false) ∧ Below w.heap.size w w' := by
  obtain ⟨i, hi, hcmp⟩ := Option.map_eq_some_iff.1 compS
  obtain ⟨j, hj, hjs⟩ := Option.map_eq_some_iff.1 sizeS
  have hext36 := @run_callFunc_extern Tryd.prog 54 _ ReflectliteType.typeOf Tryd.func54 (by kernel_rfl) (by kernel_rfl) (by kernel_rfl) (by kernel_rfl)
  obtain ⟨ext, hfind, cT⟩ := cmpExt
  have hext66 := @run_callFunc_extern Tryd.prog 111 _ ext Tryd.func111 (by kernel_rfl) (by kernel_rfl) (by kernel_rfl) hfind
  clear hfind
  have tT := typeOfS
  have mR := methodComparable
  have nW := noIsF
  have nE := noIsS
  have uW := unwF
  have uE := noUnwS
  have vE := noUnwsS
  have mU := methodUnwrap
  have hal : a.block < w.heap.size := (Array.getElem?_eq_some_iff.1 ha).1
  have hbl : b.block < w.heap.size := (Array.getElem?_eq_some_iff.1 hb).1
  have heq := run_eql_iface_ptr_other (P := Tryd.prog) (w.alloc (.cells #[.int .i64 k, .iface 151 (.pointer (some a))] 52)) Tryd.underlying36 Tryd.underlying151 hi hcmp hj (by rw [hjs]; decide) hne ((Below.heap_alloc _ _ _ hal).trans ha) ((Below.heap_alloc _ _ _ hbl).trans hb)
  have hty := fun w => run_eql_iface_types (P := Tryd.prog) 52 151 (.agg #[.int .i64 k, .iface 151 (.pointer (some a))]) (.pointer (some b)) Tryd.underlying36 (by decide) w
  clear ha hb hal hbl
  go_enter Tryd.func38, Tryd.ntmps38
  go_wp2
  refine wp_loop_rounds 2 ?_
  rw [rounds_succ]
  go_wp2
  rw [rounds_succ]
  go_wp2
  go_ret
  exact ⟨rfl, (Below.refl _ _).alloc (by simp) _⟩

theorem hide {p : Prop} (h : p) : Hid p := h
theorem unhide {p : Prop} (h : Hid p) : p := h

/-- where the sentinels lie: of code, of utf, and the two of esc. -/
structure Ad where
  cd : C.Ad
  ut : Addr
  us : Addr
  t : Addr
  m : Addr
/-- The package-level variables hold what the program's text lays. -/
structure Glob (a : Ad) (w : World) : Prop where
  gc : C.Glob a.cd w
  gu : U.Glob a.ut a.us w
  tx : w.cell? ⟨0, 0, none⟩ = some (.iface 151 (.pointer (some a.t)))
  mr : w.cell? ⟨1, 0, none⟩ = some (.iface 151 (.pointer (some a.m)))
  mt : a.m ≠ a.t
  hT : ∃ c t, w.heap[a.t.block]? = some (.cells c t (0, 0))
  hM : ∃ c t, w.heap[a.m.block]? = some (.cells c t (0, 0))
theorem Glob.ty {a : Ad} {w : World} (g : Glob a w) : w.cell? ⟨2, 0, none⟩ = some (.iface 104 (.agg #[.pointer (some ⟨7, 36, none⟩)])) := g.gc.ty

theorem Glob.below {a : Ad} {w w' : World} (g : Glob a w) {B : Nat} (hB : w.heap.size ≤ B) (h : Below B w w') : Glob a w' := by
  obtain ⟨gc, gu, tx, mr, mt, ⟨c1, t1, h1⟩, ⟨c2, t2, h2⟩⟩ := g
  refine ⟨gc.below hB h, gu.below hB h, ?_, ?_, mt, ⟨c1, t1, ?_⟩, ⟨c2, t2, ?_⟩⟩
  · rw [h.cell (Nat.lt_of_lt_of_le (lt_of_cell tx) hB)]; exact tx
  · rw [h.cell (Nat.lt_of_lt_of_le (lt_of_cell mr) hB)]; exact mr
  · rw [h.block _ (Nat.lt_of_lt_of_le (Array.getElem?_eq_some_iff.1 h1).1 hB)]; exact h1
  · rw [h.block _ (Nat.lt_of_lt_of_le (Array.getElem?_eq_some_iff.1 h2).1 hB)]; exact h2
theorem Glob.alloc {a : Ad} {w : World} (g : Glob a w) (o : Obj) : Glob a (w.alloc o) :=
  g.below (Nat.le_refl _) ((Below.refl _ _).alloc (Nat.le_refl _) _)

/-- a fault at a place that wraps a sentinel, one that wraps a bare byte. -/
abbrev flt (k : Int) (a : Addr) : Value := .iface 52 (.agg #[.int .i64 k, .iface 151 (.pointer (some a))])
abbrev nos (k n : Int) : Value := .iface 52 (.agg #[.int .i64 k, .iface 57 (.agg #[.int .u8 n])])

/-- errnoOf at an error in which a bare byte is found. -/
theorem errnoOf_bare (k n : Int) (a : Ad) (w : World) (g : Glob a w) :
    Calls Tryd.prog 27 #[nos k n] w fun e w' => e = .returned (.int .i64 60) ∧ Below w.heap.size w w' := by
  have gt := (g.alloc (.cells #[.int .u8 0] 57)).ty
  have H := hide (As_gives _ _ true (as2 n k) ⟨w.heap.size, 0, none⟩ (.int .u8 0) (w.alloc (.cells #[.int .u8 0] 57)) gt (by simp) (by simp))
  clear gt g
  go_enter Tryd.func27, Tryd.ntmps27
  go_wp2_with fail
  refine (unhide H).mono ?_
  rintro e w1 ⟨rfl, hb⟩
  have HB := hide hb
  clear hb
  go_wp2
  go_ret
  exact ⟨rfl, ((Below.refl _ _).alloc (Nat.le_refl _) _).trans (unhide HB)⟩

/-- what As leaves at a fault that wraps a sentinel. -/
theorem asNo (k : Int) (x : Addr) (a : Ad) (w : World) (g : Glob a w) :
    Calls Tryd.prog 37 #[flt k x, .iface 59 (.pointer (some ⟨w.heap.size, 0, none⟩))] (w.alloc (.cells #[.int .u8 0] 57)) fun e w' => e = .returned (.bool false) ∧ Hid (Below w.heap.size w w') ∧ Hid (Glob a w') ∧
      w'.cell? ⟨0, 0, none⟩ = some (.iface 151 (.pointer (some a.t))) := by
  have g1 := g.alloc (.cells #[.int .u8 0] 57)
  refine (As_gives _ _ false (as3 k x) ⟨w.heap.size, 0, none⟩ (.int .u8 0) _ g1.ty (by simp) (by simp)).mono fun e w' ⟨he, hb⟩ => ?_
  have hb' : Below w.heap.size w w' := ((Below.refl _ _).alloc (Nat.le_refl _) _).trans hb
  have g' := g.below (Nat.le_refl _) hb'
  exact ⟨he, hb', g', g'.tx⟩
/-- what Is says of a fault and its own sentinel, or another one. -/
theorem isYes (k : Int) (x : Addr) (w w1 : World) (h : Hid (Below w.heap.size w w1)) :
    Calls Tryd.prog 38 #[flt k x, .iface 151 (.pointer (some x))] w1 fun e w' => e = .returned (.bool true) ∧ Hid (Below w.heap.size w w') :=
  (Is_same k x w1).mono fun _ _ ⟨he, hb⟩ => ⟨he, (unhide h).trans (hb.mono (unhide h).size)⟩
theorem isNo (k : Int) (x y : Addr) (hne : x ≠ y) (a : Ad) (w w1 : World) (h : Hid (Below w.heap.size w w1)) (g : Hid (Glob a w1)) (hx : ∃ c t, w1.heap[x.block]? = some (.cells c t (0, 0))) (hy : ∃ c t, w1.heap[y.block]? = some (.cells c t (0, 0))) :
    Calls Tryd.prog 38 #[flt k x, .iface 151 (.pointer (some y))] w1 fun e w' => e = .returned (.bool false) ∧ Hid (Below w.heap.size w w') ∧ Hid (Glob a w') ∧
      w'.cell? ⟨1, 0, none⟩ = some (.iface 151 (.pointer (some a.m))) := by
  obtain ⟨c1, t1, h1⟩ := hx
  obtain ⟨c2, t2, h2⟩ := hy
  refine (Is_other k x y c1 c2 t1 t2 w1 hne h1 h2).mono fun e w' ⟨he, hb⟩ => ?_
  have g' := (unhide g).below (Nat.le_refl _) hb
  exact ⟨he, (unhide h).trans (hb.mono (unhide h).size), g', g'.mr⟩

theorem errnoOf_text (k : Int) (a : Ad) (w : World) (g : Glob a w) :
    Calls Tryd.prog 27 #[flt k a.t] w fun e w' => e = .returned (.int .i64 60) ∧ Below w.heap.size w w' := by
  have H := hide (asNo k a.t a w g)
  clear g
  go_enter Tryd.func27, Tryd.ntmps27
  go_wp2_with fail
  refine (unhide H).mono ?_
  rintro e w1 ⟨rfl, hb, hg, hc⟩
  go_wp2_with fail
  refine (isYes k a.t w _ hb).mono ?_
  rintro e w2 ⟨rfl, hb2⟩
  go_wp2
  go_ret
  exact ⟨rfl, unhide hb2⟩

theorem errnoOf_mark (k : Int) (a : Ad) (w : World) (g : Glob a w) :
    Calls Tryd.prog 27 #[flt k a.m] w fun e w' => e = .returned (.int .i64 60) ∧ Below w.heap.size w w' := by
  have H := hide (asNo k a.m a w g)
  have ne := hide g.mt
  clear g
  go_enter Tryd.func27, Tryd.ntmps27
  go_wp2_with fail
  refine (unhide H).mono ?_
  rintro e w1 ⟨rfl, hb, hg, hc⟩
  go_wp2_with fail
  refine (isNo k a.m a.t (unhide ne) a w _ hb hg (unhide hg).hM (unhide hg).hT).mono ?_
  rintro e w2 ⟨rfl, hb2, hg2, hc2⟩
  go_wp2_with fail
  refine (isYes k a.m w _ hb2).mono ?_
  rintro e w3 ⟨rfl, hb3⟩
  go_wp2
  go_ret
  exact ⟨rfl, unhide hb3⟩

/-- an error of this package. -/
def IsErr (a : Ad) (v : Value) : Prop := (∃ k, v = flt k a.t) ∨ (∃ k, v = flt k a.m) ∨ (∃ k n, v = nos k n)
theorem errnoOf_any (v : Value) (a : Ad) (w : World) (g : Glob a w) (h : IsErr a v) :
    Calls Tryd.prog 27 #[v] w fun e w' => e = .returned (.int .i64 60) ∧ Below w.heap.size w w' := by
  rcases h with ⟨k, rfl⟩ | ⟨k, rfl⟩ | ⟨k, n, rfl⟩
  · exact errnoOf_text k a w g
  · exact errnoOf_mark k a w g
  · exact errnoOf_bare k n a w g
theorem IsErr.form {a : Ad} {v : Value} (h : IsErr a v) : ∃ x, v = .iface 52 x := by
  rcases h with ⟨k, rfl⟩ | ⟨k, rfl⟩ | ⟨k, n, rfl⟩ <;> exact ⟨_, rfl⟩
end Go.Proofs.YtgapoofalnakmaaDoor.E
