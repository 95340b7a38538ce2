/-
  What size.errnoOf answers at each error that package size makes. Conditions: the package-level variables hold what the program's text lays ('Glob').
-/
import Derived.Test.YthibodkemnkjeaaDoorErrs
namespace Go.Proofs.YthibodkemnkjeaaDoor
open Go.RowKit Go.Extern.Stop Go.Stop Go.Extern

/-- errors.Is(fault{k, x}, x), x a sentinel. -/
theorem Is_same (k : Int) (a : Addr) (w : World) :
    Calls Tryd.prog 46 #[.iface 153 (.agg #[.int .i64 k, .iface 158 (.pointer (some a))]), .iface 158 (.pointer (some a))] w fun e w' => e = .returned (.bool true) ∧ Below w.heap.size w w' := by
  obtain ⟨i, hi, hcmp⟩ := Option.map_eq_some_iff.1 compS
  obtain ⟨j, hj, hjs⟩ := Option.map_eq_some_iff.1 sizeS
  have hext36 := @run_callFunc_extern Tryd.prog 61 _ ReflectliteType.typeOf Tryd.func61 (by kernel_rfl) (by kernel_rfl) (by kernel_rfl) (by kernel_rfl)
  obtain ⟨ext, hfind, cT⟩ := cmpExt
  have hext66 := @run_callFunc_extern Tryd.prog 114 _ ext Tryd.func114 (by kernel_rfl) (by kernel_rfl) (by kernel_rfl) hfind
  clear hfind
  have tT := typeOfS
  have mR := methodComparable
  have nW := noIsF
  have uW := unwF
  have mU := methodUnwrap
  have heq := fun w => run_eql_iface_ptr_same (P := Tryd.prog) w a Tryd.underlying48 Tryd.underlying158 hi hcmp hj
  have hty := fun w => run_eql_iface_types (P := Tryd.prog) 153 158 (.agg #[.int .i64 k, .iface 158 (.pointer (some a))]) (.pointer (some a)) Tryd.underlying48 (by decide) w
  go_enter Tryd.func46, Tryd.ntmps46
  go_wp2
  refine wp_loop_rounds 2 ?_
  rw [rounds_succ]
  go_wp2
  rw [rounds_succ]
  go_wp2
  go_ret
  exact ⟨rfl, (Below.refl _ _).alloc (by simp) _⟩

/-- errors.Is(fault{k, x}, y), x and y two sentinels. -/
theorem Is_other (k : Int) (a b : Addr) (ca cb : Array Value) (ta tb : TypeId) (w : World) (hne : a ≠ b) (ha : w.heap[a.block]? = some (.cells ca ta (0, 0))) (hb : w.heap[b.block]? = some (.cells cb tb (0, 0))) :
    Calls Tryd.prog 46 #[.iface 153 (.agg #[.int .i64 k, .iface 158 (.pointer (some a))]), .iface 158 (.pointer (some b))] w fun e w' => e = .returned (.bool false) ∧ Below w.heap.size w w' := by
  obtain ⟨i, hi, hcmp⟩ := Option.map_eq_some_iff.1 compS
  obtain ⟨j, hj, hjs⟩ := Option.map_eq_some_iff.1 sizeS
  have hext36 := @run_callFunc_extern Tryd.prog 61 _ ReflectliteType.typeOf Tryd.func61 (by kernel_rfl) (by kernel_rfl) (by kernel_rfl) (by kernel_rfl)
  obtain ⟨ext, hfind, cT⟩ := cmpExt
  have hext66 := @run_callFunc_extern Tryd.prog 114 _ ext Tryd.func114 (by kernel_rfl) (by kernel_rfl) (by kernel_rfl) hfind
  clear hfind
  have tT := typeOfS
  have mR := methodComparable
  have nW := noIsF
  have nE := noIsS
  have uW := unwF
  have uE := noUnwS
  have vE := noUnwsS
  have mU := methodUnwrap
  have hal : a.block < w.heap.size := (Array.getElem?_eq_some_iff.1 ha).1
  have hbl : b.block < w.heap.size := (Array.getElem?_eq_some_iff.1 hb).1
  have heq := run_eql_iface_ptr_other (P := Tryd.prog) (w.alloc (.cells #[.int .i64 k, .iface 158 (.pointer (some a))] 153)) Tryd.underlying48 Tryd.underlying158 hi hcmp hj (by rw [hjs]; decide) hne ((Below.heap_alloc _ _ _ hal).trans ha) ((Below.heap_alloc _ _ _ hbl).trans hb)
  have hty := fun w => run_eql_iface_types (P := Tryd.prog) 153 158 (.agg #[.int .i64 k, .iface 158 (.pointer (some a))]) (.pointer (some b)) Tryd.underlying48 (by decide) w
  clear ha hb hal hbl
  go_enter Tryd.func46, Tryd.ntmps46
  go_wp2
  refine wp_loop_rounds 2 ?_
  rw [rounds_succ]
  go_wp2
  rw [rounds_succ]
  go_wp2
  go_ret
  exact ⟨rfl, (Below.refl _ _).alloc (by simp) _⟩

/-- The package-level variables hold what the program's text lays. -/
structure Glob (aS aF : Addr) (w : World) : Prop where
  ty : w.cell? ⟨7, 0, none⟩ = some (.iface 115 (.agg #[.pointer (some ⟨10, 48, none⟩)]))
  sh : w.cell? ⟨9, 0, none⟩ = some (.iface 158 (.pointer (some aS)))
  fo : w.cell? ⟨6, 0, none⟩ = some (.iface 158 (.pointer (some aF)))
  ne : aS ≠ aF
  hS : ∃ c t, w.heap[aS.block]? = some (.cells c t (0, 0))
  hF : ∃ c t, w.heap[aF.block]? = some (.cells c t (0, 0))

theorem Glob.below {aS aF : Addr} {w w' : World} (g : Glob aS aF w) {B : Nat} (hB : w.heap.size ≤ B) (h : Below B w w') : Glob aS aF w' := by
  obtain ⟨ty, sh, fo, ne, ⟨c, t, hS⟩, ⟨c', t', hF⟩⟩ := g
  refine ⟨?_, ?_, ?_, ne, ⟨c, t, ?_⟩, ⟨c', t', ?_⟩⟩
  · rw [h.cell (Nat.lt_of_lt_of_le (lt_of_cell ty) hB)]; exact ty
  · rw [h.cell (Nat.lt_of_lt_of_le (lt_of_cell sh) hB)]; exact sh
  · rw [h.cell (Nat.lt_of_lt_of_le (lt_of_cell fo) hB)]; exact fo
  · rw [h.block _ (Nat.lt_of_lt_of_le (Array.getElem?_eq_some_iff.1 hS).1 hB)]; exact hS
  · rw [h.block _ (Nat.lt_of_lt_of_le (Array.getElem?_eq_some_iff.1 hF).1 hB)]; exact hF
theorem Glob.alloc {aS aF : Addr} {w : World} (g : Glob aS aF w) (o : Obj) : Glob aS aF (w.alloc o) :=
  g.below (Nat.le_refl _) ((Below.refl _ _).alloc (Nat.le_refl _) _)

/-- errnoOf at an error in which a noLength is found. -/
theorem errnoOf_size (T : TypeId) (v : Value) (h : AsGives (.iface T v) true) (aS aF : Addr) (w : World) (g : Glob aS aF w) :
    Calls Tryd.prog 39 #[.iface T v] w fun e w' => e = .returned (.int .i64 12) ∧ Below w.heap.size w w' := by
  have gt := (g.alloc (.cells #[.int .i64 0] 84)).ty
  have H := As_gives T v true h ⟨w.heap.size, 0, none⟩ (.int .i64 0) (w.alloc (.cells #[.int .i64 0] 84)) gt (by simp) (by simp)
  clear h gt
  go_enter Tryd.func39, Tryd.ntmps39
  go_wp2_with (go_at_call 45; refine H.mono ?_; rintro e w' ⟨rfl, hb⟩)
  go_ret
  exact ⟨rfl, ((Below.refl _ _).alloc (Nat.le_refl _) _).trans hb⟩

theorem errnoOf_form (k : Int) (aS aF : Addr) (w : World) (g : Glob aS aF w) :
    Calls Tryd.prog 39 #[.iface 153 (.agg #[.int .i64 k, .iface 158 (.pointer (some aF))])] w fun e w' => e = .returned (.int .i64 11) ∧ Below w.heap.size w w' := by
  have gt := g.alloc (.cells #[.int .i64 0] 84)
  have H := (As_gives _ _ false (as3 k aF) ⟨w.heap.size, 0, none⟩ (.int .i64 0) (w.alloc (.cells #[.int .i64 0] 84)) gt.ty (by simp) (by simp)).mono
    (R' := fun e w' => e = .returned (.bool false) ∧ Below w.heap.size (w.alloc (.cells #[.int .i64 0] 84)) w' ∧ w'.cell? ⟨6, 0, none⟩ = some (.iface 158 (.pointer (some aF))))
    (fun e w' ⟨he, hb⟩ => ⟨he, hb, by rw [hb.cell (lt_of_cell g.fo)]; exact gt.fo⟩)
  clear gt
  go_enter Tryd.func39, Tryd.ntmps39
  go_wp2_with (first | (go_at_call 45; refine H.mono ?_; rintro e w' ⟨rfl, hb, hc⟩) | (go_at_call 46; refine (Is_same k aF _).mono ?_; rintro e w'' ⟨rfl, hb2⟩))
  go_ret
  exact ⟨rfl, (((Below.refl _ _).alloc (Nat.le_refl _) _).trans hb).trans (hb2.mono (by have := hb.size; simp at this; omega))⟩

theorem errnoOf_short (k : Int) (aS aF : Addr) (w : World) (g : Glob aS aF w) :
    Calls Tryd.prog 39 #[.iface 153 (.agg #[.int .i64 k, .iface 158 (.pointer (some aS))])] w fun e w' => e = .returned (.int .i64 10) ∧ Below w.heap.size w w' := by
  have gt := g.alloc (.cells #[.int .i64 0] 84)
  obtain ⟨cS, tS, hS⟩ := g.hS
  obtain ⟨cF, tF, hF⟩ := g.hF
  have H := (As_gives _ _ false (as3 k aS) ⟨w.heap.size, 0, none⟩ (.int .i64 0) (w.alloc (.cells #[.int .i64 0] 84)) gt.ty (by simp) (by simp)).mono
    (R' := fun e w' => e = .returned (.bool false) ∧ Below w.heap.size (w.alloc (.cells #[.int .i64 0] 84)) w' ∧ w'.cell? ⟨6, 0, none⟩ = some (.iface 158 (.pointer (some aF)))
      ∧ Hid (w'.heap[aS.block]? = some (.cells cS tS (0, 0))) ∧ Hid (w'.heap[aF.block]? = some (.cells cF tF (0, 0))))
    (fun e w' ⟨he, hb⟩ => ⟨he, hb, by rw [hb.cell (lt_of_cell g.fo)]; exact gt.fo, by
      show _ = _
      rw [hb.block _ (Array.getElem?_eq_some_iff.1 hS).1, Below.heap_alloc _ _ _ (Array.getElem?_eq_some_iff.1 hS).1]; exact hS, by
      show _ = _
      rw [hb.block _ (Array.getElem?_eq_some_iff.1 hF).1, Below.heap_alloc _ _ _ (Array.getElem?_eq_some_iff.1 hF).1]; exact hF⟩)
  have hne := g.ne
  clear gt hS hF g
  go_enter Tryd.func39, Tryd.ntmps39
  go_wp2_with (first | (go_at_call 45; refine H.mono ?_; rintro e w' ⟨rfl, hb, hc, hS, hF⟩) | (go_at_call 46; refine (Is_other k aS aF cS cF tS tF _ hne hS.out hF.out).mono ?_; rintro e w'' ⟨rfl, hb2⟩))
  go_ret
  exact ⟨rfl, (((Below.refl _ _).alloc (Nat.le_refl _) _).trans hb).trans (hb2.mono (by have := hb.size; simp at this; omega))⟩
end Go.Proofs.YthibodkemnkjeaaDoor
