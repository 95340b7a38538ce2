/-
  What prim.errnoOf answers at each error that package prim makes. Conditions: the package-level variables hold what the program's text lays ('Glob').
-/
import Derived.Test.YtjgphpjbcabdeaaDoorPErrs
namespace Go.Proofs.YtjgphpjbcabdeaaDoor.P
open Go.RowKit Go.Extern.Stop Go.Stop Go.Extern

/-- errors.Is(fault{k, x}, x), x a sentinel. -/
theorem Is_same (k : Int) (a : Addr) (w : World) :
    Calls Tryd.prog 26 #[.iface 60 (.agg #[.int .i64 k, .iface 95 (.pointer (some a))]), .iface 95 (.pointer (some a))] w fun e w' => e = .returned (.bool true) ∧ Below w.heap.size w w' := by
  obtain ⟨i, hi, hcmp⟩ := Option.map_eq_some_iff.1 compS
  obtain ⟨j, hj, hjs⟩ := Option.map_eq_some_iff.1 sizeS
  have hext36 := @run_callFunc_extern Tryd.prog 35 _ ReflectliteType.typeOf Tryd.func35 (by kernel_rfl) (by kernel_rfl) (by kernel_rfl) (by kernel_rfl)
  obtain ⟨ext, hfind, cT⟩ := cmpExt
  have hext66 := @run_callFunc_extern Tryd.prog 65 _ ext Tryd.func65 (by kernel_rfl) (by kernel_rfl) (by kernel_rfl) hfind
  clear hfind
  have tT := typeOfS
  have mR := methodComparable
  have nW := noIsF
  have uW := unwF
  have mU := methodUnwrap
  have heq := fun w => run_eql_iface_ptr_same (P := Tryd.prog) w a Tryd.underlying41 Tryd.underlying95 hi hcmp hj
  have hty := fun w => run_eql_iface_types (P := Tryd.prog) 60 95 (.agg #[.int .i64 k, .iface 95 (.pointer (some a))]) (.pointer (some a)) Tryd.underlying41 (by decide) w
  go_enter Tryd.func26, Tryd.ntmps26
  go_wp2
  refine wp_loop_rounds 2 ?_
  rw [rounds_succ]
  go_wp2
  rw [rounds_succ]
  go_wp2
  go_ret
  exact ⟨rfl, (Below.refl _ _).alloc (by simp) _⟩

/-- The package-level variables hold what the program's text lays. -/
structure Glob (aB : Addr) (w : World) : Prop where
  ty : w.cell? ⟨1, 0, none⟩ = some (.iface 81 (.agg #[.pointer (some ⟨2, 41, none⟩)]))
  bo : w.cell? ⟨0, 0, none⟩ = some (.iface 95 (.pointer (some aB)))

theorem Glob.below {aB : Addr} {w w' : World} (g : Glob aB w) {B : Nat} (hB : w.heap.size ≤ B) (h : Below B w w') : Glob aB w' := by
  obtain ⟨ty, bo⟩ := g
  refine ⟨?_, ?_⟩
  · rw [h.cell (Nat.lt_of_lt_of_le (lt_of_cell ty) hB)]; exact ty
  · rw [h.cell (Nat.lt_of_lt_of_le (lt_of_cell bo) hB)]; exact bo
theorem Glob.alloc {aB : Addr} {w : World} (g : Glob aB w) (o : Obj) : Glob aB (w.alloc o) :=
  g.below (Nat.le_refl _) ((Below.refl _ _).alloc (Nat.le_refl _) _)

/-- errnoOf at an error in which a noNumber is found. -/
theorem errnoOf_number (T : TypeId) (v : Value) (h : AsGives (.iface T v) true) (aB : Addr) (w : World) (g : Glob aB w) :
    Calls Tryd.prog 20 #[.iface T v] w fun e w' => e = .returned (.int .i64 30) ∧ Below w.heap.size w w' := by
  have gt := (g.alloc (.cells #[.string ⟨#[]⟩] 50)).ty
  have H := As_gives T v true h ⟨w.heap.size, 0, none⟩ (.string ⟨#[]⟩) (w.alloc (.cells #[.string ⟨#[]⟩] 50)) gt (by simp) (by simp)
  clear h gt
  go_enter Tryd.func20, Tryd.ntmps20
  go_wp2_with (go_at_call 25; refine H.mono ?_; rintro e w' ⟨rfl, hb⟩)
  go_ret
  exact ⟨rfl, ((Below.refl _ _).alloc (Nat.le_refl _) _).trans hb⟩

theorem errnoOf_bool (k : Int) (aB : Addr) (w : World) (g : Glob aB w) :
    Calls Tryd.prog 20 #[.iface 60 (.agg #[.int .i64 k, .iface 95 (.pointer (some aB))])] w fun e w' => e = .returned (.int .i64 31) ∧ Below w.heap.size w w' := by
  have gt := g.alloc (.cells #[.string ⟨#[]⟩] 50)
  have H := (As_gives _ _ false (as3 k aB) ⟨w.heap.size, 0, none⟩ (.string ⟨#[]⟩) (w.alloc (.cells #[.string ⟨#[]⟩] 50)) gt.ty (by simp) (by simp)).mono
    (R' := fun e w' => e = .returned (.bool false) ∧ Below w.heap.size (w.alloc (.cells #[.string ⟨#[]⟩] 50)) w' ∧ w'.cell? ⟨0, 0, none⟩ = some (.iface 95 (.pointer (some aB))))
    (fun e w' ⟨he, hb⟩ => ⟨he, hb, by rw [hb.cell (lt_of_cell g.bo)]; exact gt.bo⟩)
  clear gt
  go_enter Tryd.func20, Tryd.ntmps20
  go_wp2_with (first | (go_at_call 25; refine H.mono ?_; rintro e w' ⟨rfl, hb, hc⟩) | (go_at_call 26; refine (Is_same k aB _).mono ?_; rintro e w'' ⟨rfl, hb2⟩))
  go_ret
  exact ⟨rfl, (((Below.refl _ _).alloc (Nat.le_refl _) _).trans hb).trans (hb2.mono (by have := hb.size; simp at this; omega))⟩
end Go.Proofs.YtjgphpjbcabdeaaDoor.P
