/-
  What utf.errnoOf answers at each error that package utf makes. Conditions: the package-level variables hold what the program's text lays ('Glob').
-/
import Derived.Test.YtpfopmjpchiekaaDoorUErrs
import Derived.Test.YtpfopmjpchiekaaDoorUFollow
namespace Go.Proofs.YtpfopmjpchiekaaDoor.U
open Go.RowKit Go.Extern.Stop Go.Stop Go.Extern

/-- errors.Is(fault{k, x}, x), x a sentinel. -/
theorem Is_same (k : Int) (a : Addr) (w : World) :
    Calls Tryd.prog 38 #[.iface 62 (.agg #[.int .i64 k, .iface 104 (.pointer (some a))]), .iface 104 (.pointer (some a))] w fun e w' => e = .returned (.bool true) ∧ Below w.heap.size w w' := by
  obtain ⟨i, hi, hcmp⟩ := Option.map_eq_some_iff.1 compS
  obtain ⟨j, hj, hjs⟩ := Option.map_eq_some_iff.1 sizeS
  have hext36 := @run_callFunc_extern Tryd.prog 49 _ ReflectliteType.typeOf Tryd.func49 (by kernel_rfl) (by kernel_rfl) (by kernel_rfl) (by kernel_rfl)
  obtain ⟨ext, hfind, cT⟩ := cmpExt
  have hext66 := @run_callFunc_extern Tryd.prog 81 _ ext Tryd.func81 (by kernel_rfl) (by kernel_rfl) (by kernel_rfl) hfind
  clear hfind
  have tT := typeOfS
  have mR := methodComparable
  have nW := noIsF
  have uW := unwF
  have mU := methodUnwrap
  have heq := fun w => run_eql_iface_ptr_same (P := Tryd.prog) w a Tryd.underlying39 Tryd.underlying104 hi hcmp hj
  have hty := fun w => run_eql_iface_types (P := Tryd.prog) 62 104 (.agg #[.int .i64 k, .iface 104 (.pointer (some a))]) (.pointer (some a)) Tryd.underlying39 (by decide) w
  go_enter Tryd.func38, Tryd.ntmps38
  go_wp2
  refine wp_loop_rounds 2 ?_
  rw [rounds_succ]
  go_wp2
  rw [rounds_succ]
  go_wp2
  go_ret
  exact ⟨rfl, (Below.refl _ _).alloc (by simp) _⟩

/-- errnoOf at an error in which a noSign is found. -/
theorem errnoOf_sign (T : TypeId) (v : Value) (h : AsGives (.iface T v) true) (aU aS : Addr) (w : World) (g : Glob aU aS w) :
    Calls Tryd.prog 25 #[.iface T v] w fun e w' => e = .returned (.int .i64 40) ∧ Below w.heap.size w w' := by
  have gt := (g.alloc (.cells #[.int .i64 0] 52)).ty
  have H := hide (As_gives T v true h ⟨w.heap.size, 0, none⟩ (.int .i64 0) (w.alloc (.cells #[.int .i64 0] 52)) gt (by simp) (by simp))
  clear h gt g
  go_enter Tryd.func25, Tryd.ntmps25
  go_wp2_with fail
  refine (unhide H).mono ?_
  rintro e w1 ⟨rfl, hb⟩
  have HB := hide hb
  clear hb
  go_wp2
  go_ret
  exact ⟨rfl, ((Below.refl _ _).alloc (Nat.le_refl _) _).trans (unhide HB)⟩

theorem errnoOf_utf (k : Nat) (aU aS : Addr) (w : World) (g : Glob aU aS w) :
    Calls Tryd.prog 25 #[flt k aU] w fun e w' => e = .returned (.int .i64 40) ∧ Below w.heap.size w w' := by
  have gt := g.alloc (.cells #[.int .i64 0] 52)
  have H := hide ((As_gives _ _ false (as3 k aU) ⟨w.heap.size, 0, none⟩ (.int .i64 0) (w.alloc (.cells #[.int .i64 0] 52)) gt.ty (by simp) (by simp)).mono
    (R' := fun e w' => e = .returned (.bool false) ∧ Below w.heap.size (w.alloc (.cells #[.int .i64 0] 52)) w' ∧ w'.cell? ⟨0, 0, none⟩ = some (.iface 104 (.pointer (some aU))))
    (fun e w' ⟨he, hb⟩ => ⟨he, hb, by rw [hb.cell (lt_of_cell g.ut)]; exact gt.ut⟩))
  have H2 := hide fun w' => Is_same k aU w'
  clear gt g
  go_enter Tryd.func25, Tryd.ntmps25
  go_wp2_with fail
  refine (unhide H).mono ?_
  rintro e w1 ⟨rfl, hb, hc⟩
  have HB := hide hb
  clear hb
  go_wp2_with fail
  refine ((unhide H2) _).mono ?_
  rintro e w2 ⟨rfl, hb⟩
  have HB2 := hide hb
  clear hb
  go_wp2
  go_ret
  exact ⟨rfl, (((Below.refl _ _).alloc (Nat.le_refl _) _).trans (unhide HB)).trans ((unhide HB2).mono (by have := (unhide HB).size; simp at this; omega))⟩
end Go.Proofs.YtpfopmjpchiekaaDoor.U
