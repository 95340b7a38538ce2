/-
  What errors.As and errors.Is answer where package dn asks them: at a fault that wraps a bare or a sentinel, and at a bare bare. Conditions: the three package-level variables hold what the program's text lays.
-/
import Derived.Test.YthfcnjcpanoldaaGreatDoorDErrFacts
namespace Go.Proofs.YthfcnjcpanoldaaGreatDoor.D
open Go.RowKit Go.Extern.Stop Go.Stop Go.Extern

theorem lt_of_cell {w : World} {a : Addr} {v : Value} (h : w.cell? a = some v) : a.block < w.heap.size := by
  rcases Nat.lt_or_ge a.block w.heap.size with h' | h'
  · exact h'
  · simp [World.cell?, Array.getElem?_eq_none h'] at h

/-- What errors.as answers at an error, the target a variable of bare. -/
def AsGives (err : Value) (b : Bool) : Prop := ∀ (tg : Value) (va t : Addr) (old : Value) (w : World), w.cell? va = some (.pointer (some t)) → w.cell? t = some old → w.frozen? t = false →
    Calls Tryz.prog 72 #[err, tg, .agg #[.pointer (some ⟨12, 67, none⟩), .pointer (some va), .int .u64 150], .iface 135 (.agg #[.pointer (some ⟨12, 65, none⟩)])] w
      fun e w' => e = .returned (.bool b) ∧ Below t.block w w'

/-- errors.as at a sentinel that is wrapped 0 times: it finds nothing. -/
theorem asS0 (a : Addr) : AsGives (.iface 219 (.pointer (some a))) false := by
  intro tg va t old w hv ht hf
  have hext36 := @run_callFunc_extern Tryz.prog 73 _ ReflectliteType.typeOf Tryz.func73 (by kernel_rfl) (by kernel_rfl) (by kernel_rfl) (by kernel_rfl)
  have hext65 := @run_callFunc_extern Tryz.prog 172 _ (ReflectliteType.relation "AssignableTo" ReflectliteType.assignableTo) Tryz.func172 (by kernel_rfl) (by kernel_rfl) (by kernel_rfl) (by kernel_rfl)
  have h1 := typeOfS
  have h1' := typeOfF
  have h2 := assignS
  have h2' := assignF
  have h3 := methodAssignableTo
  have h5 := noAsF
  have h5' := noAsS
  have h6 := unwF
  have h6' := noUnwS
  have h6'' := noUnwsS
  have h7 := methodUnwrap
  have htl := lt_of_cell ht
  go_enter Tryz.func72, Tryz.ntmps72
  go_wp2
  refine wp_loop_rounds 1 ?_
  rw [rounds_succ]
  go_wp2
  go_ret
  exact ⟨rfl, ((Below.refl _ _).alloc (by omega) _)⟩

/-- errors.as at a sentinel that is wrapped 1 times: it finds nothing. -/
theorem asS1 (k1 : Int) (a : Addr) : AsGives (.iface 63 (.agg #[.int .i64 k1, .iface 219 (.pointer (some a))])) false := by
  intro tg va t old w hv ht hf
  have hext36 := @run_callFunc_extern Tryz.prog 73 _ ReflectliteType.typeOf Tryz.func73 (by kernel_rfl) (by kernel_rfl) (by kernel_rfl) (by kernel_rfl)
  have hext65 := @run_callFunc_extern Tryz.prog 172 _ (ReflectliteType.relation "AssignableTo" ReflectliteType.assignableTo) Tryz.func172 (by kernel_rfl) (by kernel_rfl) (by kernel_rfl) (by kernel_rfl)
  have h1 := typeOfS
  have h1' := typeOfF
  have h2 := assignS
  have h2' := assignF
  have h3 := methodAssignableTo
  have h5 := noAsF
  have h5' := noAsS
  have h6 := unwF
  have h6' := noUnwS
  have h6'' := noUnwsS
  have h7 := methodUnwrap
  have htl := lt_of_cell ht
  go_enter Tryz.func72, Tryz.ntmps72
  go_wp2
  refine wp_loop_rounds 2 ?_
  rw [rounds_succ]
  go_wp2
  rw [rounds_succ]
  go_wp2
  go_ret
  exact ⟨rfl, (((Below.refl _ _).alloc (by omega) _).alloc (by simp; omega) _)⟩

/-- errors.as at a sentinel that is wrapped 2 times: it finds nothing. -/
theorem asS2 (k1 k2 : Int) (a : Addr) : AsGives (.iface 63 (.agg #[.int .i64 k1, .iface 63 (.agg #[.int .i64 k2, .iface 219 (.pointer (some a))])])) false := by
  intro tg va t old w hv ht hf
  have hext36 := @run_callFunc_extern Tryz.prog 73 _ ReflectliteType.typeOf Tryz.func73 (by kernel_rfl) (by kernel_rfl) (by kernel_rfl) (by kernel_rfl)
  have hext65 := @run_callFunc_extern Tryz.prog 172 _ (ReflectliteType.relation "AssignableTo" ReflectliteType.assignableTo) Tryz.func172 (by kernel_rfl) (by kernel_rfl) (by kernel_rfl) (by kernel_rfl)
  have h1 := typeOfS
  have h1' := typeOfF
  have h2 := assignS
  have h2' := assignF
  have h3 := methodAssignableTo
  have h5 := noAsF
  have h5' := noAsS
  have h6 := unwF
  have h6' := noUnwS
  have h6'' := noUnwsS
  have h7 := methodUnwrap
  have htl := lt_of_cell ht
  go_enter Tryz.func72, Tryz.ntmps72
  go_wp2
  refine wp_loop_rounds 3 ?_
  rw [rounds_succ]
  go_wp2
  rw [rounds_succ]
  go_wp2
  rw [rounds_succ]
  go_wp2
  go_ret
  exact ⟨rfl, ((((Below.refl _ _).alloc (by omega) _).alloc (by simp; omega) _).alloc (by simp; omega) _)⟩

set_option maxRecDepth 100000 in
/-- errors.as at a noValue that is wrapped twice: the target is set. -/
theorem asN2 (n k1 k2 : Int) : AsGives (.iface 63 (.agg #[.int .i64 k1, .iface 63 (.agg #[.int .i64 k2, .iface 65 (.agg #[.int .i64 n])])])) true := by
  intro tg va t old w hv ht hf
  have hext36 := @run_callFunc_extern Tryz.prog 73 _ ReflectliteType.typeOf Tryz.func73 (by kernel_rfl) (by kernel_rfl) (by kernel_rfl) (by kernel_rfl)
  have hext65 := @run_callFunc_extern Tryz.prog 172 _ (ReflectliteType.relation "AssignableTo" ReflectliteType.assignableTo) Tryz.func172 (by kernel_rfl) (by kernel_rfl) (by kernel_rfl) (by kernel_rfl)
  have hext39 := @run_callFunc_extern Tryz.prog 94 _ (ReflectliteValue.method (ReflectliteValue.valueError "reflectlite.Value.Elem" 0) ReflectliteValue.elem) Tryz.func94 (by kernel_rfl) (by kernel_rfl) (by kernel_rfl) (by kernel_rfl)
  have hext40 := @run_callFunc_extern Tryz.prog 95 _ ReflectliteValue.set Tryz.func95 (by kernel_rfl) (by kernel_rfl) (by kernel_rfl) (by kernel_rfl)
  have hext32 := @run_callFunc_extern Tryz.prog 69 _ (fun args => ReflectliteValue.unpack (args.getD 0 (.tuple #[]))) Tryz.func69 (by kernel_rfl) (by kernel_rfl) (by kernel_rfl) (by kernel_rfl)
  have h1 := typeOfE
  have h1' := typeOfF
  have h2 := assignE
  have h2' := assignF
  have h3 := methodAssignableTo
  have h4 := vOfE
  have h5 := noAsF
  have h6 := unwF
  have h7 := methodUnwrap
  have hvl := lt_of_cell hv
  have htl := lt_of_cell ht
  have el := elemVT va t (((w.alloc (.cells #[.pointer (some ⟨12, 67, none⟩), .pointer (some va), .int .u64 150] 107)).alloc (.cells #[.int .i64 k1, .iface 63 (.agg #[.int .i64 k2, .iface 65 (.agg #[.int .i64 n])])] 63)).alloc (.cells #[.int .i64 k2, .iface 65 (.agg #[.int .i64 n])] 63)) (by rw [World.cell?_alloc_lt _ _ va (by simp; omega), World.cell?_alloc_lt _ _ va (by simp; omega), World.cell?_alloc_lt _ _ va hvl]; exact hv)
  have st := setE t ⟨w.heap.size + 1 + 1 + 1, 0, none⟩ n old ((((w.alloc (.cells #[.pointer (some ⟨12, 67, none⟩), .pointer (some va), .int .u64 150] 107)).alloc (.cells #[.int .i64 k1, .iface 63 (.agg #[.int .i64 k2, .iface 65 (.agg #[.int .i64 n])])] 63)).alloc (.cells #[.int .i64 k2, .iface 65 (.agg #[.int .i64 n])] 63)).alloc (.cells #[.int .i64 n] 65))
    (by rw [World.cell?_alloc_at _ _ _ _ (by simp)]; rfl)
    (by rw [World.cell?_alloc_lt _ _ t (by simp; omega), World.cell?_alloc_lt _ _ t (by simp; omega), World.cell?_alloc_lt _ _ t (by simp; omega), World.cell?_alloc_lt _ _ t htl]; exact ht)
    (by rw [World.frozen?_alloc_old _ _ t (by simp; omega), World.frozen?_alloc_old _ _ t (by simp; omega), World.frozen?_alloc_old _ _ t (by simp; omega), World.frozen?_alloc_old _ _ t (Nat.ne_of_lt htl)]; exact hf)
  go_enter Tryz.func72, Tryz.ntmps72
  go_wp2
  refine wp_loop_rounds 3 ?_
  rw [rounds_succ]
  go_wp2
  rw [rounds_succ]
  go_wp2
  rw [rounds_succ]
  go_wp2
  go_ret
  exact ⟨rfl, (((((Below.refl _ _).alloc (by omega) _).alloc (by simp; omega) _).alloc (by simp; omega) _).alloc (by simp; omega) _).setCell (Nat.le_refl _) _⟩

/-- errors.As(err, &t), t a variable of bare. -/
theorem As_gives (T : TypeId) (v : Value) (b : Bool) (h : AsGives (.iface T v) b) (t : Addr) (old : Value) (w : World)
    (hg : w.cell? ⟨4, 0, none⟩ = some (.iface 135 (.agg #[.pointer (some ⟨12, 45, none⟩)]))) (ht : w.cell? t = some old) (hf : w.frozen? t = false) :
    Calls Tryz.prog 47 #[.iface T v, .iface 67 (.pointer (some t))] w fun e w' => e = .returned (.bool b) ∧ Below t.block w w' := by
  have hext32 := @run_callFunc_extern Tryz.prog 69 _ (fun args => ReflectliteValue.unpack (args.getD 0 (.tuple #[]))) Tryz.func69 (by kernel_rfl) (by kernel_rfl) (by kernel_rfl) (by kernel_rfl)
  have hext33 := @run_callFunc_extern Tryz.prog 70 _ (ReflectliteValue.methodAny (ReflectliteValue.valueError "reflectlite.Value.Type" 0) (fun t _ _ _ => ReflectliteType.toType t)) Tryz.func70 (by kernel_rfl) (by kernel_rfl) (by kernel_rfl) (by kernel_rfl)
  have hext34 := @run_callFunc_extern Tryz.prog 71 _ (ReflectliteValue.method (ReflectliteValue.valueError "reflectlite.Value.IsNil" 0) ReflectliteValue.isNil) Tryz.func71 (by kernel_rfl) (by kernel_rfl) (by kernel_rfl) (by kernel_rfl)
  have hext55 := @run_callFunc_extern Tryz.prog 162 _ (ReflectliteType.abiMethod fun t => do pure (.int .u8 (← Rtype.kind t))) Tryz.func162 (by kernel_rfl) (by kernel_rfl) (by kernel_rfl) (by kernel_rfl)
  have hext67 := @run_callFunc_extern Tryz.prog 174 _ (ReflectliteType.method ReflectliteType.elem) Tryz.func174 (by kernel_rfl) (by kernel_rfl) (by kernel_rfl) (by kernel_rfl)
  have hext68 := @run_callFunc_extern Tryz.prog 175 _ (ReflectliteType.relation "Implements" ReflectliteType.implements_) Tryz.func175 (by kernel_rfl) (by kernel_rfl) (by kernel_rfl) (by kernel_rfl)
  have f6 := vOfT
  have f7 := typeT
  have mK := methodKind
  have mE := methodElem
  have mI := methodImplements
  have k27 := kindT
  have k25 := kindE
  have e27 := elemT
  have i25 := implementsE
  have htl := lt_of_cell ht
  have hgl := lt_of_cell hg
  have n8 := isNilT ⟨w.heap.size, 0, none⟩ t ((w.alloc (.cells #[.pointer (some t)] 67)).alloc (.cells #[.pointer (some ⟨12, 67, none⟩), .pointer (some ⟨w.heap.size, 0, none⟩), .int .u64 150] 107)) (by simp)
  have hg2 : ((w.alloc (.cells #[.pointer (some t)] 67)).alloc (.cells #[.pointer (some ⟨12, 67, none⟩), .pointer (some ⟨w.heap.size, 0, none⟩), .int .u64 150] 107)).cell? ⟨4, 0, none⟩ = some (.iface 135 (.agg #[.pointer (some ⟨12, 45, none⟩)])) := by
    rw [World.cell?_alloc_lt _ _ _ (by simp at hgl ⊢; omega), World.cell?_alloc_lt _ _ _ hgl]; exact hg
  have H := h (.iface 67 (.pointer (some t))) ⟨w.heap.size, 0, none⟩ t old ((w.alloc (.cells #[.pointer (some t)] 67)).alloc (.cells #[.pointer (some ⟨12, 67, none⟩), .pointer (some ⟨w.heap.size, 0, none⟩), .int .u64 150] 107))
    (by simp)
    (by rw [World.cell?_alloc_lt _ _ t (by simp; omega), World.cell?_alloc_lt _ _ t htl]; exact ht)
    (by rw [World.frozen?_alloc_old _ _ t (by simp; omega), World.frozen?_alloc_old _ _ t (Nat.ne_of_lt htl)]; exact hf)
  clear h
  go_enter Tryz.func47, Tryz.ntmps47
  go_wp2_with (go_at_call 72; refine H.mono ?_; rintro e w' ⟨rfl, hb⟩)
  go_ret
  exact ⟨rfl, (((Below.refl _ _).alloc (by omega) _).alloc (by simp; omega) _).trans hb⟩

/-- errors.As(nil, &t). -/
theorem As_nil (t : Addr) (w : World) : Calls Tryz.prog 47 #[.nilIface, .iface 67 (.pointer (some t))] w fun e w' => e = .returned (.bool false) ∧ w' = w := by
  go_enter Tryz.func47, Tryz.ntmps47
  go_wp2
  go_ret
  exact ⟨rfl, rfl⟩

/-- errors.Is at a sentinel that is wrapped 0 times, and itself. -/
theorem IsS0 (a : Addr) (w : World) :
    Calls Tryz.prog 48 #[.iface 219 (.pointer (some a)), .iface 219 (.pointer (some a))] w fun e w' => e = .returned (.bool true) ∧ Below w.heap.size w w' := by
  obtain ⟨i, hi, hcmp⟩ := Option.map_eq_some_iff.1 compS
  obtain ⟨j, hj, hjs⟩ := Option.map_eq_some_iff.1 sizeS
  have hext36 := @run_callFunc_extern Tryz.prog 73 _ ReflectliteType.typeOf Tryz.func73 (by kernel_rfl) (by kernel_rfl) (by kernel_rfl) (by kernel_rfl)
  obtain ⟨ext, hfind, cT⟩ := cmpExt
  have hext66 := @run_callFunc_extern Tryz.prog 173 _ ext Tryz.func173 (by kernel_rfl) (by kernel_rfl) (by kernel_rfl) hfind
  clear hfind
  have tT := typeOfS
  have mR := methodComparable
  have nW := noIsF
  have nE := noIsS
  have uW := unwF
  have uE := noUnwS
  have vE := noUnwsS
  have mU := methodUnwrap
  have heq := fun w => run_eql_iface_ptr_same (P := Tryz.prog) w a Tryz.underlying45 Tryz.underlying219 hi hcmp hj
  go_enter Tryz.func48, Tryz.ntmps48
  go_wp2
  refine wp_loop_rounds 1 ?_
  rw [rounds_succ]
  go_wp2
  go_ret
  exact ⟨rfl, (Below.refl _ _)⟩

theorem IsO0 (a b : Addr) (ca cb : Array Value) (ta tb : TypeId) (w : World) (hne : a ≠ b) (ha : w.heap[a.block]? = some (.cells ca ta (0, 0))) (hb : w.heap[b.block]? = some (.cells cb tb (0, 0))) :
    Calls Tryz.prog 48 #[.iface 219 (.pointer (some a)), .iface 219 (.pointer (some b))] w fun e w' => e = .returned (.bool false) ∧ Below w.heap.size w w' := by
  obtain ⟨i, hi, hcmp⟩ := Option.map_eq_some_iff.1 compS
  obtain ⟨j, hj, hjs⟩ := Option.map_eq_some_iff.1 sizeS
  have hext36 := @run_callFunc_extern Tryz.prog 73 _ ReflectliteType.typeOf Tryz.func73 (by kernel_rfl) (by kernel_rfl) (by kernel_rfl) (by kernel_rfl)
  obtain ⟨ext, hfind, cT⟩ := cmpExt
  have hext66 := @run_callFunc_extern Tryz.prog 173 _ ext Tryz.func173 (by kernel_rfl) (by kernel_rfl) (by kernel_rfl) hfind
  clear hfind
  have tT := typeOfS
  have mR := methodComparable
  have nW := noIsF
  have nE := noIsS
  have uW := unwF
  have uE := noUnwS
  have vE := noUnwsS
  have mU := methodUnwrap
  have hal : a.block < w.heap.size := (Array.getElem?_eq_some_iff.1 ha).1
  have hbl : b.block < w.heap.size := (Array.getElem?_eq_some_iff.1 hb).1
  have heq := run_eql_iface_ptr_other (P := Tryz.prog) w Tryz.underlying45 Tryz.underlying219 hi hcmp hj (by rw [hjs]; decide) hne (by exact ha) (by exact hb)
  clear ha hb hal hbl
  go_enter Tryz.func48, Tryz.ntmps48
  go_wp2
  refine wp_loop_rounds 1 ?_
  rw [rounds_succ]
  go_wp2
  go_ret
  exact ⟨rfl, (Below.refl _ _)⟩

/-- errors.Is at a sentinel that is wrapped 1 times, and itself. -/
theorem IsS1 (k1 : Int) (a : Addr) (w : World) :
    Calls Tryz.prog 48 #[.iface 63 (.agg #[.int .i64 k1, .iface 219 (.pointer (some a))]), .iface 219 (.pointer (some a))] w fun e w' => e = .returned (.bool true) ∧ Below w.heap.size w w' := by
  obtain ⟨i, hi, hcmp⟩ := Option.map_eq_some_iff.1 compS
  obtain ⟨j, hj, hjs⟩ := Option.map_eq_some_iff.1 sizeS
  have hext36 := @run_callFunc_extern Tryz.prog 73 _ ReflectliteType.typeOf Tryz.func73 (by kernel_rfl) (by kernel_rfl) (by kernel_rfl) (by kernel_rfl)
  obtain ⟨ext, hfind, cT⟩ := cmpExt
  have hext66 := @run_callFunc_extern Tryz.prog 173 _ ext Tryz.func173 (by kernel_rfl) (by kernel_rfl) (by kernel_rfl) hfind
  clear hfind
  have tT := typeOfS
  have mR := methodComparable
  have nW := noIsF
  have nE := noIsS
  have uW := unwF
  have uE := noUnwS
  have vE := noUnwsS
  have mU := methodUnwrap
  have heq := fun w => run_eql_iface_ptr_same (P := Tryz.prog) w a Tryz.underlying45 Tryz.underlying219 hi hcmp hj
  have hty1 := fun w b => run_eql_iface_types (P := Tryz.prog) 63 219 (.agg #[.int .i64 k1, .iface 219 (.pointer (some a))]) (.pointer (some b)) Tryz.underlying45 (by decide) w
  go_enter Tryz.func48, Tryz.ntmps48
  go_wp2
  refine wp_loop_rounds 2 ?_
  rw [rounds_succ]
  go_wp2
  rw [rounds_succ]
  go_wp2
  go_ret
  exact ⟨rfl, ((Below.refl _ _).alloc (by simp) _)⟩

theorem IsO1 (k1 : Int) (a b : Addr) (ca cb : Array Value) (ta tb : TypeId) (w : World) (hne : a ≠ b) (ha : w.heap[a.block]? = some (.cells ca ta (0, 0))) (hb : w.heap[b.block]? = some (.cells cb tb (0, 0))) :
    Calls Tryz.prog 48 #[.iface 63 (.agg #[.int .i64 k1, .iface 219 (.pointer (some a))]), .iface 219 (.pointer (some b))] w fun e w' => e = .returned (.bool false) ∧ Below w.heap.size w w' := by
  obtain ⟨i, hi, hcmp⟩ := Option.map_eq_some_iff.1 compS
  obtain ⟨j, hj, hjs⟩ := Option.map_eq_some_iff.1 sizeS
  have hext36 := @run_callFunc_extern Tryz.prog 73 _ ReflectliteType.typeOf Tryz.func73 (by kernel_rfl) (by kernel_rfl) (by kernel_rfl) (by kernel_rfl)
  obtain ⟨ext, hfind, cT⟩ := cmpExt
  have hext66 := @run_callFunc_extern Tryz.prog 173 _ ext Tryz.func173 (by kernel_rfl) (by kernel_rfl) (by kernel_rfl) hfind
  clear hfind
  have tT := typeOfS
  have mR := methodComparable
  have nW := noIsF
  have nE := noIsS
  have uW := unwF
  have uE := noUnwS
  have vE := noUnwsS
  have mU := methodUnwrap
  have hal : a.block < w.heap.size := (Array.getElem?_eq_some_iff.1 ha).1
  have hbl : b.block < w.heap.size := (Array.getElem?_eq_some_iff.1 hb).1
  have heq := run_eql_iface_ptr_other (P := Tryz.prog) (w.alloc (.cells #[.int .i64 k1, .iface 219 (.pointer (some a))] 63)) Tryz.underlying45 Tryz.underlying219 hi hcmp hj (by rw [hjs]; decide) hne (by rw [Below.heap_alloc _ _ _ hal]; exact ha) (by rw [Below.heap_alloc _ _ _ hbl]; exact hb)
  have hty1 := fun w b => run_eql_iface_types (P := Tryz.prog) 63 219 (.agg #[.int .i64 k1, .iface 219 (.pointer (some a))]) (.pointer (some b)) Tryz.underlying45 (by decide) w
  clear ha hb hal hbl
  go_enter Tryz.func48, Tryz.ntmps48
  go_wp2
  refine wp_loop_rounds 2 ?_
  rw [rounds_succ]
  go_wp2
  rw [rounds_succ]
  go_wp2
  go_ret
  exact ⟨rfl, ((Below.refl _ _).alloc (by simp) _)⟩

/-- errors.Is at a sentinel that is wrapped 2 times, and itself. -/
theorem IsS2 (k1 k2 : Int) (a : Addr) (w : World) :
    Calls Tryz.prog 48 #[.iface 63 (.agg #[.int .i64 k1, .iface 63 (.agg #[.int .i64 k2, .iface 219 (.pointer (some a))])]), .iface 219 (.pointer (some a))] w fun e w' => e = .returned (.bool true) ∧ Below w.heap.size w w' := by
  obtain ⟨i, hi, hcmp⟩ := Option.map_eq_some_iff.1 compS
  obtain ⟨j, hj, hjs⟩ := Option.map_eq_some_iff.1 sizeS
  have hext36 := @run_callFunc_extern Tryz.prog 73 _ ReflectliteType.typeOf Tryz.func73 (by kernel_rfl) (by kernel_rfl) (by kernel_rfl) (by kernel_rfl)
  obtain ⟨ext, hfind, cT⟩ := cmpExt
  have hext66 := @run_callFunc_extern Tryz.prog 173 _ ext Tryz.func173 (by kernel_rfl) (by kernel_rfl) (by kernel_rfl) hfind
  clear hfind
  have tT := typeOfS
  have mR := methodComparable
  have nW := noIsF
  have nE := noIsS
  have uW := unwF
  have uE := noUnwS
  have vE := noUnwsS
  have mU := methodUnwrap
  have heq := fun w => run_eql_iface_ptr_same (P := Tryz.prog) w a Tryz.underlying45 Tryz.underlying219 hi hcmp hj
  have hty1 := fun w b => run_eql_iface_types (P := Tryz.prog) 63 219 (.agg #[.int .i64 k1, .iface 63 (.agg #[.int .i64 k2, .iface 219 (.pointer (some a))])]) (.pointer (some b)) Tryz.underlying45 (by decide) w
  have hty2 := fun w b => run_eql_iface_types (P := Tryz.prog) 63 219 (.agg #[.int .i64 k2, .iface 219 (.pointer (some a))]) (.pointer (some b)) Tryz.underlying45 (by decide) w
  go_enter Tryz.func48, Tryz.ntmps48
  go_wp2
  refine wp_loop_rounds 3 ?_
  rw [rounds_succ]
  go_wp2
  rw [rounds_succ]
  go_wp2
  rw [rounds_succ]
  go_wp2
  go_ret
  exact ⟨rfl, (((Below.refl _ _).alloc (by simp) _).alloc (by first | (simp; done) | (simp; omega)) _)⟩

theorem IsO2 (k1 k2 : Int) (a b : Addr) (ca cb : Array Value) (ta tb : TypeId) (w : World) (hne : a ≠ b) (ha : w.heap[a.block]? = some (.cells ca ta (0, 0))) (hb : w.heap[b.block]? = some (.cells cb tb (0, 0))) :
    Calls Tryz.prog 48 #[.iface 63 (.agg #[.int .i64 k1, .iface 63 (.agg #[.int .i64 k2, .iface 219 (.pointer (some a))])]), .iface 219 (.pointer (some b))] w fun e w' => e = .returned (.bool false) ∧ Below w.heap.size w w' := by
  obtain ⟨i, hi, hcmp⟩ := Option.map_eq_some_iff.1 compS
  obtain ⟨j, hj, hjs⟩ := Option.map_eq_some_iff.1 sizeS
  have hext36 := @run_callFunc_extern Tryz.prog 73 _ ReflectliteType.typeOf Tryz.func73 (by kernel_rfl) (by kernel_rfl) (by kernel_rfl) (by kernel_rfl)
  obtain ⟨ext, hfind, cT⟩ := cmpExt
  have hext66 := @run_callFunc_extern Tryz.prog 173 _ ext Tryz.func173 (by kernel_rfl) (by kernel_rfl) (by kernel_rfl) hfind
  clear hfind
  have tT := typeOfS
  have mR := methodComparable
  have nW := noIsF
  have nE := noIsS
  have uW := unwF
  have uE := noUnwS
  have vE := noUnwsS
  have mU := methodUnwrap
  have hal : a.block < w.heap.size := (Array.getElem?_eq_some_iff.1 ha).1
  have hbl : b.block < w.heap.size := (Array.getElem?_eq_some_iff.1 hb).1
  have heq := run_eql_iface_ptr_other (P := Tryz.prog) ((w.alloc (.cells #[.int .i64 k1, .iface 63 (.agg #[.int .i64 k2, .iface 219 (.pointer (some a))])] 63)).alloc (.cells #[.int .i64 k2, .iface 219 (.pointer (some a))] 63)) Tryz.underlying45 Tryz.underlying219 hi hcmp hj (by rw [hjs]; decide) hne (by rw [Below.heap_alloc _ _ _ (by simp; omega)]; rw [Below.heap_alloc _ _ _ hal]; exact ha) (by rw [Below.heap_alloc _ _ _ (by simp; omega)]; rw [Below.heap_alloc _ _ _ hbl]; exact hb)
  have hty1 := fun w b => run_eql_iface_types (P := Tryz.prog) 63 219 (.agg #[.int .i64 k1, .iface 63 (.agg #[.int .i64 k2, .iface 219 (.pointer (some a))])]) (.pointer (some b)) Tryz.underlying45 (by decide) w
  have hty2 := fun w b => run_eql_iface_types (P := Tryz.prog) 63 219 (.agg #[.int .i64 k2, .iface 219 (.pointer (some a))]) (.pointer (some b)) Tryz.underlying45 (by decide) w
  clear ha hb hal hbl
  go_enter Tryz.func48, Tryz.ntmps48
  go_wp2
  refine wp_loop_rounds 3 ?_
  rw [rounds_succ]
  go_wp2
  rw [rounds_succ]
  go_wp2
  rw [rounds_succ]
  go_wp2
  go_ret
  exact ⟨rfl, (((Below.refl _ _).alloc (by simp) _).alloc (by first | (simp; done) | (simp; omega)) _)⟩

end Go.Proofs.YthfcnjcpanoldaaGreatDoor.D
