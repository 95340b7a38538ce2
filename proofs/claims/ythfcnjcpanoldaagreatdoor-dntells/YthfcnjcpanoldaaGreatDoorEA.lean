/-
  Several texts in one: EErrFacts, EErrs, EErrno, EPure, ESmall, EIter. Each says what it proves, and its conditions.
-/
import Derived.Test.YthfcnjcpanoldaaGreatDoorProg
import Derived.WalkKit
import Derived.LaidEql
import Derived.Stop.Asserts
import Derived.RowKitTokens
import Derived.Test.YthfcnjcpanoldaaGreatDoorCA
import Derived.Test.YthfcnjcpanoldaaGreatDoorUA
import Derived.Test.YthfcnjcpanoldaaGreatDoorCB
/-
  Closed facts on the model's entries for reflectlite at this program's types, and on the assertions that errors.As and errors.Is make there. Conditions: none.
-/
namespace Go.Proofs.YthfcnjcpanoldaaGreatDoor.E
open Go.RowKit Go.Extern.Stop Go.Stop Go.Extern

/-! ### closed facts on reflectlite's entries -/
theorem vOfT (t : Addr) (w : World) : (ReflectliteValue.unpack (.iface 180 (.pointer (some t)))).run Tryz.prog w
    = .ok (.agg #[.pointer (some ⟨12, 180, none⟩), .pointer (some ⟨w.heap.size, 0, none⟩), .int .u64 150]) (w.alloc (.cells #[.pointer (some t)] 180)) := by kernel_rfl
theorem typeT (a : Addr) (w : World) : (ReflectliteValue.methodAny (ReflectliteValue.valueError "reflectlite.Value.Type" 0) (fun t _ _ _ => ReflectliteType.toType t) #[.agg #[.pointer (some ⟨12, 180, none⟩), .pointer (some a), .int .u64 150]]).run Tryz.prog w
    = .ok (.iface 135 (.agg #[.pointer (some ⟨12, 180, none⟩)])) w := by kernel_rfl
theorem methodKind (h : Value) (w : World) : (Go.method 348 135 (.agg #[h]) "Kind").run Tryz.prog w = .ok (162, h) w := by kernel_rfl
theorem kindT (w : World) : ((ReflectliteType.abiMethod fun t => (fun a : Nat => Value.int IntKind.u8 (a : Int)) <$> Rtype.kind t) #[.pointer (some ⟨12, 180, none⟩)]).run Tryz.prog w = .ok (.int .u8 22) w := by kernel_rfl
theorem kindE (w : World) : ((ReflectliteType.abiMethod fun t => (fun a : Nat => Value.int IntKind.u8 (a : Int)) <$> Rtype.kind t) #[.pointer (some ⟨12, 179, none⟩)]).run Tryz.prog w = .ok (.int .u8 25) w := by kernel_rfl
/-- one step of a run, the first part known. -/
theorem run_step {α β : Type} {P : Program} {m : Sem α} {k : α → Sem β} {w w1 : World} {a : α} {r : Result β} (h : m.run P w = .ok a w1) (h2 : (k a).run P w1 = r) : (m >>= k).run P w = r := by
  rw [Sem.run_bind, h]; exact h2
theorem partsT (a : Addr) (w : World) : (ReflectliteValue.parts (.agg #[.pointer (some ⟨12, 180, none⟩), .pointer (some a), .int .u64 150])).run Tryz.prog w = .ok (some (180, a, 150)) w := by kernel_rfl
theorem isNilT (a p : Addr) (W : World) (ha : W.cell? a = some (.pointer (some p))) :
    (ReflectliteValue.method (ReflectliteValue.valueError "reflectlite.Value.IsNil" 0) ReflectliteValue.isNil #[.agg #[.pointer (some ⟨12, 180, none⟩), .pointer (some a), .int .u64 150]]).run Tryz.prog W = .ok (.bool false) W := by
  refine run_step (partsT a W) ?_
  simp [ReflectliteValue.isNil, loadVar, isAgg, underlying, Tryz.underlying180, ha, Result.andThen]
theorem methodElem (h : Value) (w : World) : (Go.method 348 135 (.agg #[h]) "Elem").run Tryz.prog w = .ok (174, .agg #[h]) w := by kernel_rfl
theorem methodImplements (h : Value) (w : World) : (Go.method 348 135 (.agg #[h]) "Implements").run Tryz.prog w = .ok (175, .agg #[h]) w := by kernel_rfl
theorem methodAssignableTo (h : Value) (w : World) : (Go.method 348 135 (.agg #[h]) "AssignableTo").run Tryz.prog w = .ok (172, .agg #[h]) w := by kernel_rfl
theorem elemT (w : World) : (ReflectliteType.method ReflectliteType.elem #[.agg #[.pointer (some ⟨12, 180, none⟩)]]).run Tryz.prog w = .ok (.iface 135 (.agg #[.pointer (some ⟨12, 179, none⟩)])) w := by kernel_rfl
theorem implementsE (w : World) : (ReflectliteType.relation "Implements" ReflectliteType.implements_ #[.agg #[.pointer (some ⟨12, 179, none⟩)], .iface 135 (.agg #[.pointer (some ⟨12, 45, none⟩)])]).run Tryz.prog w = .ok (.bool true) w := by kernel_rfl
theorem typeOfE (v : Value) (w : World) : (ReflectliteType.typeOf #[.iface 179 v]).run Tryz.prog w = .ok (.iface 135 (.agg #[.pointer (some ⟨12, 179, none⟩)])) w := by kernel_rfl
theorem typeOfF (v : Value) (w : World) : (ReflectliteType.typeOf #[.iface 175 v]).run Tryz.prog w = .ok (.iface 135 (.agg #[.pointer (some ⟨12, 175, none⟩)])) w := by kernel_rfl
theorem typeOfS (v : Value) (w : World) : (ReflectliteType.typeOf #[.iface 219 v]).run Tryz.prog w = .ok (.iface 135 (.agg #[.pointer (some ⟨12, 219, none⟩)])) w := by kernel_rfl
theorem assignE (w : World) : (ReflectliteType.relation "AssignableTo" ReflectliteType.assignableTo #[.agg #[.pointer (some ⟨12, 179, none⟩)], .iface 135 (.agg #[.pointer (some ⟨12, 179, none⟩)])]).run Tryz.prog w = .ok (.bool true) w := by kernel_rfl
theorem assignF (w : World) : (ReflectliteType.relation "AssignableTo" ReflectliteType.assignableTo #[.agg #[.pointer (some ⟨12, 175, none⟩)], .iface 135 (.agg #[.pointer (some ⟨12, 179, none⟩)])]).run Tryz.prog w = .ok (.bool false) w := by kernel_rfl
theorem assignS (w : World) : (ReflectliteType.relation "AssignableTo" ReflectliteType.assignableTo #[.agg #[.pointer (some ⟨12, 219, none⟩)], .iface 135 (.agg #[.pointer (some ⟨12, 179, none⟩)])]).run Tryz.prog w = .ok (.bool false) w := by kernel_rfl
theorem vOfE (x : Value) (w : World) : (ReflectliteValue.unpack (.iface 179 (.agg #[x]))).run Tryz.prog w
    = .ok (.agg #[.pointer (some ⟨12, 179, none⟩), .pointer (some ⟨w.heap.size, 0, none⟩), .int .u64 153]) (w.alloc (.cells #[x] 179)) := by kernel_rfl
theorem elemOfT (w : World) : (Rtype.elem? 180).run Tryz.prog w = .ok (some 179) w := by kernel_rfl
theorem mkE (p : Addr) (w : World) : (ReflectliteValue.mk 179 p ReflectliteValue.flagAddr).run Tryz.prog w = .ok (.agg #[.pointer (some ⟨12, 179, none⟩), .pointer (some p), .int .u64 409]) w := by kernel_rfl
theorem elemVT (a p : Addr) (W : World) (ha : W.cell? a = some (.pointer (some p))) :
    (ReflectliteValue.method (ReflectliteValue.valueError "reflectlite.Value.Elem" 0) ReflectliteValue.elem #[.agg #[.pointer (some ⟨12, 180, none⟩), .pointer (some a), .int .u64 150]]).run Tryz.prog W
      = .ok (.agg #[.pointer (some ⟨12, 179, none⟩), .pointer (some p), .int .u64 409]) W := by
  refine run_step (partsT a W) ?_
  simp [ReflectliteValue.elem, loadVar, isAgg, underlying, Tryz.underlying180, ha, Result.andThen, elemOfT, mkE]
theorem partsEa (a : Addr) (w : World) : (ReflectliteValue.parts (.agg #[.pointer (some ⟨12, 179, none⟩), .pointer (some a), .int .u64 409])).run Tryz.prog w = .ok (some (179, a, 409)) w := by kernel_rfl
theorem partsE (a : Addr) (w : World) : (ReflectliteValue.parts (.agg #[.pointer (some ⟨12, 179, none⟩), .pointer (some a), .int .u64 153])).run Tryz.prog w = .ok (some (179, a, 153)) w := by kernel_rfl
theorem directE (w : World) : (Rtype.directlyAssignable 179 179).run Tryz.prog w = .ok true w := by kernel_rfl
theorem sizeE (w : World) : (sizeOf 179).run Tryz.prog w = .ok 1 w := by kernel_rfl
theorem load1 (b : Addr) (x : Value) (W : World) (hb : W.cell? b = some x) : (loadCells b 1).run Tryz.prog W = .ok #[x] W := by
  have h : W.cell? (b.add 0) = some x := by simpa [Addr.add] using hb
  simp [loadCells, loadCellsFrom, h, Result.andThen]
theorem setE (ta b : Addr) (n : Int) (old : Value) (W : World) (hb : W.cell? b = some (.int .u8 n)) (ht : W.cell? ta = some old) (hf : W.frozen? ta = false) :
    (ReflectliteValue.set #[.agg #[.pointer (some ⟨12, 179, none⟩), .pointer (some ta), .int .u64 409], .agg #[.pointer (some ⟨12, 179, none⟩), .pointer (some b), .int .u64 153]]).run Tryz.prog W
      = .ok (.tuple #[]) (W.setCell ta (.int .u8 n)) := by
  refine run_step (partsEa ta W) ?_
  refine run_step (partsE b W) ?_
  simp [ReflectliteValue.flagAddr, loadVar, isAgg, underlying, Tryz.underlying179, load1 b _ W hb, Result.andThen, directE, storeVar, Value.cells, storeCells, Addr.add]
  rw [run_store Tryz.prog W ta _ _ (by rfl)]
  simp [ht, hf]

/-! ### what errors.as and errors.is find on the dynamic types -/
theorem noAsF (v : Value) (xT : TypeId) (w : World) : (Instr.typeAssert (.iface 175 v) xT 139 true).run Tryz.prog w = .ok (.tuple #[.nilIface, .bool false]) w := run_typeAssert_lacksB Tryz.underlying139 (by kernel_rfl) (by kernel_rfl) v xT w
theorem noAsS (v : Value) (xT : TypeId) (w : World) : (Instr.typeAssert (.iface 219 v) xT 139 true).run Tryz.prog w = .ok (.tuple #[.nilIface, .bool false]) w := run_typeAssert_lacksB Tryz.underlying139 (by kernel_rfl) (by kernel_rfl) v xT w
theorem noIsF (v : Value) (xT : TypeId) (w : World) : (Instr.typeAssert (.iface 175 v) xT 147 true).run Tryz.prog w = .ok (.tuple #[.nilIface, .bool false]) w := run_typeAssert_lacksB Tryz.underlying147 (by kernel_rfl) (by kernel_rfl) v xT w
theorem noIsS (v : Value) (xT : TypeId) (w : World) : (Instr.typeAssert (.iface 219 v) xT 147 true).run Tryz.prog w = .ok (.tuple #[.nilIface, .bool false]) w := run_typeAssert_lacksB Tryz.underlying147 (by kernel_rfl) (by kernel_rfl) v xT w
theorem unwF (v : Value) (xT : TypeId) (w : World) : (Instr.typeAssert (.iface 175 v) xT 142 true).run Tryz.prog w = .ok (.tuple #[.iface 175 v, .bool true]) w := run_typeAssert_hasB Tryz.underlying142 (by kernel_rfl) v xT w
theorem noUnwS (v : Value) (xT : TypeId) (w : World) : (Instr.typeAssert (.iface 219 v) xT 142 true).run Tryz.prog w = .ok (.tuple #[.nilIface, .bool false]) w := run_typeAssert_lacksB Tryz.underlying142 (by kernel_rfl) (by kernel_rfl) v xT w
theorem noUnwsS (v : Value) (xT : TypeId) (w : World) : (Instr.typeAssert (.iface 219 v) xT 144 true).run Tryz.prog w = .ok (.tuple #[.nilIface, .bool false]) w := run_typeAssert_lacksB Tryz.underlying144 (by kernel_rfl) (by kernel_rfl) v xT w
theorem methodUnwrap (v : Value) (w : World) : (Go.method 348 175 v "Unwrap").run Tryz.prog w = .ok (184, v) w := by kernel_rfl
/-- the model's entry for (rtype).Comparable, by its name, says that a pointer can be compared. -/
theorem cmpExt : ∃ ext : Array Value → Sem Value, find Tryz.f173 = some ext ∧
    ∀ w : World, (ext #[.agg #[.pointer (some ⟨12, 219, none⟩)]]).run Tryz.prog w = .ok (.bool true) w :=
  ⟨(find Tryz.f173).getD fun _ => pure (.tuple #[]), by kernel_rfl, fun w => by kernel_rfl⟩
theorem methodComparable (v : Value) (w : World) : (Go.method 348 135 v "Comparable").run Tryz.prog w = .ok (173, v) w := by kernel_rfl
theorem compS : (Tryz.prog.info? 219).map (·.comparable) = some true := by kernel_rfl
theorem sizeS : (Tryz.prog.info? 237).map (·.size) = some 1 := by kernel_rfl
end Go.Proofs.YthfcnjcpanoldaaGreatDoor.E

/-
  What errors.As and errors.Is answer where package esc asks them: at a fault that wraps a bare or a sentinel, and at a bare bare. Conditions: the three package-level variables hold what the program's text lays.
-/
namespace Go.Proofs.YthfcnjcpanoldaaGreatDoor.E
open Go.RowKit Go.Extern.Stop Go.Stop Go.Extern

theorem lt_of_cell {w : World} {a : Addr} {v : Value} (h : w.cell? a = some v) : a.block < w.heap.size := by
  rcases Nat.lt_or_ge a.block w.heap.size with h' | h'
  · exact h'
  · simp [World.cell?, Array.getElem?_eq_none h'] at h

/-- What errors.as answers at an error, the target a variable of bare. -/
def AsGives (err : Value) (b : Bool) : Prop := ∀ (tg : Value) (va t : Addr) (old : Value) (w : World), w.cell? va = some (.pointer (some t)) → w.cell? t = some old → w.frozen? t = false →
    Calls Tryz.prog 72 #[err, tg, .agg #[.pointer (some ⟨12, 180, none⟩), .pointer (some va), .int .u64 150], .iface 135 (.agg #[.pointer (some ⟨12, 179, none⟩)])] w
      fun e w' => e = .returned (.bool b) ∧ Below t.block w w'

/-- errors.as at a bare bare: the target is set. -/
theorem as1 (n : Int) : AsGives (.iface 179 (.agg #[.int .u8 n])) true := by
  intro tg va t old w hv ht hf
  have hext36 := @run_callFunc_extern Tryz.prog 73 _ ReflectliteType.typeOf Tryz.func73 (by kernel_rfl) (by kernel_rfl) (by kernel_rfl) (by kernel_rfl)
  have hext65 := @run_callFunc_extern Tryz.prog 172 _ (ReflectliteType.relation "AssignableTo" ReflectliteType.assignableTo) Tryz.func172 (by kernel_rfl) (by kernel_rfl) (by kernel_rfl) (by kernel_rfl)
  have hext39 := @run_callFunc_extern Tryz.prog 94 _ (ReflectliteValue.method (ReflectliteValue.valueError "reflectlite.Value.Elem" 0) ReflectliteValue.elem) Tryz.func94 (by kernel_rfl) (by kernel_rfl) (by kernel_rfl) (by kernel_rfl)
  have hext40 := @run_callFunc_extern Tryz.prog 95 _ ReflectliteValue.set Tryz.func95 (by kernel_rfl) (by kernel_rfl) (by kernel_rfl) (by kernel_rfl)
  have hext32 := @run_callFunc_extern Tryz.prog 69 _ (fun args => ReflectliteValue.unpack (args.getD 0 (.tuple #[]))) Tryz.func69 (by kernel_rfl) (by kernel_rfl) (by kernel_rfl) (by kernel_rfl)
  have h1 := typeOfE
  have h2 := assignE
  have h3 := methodAssignableTo
  have h4 := vOfE
  have hvl := lt_of_cell hv
  have htl := lt_of_cell ht
  have el := elemVT va t (w.alloc (.cells #[.pointer (some ⟨12, 180, none⟩), .pointer (some va), .int .u64 150] 107)) (by rw [World.cell?_alloc_lt _ _ va hvl]; exact hv)
  have st := setE t ⟨w.heap.size + 1, 0, none⟩ n old ((w.alloc (.cells #[.pointer (some ⟨12, 180, none⟩), .pointer (some va), .int .u64 150] 107)).alloc (.cells #[.int .u8 n] 179))
    (by rw [World.cell?_alloc_at _ _ _ _ (by simp)]; rfl)
    (by rw [World.cell?_alloc_lt _ _ t (by simp; omega), World.cell?_alloc_lt _ _ t htl]; exact ht)
    (by rw [World.frozen?_alloc_old _ _ t (by simp; omega), World.frozen?_alloc_old _ _ t (Nat.ne_of_lt htl)]; exact hf)
  go_enter Tryz.func72, Tryz.ntmps72
  go_wp2
  refine wp_loop_rounds 1 ?_
  rw [rounds_succ]
  go_wp2
  go_ret
  exact ⟨rfl, (((Below.refl _ _).alloc (by omega) _).alloc (by simp; omega) _).setCell (Nat.le_refl _) _⟩


/-- errors.as at a fault that wraps a bare. -/
theorem as2 (n k : Int) : AsGives (.iface 175 (.agg #[.int .i64 k, .iface 179 (.agg #[.int .u8 n])])) true := by
  intro tg va t old w hv ht hf
  have hext36 := @run_callFunc_extern Tryz.prog 73 _ ReflectliteType.typeOf Tryz.func73 (by kernel_rfl) (by kernel_rfl) (by kernel_rfl) (by kernel_rfl)
  have hext65 := @run_callFunc_extern Tryz.prog 172 _ (ReflectliteType.relation "AssignableTo" ReflectliteType.assignableTo) Tryz.func172 (by kernel_rfl) (by kernel_rfl) (by kernel_rfl) (by kernel_rfl)
  have hext39 := @run_callFunc_extern Tryz.prog 94 _ (ReflectliteValue.method (ReflectliteValue.valueError "reflectlite.Value.Elem" 0) ReflectliteValue.elem) Tryz.func94 (by kernel_rfl) (by kernel_rfl) (by kernel_rfl) (by kernel_rfl)
  have hext40 := @run_callFunc_extern Tryz.prog 95 _ ReflectliteValue.set Tryz.func95 (by kernel_rfl) (by kernel_rfl) (by kernel_rfl) (by kernel_rfl)
  have hext32 := @run_callFunc_extern Tryz.prog 69 _ (fun args => ReflectliteValue.unpack (args.getD 0 (.tuple #[]))) Tryz.func69 (by kernel_rfl) (by kernel_rfl) (by kernel_rfl) (by kernel_rfl)
  have h1 := typeOfE
  have h1' := typeOfF
  have h2 := assignE
  have h2' := assignF
  have h3 := methodAssignableTo
  have h4 := vOfE
  have h5 := noAsF
  have h6 := unwF
  have h7 := methodUnwrap
  have hvl := lt_of_cell hv
  have htl := lt_of_cell ht
  have el := elemVT va t ((w.alloc (.cells #[.pointer (some ⟨12, 180, none⟩), .pointer (some va), .int .u64 150] 107)).alloc (.cells #[.int .i64 k, .iface 179 (.agg #[.int .u8 n])] 175)) (by rw [World.cell?_alloc_lt _ _ va (by simp; omega), World.cell?_alloc_lt _ _ va hvl]; exact hv)
  have st := setE t ⟨w.heap.size + 1 + 1, 0, none⟩ n old (((w.alloc (.cells #[.pointer (some ⟨12, 180, none⟩), .pointer (some va), .int .u64 150] 107)).alloc (.cells #[.int .i64 k, .iface 179 (.agg #[.int .u8 n])] 175)).alloc (.cells #[.int .u8 n] 179))
    (by rw [World.cell?_alloc_at _ _ _ _ (by simp)]; rfl)
    (by rw [World.cell?_alloc_lt _ _ t (by simp; omega), World.cell?_alloc_lt _ _ t (by simp; omega), World.cell?_alloc_lt _ _ t htl]; exact ht)
    (by rw [World.frozen?_alloc_old _ _ t (by simp; omega), World.frozen?_alloc_old _ _ t (by simp; omega), World.frozen?_alloc_old _ _ t (Nat.ne_of_lt htl)]; exact hf)
  go_enter Tryz.func72, Tryz.ntmps72
  go_wp2
  refine wp_loop_rounds 2 ?_
  rw [rounds_succ]
  go_wp2
  rw [rounds_succ]
  go_wp2
  go_ret
  exact ⟨rfl, ((((Below.refl _ _).alloc (by omega) _).alloc (by simp; omega) _).alloc (by simp; omega) _).setCell (Nat.le_refl _) _⟩

/-- errors.as at a fault that wraps a sentinel: it finds nothing. -/
theorem as3 (k : Int) (a : Addr) : AsGives (.iface 175 (.agg #[.int .i64 k, .iface 219 (.pointer (some a))])) false := by
  intro tg va t old w hv ht hf
  have hext36 := @run_callFunc_extern Tryz.prog 73 _ ReflectliteType.typeOf Tryz.func73 (by kernel_rfl) (by kernel_rfl) (by kernel_rfl) (by kernel_rfl)
  have hext65 := @run_callFunc_extern Tryz.prog 172 _ (ReflectliteType.relation "AssignableTo" ReflectliteType.assignableTo) Tryz.func172 (by kernel_rfl) (by kernel_rfl) (by kernel_rfl) (by kernel_rfl)
  have h1 := typeOfS
  have h1' := typeOfF
  have h2 := assignS
  have h2' := assignF
  have h3 := methodAssignableTo
  have h5 := noAsF
  have h5' := noAsS
  have h6 := unwF
  have h6' := noUnwS
  have h6'' := noUnwsS
  have h7 := methodUnwrap
  have htl := lt_of_cell ht
  go_enter Tryz.func72, Tryz.ntmps72
  go_wp2
  refine wp_loop_rounds 2 ?_
  rw [rounds_succ]
  go_wp2
  rw [rounds_succ]
  go_wp2
  go_ret
  exact ⟨rfl, ((Below.refl _ _).alloc (by omega) _).alloc (by simp; omega) _⟩

/-- errors.As(err, &t), t a variable of bare. -/
theorem As_gives (T : TypeId) (v : Value) (b : Bool) (h : AsGives (.iface T v) b) (t : Addr) (old : Value) (w : World)
    (hg : w.cell? ⟨4, 0, none⟩ = some (.iface 135 (.agg #[.pointer (some ⟨12, 45, none⟩)]))) (ht : w.cell? t = some old) (hf : w.frozen? t = false) :
    Calls Tryz.prog 47 #[.iface T v, .iface 180 (.pointer (some t))] w fun e w' => e = .returned (.bool b) ∧ Below t.block w w' := by
  have hext32 := @run_callFunc_extern Tryz.prog 69 _ (fun args => ReflectliteValue.unpack (args.getD 0 (.tuple #[]))) Tryz.func69 (by kernel_rfl) (by kernel_rfl) (by kernel_rfl) (by kernel_rfl)
  have hext33 := @run_callFunc_extern Tryz.prog 70 _ (ReflectliteValue.methodAny (ReflectliteValue.valueError "reflectlite.Value.Type" 0) (fun t _ _ _ => ReflectliteType.toType t)) Tryz.func70 (by kernel_rfl) (by kernel_rfl) (by kernel_rfl) (by kernel_rfl)
  have hext34 := @run_callFunc_extern Tryz.prog 71 _ (ReflectliteValue.method (ReflectliteValue.valueError "reflectlite.Value.IsNil" 0) ReflectliteValue.isNil) Tryz.func71 (by kernel_rfl) (by kernel_rfl) (by kernel_rfl) (by kernel_rfl)
  have hext55 := @run_callFunc_extern Tryz.prog 162 _ (ReflectliteType.abiMethod fun t => do pure (.int .u8 (← Rtype.kind t))) Tryz.func162 (by kernel_rfl) (by kernel_rfl) (by kernel_rfl) (by kernel_rfl)
  have hext67 := @run_callFunc_extern Tryz.prog 174 _ (ReflectliteType.method ReflectliteType.elem) Tryz.func174 (by kernel_rfl) (by kernel_rfl) (by kernel_rfl) (by kernel_rfl)
  have hext68 := @run_callFunc_extern Tryz.prog 175 _ (ReflectliteType.relation "Implements" ReflectliteType.implements_) Tryz.func175 (by kernel_rfl) (by kernel_rfl) (by kernel_rfl) (by kernel_rfl)
  have f6 := vOfT
  have f7 := typeT
  have mK := methodKind
  have mE := methodElem
  have mI := methodImplements
  have k27 := kindT
  have k25 := kindE
  have e27 := elemT
  have i25 := implementsE
  have htl := lt_of_cell ht
  have hgl := lt_of_cell hg
  have n8 := isNilT ⟨w.heap.size, 0, none⟩ t ((w.alloc (.cells #[.pointer (some t)] 180)).alloc (.cells #[.pointer (some ⟨12, 180, none⟩), .pointer (some ⟨w.heap.size, 0, none⟩), .int .u64 150] 107)) (by simp)
  have hg2 : ((w.alloc (.cells #[.pointer (some t)] 180)).alloc (.cells #[.pointer (some ⟨12, 180, none⟩), .pointer (some ⟨w.heap.size, 0, none⟩), .int .u64 150] 107)).cell? ⟨4, 0, none⟩ = some (.iface 135 (.agg #[.pointer (some ⟨12, 45, none⟩)])) := by
    rw [World.cell?_alloc_lt _ _ _ (by simp at hgl ⊢; omega), World.cell?_alloc_lt _ _ _ hgl]; exact hg
  have H := h (.iface 180 (.pointer (some t))) ⟨w.heap.size, 0, none⟩ t old ((w.alloc (.cells #[.pointer (some t)] 180)).alloc (.cells #[.pointer (some ⟨12, 180, none⟩), .pointer (some ⟨w.heap.size, 0, none⟩), .int .u64 150] 107))
    (by simp)
    (by rw [World.cell?_alloc_lt _ _ t (by simp; omega), World.cell?_alloc_lt _ _ t htl]; exact ht)
    (by rw [World.frozen?_alloc_old _ _ t (by simp; omega), World.frozen?_alloc_old _ _ t (Nat.ne_of_lt htl)]; exact hf)
  clear h
  go_enter Tryz.func47, Tryz.ntmps47
  go_wp2_with (go_at_call 72; refine H.mono ?_; rintro e w' ⟨rfl, hb⟩)
  go_ret
  exact ⟨rfl, (((Below.refl _ _).alloc (by omega) _).alloc (by simp; omega) _).trans hb⟩

end Go.Proofs.YthfcnjcpanoldaaGreatDoor.E

/-
  What esc.errnoOf answers at each error that package esc makes. Conditions: the package-level variables hold what the program's text lays ('Glob').
-/
namespace Go.Proofs.YthfcnjcpanoldaaGreatDoor.E
open Go.RowKit Go.Extern.Stop Go.Stop Go.Extern

/-- errors.Is(fault{k, x}, x), x a sentinel. -/
theorem Is_same (k : Int) (a : Addr) (w : World) :
    Calls Tryz.prog 48 #[.iface 175 (.agg #[.int .i64 k, .iface 219 (.pointer (some a))]), .iface 219 (.pointer (some a))] w fun e w' => e = .returned (.bool true) ∧ Below w.heap.size w w' := by
  obtain ⟨i, hi, hcmp⟩ := Option.map_eq_some_iff.1 compS
  obtain ⟨j, hj, hjs⟩ := Option.map_eq_some_iff.1 sizeS
  have hext36 := @run_callFunc_extern Tryz.prog 73 _ ReflectliteType.typeOf Tryz.func73 (by kernel_rfl) (by kernel_rfl) (by kernel_rfl) (by kernel_rfl)
  obtain ⟨ext, hfind, cT⟩ := cmpExt
  have hext66 := @run_callFunc_extern Tryz.prog 173 _ ext Tryz.func173 (by kernel_rfl) (by kernel_rfl) (by kernel_rfl) hfind
  clear hfind
  have tT := typeOfS
  have mR := methodComparable
  have nW := noIsF
  have uW := unwF
  have mU := methodUnwrap
  have heq := fun w => run_eql_iface_ptr_same (P := Tryz.prog) w a Tryz.underlying45 Tryz.underlying219 hi hcmp hj
  have hty := fun w => run_eql_iface_types (P := Tryz.prog) 175 219 (.agg #[.int .i64 k, .iface 219 (.pointer (some a))]) (.pointer (some a)) Tryz.underlying45 (by decide) w
  go_enter Tryz.func48, Tryz.ntmps48
  go_wp2
  refine wp_loop_rounds 2 ?_
  rw [rounds_succ]
  go_wp2
  rw [rounds_succ]
  go_wp2
  go_ret
  exact ⟨rfl, (Below.refl _ _).alloc (by simp) _⟩

/-- errors.Is(fault{k, x}, y), x and y two sentinels. -/
theorem Is_other (k : Int) (a b : Addr) (ca cb : Array Value) (ta tb : TypeId) (w : World) (hne : a ≠ b) (ha : w.heap[a.block]? = some (.cells ca ta (0, 0))) (hb : w.heap[b.block]? = some (.cells cb tb (0, 0))) :
    Calls Tryz.prog 48 #[.iface 175 (.agg #[.int .i64 k, .iface 219 (.pointer (some a))]), .iface 219 (.pointer (some b))] w fun e w' => e = .returned (.bool false) ∧ Below w.heap.size w w' := by
  obtain ⟨i, hi, hcmp⟩ := Option.map_eq_some_iff.1 compS
  obtain ⟨j, hj, hjs⟩ := Option.map_eq_some_iff.1 sizeS
  have hext36 := @run_callFunc_extern Tryz.prog 73 _ ReflectliteType.typeOf Tryz.func73 (by kernel_rfl) (by kernel_rfl) (by kernel_rfl) (by kernel_rfl)
  obtain ⟨ext, hfind, cT⟩ := cmpExt
  have hext66 := @run_callFunc_extern Tryz.prog 173 _ ext Tryz.func173 (by kernel_rfl) (by kernel_rfl) (by kernel_rfl) hfind
  clear hfind
  have tT := typeOfS
  have mR := methodComparable
  have nW := noIsF
  have nE := noIsS
  have uW := unwF
  have uE := noUnwS
  have vE := noUnwsS
  have mU := methodUnwrap
  have hal : a.block < w.heap.size := (Array.getElem?_eq_some_iff.1 ha).1
  have hbl : b.block < w.heap.size := (Array.getElem?_eq_some_iff.1 hb).1
  have heq := run_eql_iface_ptr_other (P := Tryz.prog) (w.alloc (.cells #[.int .i64 k, .iface 219 (.pointer (some a))] 175)) Tryz.underlying45 Tryz.underlying219 hi hcmp hj (by rw [hjs]; decide) hne ((Below.heap_alloc _ _ _ hal).trans ha) ((Below.heap_alloc _ _ _ hbl).trans hb)
  have hty := fun w => run_eql_iface_types (P := Tryz.prog) 175 219 (.agg #[.int .i64 k, .iface 219 (.pointer (some a))]) (.pointer (some b)) Tryz.underlying45 (by decide) w
  clear ha hb hal hbl
  go_enter Tryz.func48, Tryz.ntmps48
  go_wp2
  refine wp_loop_rounds 2 ?_
  rw [rounds_succ]
  go_wp2
  rw [rounds_succ]
  go_wp2
  go_ret
  exact ⟨rfl, (Below.refl _ _).alloc (by simp) _⟩

theorem hide {p : Prop} (h : p) : Hid p := h
theorem unhide {p : Prop} (h : Hid p) : p := h

/-- where the sentinels lie: of code, of utf, and the two of esc. -/
structure Ad where
  cd : C.Ad
  ut : Addr
  us : Addr
  t : Addr
  m : Addr
/-- The package-level variables hold what the program's text lays. -/
structure Glob (a : Ad) (w : World) : Prop where
  gc : C.Glob a.cd w
  gu : U.Glob a.ut a.us w
  tx : w.cell? ⟨6, 0, none⟩ = some (.iface 219 (.pointer (some a.t)))
  mr : w.cell? ⟨7, 0, none⟩ = some (.iface 219 (.pointer (some a.m)))
  mt : a.m ≠ a.t
  hT : ∃ c t, w.heap[a.t.block]? = some (.cells c t (0, 0))
  hM : ∃ c t, w.heap[a.m.block]? = some (.cells c t (0, 0))
theorem Glob.ty {a : Ad} {w : World} (g : Glob a w) : w.cell? ⟨4, 0, none⟩ = some (.iface 135 (.agg #[.pointer (some ⟨12, 45, none⟩)])) := g.gc.ty

theorem Glob.below {a : Ad} {w w' : World} (g : Glob a w) {B : Nat} (hB : w.heap.size ≤ B) (h : Below B w w') : Glob a w' := by
  obtain ⟨gc, gu, tx, mr, mt, ⟨c1, t1, h1⟩, ⟨c2, t2, h2⟩⟩ := g
  refine ⟨gc.below hB h, gu.below hB h, ?_, ?_, mt, ⟨c1, t1, ?_⟩, ⟨c2, t2, ?_⟩⟩
  · rw [h.cell (Nat.lt_of_lt_of_le (lt_of_cell tx) hB)]; exact tx
  · rw [h.cell (Nat.lt_of_lt_of_le (lt_of_cell mr) hB)]; exact mr
  · rw [h.block _ (Nat.lt_of_lt_of_le (Array.getElem?_eq_some_iff.1 h1).1 hB)]; exact h1
  · rw [h.block _ (Nat.lt_of_lt_of_le (Array.getElem?_eq_some_iff.1 h2).1 hB)]; exact h2
theorem Glob.alloc {a : Ad} {w : World} (g : Glob a w) (o : Obj) : Glob a (w.alloc o) :=
  g.below (Nat.le_refl _) ((Below.refl _ _).alloc (Nat.le_refl _) _)

/-- a fault at a place that wraps a sentinel, one that wraps a bare byte. -/
abbrev flt (k : Int) (a : Addr) : Value := .iface 175 (.agg #[.int .i64 k, .iface 219 (.pointer (some a))])
abbrev nos (k n : Int) : Value := .iface 175 (.agg #[.int .i64 k, .iface 179 (.agg #[.int .u8 n])])

/-- errnoOf at an error in which a bare byte is found. -/
theorem errnoOf_bare (k n : Int) (a : Ad) (w : World) (g : Glob a w) :
    Calls Tryz.prog 115 #[nos k n] w fun e w' => e = .returned (.int .i64 60) ∧ Below w.heap.size w w' := by
  have gt := (g.alloc (.cells #[.int .u8 0] 179)).ty
  have H := hide (As_gives _ _ true (as2 n k) ⟨w.heap.size, 0, none⟩ (.int .u8 0) (w.alloc (.cells #[.int .u8 0] 179)) gt (by simp) (by simp))
  clear gt g
  go_enter Tryz.func115, Tryz.ntmps115
  go_wp2_with fail
  refine (unhide H).mono ?_
  rintro e w1 ⟨rfl, hb⟩
  have HB := hide hb
  clear hb
  go_wp2
  go_ret
  exact ⟨rfl, ((Below.refl _ _).alloc (Nat.le_refl _) _).trans (unhide HB)⟩

/-- what As leaves at a fault that wraps a sentinel. -/
theorem asNo (k : Int) (x : Addr) (a : Ad) (w : World) (g : Glob a w) :
    Calls Tryz.prog 47 #[flt k x, .iface 180 (.pointer (some ⟨w.heap.size, 0, none⟩))] (w.alloc (.cells #[.int .u8 0] 179)) fun e w' => e = .returned (.bool false) ∧ Hid (Below w.heap.size w w') ∧ Hid (Glob a w') ∧
      w'.cell? ⟨6, 0, none⟩ = some (.iface 219 (.pointer (some a.t))) := by
  have g1 := g.alloc (.cells #[.int .u8 0] 179)
  refine (As_gives _ _ false (as3 k x) ⟨w.heap.size, 0, none⟩ (.int .u8 0) _ g1.ty (by simp) (by simp)).mono fun e w' ⟨he, hb⟩ => ?_
  have hb' : Below w.heap.size w w' := ((Below.refl _ _).alloc (Nat.le_refl _) _).trans hb
  have g' := g.below (Nat.le_refl _) hb'
  exact ⟨he, hb', g', g'.tx⟩
/-- what Is says of a fault and its own sentinel, or another one. -/
theorem isYes (k : Int) (x : Addr) (w w1 : World) (h : Hid (Below w.heap.size w w1)) :
    Calls Tryz.prog 48 #[flt k x, .iface 219 (.pointer (some x))] w1 fun e w' => e = .returned (.bool true) ∧ Hid (Below w.heap.size w w') :=
  (Is_same k x w1).mono fun _ _ ⟨he, hb⟩ => ⟨he, (unhide h).trans (hb.mono (unhide h).size)⟩
theorem isNo (k : Int) (x y : Addr) (hne : x ≠ y) (a : Ad) (w w1 : World) (h : Hid (Below w.heap.size w w1)) (g : Hid (Glob a w1)) (hx : ∃ c t, w1.heap[x.block]? = some (.cells c t (0, 0))) (hy : ∃ c t, w1.heap[y.block]? = some (.cells c t (0, 0))) :
    Calls Tryz.prog 48 #[flt k x, .iface 219 (.pointer (some y))] w1 fun e w' => e = .returned (.bool false) ∧ Hid (Below w.heap.size w w') ∧ Hid (Glob a w') ∧
      w'.cell? ⟨7, 0, none⟩ = some (.iface 219 (.pointer (some a.m))) := by
  obtain ⟨c1, t1, h1⟩ := hx
  obtain ⟨c2, t2, h2⟩ := hy
  refine (Is_other k x y c1 c2 t1 t2 w1 hne h1 h2).mono fun e w' ⟨he, hb⟩ => ?_
  have g' := (unhide g).below (Nat.le_refl _) hb
  exact ⟨he, (unhide h).trans (hb.mono (unhide h).size), g', g'.mr⟩

theorem errnoOf_text (k : Int) (a : Ad) (w : World) (g : Glob a w) :
    Calls Tryz.prog 115 #[flt k a.t] w fun e w' => e = .returned (.int .i64 60) ∧ Below w.heap.size w w' := by
  have H := hide (asNo k a.t a w g)
  clear g
  go_enter Tryz.func115, Tryz.ntmps115
  go_wp2_with fail
  refine (unhide H).mono ?_
  rintro e w1 ⟨rfl, hb, hg, hc⟩
  go_wp2_with fail
  refine (isYes k a.t w _ hb).mono ?_
  rintro e w2 ⟨rfl, hb2⟩
  go_wp2
  go_ret
  exact ⟨rfl, unhide hb2⟩

theorem errnoOf_mark (k : Int) (a : Ad) (w : World) (g : Glob a w) :
    Calls Tryz.prog 115 #[flt k a.m] w fun e w' => e = .returned (.int .i64 60) ∧ Below w.heap.size w w' := by
  have H := hide (asNo k a.m a w g)
  have ne := hide g.mt
  clear g
  go_enter Tryz.func115, Tryz.ntmps115
  go_wp2_with fail
  refine (unhide H).mono ?_
  rintro e w1 ⟨rfl, hb, hg, hc⟩
  go_wp2_with fail
  refine (isNo k a.m a.t (unhide ne) a w _ hb hg (unhide hg).hM (unhide hg).hT).mono ?_
  rintro e w2 ⟨rfl, hb2, hg2, hc2⟩
  go_wp2_with fail
  refine (isYes k a.m w _ hb2).mono ?_
  rintro e w3 ⟨rfl, hb3⟩
  go_wp2
  go_ret
  exact ⟨rfl, unhide hb3⟩

/-- an error of this package. -/
def IsErr (a : Ad) (v : Value) : Prop := (∃ k, v = flt k a.t) ∨ (∃ k, v = flt k a.m) ∨ (∃ k n, v = nos k n)
theorem errnoOf_any (v : Value) (a : Ad) (w : World) (g : Glob a w) (h : IsErr a v) :
    Calls Tryz.prog 115 #[v] w fun e w' => e = .returned (.int .i64 60) ∧ Below w.heap.size w w' := by
  rcases h with ⟨k, rfl⟩ | ⟨k, rfl⟩ | ⟨k, n, rfl⟩
  · exact errnoOf_text k a w g
  · exact errnoOf_mark k a w g
  · exact errnoOf_bare k n a w g
theorem IsErr.form {a : Ad} {v : Value} (h : IsErr a v) : ∃ x, v = .iface 175 x := by
  rcases h with ⟨k, rfl⟩ | ⟨k, rfl⟩ | ⟨k, n, rfl⟩ <;> exact ⟨_, rfl⟩
end Go.Proofs.YthfcnjcpanoldaaGreatDoor.E

/-
  Values with escapes, plainly: what the document says of layer 6, and what follows. Conditions: none.
-/
namespace Go.Proofs.YthfcnjcpanoldaaGreatDoor.Ec
open Go.Proofs.YthfcnjcpanoldaaGreatDoor.Cd

/-- signs that mean something in a filter, in a name; what a mark may stand ahead of in a name. -/
abbrev sF : List UInt8 := [92, 42, 40, 41]
abbrev sN : List UInt8 := [92, 34, 43, 44, 59, 60, 62]
abbrev sE : List UInt8 := [92, 34, 43, 44, 59, 60, 62, 32, 35, 61]
/-- would the byte at a place, as it is, mean something? -/
def res (nm : Bool) (n p : Nat) (x : UInt8) : Bool :=
  if nm then sN.contains x || (decide (p = 0) && ([32, 35] : List UInt8).contains x) || (decide (p + 1 = n) && ([32] : List UInt8).contains x) else sF.contains x
def pln (x : UInt8) : Bool := decide (32 ≤ x.toNat) && decide (x.toNat ≤ 126)
def hx (x : UInt8) : List UInt8 := [dx (x.toNat / 16), dx (x.toNat % 16)]
/-- what is printed of the byte at a place. -/
def pb (nm : Bool) (n p : Nat) (x : UInt8) : List UInt8 := if pln x && !res nm n p x then [x] else if pln x && nm then [92, x] else 92 :: hx x
def prt (nm : Bool) (n : Nat) : Nat → List UInt8 → List UInt8
  | _, [] => []
  | p, x :: r => pb nm n p x ++ prt nm n (p + 1) r
/-- what is told behind a mark, and by how many bytes. -/
def esc1 (nm : Bool) : List UInt8 → Option (List UInt8 × Nat)
  | [] => none
  | y :: r => if nm && sE.contains y then some ([y], 1) else match r with
    | [] => none
    | z :: _ => match nh y, nh z with
      | some a, some b => some ([UInt8.ofNat (16 * a + b)], 2)
      | _, _ => none
/-- what the byte at a place tells, alone or with those behind it, and how many these are. -/
def stp (nm : Bool) (n p : Nat) (x : UInt8) (r : List UInt8) : Option (List UInt8 × Nat) :=
  if x = 92 then esc1 nm r else if (x == 0 || res nm n p x) = true then none else some ([x], 0)
def rdk (nm : Bool) (n : Nat) : Nat → Nat → List UInt8 → Option (List UInt8)
  | _, _, [] => some []
  | k + 1, p, _ :: r => rdk nm n k (p + 1) r
  | 0, p, x :: r => match stp nm n p x r with
    | none => none
    | some (t, k) => (rdk nm n k (p + 1) r).map (t ++ ·)

theorem esc1_mark {nm : Bool} {y : UInt8} (r : List UInt8) (h : (nm && sE.contains y) = true) : esc1 nm (y :: r) = some ([y], 1) := by
  cases r <;> simp only [esc1, h, if_true]
theorem enc_hx (x : UInt8) : enc kH [x] = hx x := by
  rw [enc_H1, enc_nil, List.append_nil, gr_H1]; rfl
theorem dec_one (y : UInt8) : dec kH [y] = none := dec_short kH (by decide) _ (by simp) (by show 1 < 2; decide)
theorem dec_two (y z : UInt8) : dec kH [y, z] = match nh y, nh z with
      | some a, some b => some [UInt8.ofNat (16 * a + b)]
      | _, _ => none := by
  rw [dec_H2]
  cases h1 : nh y with
  | none => simp [Cd.stp, tl, lp, kH, h1]
  | some a =>
    cases h2 : nh z with
    | none => simp [Cd.stp, tl, lp, kH, h1, h2]
    | some b =>
      rw [stp_H2 _ h1 h2]
      have ha := nh_some h1
      have hb := nh_some h2
      have e : UInt8.ofNat ((a * 1048576 + b * 65536) / 65536) = UInt8.ofNat (16 * a + b) := by congr 1; omega
      simp only [Option.bind_some, dec_nil, Option.map_some, List.append_nil, unp1, e]

theorem esc1_len {nm : Bool} {r t : List UInt8} {k : Nat} (h : esc1 nm r = some (t, k)) : t.length = 1 ∧ k ≤ r.length ∧ 1 ≤ k ∧ k ≤ 2 := by
  unfold esc1 at h
  split at h
  · cases h
  · split at h
    · cases h; simp
    · split at h
      · cases h
      · split at h
        · cases h; simp
        · cases h
theorem stp_len {nm : Bool} {n p : Nat} {x : UInt8} {r t : List UInt8} {k : Nat} (h : stp nm n p x r = some (t, k)) : t.length = 1 ∧ k ≤ r.length ∧ k ≤ 2 := by
  unfold stp at h
  split at h
  · have := esc1_len h; omega
  · split at h
    · cases h
    · cases h; simp
theorem rdk_skip (nm : Bool) (n : Nat) : ∀ (k p : Nat) (l : List UInt8), k ≤ l.length → rdk nm n k p l = rdk nm n 0 (p + k) (l.drop k)
  | 0, p, l, _ => by simp
  | k + 1, p, [], h => by simp at h
  | k + 1, p, x :: l, h => by
    rw [rdk, rdk_skip nm n k (p + 1) l (by simpa using h), List.drop_succ_cons]
    congr 1
    omega
theorem rdk_cons (nm : Bool) (n p : Nat) (x : UInt8) (r : List UInt8) : rdk nm n 0 p (x :: r) = match stp nm n p x r with
    | none => none
    | some (t, k) => (rdk nm n k (p + 1) r).map (t ++ ·) := by rw [rdk]
theorem rdk_len (nm : Bool) (n : Nat) : ∀ (l : List UInt8) (k p : Nat) (t : List UInt8), rdk nm n k p l = some t → t.length ≤ l.length
  | [], k, p, t, h => by rw [rdk] at h; cases h; simp
  | x :: l, k + 1, p, t, h => by
    rw [rdk] at h
    have := rdk_len nm n l _ _ _ h
    simp
    omega
  | x :: l, 0, p, t, h => by
    rw [rdk_cons] at h
    split at h
    · cases h
    · rename_i t1 k1 h1
      cases h2 : rdk nm n k1 (p + 1) l with
      | none => rw [h2] at h; cases h
      | some t2 =>
        rw [h2] at h
        cases h
        have := rdk_len nm n l _ _ _ h2
        have := (stp_len h1).1
        simp
        omega

/-- a byte 00 is never read. -/
theorem nh_zero : nh 0 = none := by decide
theorem esc1_zero {nm : Bool} {r t : List UInt8} {k : Nat} (h : esc1 nm r = some (t, k)) (h0 : (0 : UInt8) ∈ r) : (0 : UInt8) ∈ r.drop k := by
  unfold esc1 at h
  split at h
  · cases h
  · rename_i y r
    split at h
    · rename_i hy
      cases h
      rcases List.mem_cons.1 h0 with rfl | h0
      · have : sE.contains (0 : UInt8) = false := by decide
        rw [this] at hy
        simp at hy
      · simpa using h0
    · split at h
      · cases h
      · rename_i z q _
        split at h
        · rename_i a b ha hb
          cases h
          rcases List.mem_cons.1 h0 with rfl | h0
          · rw [nh_zero] at ha; cases ha
          · rcases List.mem_cons.1 h0 with rfl | h0
            · rw [nh_zero] at hb; cases hb
            · simpa using h0
        · cases h
theorem rdk_zero (nm : Bool) (n : Nat) : ∀ (l : List UInt8) (k p : Nat), (0 : UInt8) ∈ l.drop k → rdk nm n k p l = none
  | [], k, p, h => by simp at h
  | x :: l, k + 1, p, h => by
    rw [rdk]
    exact rdk_zero nm n l k (p + 1) (by simpa using h)
  | x :: l, 0, p, h => by
    rw [rdk_cons]
    cases hs : stp nm n p x l with
    | none => rfl
    | some tk =>
      obtain ⟨t, k⟩ := tk
      have : (0 : UInt8) ∈ l.drop k := by
        unfold stp at hs
        rw [List.drop_zero] at h
        split at hs
        · rename_i hx
          subst hx
          rcases List.mem_cons.1 h with h | h
          · cases h
          · exact esc1_zero hs h
        · split at hs
          · cases hs
          · rename_i h1 h2
            cases hs
            rcases List.mem_cons.1 h with h | h
            · subst h; simp at h2
            · simpa using h
      show (rdk nm n k (p + 1) l).map _ = none
      rw [rdk_zero nm n l k (p + 1) this]
      rfl

/-! ### what is printed -/
theorem dx_ok (i : Nat) (h : i < 16) : nh (dx i) = some i ∧ sE.contains (dx i) = false ∧ pln (dx i) = true := by
  have : ∀ j : Fin 16, nh (dx j.val) = some j.val ∧ sE.contains (dx j.val) = false ∧ pln (dx j.val) = true := by decide +kernel
  exact this ⟨i, h⟩
theorem pb_ne (nm : Bool) (n p : Nat) (x : UInt8) : pb nm n p x ≠ [] := by unfold pb; split; simp; split <;> simp
theorem pb_len (nm : Bool) (n p : Nat) (x : UInt8) : 1 ≤ (pb nm n p x).length ∧ (pb nm n p x).length ≤ 3 := by unfold pb; split; simp; split <;> simp [hx]
theorem prt_len (nm : Bool) (n : Nat) : ∀ (l : List UInt8) (p : Nat), l.length ≤ (prt nm n p l).length ∧ (prt nm n p l).length ≤ 3 * l.length
  | [], _ => by simp [prt]
  | x :: l, p => by
    have h1 := prt_len nm n l (p + 1)
    have h2 := pb_len nm n p x
    rw [prt]
    simp
    omega
theorem u16 (x : UInt8) : x.toNat / 16 < 16 ∧ x.toNat % 16 < 16 := by have := x.toNat_lt; omega
theorem pln92 : pln 92 = true := by decide
theorem pb_pln (nm : Bool) (n p : Nat) (x : UInt8) : ∀ y ∈ pb nm n p x, pln y = true := by
  intro y hy
  unfold pb at hy
  split at hy
  · rename_i h
    simp at hy
    subst hy
    simp at h
    exact h.1
  · split at hy
    · rename_i h
      simp at h
      simp at hy
      rcases hy with rfl | rfl
      · exact pln92
      · exact h.1
    · simp [hx] at hy
      rcases hy with rfl | rfl | rfl
      · exact pln92
      · exact (dx_ok _ (u16 x).1).2.2
      · exact (dx_ok _ (u16 x).2).2.2
theorem prt_pln (nm : Bool) (n : Nat) : ∀ (l : List UInt8) (p : Nat), ∀ y ∈ prt nm n p l, pln y = true
  | [], _, y, h => by simp [prt] at h
  | x :: l, p, y, h => by
    rw [prt] at h
    rcases List.mem_append.1 h with h | h
    · exact pb_pln nm n p x y h
    · exact prt_pln nm n l (p + 1) y h
theorem res_sE {n p : Nat} {x : UInt8} (h : res true n p x = true) : sE.contains x = true := by
  unfold res at h
  rw [if_pos rfl] at h
  rw [Bool.or_eq_true, Bool.or_eq_true, Bool.and_eq_true, Bool.and_eq_true] at h
  rw [List.contains_iff_mem] at h ⊢
  rcases h with (h | ⟨_, h⟩) | ⟨_, h⟩
  · simp at h ⊢
    rcases h with h | h | h | h | h | h | h <;> simp [h]
  · simp at h ⊢
    rcases h with h | h <;> simp [h]
  · simp at h ⊢
    simp [h]
theorem res92 (nm : Bool) (n p : Nat) : res nm n p 92 = true := by unfold res; cases nm <;> simp
theorem pln0 : pln 0 = false := by decide

/-- what is printed is read. -/
theorem back (nm : Bool) (n N : Nat) : ∀ (l : List UInt8) (p q : Nat), n = p + l.length → N = q + (prt nm n p l).length → (q = 0 → p = 0) → rdk nm N 0 q (prt nm n p l) = some l
  | [], p, q, _, _, _ => by rw [prt, rdk]
  | x :: l, p, q, hn, hN, h0 => by
    have IH := fun q' h1 h2 => back nm n N l (p + 1) q' (by simp at hn; omega) h1 h2
    rw [prt] at hN ⊢
    rw [List.length_append] at hN
    unfold pb at hN ⊢
    by_cases hp : (pln x && !res nm n p x) = true
    · rw [if_pos hp] at hN ⊢
      rw [Bool.and_eq_true, Bool.not_eq_true'] at hp
      obtain ⟨hp1, hp2⟩ := hp
      have h92 : x ≠ 92 := fun e => by subst e; rw [res92] at hp2; cases hp2
      have hz : x ≠ 0 := fun e => by subst e; rw [pln0] at hp1; cases hp1
      have hr : res nm N q x = false := by
        cases nm with
        | false => exact hp2
        | true =>
          unfold res at hp2 ⊢
          rw [if_pos rfl] at hp2 ⊢
          rw [Bool.or_eq_false_iff, Bool.or_eq_false_iff, Bool.and_eq_false_iff, Bool.and_eq_false_iff] at hp2 ⊢
          obtain ⟨⟨a1, a2⟩, a3⟩ := hp2
          refine ⟨⟨a1, ?_⟩, ?_⟩
          · rcases a2 with a2 | a2
            · left
              simp at a2 ⊢
              exact fun e => a2 (h0 e)
            · exact .inr a2
          · rcases a3 with a3 | a3
            · left
              simp at a3 ⊢
              intro e
              apply a3
              have : (prt true n (p + 1) l).length = 0 := by simp at hN; omega
              have h2 := (prt_len true n l (p + 1)).1
              simp at hn
              omega
            · exact .inr a3
      have hs : stp nm N q x (prt nm n (p + 1) l) = some ([x], 0) := by
        unfold stp
        rw [if_neg h92, if_neg (by simp [hz, hr])]
      rw [List.singleton_append, rdk_cons, hs]
      simp only
      rw [IH (q + 1) (by simp at hN; omega) (by omega)]
      rfl
    · rw [if_neg hp] at hN ⊢
      by_cases hm : (pln x && nm) = true
      · rw [if_pos hm] at hN ⊢
        rw [Bool.and_eq_true] at hm
        obtain ⟨h1, rfl⟩ := hm
        have hr : res true n p x = true := by simpa [h1] using hp
        have he := res_sE hr
        have hs : stp true N q 92 (x :: prt true n (p + 1) l) = some ([x], 1) := by
          unfold stp
          rw [if_pos rfl]
          exact esc1_mark _ (by simp only [he, Bool.and_self])
        show rdk true N 0 q (92 :: x :: prt true n (p + 1) l) = _
        rw [rdk_cons, hs]
        simp only
        rw [rdk, IH (q + 1 + 1) (by simp at hN; omega) (by omega)]
        rfl
      · rw [if_neg hm] at hN ⊢
        obtain ⟨a1, a2, _⟩ := dx_ok _ (u16 x).1
        obtain ⟨b1, b2, _⟩ := dx_ok _ (u16 x).2
        have hs : stp nm N q 92 (dx (x.toNat / 16) :: dx (x.toNat % 16) :: prt nm n (p + 1) l) = some ([x], 2) := by
          unfold stp
          rw [if_pos rfl]
          rw [esc1, if_neg (by rw [a2]; simp)]
          simp only [a1, b1]
          congr 2
          have : UInt8.ofNat (16 * (x.toNat / 16) + x.toNat % 16) = x := ofNat_eq (by have := x.toNat_lt; omega)
          rw [this]
        show rdk nm N 0 q (92 :: dx (x.toNat / 16) :: dx (x.toNat % 16) :: prt nm n (p + 1) l) = _
        rw [rdk_cons, hs]
        simp only
        rw [rdk, rdk, IH (q + 1 + 1 + 1) (by simp [hx] at hN; omega) (by omega)]
        rfl
theorem back0 (nm : Bool) (l : List UInt8) : rdk nm (prt nm l.length 0 l).length 0 0 (prt nm l.length 0 l) = some l :=
  back nm _ _ l 0 0 (by omega) (by omega) (fun _ => rfl)
/-- in a filter places don't matter. -/
theorem prt_F : ∀ (l : List UInt8) (n m p q : Nat), prt false n p l = prt false m q l
  | [], _, _, _, _ => rfl
  | x :: l, n, m, p, q => by
    rw [prt, prt, prt_F l n m (p + 1) (q + 1)]
    rfl
theorem prt_app (n : Nat) : ∀ (a b : List UInt8) (p : Nat), prt false n p (a ++ b) = prt false n p a ++ prt false n p b
  | [], b, p => by simp [prt]
  | x :: a, b, p => by
    rw [List.cons_append, prt, prt, prt_app n a b (p + 1), List.append_assoc, prt_F b n n (p + 1) p]
theorem joins (a b : List UInt8) : prt false (a ++ b).length 0 (a ++ b) = prt false a.length 0 a ++ prt false b.length 0 b := by
  rw [prt_app, prt_F a _ a.length 0 0, prt_F b _ b.length 0 0]
theorem apart (nm : Bool) {a b : List UInt8} : prt nm a.length 0 a = prt nm b.length 0 b ↔ a = b :=
  ⟨fun h => by
    have h1 := back0 nm a
    rw [h, back0 nm b] at h1
    exact (Option.some.inj h1).symm, fun h => by rw [h]⟩
/-- letters are printed as they are. -/
theorem low_ok (x : UInt8) (h : 97 ≤ x.toNat ∧ x.toNat ≤ 122) : pln x = true ∧ sF.contains x = false ∧ sE.contains x = false := by
  have : ∀ i : Fin 256, 97 ≤ (UInt8.ofNat i.val).toNat ∧ (UInt8.ofNat i.val).toNat ≤ 122 → pln (UInt8.ofNat i.val) = true ∧ sF.contains (UInt8.ofNat i.val) = false ∧ sE.contains (UInt8.ofNat i.val) = false := by decide +kernel
  exact u8_all (p := fun x => 97 ≤ x.toNat ∧ x.toNat ≤ 122 → pln x = true ∧ sF.contains x = false ∧ sE.contains x = false) this x h
theorem prt_low (nm : Bool) (n : Nat) : ∀ (l : List UInt8) (p : Nat), (∀ x ∈ l, 97 ≤ x.toNat ∧ x.toNat ≤ 122) → prt nm n p l = l
  | [], _, _ => rfl
  | x :: l, p, h => by
    obtain ⟨h1, h2, h3⟩ := low_ok x (h x (by simp))
    have hr : res nm n p x = false := by
      cases nm with
      | false => exact h2
      | true =>
        cases hh : res true n p x with
        | false => rfl
        | true => rw [res_sE hh] at h3; cases h3
    rw [prt, prt_low nm n l (p + 1) (fun y hy => h y (by simp [hy]))]
    unfold pb
    rw [h1, hr]
    rfl
end Go.Proofs.YthfcnjcpanoldaaGreatDoor.Ec

/-
  What esc.text's has, begins, ends, piece and reserved answer. Conditions: none.
-/
namespace Go.Proofs.YthfcnjcpanoldaaGreatDoor.E
open Go Go.RowKit Ec
attribute [local go_sem] Oper.semAt_some

/-- the text in its box. -/
abbrev bx (s : ByteArray) : Obj := .cells #[.string s] 87
/-- is one of some signs at a place? -/
def hv (s : ByteArray) (p : Nat) (l : List UInt8) : Bool := if h : p < s.size then l.contains s[p] else false
theorem hv_no {s : ByteArray} {p : Nat} (l : List UInt8) (h : ¬ p < s.size) : hv s p l = false := by unfold hv; rw [dif_neg h]
theorem hv_at {s : ByteArray} {p : Nat} (l : List UInt8) (h : p < s.size) : hv s p l = l.contains s[p] := by unfold hv; rw [dif_pos h]

theorem beq_u8 (x y : UInt8) (h : x ≠ y) : ((x.toNat : Int) == y.toNat) = false := by
  rw [beq_eq_false_iff_ne]
  intro e
  exact h (UInt8.toNat.inj (by omega))
set_option maxRecDepth 100000 in
set_option maxHeartbeats 2000000 in
theorem has_any (s : ByteArray) (p b n : Nat) (l : List UInt8) (w : World) (hn : l.length = n) (hl : n ≤ 10) (hb : b < w.heap.size) (hc : ∀ i x, l[i]? = some x → w.cell? ⟨b, i, none⟩ = some (.int .u8 (x.toNat : Int))) :
    Calls Tryz.prog 88 #[.agg #[.string s], .int .i64 p, .slice (some ⟨b, 0, none⟩) n n] w fun e w' => e = .returned (.bool (hv s p l)) ∧ Below w.heap.size w w' := by
  have HB := hide ((Below.refl w.heap.size w).alloc (Nat.le_refl _) (bx s))
  by_cases hp : p < s.size
  · rw [hv_at l hp]
    have hc' : Hid (∀ i x, l[i]? = some x → (w.alloc (bx s)).cell? ⟨b, i, none⟩ = some (.int .u8 (x.toNat : Int))) := hide fun i x h => by rw [World.cell?_alloc_lt _ _ _ hb]; exact hc i x h
    have hp' : ¬ (s.size : Int) ≤ p := by omega
    have hp2 : (p : Int) < s.size := by omega
    obtain ⟨y, hy⟩ : ∃ y, s[p] = y := ⟨_, rfl⟩
    rw [hy]
    obtain ⟨r, hr⟩ : ∃ r, l.contains y = r := ⟨_, rfl⟩
    rw [hr]
    have Hr := hide hr
    clear hr
    have Hn := hide hn
    clear hn hc
    go_enter Tryz.func88, Tryz.ntmps88
    go_wp2
    go_loopw [16] (fun ix wr => ∃ j : Nat, j ≤ n ∧ ix = .int .i64 (j : Int) ∧ (l.drop j).contains y = r ∧ wr = w.alloc (bx s))
      (fun ix _ => n - (intOf ix).toNat)
    case atStart => exact ⟨0, Nat.zero_le _, rfl, by rw [List.drop_zero]; exact unhide Hr, rfl⟩
    case round =>
      obtain ⟨j, hj, rfl, hd, rfl⟩ := hrel
      by_cases hlt : j < n
      · have hlt' : (j : Int) < n := by omega
        have hjl : j < l.length := by rw [unhide Hn]; exact hlt
        have hcj := unhide hc' j l[j] (List.getElem?_eq_getElem hjl)
        rw [List.drop_eq_getElem_cons hjl] at hd
        obtain ⟨x, hx⟩ : ∃ x, l[j] = x := ⟨_, rfl⟩
        rw [hx] at hcj hd
        clear hx
        by_cases he : y = x
        · have heq : (y.toNat : Int) = x.toNat := by rw [he]
          obtain rfl : r = true := by rw [← hd, he]; simp
          clear hd he
          go_wp2
          go_ret
          exact ⟨rfl, unhide HB⟩
        · have heq := beq_u8 y x he
          have Hd : Hid ((l.drop (j + 1)).contains y = r) := hide (by rw [← hd, List.contains_cons]; simp [he])
          clear hd he
          go_wp2
          go_roundw
          case rel => exact ⟨j + 1, by omega, by simp, unhide Hd, by first | rfl | trivial⟩
          case measure => simp [intOf]; omega
      · have hge : ¬ (j : Int) < n := by omega
        obtain rfl : r = false := by rw [← hd, List.drop_of_length_le (by rw [unhide Hn]; omega)]; rfl
        clear hd
        go_wp2
        go_ret
        exact ⟨rfl, unhide HB⟩
  · rw [hv_no l hp]
    have hp' : (s.size : Int) ≤ p := by omega
    clear hc
    go_enter Tryz.func88, Tryz.ntmps88
    go_wp2
    go_ret
    exact ⟨rfl, unhide HB⟩

theorem begins_any (s : ByteArray) (p : Nat) (w : World) :
    Calls Tryz.prog 89 #[.agg #[.string s], .int .i64 p] w fun e w' => e = .returned (.bool (decide (p = 0))) ∧ Below w.heap.size w w' := by
  have HB := hide ((Below.refl w.heap.size w).alloc (Nat.le_refl _) (bx s))
  have k0 : ((p : Int) == 0) = decide (p = 0) := by rw [Bool.eq_iff_iff]; simp
  generalize decide (p = 0) = b at *
  go_enter Tryz.func89, Tryz.ntmps89
  go_wp2
  go_ret
  exact ⟨by rw [← k0]; rfl, unhide HB⟩
theorem ends_any (s : ByteArray) (p : Nat) (w : World) (hs : s.size ≤ 1000) :
    Calls Tryz.prog 90 #[.agg #[.string s], .int .i64 p] w fun e w' => e = .returned (.bool (decide (p + 1 = s.size))) ∧ Below w.heap.size w w' := by
  have HB := hide ((Below.refl w.heap.size w).alloc (Nat.le_refl _) (bx s))
  have e1 : wrap64 ((s.size : Int) - 1) = s.size - 1 := by unfold wrap64; omega
  have k0 : ((p : Int) == (s.size : Int) - 1) = decide (p + 1 = s.size) := by rw [Bool.eq_iff_iff]; simp; omega
  generalize decide (p + 1 = s.size) = b at *
  go_enter Tryz.func90, Tryz.ntmps90
  go_wp2
  go_ret
  exact ⟨by rw [← k0]; rfl, unhide HB⟩

/-- the bytes from a place on, so many as there are. -/
def pc (s : ByteArray) (p k : Nat) : ByteArray := s.extract p (min (p + k) s.size)
theorem piece_any (s : ByteArray) (p k : Nat) (w : World) (hs : s.size ≤ 1000) (hp : p ≤ s.size) (hk : k ≤ 2) :
    Calls Tryz.prog 64 #[.agg #[.string s], .int .i64 p, .int .i64 ((p : Int) + k)] w fun e w' => e = .returned (.string (pc s p k)) ∧ Below w.heap.size w w' := by
  have HB := hide ((Below.refl w.heap.size w).alloc (Nat.le_refl _) (bx s))
  have hp' : (p : Int) ≤ s.size := by omega
  unfold pc
  by_cases hq : p + k ≤ s.size
  · have hsl := fun wx => run_slice_string (P := Tryz.prog) (w := wx) 9 s .i64 .i64 (p : Int) ((p : Int) + k) Tryz.underlying9 (by omega) (by omega) (by omega)
    rw [show ((p : Int)).toNat = p by omega, show ((p : Int) + k).toNat = p + k by omega] at hsl
    have hq' : (p : Int) + k ≤ s.size := by omega
    rw [Nat.min_eq_left hq]
    go_enter Tryz.func64, Tryz.ntmps64
    go_wp2
    go_ret
    exact ⟨rfl, unhide HB⟩
  · have hsl := fun wx => run_slice_string (P := Tryz.prog) (w := wx) 9 s .i64 .i64 (p : Int) (s.size : Int) Tryz.underlying9 (by omega) (by omega) (by omega)
    rw [show ((p : Int)).toNat = p by omega, show ((s.size : Int)).toNat = s.size by omega] at hsl
    have hq' : ¬ (p : Int) + k ≤ s.size := by omega
    rw [Nat.min_eq_right (by omega)]
    go_enter Tryz.func64, Tryz.ntmps64
    go_wp2
    go_ret
    exact ⟨rfl, unhide HB⟩

/-- has, at signs that were just laid. -/
theorem has_new (s : ByteArray) (p : Nat) (l : List UInt8) (W : World) (arr : Array Value) (t : TypeId) (n b : Nat) (harr : arr = (l.map fun x => Value.int .u8 (x.toNat : Int)).toArray) (hn : l.length = n) (hl : n ≤ 10) (hb : b = W.heap.size) :
    Calls Tryz.prog 88 #[.agg #[.string s], .int .i64 p, .slice (some ⟨b, 0, none⟩) n n] (W.alloc (.cells arr t)) fun e w' => e = .returned (.bool (hv s p l)) ∧ Below W.heap.size W w' := by
  subst hb
  refine (has_any s p _ n l _ hn hl (by simp) fun i x hx => ?_).mono fun e w' ⟨he, hw⟩ => ⟨he, ((Below.refl _ _).alloc (Nat.le_refl _) _).trans (hw.mono (by simp))⟩
  subst harr
  rw [World.cell?_alloc_at _ _ _ _ rfl]
  simp [hx]
/-- what lies in memory: the text in its box. -/
structure Bx (s : ByteArray) (w W : World) : Prop where
  box : W.heap[w.heap.size]? = some (bx s)
  bel : Below w.heap.size w W
theorem Bx.new (s : ByteArray) (w : World) : Bx s w (w.alloc (bx s)) := ⟨World.alloc_heap_new _ _, (Below.refl _ _).alloc (Nat.le_refl _) _⟩
theorem Bx.lt {s : ByteArray} {w W : World} (h : Bx s w W) : w.heap.size < W.heap.size := (Array.getElem?_eq_some_iff.1 h.box).1
theorem Bx.below {s : ByteArray} {w W W' : World} (h : Bx s w W) (hb : Below W.heap.size W W') : Bx s w W' := ⟨(hb.block _ h.lt).trans h.box, h.bel.trans (hb.mono h.bel.size)⟩
theorem Bx.cell {s : ByteArray} {w W : World} (h : Bx s w W) : W.cell? ⟨w.heap.size, 0, none⟩ = some (.string s) := by
  have h1 := h.box
  simp [World.cell?, h1]
/-- the kind, as a number. -/
abbrev kv (nm : Bool) : Value := .int .i64 (if nm then 1 else 0)

set_option maxRecDepth 100000 in
theorem reserved_F (s : ByteArray) (p : Nat) (w : World) :
    Calls Tryz.prog 63 #[.agg #[.string s], .int .i64 0, .int .i64 p] w fun e w' => e = .returned (.bool (hv s p sF)) ∧ Below w.heap.size w w' := by
  have hB := Bx.new s w
  have H := hide fun b hb => has_new s p sF (w.alloc (bx s)) _ 5 4 b rfl rfl (by decide) hb
  generalize hv s p sF = r at *
  have HB := hide hB
  clear hB
  go_enter Tryz.func63, Tryz.ntmps63
  go_wp2_with fail
  refine ((unhide H) _ (by simp)).mono ?_
  rintro e w1 ⟨rfl, hb⟩
  have HB1 := hide ((unhide HB).below hb)
  clear hb
  go_wp2
  go_ret
  exact ⟨rfl, (unhide HB1).bel⟩

set_option maxRecDepth 100000 in
set_option maxHeartbeats 2000000 in
theorem reserved_N (s : ByteArray) (p : Nat) (w : World) (hs : s.size ≤ 1000) (r1 r2 r3 b1 b2 : Bool) (h1 : hv s p sN = r1) (h2 : hv s p [32, 35] = r2) (h3 : hv s p [32] = r3) (k1 : decide (p = 0) = b1) (k2 : decide (p + 1 = s.size) = b2) :
    Calls Tryz.prog 63 #[.agg #[.string s], .int .i64 1, .int .i64 p] w fun e w' => e = .returned (.bool (r1 || (b1 && r2) || (b2 && r3))) ∧ Below w.heap.size w w' := by
  have hB := Bx.new s w
  have H1 := hide fun W b hb => has_new s p sN W #[.int .u8 92, .int .u8 34, .int .u8 43, .int .u8 44, .int .u8 59, .int .u8 60, .int .u8 62] 5 7 b rfl rfl (by decide) hb
  have H2 := hide fun W b hb => has_new s p [32, 35] W #[.int .u8 32, .int .u8 35] 5 2 b rfl rfl (by decide) hb
  have H3 := hide fun W b hb => has_new s p [32] W #[.int .u8 32] 5 1 b rfl rfl (by decide) hb
  have K1 := hide fun W => begins_any s p W
  have K2 := hide fun W => ends_any s p W hs
  rw [h1] at H1
  rw [h2] at H2
  rw [h3] at H3
  rw [k1] at K1
  rw [k2] at K2
  have HB := hide hB
  clear hB h1 h2 h3 k1 k2
  cases r1 <;> cases b1 <;> cases r2 <;> cases b2 <;>
  · go_enter Tryz.func63, Tryz.ntmps63
    go_wp2_with fail
    refine ((unhide H1) _ _ (by simp)).mono ?_
    rintro e w1 ⟨rfl, hb⟩
    have HB1 := hide ((unhide HB).below hb)
    have c1 := (unhide HB1).cell
    clear hb
    repeat (go_wp2_with fail; (first | with_reducible refine ((unhide K1) _).mono ?_ | with_reducible refine ((unhide K2) _).mono ?_ | with_reducible refine ((unhide H2) _ _ ?_).mono ?_ | with_reducible refine ((unhide H3) _ _ ?_).mono ?_); (first | rfl | skip); rintro e w1 ⟨rfl, hb⟩; replace HB1 := hide ((unhide HB1).below hb); replace c1 := (unhide HB1).cell; clear hb)
    go_wp2
    go_ret
    exact ⟨by simp, (unhide HB1).bel⟩
/-- reserved, at a byte of the text. -/
theorem reserved_any (nm : Bool) (s : ByteArray) (p : Nat) (w : World) (hs : s.size ≤ 1000) (hp : p < s.size) :
    Calls Tryz.prog 63 #[.agg #[.string s], kv nm, .int .i64 p] w fun e w' => e = .returned (.bool (res nm s.size p s[p])) ∧ Below w.heap.size w w' := by
  cases nm with
  | false =>
    have := reserved_F s p w
    rw [hv_at sF hp] at this
    exact this
  | true =>
    have := reserved_N s p w hs _ _ _ _ _ rfl rfl rfl rfl rfl
    rw [hv_at sN hp, hv_at [32, 35] hp, hv_at [32] hp] at this
    exact this
end Go.Proofs.YthfcnjcpanoldaaGreatDoor.E

/-
  The iterator of package esc: 'text.bytes' hands over a text's bytes, each with its place. Conditions: none.
-/
namespace Go.Proofs.YthfcnjcpanoldaaGreatDoor.E
open Go Go.RowKit Go.Shelf
attribute [local go_sem] Oper.semAt_some

abbrev Pc := C.Pc
/-- all places of a text. -/
abbrev all (s : ByteArray) : List (Pc s) := C.all s 1

theorem bytes_any (s : ByteArray) (w : World) :
    Calls Tryz.prog 62 #[.agg #[.string s]] w fun e w' => e = .returned (.func (.func 87) #[] #[.pointer (some ⟨w.heap.size, 0, none⟩)]) ∧ w' = w.alloc (.cells #[.string s] 87) := by
  go_enter Tryz.func62, Tryz.ntmps62
  go_wp2
  go_ret
  exact ⟨rfl, rfl⟩

set_option maxRecDepth 100000 in
set_option maxHeartbeats 2000000 in
theorem bytes1_stops (m : Nat) (hm : 1 ≤ m) (Bs : Nat) (s : ByteArray) (w : World) (hs : s.size ≤ 1000)
    (hBs : w.cell? ⟨Bs, 0, none⟩ = some (.string s)) :
    SeqStopsK Fence.wide m Tryz.prog 87 #[.pointer (some ⟨Bs, 0, none⟩)] (fun x : Pc s => #[.int .i64 x.p, .int .u8 ((s[x.p]'x.hp).toNat : Int)]) (C.Two Bs Bs)
      (fun xs => xs = all s) (fun pre => pre <+: all s) s.size w := fun l J Jx W hW hJ hJx hY h0 => by
  have hbs := (hW.cell (p := ⟨Bs, 0, none⟩) (lt_of_cell hBs)).trans hBs
  clear hBs hW
  refine callsIn_of_wp Tryz.func87 rfl trivial ?_ rfl
  simp only [Tryz.ntmps87, List.size_toArray, List.length_cons, List.length_nil, Nat.reduceAdd, Nat.reduceSub, Array.replicate_succ, Array.replicate_zero, List.push_toArray, List.append_toArray, List.nil_append, List.cons_append]
  gi_wp2
  gi_loopw [7] (fun i wr => ∃ (pre : List (Pc s)) (f p : Nat), pre ++ C.al s 1 f p = all s ∧ s.size ≤ p + f ∧ pre.length ≤ p ∧ p ≤ s.size ∧ i = .int .i64 (p : Int) ∧ J pre wr ∧ wr.cell? ⟨Bs, 0, none⟩ = some (.string s))
    (fun i _ => s.size - (intOf i).toNat)
  case atStart => exact ⟨[], s.size, 0, rfl, by omega, Nat.le_refl _, by omega, rfl, h0, hbs⟩
  case round =>
    obtain ⟨pre, f, p, hl, hf, hpl, hp4, rfl, hJs, ha⟩ := hrel
    by_cases hlt : p < s.size
    · obtain ⟨f', rfl, hal, hf'⟩ := C.al_cons s 1 f p (Nat.le_refl _) hlt hf
      rw [hal] at hl
      obtain ⟨fn, tmps, assign, body, hy, hR⟩ := hY _ ⟨p, hlt⟩ _ hJs (by omega)
      have Hl := hide hl
      have Hf := hide hf'
      have Hpl := hide hpl
      have Hlt := hide hlt
      have hlt' : (p : Int) < s.size := by omega
      have hp' : (p : Int) ≤ 1000 := by omega
      clear hl hal hf hf' hpl hbs
      gi_wp2
      refine hR.mono ?_
      rintro e W3 (⟨rfl, hJ3, hk3⟩ | ⟨rfl, hJx3⟩)
      · have h3s := (World.cell?_of_block (a := ⟨Bs, 0, none⟩) hk3.1).trans ha
        clear hk3
        gi_wp2
        go_roundw
        case rel =>
          refine ⟨_, f', p + 1, ?_, unhide Hf, ?_, by omega, by simp, hJ3, h3s⟩
          · rw [List.append_assoc]
            exact unhide Hl
          · have := unhide Hpl
            simp
            omega
        case measure => simp [intOf]; omega
      · gi_wp2
        refine bodyPost_ret (results_none rfl _ _ _) rfl ?_
        exact ⟨⟨_, rfl⟩, .inr ⟨_, ⟨C.al s 1 f' (p + 1), by rw [List.append_assoc]; exact unhide Hl⟩, hJx3⟩⟩
    · have hge : ¬ (p : Int) < s.size := by omega
      rw [C.al_end s 1 f p hlt, List.append_nil] at hl
      subst hl
      clear hbs hf hpl
      gi_wp2
      go_end0
      first | exact ⟨⟨_, rfl⟩, .inl ⟨_, rfl, hJs⟩⟩ | exact ⟨⟨_, rfl⟩, .inl hJs⟩
end Go.Proofs.YthfcnjcpanoldaaGreatDoor.E
