/-
  Several texts in one: CErrFacts, CErrs, CErrno, CTake, CPure, CSmall, CAdd, CUnpack. Each says what it proves, and its conditions.
-/
import Derived.Test.YthfcnjcpanoldaaGreatDoorProg
import Derived.WalkKit
import Derived.LaidEql
import Derived.Stop.Asserts
import Derived.RowKitTokens
import Derived.Laws.RangeAny
import Derived.RangeFuncNested
import Derived.KernelRfl
import Derived.Laws.BitsAllLaws
import Derived.Laws.OwnMore
import Derived.Deep.AppendLies
import Derived.Deep.RegionHeld
import Derived.RangeFuncBox
/-
  Closed facts on the model's entries for reflectlite at this program's types, and on the assertions that errors.As and errors.Is make there. Conditions: none.
-/
namespace Go.Proofs.YthfcnjcpanoldaaGreatDoor.C
open Go.RowKit Go.Extern.Stop Go.Stop Go.Extern

/-! ### closed facts on reflectlite's entries -/
theorem vOfT (t : Addr) (w : World) : (ReflectliteValue.unpack (.iface 216 (.pointer (some t)))).run Tryz.prog w
    = .ok (.agg #[.pointer (some ⟨12, 216, none⟩), .pointer (some ⟨w.heap.size, 0, none⟩), .int .u64 150]) (w.alloc (.cells #[.pointer (some t)] 216)) := by kernel_rfl
theorem typeT (a : Addr) (w : World) : (ReflectliteValue.methodAny (ReflectliteValue.valueError "reflectlite.Value.Type" 0) (fun t _ _ _ => ReflectliteType.toType t) #[.agg #[.pointer (some ⟨12, 216, none⟩), .pointer (some a), .int .u64 150]]).run Tryz.prog w
    = .ok (.iface 135 (.agg #[.pointer (some ⟨12, 216, none⟩)])) w := by kernel_rfl
theorem methodKind (h : Value) (w : World) : (Go.method 348 135 (.agg #[h]) "Kind").run Tryz.prog w = .ok (162, h) w := by kernel_rfl
theorem kindT (w : World) : ((ReflectliteType.abiMethod fun t => (fun a : Nat => Value.int IntKind.u8 (a : Int)) <$> Rtype.kind t) #[.pointer (some ⟨12, 216, none⟩)]).run Tryz.prog w = .ok (.int .u8 22) w := by kernel_rfl
theorem kindE (w : World) : ((ReflectliteType.abiMethod fun t => (fun a : Nat => Value.int IntKind.u8 (a : Int)) <$> Rtype.kind t) #[.pointer (some ⟨12, 215, none⟩)]).run Tryz.prog w = .ok (.int .u8 25) w := by kernel_rfl
/-- one step of a run, the first part known. -/
theorem run_step {α β : Type} {P : Program} {m : Sem α} {k : α → Sem β} {w w1 : World} {a : α} {r : Result β} (h : m.run P w = .ok a w1) (h2 : (k a).run P w1 = r) : (m >>= k).run P w = r := by
  rw [Sem.run_bind, h]; exact h2
theorem partsT (a : Addr) (w : World) : (ReflectliteValue.parts (.agg #[.pointer (some ⟨12, 216, none⟩), .pointer (some a), .int .u64 150])).run Tryz.prog w = .ok (some (216, a, 150)) w := by kernel_rfl
theorem isNilT (a p : Addr) (W : World) (ha : W.cell? a = some (.pointer (some p))) :
    (ReflectliteValue.method (ReflectliteValue.valueError "reflectlite.Value.IsNil" 0) ReflectliteValue.isNil #[.agg #[.pointer (some ⟨12, 216, none⟩), .pointer (some a), .int .u64 150]]).run Tryz.prog W = .ok (.bool false) W := by
  refine run_step (partsT a W) ?_
  simp [ReflectliteValue.isNil, loadVar, isAgg, underlying, Tryz.underlying216, ha, Result.andThen]
theorem methodElem (h : Value) (w : World) : (Go.method 348 135 (.agg #[h]) "Elem").run Tryz.prog w = .ok (174, .agg #[h]) w := by kernel_rfl
theorem methodImplements (h : Value) (w : World) : (Go.method 348 135 (.agg #[h]) "Implements").run Tryz.prog w = .ok (175, .agg #[h]) w := by kernel_rfl
theorem methodAssignableTo (h : Value) (w : World) : (Go.method 348 135 (.agg #[h]) "AssignableTo").run Tryz.prog w = .ok (172, .agg #[h]) w := by kernel_rfl
theorem elemT (w : World) : (ReflectliteType.method ReflectliteType.elem #[.agg #[.pointer (some ⟨12, 216, none⟩)]]).run Tryz.prog w = .ok (.iface 135 (.agg #[.pointer (some ⟨12, 215, none⟩)])) w := by kernel_rfl
theorem implementsE (w : World) : (ReflectliteType.relation "Implements" ReflectliteType.implements_ #[.agg #[.pointer (some ⟨12, 215, none⟩)], .iface 135 (.agg #[.pointer (some ⟨12, 45, none⟩)])]).run Tryz.prog w = .ok (.bool true) w := by kernel_rfl
theorem typeOfE (v : Value) (w : World) : (ReflectliteType.typeOf #[.iface 215 v]).run Tryz.prog w = .ok (.iface 135 (.agg #[.pointer (some ⟨12, 215, none⟩)])) w := by kernel_rfl
theorem typeOfF (v : Value) (w : World) : (ReflectliteType.typeOf #[.iface 212 v]).run Tryz.prog w = .ok (.iface 135 (.agg #[.pointer (some ⟨12, 212, none⟩)])) w := by kernel_rfl
theorem typeOfS (v : Value) (w : World) : (ReflectliteType.typeOf #[.iface 219 v]).run Tryz.prog w = .ok (.iface 135 (.agg #[.pointer (some ⟨12, 219, none⟩)])) w := by kernel_rfl
theorem assignE (w : World) : (ReflectliteType.relation "AssignableTo" ReflectliteType.assignableTo #[.agg #[.pointer (some ⟨12, 215, none⟩)], .iface 135 (.agg #[.pointer (some ⟨12, 215, none⟩)])]).run Tryz.prog w = .ok (.bool true) w := by kernel_rfl
theorem assignF (w : World) : (ReflectliteType.relation "AssignableTo" ReflectliteType.assignableTo #[.agg #[.pointer (some ⟨12, 212, none⟩)], .iface 135 (.agg #[.pointer (some ⟨12, 215, none⟩)])]).run Tryz.prog w = .ok (.bool false) w := by kernel_rfl
theorem assignS (w : World) : (ReflectliteType.relation "AssignableTo" ReflectliteType.assignableTo #[.agg #[.pointer (some ⟨12, 219, none⟩)], .iface 135 (.agg #[.pointer (some ⟨12, 215, none⟩)])]).run Tryz.prog w = .ok (.bool false) w := by kernel_rfl
theorem vOfE (x : Value) (w : World) : (ReflectliteValue.unpack (.iface 215 (.agg #[x]))).run Tryz.prog w
    = .ok (.agg #[.pointer (some ⟨12, 215, none⟩), .pointer (some ⟨w.heap.size, 0, none⟩), .int .u64 153]) (w.alloc (.cells #[x] 215)) := by kernel_rfl
theorem elemOfT (w : World) : (Rtype.elem? 216).run Tryz.prog w = .ok (some 215) w := by kernel_rfl
theorem mkE (p : Addr) (w : World) : (ReflectliteValue.mk 215 p ReflectliteValue.flagAddr).run Tryz.prog w = .ok (.agg #[.pointer (some ⟨12, 215, none⟩), .pointer (some p), .int .u64 409]) w := by kernel_rfl
theorem elemVT (a p : Addr) (W : World) (ha : W.cell? a = some (.pointer (some p))) :
    (ReflectliteValue.method (ReflectliteValue.valueError "reflectlite.Value.Elem" 0) ReflectliteValue.elem #[.agg #[.pointer (some ⟨12, 216, none⟩), .pointer (some a), .int .u64 150]]).run Tryz.prog W
      = .ok (.agg #[.pointer (some ⟨12, 215, none⟩), .pointer (some p), .int .u64 409]) W := by
  refine run_step (partsT a W) ?_
  simp [ReflectliteValue.elem, loadVar, isAgg, underlying, Tryz.underlying216, ha, Result.andThen, elemOfT, mkE]
theorem partsEa (a : Addr) (w : World) : (ReflectliteValue.parts (.agg #[.pointer (some ⟨12, 215, none⟩), .pointer (some a), .int .u64 409])).run Tryz.prog w = .ok (some (215, a, 409)) w := by kernel_rfl
theorem partsE (a : Addr) (w : World) : (ReflectliteValue.parts (.agg #[.pointer (some ⟨12, 215, none⟩), .pointer (some a), .int .u64 153])).run Tryz.prog w = .ok (some (215, a, 153)) w := by kernel_rfl
theorem directE (w : World) : (Rtype.directlyAssignable 215 215).run Tryz.prog w = .ok true w := by kernel_rfl
theorem sizeE (w : World) : (sizeOf 215).run Tryz.prog w = .ok 1 w := by kernel_rfl
theorem load1 (b : Addr) (x : Value) (W : World) (hb : W.cell? b = some x) : (loadCells b 1).run Tryz.prog W = .ok #[x] W := by
  have h : W.cell? (b.add 0) = some x := by simpa [Addr.add] using hb
  simp [loadCells, loadCellsFrom, h, Result.andThen]
theorem setE (ta b : Addr) (n : Int) (old : Value) (W : World) (hb : W.cell? b = some (.int .i32 n)) (ht : W.cell? ta = some old) (hf : W.frozen? ta = false) :
    (ReflectliteValue.set #[.agg #[.pointer (some ⟨12, 215, none⟩), .pointer (some ta), .int .u64 409], .agg #[.pointer (some ⟨12, 215, none⟩), .pointer (some b), .int .u64 153]]).run Tryz.prog W
      = .ok (.tuple #[]) (W.setCell ta (.int .i32 n)) := by
  refine run_step (partsEa ta W) ?_
  refine run_step (partsE b W) ?_
  simp [ReflectliteValue.flagAddr, loadVar, isAgg, underlying, Tryz.underlying215, load1 b _ W hb, Result.andThen, directE, storeVar, Value.cells, storeCells, Addr.add]
  rw [run_store Tryz.prog W ta _ _ (by rfl)]
  simp [ht, hf]

/-! ### what errors.as and errors.is find on the dynamic types -/
theorem noAsF (v : Value) (xT : TypeId) (w : World) : (Instr.typeAssert (.iface 212 v) xT 139 true).run Tryz.prog w = .ok (.tuple #[.nilIface, .bool false]) w := run_typeAssert_lacksB Tryz.underlying139 (by kernel_rfl) (by kernel_rfl) v xT w
theorem noAsS (v : Value) (xT : TypeId) (w : World) : (Instr.typeAssert (.iface 219 v) xT 139 true).run Tryz.prog w = .ok (.tuple #[.nilIface, .bool false]) w := run_typeAssert_lacksB Tryz.underlying139 (by kernel_rfl) (by kernel_rfl) v xT w
theorem noIsF (v : Value) (xT : TypeId) (w : World) : (Instr.typeAssert (.iface 212 v) xT 147 true).run Tryz.prog w = .ok (.tuple #[.nilIface, .bool false]) w := run_typeAssert_lacksB Tryz.underlying147 (by kernel_rfl) (by kernel_rfl) v xT w
theorem noIsS (v : Value) (xT : TypeId) (w : World) : (Instr.typeAssert (.iface 219 v) xT 147 true).run Tryz.prog w = .ok (.tuple #[.nilIface, .bool false]) w := run_typeAssert_lacksB Tryz.underlying147 (by kernel_rfl) (by kernel_rfl) v xT w
theorem unwF (v : Value) (xT : TypeId) (w : World) : (Instr.typeAssert (.iface 212 v) xT 142 true).run Tryz.prog w = .ok (.tuple #[.iface 212 v, .bool true]) w := run_typeAssert_hasB Tryz.underlying142 (by kernel_rfl) v xT w
theorem noUnwS (v : Value) (xT : TypeId) (w : World) : (Instr.typeAssert (.iface 219 v) xT 142 true).run Tryz.prog w = .ok (.tuple #[.nilIface, .bool false]) w := run_typeAssert_lacksB Tryz.underlying142 (by kernel_rfl) (by kernel_rfl) v xT w
theorem noUnwsS (v : Value) (xT : TypeId) (w : World) : (Instr.typeAssert (.iface 219 v) xT 144 true).run Tryz.prog w = .ok (.tuple #[.nilIface, .bool false]) w := run_typeAssert_lacksB Tryz.underlying144 (by kernel_rfl) (by kernel_rfl) v xT w
theorem methodUnwrap (v : Value) (w : World) : (Go.method 348 212 v "Unwrap").run Tryz.prog w = .ok (190, v) w := by kernel_rfl
/-- the model's entry for (rtype).Comparable, by its name, says that a pointer can be compared. -/
theorem cmpExt : ∃ ext : Array Value → Sem Value, find Tryz.f173 = some ext ∧
    ∀ w : World, (ext #[.agg #[.pointer (some ⟨12, 219, none⟩)]]).run Tryz.prog w = .ok (.bool true) w :=
  ⟨(find Tryz.f173).getD fun _ => pure (.tuple #[]), by kernel_rfl, fun w => by kernel_rfl⟩
theorem methodComparable (v : Value) (w : World) : (Go.method 348 135 v "Comparable").run Tryz.prog w = .ok (173, v) w := by kernel_rfl
theorem compS : (Tryz.prog.info? 219).map (·.comparable) = some true := by kernel_rfl
theorem sizeS : (Tryz.prog.info? 237).map (·.size) = some 1 := by kernel_rfl
end Go.Proofs.YthfcnjcpanoldaaGreatDoor.C

/-
  What errors.As and errors.Is answer where package code asks them: at a fault that wraps a noSign or a sentinel, and at a bare noSign. Conditions: the three package-level variables hold what the program's text lays.
-/
namespace Go.Proofs.YthfcnjcpanoldaaGreatDoor.C
open Go.RowKit Go.Extern.Stop Go.Stop Go.Extern

theorem lt_of_cell {w : World} {a : Addr} {v : Value} (h : w.cell? a = some v) : a.block < w.heap.size := by
  rcases Nat.lt_or_ge a.block w.heap.size with h' | h'
  · exact h'
  · simp [World.cell?, Array.getElem?_eq_none h'] at h

/-- What errors.as answers at an error, the target a variable of noSign. -/
def AsGives (err : Value) (b : Bool) : Prop := ∀ (tg : Value) (va t : Addr) (old : Value) (w : World), w.cell? va = some (.pointer (some t)) → w.cell? t = some old → w.frozen? t = false →
    Calls Tryz.prog 72 #[err, tg, .agg #[.pointer (some ⟨12, 216, none⟩), .pointer (some va), .int .u64 150], .iface 135 (.agg #[.pointer (some ⟨12, 215, none⟩)])] w
      fun e w' => e = .returned (.bool b) ∧ Below t.block w w'

/-- errors.as at a bare noSign: the target is set. -/
theorem as1 (n : Int) : AsGives (.iface 215 (.agg #[.int .i32 n])) true := by
  intro tg va t old w hv ht hf
  have hext36 := @run_callFunc_extern Tryz.prog 73 _ ReflectliteType.typeOf Tryz.func73 (by kernel_rfl) (by kernel_rfl) (by kernel_rfl) (by kernel_rfl)
  have hext65 := @run_callFunc_extern Tryz.prog 172 _ (ReflectliteType.relation "AssignableTo" ReflectliteType.assignableTo) Tryz.func172 (by kernel_rfl) (by kernel_rfl) (by kernel_rfl) (by kernel_rfl)
  have hext39 := @run_callFunc_extern Tryz.prog 94 _ (ReflectliteValue.method (ReflectliteValue.valueError "reflectlite.Value.Elem" 0) ReflectliteValue.elem) Tryz.func94 (by kernel_rfl) (by kernel_rfl) (by kernel_rfl) (by kernel_rfl)
  have hext40 := @run_callFunc_extern Tryz.prog 95 _ ReflectliteValue.set Tryz.func95 (by kernel_rfl) (by kernel_rfl) (by kernel_rfl) (by kernel_rfl)
  have hext32 := @run_callFunc_extern Tryz.prog 69 _ (fun args => ReflectliteValue.unpack (args.getD 0 (.tuple #[]))) Tryz.func69 (by kernel_rfl) (by kernel_rfl) (by kernel_rfl) (by kernel_rfl)
  have h1 := typeOfE
  have h2 := assignE
  have h3 := methodAssignableTo
  have h4 := vOfE
  have hvl := lt_of_cell hv
  have htl := lt_of_cell ht
  have el := elemVT va t (w.alloc (.cells #[.pointer (some ⟨12, 216, none⟩), .pointer (some va), .int .u64 150] 107)) (by rw [World.cell?_alloc_lt _ _ va hvl]; exact hv)
  have st := setE t ⟨w.heap.size + 1, 0, none⟩ n old ((w.alloc (.cells #[.pointer (some ⟨12, 216, none⟩), .pointer (some va), .int .u64 150] 107)).alloc (.cells #[.int .i32 n] 215))
    (by rw [World.cell?_alloc_at _ _ _ _ (by simp)]; rfl)
    (by rw [World.cell?_alloc_lt _ _ t (by simp; omega), World.cell?_alloc_lt _ _ t htl]; exact ht)
    (by rw [World.frozen?_alloc_old _ _ t (by simp; omega), World.frozen?_alloc_old _ _ t (Nat.ne_of_lt htl)]; exact hf)
  go_enter Tryz.func72, Tryz.ntmps72
  go_wp2
  refine wp_loop_rounds 1 ?_
  rw [rounds_succ]
  go_wp2
  go_ret
  exact ⟨rfl, (((Below.refl _ _).alloc (by omega) _).alloc (by simp; omega) _).setCell (Nat.le_refl _) _⟩


/-- errors.as at a fault that wraps a noSign. -/
theorem as2 (n k : Int) : AsGives (.iface 212 (.agg #[.int .i64 k, .iface 215 (.agg #[.int .i32 n])])) true := by
  intro tg va t old w hv ht hf
  have hext36 := @run_callFunc_extern Tryz.prog 73 _ ReflectliteType.typeOf Tryz.func73 (by kernel_rfl) (by kernel_rfl) (by kernel_rfl) (by kernel_rfl)
  have hext65 := @run_callFunc_extern Tryz.prog 172 _ (ReflectliteType.relation "AssignableTo" ReflectliteType.assignableTo) Tryz.func172 (by kernel_rfl) (by kernel_rfl) (by kernel_rfl) (by kernel_rfl)
  have hext39 := @run_callFunc_extern Tryz.prog 94 _ (ReflectliteValue.method (ReflectliteValue.valueError "reflectlite.Value.Elem" 0) ReflectliteValue.elem) Tryz.func94 (by kernel_rfl) (by kernel_rfl) (by kernel_rfl) (by kernel_rfl)
  have hext40 := @run_callFunc_extern Tryz.prog 95 _ ReflectliteValue.set Tryz.func95 (by kernel_rfl) (by kernel_rfl) (by kernel_rfl) (by kernel_rfl)
  have hext32 := @run_callFunc_extern Tryz.prog 69 _ (fun args => ReflectliteValue.unpack (args.getD 0 (.tuple #[]))) Tryz.func69 (by kernel_rfl) (by kernel_rfl) (by kernel_rfl) (by kernel_rfl)
  have h1 := typeOfE
  have h1' := typeOfF
  have h2 := assignE
  have h2' := assignF
  have h3 := methodAssignableTo
  have h4 := vOfE
  have h5 := noAsF
  have h6 := unwF
  have h7 := methodUnwrap
  have hvl := lt_of_cell hv
  have htl := lt_of_cell ht
  have el := elemVT va t ((w.alloc (.cells #[.pointer (some ⟨12, 216, none⟩), .pointer (some va), .int .u64 150] 107)).alloc (.cells #[.int .i64 k, .iface 215 (.agg #[.int .i32 n])] 212)) (by rw [World.cell?_alloc_lt _ _ va (by simp; omega), World.cell?_alloc_lt _ _ va hvl]; exact hv)
  have st := setE t ⟨w.heap.size + 1 + 1, 0, none⟩ n old (((w.alloc (.cells #[.pointer (some ⟨12, 216, none⟩), .pointer (some va), .int .u64 150] 107)).alloc (.cells #[.int .i64 k, .iface 215 (.agg #[.int .i32 n])] 212)).alloc (.cells #[.int .i32 n] 215))
    (by rw [World.cell?_alloc_at _ _ _ _ (by simp)]; rfl)
    (by rw [World.cell?_alloc_lt _ _ t (by simp; omega), World.cell?_alloc_lt _ _ t (by simp; omega), World.cell?_alloc_lt _ _ t htl]; exact ht)
    (by rw [World.frozen?_alloc_old _ _ t (by simp; omega), World.frozen?_alloc_old _ _ t (by simp; omega), World.frozen?_alloc_old _ _ t (Nat.ne_of_lt htl)]; exact hf)
  go_enter Tryz.func72, Tryz.ntmps72
  go_wp2
  refine wp_loop_rounds 2 ?_
  rw [rounds_succ]
  go_wp2
  rw [rounds_succ]
  go_wp2
  go_ret
  exact ⟨rfl, ((((Below.refl _ _).alloc (by omega) _).alloc (by simp; omega) _).alloc (by simp; omega) _).setCell (Nat.le_refl _) _⟩

/-- errors.as at a fault that wraps a sentinel: it finds nothing. -/
theorem as3 (k : Int) (a : Addr) : AsGives (.iface 212 (.agg #[.int .i64 k, .iface 219 (.pointer (some a))])) false := by
  intro tg va t old w hv ht hf
  have hext36 := @run_callFunc_extern Tryz.prog 73 _ ReflectliteType.typeOf Tryz.func73 (by kernel_rfl) (by kernel_rfl) (by kernel_rfl) (by kernel_rfl)
  have hext65 := @run_callFunc_extern Tryz.prog 172 _ (ReflectliteType.relation "AssignableTo" ReflectliteType.assignableTo) Tryz.func172 (by kernel_rfl) (by kernel_rfl) (by kernel_rfl) (by kernel_rfl)
  have h1 := typeOfS
  have h1' := typeOfF
  have h2 := assignS
  have h2' := assignF
  have h3 := methodAssignableTo
  have h5 := noAsF
  have h5' := noAsS
  have h6 := unwF
  have h6' := noUnwS
  have h6'' := noUnwsS
  have h7 := methodUnwrap
  have htl := lt_of_cell ht
  go_enter Tryz.func72, Tryz.ntmps72
  go_wp2
  refine wp_loop_rounds 2 ?_
  rw [rounds_succ]
  go_wp2
  rw [rounds_succ]
  go_wp2
  go_ret
  exact ⟨rfl, ((Below.refl _ _).alloc (by omega) _).alloc (by simp; omega) _⟩

/-- errors.As(err, &t), t a variable of noSign. -/
theorem As_gives (T : TypeId) (v : Value) (b : Bool) (h : AsGives (.iface T v) b) (t : Addr) (old : Value) (w : World)
    (hg : w.cell? ⟨4, 0, none⟩ = some (.iface 135 (.agg #[.pointer (some ⟨12, 45, none⟩)]))) (ht : w.cell? t = some old) (hf : w.frozen? t = false) :
    Calls Tryz.prog 47 #[.iface T v, .iface 216 (.pointer (some t))] w fun e w' => e = .returned (.bool b) ∧ Below t.block w w' := by
  have hext32 := @run_callFunc_extern Tryz.prog 69 _ (fun args => ReflectliteValue.unpack (args.getD 0 (.tuple #[]))) Tryz.func69 (by kernel_rfl) (by kernel_rfl) (by kernel_rfl) (by kernel_rfl)
  have hext33 := @run_callFunc_extern Tryz.prog 70 _ (ReflectliteValue.methodAny (ReflectliteValue.valueError "reflectlite.Value.Type" 0) (fun t _ _ _ => ReflectliteType.toType t)) Tryz.func70 (by kernel_rfl) (by kernel_rfl) (by kernel_rfl) (by kernel_rfl)
  have hext34 := @run_callFunc_extern Tryz.prog 71 _ (ReflectliteValue.method (ReflectliteValue.valueError "reflectlite.Value.IsNil" 0) ReflectliteValue.isNil) Tryz.func71 (by kernel_rfl) (by kernel_rfl) (by kernel_rfl) (by kernel_rfl)
  have hext55 := @run_callFunc_extern Tryz.prog 162 _ (ReflectliteType.abiMethod fun t => do pure (.int .u8 (← Rtype.kind t))) Tryz.func162 (by kernel_rfl) (by kernel_rfl) (by kernel_rfl) (by kernel_rfl)
  have hext67 := @run_callFunc_extern Tryz.prog 174 _ (ReflectliteType.method ReflectliteType.elem) Tryz.func174 (by kernel_rfl) (by kernel_rfl) (by kernel_rfl) (by kernel_rfl)
  have hext68 := @run_callFunc_extern Tryz.prog 175 _ (ReflectliteType.relation "Implements" ReflectliteType.implements_) Tryz.func175 (by kernel_rfl) (by kernel_rfl) (by kernel_rfl) (by kernel_rfl)
  have f6 := vOfT
  have f7 := typeT
  have mK := methodKind
  have mE := methodElem
  have mI := methodImplements
  have k27 := kindT
  have k25 := kindE
  have e27 := elemT
  have i25 := implementsE
  have htl := lt_of_cell ht
  have hgl := lt_of_cell hg
  have n8 := isNilT ⟨w.heap.size, 0, none⟩ t ((w.alloc (.cells #[.pointer (some t)] 216)).alloc (.cells #[.pointer (some ⟨12, 216, none⟩), .pointer (some ⟨w.heap.size, 0, none⟩), .int .u64 150] 107)) (by simp)
  have hg2 : ((w.alloc (.cells #[.pointer (some t)] 216)).alloc (.cells #[.pointer (some ⟨12, 216, none⟩), .pointer (some ⟨w.heap.size, 0, none⟩), .int .u64 150] 107)).cell? ⟨4, 0, none⟩ = some (.iface 135 (.agg #[.pointer (some ⟨12, 45, none⟩)])) := by
    rw [World.cell?_alloc_lt _ _ _ (by simp at hgl ⊢; omega), World.cell?_alloc_lt _ _ _ hgl]; exact hg
  have H := h (.iface 216 (.pointer (some t))) ⟨w.heap.size, 0, none⟩ t old ((w.alloc (.cells #[.pointer (some t)] 216)).alloc (.cells #[.pointer (some ⟨12, 216, none⟩), .pointer (some ⟨w.heap.size, 0, none⟩), .int .u64 150] 107))
    (by simp)
    (by rw [World.cell?_alloc_lt _ _ t (by simp; omega), World.cell?_alloc_lt _ _ t htl]; exact ht)
    (by rw [World.frozen?_alloc_old _ _ t (by simp; omega), World.frozen?_alloc_old _ _ t (Nat.ne_of_lt htl)]; exact hf)
  clear h
  go_enter Tryz.func47, Tryz.ntmps47
  go_wp2_with (go_at_call 72; refine H.mono ?_; rintro e w' ⟨rfl, hb⟩)
  go_ret
  exact ⟨rfl, (((Below.refl _ _).alloc (by omega) _).alloc (by simp; omega) _).trans hb⟩

end Go.Proofs.YthfcnjcpanoldaaGreatDoor.C

/-
  What code.errnoOf answers at each error that package code makes. Conditions: the package-level variables hold what the program's text lays ('Glob').
-/
namespace Go.Proofs.YthfcnjcpanoldaaGreatDoor.C
open Go.RowKit Go.Extern.Stop Go.Stop Go.Extern

/-- errors.Is(fault{k, x}, x), x a sentinel. -/
theorem Is_same (k : Int) (a : Addr) (w : World) :
    Calls Tryz.prog 48 #[.iface 212 (.agg #[.int .i64 k, .iface 219 (.pointer (some a))]), .iface 219 (.pointer (some a))] w fun e w' => e = .returned (.bool true) ∧ Below w.heap.size w w' := by
  obtain ⟨i, hi, hcmp⟩ := Option.map_eq_some_iff.1 compS
  obtain ⟨j, hj, hjs⟩ := Option.map_eq_some_iff.1 sizeS
  have hext36 := @run_callFunc_extern Tryz.prog 73 _ ReflectliteType.typeOf Tryz.func73 (by kernel_rfl) (by kernel_rfl) (by kernel_rfl) (by kernel_rfl)
  obtain ⟨ext, hfind, cT⟩ := cmpExt
  have hext66 := @run_callFunc_extern Tryz.prog 173 _ ext Tryz.func173 (by kernel_rfl) (by kernel_rfl) (by kernel_rfl) hfind
  clear hfind
  have tT := typeOfS
  have mR := methodComparable
  have nW := noIsF
  have uW := unwF
  have mU := methodUnwrap
  have heq := fun w => run_eql_iface_ptr_same (P := Tryz.prog) w a Tryz.underlying45 Tryz.underlying219 hi hcmp hj
  have hty := fun w => run_eql_iface_types (P := Tryz.prog) 212 219 (.agg #[.int .i64 k, .iface 219 (.pointer (some a))]) (.pointer (some a)) Tryz.underlying45 (by decide) w
  go_enter Tryz.func48, Tryz.ntmps48
  go_wp2
  refine wp_loop_rounds 2 ?_
  rw [rounds_succ]
  go_wp2
  rw [rounds_succ]
  go_wp2
  go_ret
  exact ⟨rfl, (Below.refl _ _).alloc (by simp) _⟩

/-- errors.Is(fault{k, x}, y), x and y two sentinels. -/
theorem Is_other (k : Int) (a b : Addr) (ca cb : Array Value) (ta tb : TypeId) (w : World) (hne : a ≠ b) (ha : w.heap[a.block]? = some (.cells ca ta (0, 0))) (hb : w.heap[b.block]? = some (.cells cb tb (0, 0))) :
    Calls Tryz.prog 48 #[.iface 212 (.agg #[.int .i64 k, .iface 219 (.pointer (some a))]), .iface 219 (.pointer (some b))] w fun e w' => e = .returned (.bool false) ∧ Below w.heap.size w w' := by
  obtain ⟨i, hi, hcmp⟩ := Option.map_eq_some_iff.1 compS
  obtain ⟨j, hj, hjs⟩ := Option.map_eq_some_iff.1 sizeS
  have hext36 := @run_callFunc_extern Tryz.prog 73 _ ReflectliteType.typeOf Tryz.func73 (by kernel_rfl) (by kernel_rfl) (by kernel_rfl) (by kernel_rfl)
  obtain ⟨ext, hfind, cT⟩ := cmpExt
  have hext66 := @run_callFunc_extern Tryz.prog 173 _ ext Tryz.func173 (by kernel_rfl) (by kernel_rfl) (by kernel_rfl) hfind
  clear hfind
  have tT := typeOfS
  have mR := methodComparable
  have nW := noIsF
  have nE := noIsS
  have uW := unwF
  have uE := noUnwS
  have vE := noUnwsS
  have mU := methodUnwrap
  have hal : a.block < w.heap.size := (Array.getElem?_eq_some_iff.1 ha).1
  have hbl : b.block < w.heap.size := (Array.getElem?_eq_some_iff.1 hb).1
  have heq := run_eql_iface_ptr_other (P := Tryz.prog) (w.alloc (.cells #[.int .i64 k, .iface 219 (.pointer (some a))] 212)) Tryz.underlying45 Tryz.underlying219 hi hcmp hj (by rw [hjs]; decide) hne ((Below.heap_alloc _ _ _ hal).trans ha) ((Below.heap_alloc _ _ _ hbl).trans hb)
  have hty := fun w => run_eql_iface_types (P := Tryz.prog) 212 219 (.agg #[.int .i64 k, .iface 219 (.pointer (some a))]) (.pointer (some b)) Tryz.underlying45 (by decide) w
  clear ha hb hal hbl
  go_enter Tryz.func48, Tryz.ntmps48
  go_wp2
  refine wp_loop_rounds 2 ?_
  rw [rounds_succ]
  go_wp2
  rw [rounds_succ]
  go_wp2
  go_ret
  exact ⟨rfl, (Below.refl _ _).alloc (by simp) _⟩

theorem hide {p : Prop} (h : p) : Hid p := h
theorem unhide {p : Prop} (h : Hid p) : p := h

/-- where the three sentinels lie. -/
structure Ad where
  c : Addr
  e : Addr
  b : Addr
/-- The package-level variables hold what the program's text lays. -/
structure Glob (a : Ad) (w : World) : Prop where
  ty : w.cell? ⟨4, 0, none⟩ = some (.iface 135 (.agg #[.pointer (some ⟨12, 45, none⟩)]))
  cu : w.cell? ⟨10, 0, none⟩ = some (.iface 219 (.pointer (some a.c)))
  en : w.cell? ⟨9, 0, none⟩ = some (.iface 219 (.pointer (some a.e)))
  bi : w.cell? ⟨11, 0, none⟩ = some (.iface 219 (.pointer (some a.b)))
  ec : a.e ≠ a.c
  bc : a.b ≠ a.c
  be : a.b ≠ a.e
  hC : ∃ c t, w.heap[a.c.block]? = some (.cells c t (0, 0))
  hE : ∃ c t, w.heap[a.e.block]? = some (.cells c t (0, 0))
  hB : ∃ c t, w.heap[a.b.block]? = some (.cells c t (0, 0))

theorem Glob.below {a : Ad} {w w' : World} (g : Glob a w) {B : Nat} (hB : w.heap.size ≤ B) (h : Below B w w') : Glob a w' := by
  obtain ⟨ty, cu, en, bi, ec, bc, be, ⟨c1, t1, h1⟩, ⟨c2, t2, h2⟩, ⟨c3, t3, h3⟩⟩ := g
  refine ⟨?_, ?_, ?_, ?_, ec, bc, be, ⟨c1, t1, ?_⟩, ⟨c2, t2, ?_⟩, ⟨c3, t3, ?_⟩⟩
  · rw [h.cell (Nat.lt_of_lt_of_le (lt_of_cell ty) hB)]; exact ty
  · rw [h.cell (Nat.lt_of_lt_of_le (lt_of_cell cu) hB)]; exact cu
  · rw [h.cell (Nat.lt_of_lt_of_le (lt_of_cell en) hB)]; exact en
  · rw [h.cell (Nat.lt_of_lt_of_le (lt_of_cell bi) hB)]; exact bi
  · rw [h.block _ (Nat.lt_of_lt_of_le (Array.getElem?_eq_some_iff.1 h1).1 hB)]; exact h1
  · rw [h.block _ (Nat.lt_of_lt_of_le (Array.getElem?_eq_some_iff.1 h2).1 hB)]; exact h2
  · rw [h.block _ (Nat.lt_of_lt_of_le (Array.getElem?_eq_some_iff.1 h3).1 hB)]; exact h3
theorem Glob.alloc {a : Ad} {w : World} (g : Glob a w) (o : Obj) : Glob a (w.alloc o) :=
  g.below (Nat.le_refl _) ((Below.refl _ _).alloc (Nat.le_refl _) _)

/-- a fault at a place that wraps a sentinel, one that wraps a noSign. -/
abbrev flt (k : Int) (a : Addr) : Value := .iface 212 (.agg #[.int .i64 k, .iface 219 (.pointer (some a))])
abbrev nos (k n : Int) : Value := .iface 212 (.agg #[.int .i64 k, .iface 215 (.agg #[.int .i32 n])])

/-- errnoOf at an error in which a noSign is found. -/
theorem errnoOf_sign (k n : Int) (a : Ad) (w : World) (g : Glob a w) :
    Calls Tryz.prog 141 #[nos k n] w fun e w' => e = .returned (.int .i64 50) ∧ Below w.heap.size w w' := by
  have gt := (g.alloc (.cells #[.int .i32 0] 215)).ty
  have H := hide (As_gives _ _ true (as2 n k) ⟨w.heap.size, 0, none⟩ (.int .i32 0) (w.alloc (.cells #[.int .i32 0] 215)) gt (by simp) (by simp))
  clear gt g
  go_enter Tryz.func141, Tryz.ntmps141
  go_wp2_with fail
  refine (unhide H).mono ?_
  rintro e w1 ⟨rfl, hb⟩
  have HB := hide hb
  clear hb
  go_wp2
  go_ret
  exact ⟨rfl, ((Below.refl _ _).alloc (Nat.le_refl _) _).trans (unhide HB)⟩

/-- what As leaves at a fault that wraps a sentinel. -/
theorem asNo (k : Int) (x : Addr) (a : Ad) (w : World) (g : Glob a w) :
    Calls Tryz.prog 47 #[flt k x, .iface 216 (.pointer (some ⟨w.heap.size, 0, none⟩))] (w.alloc (.cells #[.int .i32 0] 215)) fun e w' => e = .returned (.bool false) ∧ Hid (Below w.heap.size w w') ∧ Hid (Glob a w') ∧
      w'.cell? ⟨10, 0, none⟩ = some (.iface 219 (.pointer (some a.c))) := by
  have g1 := g.alloc (.cells #[.int .i32 0] 215)
  refine (As_gives _ _ false (as3 k x) ⟨w.heap.size, 0, none⟩ (.int .i32 0) _ g1.ty (by simp) (by simp)).mono fun e w' ⟨he, hb⟩ => ?_
  have hb' : Below w.heap.size w w' := ((Below.refl _ _).alloc (Nat.le_refl _) _).trans hb
  have g' := g.below (Nat.le_refl _) hb'
  exact ⟨he, hb', g', g'.cu⟩
/-- what Is says of a fault and its own sentinel, or another one. -/
theorem isYes (k : Int) (x : Addr) (w w1 : World) (h : Hid (Below w.heap.size w w1)) :
    Calls Tryz.prog 48 #[flt k x, .iface 219 (.pointer (some x))] w1 fun e w' => e = .returned (.bool true) ∧ Hid (Below w.heap.size w w') :=
  (Is_same k x w1).mono fun _ _ ⟨he, hb⟩ => ⟨he, (unhide h).trans (hb.mono (unhide h).size)⟩
theorem isNo (k : Int) (x y : Addr) (hne : x ≠ y) (a : Ad) (w w1 : World) (h : Hid (Below w.heap.size w w1)) (g : Hid (Glob a w1)) (hx : ∃ c t, w1.heap[x.block]? = some (.cells c t (0, 0))) (hy : ∃ c t, w1.heap[y.block]? = some (.cells c t (0, 0))) :
    Calls Tryz.prog 48 #[flt k x, .iface 219 (.pointer (some y))] w1 fun e w' => e = .returned (.bool false) ∧ Hid (Below w.heap.size w w') ∧ Hid (Glob a w') ∧
      w'.cell? ⟨9, 0, none⟩ = some (.iface 219 (.pointer (some a.e))) ∧ w'.cell? ⟨11, 0, none⟩ = some (.iface 219 (.pointer (some a.b))) := by
  obtain ⟨c1, t1, h1⟩ := hx
  obtain ⟨c2, t2, h2⟩ := hy
  refine (Is_other k x y c1 c2 t1 t2 w1 hne h1 h2).mono fun e w' ⟨he, hb⟩ => ?_
  have g' := (unhide g).below (Nat.le_refl _) hb
  exact ⟨he, (unhide h).trans (hb.mono (unhide h).size), g', g'.en, g'.bi⟩

theorem errnoOf_cut (k : Int) (a : Ad) (w : World) (g : Glob a w) :
    Calls Tryz.prog 141 #[flt k a.c] w fun e w' => e = .returned (.int .i64 50) ∧ Below w.heap.size w w' := by
  have H := hide (asNo k a.c a w g)
  clear g
  go_enter Tryz.func141, Tryz.ntmps141
  go_wp2_with fail
  refine (unhide H).mono ?_
  rintro e w1 ⟨rfl, hb, hg, hc⟩
  go_wp2_with fail
  refine (isYes k a.c w _ hb).mono ?_
  rintro e w2 ⟨rfl, hb2⟩
  go_wp2
  go_ret
  exact ⟨rfl, unhide hb2⟩

theorem errnoOf_end (k : Int) (a : Ad) (w : World) (g : Glob a w) :
    Calls Tryz.prog 141 #[flt k a.e] w fun e w' => e = .returned (.int .i64 50) ∧ Below w.heap.size w w' := by
  have H := hide (asNo k a.e a w g)
  have ne := hide g.ec
  clear g
  go_enter Tryz.func141, Tryz.ntmps141
  go_wp2_with fail
  refine (unhide H).mono ?_
  rintro e w1 ⟨rfl, hb, hg, hc⟩
  go_wp2_with fail
  refine (isNo k a.e a.c (unhide ne) a w _ hb hg (unhide hg).hE (unhide hg).hC).mono ?_
  rintro e w2 ⟨rfl, hb2, hg2, hc2, hc3⟩
  go_wp2_with fail
  refine (isYes k a.e w _ hb2).mono ?_
  rintro e w3 ⟨rfl, hb3⟩
  go_wp2
  go_ret
  exact ⟨rfl, unhide hb3⟩

theorem errnoOf_bits (k : Int) (a : Ad) (w : World) (g : Glob a w) :
    Calls Tryz.prog 141 #[flt k a.b] w fun e w' => e = .returned (.int .i64 50) ∧ Below w.heap.size w w' := by
  have H := hide (asNo k a.b a w g)
  have ne := hide g.bc
  have ne2 := hide g.be
  clear g
  go_enter Tryz.func141, Tryz.ntmps141
  go_wp2_with fail
  refine (unhide H).mono ?_
  rintro e w1 ⟨rfl, hb, hg, hc⟩
  go_wp2_with fail
  refine (isNo k a.b a.c (unhide ne) a w _ hb hg (unhide hg).hB (unhide hg).hC).mono ?_
  rintro e w2 ⟨rfl, hb2, hg2, hc2, hc3⟩
  go_wp2_with fail
  refine (isNo k a.b a.e (unhide ne2) a w _ hb2 hg2 (unhide hg2).hB (unhide hg2).hE).mono ?_
  rintro e w3 ⟨rfl, hb3, hg3, hc4, hc5⟩
  go_wp2_with fail
  refine (isYes k a.b w _ hb3).mono ?_
  rintro e w4 ⟨rfl, hb4⟩
  go_wp2
  go_ret
  exact ⟨rfl, unhide hb4⟩

/-- an error of this package. -/
def IsErr (a : Ad) (v : Value) : Prop := (∃ k, v = flt k a.c) ∨ (∃ k, v = flt k a.e) ∨ (∃ k, v = flt k a.b) ∨ (∃ k n, v = nos k n)
theorem errnoOf_any (v : Value) (a : Ad) (w : World) (g : Glob a w) (h : IsErr a v) :
    Calls Tryz.prog 141 #[v] w fun e w' => e = .returned (.int .i64 50) ∧ Below w.heap.size w w' := by
  rcases h with ⟨k, rfl⟩ | ⟨k, rfl⟩ | ⟨k, rfl⟩ | ⟨k, n, rfl⟩
  · exact errnoOf_cut k a w g
  · exact errnoOf_end k a w g
  · exact errnoOf_bits k a w g
  · exact errnoOf_sign k n a w g
theorem IsErr.form {a : Ad} {v : Value} (h : IsErr a v) : ∃ x, v = .iface 212 x := by
  rcases h with ⟨k, rfl⟩ | ⟨k, rfl⟩ | ⟨k, rfl⟩ | ⟨k, n, rfl⟩ <;> exact ⟨_, rfl⟩
end Go.Proofs.YthfcnjcpanoldaaGreatDoor.C

/-
  What code.signs.take lays: the signs of a text, and what they tell. Conditions: none.
-/
namespace Go.Proofs.YthfcnjcpanoldaaGreatDoor.C
open Go Go.RowKit
attribute [local go_sem] Oper.semAt_some

theorem run_next_at (w : World) (B : Nat) (s : ByteArray) (p : Nat) (ty : TypeId) (hB : w.heap[B]? = some (.stringIter s p)) (h : p < s.size) :
    (Instr.next (.pointer (some ⟨B, 0, none⟩)) true ty).run Tryz.prog w = .ok (.tuple #[.bool true, .int .i64 p, .int .i32 (Utf8.decode s p).1]) (w.putObj B (.stringIter s (p + (Utf8.decode s p).2))) := by
  simp only [Instr.next, getObj, setObj, Sem.run_bind, Sem.run, hB, Result.andThen, h, if_true]
  simp [goInt, World.putObj]
theorem run_next_over (w : World) (B : Nat) (s : ByteArray) (p : Nat) (ty : TypeId) (hB : w.heap[B]? = some (.stringIter s p)) (h : ¬ p < s.size) :
    (Instr.next (.pointer (some ⟨B, 0, none⟩)) true ty).run Tryz.prog w = .ok (.tuple #[.bool false]) w := by
  simp only [Instr.next, getObj, Sem.run_bind, Sem.run, hB, Result.andThen, h, if_false]
  simp

/-- the byte at a place. -/
abbrev at' (s : ByteArray) (p : Nat) : UInt8 := s.data.toList.getD p 0
theorem get_at (s : ByteArray) (p : Nat) : s.get! p = at' s p := by
  show s.data[p]! = _
  simp [getElem!_def, List.getD_eq_getElem?_getD]
  cases s.data[p]? <;> rfl
theorem dec_ascii (s : ByteArray) (p : Nat) (h : (at' s p).toNat < 128) : Utf8.decode s p = ((at' s p).toNat, 1) := by
  unfold Utf8.decode
  simp only [Nat.add_zero, get_at]
  rw [if_pos h]
theorem dec_big (s : ByteArray) (p : Nat) (h : 128 ≤ (at' s p).toNat) : 128 ≤ (Utf8.decode s p).1 := by
  unfold Utf8.decode
  simp only [Nat.add_zero, get_at]
  rw [if_neg (by omega)]
  have : 128 ≤ Utf8.runeError := by decide
  repeat' split
  all_goals (try simp_all)
  all_goals omega

/-- what is laid, sign by sign. -/
def tk : List UInt8 → Nat → Array Value → Array Value
  | [], _, cs => cs
  | x :: r, n, cs => tk r (n + 1) ((cs.setIfInBounds n (.int .u8 (x.toNat : Int))).setIfInBounds (64 + x.toNat) (.int .i8 ((n : Int) + 1)))

theorem drop_at (s : ByteArray) (p : Nat) (h : p < s.size) : s.data.toList.drop p = at' s p :: s.data.toList.drop (p + 1) := by
  have hl : p < s.data.toList.length := by simpa using h
  have : at' s p = s.data.toList[p] := by simp [at', List.getD_eq_getElem?_getD, List.getElem?_eq_getElem hl]
  rw [List.drop_eq_getElem_cons hl, this]

/-- what take leaves. -/
def TakePost (B : Nat) (w : World) (cs : Array Value) (ty : TypeId) (e : Ending) (w' : World) : Prop := e = .returned (.tuple #[]) ∧ w'.heap[B]? = some (.cells cs ty) ∧ Below B w w'

theorem putObj_below {B : Nat} {w W : World} {D : Nat} {o : Obj} (h : Below B w W) (hD : B ≤ D) : Below B w (W.putObj D o) :=
  ⟨h.os, h.tape, h.output, by simpa using h.size, fun k hk => (World.putObj_heap_other (by omega)).trans (h.block k hk)⟩

theorem cell_of {W : World} {B i : Nat} {c : Array Value} {ty : TypeId} (h : W.heap[B]? = some (.cells c ty)) (hi : i < c.size) : ∃ v, W.cell? ⟨B, i, none⟩ = some v ∧ W.frozen? ⟨B, i, none⟩ = false := by
  refine ⟨c[i], ?_, ?_⟩
  · simp [World.cell?, h, hi]
  · simp [World.frozen?, h]

set_option maxRecDepth 100000 in
set_option maxHeartbeats 2000000 in
theorem take_any (first : Nat) (s : ByteArray) (B : Nat) (w : World) (cs : Array Value) (ty : TypeId) (hB : w.heap[B]? = some (.cells cs ty)) (hcs : cs.size = 195)
    (ha : ∀ p, p < s.size → (at' s p).toNat < 128) (hf : first + s.size ≤ 64) :
    Calls Tryz.prog 65 #[.pointer (some ⟨B, 0, none⟩), .int .i64 first, .string s] w (TakePost B w (tk s.data.toList first cs) ty) := by
  have hBl : B < w.heap.size := (Array.getElem?_eq_some_iff.1 hB).1
  go_enter Tryz.func65, Tryz.ntmps65
  go_wp2
  go_loopw [6] (fun _ wr => ∃ (p : Nat) (c2 : Array Value), p ≤ s.size ∧ c2.size = 195 ∧ tk (s.data.toList.drop p) (first + p) c2 = tk s.data.toList first cs ∧ wr.heap[w.heap.size]? = some (.stringIter s p) ∧ wr.heap[B]? = some (.cells c2 ty) ∧ Below B w wr)
    (fun _ wr => s.size - wr.iterPos w.heap.size)
  case atStart =>
    refine ⟨0, cs, Nat.zero_le _, hcs, rfl, World.iter_heap w s 0, ?_, ?_⟩
    · exact (Below.heap_alloc _ _ _ hBl).trans hB
    · exact (Below.refl _ _).alloc (Nat.le_of_lt hBl) _
  case round =>
    obtain ⟨p, c2, hp, hz, ht, hit, hb, hbl⟩ := hrel
    have hit' := hide hit
    by_cases hlt : p < s.size
    · have hnx := fun ty => run_next_at wr w.heap.size s p ty hit hlt
      rw [dec_ascii s p (ha p hlt)] at hnx
      rw [drop_at s p hlt, tk] at ht
      have hx := ha p hlt
      generalize at' s p = x at *
      have hb1 : (wr.putObj w.heap.size (.stringIter s (p + 1))).heap[B]? = some (.cells c2 ty) := (World.putObj_heap_other (by omega)).trans hb
      have hi1 : (wr.putObj w.heap.size (.stringIter s (p + 1))).heap[w.heap.size]? = some (.stringIter s (p + 1)) := World.putObj_heap_same (Array.getElem?_eq_some_iff.1 hit).1
      have hl1 := putObj_below (o := .stringIter s (p + 1)) hbl (Nat.le_of_lt hBl)
      generalize wr.putObj w.heap.size (.stringIter s (p + 1)) = W1 at *
      obtain ⟨v1, c1, f1⟩ := cell_of hb1 (i := first + p) (by omega)
      have hb2 := heap_setCell_same W1 B (first + p) c2 ty (.int .u8 (x.toNat : Int)) hb1
      obtain ⟨v2, d1, g1⟩ := cell_of hb2 (i := 64 + x.toNat) (by simp; omega)
      have hb3 := heap_setCell_same _ B (64 + x.toNat) _ ty (.int .i8 (((first + p : Nat) : Int) + 1)) hb2
      have hi3 : ((W1.setCell ⟨B, first + p, none⟩ (.int .u8 (x.toNat : Int))).setCell ⟨B, 64 + x.toNat, none⟩ (.int .i8 (((first + p : Nat) : Int) + 1))).heap[w.heap.size]? = some (.stringIter s (p + 1)) := by
        rw [Below.heap_setCell _ _ _ _ (by show w.heap.size ≠ B; omega), Below.heap_setCell _ _ _ _ (by show w.heap.size ≠ B; omega)]
        exact hi1
      have hl3 : Below B w ((W1.setCell ⟨B, first + p, none⟩ (.int .u8 (x.toNat : Int))).setCell ⟨B, 64 + x.toNat, none⟩ (.int .i8 (((first + p : Nat) : Int) + 1))) := (hl1.setCell (Nat.le_refl _) _).setCell (Nat.le_refl _) _
      have Hb := hide hb3
      have Hi := hide hi3
      have Hl := hide hl3
      have Ht := hide ht
      clear hb hb1 hb2 hb3 hi1 hi3 hl1 hl3 hbl hit ht hB ha
      have e1 : (((first + p : Nat) : Int)) = first + p := by omega
      rw [e1] at Hb Hi Hl
      go_wp2
      go_roundw
      case rel =>
        exact ⟨p + 1, _, by omega, by simp [hz], by rw [← unhide Ht]; rfl, unhide Hi, unhide Hb, unhide Hl⟩
      case measure =>
        have e2 : wr.iterPos w.heap.size = p := by simp [World.iterPos, unhide hit']
        rw [e2]
        simp [World.iterPos, unhide Hi]
        omega
    · have hnx := fun ty => run_next_over wr w.heap.size s p ty hit hlt
      have : p = s.size := by omega
      subst this
      rw [List.drop_of_length_le (by simp), tk] at ht
      subst ht
      clear hit hB ha
      go_wp2
      go_end0
      exact ⟨rfl, hb, hbl⟩

/-- the cells of the two coders. -/
abbrev sixesS : ByteArray := ⟨#[65, 66, 67, 68, 69, 70, 71, 72, 73, 74, 75, 76, 77, 78, 79, 80, 81, 82, 83, 84, 85, 86, 87, 88, 89, 90, 97, 98, 99, 100, 101, 102, 103, 104, 105, 106, 107, 108, 109, 110, 111, 112, 113, 114, 115, 116, 117, 118, 119, 120, 121, 122, 48, 49, 50, 51, 52, 53, 54, 55, 56, 57, 43, 47]⟩
abbrev digitsS : ByteArray := ⟨#[48, 49, 50, 51, 52, 53, 54, 55, 56, 57, 97, 98, 99, 100, 101, 102]⟩
abbrev greatsS : ByteArray := ⟨#[65, 66, 67, 68, 69, 70]⟩
def fresh (b k t : Int) : Array Value := (List.replicate 64 (Value.int .u8 0) ++ List.replicate 128 (Value.int .i8 0) ++ [Value.int .i64 b, Value.int .i64 k, Value.int .i64 t]).toArray
def tabB : Array Value := tk sixesS.data.toList 0 (fresh 3 4 6)
def tabH : Array Value := tk digitsS.data.toList 0 (tk greatsS.data.toList 10 (fresh 1 2 4))
theorem fresh_B : (((Tryz.zeroCells99.setIfInBounds 192 (Value.int IntKind.i64 3)).setIfInBounds 193 (Value.int IntKind.i64 4)).setIfInBounds 194 (Value.int IntKind.i64 6)) = fresh 3 4 6 := by kernel_rfl
theorem fresh_H : (((Tryz.zeroCells99.setIfInBounds 192 (Value.int IntKind.i64 1)).setIfInBounds 193 (Value.int IntKind.i64 2)).setIfInBounds 194 (Value.int IntKind.i64 4)) = fresh 1 2 4 := by kernel_rfl
theorem size_B : (fresh 3 4 6).size = 195 := by kernel_rfl
theorem size_H : (fresh 1 2 4).size = 195 := by kernel_rfl
theorem size_G : (tk greatsS.data.toList 10 (fresh 1 2 4)).size = 195 := by kernel_rfl
/-- a coder lies in a block. -/
def CodB (w : World) (B : Nat) : Prop := w.heap[B]? = some (.cells tabB 99)
def CodH (w : World) (B : Nat) : Prop := w.heap[B]? = some (.cells tabH 99)
set_option maxRecDepth 100000 in
theorem hexCoder_any (w : World) :
    Calls Tryz.prog 44 #[] w fun e w' => e = .returned (.pointer (some ⟨w.heap.size, 0, none⟩)) ∧ CodH w' w.heap.size ∧ Below w.heap.size w w' := by
  have H := hide (take_any 10 greatsS w.heap.size (w.alloc (.cells (fresh 1 2 4) 99)) (fresh 1 2 4) 99 (World.alloc_heap_new _ _) size_H (by decide +kernel) (by decide))
  have H2 := hide fun w1 hc => take_any 0 digitsS w.heap.size w1 (tk greatsS.data.toList 10 (fresh 1 2 4)) 99 hc size_G (by decide +kernel) (by decide)
  go_enter Tryz.func44, Tryz.ntmps44
  go_wp2_with fail
  rw [fresh_H]
  refine (unhide H).mono ?_
  rintro e w1 ⟨rfl, hc, hb⟩
  have HC := hide (((unhide H2) w1 hc).mono (R' := fun e w' => e = .returned (.tuple #[]) ∧ CodH w' w.heap.size ∧ Below w.heap.size w1 w') (fun _ _ h => h))
  have HB := hide hb
  clear hc hb H H2
  generalize fresh 1 2 4 = fr at *
  go_wp2_with fail
  refine (unhide HC).mono ?_
  rintro e w2 ⟨rfl, hc, hb⟩
  have HC2 := hide hc
  have HB2 := hide hb
  clear hc hb HC
  go_wp2
  go_ret
  exact ⟨rfl, unhide HC2, (((Below.refl _ _).alloc (Nat.le_refl _) _).trans (unhide HB)).trans (unhide HB2)⟩
end Go.Proofs.YthfcnjcpanoldaaGreatDoor.C

/-
  Base64 and digits, plainly: what the document says of layer 5. Conditions: none.
-/
namespace Go.Proofs.YthfcnjcpanoldaaGreatDoor.Cd

/-- the sign of a number in base64, and in digits. -/
def sx (n : Nat) : UInt8 := ([65, 66, 67, 68, 69, 70, 71, 72, 73, 74, 75, 76, 77, 78, 79, 80, 81, 82, 83, 84, 85, 86, 87, 88, 89, 90, 97, 98, 99, 100, 101, 102, 103, 104, 105, 106, 107, 108, 109, 110, 111, 112, 113, 114, 115, 116, 117, 118, 119, 120, 121, 122, 48, 49, 50, 51, 52, 53, 54, 55, 56, 57, 43, 47] : List UInt8).getD n 0
def dx (n : Nat) : UInt8 := ([48, 49, 50, 51, 52, 53, 54, 55, 56, 57, 97, 98, 99, 100, 101, 102] : List UInt8).getD n 0
/-- what a sign tells. -/
def nx (x : UInt8) : Option Nat :=
  if 65 ≤ x.toNat ∧ x.toNat ≤ 90 then some (x.toNat - 65) else if 97 ≤ x.toNat ∧ x.toNat ≤ 122 then some (x.toNat - 71)
  else if 48 ≤ x.toNat ∧ x.toNat ≤ 57 then some (x.toNat + 4) else if x.toNat = 43 then some 62 else if x.toNat = 47 then some 63 else none
def nh (x : UInt8) : Option Nat :=
  if 48 ≤ x.toNat ∧ x.toNat ≤ 57 then some (x.toNat - 48) else if 97 ≤ x.toNat ∧ x.toNat ≤ 102 then some (x.toNat - 87)
  else if 65 ≤ x.toNat ∧ x.toNat ≤ 70 then some (x.toNat - 55) else none

/-- the bits of one to three bytes. -/
def pk : List UInt8 → Nat
  | [a] => a.toNat * 65536
  | [a, b] => a.toNat * 65536 + b.toNat * 256
  | [a, b, c] => a.toNat * 65536 + b.toNat * 256 + c.toNat
  | _ => 0
/-- a code: its signs, what they tell, how many bytes, signs, bits. -/
structure Kd where
  nm : UInt8 → Option Nat
  sg : Nat → UInt8
  bs : Nat
  wd : Nat
  bt : Nat
def kB : Kd := ⟨nx, sx, 3, 4, 6⟩
def kH : Kd := ⟨nh, dx, 1, 2, 4⟩
/-- the signs of a group of bytes. -/
def gr (k : Kd) (g : List UInt8) : List UInt8 := (List.range k.wd).map fun i => if 8 * g.length ≤ i * k.bt then 61 else k.sg (pk g / 2 ^ (24 - k.bt * (i + 1)) % 2 ^ k.bt)
/-- the bits of signs, and how many there are ahead of the fill. -/
def lp (k : Kd) : List UInt8 → Nat → Nat → Nat → Option (Nat × Nat)
  | [], _, b, c => some (b, c)
  | x :: r, i, b, c => match k.nm x with
    | some n => if c = i then lp k r (i + 1) (b + n * 2 ^ (24 - k.bt * (i + 1))) (c + 1) else none
    | none => if x = 61 ∧ 2 ≤ i then lp k r (i + 1) b c else none
def tl (k : Kd) (g : List UInt8) : Option (Nat × Nat) :=
  if g.length < k.wd then none else (lp k g 0 0 0).bind fun r => if r.1 % 2 ^ (24 - 8 * (r.2 * k.bt / 8)) = 0 then some r else none
def unp (b n : Nat) : List UInt8 := (List.range n).map fun i => UInt8.ofNat (b / 2 ^ (24 - 8 * (i + 1)))
/-- the bytes of a group of signs; is it the last one? -/
def stp (k : Kd) (last : Bool) (g : List UInt8) : Option (List UInt8) := (tl k g).bind fun r => if r.2 < k.wd ∧ last = false then none else some (unp r.1 (r.2 * k.bt / 8))
/-- pieces of a length. -/
def chs (n : Nat) : Nat → List UInt8 → List (List UInt8)
  | 0, _ => []
  | f + 1, l => if l = [] then [] else l.take n :: chs n f (l.drop n)
def dcs (k : Kd) : List (List UInt8) → Option (List UInt8)
  | [] => some []
  | g :: r => (stp k r.isEmpty g).bind fun t => (dcs k r).map (t ++ ·)
def enc (k : Kd) (l : List UInt8) : List UInt8 := (chs k.bs l.length l).flatMap (gr k)
def dec (k : Kd) (l : List UInt8) : Option (List UInt8) := dcs k (chs k.wd l.length l)
end Go.Proofs.YthfcnjcpanoldaaGreatDoor.Cd

/-
  What code.signs.sign, number, coder.whole and pack answer. Conditions: none.
-/
namespace Go.Proofs.YthfcnjcpanoldaaGreatDoor.C
open Go Go.RowKit Cd
attribute [local go_sem] Oper.semAt_some

/-- a coder of a kind lies in a block. -/
structure Cod (k : Kd) (w : World) (B : Nat) : Prop where
  pr : ∀ n, n < 2 ^ k.bt → w.cell? ⟨B, n, none⟩ = some (.int .u8 ((k.sg n).toNat : Int))
  nu : ∀ n, n < 128 → w.cell? ⟨B, 64 + n, none⟩ = some (.int .i8 (match k.nm (UInt8.ofNat n) with | some m => (m : Int) + 1 | none => 0))
  by' : w.cell? ⟨B, 192, none⟩ = some (.int .i64 k.bs)
  wi : w.cell? ⟨B, 193, none⟩ = some (.int .i64 k.wd)
  bi : w.cell? ⟨B, 194, none⟩ = some (.int .i64 k.bt)
  lt : B < w.heap.size
theorem Cod.below {k : Kd} {w w' : World} {B X : Nat} (h : Cod k w B) (hX : B < X) (hb : Below X w w') : Cod k w' B :=
  ⟨fun n hn => (hb.cell hX).trans (h.pr n hn), fun n hn => (hb.cell hX).trans (h.nu n hn), (hb.cell hX).trans h.by', (hb.cell hX).trans h.wi, (hb.cell hX).trans h.bi, Nat.lt_of_lt_of_le h.lt hb.size⟩
theorem prB : (List.range 64).map (fun n => tabB[n]?) = (List.range 64).map (fun n => some (.int .u8 ((sx n).toNat : Int))) := by kernel_rfl
theorem prH : (List.range 16).map (fun n => tabH[n]?) = (List.range 16).map (fun n => some (.int .u8 ((dx n).toNat : Int))) := by kernel_rfl
theorem nuB : (List.range 128).map (fun n => tabB[64 + n]?) = (List.range 128).map (fun n => some (.int .i8 (match nx (UInt8.ofNat n) with | some m => (m : Int) + 1 | none => 0))) := by kernel_rfl
theorem nuH : (List.range 128).map (fun n => tabH[64 + n]?) = (List.range 128).map (fun n => some (.int .i8 (match nh (UInt8.ofNat n) with | some m => (m : Int) + 1 | none => 0))) := by kernel_rfl
theorem cell_tab {w : World} {B : Nat} {c : Array Value} {ty : TypeId} (h : w.heap[B]? = some (.cells c ty)) (i : Nat) : w.cell? ⟨B, i, none⟩ = c[i]? := by
  simp [World.cell?, h]
theorem codB {w : World} {B : Nat} (h : CodB w B) : Cod kB w B :=
  ⟨fun n hn => (cell_tab h n).trans (List.map_inj_left.1 prB n (List.mem_range.2 hn)), fun n hn => (cell_tab h _).trans (List.map_inj_left.1 nuB n (List.mem_range.2 hn)),
    (cell_tab h _).trans (by kernel_rfl), (cell_tab h _).trans (by kernel_rfl), (cell_tab h _).trans (by kernel_rfl), (Array.getElem?_eq_some_iff.1 h).1⟩
theorem codH {w : World} {B : Nat} (h : CodH w B) : Cod kH w B :=
  ⟨fun n hn => (cell_tab h n).trans (List.map_inj_left.1 prH n (List.mem_range.2 hn)), fun n hn => (cell_tab h _).trans (List.map_inj_left.1 nuH n (List.mem_range.2 hn)),
    (cell_tab h _).trans (by kernel_rfl), (cell_tab h _).trans (by kernel_rfl), (cell_tab h _).trans (by kernel_rfl), (Array.getElem?_eq_some_iff.1 h).1⟩

set_option maxRecDepth 100000 in
theorem sign_any (k : Kd) (B n : Nat) (w : World) (h : Cod k w B) (hn : n < 2 ^ k.bt) (h64 : n < 64) :
    Calls Tryz.prog 93 #[.pointer (some ⟨B, 0, none⟩), .int .i64 n] w fun e w' => e = .returned (.int .u8 ((k.sg n).toNat : Int)) ∧ w' = w := by
  have hc := h.pr n hn
  clear h hn
  go_enter Tryz.func93, Tryz.ntmps93
  go_wp2
  go_ret
  exact ⟨rfl, rfl⟩

/-- what number answers. -/
def nv (k : Kd) (n : Nat) : Int × Bool := if n < 128 then (match k.nm (UInt8.ofNat n) with | some m => ((m : Int), true) | none => (0, false)) else (0, false)
set_option maxRecDepth 100000 in
theorem number_any (k : Kd) (B n : Nat) (w : World) (h : Cod k w B) (hm : ∀ x m, k.nm x = some m → m < 64) :
    Calls Tryz.prog 147 #[.pointer (some ⟨B, 0, none⟩), .int .i32 n] w fun e w' => e = .returned (.tuple #[.int .i64 (nv k n).1, .bool (nv k n).2]) ∧ w' = w := by
  unfold nv
  by_cases h1 : n < 128
  · rw [if_pos h1]
    have hc := h.nu n h1
    have h1' : ¬ (128 : Int) ≤ n := by omega
    cases hx : k.nm (UInt8.ofNat n) with
    | none =>
      rw [hx] at hc
      clear h hx hm
      go_enter Tryz.func147, Tryz.ntmps147
      go_wp2
      go_ret2
      exact ⟨rfl, rfl⟩
    | some m =>
      rw [hx] at hc
      have hm' := hm _ _ hx
      have e1 : ((m : Int) + 1 == 0) = false := by simp; omega
      have e2 : wrap64 ((m : Int) + 1 - 1) = m := by unfold wrap64; omega
      clear h hx hm
      go_enter Tryz.func147, Tryz.ntmps147
      go_wp2
      go_ret2
      exact ⟨by simp, rfl⟩
  · rw [if_neg h1]
    have h1' : (128 : Int) ≤ n := by omega
    clear h hm
    go_enter Tryz.func147, Tryz.ntmps147
    go_wp2
    go_ret2
    exact ⟨rfl, rfl⟩

set_option maxRecDepth 100000 in
theorem whole_any (k : Kd) (B c t : Nat) (w : World) (h : Cod k w B) (hk : k.bt = t) (ht : t ≤ 6) (hc : c ≤ 4) :
    Calls Tryz.prog 146 #[.pointer (some ⟨B, 0, none⟩), .int .i64 c] w fun e w' => e = .returned (.int .i64 ((c * k.bt / 8 : Nat) : Int)) ∧ w' = w := by
  have hb := h.bi
  rw [hk] at hb ⊢
  clear h hk
  have e1 : (c : Int) * t = ((c * t : Nat) : Int) := by simp
  have e2 : c * t ≤ 24 := Nat.mul_le_mul hc ht
  rw [show ((c * t / 8 : Nat) : Int) = ((c * t : Nat) : Int) / 8 by omega]
  generalize c * t = m at *
  have e3 : wrap64 (m : Int) = m := by unfold wrap64; omega
  go_enter Tryz.func146, Tryz.ntmps146
  go_wp2
  go_ret
  refine ⟨?_, rfl⟩
  rfl

theorem getD_of {s : ByteArray} {l : List UInt8} (h : s.data.toList = l) (i : Nat) (hi : i < s.size) : s[i] = l.getD i 0 := by
  subst h
  have hl : i < s.data.toList.length := by simpa using hi
  rw [List.getD_eq_getElem?_getD, List.getElem?_eq_getElem hl]
  rfl
theorem ofInt_i64 (a : Nat) (ha : a < 2 ^ 63) : (BitVec.ofInt 64 (a : Int)).toNat = a := by
  rw [BitVec.ofInt_natCast, BitVec.toNat_ofNat]; exact Nat.mod_eq_of_lt (by omega)
theorem wrap_i64 (a : Nat) (ha : a < 2 ^ 63) : IntKind.i64.wrap (a : Int) = a := by
  simp only [IntKind.wrap, IntKind.bits, IntKind.signed]
  simp
  omega
theorem i64_or_nat (a b : Nat) (ha : a < 2 ^ 63) (hb : b < 2 ^ 63) : bits .or .i64 (a : Int) (b : Int) = ((a ||| b : Nat) : Int) := by
  have hx : a ||| b < 2 ^ 63 := Nat.or_lt_two_pow ha hb
  show IntKind.i64.wrap ((BitVec.ofInt 64 (a : Int) ||| BitVec.ofInt 64 (b : Int)).toNat : Int) = _
  rw [BitVec.toNat_or, ofInt_i64 a ha, ofInt_i64 b hb, wrap_i64 _ hx]
theorem i64_and_nat (a b : Nat) (ha : a < 2 ^ 63) (hb : b < 2 ^ 63) : bits .and .i64 (a : Int) (b : Int) = ((a &&& b : Nat) : Int) := by
  have hx : a &&& b < 2 ^ 63 := Nat.and_lt_two_pow _ hb
  show IntKind.i64.wrap ((BitVec.ofInt 64 (a : Int) &&& BitVec.ofInt 64 (b : Int)).toNat : Int) = _
  rw [BitVec.toNat_and, ofInt_i64 a ha, ofInt_i64 b hb, wrap_i64 _ hx]
theorem and_mask (x k : Nat) (hx : x < 2 ^ 63) (hk : 2 ^ k - 1 < 2 ^ 63) : bits .and .i64 (x : Int) ((2 ^ k - 1 : Nat) : Int) = ((x % 2 ^ k : Nat) : Int) := by
  rw [i64_and_nat x _ hx hk, Nat.and_two_pow_sub_one_eq_mod]
/-- bits that do not meet. -/
theorem or_hi (x y k : Nat) (hx : x < 2 ^ k) (h : y * 2 ^ k + x < 2 ^ 63) : bits .or .i64 (x : Int) ((y * 2 ^ k : Nat) : Int) = ((y * 2 ^ k + x : Nat) : Int) := by
  rw [i64_or_nat x (y * 2 ^ k) (by omega) (by omega), Nat.or_comm, ← Nat.shiftLeft_eq, Nat.shiftLeft_add_eq_or_of_lt hx]
theorem or_lo (x y k : Nat) (hy : y < 2 ^ k) (h : x * 2 ^ k + y < 2 ^ 63) : bits .or .i64 ((x * 2 ^ k : Nat) : Int) (y : Int) = ((x * 2 ^ k + y : Nat) : Int) := by
  rw [i64_or_nat (x * 2 ^ k) y (by omega) (by omega), ← Nat.shiftLeft_eq, Nat.shiftLeft_add_eq_or_of_lt hy]
theorem or_zero (y : Nat) (h : y < 2 ^ 63) : bits .or .i64 0 (y : Int) = y := by
  have := or_lo 0 y 63 h (by omega)
  simpa using this
set_option maxRecDepth 100000 in
theorem pack1 (s : ByteArray) (a : UInt8) (w : World) (h : s.data.toList = [a]) :
    Calls Tryz.prog 92 #[.string s] w fun e w' => e = .returned (.int .i64 (pk s.data.toList)) ∧ w' = w := by
  have hz : s.size = 1 := by have := congrArg List.length h; simpa using this
  have hz' : (s.size : Int) = 1 := by omega
  have h0 : s[0] = a := getD_of h 0 (by omega)
  rw [h]
  have ha := a.toNat_lt
  have e1 : wrap64 (a.toNat : Int) = a.toNat := by unfold wrap64; omega
  have e2 : wrap64 ((a.toNat : Int) * 65536) = ((a.toNat * 65536 : Nat) : Int) := by unfold wrap64; omega
  have e3 := or_zero (a.toNat * 65536) (by omega)
  show Calls _ _ _ _ fun e w' => e = .returned (.int .i64 ((a.toNat * 65536 : Nat) : Int)) ∧ w' = w
  generalize a.toNat * 65536 = x at *
  clear ha
  go_enter Tryz.func92, Tryz.ntmps92
  go_wp2
  go_ret
  exact ⟨rfl, rfl⟩
set_option maxRecDepth 100000 in
theorem pack2 (s : ByteArray) (a b : UInt8) (w : World) (h : s.data.toList = [a, b]) :
    Calls Tryz.prog 92 #[.string s] w fun e w' => e = .returned (.int .i64 (pk s.data.toList)) ∧ w' = w := by
  have hz : s.size = 2 := by have := congrArg List.length h; simpa using this
  have hz' : (s.size : Int) = 2 := by omega
  have h0 : s[0] = a := getD_of h 0 (by omega)
  have h1 : s[1] = b := getD_of h 1 (by omega)
  rw [h]
  have ha := a.toNat_lt
  have hb := b.toNat_lt
  have e1 : wrap64 (a.toNat : Int) = a.toNat := by unfold wrap64; omega
  have e2 : wrap64 ((a.toNat : Int) * 65536) = ((a.toNat * 65536 : Nat) : Int) := by unfold wrap64; omega
  have e3 : wrap64 (b.toNat : Int) = b.toNat := by unfold wrap64; omega
  have e4 : wrap64 ((b.toNat : Int) * 256) = ((b.toNat * 256 : Nat) : Int) := by unfold wrap64; omega
  have e5 := or_zero (b.toNat * 256) (by omega)
  have e6 := or_hi (b.toNat * 256) a.toNat 16 (by omega) (by omega)
  show Calls _ _ _ _ fun e w' => e = .returned (.int .i64 ((a.toNat * 65536 + b.toNat * 256 : Nat) : Int)) ∧ w' = w
  rw [show 2 ^ 16 = 65536 from rfl] at e6
  generalize b.toNat * 256 = y at *
  generalize a.toNat * 65536 = x at *
  generalize x + y = z at *
  clear ha hb
  go_enter Tryz.func92, Tryz.ntmps92
  go_wp2
  go_ret
  exact ⟨rfl, rfl⟩
set_option maxRecDepth 100000 in
theorem pack3 (s : ByteArray) (a b c : UInt8) (w : World) (h : s.data.toList = [a, b, c]) :
    Calls Tryz.prog 92 #[.string s] w fun e w' => e = .returned (.int .i64 (pk s.data.toList)) ∧ w' = w := by
  have hz : s.size = 3 := by have := congrArg List.length h; simpa using this
  have hz' : (s.size : Int) = 3 := by omega
  have h0 : s[0] = a := getD_of h 0 (by omega)
  have h1 : s[1] = b := getD_of h 1 (by omega)
  have h2 : s[2] = c := getD_of h 2 (by omega)
  rw [h]
  have ha := a.toNat_lt
  have hb := b.toNat_lt
  have hc := c.toNat_lt
  have e1 : wrap64 (a.toNat : Int) = a.toNat := by unfold wrap64; omega
  have e2 : wrap64 ((a.toNat : Int) * 65536) = ((a.toNat * 65536 : Nat) : Int) := by unfold wrap64; omega
  have e3 : wrap64 (b.toNat : Int) = b.toNat := by unfold wrap64; omega
  have e4 : wrap64 ((b.toNat : Int) * 256) = ((b.toNat * 256 : Nat) : Int) := by unfold wrap64; omega
  have e7 : wrap64 (c.toNat : Int) = c.toNat := by unfold wrap64; omega
  have e5 := or_zero c.toNat (by omega)
  have e8 := or_hi c.toNat b.toNat 8 (by omega) (by omega)
  have e6 := or_hi (b.toNat * 2 ^ 8 + c.toNat) a.toNat 16 (by omega) (by omega)
  show Calls _ _ _ _ fun e w' => e = .returned (.int .i64 ((a.toNat * 65536 + b.toNat * 256 + c.toNat : Nat) : Int)) ∧ w' = w
  rw [Nat.add_assoc]
  rw [show 2 ^ 8 = 256 from rfl] at e8 e6
  rw [show 2 ^ 16 = 65536 from rfl] at e6
  generalize b.toNat * 256 = y at *
  generalize a.toNat * 65536 = x at *
  generalize y + c.toNat = u at *
  generalize x + u = z at *
  clear ha hb hc
  go_enter Tryz.func92, Tryz.ntmps92
  go_wp2
  go_ret
  exact ⟨rfl, rfl⟩
theorem pack_any (s : ByteArray) (w : World) (h1 : 1 ≤ s.size) (h3 : s.size ≤ 3) :
    Calls Tryz.prog 92 #[.string s] w fun e w' => e = .returned (.int .i64 (pk s.data.toList)) ∧ w' = w := by
  have hl : s.data.toList.length = s.size := by simp
  match hs : s.data.toList with
  | [] => rw [hs] at hl; simp at hl; omega
  | [a] => rw [← hs]; exact pack1 s a w hs
  | [a, b] => rw [← hs]; exact pack2 s a b w hs
  | [a, b, c] => rw [← hs]; exact pack3 s a b c w hs
  | a :: b :: c :: d :: r => rw [hs] at hl; simp at hl; omega
end Go.Proofs.YthfcnjcpanoldaaGreatDoor.C

/-
  What code.coder.add lays: the signs of a group of bytes behind others. Conditions: none.
-/
namespace Go.Proofs.YthfcnjcpanoldaaGreatDoor.C
open Go Go.RowKit Cd

/-- the cells of bytes. -/
def cells (l : List UInt8) : List Value := l.map fun x => .int .u8 (x.toNat : Int)
theorem cells_snoc (l : List UInt8) (x : UInt8) : cells (l ++ [x]) = cells l ++ [.int .u8 (x.toNat : Int)] := by simp [cells]
theorem infoB : ∃ i, Tryz.prog.info? 5 = some i ∧ i.zero = some (.int .u8 0) ∧ i.size = 1 ∧ i.bytes = 1 := ⟨Tryz.t5, by kernel_rfl, by kernel_rfl, by kernel_rfl, by kernel_rfl⟩
theorem news (w : World) (l : List Value) (t : TypeId) : ∀ (j : Nat) (u : Value), l[j]? = some u → (w.alloc (.cells l.toArray t)).cell? ((⟨w.heap.size, 0, none⟩ : Addr).add j) = some u := by
  intro j u h
  rw [Addr.add_lit, Nat.zero_add, World.cell?_alloc_at _ _ _ _ rfl]
  simpa using h
/-- the signs of a group up to a place. -/
def grj (k : Kd) (g : List UInt8) (j : Nat) : List UInt8 := (List.range j).map fun i => if 8 * g.length ≤ i * k.bt then 61 else k.sg (pk g / 2 ^ (24 - k.bt * (i + 1)) % 2 ^ k.bt)
theorem grj_succ (k : Kd) (g : List UInt8) (j : Nat) : grj k g (j + 1) = grj k g j ++ [if 8 * g.length ≤ j * k.bt then 61 else k.sg (pk g / 2 ^ (24 - k.bt * (j + 1)) % 2 ^ k.bt)] := by
  simp [grj, List.range_succ]
theorem pk_lt (g : List UInt8) : pk g < 16777216 := by
  match g with
  | [] => decide
  | [a] => have := a.toNat_lt; show a.toNat * 65536 < _; omega
  | [a, b] => have := a.toNat_lt; have := b.toNat_lt; show a.toNat * 65536 + b.toNat * 256 < _; omega
  | [a, b, c] => have := a.toNat_lt; have := b.toNat_lt; have := c.toNat_lt; show a.toNat * 65536 + b.toNat * 256 + c.toNat < _; omega
  | _ :: _ :: _ :: _ :: _ => show 0 < _; omega
theorem grown_keeps {w w' : World} {o : Obj} {base B i m : Nat} {v : Value} {xs : List Value} (ho : w.ownsRow base 5 1 v m xs) (hg : (w.drew.alloc o).grownBy w' v.ownBlock) (hB : B < base) (hl : B < w.heap.size) : w'.cell? ⟨B, i, none⟩ = (w.drew.alloc o).cell? ⟨B, i, none⟩ :=
  hg.cell_far _ (by show B < (w.drew.alloc o).heap.size; simp; show B < w.heap.size + 1; omega) (fun e => by have := (ho.lt B e.symm).1; omega)
/-- below a block all is as it was, and nothing but cells has turned. -/
def Bel (base : Nat) (w w' : World) : Prop := Below base w w' ∧ KeepsOthers w w'
theorem bel_refl (base : Nat) (w : World) : Bel base w w := ⟨Below.refl _ _, ⟨Nat.le_refl _, fun _ _ h _ => h⟩⟩
theorem add_below2 {w w1 w' : World} {o : Obj} {base m : Nat} {v : Value} {xs : List Value} (h : Bel base w w1) (ho : w1.ownsRow base 5 1 v m xs) (hg : (w1.alloc o).grownBy w' v.ownBlock) (hb : base ≤ w.heap.size) : Bel base w w' := by
  obtain ⟨h, hK⟩ := h
  have hs := hg.size
  have hz := h.size
  refine ⟨⟨hg.os.trans h.os, hg.tape.trans h.tape, hg.output.trans h.output, by simp at hs; omega, fun k hk => ?_⟩, hK.trans ⟨by simp at hs; omega, fun k o' hk hc => ?_⟩⟩
  · rw [hg.block k (by simp; omega) (fun e => by have := (ho.lt k e.symm).1; omega)]
    exact (heap_alloc_old _ _ (by omega)).trans (h.block k hk)
  · have hkl := (Array.getElem?_eq_some_iff.1 hk).1
    rw [hg.block k (by simp; omega) (fun e => ?_)]
    · exact (heap_alloc_old _ _ hkl).trans hk
    · rcases ho.2 with ⟨rfl, _⟩ | ⟨g, cap, cur, rfl, _, hgb, _⟩
      · cases e
      · cases e
        rw [hk] at hgb
        cases hgb
        cases hc
theorem add_below {w w1 w' : World} {o : Obj} {base m : Nat} {v : Value} {xs : List Value} (h : Bel base w w1) (ho : w1.ownsRow base 5 1 v m xs) (hg : (w1.drew.alloc o).grownBy w' v.ownBlock) (hb : base ≤ w.heap.size) : Bel base w w' :=
  add_below2 (w1 := w1.drew) ⟨h.1.drew, ⟨h.2.size, h.2.same⟩⟩ ho.drew hg hb
/-- what add leaves. -/
def AddPost (k : Kd) (g : List UInt8) (base m : Nat) (xs : List Value) (w : World) (e : Ending) (w' : World) : Prop := ∃ v', e = .returned v' ∧ w'.ownsRow base 5 1 v' (m + k.wd) (xs ++ cells (gr k g)) ∧ Bel base w w'

set_option linter.unusedSimpArgs false in
set_option maxRecDepth 100000 in
set_option maxHeartbeats 8000000 in
theorem addB (B : Nat) (s : ByteArray) (w : World) (base : Nat) (v : Value) (m : Nat) (xs : List Value) (h1 : 1 ≤ s.size) (h3 : s.size ≤ 3) (hc : Cod kB w B) (hBb : B < base) (ho : w.ownsRow base 5 1 v m xs) (hm : m ≤ 100000) (hb : base ≤ w.heap.size) :
    Calls Tryz.prog 67 #[.pointer (some ⟨B, 0, none⟩), v, .string s] w (AddPost kB s.data.toList base m xs w) := by
  have hw : w.cell? ⟨B, 193, none⟩ = some (.int .i64 4) := hc.wi
  have hpk := pack_any s w h1 (by omega)
  have hlen : s.data.toList.length = s.size := by simp
  have hpl : pk s.data.toList < 16777216 := pk_lt _
  obtain ⟨i0, hi0, hz0, hz1, hz2⟩ := infoB
  generalize hX : pk s.data.toList = X at *
  go_enter Tryz.func67, Tryz.ntmps67
  go_wp2_with fail
  refine hpk.mono ?_
  rintro e w1 ⟨rfl, rfl⟩
  clear hpk
  go_wp2
  go_loopw [1, 16] (fun sl ix wr => ∃ j : Nat, j ≤ 4 ∧ ix = .int .i64 (j : Int) ∧ wr.ownsRow base 5 1 sl (m + j) (xs ++ cells (grj kB s.data.toList j)) ∧ Bel base w1 wr)
    (fun _ ix _ => 4 - (intOf ix).toNat)
  case atStart =>
    exact ⟨0, Nat.zero_le _, rfl, by simpa [grj, cells] using ho, bel_refl _ _⟩
  case round =>
    obtain ⟨j, hj, rfl, ho2, hbl⟩ := hrel
    have hc2 := hc.below hBb hbl.1
    have hbi : wr.cell? ⟨B, 194, none⟩ = some (.int .i64 6) := hc2.bi
    have Hlt := hide hc2.lt
    have Hc2 := hide hc2
    have Ho2 := hide ho2
    have Ho := hide ho
    have Hbl := hide hbl
    have HX := hide hX
    clear hc2 hc ho2 ho hbl hw hX
    obtain rfl | rfl | rfl | rfl | rfl : j = 0 ∨ j = 1 ∨ j = 2 ∨ j = 3 ∨ j = 4 := by omega
    · clear hj
      have hsn : (if 8 * s.data.toList.length ≤ 0 * kB.bt then (61 : UInt8) else kB.sg (pk s.data.toList / 2 ^ (24 - kB.bt * (0 + 1)) % 2 ^ kB.bt)) = kB.sg (X / 262144 % 64) := by
        rw [if_neg (by rw [hlen]; show ¬ 8 * s.size ≤ 0 * 6; omega), unhide HX]
        rfl
      have hfl : ¬ (8 * (s.size : Int) ≤ 0) := by omega
      go_wp2_with fail
      have hD : X / 262144 < 16777216 := by omega
      rw [show (X : Int) / 262144 = ((X / 262144 : Nat) : Int) by omega]
      generalize X / 262144 = P at *
      have hsg := hide (sign_any kB B (P % 64) wr.drew ((unhide Hc2).below (unhide Hlt) ((Below.refl _ _).drew)) (show P % 64 < 64 by omega) (by omega))
      generalize kB.sg (P % 64) = x at *
      have hS0 : wr.drew.cell? ⟨B, 194, none⟩ = some (.int .i64 6) := hbi
      have hS2 : (wr.drew.alloc (.cells #[.int .u8 (x.toNat : Int)] 5)).cell? ⟨B, 194, none⟩ = some (.int .i64 6) := by
        rw [World.cell?_alloc_lt _ _ _ (by exact unhide Hlt)]
        exact hS0
      have hand : bits .and .i64 (P : Int) 63 = ((P % 64 : Nat) : Int) := and_mask P 6 (by omega) (by decide)
      have HN := hide (news wr.drew [.int .u8 (x.toNat : Int)] 5)
      have HO := hide ((unhide Ho2).drew.alloc (.cells #[.int .u8 (x.toNat : Int)] 5))
      refine wp_region_held (S := fun w' => w'.cell? ⟨B, 194, none⟩ = some (.int .i64 6)) (by kernel_rfl) ?_
      change wpAnyH _ _ _ _ _ 16 #[false, false, false, false, false, false, false, false, false, false, false, false, false, false, false, false] _ wr.drew
      refine wpAnyH_take (i := 0) (v := u1) rfl (by kernel_rfl) (by kernel_rfl) (by kernel_rfl) (fun _ _ _ h => h) (Or.inl ⟨by kernel_rfl, by intro w1 hS1; go_simp; try rfl⟩) hS0 ?_
      simp only [Act.put, List.setIfInBounds_toArray, List.set_cons_zero, List.set_cons_succ, List.getElem_toArray, List.getElem_cons_zero, List.getElem_cons_succ]
      refine wpAnyH_take (i := 1) (v := .pointer (some ⟨B, 0, none⟩)) rfl (by kernel_rfl) (by kernel_rfl) (by kernel_rfl) (fun _ _ _ h => h) (Or.inl ⟨by kernel_rfl, by intro w1 hS1; go_simp; try rfl⟩) hS0 ?_
      simp only [Act.put, List.setIfInBounds_toArray, List.set_cons_zero, List.set_cons_succ, List.getElem_toArray, List.getElem_cons_zero, List.getElem_cons_succ]
      refine wpAnyH_take (i := 2) (v := .pointer (some ⟨B, 0, none⟩)) rfl (by kernel_rfl) (by kernel_rfl) (by kernel_rfl) (fun _ _ _ h => h) (Or.inl ⟨by kernel_rfl, by intro w1 hS1; go_simp; try rfl⟩) hS0 ?_
      simp only [Act.put, List.setIfInBounds_toArray, List.set_cons_zero, List.set_cons_succ, List.getElem_toArray, List.getElem_cons_zero, List.getElem_cons_succ]
      refine wpAnyH_take (i := 3) (v := .pointer (some ⟨B, 0, none⟩)) rfl (by kernel_rfl) (by kernel_rfl) (by kernel_rfl) (fun _ _ _ h => h) (Or.inl ⟨by kernel_rfl, by intro w1 hS1; go_simp; try rfl⟩) hS0 ?_
      simp only [Act.put, List.setIfInBounds_toArray, List.set_cons_zero, List.set_cons_succ, List.getElem_toArray, List.getElem_cons_zero, List.getElem_cons_succ]
      refine wpAnyH_take (i := 4) (v := .int .i64 (P : Int)) rfl (by kernel_rfl) (by kernel_rfl) (by kernel_rfl) (fun _ _ _ h => h) (Or.inl ⟨by kernel_rfl, by intro w1 hS1; go_simp; try rfl⟩) hS0 ?_
      simp only [Act.put, List.setIfInBounds_toArray, List.set_cons_zero, List.set_cons_succ, List.getElem_toArray, List.getElem_cons_zero, List.getElem_cons_succ]
      refine wpAnyH_take (i := 5) (v := .pointer (some ⟨B, 0, none⟩)) rfl (by kernel_rfl) (by kernel_rfl) (by kernel_rfl) (fun _ _ _ h => h) (Or.inl ⟨by kernel_rfl, by intro w1 hS1; go_simp; try rfl⟩) hS0 ?_
      simp only [Act.put, List.setIfInBounds_toArray, List.set_cons_zero, List.set_cons_succ, List.getElem_toArray, List.getElem_cons_zero, List.getElem_cons_succ]
      refine wpAnyH_take (i := 6) (v := .pointer (some ⟨B, 0, none⟩)) rfl (by kernel_rfl) (by kernel_rfl) (by kernel_rfl) (fun _ _ _ h => h) (Or.inl ⟨by kernel_rfl, by intro w1 hS1; go_simp; try rfl⟩) hS0 ?_
      simp only [Act.put, List.setIfInBounds_toArray, List.set_cons_zero, List.set_cons_succ, List.getElem_toArray, List.getElem_cons_zero, List.getElem_cons_succ]
      refine wpAnyH_take (i := 7) (v := .pointer (some ⟨B, 194, none⟩)) rfl (by kernel_rfl) (by kernel_rfl) (by kernel_rfl) (fun _ _ _ h => h) (Or.inl ⟨by kernel_rfl, by intro w1 hS1; go_simp; try rfl⟩) hS0 ?_
      simp only [Act.put, List.setIfInBounds_toArray, List.set_cons_zero, List.set_cons_succ, List.getElem_toArray, List.getElem_cons_zero, List.getElem_cons_succ]
      refine wpAnyH_take (i := 8) (v := .int .i64 6) rfl (by kernel_rfl) (by kernel_rfl) (by kernel_rfl) (fun _ _ _ h => h) (Or.inl ⟨by kernel_rfl, by intro w1 hS1; go_simp; try rfl⟩) hS0 ?_
      simp only [Act.put, List.setIfInBounds_toArray, List.set_cons_zero, List.set_cons_succ, List.getElem_toArray, List.getElem_cons_zero, List.getElem_cons_succ]
      refine wpAnyH_take (i := 9) (v := .int .i64 64) rfl (by kernel_rfl) (by kernel_rfl) (by kernel_rfl) (fun _ _ _ h => h) (Or.inl ⟨by kernel_rfl, by intro w1 hS1; go_simp; try rfl⟩) hS0 ?_
      simp only [Act.put, List.setIfInBounds_toArray, List.set_cons_zero, List.set_cons_succ, List.getElem_toArray, List.getElem_cons_zero, List.getElem_cons_succ]
      refine wpAnyH_take (i := 10) (v := .int .i64 63) rfl (by kernel_rfl) (by kernel_rfl) (by kernel_rfl) (fun _ _ _ h => h) (Or.inl ⟨by kernel_rfl, by intro w1 hS1; go_simp; try rfl⟩) hS0 ?_
      simp only [Act.put, List.setIfInBounds_toArray, List.set_cons_zero, List.set_cons_succ, List.getElem_toArray, List.getElem_cons_zero, List.getElem_cons_succ]
      refine wpAnyH_take (i := 11) (v := .int .i64 ((P % 64 : Nat) : Int)) rfl (by kernel_rfl) (by kernel_rfl) (by kernel_rfl) (fun _ _ _ h => h) (Or.inl ⟨by kernel_rfl, by intro w1 hS1; go_simp; try rfl⟩) hS0 ?_
      simp only [Act.put, List.setIfInBounds_toArray, List.set_cons_zero, List.set_cons_succ, List.getElem_toArray, List.getElem_cons_zero, List.getElem_cons_succ]
      refine wpAnyH_ready (rs := [12]) (by kernel_rfl) (by simp) ?_
      refine AllReadyH.cons rfl (fun K hK => ?_) AllReadyH.nil
      rw [if_pos (by kernel_rfl)]
      go_wp2_with fail
      refine (unhide hsg).mono ?_
      rintro e w' ⟨rfl, rfl⟩
      go_wp2
      refine hK.out _ _ hS0 (fun _ => ?_)
      clear hK K
      simp only [Act.put, List.setIfInBounds_toArray, List.set_cons_zero, List.set_cons_succ, List.getElem_toArray, List.getElem_cons_zero, List.getElem_cons_succ]
      refine wpAnyH_ready (rs := [13]) (by kernel_rfl) (by simp) ?_
      refine AllReadyH.cons rfl (fun K hK => ?_) AllReadyH.nil
      rw [if_pos (by kernel_rfl)]
      go_simp
      refine hK.out _ _ hS2 (fun _ => ?_)
      clear hK K
      simp only [Act.put, List.setIfInBounds_toArray, List.set_cons_zero, List.set_cons_succ, List.getElem_toArray, List.getElem_cons_zero, List.getElem_cons_succ]
      refine wpAnyH_ready (rs := [14]) (by kernel_rfl) (by simp) ?_
      refine AllReadyH.cons rfl (fun K hK => ?_) AllReadyH.nil
      rw [if_pos (by kernel_rfl)]
      refine wp_append_lies _ (.tmp 42) (.tmp 55) 85 rfl base 5 i0 (.int .u8 0) 1 1 Tryz.underlying85 hi0 hz0 hz1 hz2 rfl (by omega) u1 (m + 0) _ rfl (unhide HO) ⟨wr.heap.size, 0, none⟩ 1 1 [.int .u8 (x.toNat : Int)] rfl rfl (unhide HN) (by simp [Value.oneCell']) (by omega) (by unfold maxLen; omega) (by omega) (by have := (unhide Hbl).1.size; show base ≤ (wr.drew.alloc _).heap.size; simp; omega) (wr.heap.size + 1) (by simp) ?_
      intro gg cp w4 hown hgrow hat hglt
      have hS4 : w4.cell? ⟨B, 194, none⟩ = some (.int .i64 6) := (grown_keeps (unhide Ho2) hgrow hBb (unhide Hlt)).trans hS2
      refine hK.out _ _ hS4 (fun _ => ?_)
      clear hK K
      have Hown := hide hown
      have Hgrow := hide hgrow
      clear hown hgrow hat
      simp only [Act.put, List.setIfInBounds_toArray, List.set_cons_zero, List.set_cons_succ, List.getElem_toArray, List.getElem_cons_zero, List.getElem_cons_succ]
      refine wpAnyH_take (i := 15) (v := .slice (some ⟨gg, 0, none⟩) (m + 0 + 1) cp) rfl (by kernel_rfl) (by kernel_rfl) (by kernel_rfl) (fun _ _ _ h => h) (Or.inl ⟨by kernel_rfl, by intro w1 hS1; go_simp; try rfl⟩) hS4 ?_
      simp only [Act.put, List.setIfInBounds_toArray, List.set_cons_zero, List.set_cons_succ, List.getElem_toArray, List.getElem_cons_zero, List.getElem_cons_succ]
      refine wpAnyH_done (by kernel_rfl) ?_ _
      go_wp2
      go_roundw
      case rel =>
        refine ⟨1, by omega, by simp, ?_, add_below (unhide Hbl) (unhide Ho2) (unhide Hgrow) hb⟩
        rw [grj_succ, hsn, cells_snoc, ← List.append_assoc]
        exact unhide Hown
      case measure => simp [intOf] <;> omega
    · clear hj
      have hsn : (if 8 * s.data.toList.length ≤ 1 * kB.bt then (61 : UInt8) else kB.sg (pk s.data.toList / 2 ^ (24 - kB.bt * (1 + 1)) % 2 ^ kB.bt)) = kB.sg (X / 4096 % 64) := by
        rw [if_neg (by rw [hlen]; show ¬ 8 * s.size ≤ 1 * 6; omega), unhide HX]
        rfl
      have hfl : ¬ (8 * (s.size : Int) ≤ 6) := by omega
      go_wp2_with fail
      have hD : X / 4096 < 16777216 := by omega
      rw [show (X : Int) / 4096 = ((X / 4096 : Nat) : Int) by omega]
      generalize X / 4096 = P at *
      have hsg := hide (sign_any kB B (P % 64) wr.drew ((unhide Hc2).below (unhide Hlt) ((Below.refl _ _).drew)) (show P % 64 < 64 by omega) (by omega))
      generalize kB.sg (P % 64) = x at *
      have hS0 : wr.drew.cell? ⟨B, 194, none⟩ = some (.int .i64 6) := hbi
      have hS2 : (wr.drew.alloc (.cells #[.int .u8 (x.toNat : Int)] 5)).cell? ⟨B, 194, none⟩ = some (.int .i64 6) := by
        rw [World.cell?_alloc_lt _ _ _ (by exact unhide Hlt)]
        exact hS0
      have hand : bits .and .i64 (P : Int) 63 = ((P % 64 : Nat) : Int) := and_mask P 6 (by omega) (by decide)
      have HN := hide (news wr.drew [.int .u8 (x.toNat : Int)] 5)
      have HO := hide ((unhide Ho2).drew.alloc (.cells #[.int .u8 (x.toNat : Int)] 5))
      refine wp_region_held (S := fun w' => w'.cell? ⟨B, 194, none⟩ = some (.int .i64 6)) (by kernel_rfl) ?_
      change wpAnyH _ _ _ _ _ 16 #[false, false, false, false, false, false, false, false, false, false, false, false, false, false, false, false] _ wr.drew
      refine wpAnyH_take (i := 0) (v := u1) rfl (by kernel_rfl) (by kernel_rfl) (by kernel_rfl) (fun _ _ _ h => h) (Or.inl ⟨by kernel_rfl, by intro w1 hS1; go_simp; try rfl⟩) hS0 ?_
      simp only [Act.put, List.setIfInBounds_toArray, List.set_cons_zero, List.set_cons_succ, List.getElem_toArray, List.getElem_cons_zero, List.getElem_cons_succ]
      refine wpAnyH_take (i := 1) (v := .pointer (some ⟨B, 0, none⟩)) rfl (by kernel_rfl) (by kernel_rfl) (by kernel_rfl) (fun _ _ _ h => h) (Or.inl ⟨by kernel_rfl, by intro w1 hS1; go_simp; try rfl⟩) hS0 ?_
      simp only [Act.put, List.setIfInBounds_toArray, List.set_cons_zero, List.set_cons_succ, List.getElem_toArray, List.getElem_cons_zero, List.getElem_cons_succ]
      refine wpAnyH_take (i := 2) (v := .pointer (some ⟨B, 0, none⟩)) rfl (by kernel_rfl) (by kernel_rfl) (by kernel_rfl) (fun _ _ _ h => h) (Or.inl ⟨by kernel_rfl, by intro w1 hS1; go_simp; try rfl⟩) hS0 ?_
      simp only [Act.put, List.setIfInBounds_toArray, List.set_cons_zero, List.set_cons_succ, List.getElem_toArray, List.getElem_cons_zero, List.getElem_cons_succ]
      refine wpAnyH_take (i := 3) (v := .pointer (some ⟨B, 0, none⟩)) rfl (by kernel_rfl) (by kernel_rfl) (by kernel_rfl) (fun _ _ _ h => h) (Or.inl ⟨by kernel_rfl, by intro w1 hS1; go_simp; try rfl⟩) hS0 ?_
      simp only [Act.put, List.setIfInBounds_toArray, List.set_cons_zero, List.set_cons_succ, List.getElem_toArray, List.getElem_cons_zero, List.getElem_cons_succ]
      refine wpAnyH_take (i := 4) (v := .int .i64 (P : Int)) rfl (by kernel_rfl) (by kernel_rfl) (by kernel_rfl) (fun _ _ _ h => h) (Or.inl ⟨by kernel_rfl, by intro w1 hS1; go_simp; try rfl⟩) hS0 ?_
      simp only [Act.put, List.setIfInBounds_toArray, List.set_cons_zero, List.set_cons_succ, List.getElem_toArray, List.getElem_cons_zero, List.getElem_cons_succ]
      refine wpAnyH_take (i := 5) (v := .pointer (some ⟨B, 0, none⟩)) rfl (by kernel_rfl) (by kernel_rfl) (by kernel_rfl) (fun _ _ _ h => h) (Or.inl ⟨by kernel_rfl, by intro w1 hS1; go_simp; try rfl⟩) hS0 ?_
      simp only [Act.put, List.setIfInBounds_toArray, List.set_cons_zero, List.set_cons_succ, List.getElem_toArray, List.getElem_cons_zero, List.getElem_cons_succ]
      refine wpAnyH_take (i := 6) (v := .pointer (some ⟨B, 0, none⟩)) rfl (by kernel_rfl) (by kernel_rfl) (by kernel_rfl) (fun _ _ _ h => h) (Or.inl ⟨by kernel_rfl, by intro w1 hS1; go_simp; try rfl⟩) hS0 ?_
      simp only [Act.put, List.setIfInBounds_toArray, List.set_cons_zero, List.set_cons_succ, List.getElem_toArray, List.getElem_cons_zero, List.getElem_cons_succ]
      refine wpAnyH_take (i := 7) (v := .pointer (some ⟨B, 194, none⟩)) rfl (by kernel_rfl) (by kernel_rfl) (by kernel_rfl) (fun _ _ _ h => h) (Or.inl ⟨by kernel_rfl, by intro w1 hS1; go_simp; try rfl⟩) hS0 ?_
      simp only [Act.put, List.setIfInBounds_toArray, List.set_cons_zero, List.set_cons_succ, List.getElem_toArray, List.getElem_cons_zero, List.getElem_cons_succ]
      refine wpAnyH_take (i := 8) (v := .int .i64 6) rfl (by kernel_rfl) (by kernel_rfl) (by kernel_rfl) (fun _ _ _ h => h) (Or.inl ⟨by kernel_rfl, by intro w1 hS1; go_simp; try rfl⟩) hS0 ?_
      simp only [Act.put, List.setIfInBounds_toArray, List.set_cons_zero, List.set_cons_succ, List.getElem_toArray, List.getElem_cons_zero, List.getElem_cons_succ]
      refine wpAnyH_take (i := 9) (v := .int .i64 64) rfl (by kernel_rfl) (by kernel_rfl) (by kernel_rfl) (fun _ _ _ h => h) (Or.inl ⟨by kernel_rfl, by intro w1 hS1; go_simp; try rfl⟩) hS0 ?_
      simp only [Act.put, List.setIfInBounds_toArray, List.set_cons_zero, List.set_cons_succ, List.getElem_toArray, List.getElem_cons_zero, List.getElem_cons_succ]
      refine wpAnyH_take (i := 10) (v := .int .i64 63) rfl (by kernel_rfl) (by kernel_rfl) (by kernel_rfl) (fun _ _ _ h => h) (Or.inl ⟨by kernel_rfl, by intro w1 hS1; go_simp; try rfl⟩) hS0 ?_
      simp only [Act.put, List.setIfInBounds_toArray, List.set_cons_zero, List.set_cons_succ, List.getElem_toArray, List.getElem_cons_zero, List.getElem_cons_succ]
      refine wpAnyH_take (i := 11) (v := .int .i64 ((P % 64 : Nat) : Int)) rfl (by kernel_rfl) (by kernel_rfl) (by kernel_rfl) (fun _ _ _ h => h) (Or.inl ⟨by kernel_rfl, by intro w1 hS1; go_simp; try rfl⟩) hS0 ?_
      simp only [Act.put, List.setIfInBounds_toArray, List.set_cons_zero, List.set_cons_succ, List.getElem_toArray, List.getElem_cons_zero, List.getElem_cons_succ]
      refine wpAnyH_ready (rs := [12]) (by kernel_rfl) (by simp) ?_
      refine AllReadyH.cons rfl (fun K hK => ?_) AllReadyH.nil
      rw [if_pos (by kernel_rfl)]
      go_wp2_with fail
      refine (unhide hsg).mono ?_
      rintro e w' ⟨rfl, rfl⟩
      go_wp2
      refine hK.out _ _ hS0 (fun _ => ?_)
      clear hK K
      simp only [Act.put, List.setIfInBounds_toArray, List.set_cons_zero, List.set_cons_succ, List.getElem_toArray, List.getElem_cons_zero, List.getElem_cons_succ]
      refine wpAnyH_ready (rs := [13]) (by kernel_rfl) (by simp) ?_
      refine AllReadyH.cons rfl (fun K hK => ?_) AllReadyH.nil
      rw [if_pos (by kernel_rfl)]
      go_simp
      refine hK.out _ _ hS2 (fun _ => ?_)
      clear hK K
      simp only [Act.put, List.setIfInBounds_toArray, List.set_cons_zero, List.set_cons_succ, List.getElem_toArray, List.getElem_cons_zero, List.getElem_cons_succ]
      refine wpAnyH_ready (rs := [14]) (by kernel_rfl) (by simp) ?_
      refine AllReadyH.cons rfl (fun K hK => ?_) AllReadyH.nil
      rw [if_pos (by kernel_rfl)]
      refine wp_append_lies _ (.tmp 42) (.tmp 55) 85 rfl base 5 i0 (.int .u8 0) 1 1 Tryz.underlying85 hi0 hz0 hz1 hz2 rfl (by omega) u1 (m + 1) _ rfl (unhide HO) ⟨wr.heap.size, 0, none⟩ 1 1 [.int .u8 (x.toNat : Int)] rfl rfl (unhide HN) (by simp [Value.oneCell']) (by omega) (by unfold maxLen; omega) (by omega) (by have := (unhide Hbl).1.size; show base ≤ (wr.drew.alloc _).heap.size; simp; omega) (wr.heap.size + 1) (by simp) ?_
      intro gg cp w4 hown hgrow hat hglt
      have hS4 : w4.cell? ⟨B, 194, none⟩ = some (.int .i64 6) := (grown_keeps (unhide Ho2) hgrow hBb (unhide Hlt)).trans hS2
      refine hK.out _ _ hS4 (fun _ => ?_)
      clear hK K
      have Hown := hide hown
      have Hgrow := hide hgrow
      clear hown hgrow hat
      simp only [Act.put, List.setIfInBounds_toArray, List.set_cons_zero, List.set_cons_succ, List.getElem_toArray, List.getElem_cons_zero, List.getElem_cons_succ]
      refine wpAnyH_take (i := 15) (v := .slice (some ⟨gg, 0, none⟩) (m + 1 + 1) cp) rfl (by kernel_rfl) (by kernel_rfl) (by kernel_rfl) (fun _ _ _ h => h) (Or.inl ⟨by kernel_rfl, by intro w1 hS1; go_simp; try rfl⟩) hS4 ?_
      simp only [Act.put, List.setIfInBounds_toArray, List.set_cons_zero, List.set_cons_succ, List.getElem_toArray, List.getElem_cons_zero, List.getElem_cons_succ]
      refine wpAnyH_done (by kernel_rfl) ?_ _
      go_wp2
      go_roundw
      case rel =>
        refine ⟨2, by omega, by simp, ?_, add_below (unhide Hbl) (unhide Ho2) (unhide Hgrow) hb⟩
        rw [grj_succ, hsn, cells_snoc, ← List.append_assoc]
        exact unhide Hown
      case measure => simp [intOf] <;> omega
    · clear hj
      by_cases hq : 8 * s.size ≤ 12
      · have hsn : (if 8 * s.data.toList.length ≤ 2 * kB.bt then (61 : UInt8) else kB.sg (pk s.data.toList / 2 ^ (24 - kB.bt * (2 + 1)) % 2 ^ kB.bt)) = 61 := if_pos (by rw [hlen]; show 8 * s.size ≤ 2 * 6; omega)
        have hfl : 8 * (s.size : Int) ≤ 12 := by omega
        have HM := hide (news wr [.int .u8 61] 5)
        have HF := hide ((unhide Ho2).alloc (.cells #[.int .u8 61] 5))
        go_wp2_with (at_builtin; refine wpList_append_lies _ rfl (.tmp 29) (.tmp 30) 85 rfl base 5 i0 (.int .u8 0) 1 1 Tryz.underlying85 hi0 hz0 hz1 hz2 rfl (by omega) u1 (m + 2) _ rfl (unhide HF) ⟨wr.heap.size, 0, none⟩ 1 1 [.int .u8 61] rfl rfl (unhide HM) (by simp [Value.oneCell']) (by omega) (by unfold maxLen; omega) (by omega) (by have := (unhide Hbl).1.size; simp; omega) (wr.heap.size + 1) (by simp) ?_; intro gg cp w4 hown hgrow hat hglt; replace hown := hide hown; replace hgrow := hide hgrow; clear hat)
        go_roundw
        case rel =>
          refine ⟨3, by omega, by simp, ?_, add_below2 (unhide Hbl) (unhide Ho2) (unhide hgrow) hb⟩
          rw [grj_succ, hsn, cells_snoc, ← List.append_assoc]
          exact unhide hown
        case measure => simp [intOf] <;> omega
      · have hsn : (if 8 * s.data.toList.length ≤ 2 * kB.bt then (61 : UInt8) else kB.sg (pk s.data.toList / 2 ^ (24 - kB.bt * (2 + 1)) % 2 ^ kB.bt)) = kB.sg (X / 64 % 64) := by
          rw [if_neg (by rw [hlen]; show ¬ 8 * s.size ≤ 2 * 6; omega), unhide HX]
          rfl
        have hfl : ¬ (8 * (s.size : Int) ≤ 12) := by omega
        go_wp2_with fail
        have hD : X / 64 < 16777216 := by omega
        rw [show (X : Int) / 64 = ((X / 64 : Nat) : Int) by omega]
        generalize X / 64 = P at *
        have hsg := hide (sign_any kB B (P % 64) wr.drew ((unhide Hc2).below (unhide Hlt) ((Below.refl _ _).drew)) (show P % 64 < 64 by omega) (by omega))
        generalize kB.sg (P % 64) = x at *
        have hS0 : wr.drew.cell? ⟨B, 194, none⟩ = some (.int .i64 6) := hbi
        have hS2 : (wr.drew.alloc (.cells #[.int .u8 (x.toNat : Int)] 5)).cell? ⟨B, 194, none⟩ = some (.int .i64 6) := by
          rw [World.cell?_alloc_lt _ _ _ (by exact unhide Hlt)]
          exact hS0
        have hand : bits .and .i64 (P : Int) 63 = ((P % 64 : Nat) : Int) := and_mask P 6 (by omega) (by decide)
        have HN := hide (news wr.drew [.int .u8 (x.toNat : Int)] 5)
        have HO := hide ((unhide Ho2).drew.alloc (.cells #[.int .u8 (x.toNat : Int)] 5))
        refine wp_region_held (S := fun w' => w'.cell? ⟨B, 194, none⟩ = some (.int .i64 6)) (by kernel_rfl) ?_
        change wpAnyH _ _ _ _ _ 16 #[false, false, false, false, false, false, false, false, false, false, false, false, false, false, false, false] _ wr.drew
        refine wpAnyH_take (i := 0) (v := u1) rfl (by kernel_rfl) (by kernel_rfl) (by kernel_rfl) (fun _ _ _ h => h) (Or.inl ⟨by kernel_rfl, by intro w1 hS1; go_simp; try rfl⟩) hS0 ?_
        simp only [Act.put, List.setIfInBounds_toArray, List.set_cons_zero, List.set_cons_succ, List.getElem_toArray, List.getElem_cons_zero, List.getElem_cons_succ]
        refine wpAnyH_take (i := 1) (v := .pointer (some ⟨B, 0, none⟩)) rfl (by kernel_rfl) (by kernel_rfl) (by kernel_rfl) (fun _ _ _ h => h) (Or.inl ⟨by kernel_rfl, by intro w1 hS1; go_simp; try rfl⟩) hS0 ?_
        simp only [Act.put, List.setIfInBounds_toArray, List.set_cons_zero, List.set_cons_succ, List.getElem_toArray, List.getElem_cons_zero, List.getElem_cons_succ]
        refine wpAnyH_take (i := 2) (v := .pointer (some ⟨B, 0, none⟩)) rfl (by kernel_rfl) (by kernel_rfl) (by kernel_rfl) (fun _ _ _ h => h) (Or.inl ⟨by kernel_rfl, by intro w1 hS1; go_simp; try rfl⟩) hS0 ?_
        simp only [Act.put, List.setIfInBounds_toArray, List.set_cons_zero, List.set_cons_succ, List.getElem_toArray, List.getElem_cons_zero, List.getElem_cons_succ]
        refine wpAnyH_take (i := 3) (v := .pointer (some ⟨B, 0, none⟩)) rfl (by kernel_rfl) (by kernel_rfl) (by kernel_rfl) (fun _ _ _ h => h) (Or.inl ⟨by kernel_rfl, by intro w1 hS1; go_simp; try rfl⟩) hS0 ?_
        simp only [Act.put, List.setIfInBounds_toArray, List.set_cons_zero, List.set_cons_succ, List.getElem_toArray, List.getElem_cons_zero, List.getElem_cons_succ]
        refine wpAnyH_take (i := 4) (v := .int .i64 (P : Int)) rfl (by kernel_rfl) (by kernel_rfl) (by kernel_rfl) (fun _ _ _ h => h) (Or.inl ⟨by kernel_rfl, by intro w1 hS1; go_simp; try rfl⟩) hS0 ?_
        simp only [Act.put, List.setIfInBounds_toArray, List.set_cons_zero, List.set_cons_succ, List.getElem_toArray, List.getElem_cons_zero, List.getElem_cons_succ]
        refine wpAnyH_take (i := 5) (v := .pointer (some ⟨B, 0, none⟩)) rfl (by kernel_rfl) (by kernel_rfl) (by kernel_rfl) (fun _ _ _ h => h) (Or.inl ⟨by kernel_rfl, by intro w1 hS1; go_simp; try rfl⟩) hS0 ?_
        simp only [Act.put, List.setIfInBounds_toArray, List.set_cons_zero, List.set_cons_succ, List.getElem_toArray, List.getElem_cons_zero, List.getElem_cons_succ]
        refine wpAnyH_take (i := 6) (v := .pointer (some ⟨B, 0, none⟩)) rfl (by kernel_rfl) (by kernel_rfl) (by kernel_rfl) (fun _ _ _ h => h) (Or.inl ⟨by kernel_rfl, by intro w1 hS1; go_simp; try rfl⟩) hS0 ?_
        simp only [Act.put, List.setIfInBounds_toArray, List.set_cons_zero, List.set_cons_succ, List.getElem_toArray, List.getElem_cons_zero, List.getElem_cons_succ]
        refine wpAnyH_take (i := 7) (v := .pointer (some ⟨B, 194, none⟩)) rfl (by kernel_rfl) (by kernel_rfl) (by kernel_rfl) (fun _ _ _ h => h) (Or.inl ⟨by kernel_rfl, by intro w1 hS1; go_simp; try rfl⟩) hS0 ?_
        simp only [Act.put, List.setIfInBounds_toArray, List.set_cons_zero, List.set_cons_succ, List.getElem_toArray, List.getElem_cons_zero, List.getElem_cons_succ]
        refine wpAnyH_take (i := 8) (v := .int .i64 6) rfl (by kernel_rfl) (by kernel_rfl) (by kernel_rfl) (fun _ _ _ h => h) (Or.inl ⟨by kernel_rfl, by intro w1 hS1; go_simp; try rfl⟩) hS0 ?_
        simp only [Act.put, List.setIfInBounds_toArray, List.set_cons_zero, List.set_cons_succ, List.getElem_toArray, List.getElem_cons_zero, List.getElem_cons_succ]
        refine wpAnyH_take (i := 9) (v := .int .i64 64) rfl (by kernel_rfl) (by kernel_rfl) (by kernel_rfl) (fun _ _ _ h => h) (Or.inl ⟨by kernel_rfl, by intro w1 hS1; go_simp; try rfl⟩) hS0 ?_
        simp only [Act.put, List.setIfInBounds_toArray, List.set_cons_zero, List.set_cons_succ, List.getElem_toArray, List.getElem_cons_zero, List.getElem_cons_succ]
        refine wpAnyH_take (i := 10) (v := .int .i64 63) rfl (by kernel_rfl) (by kernel_rfl) (by kernel_rfl) (fun _ _ _ h => h) (Or.inl ⟨by kernel_rfl, by intro w1 hS1; go_simp; try rfl⟩) hS0 ?_
        simp only [Act.put, List.setIfInBounds_toArray, List.set_cons_zero, List.set_cons_succ, List.getElem_toArray, List.getElem_cons_zero, List.getElem_cons_succ]
        refine wpAnyH_take (i := 11) (v := .int .i64 ((P % 64 : Nat) : Int)) rfl (by kernel_rfl) (by kernel_rfl) (by kernel_rfl) (fun _ _ _ h => h) (Or.inl ⟨by kernel_rfl, by intro w1 hS1; go_simp; try rfl⟩) hS0 ?_
        simp only [Act.put, List.setIfInBounds_toArray, List.set_cons_zero, List.set_cons_succ, List.getElem_toArray, List.getElem_cons_zero, List.getElem_cons_succ]
        refine wpAnyH_ready (rs := [12]) (by kernel_rfl) (by simp) ?_
        refine AllReadyH.cons rfl (fun K hK => ?_) AllReadyH.nil
        rw [if_pos (by kernel_rfl)]
        go_wp2_with fail
        refine (unhide hsg).mono ?_
        rintro e w' ⟨rfl, rfl⟩
        go_wp2
        refine hK.out _ _ hS0 (fun _ => ?_)
        clear hK K
        simp only [Act.put, List.setIfInBounds_toArray, List.set_cons_zero, List.set_cons_succ, List.getElem_toArray, List.getElem_cons_zero, List.getElem_cons_succ]
        refine wpAnyH_ready (rs := [13]) (by kernel_rfl) (by simp) ?_
        refine AllReadyH.cons rfl (fun K hK => ?_) AllReadyH.nil
        rw [if_pos (by kernel_rfl)]
        go_simp
        refine hK.out _ _ hS2 (fun _ => ?_)
        clear hK K
        simp only [Act.put, List.setIfInBounds_toArray, List.set_cons_zero, List.set_cons_succ, List.getElem_toArray, List.getElem_cons_zero, List.getElem_cons_succ]
        refine wpAnyH_ready (rs := [14]) (by kernel_rfl) (by simp) ?_
        refine AllReadyH.cons rfl (fun K hK => ?_) AllReadyH.nil
        rw [if_pos (by kernel_rfl)]
        refine wp_append_lies _ (.tmp 42) (.tmp 55) 85 rfl base 5 i0 (.int .u8 0) 1 1 Tryz.underlying85 hi0 hz0 hz1 hz2 rfl (by omega) u1 (m + 2) _ rfl (unhide HO) ⟨wr.heap.size, 0, none⟩ 1 1 [.int .u8 (x.toNat : Int)] rfl rfl (unhide HN) (by simp [Value.oneCell']) (by omega) (by unfold maxLen; omega) (by omega) (by have := (unhide Hbl).1.size; show base ≤ (wr.drew.alloc _).heap.size; simp; omega) (wr.heap.size + 1) (by simp) ?_
        intro gg cp w4 hown hgrow hat hglt
        have hS4 : w4.cell? ⟨B, 194, none⟩ = some (.int .i64 6) := (grown_keeps (unhide Ho2) hgrow hBb (unhide Hlt)).trans hS2
        refine hK.out _ _ hS4 (fun _ => ?_)
        clear hK K
        have Hown := hide hown
        have Hgrow := hide hgrow
        clear hown hgrow hat
        simp only [Act.put, List.setIfInBounds_toArray, List.set_cons_zero, List.set_cons_succ, List.getElem_toArray, List.getElem_cons_zero, List.getElem_cons_succ]
        refine wpAnyH_take (i := 15) (v := .slice (some ⟨gg, 0, none⟩) (m + 2 + 1) cp) rfl (by kernel_rfl) (by kernel_rfl) (by kernel_rfl) (fun _ _ _ h => h) (Or.inl ⟨by kernel_rfl, by intro w1 hS1; go_simp; try rfl⟩) hS4 ?_
        simp only [Act.put, List.setIfInBounds_toArray, List.set_cons_zero, List.set_cons_succ, List.getElem_toArray, List.getElem_cons_zero, List.getElem_cons_succ]
        refine wpAnyH_done (by kernel_rfl) ?_ _
        go_wp2
        go_roundw
        case rel =>
          refine ⟨3, by omega, by simp, ?_, add_below (unhide Hbl) (unhide Ho2) (unhide Hgrow) hb⟩
          rw [grj_succ, hsn, cells_snoc, ← List.append_assoc]
          exact unhide Hown
        case measure => simp [intOf] <;> omega
    · clear hj
      by_cases hq : 8 * s.size ≤ 18
      · have hsn : (if 8 * s.data.toList.length ≤ 3 * kB.bt then (61 : UInt8) else kB.sg (pk s.data.toList / 2 ^ (24 - kB.bt * (3 + 1)) % 2 ^ kB.bt)) = 61 := if_pos (by rw [hlen]; show 8 * s.size ≤ 3 * 6; omega)
        have hfl : 8 * (s.size : Int) ≤ 18 := by omega
        have HM := hide (news wr [.int .u8 61] 5)
        have HF := hide ((unhide Ho2).alloc (.cells #[.int .u8 61] 5))
        go_wp2_with (at_builtin; refine wpList_append_lies _ rfl (.tmp 29) (.tmp 30) 85 rfl base 5 i0 (.int .u8 0) 1 1 Tryz.underlying85 hi0 hz0 hz1 hz2 rfl (by omega) u1 (m + 3) _ rfl (unhide HF) ⟨wr.heap.size, 0, none⟩ 1 1 [.int .u8 61] rfl rfl (unhide HM) (by simp [Value.oneCell']) (by omega) (by unfold maxLen; omega) (by omega) (by have := (unhide Hbl).1.size; simp; omega) (wr.heap.size + 1) (by simp) ?_; intro gg cp w4 hown hgrow hat hglt; replace hown := hide hown; replace hgrow := hide hgrow; clear hat)
        go_roundw
        case rel =>
          refine ⟨4, by omega, by simp, ?_, add_below2 (unhide Hbl) (unhide Ho2) (unhide hgrow) hb⟩
          rw [grj_succ, hsn, cells_snoc, ← List.append_assoc]
          exact unhide hown
        case measure => simp [intOf] <;> omega
      · have hsn : (if 8 * s.data.toList.length ≤ 3 * kB.bt then (61 : UInt8) else kB.sg (pk s.data.toList / 2 ^ (24 - kB.bt * (3 + 1)) % 2 ^ kB.bt)) = kB.sg (X % 64) := by
          rw [if_neg (by rw [hlen]; show ¬ 8 * s.size ≤ 3 * 6; omega), unhide HX]
          show kB.sg (X / 1 % 64) = _; rw [Nat.div_one]
        have hfl : ¬ (8 * (s.size : Int) ≤ 18) := by omega
        go_wp2_with fail
        have hsg := hide (sign_any kB B (X % 64) wr.drew ((unhide Hc2).below (unhide Hlt) ((Below.refl _ _).drew)) (show X % 64 < 64 by omega) (by omega))
        generalize kB.sg (X % 64) = x at *
        have hS0 : wr.drew.cell? ⟨B, 194, none⟩ = some (.int .i64 6) := hbi
        have hS2 : (wr.drew.alloc (.cells #[.int .u8 (x.toNat : Int)] 5)).cell? ⟨B, 194, none⟩ = some (.int .i64 6) := by
          rw [World.cell?_alloc_lt _ _ _ (by exact unhide Hlt)]
          exact hS0
        have hand : bits .and .i64 (X : Int) 63 = ((X % 64 : Nat) : Int) := and_mask X 6 (by omega) (by decide)
        have HN := hide (news wr.drew [.int .u8 (x.toNat : Int)] 5)
        have HO := hide ((unhide Ho2).drew.alloc (.cells #[.int .u8 (x.toNat : Int)] 5))
        refine wp_region_held (S := fun w' => w'.cell? ⟨B, 194, none⟩ = some (.int .i64 6)) (by kernel_rfl) ?_
        change wpAnyH _ _ _ _ _ 16 #[false, false, false, false, false, false, false, false, false, false, false, false, false, false, false, false] _ wr.drew
        refine wpAnyH_take (i := 0) (v := u1) rfl (by kernel_rfl) (by kernel_rfl) (by kernel_rfl) (fun _ _ _ h => h) (Or.inl ⟨by kernel_rfl, by intro w1 hS1; go_simp; try rfl⟩) hS0 ?_
        simp only [Act.put, List.setIfInBounds_toArray, List.set_cons_zero, List.set_cons_succ, List.getElem_toArray, List.getElem_cons_zero, List.getElem_cons_succ]
        refine wpAnyH_take (i := 1) (v := .pointer (some ⟨B, 0, none⟩)) rfl (by kernel_rfl) (by kernel_rfl) (by kernel_rfl) (fun _ _ _ h => h) (Or.inl ⟨by kernel_rfl, by intro w1 hS1; go_simp; try rfl⟩) hS0 ?_
        simp only [Act.put, List.setIfInBounds_toArray, List.set_cons_zero, List.set_cons_succ, List.getElem_toArray, List.getElem_cons_zero, List.getElem_cons_succ]
        refine wpAnyH_take (i := 2) (v := .pointer (some ⟨B, 0, none⟩)) rfl (by kernel_rfl) (by kernel_rfl) (by kernel_rfl) (fun _ _ _ h => h) (Or.inl ⟨by kernel_rfl, by intro w1 hS1; go_simp; try rfl⟩) hS0 ?_
        simp only [Act.put, List.setIfInBounds_toArray, List.set_cons_zero, List.set_cons_succ, List.getElem_toArray, List.getElem_cons_zero, List.getElem_cons_succ]
        refine wpAnyH_take (i := 3) (v := .pointer (some ⟨B, 0, none⟩)) rfl (by kernel_rfl) (by kernel_rfl) (by kernel_rfl) (fun _ _ _ h => h) (Or.inl ⟨by kernel_rfl, by intro w1 hS1; go_simp; try rfl⟩) hS0 ?_
        simp only [Act.put, List.setIfInBounds_toArray, List.set_cons_zero, List.set_cons_succ, List.getElem_toArray, List.getElem_cons_zero, List.getElem_cons_succ]
        refine wpAnyH_take (i := 4) (v := .int .i64 (X : Int)) rfl (by kernel_rfl) (by kernel_rfl) (by kernel_rfl) (fun _ _ _ h => h) (Or.inl ⟨by kernel_rfl, by intro w1 hS1; go_simp; try rfl⟩) hS0 ?_
        simp only [Act.put, List.setIfInBounds_toArray, List.set_cons_zero, List.set_cons_succ, List.getElem_toArray, List.getElem_cons_zero, List.getElem_cons_succ]
        refine wpAnyH_take (i := 5) (v := .pointer (some ⟨B, 0, none⟩)) rfl (by kernel_rfl) (by kernel_rfl) (by kernel_rfl) (fun _ _ _ h => h) (Or.inl ⟨by kernel_rfl, by intro w1 hS1; go_simp; try rfl⟩) hS0 ?_
        simp only [Act.put, List.setIfInBounds_toArray, List.set_cons_zero, List.set_cons_succ, List.getElem_toArray, List.getElem_cons_zero, List.getElem_cons_succ]
        refine wpAnyH_take (i := 6) (v := .pointer (some ⟨B, 0, none⟩)) rfl (by kernel_rfl) (by kernel_rfl) (by kernel_rfl) (fun _ _ _ h => h) (Or.inl ⟨by kernel_rfl, by intro w1 hS1; go_simp; try rfl⟩) hS0 ?_
        simp only [Act.put, List.setIfInBounds_toArray, List.set_cons_zero, List.set_cons_succ, List.getElem_toArray, List.getElem_cons_zero, List.getElem_cons_succ]
        refine wpAnyH_take (i := 7) (v := .pointer (some ⟨B, 194, none⟩)) rfl (by kernel_rfl) (by kernel_rfl) (by kernel_rfl) (fun _ _ _ h => h) (Or.inl ⟨by kernel_rfl, by intro w1 hS1; go_simp; try rfl⟩) hS0 ?_
        simp only [Act.put, List.setIfInBounds_toArray, List.set_cons_zero, List.set_cons_succ, List.getElem_toArray, List.getElem_cons_zero, List.getElem_cons_succ]
        refine wpAnyH_take (i := 8) (v := .int .i64 6) rfl (by kernel_rfl) (by kernel_rfl) (by kernel_rfl) (fun _ _ _ h => h) (Or.inl ⟨by kernel_rfl, by intro w1 hS1; go_simp; try rfl⟩) hS0 ?_
        simp only [Act.put, List.setIfInBounds_toArray, List.set_cons_zero, List.set_cons_succ, List.getElem_toArray, List.getElem_cons_zero, List.getElem_cons_succ]
        refine wpAnyH_take (i := 9) (v := .int .i64 64) rfl (by kernel_rfl) (by kernel_rfl) (by kernel_rfl) (fun _ _ _ h => h) (Or.inl ⟨by kernel_rfl, by intro w1 hS1; go_simp; try rfl⟩) hS0 ?_
        simp only [Act.put, List.setIfInBounds_toArray, List.set_cons_zero, List.set_cons_succ, List.getElem_toArray, List.getElem_cons_zero, List.getElem_cons_succ]
        refine wpAnyH_take (i := 10) (v := .int .i64 63) rfl (by kernel_rfl) (by kernel_rfl) (by kernel_rfl) (fun _ _ _ h => h) (Or.inl ⟨by kernel_rfl, by intro w1 hS1; go_simp; try rfl⟩) hS0 ?_
        simp only [Act.put, List.setIfInBounds_toArray, List.set_cons_zero, List.set_cons_succ, List.getElem_toArray, List.getElem_cons_zero, List.getElem_cons_succ]
        refine wpAnyH_take (i := 11) (v := .int .i64 ((X % 64 : Nat) : Int)) rfl (by kernel_rfl) (by kernel_rfl) (by kernel_rfl) (fun _ _ _ h => h) (Or.inl ⟨by kernel_rfl, by intro w1 hS1; go_simp; try rfl⟩) hS0 ?_
        simp only [Act.put, List.setIfInBounds_toArray, List.set_cons_zero, List.set_cons_succ, List.getElem_toArray, List.getElem_cons_zero, List.getElem_cons_succ]
        refine wpAnyH_ready (rs := [12]) (by kernel_rfl) (by simp) ?_
        refine AllReadyH.cons rfl (fun K hK => ?_) AllReadyH.nil
        rw [if_pos (by kernel_rfl)]
        go_wp2_with fail
        refine (unhide hsg).mono ?_
        rintro e w' ⟨rfl, rfl⟩
        go_wp2
        refine hK.out _ _ hS0 (fun _ => ?_)
        clear hK K
        simp only [Act.put, List.setIfInBounds_toArray, List.set_cons_zero, List.set_cons_succ, List.getElem_toArray, List.getElem_cons_zero, List.getElem_cons_succ]
        refine wpAnyH_ready (rs := [13]) (by kernel_rfl) (by simp) ?_
        refine AllReadyH.cons rfl (fun K hK => ?_) AllReadyH.nil
        rw [if_pos (by kernel_rfl)]
        go_simp
        refine hK.out _ _ hS2 (fun _ => ?_)
        clear hK K
        simp only [Act.put, List.setIfInBounds_toArray, List.set_cons_zero, List.set_cons_succ, List.getElem_toArray, List.getElem_cons_zero, List.getElem_cons_succ]
        refine wpAnyH_ready (rs := [14]) (by kernel_rfl) (by simp) ?_
        refine AllReadyH.cons rfl (fun K hK => ?_) AllReadyH.nil
        rw [if_pos (by kernel_rfl)]
        refine wp_append_lies _ (.tmp 42) (.tmp 55) 85 rfl base 5 i0 (.int .u8 0) 1 1 Tryz.underlying85 hi0 hz0 hz1 hz2 rfl (by omega) u1 (m + 3) _ rfl (unhide HO) ⟨wr.heap.size, 0, none⟩ 1 1 [.int .u8 (x.toNat : Int)] rfl rfl (unhide HN) (by simp [Value.oneCell']) (by omega) (by unfold maxLen; omega) (by omega) (by have := (unhide Hbl).1.size; show base ≤ (wr.drew.alloc _).heap.size; simp; omega) (wr.heap.size + 1) (by simp) ?_
        intro gg cp w4 hown hgrow hat hglt
        have hS4 : w4.cell? ⟨B, 194, none⟩ = some (.int .i64 6) := (grown_keeps (unhide Ho2) hgrow hBb (unhide Hlt)).trans hS2
        refine hK.out _ _ hS4 (fun _ => ?_)
        clear hK K
        have Hown := hide hown
        have Hgrow := hide hgrow
        clear hown hgrow hat
        simp only [Act.put, List.setIfInBounds_toArray, List.set_cons_zero, List.set_cons_succ, List.getElem_toArray, List.getElem_cons_zero, List.getElem_cons_succ]
        refine wpAnyH_take (i := 15) (v := .slice (some ⟨gg, 0, none⟩) (m + 3 + 1) cp) rfl (by kernel_rfl) (by kernel_rfl) (by kernel_rfl) (fun _ _ _ h => h) (Or.inl ⟨by kernel_rfl, by intro w1 hS1; go_simp; try rfl⟩) hS4 ?_
        simp only [Act.put, List.setIfInBounds_toArray, List.set_cons_zero, List.set_cons_succ, List.getElem_toArray, List.getElem_cons_zero, List.getElem_cons_succ]
        refine wpAnyH_done (by kernel_rfl) ?_ _
        go_wp2
        go_roundw
        case rel =>
          refine ⟨4, by omega, by simp, ?_, add_below (unhide Hbl) (unhide Ho2) (unhide Hgrow) hb⟩
          rw [grj_succ, hsn, cells_snoc, ← List.append_assoc]
          exact unhide Hown
        case measure => simp [intOf] <;> omega
    · clear hbi
      go_wp2
      go_ret
      exact ⟨_, rfl, unhide Ho2, unhide Hbl⟩
set_option linter.unusedSimpArgs false in
set_option maxRecDepth 100000 in
set_option maxHeartbeats 8000000 in
theorem addH (B : Nat) (s : ByteArray) (w : World) (base : Nat) (v : Value) (m : Nat) (xs : List Value) (h1 : 1 ≤ s.size) (h3 : s.size ≤ 1) (hc : Cod kH w B) (hBb : B < base) (ho : w.ownsRow base 5 1 v m xs) (hm : m ≤ 100000) (hb : base ≤ w.heap.size) :
    Calls Tryz.prog 67 #[.pointer (some ⟨B, 0, none⟩), v, .string s] w (AddPost kH s.data.toList base m xs w) := by
  have hw : w.cell? ⟨B, 193, none⟩ = some (.int .i64 2) := hc.wi
  have hpk := pack_any s w h1 (by omega)
  have hlen : s.data.toList.length = s.size := by simp
  have hpl : pk s.data.toList < 16777216 := pk_lt _
  obtain ⟨i0, hi0, hz0, hz1, hz2⟩ := infoB
  generalize hX : pk s.data.toList = X at *
  go_enter Tryz.func67, Tryz.ntmps67
  go_wp2_with fail
  refine hpk.mono ?_
  rintro e w1 ⟨rfl, rfl⟩
  clear hpk
  go_wp2
  go_loopw [1, 16] (fun sl ix wr => ∃ j : Nat, j ≤ 2 ∧ ix = .int .i64 (j : Int) ∧ wr.ownsRow base 5 1 sl (m + j) (xs ++ cells (grj kH s.data.toList j)) ∧ Bel base w1 wr)
    (fun _ ix _ => 2 - (intOf ix).toNat)
  case atStart =>
    exact ⟨0, Nat.zero_le _, rfl, by simpa [grj, cells] using ho, bel_refl _ _⟩
  case round =>
    obtain ⟨j, hj, rfl, ho2, hbl⟩ := hrel
    have hc2 := hc.below hBb hbl.1
    have hbi : wr.cell? ⟨B, 194, none⟩ = some (.int .i64 4) := hc2.bi
    have Hlt := hide hc2.lt
    have Hc2 := hide hc2
    have Ho2 := hide ho2
    have Ho := hide ho
    have Hbl := hide hbl
    have HX := hide hX
    clear hc2 hc ho2 ho hbl hw hX
    obtain rfl | rfl | rfl : j = 0 ∨ j = 1 ∨ j = 2 := by omega
    · clear hj
      have hsn : (if 8 * s.data.toList.length ≤ 0 * kH.bt then (61 : UInt8) else kH.sg (pk s.data.toList / 2 ^ (24 - kH.bt * (0 + 1)) % 2 ^ kH.bt)) = kH.sg (X / 1048576 % 16) := by
        rw [if_neg (by rw [hlen]; show ¬ 8 * s.size ≤ 0 * 4; omega), unhide HX]
        rfl
      have hfl : ¬ (8 * (s.size : Int) ≤ 0) := by omega
      go_wp2_with fail
      have hD : X / 1048576 < 16777216 := by omega
      rw [show (X : Int) / 1048576 = ((X / 1048576 : Nat) : Int) by omega]
      generalize X / 1048576 = P at *
      have hsg := hide (sign_any kH B (P % 16) wr.drew ((unhide Hc2).below (unhide Hlt) ((Below.refl _ _).drew)) (show P % 16 < 16 by omega) (by omega))
      generalize kH.sg (P % 16) = x at *
      have hS0 : wr.drew.cell? ⟨B, 194, none⟩ = some (.int .i64 4) := hbi
      have hS2 : (wr.drew.alloc (.cells #[.int .u8 (x.toNat : Int)] 5)).cell? ⟨B, 194, none⟩ = some (.int .i64 4) := by
        rw [World.cell?_alloc_lt _ _ _ (by exact unhide Hlt)]
        exact hS0
      have hand : bits .and .i64 (P : Int) 15 = ((P % 16 : Nat) : Int) := and_mask P 4 (by omega) (by decide)
      have HN := hide (news wr.drew [.int .u8 (x.toNat : Int)] 5)
      have HO := hide ((unhide Ho2).drew.alloc (.cells #[.int .u8 (x.toNat : Int)] 5))
      refine wp_region_held (S := fun w' => w'.cell? ⟨B, 194, none⟩ = some (.int .i64 4)) (by kernel_rfl) ?_
      change wpAnyH _ _ _ _ _ 16 #[false, false, false, false, false, false, false, false, false, false, false, false, false, false, false, false] _ wr.drew
      refine wpAnyH_take (i := 0) (v := u1) rfl (by kernel_rfl) (by kernel_rfl) (by kernel_rfl) (fun _ _ _ h => h) (Or.inl ⟨by kernel_rfl, by intro w1 hS1; go_simp; try rfl⟩) hS0 ?_
      simp only [Act.put, List.setIfInBounds_toArray, List.set_cons_zero, List.set_cons_succ, List.getElem_toArray, List.getElem_cons_zero, List.getElem_cons_succ]
      refine wpAnyH_take (i := 1) (v := .pointer (some ⟨B, 0, none⟩)) rfl (by kernel_rfl) (by kernel_rfl) (by kernel_rfl) (fun _ _ _ h => h) (Or.inl ⟨by kernel_rfl, by intro w1 hS1; go_simp; try rfl⟩) hS0 ?_
      simp only [Act.put, List.setIfInBounds_toArray, List.set_cons_zero, List.set_cons_succ, List.getElem_toArray, List.getElem_cons_zero, List.getElem_cons_succ]
      refine wpAnyH_take (i := 2) (v := .pointer (some ⟨B, 0, none⟩)) rfl (by kernel_rfl) (by kernel_rfl) (by kernel_rfl) (fun _ _ _ h => h) (Or.inl ⟨by kernel_rfl, by intro w1 hS1; go_simp; try rfl⟩) hS0 ?_
      simp only [Act.put, List.setIfInBounds_toArray, List.set_cons_zero, List.set_cons_succ, List.getElem_toArray, List.getElem_cons_zero, List.getElem_cons_succ]
      refine wpAnyH_take (i := 3) (v := .pointer (some ⟨B, 0, none⟩)) rfl (by kernel_rfl) (by kernel_rfl) (by kernel_rfl) (fun _ _ _ h => h) (Or.inl ⟨by kernel_rfl, by intro w1 hS1; go_simp; try rfl⟩) hS0 ?_
      simp only [Act.put, List.setIfInBounds_toArray, List.set_cons_zero, List.set_cons_succ, List.getElem_toArray, List.getElem_cons_zero, List.getElem_cons_succ]
      refine wpAnyH_take (i := 4) (v := .int .i64 (P : Int)) rfl (by kernel_rfl) (by kernel_rfl) (by kernel_rfl) (fun _ _ _ h => h) (Or.inl ⟨by kernel_rfl, by intro w1 hS1; go_simp; try rfl⟩) hS0 ?_
      simp only [Act.put, List.setIfInBounds_toArray, List.set_cons_zero, List.set_cons_succ, List.getElem_toArray, List.getElem_cons_zero, List.getElem_cons_succ]
      refine wpAnyH_take (i := 5) (v := .pointer (some ⟨B, 0, none⟩)) rfl (by kernel_rfl) (by kernel_rfl) (by kernel_rfl) (fun _ _ _ h => h) (Or.inl ⟨by kernel_rfl, by intro w1 hS1; go_simp; try rfl⟩) hS0 ?_
      simp only [Act.put, List.setIfInBounds_toArray, List.set_cons_zero, List.set_cons_succ, List.getElem_toArray, List.getElem_cons_zero, List.getElem_cons_succ]
      refine wpAnyH_take (i := 6) (v := .pointer (some ⟨B, 0, none⟩)) rfl (by kernel_rfl) (by kernel_rfl) (by kernel_rfl) (fun _ _ _ h => h) (Or.inl ⟨by kernel_rfl, by intro w1 hS1; go_simp; try rfl⟩) hS0 ?_
      simp only [Act.put, List.setIfInBounds_toArray, List.set_cons_zero, List.set_cons_succ, List.getElem_toArray, List.getElem_cons_zero, List.getElem_cons_succ]
      refine wpAnyH_take (i := 7) (v := .pointer (some ⟨B, 194, none⟩)) rfl (by kernel_rfl) (by kernel_rfl) (by kernel_rfl) (fun _ _ _ h => h) (Or.inl ⟨by kernel_rfl, by intro w1 hS1; go_simp; try rfl⟩) hS0 ?_
      simp only [Act.put, List.setIfInBounds_toArray, List.set_cons_zero, List.set_cons_succ, List.getElem_toArray, List.getElem_cons_zero, List.getElem_cons_succ]
      refine wpAnyH_take (i := 8) (v := .int .i64 4) rfl (by kernel_rfl) (by kernel_rfl) (by kernel_rfl) (fun _ _ _ h => h) (Or.inl ⟨by kernel_rfl, by intro w1 hS1; go_simp; try rfl⟩) hS0 ?_
      simp only [Act.put, List.setIfInBounds_toArray, List.set_cons_zero, List.set_cons_succ, List.getElem_toArray, List.getElem_cons_zero, List.getElem_cons_succ]
      refine wpAnyH_take (i := 9) (v := .int .i64 16) rfl (by kernel_rfl) (by kernel_rfl) (by kernel_rfl) (fun _ _ _ h => h) (Or.inl ⟨by kernel_rfl, by intro w1 hS1; go_simp; try rfl⟩) hS0 ?_
      simp only [Act.put, List.setIfInBounds_toArray, List.set_cons_zero, List.set_cons_succ, List.getElem_toArray, List.getElem_cons_zero, List.getElem_cons_succ]
      refine wpAnyH_take (i := 10) (v := .int .i64 15) rfl (by kernel_rfl) (by kernel_rfl) (by kernel_rfl) (fun _ _ _ h => h) (Or.inl ⟨by kernel_rfl, by intro w1 hS1; go_simp; try rfl⟩) hS0 ?_
      simp only [Act.put, List.setIfInBounds_toArray, List.set_cons_zero, List.set_cons_succ, List.getElem_toArray, List.getElem_cons_zero, List.getElem_cons_succ]
      refine wpAnyH_take (i := 11) (v := .int .i64 ((P % 16 : Nat) : Int)) rfl (by kernel_rfl) (by kernel_rfl) (by kernel_rfl) (fun _ _ _ h => h) (Or.inl ⟨by kernel_rfl, by intro w1 hS1; go_simp; try rfl⟩) hS0 ?_
      simp only [Act.put, List.setIfInBounds_toArray, List.set_cons_zero, List.set_cons_succ, List.getElem_toArray, List.getElem_cons_zero, List.getElem_cons_succ]
      refine wpAnyH_ready (rs := [12]) (by kernel_rfl) (by simp) ?_
      refine AllReadyH.cons rfl (fun K hK => ?_) AllReadyH.nil
      rw [if_pos (by kernel_rfl)]
      go_wp2_with fail
      refine (unhide hsg).mono ?_
      rintro e w' ⟨rfl, rfl⟩
      go_wp2
      refine hK.out _ _ hS0 (fun _ => ?_)
      clear hK K
      simp only [Act.put, List.setIfInBounds_toArray, List.set_cons_zero, List.set_cons_succ, List.getElem_toArray, List.getElem_cons_zero, List.getElem_cons_succ]
      refine wpAnyH_ready (rs := [13]) (by kernel_rfl) (by simp) ?_
      refine AllReadyH.cons rfl (fun K hK => ?_) AllReadyH.nil
      rw [if_pos (by kernel_rfl)]
      go_simp
      refine hK.out _ _ hS2 (fun _ => ?_)
      clear hK K
      simp only [Act.put, List.setIfInBounds_toArray, List.set_cons_zero, List.set_cons_succ, List.getElem_toArray, List.getElem_cons_zero, List.getElem_cons_succ]
      refine wpAnyH_ready (rs := [14]) (by kernel_rfl) (by simp) ?_
      refine AllReadyH.cons rfl (fun K hK => ?_) AllReadyH.nil
      rw [if_pos (by kernel_rfl)]
      refine wp_append_lies _ (.tmp 42) (.tmp 55) 85 rfl base 5 i0 (.int .u8 0) 1 1 Tryz.underlying85 hi0 hz0 hz1 hz2 rfl (by omega) u1 (m + 0) _ rfl (unhide HO) ⟨wr.heap.size, 0, none⟩ 1 1 [.int .u8 (x.toNat : Int)] rfl rfl (unhide HN) (by simp [Value.oneCell']) (by omega) (by unfold maxLen; omega) (by omega) (by have := (unhide Hbl).1.size; show base ≤ (wr.drew.alloc _).heap.size; simp; omega) (wr.heap.size + 1) (by simp) ?_
      intro gg cp w4 hown hgrow hat hglt
      have hS4 : w4.cell? ⟨B, 194, none⟩ = some (.int .i64 4) := (grown_keeps (unhide Ho2) hgrow hBb (unhide Hlt)).trans hS2
      refine hK.out _ _ hS4 (fun _ => ?_)
      clear hK K
      have Hown := hide hown
      have Hgrow := hide hgrow
      clear hown hgrow hat
      simp only [Act.put, List.setIfInBounds_toArray, List.set_cons_zero, List.set_cons_succ, List.getElem_toArray, List.getElem_cons_zero, List.getElem_cons_succ]
      refine wpAnyH_take (i := 15) (v := .slice (some ⟨gg, 0, none⟩) (m + 0 + 1) cp) rfl (by kernel_rfl) (by kernel_rfl) (by kernel_rfl) (fun _ _ _ h => h) (Or.inl ⟨by kernel_rfl, by intro w1 hS1; go_simp; try rfl⟩) hS4 ?_
      simp only [Act.put, List.setIfInBounds_toArray, List.set_cons_zero, List.set_cons_succ, List.getElem_toArray, List.getElem_cons_zero, List.getElem_cons_succ]
      refine wpAnyH_done (by kernel_rfl) ?_ _
      go_wp2
      go_roundw
      case rel =>
        refine ⟨1, by omega, by simp, ?_, add_below (unhide Hbl) (unhide Ho2) (unhide Hgrow) hb⟩
        rw [grj_succ, hsn, cells_snoc, ← List.append_assoc]
        exact unhide Hown
      case measure => simp [intOf] <;> omega
    · clear hj
      have hsn : (if 8 * s.data.toList.length ≤ 1 * kH.bt then (61 : UInt8) else kH.sg (pk s.data.toList / 2 ^ (24 - kH.bt * (1 + 1)) % 2 ^ kH.bt)) = kH.sg (X / 65536 % 16) := by
        rw [if_neg (by rw [hlen]; show ¬ 8 * s.size ≤ 1 * 4; omega), unhide HX]
        rfl
      have hfl : ¬ (8 * (s.size : Int) ≤ 4) := by omega
      go_wp2_with fail
      have hD : X / 65536 < 16777216 := by omega
      rw [show (X : Int) / 65536 = ((X / 65536 : Nat) : Int) by omega]
      generalize X / 65536 = P at *
      have hsg := hide (sign_any kH B (P % 16) wr.drew ((unhide Hc2).below (unhide Hlt) ((Below.refl _ _).drew)) (show P % 16 < 16 by omega) (by omega))
      generalize kH.sg (P % 16) = x at *
      have hS0 : wr.drew.cell? ⟨B, 194, none⟩ = some (.int .i64 4) := hbi
      have hS2 : (wr.drew.alloc (.cells #[.int .u8 (x.toNat : Int)] 5)).cell? ⟨B, 194, none⟩ = some (.int .i64 4) := by
        rw [World.cell?_alloc_lt _ _ _ (by exact unhide Hlt)]
        exact hS0
      have hand : bits .and .i64 (P : Int) 15 = ((P % 16 : Nat) : Int) := and_mask P 4 (by omega) (by decide)
      have HN := hide (news wr.drew [.int .u8 (x.toNat : Int)] 5)
      have HO := hide ((unhide Ho2).drew.alloc (.cells #[.int .u8 (x.toNat : Int)] 5))
      refine wp_region_held (S := fun w' => w'.cell? ⟨B, 194, none⟩ = some (.int .i64 4)) (by kernel_rfl) ?_
      change wpAnyH _ _ _ _ _ 16 #[false, false, false, false, false, false, false, false, false, false, false, false, false, false, false, false] _ wr.drew
      refine wpAnyH_take (i := 0) (v := u1) rfl (by kernel_rfl) (by kernel_rfl) (by kernel_rfl) (fun _ _ _ h => h) (Or.inl ⟨by kernel_rfl, by intro w1 hS1; go_simp; try rfl⟩) hS0 ?_
      simp only [Act.put, List.setIfInBounds_toArray, List.set_cons_zero, List.set_cons_succ, List.getElem_toArray, List.getElem_cons_zero, List.getElem_cons_succ]
      refine wpAnyH_take (i := 1) (v := .pointer (some ⟨B, 0, none⟩)) rfl (by kernel_rfl) (by kernel_rfl) (by kernel_rfl) (fun _ _ _ h => h) (Or.inl ⟨by kernel_rfl, by intro w1 hS1; go_simp; try rfl⟩) hS0 ?_
      simp only [Act.put, List.setIfInBounds_toArray, List.set_cons_zero, List.set_cons_succ, List.getElem_toArray, List.getElem_cons_zero, List.getElem_cons_succ]
      refine wpAnyH_take (i := 2) (v := .pointer (some ⟨B, 0, none⟩)) rfl (by kernel_rfl) (by kernel_rfl) (by kernel_rfl) (fun _ _ _ h => h) (Or.inl ⟨by kernel_rfl, by intro w1 hS1; go_simp; try rfl⟩) hS0 ?_
      simp only [Act.put, List.setIfInBounds_toArray, List.set_cons_zero, List.set_cons_succ, List.getElem_toArray, List.getElem_cons_zero, List.getElem_cons_succ]
      refine wpAnyH_take (i := 3) (v := .pointer (some ⟨B, 0, none⟩)) rfl (by kernel_rfl) (by kernel_rfl) (by kernel_rfl) (fun _ _ _ h => h) (Or.inl ⟨by kernel_rfl, by intro w1 hS1; go_simp; try rfl⟩) hS0 ?_
      simp only [Act.put, List.setIfInBounds_toArray, List.set_cons_zero, List.set_cons_succ, List.getElem_toArray, List.getElem_cons_zero, List.getElem_cons_succ]
      refine wpAnyH_take (i := 4) (v := .int .i64 (P : Int)) rfl (by kernel_rfl) (by kernel_rfl) (by kernel_rfl) (fun _ _ _ h => h) (Or.inl ⟨by kernel_rfl, by intro w1 hS1; go_simp; try rfl⟩) hS0 ?_
      simp only [Act.put, List.setIfInBounds_toArray, List.set_cons_zero, List.set_cons_succ, List.getElem_toArray, List.getElem_cons_zero, List.getElem_cons_succ]
      refine wpAnyH_take (i := 5) (v := .pointer (some ⟨B, 0, none⟩)) rfl (by kernel_rfl) (by kernel_rfl) (by kernel_rfl) (fun _ _ _ h => h) (Or.inl ⟨by kernel_rfl, by intro w1 hS1; go_simp; try rfl⟩) hS0 ?_
      simp only [Act.put, List.setIfInBounds_toArray, List.set_cons_zero, List.set_cons_succ, List.getElem_toArray, List.getElem_cons_zero, List.getElem_cons_succ]
      refine wpAnyH_take (i := 6) (v := .pointer (some ⟨B, 0, none⟩)) rfl (by kernel_rfl) (by kernel_rfl) (by kernel_rfl) (fun _ _ _ h => h) (Or.inl ⟨by kernel_rfl, by intro w1 hS1; go_simp; try rfl⟩) hS0 ?_
      simp only [Act.put, List.setIfInBounds_toArray, List.set_cons_zero, List.set_cons_succ, List.getElem_toArray, List.getElem_cons_zero, List.getElem_cons_succ]
      refine wpAnyH_take (i := 7) (v := .pointer (some ⟨B, 194, none⟩)) rfl (by kernel_rfl) (by kernel_rfl) (by kernel_rfl) (fun _ _ _ h => h) (Or.inl ⟨by kernel_rfl, by intro w1 hS1; go_simp; try rfl⟩) hS0 ?_
      simp only [Act.put, List.setIfInBounds_toArray, List.set_cons_zero, List.set_cons_succ, List.getElem_toArray, List.getElem_cons_zero, List.getElem_cons_succ]
      refine wpAnyH_take (i := 8) (v := .int .i64 4) rfl (by kernel_rfl) (by kernel_rfl) (by kernel_rfl) (fun _ _ _ h => h) (Or.inl ⟨by kernel_rfl, by intro w1 hS1; go_simp; try rfl⟩) hS0 ?_
      simp only [Act.put, List.setIfInBounds_toArray, List.set_cons_zero, List.set_cons_succ, List.getElem_toArray, List.getElem_cons_zero, List.getElem_cons_succ]
      refine wpAnyH_take (i := 9) (v := .int .i64 16) rfl (by kernel_rfl) (by kernel_rfl) (by kernel_rfl) (fun _ _ _ h => h) (Or.inl ⟨by kernel_rfl, by intro w1 hS1; go_simp; try rfl⟩) hS0 ?_
      simp only [Act.put, List.setIfInBounds_toArray, List.set_cons_zero, List.set_cons_succ, List.getElem_toArray, List.getElem_cons_zero, List.getElem_cons_succ]
      refine wpAnyH_take (i := 10) (v := .int .i64 15) rfl (by kernel_rfl) (by kernel_rfl) (by kernel_rfl) (fun _ _ _ h => h) (Or.inl ⟨by kernel_rfl, by intro w1 hS1; go_simp; try rfl⟩) hS0 ?_
      simp only [Act.put, List.setIfInBounds_toArray, List.set_cons_zero, List.set_cons_succ, List.getElem_toArray, List.getElem_cons_zero, List.getElem_cons_succ]
      refine wpAnyH_take (i := 11) (v := .int .i64 ((P % 16 : Nat) : Int)) rfl (by kernel_rfl) (by kernel_rfl) (by kernel_rfl) (fun _ _ _ h => h) (Or.inl ⟨by kernel_rfl, by intro w1 hS1; go_simp; try rfl⟩) hS0 ?_
      simp only [Act.put, List.setIfInBounds_toArray, List.set_cons_zero, List.set_cons_succ, List.getElem_toArray, List.getElem_cons_zero, List.getElem_cons_succ]
      refine wpAnyH_ready (rs := [12]) (by kernel_rfl) (by simp) ?_
      refine AllReadyH.cons rfl (fun K hK => ?_) AllReadyH.nil
      rw [if_pos (by kernel_rfl)]
      go_wp2_with fail
      refine (unhide hsg).mono ?_
      rintro e w' ⟨rfl, rfl⟩
      go_wp2
      refine hK.out _ _ hS0 (fun _ => ?_)
      clear hK K
      simp only [Act.put, List.setIfInBounds_toArray, List.set_cons_zero, List.set_cons_succ, List.getElem_toArray, List.getElem_cons_zero, List.getElem_cons_succ]
      refine wpAnyH_ready (rs := [13]) (by kernel_rfl) (by simp) ?_
      refine AllReadyH.cons rfl (fun K hK => ?_) AllReadyH.nil
      rw [if_pos (by kernel_rfl)]
      go_simp
      refine hK.out _ _ hS2 (fun _ => ?_)
      clear hK K
      simp only [Act.put, List.setIfInBounds_toArray, List.set_cons_zero, List.set_cons_succ, List.getElem_toArray, List.getElem_cons_zero, List.getElem_cons_succ]
      refine wpAnyH_ready (rs := [14]) (by kernel_rfl) (by simp) ?_
      refine AllReadyH.cons rfl (fun K hK => ?_) AllReadyH.nil
      rw [if_pos (by kernel_rfl)]
      refine wp_append_lies _ (.tmp 42) (.tmp 55) 85 rfl base 5 i0 (.int .u8 0) 1 1 Tryz.underlying85 hi0 hz0 hz1 hz2 rfl (by omega) u1 (m + 1) _ rfl (unhide HO) ⟨wr.heap.size, 0, none⟩ 1 1 [.int .u8 (x.toNat : Int)] rfl rfl (unhide HN) (by simp [Value.oneCell']) (by omega) (by unfold maxLen; omega) (by omega) (by have := (unhide Hbl).1.size; show base ≤ (wr.drew.alloc _).heap.size; simp; omega) (wr.heap.size + 1) (by simp) ?_
      intro gg cp w4 hown hgrow hat hglt
      have hS4 : w4.cell? ⟨B, 194, none⟩ = some (.int .i64 4) := (grown_keeps (unhide Ho2) hgrow hBb (unhide Hlt)).trans hS2
      refine hK.out _ _ hS4 (fun _ => ?_)
      clear hK K
      have Hown := hide hown
      have Hgrow := hide hgrow
      clear hown hgrow hat
      simp only [Act.put, List.setIfInBounds_toArray, List.set_cons_zero, List.set_cons_succ, List.getElem_toArray, List.getElem_cons_zero, List.getElem_cons_succ]
      refine wpAnyH_take (i := 15) (v := .slice (some ⟨gg, 0, none⟩) (m + 1 + 1) cp) rfl (by kernel_rfl) (by kernel_rfl) (by kernel_rfl) (fun _ _ _ h => h) (Or.inl ⟨by kernel_rfl, by intro w1 hS1; go_simp; try rfl⟩) hS4 ?_
      simp only [Act.put, List.setIfInBounds_toArray, List.set_cons_zero, List.set_cons_succ, List.getElem_toArray, List.getElem_cons_zero, List.getElem_cons_succ]
      refine wpAnyH_done (by kernel_rfl) ?_ _
      go_wp2
      go_roundw
      case rel =>
        refine ⟨2, by omega, by simp, ?_, add_below (unhide Hbl) (unhide Ho2) (unhide Hgrow) hb⟩
        rw [grj_succ, hsn, cells_snoc, ← List.append_assoc]
        exact unhide Hown
      case measure => simp [intOf] <;> omega
    · clear hbi
      go_wp2
      go_ret
      exact ⟨_, rfl, unhide Ho2, unhide Hbl⟩
end Go.Proofs.YthfcnjcpanoldaaGreatDoor.C

/-
  What code.unpack lays: the first bytes of a group's bits behind others. Conditions: none.
-/
namespace Go.Proofs.YthfcnjcpanoldaaGreatDoor.C
open Go Go.RowKit Cd

theorem cells_append (a b : List UInt8) : cells (a ++ b) = cells a ++ cells b := by simp [cells]
theorem unp_succ (X j : Nat) : unp X (j + 1) = unp X j ++ [UInt8.ofNat (X / 2 ^ (24 - 8 * (j + 1)))] := by simp [unp, List.range_succ]
/-- what unpack leaves. -/
def RowPost (l : List UInt8) (base m : Nat) (xs : List Value) (w : World) (e : Ending) (w' : World) : Prop := ∃ v', e = .returned v' ∧ w'.ownsRow base 5 1 v' (m + l.length) (xs ++ cells l) ∧ Bel base w w'

set_option maxRecDepth 100000 in
set_option maxHeartbeats 4000000 in
theorem unpack_any (X n : Nat) (w : World) (base : Nat) (v : Value) (m : Nat) (xs : List Value) (hX : X < 16777216) (hn : n ≤ 3) (ho : w.ownsRow base 5 1 v m xs) (hm : m ≤ 100000) (hb : base ≤ w.heap.size) :
    Calls Tryz.prog 145 #[v, .int .i64 X, .int .i64 n] w (RowPost (unp X n) base m xs w) := by
  obtain ⟨i0, hi0, hz0, hz1, hz2⟩ := infoB
  go_enter Tryz.func145, Tryz.ntmps145
  go_wp2
  go_loopw [0, 9] (fun sl ix wr => ∃ j : Nat, j ≤ n ∧ ix = .int .i64 (j : Int) ∧ wr.ownsRow base 5 1 sl (m + j) (xs ++ cells (unp X j)) ∧ Bel base w wr)
    (fun _ ix _ => n - (intOf ix).toNat)
  case atStart =>
    exact ⟨0, Nat.zero_le _, rfl, by simpa [unp, cells] using ho, bel_refl _ _⟩
  case round =>
    obtain ⟨j, hj, rfl, ho2, hbl⟩ := hrel
    have Ho2 := hide ho2
    have Hbl := hide hbl
    clear ho2 ho hbl
    obtain ⟨rfl, h⟩ | ⟨rfl, h⟩ | ⟨rfl, h⟩ | rfl : (j = 0 ∧ 0 < n) ∨ (j = 1 ∧ 1 < n) ∨ (j = 2 ∧ 2 < n) ∨ j = n := by omega
    · have hlt' : (0 : Int) < n := by omega
      have hsn : cells [UInt8.ofNat (X / 2 ^ (24 - 8 * (0 + 1)))] = [.int .u8 ((X : Int) / 65536)] := by
        have e : (X : Int) / 65536 % 256 = X / 65536 := by omega
        simp [cells, e]
      have HN := hide (news wr [.int .u8 ((X : Int) / 65536)] 5)
      have HO := hide ((unhide Ho2).alloc (.cells #[.int .u8 ((X : Int) / 65536)] 5))
      have Hsn := hide hsn
      clear hsn
      go_wp2_with (at_builtin; refine wpList_append_lies _ rfl (.tmp 12) (.tmp 20) 85 rfl base 5 i0 (.int .u8 0) 1 1 Tryz.underlying85 hi0 hz0 hz1 hz2 rfl (by omega) u0 (m + 0) _ rfl (unhide HO) ⟨wr.heap.size, 0, none⟩ 1 1 [.int .u8 ((X : Int) / 65536)] rfl rfl (unhide HN) (by simp [Value.oneCell']) (by omega) (by unfold maxLen; omega) (by omega) (by have := (unhide Hbl).1.size; simp; omega) (wr.heap.size + 1) (by simp) ?_; intro gg cp w4 hown hgrow hat hglt; replace hown := hide hown; replace hgrow := hide hgrow; clear hat)
      go_roundw
      case rel =>
        refine ⟨1, by omega, by simp, ?_, add_below2 (unhide Hbl) (unhide Ho2) (unhide hgrow) hb⟩
        rw [unp_succ, cells_append, unhide Hsn, ← List.append_assoc]
        exact unhide hown
      case measure => simp [intOf] <;> omega
    · have hlt' : (1 : Int) < n := by omega
      have hsn : cells [UInt8.ofNat (X / 2 ^ (24 - 8 * (1 + 1)))] = [.int .u8 ((X : Int) / 256 % 256)] := by
        simp [cells]
      have HN := hide (news wr [.int .u8 ((X : Int) / 256 % 256)] 5)
      have HO := hide ((unhide Ho2).alloc (.cells #[.int .u8 ((X : Int) / 256 % 256)] 5))
      have Hsn := hide hsn
      clear hsn
      go_wp2_with (at_builtin; refine wpList_append_lies _ rfl (.tmp 12) (.tmp 20) 85 rfl base 5 i0 (.int .u8 0) 1 1 Tryz.underlying85 hi0 hz0 hz1 hz2 rfl (by omega) u0 (m + 1) _ rfl (unhide HO) ⟨wr.heap.size, 0, none⟩ 1 1 [.int .u8 ((X : Int) / 256 % 256)] rfl rfl (unhide HN) (by simp [Value.oneCell']) (by omega) (by unfold maxLen; omega) (by omega) (by have := (unhide Hbl).1.size; simp; omega) (wr.heap.size + 1) (by simp) ?_; intro gg cp w4 hown hgrow hat hglt; replace hown := hide hown; replace hgrow := hide hgrow; clear hat)
      go_roundw
      case rel =>
        refine ⟨2, by omega, by simp, ?_, add_below2 (unhide Hbl) (unhide Ho2) (unhide hgrow) hb⟩
        rw [unp_succ, cells_append, unhide Hsn, ← List.append_assoc]
        exact unhide hown
      case measure => simp [intOf] <;> omega
    · have hlt' : (2 : Int) < n := by omega
      have hsn : cells [UInt8.ofNat (X / 2 ^ (24 - 8 * (2 + 1)))] = [.int .u8 ((X : Int) % 256)] := by
        simp [cells]
      have HN := hide (news wr [.int .u8 ((X : Int) % 256)] 5)
      have HO := hide ((unhide Ho2).alloc (.cells #[.int .u8 ((X : Int) % 256)] 5))
      have Hsn := hide hsn
      clear hsn
      go_wp2_with (at_builtin; refine wpList_append_lies _ rfl (.tmp 12) (.tmp 20) 85 rfl base 5 i0 (.int .u8 0) 1 1 Tryz.underlying85 hi0 hz0 hz1 hz2 rfl (by omega) u0 (m + 2) _ rfl (unhide HO) ⟨wr.heap.size, 0, none⟩ 1 1 [.int .u8 ((X : Int) % 256)] rfl rfl (unhide HN) (by simp [Value.oneCell']) (by omega) (by unfold maxLen; omega) (by omega) (by have := (unhide Hbl).1.size; simp; omega) (wr.heap.size + 1) (by simp) ?_; intro gg cp w4 hown hgrow hat hglt; replace hown := hide hown; replace hgrow := hide hgrow; clear hat)
      go_roundw
      case rel =>
        refine ⟨3, by omega, by simp, ?_, add_below2 (unhide Hbl) (unhide Ho2) (unhide hgrow) hb⟩
        rw [unp_succ, cells_append, unhide Hsn, ← List.append_assoc]
        exact unhide hown
      case measure => simp [intOf] <;> omega
    · have hge : ¬ (j : Int) < j := by omega
      go_wp2
      go_ret
      exact ⟨_, rfl, by have := unhide Ho2; simpa [unp] using this, unhide Hbl⟩
end Go.Proofs.YthfcnjcpanoldaaGreatDoor.C
