/- Several texts in one: GErrFacts, GErrs0, GErrsI. Each says what it proves, and its conditions. -/
import Derived.Test.YtmenllnokgjdlaaGreatDoorG21
set_option maxRecDepth 100000
/-
 Closed facts on the model's entries for reflectlite at this program's types, and on the assertions that errors.As and errors.Is make there, for package fber's two kinds of errors (K: noKind, V: noBytes). Conditions: none.
-/
namespace Go.Proofs.YtmenllnokgjdlaaGreatDoor.G.K
open Go.RowKit Go.Extern.Stop Go.Stop Go.Extern
theorem vOfT (t : Addr) (w : World) : (ReflectliteValue.unpack (.iface 85 (.pointer (some t)))).run Tryz.prog w
  = .ok (.agg #[.pointer (some ⟨29, 85, none⟩), .pointer (some ⟨w.heap.size, 0, none⟩), .int .u64 150]) (w.alloc (.cells #[.pointer (some t)] 85)) := by kernel_rfl
theorem typeT (a : Addr) (w : World) : (ReflectliteValue.methodAny (ReflectliteValue.valueError "reflectlite.Value.Type" 0) (fun t _ _ _ => ReflectliteType.toType t) #[.agg #[.pointer (some ⟨29, 85, none⟩), .pointer (some a), .int .u64 150]]).run Tryz.prog w
  = .ok (.iface 180 (.agg #[.pointer (some ⟨29, 85, none⟩)])) w := by kernel_rfl
theorem methodKind (h : Value) (w : World) : (Go.method 479 180 (.agg #[h]) "Kind").run Tryz.prog w = .ok (264, h) w := by kernel_rfl
theorem kindT (w : World) : ((ReflectliteType.abiMethod fun t => (fun a : Nat => Value.int IntKind.u8 (a : Int)) <$> Rtype.kind t) #[.pointer (some ⟨29, 85, none⟩)]).run Tryz.prog w = .ok (.int .u8 22) w := by kernel_rfl
theorem kindE (w : World) : ((ReflectliteType.abiMethod fun t => (fun a : Nat => Value.int IntKind.u8 (a : Int)) <$> Rtype.kind t) #[.pointer (some ⟨29, 83, none⟩)]).run Tryz.prog w = .ok (.int .u8 25) w := by kernel_rfl
theorem run_step {α β : Type} {P : Program} {m : Sem α} {k : α -> Sem β} {w w1 : World} {a : α} {r : Result β} (h : m.run P w = .ok a w1) (h2 : (k a).run P w1 = r) : (m >>= k).run P w = r := by
 rw [Sem.run_bind, h]; exact h2
theorem partsT (a : Addr) (w : World) : (ReflectliteValue.parts (.agg #[.pointer (some ⟨29, 85, none⟩), .pointer (some a), .int .u64 150])).run Tryz.prog w = .ok (some (85, a, 150)) w := by kernel_rfl
theorem isNilT (a p : Addr) (W : World) (ha : W.cell? a = some (.pointer (some p))) :
  (ReflectliteValue.method (ReflectliteValue.valueError "reflectlite.Value.IsNil" 0) ReflectliteValue.isNil #[.agg #[.pointer (some ⟨29, 85, none⟩), .pointer (some a), .int .u64 150]]).run Tryz.prog W = .ok (.bool false) W := by
 refine run_step (partsT a W) ?_
 simp [ReflectliteValue.isNil, loadVar, isAgg, underlying, Tryz.underlying85, ha, Result.andThen]
theorem methodElem (h : Value) (w : World) : (Go.method 479 180 (.agg #[h]) "Elem").run Tryz.prog w = .ok (284, .agg #[h]) w := by kernel_rfl
theorem methodImplements (h : Value) (w : World) : (Go.method 479 180 (.agg #[h]) "Implements").run Tryz.prog w = .ok (285, .agg #[h]) w := by kernel_rfl
theorem methodAssignableTo (h : Value) (w : World) : (Go.method 479 180 (.agg #[h]) "AssignableTo").run Tryz.prog w = .ok (282, .agg #[h]) w := by kernel_rfl
theorem elemT (w : World) : (ReflectliteType.method ReflectliteType.elem #[.agg #[.pointer (some ⟨29, 85, none⟩)]]).run Tryz.prog w = .ok (.iface 180 (.agg #[.pointer (some ⟨29, 83, none⟩)])) w := by kernel_rfl
theorem implementsE (w : World) : (ReflectliteType.relation "Implements" ReflectliteType.implements_ #[.agg #[.pointer (some ⟨29, 83, none⟩)], .iface 180 (.agg #[.pointer (some ⟨29, 52, none⟩)])]).run Tryz.prog w = .ok (.bool true) w := by kernel_rfl
theorem typeOfE (v : Value) (w : World) : (ReflectliteType.typeOf #[.iface 83 v]).run Tryz.prog w = .ok (.iface 180 (.agg #[.pointer (some ⟨29, 83, none⟩)])) w := by kernel_rfl
theorem typeOfF (v : Value) (w : World) : (ReflectliteType.typeOf #[.iface 64 v]).run Tryz.prog w = .ok (.iface 180 (.agg #[.pointer (some ⟨29, 64, none⟩)])) w := by kernel_rfl
theorem typeOfS (v : Value) (w : World) : (ReflectliteType.typeOf #[.iface 350 v]).run Tryz.prog w = .ok (.iface 180 (.agg #[.pointer (some ⟨29, 350, none⟩)])) w := by kernel_rfl
theorem assignE (w : World) : (ReflectliteType.relation "AssignableTo" ReflectliteType.assignableTo #[.agg #[.pointer (some ⟨29, 83, none⟩)], .iface 180 (.agg #[.pointer (some ⟨29, 83, none⟩)])]).run Tryz.prog w = .ok (.bool true) w := by kernel_rfl
theorem assignF (w : World) : (ReflectliteType.relation "AssignableTo" ReflectliteType.assignableTo #[.agg #[.pointer (some ⟨29, 64, none⟩)], .iface 180 (.agg #[.pointer (some ⟨29, 83, none⟩)])]).run Tryz.prog w = .ok (.bool false) w := by kernel_rfl
theorem assignS (w : World) : (ReflectliteType.relation "AssignableTo" ReflectliteType.assignableTo #[.agg #[.pointer (some ⟨29, 350, none⟩)], .iface 180 (.agg #[.pointer (some ⟨29, 83, none⟩)])]).run Tryz.prog w = .ok (.bool false) w := by kernel_rfl
theorem vOfE (x : Value) (w : World) : (ReflectliteValue.unpack (.iface 83 (.agg #[x]))).run Tryz.prog w
  = .ok (.agg #[.pointer (some ⟨29, 83, none⟩), .pointer (some ⟨w.heap.size, 0, none⟩), .int .u64 153]) (w.alloc (.cells #[x] 83)) := by kernel_rfl
theorem elemOfT (w : World) : (Rtype.elem? 85).run Tryz.prog w = .ok (some 83) w := by kernel_rfl
theorem mkE (p : Addr) (w : World) : (ReflectliteValue.mk 83 p ReflectliteValue.flagAddr).run Tryz.prog w = .ok (.agg #[.pointer (some ⟨29, 83, none⟩), .pointer (some p), .int .u64 409]) w := by kernel_rfl
theorem elemVT (a p : Addr) (W : World) (ha : W.cell? a = some (.pointer (some p))) :
  (ReflectliteValue.method (ReflectliteValue.valueError "reflectlite.Value.Elem" 0) ReflectliteValue.elem #[.agg #[.pointer (some ⟨29, 85, none⟩), .pointer (some a), .int .u64 150]]).run Tryz.prog W
   = .ok (.agg #[.pointer (some ⟨29, 83, none⟩), .pointer (some p), .int .u64 409]) W := by
 refine run_step (partsT a W) ?_
 simp [ReflectliteValue.elem, loadVar, isAgg, underlying, Tryz.underlying85, ha, Result.andThen, elemOfT, mkE]
theorem partsEa (a : Addr) (w : World) : (ReflectliteValue.parts (.agg #[.pointer (some ⟨29, 83, none⟩), .pointer (some a), .int .u64 409])).run Tryz.prog w = .ok (some (83, a, 409)) w := by kernel_rfl
theorem partsE (a : Addr) (w : World) : (ReflectliteValue.parts (.agg #[.pointer (some ⟨29, 83, none⟩), .pointer (some a), .int .u64 153])).run Tryz.prog w = .ok (some (83, a, 153)) w := by kernel_rfl
theorem directE (w : World) : (Rtype.directlyAssignable 83 83).run Tryz.prog w = .ok true w := by kernel_rfl
theorem load1 (b : Addr) (x : Value) (W : World) (hb : W.cell? b = some x) : (loadCells b 1).run Tryz.prog W = .ok #[x] W := by
 have h : W.cell? (b.add 0) = some x := by simpa [Addr.add] using hb
 simp [loadCells, loadCellsFrom, h, Result.andThen]
theorem setE (ta b : Addr) (n : Int) (old : Value) (W : World) (hb : W.cell? b = some (.int .i64 n)) (ht : W.cell? ta = some old) (hf : W.frozen? ta = false) :
  (ReflectliteValue.set #[.agg #[.pointer (some ⟨29, 83, none⟩), .pointer (some ta), .int .u64 409], .agg #[.pointer (some ⟨29, 83, none⟩), .pointer (some b), .int .u64 153]]).run Tryz.prog W
   = .ok (.tuple #[]) (W.setCell ta (.int .i64 n)) := by
 refine run_step (partsEa ta W) ?_
 refine run_step (partsE b W) ?_
 simp [ReflectliteValue.flagAddr, loadVar, isAgg, underlying, Tryz.underlying83, load1 b _ W hb, Result.andThen, directE, storeVar, Value.cells, storeCells, Addr.add]
 rw [run_store Tryz.prog W ta _ _ (by rfl)]
 simp [ht, hf]
theorem noAsF (v : Value) (xT : TypeId) (w : World) : (Instr.typeAssert (.iface 64 v) xT 184 true).run Tryz.prog w = .ok (.tuple #[.nilIface, .bool false]) w := run_typeAssert_lacksB Tryz.underlying184 (by kernel_rfl) (by kernel_rfl) v xT w
theorem noAsS (v : Value) (xT : TypeId) (w : World) : (Instr.typeAssert (.iface 350 v) xT 184 true).run Tryz.prog w = .ok (.tuple #[.nilIface, .bool false]) w := run_typeAssert_lacksB Tryz.underlying184 (by kernel_rfl) (by kernel_rfl) v xT w
theorem noIsF (v : Value) (xT : TypeId) (w : World) : (Instr.typeAssert (.iface 64 v) xT 192 true).run Tryz.prog w = .ok (.tuple #[.nilIface, .bool false]) w := run_typeAssert_lacksB Tryz.underlying192 (by kernel_rfl) (by kernel_rfl) v xT w
theorem noIsS (v : Value) (xT : TypeId) (w : World) : (Instr.typeAssert (.iface 350 v) xT 192 true).run Tryz.prog w = .ok (.tuple #[.nilIface, .bool false]) w := run_typeAssert_lacksB Tryz.underlying192 (by kernel_rfl) (by kernel_rfl) v xT w
theorem unwF (v : Value) (xT : TypeId) (w : World) : (Instr.typeAssert (.iface 64 v) xT 187 true).run Tryz.prog w = .ok (.tuple #[.iface 64 v, .bool true]) w := run_typeAssert_hasB Tryz.underlying187 (by kernel_rfl) v xT w
theorem noUnwS (v : Value) (xT : TypeId) (w : World) : (Instr.typeAssert (.iface 350 v) xT 187 true).run Tryz.prog w = .ok (.tuple #[.nilIface, .bool false]) w := run_typeAssert_lacksB Tryz.underlying187 (by kernel_rfl) (by kernel_rfl) v xT w
theorem noUnwsS (v : Value) (xT : TypeId) (w : World) : (Instr.typeAssert (.iface 350 v) xT 189 true).run Tryz.prog w = .ok (.tuple #[.nilIface, .bool false]) w := run_typeAssert_lacksB Tryz.underlying189 (by kernel_rfl) (by kernel_rfl) v xT w
theorem methodUnwrap (v : Value) (w : World) : (Go.method 479 64 v "Unwrap").run Tryz.prog w = .ok (269, v) w := by kernel_rfl
theorem cmpExt : ∃ ext : Array Value -> Sem Value, find Tryz.f283 = some ext /\
  ∀ w : World, (ext #[.agg #[.pointer (some ⟨29, 350, none⟩)]]).run Tryz.prog w = .ok (.bool true) w :=
 ⟨(find Tryz.f283).getD fun _ => pure (.tuple #[]), by kernel_rfl, fun w => by kernel_rfl⟩
theorem methodComparable (v : Value) (w : World) : (Go.method 479 180 v "Comparable").run Tryz.prog w = .ok (283, v) w := by kernel_rfl
theorem compS : (Tryz.prog.info? 350).map (·.comparable) = some true := by kernel_rfl
theorem sizeS : (Tryz.prog.info? 368).map (·.size) = some 1 := by kernel_rfl
theorem typeOfO (v : Value) (w : World) : (ReflectliteType.typeOf #[.iface 62 v]).run Tryz.prog w = .ok (.iface 180 (.agg #[.pointer (some ⟨29, 62, none⟩)])) w := by kernel_rfl
theorem assignO (w : World) : (ReflectliteType.relation "AssignableTo" ReflectliteType.assignableTo #[.agg #[.pointer (some ⟨29, 62, none⟩)], .iface 180 (.agg #[.pointer (some ⟨29, 83, none⟩)])]).run Tryz.prog w = .ok (.bool false) w := by kernel_rfl
theorem noAsO (v : Value) (xT : TypeId) (w : World) : (Instr.typeAssert (.iface 62 v) xT 184 true).run Tryz.prog w = .ok (.tuple #[.nilIface, .bool false]) w := run_typeAssert_lacksB Tryz.underlying184 (by kernel_rfl) (by kernel_rfl) v xT w
theorem noUnwO (v : Value) (xT : TypeId) (w : World) : (Instr.typeAssert (.iface 62 v) xT 187 true).run Tryz.prog w = .ok (.tuple #[.nilIface, .bool false]) w := run_typeAssert_lacksB Tryz.underlying187 (by kernel_rfl) (by kernel_rfl) v xT w
theorem noUnwsO (v : Value) (xT : TypeId) (w : World) : (Instr.typeAssert (.iface 62 v) xT 189 true).run Tryz.prog w = .ok (.tuple #[.nilIface, .bool false]) w := run_typeAssert_lacksB Tryz.underlying189 (by kernel_rfl) (by kernel_rfl) v xT w
end Go.Proofs.YtmenllnokgjdlaaGreatDoor.G.K
namespace Go.Proofs.YtmenllnokgjdlaaGreatDoor.G.V
open Go.RowKit Go.Extern.Stop Go.Stop Go.Extern
theorem vOfT (t : Addr) (w : World) : (ReflectliteValue.unpack (.iface 86 (.pointer (some t)))).run Tryz.prog w
  = .ok (.agg #[.pointer (some ⟨29, 86, none⟩), .pointer (some ⟨w.heap.size, 0, none⟩), .int .u64 150]) (w.alloc (.cells #[.pointer (some t)] 86)) := by kernel_rfl
theorem typeT (a : Addr) (w : World) : (ReflectliteValue.methodAny (ReflectliteValue.valueError "reflectlite.Value.Type" 0) (fun t _ _ _ => ReflectliteType.toType t) #[.agg #[.pointer (some ⟨29, 86, none⟩), .pointer (some a), .int .u64 150]]).run Tryz.prog w
  = .ok (.iface 180 (.agg #[.pointer (some ⟨29, 86, none⟩)])) w := by kernel_rfl
theorem methodKind (h : Value) (w : World) : (Go.method 479 180 (.agg #[h]) "Kind").run Tryz.prog w = .ok (264, h) w := by kernel_rfl
theorem kindT (w : World) : ((ReflectliteType.abiMethod fun t => (fun a : Nat => Value.int IntKind.u8 (a : Int)) <$> Rtype.kind t) #[.pointer (some ⟨29, 86, none⟩)]).run Tryz.prog w = .ok (.int .u8 22) w := by kernel_rfl
theorem kindE (w : World) : ((ReflectliteType.abiMethod fun t => (fun a : Nat => Value.int IntKind.u8 (a : Int)) <$> Rtype.kind t) #[.pointer (some ⟨29, 62, none⟩)]).run Tryz.prog w = .ok (.int .u8 25) w := by kernel_rfl
theorem run_step {α β : Type} {P : Program} {m : Sem α} {k : α -> Sem β} {w w1 : World} {a : α} {r : Result β} (h : m.run P w = .ok a w1) (h2 : (k a).run P w1 = r) : (m >>= k).run P w = r := by
 rw [Sem.run_bind, h]; exact h2
theorem partsT (a : Addr) (w : World) : (ReflectliteValue.parts (.agg #[.pointer (some ⟨29, 86, none⟩), .pointer (some a), .int .u64 150])).run Tryz.prog w = .ok (some (86, a, 150)) w := by kernel_rfl
theorem isNilT (a p : Addr) (W : World) (ha : W.cell? a = some (.pointer (some p))) :
  (ReflectliteValue.method (ReflectliteValue.valueError "reflectlite.Value.IsNil" 0) ReflectliteValue.isNil #[.agg #[.pointer (some ⟨29, 86, none⟩), .pointer (some a), .int .u64 150]]).run Tryz.prog W = .ok (.bool false) W := by
 refine run_step (partsT a W) ?_
 simp [ReflectliteValue.isNil, loadVar, isAgg, underlying, Tryz.underlying86, ha, Result.andThen]
theorem methodElem (h : Value) (w : World) : (Go.method 479 180 (.agg #[h]) "Elem").run Tryz.prog w = .ok (284, .agg #[h]) w := by kernel_rfl
theorem methodImplements (h : Value) (w : World) : (Go.method 479 180 (.agg #[h]) "Implements").run Tryz.prog w = .ok (285, .agg #[h]) w := by kernel_rfl
theorem methodAssignableTo (h : Value) (w : World) : (Go.method 479 180 (.agg #[h]) "AssignableTo").run Tryz.prog w = .ok (282, .agg #[h]) w := by kernel_rfl
theorem elemT (w : World) : (ReflectliteType.method ReflectliteType.elem #[.agg #[.pointer (some ⟨29, 86, none⟩)]]).run Tryz.prog w = .ok (.iface 180 (.agg #[.pointer (some ⟨29, 62, none⟩)])) w := by kernel_rfl
theorem implementsE (w : World) : (ReflectliteType.relation "Implements" ReflectliteType.implements_ #[.agg #[.pointer (some ⟨29, 62, none⟩)], .iface 180 (.agg #[.pointer (some ⟨29, 52, none⟩)])]).run Tryz.prog w = .ok (.bool true) w := by kernel_rfl
theorem typeOfE (v : Value) (w : World) : (ReflectliteType.typeOf #[.iface 62 v]).run Tryz.prog w = .ok (.iface 180 (.agg #[.pointer (some ⟨29, 62, none⟩)])) w := by kernel_rfl
theorem typeOfF (v : Value) (w : World) : (ReflectliteType.typeOf #[.iface 64 v]).run Tryz.prog w = .ok (.iface 180 (.agg #[.pointer (some ⟨29, 64, none⟩)])) w := by kernel_rfl
theorem typeOfS (v : Value) (w : World) : (ReflectliteType.typeOf #[.iface 350 v]).run Tryz.prog w = .ok (.iface 180 (.agg #[.pointer (some ⟨29, 350, none⟩)])) w := by kernel_rfl
theorem assignE (w : World) : (ReflectliteType.relation "AssignableTo" ReflectliteType.assignableTo #[.agg #[.pointer (some ⟨29, 62, none⟩)], .iface 180 (.agg #[.pointer (some ⟨29, 62, none⟩)])]).run Tryz.prog w = .ok (.bool true) w := by kernel_rfl
theorem assignF (w : World) : (ReflectliteType.relation "AssignableTo" ReflectliteType.assignableTo #[.agg #[.pointer (some ⟨29, 64, none⟩)], .iface 180 (.agg #[.pointer (some ⟨29, 62, none⟩)])]).run Tryz.prog w = .ok (.bool false) w := by kernel_rfl
theorem assignS (w : World) : (ReflectliteType.relation "AssignableTo" ReflectliteType.assignableTo #[.agg #[.pointer (some ⟨29, 350, none⟩)], .iface 180 (.agg #[.pointer (some ⟨29, 62, none⟩)])]).run Tryz.prog w = .ok (.bool false) w := by kernel_rfl
theorem vOfE (x : Value) (w : World) : (ReflectliteValue.unpack (.iface 62 (.agg #[x]))).run Tryz.prog w
  = .ok (.agg #[.pointer (some ⟨29, 62, none⟩), .pointer (some ⟨w.heap.size, 0, none⟩), .int .u64 153]) (w.alloc (.cells #[x] 62)) := by kernel_rfl
theorem elemOfT (w : World) : (Rtype.elem? 86).run Tryz.prog w = .ok (some 62) w := by kernel_rfl
theorem mkE (p : Addr) (w : World) : (ReflectliteValue.mk 62 p ReflectliteValue.flagAddr).run Tryz.prog w = .ok (.agg #[.pointer (some ⟨29, 62, none⟩), .pointer (some p), .int .u64 409]) w := by kernel_rfl
theorem elemVT (a p : Addr) (W : World) (ha : W.cell? a = some (.pointer (some p))) :
  (ReflectliteValue.method (ReflectliteValue.valueError "reflectlite.Value.Elem" 0) ReflectliteValue.elem #[.agg #[.pointer (some ⟨29, 86, none⟩), .pointer (some a), .int .u64 150]]).run Tryz.prog W
   = .ok (.agg #[.pointer (some ⟨29, 62, none⟩), .pointer (some p), .int .u64 409]) W := by
 refine run_step (partsT a W) ?_
 simp [ReflectliteValue.elem, loadVar, isAgg, underlying, Tryz.underlying86, ha, Result.andThen, elemOfT, mkE]
theorem partsEa (a : Addr) (w : World) : (ReflectliteValue.parts (.agg #[.pointer (some ⟨29, 62, none⟩), .pointer (some a), .int .u64 409])).run Tryz.prog w = .ok (some (62, a, 409)) w := by kernel_rfl
theorem partsE (a : Addr) (w : World) : (ReflectliteValue.parts (.agg #[.pointer (some ⟨29, 62, none⟩), .pointer (some a), .int .u64 153])).run Tryz.prog w = .ok (some (62, a, 153)) w := by kernel_rfl
theorem directE (w : World) : (Rtype.directlyAssignable 62 62).run Tryz.prog w = .ok true w := by kernel_rfl
theorem load1 (b : Addr) (x : Value) (W : World) (hb : W.cell? b = some x) : (loadCells b 1).run Tryz.prog W = .ok #[x] W := by
 have h : W.cell? (b.add 0) = some x := by simpa [Addr.add] using hb
 simp [loadCells, loadCellsFrom, h, Result.andThen]
theorem setE (ta b : Addr) (n : Int) (old : Value) (W : World) (hb : W.cell? b = some (.int .i64 n)) (ht : W.cell? ta = some old) (hf : W.frozen? ta = false) :
  (ReflectliteValue.set #[.agg #[.pointer (some ⟨29, 62, none⟩), .pointer (some ta), .int .u64 409], .agg #[.pointer (some ⟨29, 62, none⟩), .pointer (some b), .int .u64 153]]).run Tryz.prog W
   = .ok (.tuple #[]) (W.setCell ta (.int .i64 n)) := by
 refine run_step (partsEa ta W) ?_
 refine run_step (partsE b W) ?_
 simp [ReflectliteValue.flagAddr, loadVar, isAgg, underlying, Tryz.underlying62, load1 b _ W hb, Result.andThen, directE, storeVar, Value.cells, storeCells, Addr.add]
 rw [run_store Tryz.prog W ta _ _ (by rfl)]
 simp [ht, hf]
theorem noAsF (v : Value) (xT : TypeId) (w : World) : (Instr.typeAssert (.iface 64 v) xT 184 true).run Tryz.prog w = .ok (.tuple #[.nilIface, .bool false]) w := run_typeAssert_lacksB Tryz.underlying184 (by kernel_rfl) (by kernel_rfl) v xT w
theorem noAsS (v : Value) (xT : TypeId) (w : World) : (Instr.typeAssert (.iface 350 v) xT 184 true).run Tryz.prog w = .ok (.tuple #[.nilIface, .bool false]) w := run_typeAssert_lacksB Tryz.underlying184 (by kernel_rfl) (by kernel_rfl) v xT w
theorem unwF (v : Value) (xT : TypeId) (w : World) : (Instr.typeAssert (.iface 64 v) xT 187 true).run Tryz.prog w = .ok (.tuple #[.iface 64 v, .bool true]) w := run_typeAssert_hasB Tryz.underlying187 (by kernel_rfl) v xT w
theorem noUnwS (v : Value) (xT : TypeId) (w : World) : (Instr.typeAssert (.iface 350 v) xT 187 true).run Tryz.prog w = .ok (.tuple #[.nilIface, .bool false]) w := run_typeAssert_lacksB Tryz.underlying187 (by kernel_rfl) (by kernel_rfl) v xT w
theorem noUnwsS (v : Value) (xT : TypeId) (w : World) : (Instr.typeAssert (.iface 350 v) xT 189 true).run Tryz.prog w = .ok (.tuple #[.nilIface, .bool false]) w := run_typeAssert_lacksB Tryz.underlying189 (by kernel_rfl) (by kernel_rfl) v xT w
theorem methodUnwrap (v : Value) (w : World) : (Go.method 479 64 v "Unwrap").run Tryz.prog w = .ok (269, v) w := by kernel_rfl
end Go.Proofs.YtmenllnokgjdlaaGreatDoor.G.V
/-
 What errors.As and errors.Is answer where package filt asks them: at a sentinel, a noKind or a noBytes, wrapped any number of times. Conditions: none.
-/
namespace Go.Proofs.YtmenllnokgjdlaaGreatDoor.G
open Go.RowKit Go.Extern.Stop Go.Stop Go.Extern
open D (H_ un)
abbrev sen (a : Addr) : Value := .iface 350 (.pointer (some a))
abbrev flt (k : Int) (v : Value) : Value := .iface 64 (.agg #[.int .i64 k, v])
abbrev nok (n : Int) : Value := .iface 83 (.agg #[.int .i64 n])
abbrev nov (n : Int) : Value := .iface 62 (.agg #[.int .i64 n])
def Ch : Nat -> Value -> Value -> Prop
 | 0, b, v => v = b
 | n + 1, b, v => ∃ k u, v = flt k u /\ Ch n b u
def lim (b : Bool) (x y : Nat) : Nat := if b then x else y
def NF (b : Value) : Prop := ∀ k u, b ≠ flt k u
theorem Ch.uniq {b : Value} (hb : NF b) : ∀ {n m : Nat} {v : Value}, Ch n b v -> Ch m b v -> n = m
 | 0, 0, _, _, _ => rfl
 | 0, m + 1, v, h, ⟨k, u, e, _⟩ => by subst h; exact absurd e (hb k u)
 | n + 1, 0, v, ⟨k, u, e, _⟩, h => by subst h; exact absurd e (hb k u)
 | n + 1, m + 1, v, ⟨k, u, e, h⟩, ⟨k', u', e', h'⟩ => by
  subst e
  injection e' with _ e1
  injection e1 with e2
  have e3 := congrArg Array.toList e2
  simp only [List.cons.injEq, and_true] at e3
  rw [<- e3.2] at h'
  rw [Ch.uniq hb h h']
open Classical in
noncomputable def dep (b v : Value) : Nat := if h : ∃ n, Ch n b v then h.choose else 0
theorem dep_eq {b v : Value} {n : Nat} (hb : NF b) (h : Ch n b v) : dep b v = n := by
 have he : ∃ n, Ch n b v := ⟨n, h⟩
 unfold dep
 rw [dif_pos he]
 exact Ch.uniq hb he.choose_spec h
theorem Ch.shape {b : Value} (hb : ∃ T x, b = .iface T x) : ∀ {n : Nat} {v : Value}, Ch n b v -> ∃ T x, v = .iface T x
 | 0, _, h => by subst h; exact hb
 | n + 1, _, ⟨k, u, e, _⟩ => ⟨_, _, e⟩
theorem nf_s (a : Addr) : NF (sen a) := fun k u h => by injection h with h; exact absurd h (by decide)
theorem nf_k (n : Int) : NF (nok n) := fun k u h => by injection h with h; exact absurd h (by decide)
theorem nf_v (n : Int) : NF (nov n) := fun k u h => by injection h with h; exact absurd h (by decide)
theorem lt_of_cell {w : World} {a : Addr} {v : Value} (h : w.cell? a = some v) : a.block < w.heap.size := D.lt_cell h
end Go.Proofs.YtmenllnokgjdlaaGreatDoor.G
/-
 What errors.As and errors.Is answer where package filt asks them (errors.Is). Conditions: none.
-/
namespace Go.Proofs.YtmenllnokgjdlaaGreatDoor.G
open Go.RowKit Go.Extern.Stop Go.Stop Go.Extern G.K
open D (H_ un)
theorem isY (n : Nat) (a : Addr) (v : Value) (h : Ch n (sen a) v) (w : World) :
  Calls Tryz.prog 87 #[v, sen a, .bool true] w fun e w' => e = .returned (.bool true) /\ Below w.heap.size w w' := by
 obtain ⟨i, hi, hcmp⟩ := Option.map_eq_some_iff.1 K.compS
 obtain ⟨j, hj, hjs⟩ := Option.map_eq_some_iff.1 K.sizeS
 have nW := K.noIsF
 have nE := K.noIsS
 have uW := K.unwF
 have uE := K.noUnwS
 have vE := K.noUnwsS
 have mU := K.methodUnwrap
 have heq := fun w => run_eql_iface_ptr_same (P := Tryz.prog) w a Tryz.underlying52 Tryz.underlying350 hi hcmp hj
 have hty := fun (x : Array Value) (b : Option Addr) (w : World) => run_eql_iface_types (P := Tryz.prog) 64 350 (.agg x) (.pointer b) Tryz.underlying52 (by decide) w
 have H := H_ h
 obtain ⟨vT, vx, rfl⟩ := h.shape ⟨_, _, rfl⟩
 clear h
 go_enter Tryz.func87, Tryz.ntmps87
 go_wp2
 go_loopw [0] (fun y wr => ∃ m, Hid (Ch m (sen a) y) /\ Hid (Below w.heap.size w wr)) (fun y _ => dep (sen a) y)
 case atStart => exact ⟨n, H, H_ (Below.refl _ _)⟩
 case round =>
  obtain ⟨m, hc, hb⟩ := hrel
  clear H
  cases m with
  | zero =>
   obtain rfl := un hc
   clear hc
   go_wp2
   go_ret
   exact ⟨rfl, un hb⟩
  | succ m =>
   obtain ⟨k, u, rfl, hu⟩ := un hc
   have Hd := H_ (dep_eq (nf_s a) (un hc))
   obtain ⟨uT, ux, rfl⟩ := hu.shape ⟨_, _, rfl⟩
   have Hd2 := H_ (dep_eq (nf_s a) hu)
   have HU := H_ hu
   clear hc hu
   go_wp2
   go_roundw
   case rel => exact ⟨m, HU, H_ ((un hb).alloc (un hb).size _)⟩
   case measure =>
    have e1 := un Hd
    have e2 := un Hd2
    have e3 : dep (sen a) (.iface uT ux) < dep (sen a) (flt k (.iface uT ux)) := by omega
    exact e3
theorem IsY (n : Nat) (a : Addr) (v : Value) (h : Ch n (sen a) v) (w : World) :
  Calls Tryz.prog 55 #[v, sen a] w fun e w' => e = .returned (.bool true) /\ Below w.heap.size w w' := by
 have hext36 := @run_callFunc_extern Tryz.prog 86 _ ReflectliteType.typeOf Tryz.func86 (by kernel_rfl) (by kernel_rfl) (by kernel_rfl) (by kernel_rfl)
 obtain ⟨ext, hfind, cT⟩ := K.cmpExt
 have hext66 := @run_callFunc_extern Tryz.prog 283 _ ext Tryz.func283 (by kernel_rfl) (by kernel_rfl) (by kernel_rfl) hfind
 clear hfind
 have tT := K.typeOfS
 have mR := K.methodComparable
 have H := H_ (isY n a v h w)
 obtain ⟨vT, vx, rfl⟩ := h.shape ⟨_, _, rfl⟩
 clear h
 go_enter Tryz.func55, Tryz.ntmps55
 go_wp2_with fail
 refine (un H).mono ?_
 rintro e w1 ⟨rfl, hb⟩
 have HB := H_ hb
 clear hb H
 go_wp2
 go_ret
 exact ⟨rfl, un HB⟩
theorem isN (n : Nat) (a : Addr) (v : Value) (h : Ch n (sen a) v) (w : World) (b : Addr) (hne : a ≠ b) (hx : ∃ c t, w.heap[a.block]? = some (.cells c t (0, 0))) (hy : ∃ c t, w.heap[b.block]? = some (.cells c t (0, 0))) :
  Calls Tryz.prog 87 #[v, sen b, .bool true] w fun e w' => e = .returned (.bool false) /\ Below w.heap.size w w' := by
 obtain ⟨i, hi, hcmp⟩ := Option.map_eq_some_iff.1 K.compS
 obtain ⟨j, hj, hjs⟩ := Option.map_eq_some_iff.1 K.sizeS
 have nW := K.noIsF
 have nE := K.noIsS
 have uW := K.unwF
 have uE := K.noUnwS
 have vE := K.noUnwsS
 have mU := K.methodUnwrap
 obtain ⟨ca, ta, ha⟩ := hx
 obtain ⟨cb, tb, hb⟩ := hy
 have heq := H_ fun (w' : World) (hbw : Below w.heap.size w w') => run_eql_iface_ptr_other (P := Tryz.prog) w' Tryz.underlying52 Tryz.underlying350 hi hcmp hj (by rw [hjs]; decide) hne ((hbw.block _ (Array.getElem?_eq_some_iff.1 ha).1).trans ha) ((hbw.block _ (Array.getElem?_eq_some_iff.1 hb).1).trans hb)
 clear ha hb
 have hty := fun (x : Array Value) (b : Option Addr) (w : World) => run_eql_iface_types (P := Tryz.prog) 64 350 (.agg x) (.pointer b) Tryz.underlying52 (by decide) w
 have H := H_ h
 obtain ⟨vT, vx, rfl⟩ := h.shape ⟨_, _, rfl⟩
 clear h
 go_enter Tryz.func87, Tryz.ntmps87
 go_wp2
 go_loopw [0] (fun y wr => ∃ m, Hid (Ch m (sen a) y) /\ Hid (Below w.heap.size w wr)) (fun y _ => dep (sen a) y)
 case atStart => exact ⟨n, H, H_ (Below.refl _ _)⟩
 case round =>
  obtain ⟨m, hc, hb⟩ := hrel
  clear H
  cases m with
  | zero =>
   obtain rfl := un hc
   clear hc
   have heq2 := (un heq) wr (un hb)
   go_wp2
   go_ret
   exact ⟨rfl, un hb⟩
  | succ m =>
   obtain ⟨k, u, rfl, hu⟩ := un hc
   have Hd := H_ (dep_eq (nf_s a) (un hc))
   obtain ⟨uT, ux, rfl⟩ := hu.shape ⟨_, _, rfl⟩
   have Hd2 := H_ (dep_eq (nf_s a) hu)
   have HU := H_ hu
   clear hc hu
   go_wp2
   go_roundw
   case rel => exact ⟨m, HU, H_ ((un hb).alloc (un hb).size _)⟩
   case measure =>
    have e1 := un Hd
    have e2 := un Hd2
    have e3 : dep (sen a) (.iface uT ux) < dep (sen a) (flt k (.iface uT ux)) := by omega
    exact e3
theorem IsN (n : Nat) (a : Addr) (v : Value) (h : Ch n (sen a) v) (w : World) (b : Addr) (hne : a ≠ b) (hx : ∃ c t, w.heap[a.block]? = some (.cells c t (0, 0))) (hy : ∃ c t, w.heap[b.block]? = some (.cells c t (0, 0))) :
  Calls Tryz.prog 55 #[v, sen b] w fun e w' => e = .returned (.bool false) /\ Below w.heap.size w w' := by
 have hext36 := @run_callFunc_extern Tryz.prog 86 _ ReflectliteType.typeOf Tryz.func86 (by kernel_rfl) (by kernel_rfl) (by kernel_rfl) (by kernel_rfl)
 obtain ⟨ext, hfind, cT⟩ := K.cmpExt
 have hext66 := @run_callFunc_extern Tryz.prog 283 _ ext Tryz.func283 (by kernel_rfl) (by kernel_rfl) (by kernel_rfl) hfind
 clear hfind
 have tT := K.typeOfS
 have mR := K.methodComparable
 have H := H_ (isN n a v h w b hne hx hy)
 obtain ⟨vT, vx, rfl⟩ := h.shape ⟨_, _, rfl⟩
 clear h hx hy
 go_enter Tryz.func55, Tryz.ntmps55
 go_wp2_with fail
 refine (un H).mono ?_
 rintro e w1 ⟨rfl, hb⟩
 have HB := H_ hb
 clear hb H
 go_wp2
 go_ret
 exact ⟨rfl, un HB⟩
end Go.Proofs.YtmenllnokgjdlaaGreatDoor.G
