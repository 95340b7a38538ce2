/- Several texts in one: TErrFacts, ErrFacts. Each says what it proves, and its conditions. -/
import Derived.Test.YtmenllnokgjdlaaGreatDoorProg
import Derived.WalkKit
import Derived.Stop.Asserts
import Derived.RowKitTokens
/-
 Closed facts on the model's entries for reflectlite at this program's types, and on the assertions that errors.As and errors.Is make there. Conditions: none.
-/
namespace Go.Proofs.YtmenllnokgjdlaaGreatDoor.T
open Go.RowKit Go.Extern.Stop Go.Stop Go.Extern
theorem vOfT (t : Addr) (w : World) : (ReflectliteValue.unpack (.iface 150 (.pointer (some t)))).run Tryz.prog w
  = .ok (.agg #[.pointer (some ⟨29, 150, none⟩), .pointer (some ⟨w.heap.size, 0, none⟩), .int .u64 150]) (w.alloc (.cells #[.pointer (some t)] 150)) := by kernel_rfl
theorem typeT (a : Addr) (w : World) : (ReflectliteValue.methodAny (ReflectliteValue.valueError "reflectlite.Value.Type" 0) (fun t _ _ _ => ReflectliteType.toType t) #[.agg #[.pointer (some ⟨29, 150, none⟩), .pointer (some a), .int .u64 150]]).run Tryz.prog w
  = .ok (.iface 180 (.agg #[.pointer (some ⟨29, 150, none⟩)])) w := by kernel_rfl
theorem methodKind (h : Value) (w : World) : (Go.method 479 180 (.agg #[h]) "Kind").run Tryz.prog w = .ok (264, h) w := by kernel_rfl
theorem kindT (w : World) : ((ReflectliteType.abiMethod fun t => (fun a : Nat => Value.int IntKind.u8 (a : Int)) <$> Rtype.kind t) #[.pointer (some ⟨29, 150, none⟩)]).run Tryz.prog w = .ok (.int .u8 22) w := by kernel_rfl
theorem kindE (w : World) : ((ReflectliteType.abiMethod fun t => (fun a : Nat => Value.int IntKind.u8 (a : Int)) <$> Rtype.kind t) #[.pointer (some ⟨29, 149, none⟩)]).run Tryz.prog w = .ok (.int .u8 25) w := by kernel_rfl
theorem run_step {α β : Type} {P : Program} {m : Sem α} {k : α -> Sem β} {w w1 : World} {a : α} {r : Result β} (h : m.run P w = .ok a w1) (h2 : (k a).run P w1 = r) : (m >>= k).run P w = r := by
 rw [Sem.run_bind, h]; exact h2
theorem partsT (a : Addr) (w : World) : (ReflectliteValue.parts (.agg #[.pointer (some ⟨29, 150, none⟩), .pointer (some a), .int .u64 150])).run Tryz.prog w = .ok (some (150, a, 150)) w := by kernel_rfl
theorem isNilT (a p : Addr) (W : World) (ha : W.cell? a = some (.pointer (some p))) :
  (ReflectliteValue.method (ReflectliteValue.valueError "reflectlite.Value.IsNil" 0) ReflectliteValue.isNil #[.agg #[.pointer (some ⟨29, 150, none⟩), .pointer (some a), .int .u64 150]]).run Tryz.prog W = .ok (.bool false) W := by
 refine run_step (partsT a W) ?_
 simp [ReflectliteValue.isNil, loadVar, isAgg, underlying, Tryz.underlying150, ha, Result.andThen]
theorem methodElem (h : Value) (w : World) : (Go.method 479 180 (.agg #[h]) "Elem").run Tryz.prog w = .ok (284, .agg #[h]) w := by kernel_rfl
theorem methodImplements (h : Value) (w : World) : (Go.method 479 180 (.agg #[h]) "Implements").run Tryz.prog w = .ok (285, .agg #[h]) w := by kernel_rfl
theorem methodAssignableTo (h : Value) (w : World) : (Go.method 479 180 (.agg #[h]) "AssignableTo").run Tryz.prog w = .ok (282, .agg #[h]) w := by kernel_rfl
theorem elemT (w : World) : (ReflectliteType.method ReflectliteType.elem #[.agg #[.pointer (some ⟨29, 150, none⟩)]]).run Tryz.prog w = .ok (.iface 180 (.agg #[.pointer (some ⟨29, 149, none⟩)])) w := by kernel_rfl
theorem implementsE (w : World) : (ReflectliteType.relation "Implements" ReflectliteType.implements_ #[.agg #[.pointer (some ⟨29, 149, none⟩)], .iface 180 (.agg #[.pointer (some ⟨29, 52, none⟩)])]).run Tryz.prog w = .ok (.bool true) w := by kernel_rfl
theorem typeOfE (v : Value) (w : World) : (ReflectliteType.typeOf #[.iface 149 v]).run Tryz.prog w = .ok (.iface 180 (.agg #[.pointer (some ⟨29, 149, none⟩)])) w := by kernel_rfl
theorem typeOfF (v : Value) (w : World) : (ReflectliteType.typeOf #[.iface 97 v]).run Tryz.prog w = .ok (.iface 180 (.agg #[.pointer (some ⟨29, 97, none⟩)])) w := by kernel_rfl
theorem typeOfS (v : Value) (w : World) : (ReflectliteType.typeOf #[.iface 350 v]).run Tryz.prog w = .ok (.iface 180 (.agg #[.pointer (some ⟨29, 350, none⟩)])) w := by kernel_rfl
theorem assignE (w : World) : (ReflectliteType.relation "AssignableTo" ReflectliteType.assignableTo #[.agg #[.pointer (some ⟨29, 149, none⟩)], .iface 180 (.agg #[.pointer (some ⟨29, 149, none⟩)])]).run Tryz.prog w = .ok (.bool true) w := by kernel_rfl
theorem assignF (w : World) : (ReflectliteType.relation "AssignableTo" ReflectliteType.assignableTo #[.agg #[.pointer (some ⟨29, 97, none⟩)], .iface 180 (.agg #[.pointer (some ⟨29, 149, none⟩)])]).run Tryz.prog w = .ok (.bool false) w := by kernel_rfl
theorem assignS (w : World) : (ReflectliteType.relation "AssignableTo" ReflectliteType.assignableTo #[.agg #[.pointer (some ⟨29, 350, none⟩)], .iface 180 (.agg #[.pointer (some ⟨29, 149, none⟩)])]).run Tryz.prog w = .ok (.bool false) w := by kernel_rfl
theorem vOfE (x : Value) (w : World) : (ReflectliteValue.unpack (.iface 149 (.agg #[x]))).run Tryz.prog w
  = .ok (.agg #[.pointer (some ⟨29, 149, none⟩), .pointer (some ⟨w.heap.size, 0, none⟩), .int .u64 153]) (w.alloc (.cells #[x] 149)) := by kernel_rfl
theorem elemOfT (w : World) : (Rtype.elem? 150).run Tryz.prog w = .ok (some 149) w := by kernel_rfl
theorem mkE (p : Addr) (w : World) : (ReflectliteValue.mk 149 p ReflectliteValue.flagAddr).run Tryz.prog w = .ok (.agg #[.pointer (some ⟨29, 149, none⟩), .pointer (some p), .int .u64 409]) w := by kernel_rfl
theorem elemVT (a p : Addr) (W : World) (ha : W.cell? a = some (.pointer (some p))) :
  (ReflectliteValue.method (ReflectliteValue.valueError "reflectlite.Value.Elem" 0) ReflectliteValue.elem #[.agg #[.pointer (some ⟨29, 150, none⟩), .pointer (some a), .int .u64 150]]).run Tryz.prog W
   = .ok (.agg #[.pointer (some ⟨29, 149, none⟩), .pointer (some p), .int .u64 409]) W := by
 refine run_step (partsT a W) ?_
 simp [ReflectliteValue.elem, loadVar, isAgg, underlying, Tryz.underlying150, ha, Result.andThen, elemOfT, mkE]
theorem partsEa (a : Addr) (w : World) : (ReflectliteValue.parts (.agg #[.pointer (some ⟨29, 149, none⟩), .pointer (some a), .int .u64 409])).run Tryz.prog w = .ok (some (149, a, 409)) w := by kernel_rfl
theorem partsE (a : Addr) (w : World) : (ReflectliteValue.parts (.agg #[.pointer (some ⟨29, 149, none⟩), .pointer (some a), .int .u64 153])).run Tryz.prog w = .ok (some (149, a, 153)) w := by kernel_rfl
theorem directE (w : World) : (Rtype.directlyAssignable 149 149).run Tryz.prog w = .ok true w := by kernel_rfl
theorem load1 (b : Addr) (x : Value) (W : World) (hb : W.cell? b = some x) : (loadCells b 1).run Tryz.prog W = .ok #[x] W := by
 have h : W.cell? (b.add 0) = some x := by simpa [Addr.add] using hb
 simp [loadCells, loadCellsFrom, h, Result.andThen]
theorem setE (ta b : Addr) (n : Int) (old : Value) (W : World) (hb : W.cell? b = some (.int .i64 n)) (ht : W.cell? ta = some old) (hf : W.frozen? ta = false) :
  (ReflectliteValue.set #[.agg #[.pointer (some ⟨29, 149, none⟩), .pointer (some ta), .int .u64 409], .agg #[.pointer (some ⟨29, 149, none⟩), .pointer (some b), .int .u64 153]]).run Tryz.prog W
   = .ok (.tuple #[]) (W.setCell ta (.int .i64 n)) := by
 refine run_step (partsEa ta W) ?_
 refine run_step (partsE b W) ?_
 simp [ReflectliteValue.flagAddr, loadVar, isAgg, underlying, Tryz.underlying149, load1 b _ W hb, Result.andThen, directE, storeVar, Value.cells, storeCells, Addr.add]
 rw [run_store Tryz.prog W ta _ _ (by rfl)]
 simp [ht, hf]
theorem noAsF (v : Value) (xT : TypeId) (w : World) : (Instr.typeAssert (.iface 97 v) xT 184 true).run Tryz.prog w = .ok (.tuple #[.nilIface, .bool false]) w := run_typeAssert_lacksB Tryz.underlying184 (by kernel_rfl) (by kernel_rfl) v xT w
theorem noAsS (v : Value) (xT : TypeId) (w : World) : (Instr.typeAssert (.iface 350 v) xT 184 true).run Tryz.prog w = .ok (.tuple #[.nilIface, .bool false]) w := run_typeAssert_lacksB Tryz.underlying184 (by kernel_rfl) (by kernel_rfl) v xT w
theorem noIsF (v : Value) (xT : TypeId) (w : World) : (Instr.typeAssert (.iface 97 v) xT 192 true).run Tryz.prog w = .ok (.tuple #[.nilIface, .bool false]) w := run_typeAssert_lacksB Tryz.underlying192 (by kernel_rfl) (by kernel_rfl) v xT w
theorem noIsS (v : Value) (xT : TypeId) (w : World) : (Instr.typeAssert (.iface 350 v) xT 192 true).run Tryz.prog w = .ok (.tuple #[.nilIface, .bool false]) w := run_typeAssert_lacksB Tryz.underlying192 (by kernel_rfl) (by kernel_rfl) v xT w
theorem unwF (v : Value) (xT : TypeId) (w : World) : (Instr.typeAssert (.iface 97 v) xT 187 true).run Tryz.prog w = .ok (.tuple #[.iface 97 v, .bool true]) w := run_typeAssert_hasB Tryz.underlying187 (by kernel_rfl) v xT w
theorem noUnwS (v : Value) (xT : TypeId) (w : World) : (Instr.typeAssert (.iface 350 v) xT 187 true).run Tryz.prog w = .ok (.tuple #[.nilIface, .bool false]) w := run_typeAssert_lacksB Tryz.underlying187 (by kernel_rfl) (by kernel_rfl) v xT w
theorem noUnwsS (v : Value) (xT : TypeId) (w : World) : (Instr.typeAssert (.iface 350 v) xT 189 true).run Tryz.prog w = .ok (.tuple #[.nilIface, .bool false]) w := run_typeAssert_lacksB Tryz.underlying189 (by kernel_rfl) (by kernel_rfl) v xT w
theorem methodUnwrap (v : Value) (w : World) : (Go.method 479 97 v "Unwrap").run Tryz.prog w = .ok (272, v) w := by kernel_rfl
theorem cmpExt : ∃ ext : Array Value -> Sem Value, find Tryz.f283 = some ext /\
  ∀ w : World, (ext #[.agg #[.pointer (some ⟨29, 350, none⟩)]]).run Tryz.prog w = .ok (.bool true) w :=
 ⟨(find Tryz.f283).getD fun _ => pure (.tuple #[]), by kernel_rfl, fun w => by kernel_rfl⟩
theorem methodComparable (v : Value) (w : World) : (Go.method 479 180 v "Comparable").run Tryz.prog w = .ok (283, v) w := by kernel_rfl
theorem compS : (Tryz.prog.info? 350).map (·.comparable) = some true := by kernel_rfl
theorem sizeS : (Tryz.prog.info? 368).map (·.size) = some 1 := by kernel_rfl
end Go.Proofs.YtmenllnokgjdlaaGreatDoor.T
/-
 Closed facts on the model's entries for reflectlite at this program's types, and on the assertions that errors.As and errors.Is make there. Conditions: none.
-/
namespace Go.Proofs.YtmenllnokgjdlaaGreatDoor
open Go.RowKit Go.Extern.Stop Go.Stop Go.Extern
theorem vOfT (t : Addr) (w : World) : (ReflectliteValue.unpack (.iface 235 (.pointer (some t)))).run Tryz.prog w
  = .ok (.agg #[.pointer (some ⟨29, 235, none⟩), .pointer (some ⟨w.heap.size, 0, none⟩), .int .u64 150]) (w.alloc (.cells #[.pointer (some t)] 235)) := by kernel_rfl
theorem typeT (a : Addr) (w : World) : (ReflectliteValue.methodAny (ReflectliteValue.valueError "reflectlite.Value.Type" 0) (fun t _ _ _ => ReflectliteType.toType t) #[.agg #[.pointer (some ⟨29, 235, none⟩), .pointer (some a), .int .u64 150]]).run Tryz.prog w
  = .ok (.iface 180 (.agg #[.pointer (some ⟨29, 235, none⟩)])) w := by kernel_rfl
theorem methodKind (h : Value) (w : World) : (Go.method 479 180 (.agg #[h]) "Kind").run Tryz.prog w = .ok (264, h) w := by kernel_rfl
theorem kindT (w : World) : ((ReflectliteType.abiMethod fun t => (fun a : Nat => Value.int IntKind.u8 (a : Int)) <$> Rtype.kind t) #[.pointer (some ⟨29, 235, none⟩)]).run Tryz.prog w = .ok (.int .u8 22) w := by kernel_rfl
theorem kindE (w : World) : ((ReflectliteType.abiMethod fun t => (fun a : Nat => Value.int IntKind.u8 (a : Int)) <$> Rtype.kind t) #[.pointer (some ⟨29, 234, none⟩)]).run Tryz.prog w = .ok (.int .u8 25) w := by kernel_rfl
theorem run_step {α β : Type} {P : Program} {m : Sem α} {k : α -> Sem β} {w w1 : World} {a : α} {r : Result β} (h : m.run P w = .ok a w1) (h2 : (k a).run P w1 = r) : (m >>= k).run P w = r := by
 rw [Sem.run_bind, h]; exact h2
theorem partsT (a : Addr) (w : World) : (ReflectliteValue.parts (.agg #[.pointer (some ⟨29, 235, none⟩), .pointer (some a), .int .u64 150])).run Tryz.prog w = .ok (some (235, a, 150)) w := by kernel_rfl
theorem isNilT (a p : Addr) (W : World) (ha : W.cell? a = some (.pointer (some p))) :
  (ReflectliteValue.method (ReflectliteValue.valueError "reflectlite.Value.IsNil" 0) ReflectliteValue.isNil #[.agg #[.pointer (some ⟨29, 235, none⟩), .pointer (some a), .int .u64 150]]).run Tryz.prog W = .ok (.bool false) W := by
 refine run_step (partsT a W) ?_
 simp [ReflectliteValue.isNil, loadVar, isAgg, underlying, Tryz.underlying235, ha, Result.andThen]
theorem methodElem (h : Value) (w : World) : (Go.method 479 180 (.agg #[h]) "Elem").run Tryz.prog w = .ok (284, .agg #[h]) w := by kernel_rfl
theorem methodImplements (h : Value) (w : World) : (Go.method 479 180 (.agg #[h]) "Implements").run Tryz.prog w = .ok (285, .agg #[h]) w := by kernel_rfl
theorem methodAssignableTo (h : Value) (w : World) : (Go.method 479 180 (.agg #[h]) "AssignableTo").run Tryz.prog w = .ok (282, .agg #[h]) w := by kernel_rfl
theorem elemT (w : World) : (ReflectliteType.method ReflectliteType.elem #[.agg #[.pointer (some ⟨29, 235, none⟩)]]).run Tryz.prog w = .ok (.iface 180 (.agg #[.pointer (some ⟨29, 234, none⟩)])) w := by kernel_rfl
theorem implementsE (w : World) : (ReflectliteType.relation "Implements" ReflectliteType.implements_ #[.agg #[.pointer (some ⟨29, 234, none⟩)], .iface 180 (.agg #[.pointer (some ⟨29, 52, none⟩)])]).run Tryz.prog w = .ok (.bool true) w := by kernel_rfl
theorem typeOfE (v : Value) (w : World) : (ReflectliteType.typeOf #[.iface 234 v]).run Tryz.prog w = .ok (.iface 180 (.agg #[.pointer (some ⟨29, 234, none⟩)])) w := by kernel_rfl
theorem typeOfF (v : Value) (w : World) : (ReflectliteType.typeOf #[.iface 296 v]).run Tryz.prog w = .ok (.iface 180 (.agg #[.pointer (some ⟨29, 296, none⟩)])) w := by kernel_rfl
theorem typeOfS (v : Value) (w : World) : (ReflectliteType.typeOf #[.iface 350 v]).run Tryz.prog w = .ok (.iface 180 (.agg #[.pointer (some ⟨29, 350, none⟩)])) w := by kernel_rfl
theorem assignE (w : World) : (ReflectliteType.relation "AssignableTo" ReflectliteType.assignableTo #[.agg #[.pointer (some ⟨29, 234, none⟩)], .iface 180 (.agg #[.pointer (some ⟨29, 234, none⟩)])]).run Tryz.prog w = .ok (.bool true) w := by kernel_rfl
theorem assignF (w : World) : (ReflectliteType.relation "AssignableTo" ReflectliteType.assignableTo #[.agg #[.pointer (some ⟨29, 296, none⟩)], .iface 180 (.agg #[.pointer (some ⟨29, 234, none⟩)])]).run Tryz.prog w = .ok (.bool false) w := by kernel_rfl
theorem assignS (w : World) : (ReflectliteType.relation "AssignableTo" ReflectliteType.assignableTo #[.agg #[.pointer (some ⟨29, 350, none⟩)], .iface 180 (.agg #[.pointer (some ⟨29, 234, none⟩)])]).run Tryz.prog w = .ok (.bool false) w := by kernel_rfl
theorem vOfE (x : Value) (w : World) : (ReflectliteValue.unpack (.iface 234 (.agg #[x]))).run Tryz.prog w
  = .ok (.agg #[.pointer (some ⟨29, 234, none⟩), .pointer (some ⟨w.heap.size, 0, none⟩), .int .u64 153]) (w.alloc (.cells #[x] 234)) := by kernel_rfl
theorem elemOfT (w : World) : (Rtype.elem? 235).run Tryz.prog w = .ok (some 234) w := by kernel_rfl
theorem mkE (p : Addr) (w : World) : (ReflectliteValue.mk 234 p ReflectliteValue.flagAddr).run Tryz.prog w = .ok (.agg #[.pointer (some ⟨29, 234, none⟩), .pointer (some p), .int .u64 409]) w := by kernel_rfl
theorem elemVT (a p : Addr) (W : World) (ha : W.cell? a = some (.pointer (some p))) :
  (ReflectliteValue.method (ReflectliteValue.valueError "reflectlite.Value.Elem" 0) ReflectliteValue.elem #[.agg #[.pointer (some ⟨29, 235, none⟩), .pointer (some a), .int .u64 150]]).run Tryz.prog W
   = .ok (.agg #[.pointer (some ⟨29, 234, none⟩), .pointer (some p), .int .u64 409]) W := by
 refine run_step (partsT a W) ?_
 simp [ReflectliteValue.elem, loadVar, isAgg, underlying, Tryz.underlying235, ha, Result.andThen, elemOfT, mkE]
theorem partsEa (a : Addr) (w : World) : (ReflectliteValue.parts (.agg #[.pointer (some ⟨29, 234, none⟩), .pointer (some a), .int .u64 409])).run Tryz.prog w = .ok (some (234, a, 409)) w := by kernel_rfl
theorem partsE (a : Addr) (w : World) : (ReflectliteValue.parts (.agg #[.pointer (some ⟨29, 234, none⟩), .pointer (some a), .int .u64 153])).run Tryz.prog w = .ok (some (234, a, 153)) w := by kernel_rfl
theorem directE (w : World) : (Rtype.directlyAssignable 234 234).run Tryz.prog w = .ok true w := by kernel_rfl
theorem load1 (b : Addr) (x : Value) (W : World) (hb : W.cell? b = some x) : (loadCells b 1).run Tryz.prog W = .ok #[x] W := by
 have h : W.cell? (b.add 0) = some x := by simpa [Addr.add] using hb
 simp [loadCells, loadCellsFrom, h, Result.andThen]
theorem setE (ta b : Addr) (n : Int) (old : Value) (W : World) (hb : W.cell? b = some (.int .i64 n)) (ht : W.cell? ta = some old) (hf : W.frozen? ta = false) :
  (ReflectliteValue.set #[.agg #[.pointer (some ⟨29, 234, none⟩), .pointer (some ta), .int .u64 409], .agg #[.pointer (some ⟨29, 234, none⟩), .pointer (some b), .int .u64 153]]).run Tryz.prog W
   = .ok (.tuple #[]) (W.setCell ta (.int .i64 n)) := by
 refine run_step (partsEa ta W) ?_
 refine run_step (partsE b W) ?_
 simp [ReflectliteValue.flagAddr, loadVar, isAgg, underlying, Tryz.underlying234, load1 b _ W hb, Result.andThen, directE, storeVar, Value.cells, storeCells, Addr.add]
 rw [run_store Tryz.prog W ta _ _ (by rfl)]
 simp [ht, hf]
theorem noAsF (v : Value) (xT : TypeId) (w : World) : (Instr.typeAssert (.iface 296 v) xT 184 true).run Tryz.prog w = .ok (.tuple #[.nilIface, .bool false]) w := run_typeAssert_lacksB Tryz.underlying184 (by kernel_rfl) (by kernel_rfl) v xT w
theorem noAsS (v : Value) (xT : TypeId) (w : World) : (Instr.typeAssert (.iface 350 v) xT 184 true).run Tryz.prog w = .ok (.tuple #[.nilIface, .bool false]) w := run_typeAssert_lacksB Tryz.underlying184 (by kernel_rfl) (by kernel_rfl) v xT w
theorem noIsF (v : Value) (xT : TypeId) (w : World) : (Instr.typeAssert (.iface 296 v) xT 192 true).run Tryz.prog w = .ok (.tuple #[.nilIface, .bool false]) w := run_typeAssert_lacksB Tryz.underlying192 (by kernel_rfl) (by kernel_rfl) v xT w
theorem noIsS (v : Value) (xT : TypeId) (w : World) : (Instr.typeAssert (.iface 350 v) xT 192 true).run Tryz.prog w = .ok (.tuple #[.nilIface, .bool false]) w := run_typeAssert_lacksB Tryz.underlying192 (by kernel_rfl) (by kernel_rfl) v xT w
theorem unwF (v : Value) (xT : TypeId) (w : World) : (Instr.typeAssert (.iface 296 v) xT 187 true).run Tryz.prog w = .ok (.tuple #[.iface 296 v, .bool true]) w := run_typeAssert_hasB Tryz.underlying187 (by kernel_rfl) v xT w
theorem noUnwS (v : Value) (xT : TypeId) (w : World) : (Instr.typeAssert (.iface 350 v) xT 187 true).run Tryz.prog w = .ok (.tuple #[.nilIface, .bool false]) w := run_typeAssert_lacksB Tryz.underlying187 (by kernel_rfl) (by kernel_rfl) v xT w
theorem noUnwsS (v : Value) (xT : TypeId) (w : World) : (Instr.typeAssert (.iface 350 v) xT 189 true).run Tryz.prog w = .ok (.tuple #[.nilIface, .bool false]) w := run_typeAssert_lacksB Tryz.underlying189 (by kernel_rfl) (by kernel_rfl) v xT w
theorem methodUnwrap (v : Value) (w : World) : (Go.method 479 296 v "Unwrap").run Tryz.prog w = .ok (295, v) w := by kernel_rfl
theorem cmpExt : ∃ ext : Array Value -> Sem Value, find Tryz.f283 = some ext /\
  ∀ w : World, (ext #[.agg #[.pointer (some ⟨29, 350, none⟩)]]).run Tryz.prog w = .ok (.bool true) w :=
 ⟨(find Tryz.f283).getD fun _ => pure (.tuple #[]), by kernel_rfl, fun w => by kernel_rfl⟩
theorem methodComparable (v : Value) (w : World) : (Go.method 479 180 v "Comparable").run Tryz.prog w = .ok (283, v) w := by kernel_rfl
theorem compS : (Tryz.prog.info? 350).map (·.comparable) = some true := by kernel_rfl
theorem sizeS : (Tryz.prog.info? 368).map (·.size) = some 1 := by kernel_rfl
end Go.Proofs.YtmenllnokgjdlaaGreatDoor
