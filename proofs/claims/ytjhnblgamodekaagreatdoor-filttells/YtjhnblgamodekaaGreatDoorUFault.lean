/- What errors.As answers where package utf asks for a fault, and what utf.placeOf answers. Conditions: the package-level variables hold what the program -/
import Derived.Test.YtjhnblgamodekaaGreatDoorG17
namespace Go.Proofs.YtjhnblgamodekaaGreatDoor.U
open Go.RowKit Go.Extern.Stop Go.Stop Go.Extern
theorem vOfT2 (t : Addr) (w : World) : (ReflectliteValue.unpack (.iface 227 (.pointer (some t)))).run Tryz.prog w
  = .ok (.agg #[.pointer (some ⟨17, 227, none⟩), .pointer (some ⟨w.heap.size, 0, none⟩), .int .u64 150]) (w.alloc (.cells #[.pointer (some t)] 227)) := by kernel_rfl
theorem typeT2 (a : Addr) (w : World) : (ReflectliteValue.methodAny (ReflectliteValue.valueError "reflectlite.Value.Type" 0) (fun t _ _ _ => ReflectliteType.toType t) #[.agg #[.pointer (some ⟨17, 227, none⟩), .pointer (some a), .int .u64 150]]).run Tryz.prog w
  = .ok (.iface 121 (.agg #[.pointer (some ⟨17, 227, none⟩)])) w := by kernel_rfl
theorem kindT2 (w : World) : ((ReflectliteType.abiMethod fun t => (fun a : Nat => Value.int IntKind.u8 (a : Int)) <$> Rtype.kind t) #[.pointer (some ⟨17, 227, none⟩)]).run Tryz.prog w = .ok (.int .u8 22) w := by kernel_rfl
theorem kindE2 (w : World) : ((ReflectliteType.abiMethod fun t => (fun a : Nat => Value.int IntKind.u8 (a : Int)) <$> Rtype.kind t) #[.pointer (some ⟨17, 226, none⟩)]).run Tryz.prog w = .ok (.int .u8 25) w := by kernel_rfl
theorem partsT2 (a : Addr) (w : World) : (ReflectliteValue.parts (.agg #[.pointer (some ⟨17, 227, none⟩), .pointer (some a), .int .u64 150])).run Tryz.prog w = .ok (some (227, a, 150)) w := by kernel_rfl
theorem isNilT2 (a p : Addr) (W : World) (ha : W.cell? a = some (.pointer (some p))) :
  (ReflectliteValue.method (ReflectliteValue.valueError "reflectlite.Value.IsNil" 0) ReflectliteValue.isNil #[.agg #[.pointer (some ⟨17, 227, none⟩), .pointer (some a), .int .u64 150]]).run Tryz.prog W = .ok (.bool false) W := by
 refine run_step (partsT2 a W) ?_
 simp [ReflectliteValue.isNil, loadVar, isAgg, underlying, Tryz.underlying227, ha, Result.andThen]
theorem elemT2 (w : World) : (ReflectliteType.method ReflectliteType.elem #[.agg #[.pointer (some ⟨17, 227, none⟩)]]).run Tryz.prog w = .ok (.iface 121 (.agg #[.pointer (some ⟨17, 226, none⟩)])) w := by kernel_rfl
theorem implementsE2 (w : World) : (ReflectliteType.relation "Implements" ReflectliteType.implements_ #[.agg #[.pointer (some ⟨17, 226, none⟩)], .iface 121 (.agg #[.pointer (some ⟨17, 42, none⟩)])]).run Tryz.prog w = .ok (.bool true) w := by kernel_rfl
theorem assignF2 (w : World) : (ReflectliteType.relation "AssignableTo" ReflectliteType.assignableTo #[.agg #[.pointer (some ⟨17, 226, none⟩)], .iface 121 (.agg #[.pointer (some ⟨17, 226, none⟩)])]).run Tryz.prog w = .ok (.bool true) w := by kernel_rfl
theorem vOfE2 (x y : Value) (w : World) : (ReflectliteValue.unpack (.iface 226 (.agg #[x, y]))).run Tryz.prog w
  = .ok (.agg #[.pointer (some ⟨17, 226, none⟩), .pointer (some ⟨w.heap.size, 0, none⟩), .int .u64 153]) (w.alloc (.cells #[x, y] 226)) := by kernel_rfl
theorem elemOfT2 (w : World) : (Rtype.elem? 227).run Tryz.prog w = .ok (some 226) w := by kernel_rfl
theorem mkE2 (p : Addr) (w : World) : (ReflectliteValue.mk 226 p ReflectliteValue.flagAddr).run Tryz.prog w = .ok (.agg #[.pointer (some ⟨17, 226, none⟩), .pointer (some p), .int .u64 409]) w := by kernel_rfl
theorem elemVT2 (a p : Addr) (W : World) (ha : W.cell? a = some (.pointer (some p))) :
  (ReflectliteValue.method (ReflectliteValue.valueError "reflectlite.Value.Elem" 0) ReflectliteValue.elem #[.agg #[.pointer (some ⟨17, 227, none⟩), .pointer (some a), .int .u64 150]]).run Tryz.prog W
   = .ok (.agg #[.pointer (some ⟨17, 226, none⟩), .pointer (some p), .int .u64 409]) W := by
 refine run_step (partsT2 a W) ?_
 simp [ReflectliteValue.elem, loadVar, isAgg, underlying, Tryz.underlying227, ha, Result.andThen, elemOfT2, mkE2]
theorem partsEa2 (a : Addr) (w : World) : (ReflectliteValue.parts (.agg #[.pointer (some ⟨17, 226, none⟩), .pointer (some a), .int .u64 409])).run Tryz.prog w = .ok (some (226, a, 409)) w := by kernel_rfl
theorem partsE2 (a : Addr) (w : World) : (ReflectliteValue.parts (.agg #[.pointer (some ⟨17, 226, none⟩), .pointer (some a), .int .u64 153])).run Tryz.prog w = .ok (some (226, a, 153)) w := by kernel_rfl
theorem directE2 (w : World) : (Rtype.directlyAssignable 226 226).run Tryz.prog w = .ok true w := by kernel_rfl
theorem load2 (b : Nat) (x y : Value) (W : World) (hb : W.cell? ⟨b, 0, none⟩ = some x) (hb1 : W.cell? ⟨b, 1, none⟩ = some y) : (loadCells ⟨b, 0, none⟩ 2).run Tryz.prog W = .ok #[x, y] W := by
 simp [loadCells, loadCellsFrom, hb, hb1, Addr.add, Result.andThen]
theorem setE2 (t b : Nat) (k : Int) (T : TypeId) (a : Addr) (old old1 : Value) (W : World) (hb : W.cell? ⟨b, 0, none⟩ = some (.int .i64 k)) (hb1 : W.cell? ⟨b, 1, none⟩ = some (.iface T (.pointer (some a)))) (ht : W.cell? ⟨t, 0, none⟩ = some old) (ht1 : W.cell? ⟨t, 1, none⟩ = some old1) (hf : W.frozen? ⟨t, 0, none⟩ = false) (hf1 : W.frozen? ⟨t, 1, none⟩ = false) :
  (ReflectliteValue.set #[.agg #[.pointer (some ⟨17, 226, none⟩), .pointer (some ⟨t, 0, none⟩), .int .u64 409], .agg #[.pointer (some ⟨17, 226, none⟩), .pointer (some ⟨b, 0, none⟩), .int .u64 153]]).run Tryz.prog W
   = .ok (.tuple #[]) ((W.setCell ⟨t, 0, none⟩ (.int .i64 k)).setCell ⟨t, 1, none⟩ (.iface T (.pointer (some a)))) := by
 have h1 : (W.setCell ⟨t, 0, none⟩ (.int .i64 k)).cell? ⟨t, 1, none⟩ = some old1 := by rw [World.cell?_setCell_other (h := by simp)]; exact ht1
 have h2 : (W.setCell ⟨t, 0, none⟩ (.int .i64 k)).frozen? ⟨t, 1, none⟩ = false := by simpa using hf1
 refine run_step (partsEa2 _ W) ?_
 refine run_step (partsE2 _ W) ?_
 simp [ReflectliteValue.flagAddr, loadVar, isAgg, underlying, Tryz.underlying226, load2 b _ _ W hb hb1, Result.andThen, directE2, storeVar, Value.cells, storeCells, Addr.add]
 rw [run_store Tryz.prog W _ _ _ (by rfl)]
 simp only [ht, hf, Bool.false_eq_true, if_false]
 rw [run_store Tryz.prog _ _ _ _ (by rfl)]
 simp [h1, h2]
theorem as4 (k : Int) (T : TypeId) (a : Addr) (tg : Value) (va : Addr) (t : Nat) (old old1 : Value) (w : World) (hv : w.cell? va = some (.pointer (some ⟨t, 0, none⟩))) (ht : w.cell? ⟨t, 0, none⟩ = some old) (ht1 : w.cell? ⟨t, 1, none⟩ = some old1) (hf : w.frozen? ⟨t, 0, none⟩ = false) (hf1 : w.frozen? ⟨t, 1, none⟩ = false) :
  Calls Tryz.prog 67 #[.iface 226 (.agg #[.int .i64 k, .iface T (.pointer (some a))]), tg, .agg #[.pointer (some ⟨17, 227, none⟩), .pointer (some va), .int .u64 150], .iface 121 (.agg #[.pointer (some ⟨17, 226, none⟩)])] w
   fun e w' => e = .returned (.bool true) /\ Below t w w' /\ w'.cell? ⟨t, 0, none⟩ = some (.int .i64 k) := by
 have hext36 := @run_callFunc_extern Tryz.prog 68 _ ReflectliteType.typeOf Tryz.func68 (by kernel_rfl) (by kernel_rfl) (by kernel_rfl) (by kernel_rfl)
 have hext65 := @run_callFunc_extern Tryz.prog 207 _ (ReflectliteType.relation "AssignableTo" ReflectliteType.assignableTo) Tryz.func207 (by kernel_rfl) (by kernel_rfl) (by kernel_rfl) (by kernel_rfl)
 have hext39 := @run_callFunc_extern Tryz.prog 84 _ (ReflectliteValue.method (ReflectliteValue.valueError "reflectlite.Value.Elem" 0) ReflectliteValue.elem) Tryz.func84 (by kernel_rfl) (by kernel_rfl) (by kernel_rfl) (by kernel_rfl)
 have hext40 := @run_callFunc_extern Tryz.prog 85 _ ReflectliteValue.set Tryz.func85 (by kernel_rfl) (by kernel_rfl) (by kernel_rfl) (by kernel_rfl)
 have hext32 := @run_callFunc_extern Tryz.prog 64 _ (fun args => ReflectliteValue.unpack (args.getD 0 (.tuple #[]))) Tryz.func64 (by kernel_rfl) (by kernel_rfl) (by kernel_rfl) (by kernel_rfl)
 have h1 := typeOfF
 have h2 := assignF2
 have h3 := methodAssignableTo
 have h4 := vOfE2
 have hvl := lt_of_cell hv
 have htl : t < w.heap.size := lt_of_cell ht
 have el := elemVT2 va ⟨t, 0, none⟩ (w.alloc (.cells #[.pointer (some ⟨17, 227, none⟩), .pointer (some va), .int .u64 150] 95)) (by rw [World.cell?_alloc_lt _ _ va hvl]; exact hv)
 have sx := setE2 t (w.heap.size + 1) k T a old old1 ((w.alloc (.cells #[.pointer (some ⟨17, 227, none⟩), .pointer (some va), .int .u64 150] 95)).alloc (.cells #[.int .i64 k, .iface T (.pointer (some a))] 226))
  (by rw [World.cell?_alloc_at _ _ _ _ (by simp)]; rfl)
  (by rw [World.cell?_alloc_at _ _ _ _ (by simp)]; rfl)
  (by rw [World.cell?_alloc_lt _ _ _ (by simp; omega), World.cell?_alloc_lt _ _ _ htl]; exact ht)
  (by rw [World.cell?_alloc_lt _ _ _ (by simp; omega), World.cell?_alloc_lt _ _ _ htl]; exact ht1)
  (by rw [World.frozen?_alloc_old _ _ _ (by simp; omega), World.frozen?_alloc_old _ _ _ (Nat.ne_of_lt htl)]; exact hf)
  (by rw [World.frozen?_alloc_old _ _ _ (by simp; omega), World.frozen?_alloc_old _ _ _ (Nat.ne_of_lt htl)]; exact hf1)
 clear ht1 hf hf1
 go_enter Tryz.func67, Tryz.ntmps67
 go_wp2
 refine wp_loop_rounds 1 ?_
 rw [rounds_succ]
 go_wp2
 go_ret
 have hz : ((w.setCell ⟨t, 0, none⟩ (.int .i64 k)).setCell ⟨t, 1, none⟩ (.iface T (.pointer (some a)))).heap.size = w.heap.size := by simp [World.setCell]
 refine ⟨rfl, ?_, ?_⟩
 ·refine Below.alloc (Below.alloc ?_ (by rw [hz]; omega) _) (by rw [World.size_alloc, hz]; omega) _
  exact Below.setCell (p := ⟨t, 1, none⟩) (Below.setCell (p := ⟨t, 0, none⟩) (Below.refl _ _) (Nat.le_refl _) _) (Nat.le_refl _) _
 ·rw [World.cell?_alloc_lt _ _ _ (by rw [World.size_alloc, hz]; show t < _; omega), World.cell?_alloc_lt _ _ _ (by rw [hz]; exact htl), World.cell?_setCell_other (h := by simp)]
  exact World.cell?_setCell_same' _ _ _ (by rw [ht]; rfl)
theorem As_fault (k : Int) (T0 : TypeId) (a : Addr) (t : Nat) (old old1 : Value) (w : World)
  (hg : w.cell? ⟨7, 0, none⟩ = some (.iface 121 (.agg #[.pointer (some ⟨17, 42, none⟩)]))) (ht : w.cell? ⟨t, 0, none⟩ = some old) (ht1 : w.cell? ⟨t, 1, none⟩ = some old1) (hf : w.frozen? ⟨t, 0, none⟩ = false) (hf1 : w.frozen? ⟨t, 1, none⟩ = false) :
  Calls Tryz.prog 37 #[.iface 226 (.agg #[.int .i64 k, .iface T0 (.pointer (some a))]), .iface 227 (.pointer (some ⟨t, 0, none⟩))] w fun e w' => e = .returned (.bool true) /\ Below t w w' /\ w'.cell? ⟨t, 0, none⟩ = some (.int .i64 k) := by
 have hext32 := @run_callFunc_extern Tryz.prog 64 _ (fun args => ReflectliteValue.unpack (args.getD 0 (.tuple #[]))) Tryz.func64 (by kernel_rfl) (by kernel_rfl) (by kernel_rfl) (by kernel_rfl)
 have hext33 := @run_callFunc_extern Tryz.prog 65 _ (ReflectliteValue.methodAny (ReflectliteValue.valueError "reflectlite.Value.Type" 0) (fun t _ _ _ => ReflectliteType.toType t)) Tryz.func65 (by kernel_rfl) (by kernel_rfl) (by kernel_rfl) (by kernel_rfl)
 have hext34 := @run_callFunc_extern Tryz.prog 66 _ (ReflectliteValue.method (ReflectliteValue.valueError "reflectlite.Value.IsNil" 0) ReflectliteValue.isNil) Tryz.func66 (by kernel_rfl) (by kernel_rfl) (by kernel_rfl) (by kernel_rfl)
 have hext55 := @run_callFunc_extern Tryz.prog 196 _ (ReflectliteType.abiMethod fun t => do pure (.int .u8 (<- Rtype.kind t))) Tryz.func196 (by kernel_rfl) (by kernel_rfl) (by kernel_rfl) (by kernel_rfl)
 have hext67 := @run_callFunc_extern Tryz.prog 209 _ (ReflectliteType.method ReflectliteType.elem) Tryz.func209 (by kernel_rfl) (by kernel_rfl) (by kernel_rfl) (by kernel_rfl)
 have hext68 := @run_callFunc_extern Tryz.prog 210 _ (ReflectliteType.relation "Implements" ReflectliteType.implements_) Tryz.func210 (by kernel_rfl) (by kernel_rfl) (by kernel_rfl) (by kernel_rfl)
 have f6 := vOfT2
 have f7 := typeT2
 have mK := methodKind
 have mE := methodElem
 have mI := methodImplements
 have k27 := kindT2
 have k25 := kindE2
 have e27 := elemT2
 have i25 := implementsE2
 have htl : t < w.heap.size := lt_of_cell ht
 have hgl := lt_of_cell hg
 have n8 := isNilT2 ⟨w.heap.size, 0, none⟩ ⟨t, 0, none⟩ ((w.alloc (.cells #[.pointer (some ⟨t, 0, none⟩)] 227)).alloc (.cells #[.pointer (some ⟨17, 227, none⟩), .pointer (some ⟨w.heap.size, 0, none⟩), .int .u64 150] 95)) (by simp)
 have hg2 : ((w.alloc (.cells #[.pointer (some ⟨t, 0, none⟩)] 227)).alloc (.cells #[.pointer (some ⟨17, 227, none⟩), .pointer (some ⟨w.heap.size, 0, none⟩), .int .u64 150] 95)).cell? ⟨7, 0, none⟩ = some (.iface 121 (.agg #[.pointer (some ⟨17, 42, none⟩)])) := by
  rw [World.cell?_alloc_lt _ _ _ (by simp at hgl ⊢; omega), World.cell?_alloc_lt _ _ _ hgl]; exact hg
 have H := as4 k T0 a (.iface 227 (.pointer (some ⟨t, 0, none⟩))) ⟨w.heap.size, 0, none⟩ t old old1 ((w.alloc (.cells #[.pointer (some ⟨t, 0, none⟩)] 227)).alloc (.cells #[.pointer (some ⟨17, 227, none⟩), .pointer (some ⟨w.heap.size, 0, none⟩), .int .u64 150] 95))
  (by simp)
  (by rw [World.cell?_alloc_lt _ _ _ (by simp; omega), World.cell?_alloc_lt _ _ _ htl]; exact ht)
  (by rw [World.cell?_alloc_lt _ _ _ (by simp; omega), World.cell?_alloc_lt _ _ _ htl]; exact ht1)
  (by rw [World.frozen?_alloc_old _ _ _ (by simp; omega), World.frozen?_alloc_old _ _ _ (Nat.ne_of_lt htl)]; exact hf)
  (by rw [World.frozen?_alloc_old _ _ _ (by simp; omega), World.frozen?_alloc_old _ _ _ (Nat.ne_of_lt htl)]; exact hf1)
 clear ht1 hf hf1
 go_enter Tryz.func37, Tryz.ntmps37
 go_wp2_with (go_at_call 67; refine H.mono ?_; rintro e w' ⟨rfl, hb, hcl⟩)
 go_ret
 exact ⟨rfl, (((Below.refl _ _).alloc (by omega) _).alloc (by simp; omega) _).trans hb, hcl⟩
theorem As_nil (v : Value) (w : World) : Calls Tryz.prog 37 #[.nilIface, v] w fun e w' => e = .returned (.bool false) /\ w' = w := by
 go_enter Tryz.func37, Tryz.ntmps37
 go_wp2
 go_ret
 exact ⟨rfl, rfl⟩
def pv : Option Nat -> Int
 | none => -1
 | some p => p
theorem placeOf_any (o : Option Nat) (aU aS : Addr) (w : World) (g : Glob aU aS w) :
  Calls Tryz.prog 162 #[fv aU o] w fun e w' => e = .returned (.int .i64 (pv o)) /\ Below w.heap.size w w' := by
 cases o with
 | none =>
  unfold fv
  have H := H_ fun v w' => As_nil v w'
  clear g
  go_enter Tryz.func162, Tryz.ntmps162
  go_wp2_with fail
  refine ((un H) _ _).mono ?_
  rintro e w1 ⟨rfl, rfl⟩
  go_wp2
  go_ret
  exact ⟨rfl, (Below.refl _ _).alloc (Nat.le_refl _) _⟩
 | some p =>
  unfold fv
  have H := H_ (As_fault p 254 aU w.heap.size (.int .i64 0) .nilIface (w.alloc (.cells #[.int .i64 0, .nilIface] 226)) (g.alloc _).ty (by simp) (by simp) (by simp) (by simp))
  clear g
  go_enter Tryz.func162, Tryz.ntmps162
  go_wp2_with fail
  refine (un H).mono ?_
  rintro e w1 ⟨rfl, hb, hc⟩
  have HB := H_ hb
  clear hb
  go_wp2
  go_ret
  exact ⟨rfl, ((Below.refl _ _).alloc (Nat.le_refl _) _).trans (un HB)⟩
end Go.Proofs.YtjhnblgamodekaaGreatDoor.U
