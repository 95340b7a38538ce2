/- Several texts in one: CIter, EErrFacts. Each says what it proves, and its conditions. -/
import Derived.RangeFuncBound
import Derived.Shelf.RegionOpen
import Derived.OwnWalkIn
import Derived.LoopNIn
import Derived.LoopIn
import Derived.Test.YtjhnblgamodekaaGreatDoorG03
set_option maxHeartbeats 2000000
set_option maxRecDepth 100000
/-
 The iterator of package code: 'groups' hands over a text's pieces of one length, each with its place. Conditions: none.
-/
namespace Go.Proofs.YtjhnblgamodekaaGreatDoor.C
open Go Go.RowKit Go.Shelf Cd
attribute [local go_sem] Oper.semAt_some
structure Pc (s : ByteArray) where
 p : Nat
 hp : p < s.size
abbrev Pc.g {s : ByteArray} (n : Nat) (x : Pc s) : ByteArray := s.extract x.p (min (x.p + n) s.size)
def al (s : ByteArray) (n : Nat) : Nat -> Nat -> List (Pc s)
 | 0, _ => []
 | f + 1, p => if h : p < s.size then ⟨p, h⟩ :: al s n f (p + n) else []
def all (s : ByteArray) (n : Nat) : List (Pc s) := al s n s.size 0
theorem al_cons (s : ByteArray) (n f p : Nat) (hn : 1 <= n) (h : p < s.size) (hf : s.size <= p + f) : ∃ f', f = f' + 1 /\ al s n f p = ⟨p, h⟩ :: al s n f' (p + n) /\ s.size <= p + n + f' := by
 cases f with
 | zero => omega
 | succ f => exact ⟨f, rfl, by rw [al, dif_pos h], by omega⟩
theorem al_end (s : ByteArray) (n f p : Nat) (h : ¬ p < s.size) : al s n f p = [] := by
 cases f with
 | zero => rfl
 | succ f => rw [al, dif_neg h]
theorem groups_any (s : ByteArray) (n : Nat) (w : World) :
  Calls Tryz.prog 135 #[.string s, .int .i64 n] w fun e w' => e = .returned (.func (.func 146) #[] #[.pointer (some ⟨w.heap.size, 0, none⟩), .pointer (some ⟨w.heap.size + 1, 0, none⟩)]) /\ w' = (w.alloc (.cells #[.string s] 9)).alloc (.cells #[.int .i64 n] 3) := by
 go_enter Tryz.func135, Tryz.ntmps135
 go_wp2
 go_ret
 exact ⟨rfl, rfl⟩
def Two (p q : Nat) (W W' : World) : Prop := W'.heap[p]? = W.heap[p]? /\ W'.heap[q]? = W.heap[q]?
theorem Two.trans {p q : Nat} {A B C : World} (h : Two p q A B) (k : Two p q B C) : Two p q A C := ⟨k.1.trans h.1, k.2.trans h.2⟩
theorem Two.book {p q : Nat} {w : World} (hp : p < w.heap.size) (hq : q < w.heap.size) (W : World) (l : Nat) (o o' : Obj) (hl : w.heap.size <= l) (_ : W.heap[l]? = some o) (_ : o.isCells = false) (_ : o.isWalk = false) : Two p q W (W.putObj l o') :=
 ⟨World.putObj_heap_other (by omega), World.putObj_heap_other (by omega)⟩
theorem groups1_stops (m : Nat) (hm : 1 <= m) (Bs Bn n : Nat) (s : ByteArray) (w : World) (hn : 1 <= n) (hn4 : n <= 4) (hs : s.size <= 2000)
  (hBs : w.cell? ⟨Bs, 0, none⟩ = some (.string s)) (hBn : w.cell? ⟨Bn, 0, none⟩ = some (.int .i64 n)) :
  SeqStopsK Fence.wide m Tryz.prog 146 #[.pointer (some ⟨Bs, 0, none⟩), .pointer (some ⟨Bn, 0, none⟩)] (fun x : Pc s => #[.int .i64 x.p, .string (x.g n)]) (Two Bs Bn)
   (fun xs => xs = all s n) (fun pre => pre <+: all s n) s.size w := fun l J Jx W hW hJ hJx hY h0 => by
 have hbs := (hW.cell (p := ⟨Bs, 0, none⟩) (lt_of_cell hBs)).trans hBs
 have hbn := (hW.cell (p := ⟨Bn, 0, none⟩) (lt_of_cell hBn)).trans hBn
 clear hBs hBn hW
 refine callsIn_of_wp Tryz.func146 rfl trivial ?_ rfl
 simp only [Tryz.ntmps146, List.size_toArray, List.length_cons, List.length_nil, Nat.reduceAdd, Nat.reduceSub, Array.replicate_succ, Array.replicate_zero, List.push_toArray, List.append_toArray, List.nil_append, List.cons_append]
 gi_wp2
 gi_loopw [4] (fun i wr => ∃ (pre : List (Pc s)) (f p : Nat), pre ++ al s n f p = all s n /\ s.size <= p + f /\ pre.length <= p /\ p <= s.size + 4 /\ i = .int .i64 (p : Int) /\ J pre wr /\ wr.cell? ⟨Bs, 0, none⟩ = some (.string s) /\ wr.cell? ⟨Bn, 0, none⟩ = some (.int .i64 n))
  (fun i _ => s.size - (intOf i).toNat)
 case atStart => exact ⟨[], s.size, 0, rfl, by omega, Nat.le_refl _, by omega, rfl, h0, hbs, hbn⟩
 case round =>
  obtain ⟨pre, f, p, hl, hf, hpl, hp4, rfl, hJs, ha, ht⟩ := hrel
  by_cases hlt : p < s.size
  ·obtain ⟨f', rfl, hal, hf'⟩ := al_cons s n f p hn hlt hf
   rw [hal] at hl
   obtain ⟨fn, tmps, assign, body, hy, hR⟩ := hY _ ⟨p, hlt⟩ _ hJs (by omega)
   have Hl := H_ hl
   have Hf := H_ hf'
   have Hpl := H_ hpl
   have Hlt := H_ hlt
   have hlt' : (p : Int) < s.size := by omega
   have hp' : (p : Int) <= 2000 := by omega
   have hn' : (n : Int) <= 4 := by omega
   have hs' : (s.size : Int) <= 2000 := by omega
   clear hl hal hf hf' hpl hbs hbn
   by_cases hq : p + n <= s.size
   ·have hsl := fun wx => run_slice_string (P := Tryz.prog) (w := wx) 9 s .i64 .i64 (p : Int) ((p : Int) + n) Tryz.underlying9 (by omega) (by omega) (by omega)
    rw [show ((p : Int)).toNat = p by omega, show ((p : Int) + n).toNat = p + n by omega] at hsl
    have hg : Pc.g n (⟨p, hlt⟩ : Pc s) = s.extract p (p + n) := by show s.extract p (min (p + n) s.size) = _; rw [Nat.min_eq_left hq]
    rw [hg] at hy
    have hq' : (p : Int) + n <= s.size := by omega
    clear hg
    gi_wp2
    refine hR.mono ?_
    rintro e W3 (⟨rfl, hJ3, hk3⟩ | ⟨rfl, hJx3⟩)
    ·have h3s := (World.cell?_of_block (a := ⟨Bs, 0, none⟩) hk3.1).trans ha
     have h3n := (World.cell?_of_block (a := ⟨Bn, 0, none⟩) hk3.2).trans ht
     clear hk3
     gi_wp2
     go_roundw
     case rel =>
      refine ⟨_, f', p + n, ?_, un Hf, ?_, by omega, by simp, hJ3, h3s, h3n⟩
      ·rw [List.append_assoc]
       exact un Hl
      ·have := un Hpl
       simp
       omega
     case measure => simp [intOf]; omega
    ·gi_wp2
     refine bodyPost_ret (results_none rfl _ _ _) rfl ?_
     exact ⟨⟨_, rfl⟩, .inr ⟨_, ⟨al s n f' (p + n), by rw [List.append_assoc]; exact un Hl⟩, hJx3⟩⟩
   ·have hsl := fun wx => run_slice_string (P := Tryz.prog) (w := wx) 9 s .i64 .i64 (p : Int) (s.size : Int) Tryz.underlying9 (by omega) (by omega) (by omega)
    rw [show ((p : Int)).toNat = p by omega, show ((s.size : Int)).toNat = s.size by omega] at hsl
    have hg : Pc.g n (⟨p, hlt⟩ : Pc s) = s.extract p s.size := by show s.extract p (min (p + n) s.size) = _; rw [Nat.min_eq_right (by omega)]
    rw [hg] at hy
    have hq' : ¬ (p : Int) + n <= s.size := by omega
    clear hg
    gi_wp2
    refine hR.mono ?_
    rintro e W3 (⟨rfl, hJ3, hk3⟩ | ⟨rfl, hJx3⟩)
    ·have h3s := (World.cell?_of_block (a := ⟨Bs, 0, none⟩) hk3.1).trans ha
     have h3n := (World.cell?_of_block (a := ⟨Bn, 0, none⟩) hk3.2).trans ht
     clear hk3
     gi_wp2
     go_roundw
     case rel =>
      refine ⟨_, f', p + n, ?_, un Hf, ?_, by omega, by simp, hJ3, h3s, h3n⟩
      ·rw [List.append_assoc]
       exact un Hl
      ·have := un Hpl
       simp
       omega
     case measure => simp [intOf]; omega
    ·gi_wp2
     refine bodyPost_ret (results_none rfl _ _ _) rfl ?_
     exact ⟨⟨_, rfl⟩, .inr ⟨_, ⟨al s n f' (p + n), by rw [List.append_assoc]; exact un Hl⟩, hJx3⟩⟩
  ·have hge : ¬ (p : Int) < s.size := by omega
   rw [al_end s n f p hlt, List.append_nil] at hl
   subst hl
   clear hbs hbn hf hpl
   gi_wp2
   go_end0
   first | exact ⟨⟨_, rfl⟩, .inl ⟨_, rfl, hJs⟩⟩ | exact ⟨⟨_, rfl⟩, .inl hJs⟩
end Go.Proofs.YtjhnblgamodekaaGreatDoor.C
/-
 Closed facts on the model's entries for reflectlite at this program's types, and on the assertions that errors.As and errors.Is make there. Conditions: none.
-/
namespace Go.Proofs.YtjhnblgamodekaaGreatDoor.E
open Go.RowKit Go.Extern.Stop Go.Stop Go.Extern
theorem vOfT (t : Addr) (w : World) : (ReflectliteValue.unpack (.iface 221 (.pointer (some t)))).run Tryz.prog w
  = .ok (.agg #[.pointer (some ⟨17, 221, none⟩), .pointer (some ⟨w.heap.size, 0, none⟩), .int .u64 150]) (w.alloc (.cells #[.pointer (some t)] 221)) := by kernel_rfl
theorem typeT (a : Addr) (w : World) : (ReflectliteValue.methodAny (ReflectliteValue.valueError "reflectlite.Value.Type" 0) (fun t _ _ _ => ReflectliteType.toType t) #[.agg #[.pointer (some ⟨17, 221, none⟩), .pointer (some a), .int .u64 150]]).run Tryz.prog w
  = .ok (.iface 121 (.agg #[.pointer (some ⟨17, 221, none⟩)])) w := by kernel_rfl
theorem methodKind (h : Value) (w : World) : (Go.method 383 121 (.agg #[h]) "Kind").run Tryz.prog w = .ok (196, h) w := by kernel_rfl
theorem kindT (w : World) : ((ReflectliteType.abiMethod fun t => (fun a : Nat => Value.int IntKind.u8 (a : Int)) <$> Rtype.kind t) #[.pointer (some ⟨17, 221, none⟩)]).run Tryz.prog w = .ok (.int .u8 22) w := by kernel_rfl
theorem kindE (w : World) : ((ReflectliteType.abiMethod fun t => (fun a : Nat => Value.int IntKind.u8 (a : Int)) <$> Rtype.kind t) #[.pointer (some ⟨17, 220, none⟩)]).run Tryz.prog w = .ok (.int .u8 25) w := by kernel_rfl
theorem run_step {α β : Type} {P : Program} {m : Sem α} {k : α -> Sem β} {w w1 : World} {a : α} {r : Result β} (h : m.run P w = .ok a w1) (h2 : (k a).run P w1 = r) : (m >>= k).run P w = r := by
 rw [Sem.run_bind, h]; exact h2
theorem partsT (a : Addr) (w : World) : (ReflectliteValue.parts (.agg #[.pointer (some ⟨17, 221, none⟩), .pointer (some a), .int .u64 150])).run Tryz.prog w = .ok (some (221, a, 150)) w := by kernel_rfl
theorem isNilT (a p : Addr) (W : World) (ha : W.cell? a = some (.pointer (some p))) :
  (ReflectliteValue.method (ReflectliteValue.valueError "reflectlite.Value.IsNil" 0) ReflectliteValue.isNil #[.agg #[.pointer (some ⟨17, 221, none⟩), .pointer (some a), .int .u64 150]]).run Tryz.prog W = .ok (.bool false) W := by
 refine run_step (partsT a W) ?_
 simp [ReflectliteValue.isNil, loadVar, isAgg, underlying, Tryz.underlying221, ha, Result.andThen]
theorem methodElem (h : Value) (w : World) : (Go.method 383 121 (.agg #[h]) "Elem").run Tryz.prog w = .ok (209, .agg #[h]) w := by kernel_rfl
theorem methodImplements (h : Value) (w : World) : (Go.method 383 121 (.agg #[h]) "Implements").run Tryz.prog w = .ok (210, .agg #[h]) w := by kernel_rfl
theorem methodAssignableTo (h : Value) (w : World) : (Go.method 383 121 (.agg #[h]) "AssignableTo").run Tryz.prog w = .ok (207, .agg #[h]) w := by kernel_rfl
theorem elemT (w : World) : (ReflectliteType.method ReflectliteType.elem #[.agg #[.pointer (some ⟨17, 221, none⟩)]]).run Tryz.prog w = .ok (.iface 121 (.agg #[.pointer (some ⟨17, 220, none⟩)])) w := by kernel_rfl
theorem implementsE (w : World) : (ReflectliteType.relation "Implements" ReflectliteType.implements_ #[.agg #[.pointer (some ⟨17, 220, none⟩)], .iface 121 (.agg #[.pointer (some ⟨17, 42, none⟩)])]).run Tryz.prog w = .ok (.bool true) w := by kernel_rfl
theorem typeOfE (v : Value) (w : World) : (ReflectliteType.typeOf #[.iface 220 v]).run Tryz.prog w = .ok (.iface 121 (.agg #[.pointer (some ⟨17, 220, none⟩)])) w := by kernel_rfl
theorem typeOfF (v : Value) (w : World) : (ReflectliteType.typeOf #[.iface 216 v]).run Tryz.prog w = .ok (.iface 121 (.agg #[.pointer (some ⟨17, 216, none⟩)])) w := by kernel_rfl
theorem typeOfS (v : Value) (w : World) : (ReflectliteType.typeOf #[.iface 254 v]).run Tryz.prog w = .ok (.iface 121 (.agg #[.pointer (some ⟨17, 254, none⟩)])) w := by kernel_rfl
theorem assignE (w : World) : (ReflectliteType.relation "AssignableTo" ReflectliteType.assignableTo #[.agg #[.pointer (some ⟨17, 220, none⟩)], .iface 121 (.agg #[.pointer (some ⟨17, 220, none⟩)])]).run Tryz.prog w = .ok (.bool true) w := by kernel_rfl
theorem assignF (w : World) : (ReflectliteType.relation "AssignableTo" ReflectliteType.assignableTo #[.agg #[.pointer (some ⟨17, 216, none⟩)], .iface 121 (.agg #[.pointer (some ⟨17, 220, none⟩)])]).run Tryz.prog w = .ok (.bool false) w := by kernel_rfl
theorem assignS (w : World) : (ReflectliteType.relation "AssignableTo" ReflectliteType.assignableTo #[.agg #[.pointer (some ⟨17, 254, none⟩)], .iface 121 (.agg #[.pointer (some ⟨17, 220, none⟩)])]).run Tryz.prog w = .ok (.bool false) w := by kernel_rfl
theorem vOfE (x : Value) (w : World) : (ReflectliteValue.unpack (.iface 220 (.agg #[x]))).run Tryz.prog w
  = .ok (.agg #[.pointer (some ⟨17, 220, none⟩), .pointer (some ⟨w.heap.size, 0, none⟩), .int .u64 153]) (w.alloc (.cells #[x] 220)) := by kernel_rfl
theorem elemOfT (w : World) : (Rtype.elem? 221).run Tryz.prog w = .ok (some 220) w := by kernel_rfl
theorem mkE (p : Addr) (w : World) : (ReflectliteValue.mk 220 p ReflectliteValue.flagAddr).run Tryz.prog w = .ok (.agg #[.pointer (some ⟨17, 220, none⟩), .pointer (some p), .int .u64 409]) w := by kernel_rfl
theorem elemVT (a p : Addr) (W : World) (ha : W.cell? a = some (.pointer (some p))) :
  (ReflectliteValue.method (ReflectliteValue.valueError "reflectlite.Value.Elem" 0) ReflectliteValue.elem #[.agg #[.pointer (some ⟨17, 221, none⟩), .pointer (some a), .int .u64 150]]).run Tryz.prog W
   = .ok (.agg #[.pointer (some ⟨17, 220, none⟩), .pointer (some p), .int .u64 409]) W := by
 refine run_step (partsT a W) ?_
 simp [ReflectliteValue.elem, loadVar, isAgg, underlying, Tryz.underlying221, ha, Result.andThen, elemOfT, mkE]
theorem partsEa (a : Addr) (w : World) : (ReflectliteValue.parts (.agg #[.pointer (some ⟨17, 220, none⟩), .pointer (some a), .int .u64 409])).run Tryz.prog w = .ok (some (220, a, 409)) w := by kernel_rfl
theorem partsE (a : Addr) (w : World) : (ReflectliteValue.parts (.agg #[.pointer (some ⟨17, 220, none⟩), .pointer (some a), .int .u64 153])).run Tryz.prog w = .ok (some (220, a, 153)) w := by kernel_rfl
theorem directE (w : World) : (Rtype.directlyAssignable 220 220).run Tryz.prog w = .ok true w := by kernel_rfl
theorem load1 (b : Addr) (x : Value) (W : World) (hb : W.cell? b = some x) : (loadCells b 1).run Tryz.prog W = .ok #[x] W := by
 have h : W.cell? (b.add 0) = some x := by simpa [Addr.add] using hb
 simp [loadCells, loadCellsFrom, h, Result.andThen]
theorem setE (ta b : Addr) (n : Int) (old : Value) (W : World) (hb : W.cell? b = some (.int .u8 n)) (ht : W.cell? ta = some old) (hf : W.frozen? ta = false) :
  (ReflectliteValue.set #[.agg #[.pointer (some ⟨17, 220, none⟩), .pointer (some ta), .int .u64 409], .agg #[.pointer (some ⟨17, 220, none⟩), .pointer (some b), .int .u64 153]]).run Tryz.prog W
   = .ok (.tuple #[]) (W.setCell ta (.int .u8 n)) := by
 refine run_step (partsEa ta W) ?_
 refine run_step (partsE b W) ?_
 simp [ReflectliteValue.flagAddr, loadVar, isAgg, underlying, Tryz.underlying220, load1 b _ W hb, Result.andThen, directE, storeVar, Value.cells, storeCells, Addr.add]
 rw [run_store Tryz.prog W ta _ _ (by rfl)]
 simp [ht, hf]
theorem noAsF (v : Value) (xT : TypeId) (w : World) : (Instr.typeAssert (.iface 216 v) xT 125 true).run Tryz.prog w = .ok (.tuple #[.nilIface, .bool false]) w := run_typeAssert_lacksB Tryz.underlying125 (by kernel_rfl) (by kernel_rfl) v xT w
theorem noAsS (v : Value) (xT : TypeId) (w : World) : (Instr.typeAssert (.iface 254 v) xT 125 true).run Tryz.prog w = .ok (.tuple #[.nilIface, .bool false]) w := run_typeAssert_lacksB Tryz.underlying125 (by kernel_rfl) (by kernel_rfl) v xT w
theorem noIsF (v : Value) (xT : TypeId) (w : World) : (Instr.typeAssert (.iface 216 v) xT 133 true).run Tryz.prog w = .ok (.tuple #[.nilIface, .bool false]) w := run_typeAssert_lacksB Tryz.underlying133 (by kernel_rfl) (by kernel_rfl) v xT w
theorem noIsS (v : Value) (xT : TypeId) (w : World) : (Instr.typeAssert (.iface 254 v) xT 133 true).run Tryz.prog w = .ok (.tuple #[.nilIface, .bool false]) w := run_typeAssert_lacksB Tryz.underlying133 (by kernel_rfl) (by kernel_rfl) v xT w
theorem unwF (v : Value) (xT : TypeId) (w : World) : (Instr.typeAssert (.iface 216 v) xT 128 true).run Tryz.prog w = .ok (.tuple #[.iface 216 v, .bool true]) w := run_typeAssert_hasB Tryz.underlying128 (by kernel_rfl) v xT w
theorem noUnwS (v : Value) (xT : TypeId) (w : World) : (Instr.typeAssert (.iface 254 v) xT 128 true).run Tryz.prog w = .ok (.tuple #[.nilIface, .bool false]) w := run_typeAssert_lacksB Tryz.underlying128 (by kernel_rfl) (by kernel_rfl) v xT w
theorem noUnwsS (v : Value) (xT : TypeId) (w : World) : (Instr.typeAssert (.iface 254 v) xT 130 true).run Tryz.prog w = .ok (.tuple #[.nilIface, .bool false]) w := run_typeAssert_lacksB Tryz.underlying130 (by kernel_rfl) (by kernel_rfl) v xT w
theorem methodUnwrap (v : Value) (w : World) : (Go.method 383 216 v "Unwrap").run Tryz.prog w = .ok (219, v) w := by kernel_rfl
theorem cmpExt : ∃ ext : Array Value -> Sem Value, find Tryz.f208 = some ext /\
  ∀ w : World, (ext #[.agg #[.pointer (some ⟨17, 254, none⟩)]]).run Tryz.prog w = .ok (.bool true) w :=
 ⟨(find Tryz.f208).getD fun _ => pure (.tuple #[]), by kernel_rfl, fun w => by kernel_rfl⟩
theorem methodComparable (v : Value) (w : World) : (Go.method 383 121 v "Comparable").run Tryz.prog w = .ok (208, v) w := by kernel_rfl
theorem compS : (Tryz.prog.info? 254).map (·.comparable) = some true := by kernel_rfl
theorem sizeS : (Tryz.prog.info? 272).map (·.size) = some 1 := by kernel_rfl
end Go.Proofs.YtjhnblgamodekaaGreatDoor.E
