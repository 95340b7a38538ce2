/- What errors.As and errors.Is answer where package size asks them: at a fault that wraps a noLength or a sentinel, and at a bare noLength. Conditions:  -/
import Derived.Test.YtmenllnokgjdlaaGreatDoorG34
namespace Go.Proofs.YtmenllnokgjdlaaGreatDoor
open Go.RowKit Go.Extern.Stop Go.Stop Go.Extern
theorem lt_of_cell {w : World} {a : Addr} {v : Value} (h : w.cell? a = some v) : a.block < w.heap.size := by
 rcases Nat.lt_or_ge a.block w.heap.size with h' | h'
 ·exact h'
 ·simp [World.cell?, Array.getElem?_eq_none h'] at h
def AsGives (err : Value) (b : Bool) : Prop := ∀ (tg : Value) (va t : Addr) (old : Value) (w : World), w.cell? va = some (.pointer (some t)) -> w.cell? t = some old -> w.frozen? t = false ->
  Calls Tryz.prog 85 #[err, tg, .agg #[.pointer (some ⟨29, 235, none⟩), .pointer (some va), .int .u64 150], .iface 180 (.agg #[.pointer (some ⟨29, 234, none⟩)])] w
   fun e w' => e = .returned (.bool b) /\ Below t.block w w'
theorem as2 (n k : Int) : AsGives (.iface 296 (.agg #[.int .i64 k, .iface 234 (.agg #[.int .i64 n])])) true := by
 intro tg va t old w hv ht hf
 have hext36 := @run_callFunc_extern Tryz.prog 86 _ ReflectliteType.typeOf Tryz.func86 (by kernel_rfl) (by kernel_rfl) (by kernel_rfl) (by kernel_rfl)
 have hext65 := @run_callFunc_extern Tryz.prog 282 _ (ReflectliteType.relation "AssignableTo" ReflectliteType.assignableTo) Tryz.func282 (by kernel_rfl) (by kernel_rfl) (by kernel_rfl) (by kernel_rfl)
 have hext39 := @run_callFunc_extern Tryz.prog 118 _ (ReflectliteValue.method (ReflectliteValue.valueError "reflectlite.Value.Elem" 0) ReflectliteValue.elem) Tryz.func118 (by kernel_rfl) (by kernel_rfl) (by kernel_rfl) (by kernel_rfl)
 have hext40 := @run_callFunc_extern Tryz.prog 119 _ ReflectliteValue.set Tryz.func119 (by kernel_rfl) (by kernel_rfl) (by kernel_rfl) (by kernel_rfl)
 have hext32 := @run_callFunc_extern Tryz.prog 82 _ (fun args => ReflectliteValue.unpack (args.getD 0 (.tuple #[]))) Tryz.func82 (by kernel_rfl) (by kernel_rfl) (by kernel_rfl) (by kernel_rfl)
 have h1 := typeOfE
 have h1' := typeOfF
 have h2 := assignE
 have h2' := assignF
 have h3 := methodAssignableTo
 have h4 := vOfE
 have h5 := noAsF
 have h6 := unwF
 have h7 := methodUnwrap
 have hvl := lt_of_cell hv
 have htl := lt_of_cell ht
 have el := elemVT va t ((w.alloc (.cells #[.pointer (some ⟨29, 235, none⟩), .pointer (some va), .int .u64 150] 135)).alloc (.cells #[.int .i64 k, .iface 234 (.agg #[.int .i64 n])] 296)) (by rw [World.cell?_alloc_lt _ _ va (by simp; omega), World.cell?_alloc_lt _ _ va hvl]; exact hv)
 have st := setE t ⟨w.heap.size + 1 + 1, 0, none⟩ n old (((w.alloc (.cells #[.pointer (some ⟨29, 235, none⟩), .pointer (some va), .int .u64 150] 135)).alloc (.cells #[.int .i64 k, .iface 234 (.agg #[.int .i64 n])] 296)).alloc (.cells #[.int .i64 n] 234))
  (by rw [World.cell?_alloc_at _ _ _ _ (by simp)]; rfl)
  (by rw [World.cell?_alloc_lt _ _ t (by simp; omega), World.cell?_alloc_lt _ _ t (by simp; omega), World.cell?_alloc_lt _ _ t htl]; exact ht)
  (by rw [World.frozen?_alloc_old _ _ t (by simp; omega), World.frozen?_alloc_old _ _ t (by simp; omega), World.frozen?_alloc_old _ _ t (Nat.ne_of_lt htl)]; exact hf)
 go_enter Tryz.func85, Tryz.ntmps85
 go_wp2
 refine wp_loop_rounds 2 ?_
 rw [rounds_succ]
 go_wp2
 rw [rounds_succ]
 go_wp2
 go_ret
 exact ⟨rfl, ((((Below.refl _ _).alloc (by omega) _).alloc (by simp; omega) _).alloc (by simp; omega) _).setCell (Nat.le_refl _) _⟩
theorem as3 (k : Int) (a : Addr) : AsGives (.iface 296 (.agg #[.int .i64 k, .iface 350 (.pointer (some a))])) false := by
 intro tg va t old w hv ht hf
 have hext36 := @run_callFunc_extern Tryz.prog 86 _ ReflectliteType.typeOf Tryz.func86 (by kernel_rfl) (by kernel_rfl) (by kernel_rfl) (by kernel_rfl)
 have hext65 := @run_callFunc_extern Tryz.prog 282 _ (ReflectliteType.relation "AssignableTo" ReflectliteType.assignableTo) Tryz.func282 (by kernel_rfl) (by kernel_rfl) (by kernel_rfl) (by kernel_rfl)
 have h1 := typeOfS
 have h1' := typeOfF
 have h2 := assignS
 have h2' := assignF
 have h3 := methodAssignableTo
 have h5 := noAsF
 have h5' := noAsS
 have h6 := unwF
 have h6' := noUnwS
 have h6'' := noUnwsS
 have h7 := methodUnwrap
 have htl := lt_of_cell ht
 go_enter Tryz.func85, Tryz.ntmps85
 go_wp2
 refine wp_loop_rounds 2 ?_
 rw [rounds_succ]
 go_wp2
 rw [rounds_succ]
 go_wp2
 go_ret
 exact ⟨rfl, ((Below.refl _ _).alloc (by omega) _).alloc (by simp; omega) _⟩
theorem As_gives (T : TypeId) (v : Value) (b : Bool) (h : AsGives (.iface T v) b) (t : Addr) (old : Value) (w : World)
  (hg : w.cell? ⟨15, 0, none⟩ = some (.iface 180 (.agg #[.pointer (some ⟨29, 52, none⟩)]))) (ht : w.cell? t = some old) (hf : w.frozen? t = false) :
  Calls Tryz.prog 54 #[.iface T v, .iface 235 (.pointer (some t))] w fun e w' => e = .returned (.bool b) /\ Below t.block w w' := by
 have hext32 := @run_callFunc_extern Tryz.prog 82 _ (fun args => ReflectliteValue.unpack (args.getD 0 (.tuple #[]))) Tryz.func82 (by kernel_rfl) (by kernel_rfl) (by kernel_rfl) (by kernel_rfl)
 have hext33 := @run_callFunc_extern Tryz.prog 83 _ (ReflectliteValue.methodAny (ReflectliteValue.valueError "reflectlite.Value.Type" 0) (fun t _ _ _ => ReflectliteType.toType t)) Tryz.func83 (by kernel_rfl) (by kernel_rfl) (by kernel_rfl) (by kernel_rfl)
 have hext34 := @run_callFunc_extern Tryz.prog 84 _ (ReflectliteValue.method (ReflectliteValue.valueError "reflectlite.Value.IsNil" 0) ReflectliteValue.isNil) Tryz.func84 (by kernel_rfl) (by kernel_rfl) (by kernel_rfl) (by kernel_rfl)
 have hext55 := @run_callFunc_extern Tryz.prog 264 _ (ReflectliteType.abiMethod fun t => do pure (.int .u8 (<- Rtype.kind t))) Tryz.func264 (by kernel_rfl) (by kernel_rfl) (by kernel_rfl) (by kernel_rfl)
 have hext67 := @run_callFunc_extern Tryz.prog 284 _ (ReflectliteType.method ReflectliteType.elem) Tryz.func284 (by kernel_rfl) (by kernel_rfl) (by kernel_rfl) (by kernel_rfl)
 have hext68 := @run_callFunc_extern Tryz.prog 285 _ (ReflectliteType.relation "Implements" ReflectliteType.implements_) Tryz.func285 (by kernel_rfl) (by kernel_rfl) (by kernel_rfl) (by kernel_rfl)
 have f6 := vOfT
 have f7 := typeT
 have mK := methodKind
 have mE := methodElem
 have mI := methodImplements
 have k27 := kindT
 have k25 := kindE
 have e27 := elemT
 have i25 := implementsE
 have htl := lt_of_cell ht
 have hgl := lt_of_cell hg
 have n8 := isNilT ⟨w.heap.size, 0, none⟩ t ((w.alloc (.cells #[.pointer (some t)] 235)).alloc (.cells #[.pointer (some ⟨29, 235, none⟩), .pointer (some ⟨w.heap.size, 0, none⟩), .int .u64 150] 135)) (by simp)
 have hg2 : ((w.alloc (.cells #[.pointer (some t)] 235)).alloc (.cells #[.pointer (some ⟨29, 235, none⟩), .pointer (some ⟨w.heap.size, 0, none⟩), .int .u64 150] 135)).cell? ⟨15, 0, none⟩ = some (.iface 180 (.agg #[.pointer (some ⟨29, 52, none⟩)])) := by
  rw [World.cell?_alloc_lt _ _ _ (by simp at hgl ⊢; omega), World.cell?_alloc_lt _ _ _ hgl]; exact hg
 have H := h (.iface 235 (.pointer (some t))) ⟨w.heap.size, 0, none⟩ t old ((w.alloc (.cells #[.pointer (some t)] 235)).alloc (.cells #[.pointer (some ⟨29, 235, none⟩), .pointer (some ⟨w.heap.size, 0, none⟩), .int .u64 150] 135))
  (by simp)
  (by rw [World.cell?_alloc_lt _ _ t (by simp; omega), World.cell?_alloc_lt _ _ t htl]; exact ht)
  (by rw [World.frozen?_alloc_old _ _ t (by simp; omega), World.frozen?_alloc_old _ _ t (Nat.ne_of_lt htl)]; exact hf)
 clear h
 go_enter Tryz.func54, Tryz.ntmps54
 go_wp2_with (go_at_call 85; refine H.mono ?_; rintro e w' ⟨rfl, hb⟩)
 go_ret
 exact ⟨rfl, (((Below.refl _ _).alloc (by omega) _).alloc (by simp; omega) _).trans hb⟩
end Go.Proofs.YtmenllnokgjdlaaGreatDoor
