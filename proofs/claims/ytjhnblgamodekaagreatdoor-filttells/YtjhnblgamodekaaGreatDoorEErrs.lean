/- What errors.As and errors.Is answer where package esc asks them: at a fault that wraps a bare or a sentinel, and at a bare bare. Conditions: the three -/
import Derived.Test.YtjhnblgamodekaaGreatDoorG04
namespace Go.Proofs.YtjhnblgamodekaaGreatDoor.E
open Go.RowKit Go.Extern.Stop Go.Stop Go.Extern
theorem lt_of_cell {w : World} {a : Addr} {v : Value} (h : w.cell? a = some v) : a.block < w.heap.size := by
 rcases Nat.lt_or_ge a.block w.heap.size with h' | h'
 ·exact h'
 ·simp [World.cell?, Array.getElem?_eq_none h'] at h
def AsGives (err : Value) (b : Bool) : Prop := ∀ (tg : Value) (va t : Addr) (old : Value) (w : World), w.cell? va = some (.pointer (some t)) -> w.cell? t = some old -> w.frozen? t = false ->
  Calls Tryz.prog 67 #[err, tg, .agg #[.pointer (some ⟨17, 221, none⟩), .pointer (some va), .int .u64 150], .iface 121 (.agg #[.pointer (some ⟨17, 220, none⟩)])] w
   fun e w' => e = .returned (.bool b) /\ Below t.block w w'
theorem as2 (n k : Int) : AsGives (.iface 216 (.agg #[.int .i64 k, .iface 220 (.agg #[.int .u8 n])])) true := by
 intro tg va t old w hv ht hf
 have hext36 := @run_callFunc_extern Tryz.prog 68 _ ReflectliteType.typeOf Tryz.func68 (by kernel_rfl) (by kernel_rfl) (by kernel_rfl) (by kernel_rfl)
 have hext65 := @run_callFunc_extern Tryz.prog 207 _ (ReflectliteType.relation "AssignableTo" ReflectliteType.assignableTo) Tryz.func207 (by kernel_rfl) (by kernel_rfl) (by kernel_rfl) (by kernel_rfl)
 have hext39 := @run_callFunc_extern Tryz.prog 84 _ (ReflectliteValue.method (ReflectliteValue.valueError "reflectlite.Value.Elem" 0) ReflectliteValue.elem) Tryz.func84 (by kernel_rfl) (by kernel_rfl) (by kernel_rfl) (by kernel_rfl)
 have hext40 := @run_callFunc_extern Tryz.prog 85 _ ReflectliteValue.set Tryz.func85 (by kernel_rfl) (by kernel_rfl) (by kernel_rfl) (by kernel_rfl)
 have hext32 := @run_callFunc_extern Tryz.prog 64 _ (fun args => ReflectliteValue.unpack (args.getD 0 (.tuple #[]))) Tryz.func64 (by kernel_rfl) (by kernel_rfl) (by kernel_rfl) (by kernel_rfl)
 have h1 := typeOfE
 have h1' := typeOfF
 have h2 := assignE
 have h2' := assignF
 have h3 := methodAssignableTo
 have h4 := vOfE
 have h5 := noAsF
 have h6 := unwF
 have h7 := methodUnwrap
 have hvl := lt_of_cell hv
 have htl := lt_of_cell ht
 have el := elemVT va t ((w.alloc (.cells #[.pointer (some ⟨17, 221, none⟩), .pointer (some va), .int .u64 150] 95)).alloc (.cells #[.int .i64 k, .iface 220 (.agg #[.int .u8 n])] 216)) (by rw [World.cell?_alloc_lt _ _ va (by simp; omega), World.cell?_alloc_lt _ _ va hvl]; exact hv)
 have st := setE t ⟨w.heap.size + 1 + 1, 0, none⟩ n old (((w.alloc (.cells #[.pointer (some ⟨17, 221, none⟩), .pointer (some va), .int .u64 150] 95)).alloc (.cells #[.int .i64 k, .iface 220 (.agg #[.int .u8 n])] 216)).alloc (.cells #[.int .u8 n] 220))
  (by rw [World.cell?_alloc_at _ _ _ _ (by simp)]; rfl)
  (by rw [World.cell?_alloc_lt _ _ t (by simp; omega), World.cell?_alloc_lt _ _ t (by simp; omega), World.cell?_alloc_lt _ _ t htl]; exact ht)
  (by rw [World.frozen?_alloc_old _ _ t (by simp; omega), World.frozen?_alloc_old _ _ t (by simp; omega), World.frozen?_alloc_old _ _ t (Nat.ne_of_lt htl)]; exact hf)
 go_enter Tryz.func67, Tryz.ntmps67
 go_wp2
 refine wp_loop_rounds 2 ?_
 rw [rounds_succ]
 go_wp2
 rw [rounds_succ]
 go_wp2
 go_ret
 exact ⟨rfl, ((((Below.refl _ _).alloc (by omega) _).alloc (by simp; omega) _).alloc (by simp; omega) _).setCell (Nat.le_refl _) _⟩
theorem as3 (k : Int) (a : Addr) : AsGives (.iface 216 (.agg #[.int .i64 k, .iface 254 (.pointer (some a))])) false := by
 intro tg va t old w hv ht hf
 have hext36 := @run_callFunc_extern Tryz.prog 68 _ ReflectliteType.typeOf Tryz.func68 (by kernel_rfl) (by kernel_rfl) (by kernel_rfl) (by kernel_rfl)
 have hext65 := @run_callFunc_extern Tryz.prog 207 _ (ReflectliteType.relation "AssignableTo" ReflectliteType.assignableTo) Tryz.func207 (by kernel_rfl) (by kernel_rfl) (by kernel_rfl) (by kernel_rfl)
 have h1 := typeOfS
 have h1' := typeOfF
 have h2 := assignS
 have h2' := assignF
 have h3 := methodAssignableTo
 have h5 := noAsF
 have h5' := noAsS
 have h6 := unwF
 have h6' := noUnwS
 have h6'' := noUnwsS
 have h7 := methodUnwrap
 have htl := lt_of_cell ht
 go_enter Tryz.func67, Tryz.ntmps67
 go_wp2
 refine wp_loop_rounds 2 ?_
 rw [rounds_succ]
 go_wp2
 rw [rounds_succ]
 go_wp2
 go_ret
 exact ⟨rfl, ((Below.refl _ _).alloc (by omega) _).alloc (by simp; omega) _⟩
theorem As_gives (T : TypeId) (v : Value) (b : Bool) (h : AsGives (.iface T v) b) (t : Addr) (old : Value) (w : World)
  (hg : w.cell? ⟨7, 0, none⟩ = some (.iface 121 (.agg #[.pointer (some ⟨17, 42, none⟩)]))) (ht : w.cell? t = some old) (hf : w.frozen? t = false) :
  Calls Tryz.prog 37 #[.iface T v, .iface 221 (.pointer (some t))] w fun e w' => e = .returned (.bool b) /\ Below t.block w w' := by
 have hext32 := @run_callFunc_extern Tryz.prog 64 _ (fun args => ReflectliteValue.unpack (args.getD 0 (.tuple #[]))) Tryz.func64 (by kernel_rfl) (by kernel_rfl) (by kernel_rfl) (by kernel_rfl)
 have hext33 := @run_callFunc_extern Tryz.prog 65 _ (ReflectliteValue.methodAny (ReflectliteValue.valueError "reflectlite.Value.Type" 0) (fun t _ _ _ => ReflectliteType.toType t)) Tryz.func65 (by kernel_rfl) (by kernel_rfl) (by kernel_rfl) (by kernel_rfl)
 have hext34 := @run_callFunc_extern Tryz.prog 66 _ (ReflectliteValue.method (ReflectliteValue.valueError "reflectlite.Value.IsNil" 0) ReflectliteValue.isNil) Tryz.func66 (by kernel_rfl) (by kernel_rfl) (by kernel_rfl) (by kernel_rfl)
 have hext55 := @run_callFunc_extern Tryz.prog 196 _ (ReflectliteType.abiMethod fun t => do pure (.int .u8 (<- Rtype.kind t))) Tryz.func196 (by kernel_rfl) (by kernel_rfl) (by kernel_rfl) (by kernel_rfl)
 have hext67 := @run_callFunc_extern Tryz.prog 209 _ (ReflectliteType.method ReflectliteType.elem) Tryz.func209 (by kernel_rfl) (by kernel_rfl) (by kernel_rfl) (by kernel_rfl)
 have hext68 := @run_callFunc_extern Tryz.prog 210 _ (ReflectliteType.relation "Implements" ReflectliteType.implements_) Tryz.func210 (by kernel_rfl) (by kernel_rfl) (by kernel_rfl) (by kernel_rfl)
 have f6 := vOfT
 have f7 := typeT
 have mK := methodKind
 have mE := methodElem
 have mI := methodImplements
 have k27 := kindT
 have k25 := kindE
 have e27 := elemT
 have i25 := implementsE
 have htl := lt_of_cell ht
 have hgl := lt_of_cell hg
 have n8 := isNilT ⟨w.heap.size, 0, none⟩ t ((w.alloc (.cells #[.pointer (some t)] 221)).alloc (.cells #[.pointer (some ⟨17, 221, none⟩), .pointer (some ⟨w.heap.size, 0, none⟩), .int .u64 150] 95)) (by simp)
 have hg2 : ((w.alloc (.cells #[.pointer (some t)] 221)).alloc (.cells #[.pointer (some ⟨17, 221, none⟩), .pointer (some ⟨w.heap.size, 0, none⟩), .int .u64 150] 95)).cell? ⟨7, 0, none⟩ = some (.iface 121 (.agg #[.pointer (some ⟨17, 42, none⟩)])) := by
  rw [World.cell?_alloc_lt _ _ _ (by simp at hgl ⊢; omega), World.cell?_alloc_lt _ _ _ hgl]; exact hg
 have H := h (.iface 221 (.pointer (some t))) ⟨w.heap.size, 0, none⟩ t old ((w.alloc (.cells #[.pointer (some t)] 221)).alloc (.cells #[.pointer (some ⟨17, 221, none⟩), .pointer (some ⟨w.heap.size, 0, none⟩), .int .u64 150] 95))
  (by simp)
  (by rw [World.cell?_alloc_lt _ _ t (by simp; omega), World.cell?_alloc_lt _ _ t htl]; exact ht)
  (by rw [World.frozen?_alloc_old _ _ t (by simp; omega), World.frozen?_alloc_old _ _ t (Nat.ne_of_lt htl)]; exact hf)
 clear h
 go_enter Tryz.func37, Tryz.ntmps37
 go_wp2_with (go_at_call 67; refine H.mono ?_; rintro e w' ⟨rfl, hb⟩)
 go_ret
 exact ⟨rfl, (((Below.refl _ _).alloc (by omega) _).alloc (by simp; omega) _).trans hb⟩
end Go.Proofs.YtjhnblgamodekaaGreatDoor.E
