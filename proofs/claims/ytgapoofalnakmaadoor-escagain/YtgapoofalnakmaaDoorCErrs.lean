/-
  What errors.As and errors.Is answer where package code asks them: at a fault that wraps a noSign or a sentinel, and at a bare noSign. Conditions: the three package-level variables hold what the program's text lays.
-/
import Derived.Test.YtgapoofalnakmaaDoorCErrFacts
namespace Go.Proofs.YtgapoofalnakmaaDoor.C
open Go.RowKit Go.Extern.Stop Go.Stop Go.Extern

theorem lt_of_cell {w : World} {a : Addr} {v : Value} (h : w.cell? a = some v) : a.block < w.heap.size := by
  rcases Nat.lt_or_ge a.block w.heap.size with h' | h'
  · exact h'
  · simp [World.cell?, Array.getElem?_eq_none h'] at h

/-- What errors.as answers at an error, the target a variable of noSign. -/
def AsGives (err : Value) (b : Bool) : Prop := ∀ (tg : Value) (va t : Addr) (old : Value) (w : World), w.cell? va = some (.pointer (some t)) → w.cell? t = some old → w.frozen? t = false →
    Calls Tryd.prog 53 #[err, tg, .agg #[.pointer (some ⟨7, 148, none⟩), .pointer (some va), .int .u64 150], .iface 104 (.agg #[.pointer (some ⟨7, 147, none⟩)])] w
      fun e w' => e = .returned (.bool b) ∧ Below t.block w w'

/-- errors.as at a bare noSign: the target is set. -/
theorem as1 (n : Int) : AsGives (.iface 147 (.agg #[.int .i32 n])) true := by
  intro tg va t old w hv ht hf
  have hext36 := @run_callFunc_extern Tryd.prog 54 _ ReflectliteType.typeOf Tryd.func54 (by kernel_rfl) (by kernel_rfl) (by kernel_rfl) (by kernel_rfl)
  have hext65 := @run_callFunc_extern Tryd.prog 110 _ (ReflectliteType.relation "AssignableTo" ReflectliteType.assignableTo) Tryd.func110 (by kernel_rfl) (by kernel_rfl) (by kernel_rfl) (by kernel_rfl)
  have hext39 := @run_callFunc_extern Tryd.prog 63 _ (ReflectliteValue.method (ReflectliteValue.valueError "reflectlite.Value.Elem" 0) ReflectliteValue.elem) Tryd.func63 (by kernel_rfl) (by kernel_rfl) (by kernel_rfl) (by kernel_rfl)
  have hext40 := @run_callFunc_extern Tryd.prog 64 _ ReflectliteValue.set Tryd.func64 (by kernel_rfl) (by kernel_rfl) (by kernel_rfl) (by kernel_rfl)
  have hext32 := @run_callFunc_extern Tryd.prog 50 _ (fun args => ReflectliteValue.unpack (args.getD 0 (.tuple #[]))) Tryd.func50 (by kernel_rfl) (by kernel_rfl) (by kernel_rfl) (by kernel_rfl)
  have h1 := typeOfE
  have h2 := assignE
  have h3 := methodAssignableTo
  have h4 := vOfE
  have hvl := lt_of_cell hv
  have htl := lt_of_cell ht
  have el := elemVT va t (w.alloc (.cells #[.pointer (some ⟨7, 148, none⟩), .pointer (some va), .int .u64 150] 73)) (by rw [World.cell?_alloc_lt _ _ va hvl]; exact hv)
  have st := setE t ⟨w.heap.size + 1, 0, none⟩ n old ((w.alloc (.cells #[.pointer (some ⟨7, 148, none⟩), .pointer (some va), .int .u64 150] 73)).alloc (.cells #[.int .i32 n] 147))
    (by rw [World.cell?_alloc_at _ _ _ _ (by simp)]; rfl)
    (by rw [World.cell?_alloc_lt _ _ t (by simp; omega), World.cell?_alloc_lt _ _ t htl]; exact ht)
    (by rw [World.frozen?_alloc_old _ _ t (by simp; omega), World.frozen?_alloc_old _ _ t (Nat.ne_of_lt htl)]; exact hf)
  go_enter Tryd.func53, Tryd.ntmps53
  go_wp2
  refine wp_loop_rounds 1 ?_
  rw [rounds_succ]
  go_wp2
  go_ret
  exact ⟨rfl, (((Below.refl _ _).alloc (by omega) _).alloc (by simp; omega) _).setCell (Nat.le_refl _) _⟩


/-- errors.as at a fault that wraps a noSign. -/
theorem as2 (n k : Int) : AsGives (.iface 143 (.agg #[.int .i64 k, .iface 147 (.agg #[.int .i32 n])])) true := by
  intro tg va t old w hv ht hf
  have hext36 := @run_callFunc_extern Tryd.prog 54 _ ReflectliteType.typeOf Tryd.func54 (by kernel_rfl) (by kernel_rfl) (by kernel_rfl) (by kernel_rfl)
  have hext65 := @run_callFunc_extern Tryd.prog 110 _ (ReflectliteType.relation "AssignableTo" ReflectliteType.assignableTo) Tryd.func110 (by kernel_rfl) (by kernel_rfl) (by kernel_rfl) (by kernel_rfl)
  have hext39 := @run_callFunc_extern Tryd.prog 63 _ (ReflectliteValue.method (ReflectliteValue.valueError "reflectlite.Value.Elem" 0) ReflectliteValue.elem) Tryd.func63 (by kernel_rfl) (by kernel_rfl) (by kernel_rfl) (by kernel_rfl)
  have hext40 := @run_callFunc_extern Tryd.prog 64 _ ReflectliteValue.set Tryd.func64 (by kernel_rfl) (by kernel_rfl) (by kernel_rfl) (by kernel_rfl)
  have hext32 := @run_callFunc_extern Tryd.prog 50 _ (fun args => ReflectliteValue.unpack (args.getD 0 (.tuple #[]))) Tryd.func50 (by kernel_rfl) (by kernel_rfl) (by kernel_rfl) (by kernel_rfl)
  have h1 := typeOfE
  have h1' := typeOfF
  have h2 := assignE
  have h2' := assignF
  have h3 := methodAssignableTo
  have h4 := vOfE
  have h5 := noAsF
  have h6 := unwF
  have h7 := methodUnwrap
  have hvl := lt_of_cell hv
  have htl := lt_of_cell ht
  have el := elemVT va t ((w.alloc (.cells #[.pointer (some ⟨7, 148, none⟩), .pointer (some va), .int .u64 150] 73)).alloc (.cells #[.int .i64 k, .iface 147 (.agg #[.int .i32 n])] 143)) (by rw [World.cell?_alloc_lt _ _ va (by simp; omega), World.cell?_alloc_lt _ _ va hvl]; exact hv)
  have st := setE t ⟨w.heap.size + 1 + 1, 0, none⟩ n old (((w.alloc (.cells #[.pointer (some ⟨7, 148, none⟩), .pointer (some va), .int .u64 150] 73)).alloc (.cells #[.int .i64 k, .iface 147 (.agg #[.int .i32 n])] 143)).alloc (.cells #[.int .i32 n] 147))
    (by rw [World.cell?_alloc_at _ _ _ _ (by simp)]; rfl)
    (by rw [World.cell?_alloc_lt _ _ t (by simp; omega), World.cell?_alloc_lt _ _ t (by simp; omega), World.cell?_alloc_lt _ _ t htl]; exact ht)
    (by rw [World.frozen?_alloc_old _ _ t (by simp; omega), World.frozen?_alloc_old _ _ t (by simp; omega), World.frozen?_alloc_old _ _ t (Nat.ne_of_lt htl)]; exact hf)
  go_enter Tryd.func53, Tryd.ntmps53
  go_wp2
  refine wp_loop_rounds 2 ?_
  rw [rounds_succ]
  go_wp2
  rw [rounds_succ]
  go_wp2
  go_ret
  exact ⟨rfl, ((((Below.refl _ _).alloc (by omega) _).alloc (by simp; omega) _).alloc (by simp; omega) _).setCell (Nat.le_refl _) _⟩

/-- errors.as at a fault that wraps a sentinel: it finds nothing. -/
theorem as3 (k : Int) (a : Addr) : AsGives (.iface 143 (.agg #[.int .i64 k, .iface 151 (.pointer (some a))])) false := by
  intro tg va t old w hv ht hf
  have hext36 := @run_callFunc_extern Tryd.prog 54 _ ReflectliteType.typeOf Tryd.func54 (by kernel_rfl) (by kernel_rfl) (by kernel_rfl) (by kernel_rfl)
  have hext65 := @run_callFunc_extern Tryd.prog 110 _ (ReflectliteType.relation "AssignableTo" ReflectliteType.assignableTo) Tryd.func110 (by kernel_rfl) (by kernel_rfl) (by kernel_rfl) (by kernel_rfl)
  have h1 := typeOfS
  have h1' := typeOfF
  have h2 := assignS
  have h2' := assignF
  have h3 := methodAssignableTo
  have h5 := noAsF
  have h5' := noAsS
  have h6 := unwF
  have h6' := noUnwS
  have h6'' := noUnwsS
  have h7 := methodUnwrap
  have htl := lt_of_cell ht
  go_enter Tryd.func53, Tryd.ntmps53
  go_wp2
  refine wp_loop_rounds 2 ?_
  rw [rounds_succ]
  go_wp2
  rw [rounds_succ]
  go_wp2
  go_ret
  exact ⟨rfl, ((Below.refl _ _).alloc (by omega) _).alloc (by simp; omega) _⟩

/-- errors.As(err, &t), t a variable of noSign. -/
theorem As_gives (T : TypeId) (v : Value) (b : Bool) (h : AsGives (.iface T v) b) (t : Addr) (old : Value) (w : World)
    (hg : w.cell? ⟨2, 0, none⟩ = some (.iface 104 (.agg #[.pointer (some ⟨7, 36, none⟩)]))) (ht : w.cell? t = some old) (hf : w.frozen? t = false) :
    Calls Tryd.prog 37 #[.iface T v, .iface 148 (.pointer (some t))] w fun e w' => e = .returned (.bool b) ∧ Below t.block w w' := by
  have hext32 := @run_callFunc_extern Tryd.prog 50 _ (fun args => ReflectliteValue.unpack (args.getD 0 (.tuple #[]))) Tryd.func50 (by kernel_rfl) (by kernel_rfl) (by kernel_rfl) (by kernel_rfl)
  have hext33 := @run_callFunc_extern Tryd.prog 51 _ (ReflectliteValue.methodAny (ReflectliteValue.valueError "reflectlite.Value.Type" 0) (fun t _ _ _ => ReflectliteType.toType t)) Tryd.func51 (by kernel_rfl) (by kernel_rfl) (by kernel_rfl) (by kernel_rfl)
  have hext34 := @run_callFunc_extern Tryd.prog 52 _ (ReflectliteValue.method (ReflectliteValue.valueError "reflectlite.Value.IsNil" 0) ReflectliteValue.isNil) Tryd.func52 (by kernel_rfl) (by kernel_rfl) (by kernel_rfl) (by kernel_rfl)
  have hext55 := @run_callFunc_extern Tryd.prog 98 _ (ReflectliteType.abiMethod fun t => do pure (.int .u8 (← Rtype.kind t))) Tryd.func98 (by kernel_rfl) (by kernel_rfl) (by kernel_rfl) (by kernel_rfl)
  have hext67 := @run_callFunc_extern Tryd.prog 112 _ (ReflectliteType.method ReflectliteType.elem) Tryd.func112 (by kernel_rfl) (by kernel_rfl) (by kernel_rfl) (by kernel_rfl)
  have hext68 := @run_callFunc_extern Tryd.prog 113 _ (ReflectliteType.relation "Implements" ReflectliteType.implements_) Tryd.func113 (by kernel_rfl) (by kernel_rfl) (by kernel_rfl) (by kernel_rfl)
  have f6 := vOfT
  have f7 := typeT
  have mK := methodKind
  have mE := methodElem
  have mI := methodImplements
  have k27 := kindT
  have k25 := kindE
  have e27 := elemT
  have i25 := implementsE
  have htl := lt_of_cell ht
  have hgl := lt_of_cell hg
  have n8 := isNilT ⟨w.heap.size, 0, none⟩ t ((w.alloc (.cells #[.pointer (some t)] 148)).alloc (.cells #[.pointer (some ⟨7, 148, none⟩), .pointer (some ⟨w.heap.size, 0, none⟩), .int .u64 150] 73)) (by simp)
  have hg2 : ((w.alloc (.cells #[.pointer (some t)] 148)).alloc (.cells #[.pointer (some ⟨7, 148, none⟩), .pointer (some ⟨w.heap.size, 0, none⟩), .int .u64 150] 73)).cell? ⟨2, 0, none⟩ = some (.iface 104 (.agg #[.pointer (some ⟨7, 36, none⟩)])) := by
    rw [World.cell?_alloc_lt _ _ _ (by simp at hgl ⊢; omega), World.cell?_alloc_lt _ _ _ hgl]; exact hg
  have H := h (.iface 148 (.pointer (some t))) ⟨w.heap.size, 0, none⟩ t old ((w.alloc (.cells #[.pointer (some t)] 148)).alloc (.cells #[.pointer (some ⟨7, 148, none⟩), .pointer (some ⟨w.heap.size, 0, none⟩), .int .u64 150] 73))
    (by simp)
    (by rw [World.cell?_alloc_lt _ _ t (by simp; omega), World.cell?_alloc_lt _ _ t htl]; exact ht)
    (by rw [World.frozen?_alloc_old _ _ t (by simp; omega), World.frozen?_alloc_old _ _ t (Nat.ne_of_lt htl)]; exact hf)
  clear h
  go_enter Tryd.func37, Tryd.ntmps37
  go_wp2_with (go_at_call 53; refine H.mono ?_; rintro e w' ⟨rfl, hb⟩)
  go_ret
  exact ⟨rfl, (((Below.refl _ _).alloc (by omega) _).alloc (by simp; omega) _).trans hb⟩

end Go.Proofs.YtgapoofalnakmaaDoor.C
