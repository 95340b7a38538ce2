/- What errors.As and errors.Is answer where package filt asks them (errors.As at a noBytes). Conditions: none. -/
import Derived.Test.YtmenllnokgjdlaaGreatDoorG43
set_option maxRecDepth 100000
namespace Go.Proofs.YtmenllnokgjdlaaGreatDoor.G.V
open Go.RowKit Go.Extern.Stop Go.Stop Go.Extern G
open D (H_ un)
def AsGives (err : Value) (b : Bool) : Prop := ∀ (tg : Value) (va t : Addr) (old : Value) (w : World), w.cell? va = some (.pointer (some t)) -> w.cell? t = some old -> w.frozen? t = false ->
  Calls Tryz.prog 85 #[err, tg, .agg #[.pointer (some ⟨29, 86, none⟩), .pointer (some va), .int .u64 150], .iface 180 (.agg #[.pointer (some ⟨29, 62, none⟩)])] w
   fun e w' => e = .returned (.bool b) /\ Below (lim b t.block w.heap.size) w w'
theorem asS (n : Nat) (a : Addr) (v : Value) (h : Ch n (sen a) v) : AsGives v false := by
 intro tg va t old w hv ht hf
 have hext36 := @run_callFunc_extern Tryz.prog 86 _ ReflectliteType.typeOf Tryz.func86 (by kernel_rfl) (by kernel_rfl) (by kernel_rfl) (by kernel_rfl)
 have hext65 := @run_callFunc_extern Tryz.prog 282 _ (ReflectliteType.relation "AssignableTo" ReflectliteType.assignableTo) Tryz.func282 (by kernel_rfl) (by kernel_rfl) (by kernel_rfl) (by kernel_rfl)
 have h1 := typeOfS
 have h1' := typeOfF
 have h2 := assignS
 have h2' := assignF
 have h3 := methodAssignableTo
 have h5 := noAsF
 have h5' := noAsS
 have h6' := noUnwS
 have h6'' := noUnwsS
 have h6 := unwF
 have h7 := methodUnwrap
 have htl := lt_of_cell ht
 have hvl := lt_of_cell hv
 have H := H_ h
 obtain ⟨w1, hw1⟩ : ∃ w1, w1 = w.alloc (.cells #[.pointer (some ⟨29, 86, none⟩), .pointer (some va), .int .u64 150] 135) := ⟨_, rfl⟩
 have hb1 : Hid (Below w.heap.size w w1) := H_ (by rw [hw1]; exact (Below.refl _ _).alloc (Nat.le_refl _) _)
 have HC := H_ (show w1.heap[w.heap.size]? = some (.cells #[.pointer (some ⟨29, 86, none⟩), .pointer (some va), .int .u64 150] 135 (0, 0)) by rw [hw1]; exact World.alloc_heap_new w _)
 have Hv := H_ hv
 have Ht := H_ ht
 have Hf := H_ hf
 obtain ⟨vT, vx, rfl⟩ := h.shape ⟨_, _, rfl⟩
 clear h hv ht hf
 go_enter Tryz.func85, Tryz.ntmps85
 go_wp2
 rw [<- hw1]
 clear hw1
 go_loopw [0] (fun y wr => ∃ m, Hid (Ch m (sen a) y) /\ Hid (Below w1.heap.size w1 wr)) (fun y _ => dep (sen a) y)
 case atStart => exact ⟨n, H, H_ (Below.refl _ _)⟩
 case round =>
  obtain ⟨m, hc, hb⟩ := hrel
  clear H
  cases m with
  | zero =>
   obtain rfl := un hc
   clear hc
   go_wp2
   go_ret
   exact ⟨rfl, (un hb1).trans ((un hb).mono (un hb1).size)⟩
  | succ m =>
   obtain ⟨k, u, rfl, hu⟩ := un hc
   have Hd := H_ (dep_eq (nf_s a) (un hc))
   obtain ⟨uT, ux, rfl⟩ := hu.shape ⟨_, _, rfl⟩
   have Hd2 := H_ (dep_eq (nf_s a) hu)
   have HU := H_ hu
   clear hc hu
   go_wp2
   go_roundw
   case rel => exact ⟨m, HU, H_ ((un hb).alloc (un hb).size _)⟩
   case measure =>
    have e1 := un Hd
    have e2 := un Hd2
    have e3 : dep (sen a) (.iface uT ux) < dep (sen a) (flt k (.iface uT ux)) := by omega
    exact e3
theorem asE (n : Nat) (j : Int) (v : Value) (h : Ch n (nov j) v) : AsGives v true := by
 intro tg va t old w hv ht hf
 have hext36 := @run_callFunc_extern Tryz.prog 86 _ ReflectliteType.typeOf Tryz.func86 (by kernel_rfl) (by kernel_rfl) (by kernel_rfl) (by kernel_rfl)
 have hext65 := @run_callFunc_extern Tryz.prog 282 _ (ReflectliteType.relation "AssignableTo" ReflectliteType.assignableTo) Tryz.func282 (by kernel_rfl) (by kernel_rfl) (by kernel_rfl) (by kernel_rfl)
 have hext39 := @run_callFunc_extern Tryz.prog 118 _ (ReflectliteValue.method (ReflectliteValue.valueError "reflectlite.Value.Elem" 0) ReflectliteValue.elem) Tryz.func118 (by kernel_rfl) (by kernel_rfl) (by kernel_rfl) (by kernel_rfl)
 have hext40 := @run_callFunc_extern Tryz.prog 119 _ ReflectliteValue.set Tryz.func119 (by kernel_rfl) (by kernel_rfl) (by kernel_rfl) (by kernel_rfl)
 have hext32 := @run_callFunc_extern Tryz.prog 82 _ (fun args => ReflectliteValue.unpack (args.getD 0 (.tuple #[]))) Tryz.func82 (by kernel_rfl) (by kernel_rfl) (by kernel_rfl) (by kernel_rfl)
 have h1 := typeOfE
 have h1' := typeOfF
 have h2 := assignE
 have h2' := assignF
 have h3 := methodAssignableTo
 have h5 := noAsF
 have h4 := vOfE
 have h6 := unwF
 have h7 := methodUnwrap
 have htl := lt_of_cell ht
 have hvl := lt_of_cell hv
 have H := H_ h
 obtain ⟨w1, hw1⟩ : ∃ w1, w1 = w.alloc (.cells #[.pointer (some ⟨29, 86, none⟩), .pointer (some va), .int .u64 150] 135) := ⟨_, rfl⟩
 have hb1 : Hid (Below w.heap.size w w1) := H_ (by rw [hw1]; exact (Below.refl _ _).alloc (Nat.le_refl _) _)
 have HC := H_ (show w1.heap[w.heap.size]? = some (.cells #[.pointer (some ⟨29, 86, none⟩), .pointer (some va), .int .u64 150] 135 (0, 0)) by rw [hw1]; exact World.alloc_heap_new w _)
 have Hv := H_ hv
 have Ht := H_ ht
 have Hf := H_ hf
 obtain ⟨vT, vx, rfl⟩ := h.shape ⟨_, _, rfl⟩
 clear h hv ht hf
 go_enter Tryz.func85, Tryz.ntmps85
 go_wp2
 rw [<- hw1]
 clear hw1
 go_loopw [0] (fun y wr => ∃ m, Hid (Ch m (nov j) y) /\ Hid (Below w1.heap.size w1 wr)) (fun y _ => dep (nov j) y)
 case atStart => exact ⟨n, H, H_ (Below.refl _ _)⟩
 case round =>
  obtain ⟨m, hc, hb⟩ := hrel
  clear H
  cases m with
  | zero =>
   obtain rfl := un hc
   clear hc
   have hall : Below w.heap.size w wr := (un hb1).trans ((un hb).mono (un hb1).size)
   have el := elemVT va t wr ((hall.cell hvl).trans (un Hv))
   have st := setE t ⟨wr.heap.size, 0, none⟩ j old (wr.alloc (.cells #[.int .i64 j] 62))
    (by rw [World.cell?_alloc_at _ _ _ _ (by simp)]; rfl)
    (by rw [World.cell?_alloc_lt _ _ t (by have := hall.size; omega)]; exact (hall.cell htl).trans (un Ht))
    (by
     rw [World.frozen?_alloc_old _ _ t (by have := hall.size; omega)]
     have e := hall.block _ htl
     have e2 := un Hf
     unfold World.frozen? at e2 ⊢
     rw [e]; exact e2)
   have hcb : wr.heap[w.heap.size]? = some (.cells #[.pointer (some ⟨29, 86, none⟩), .pointer (some va), .int .u64 150] 135 (0, 0)) := ((un hb).block _ (Array.getElem?_eq_some_iff.1 (un HC)).1).trans (un HC)
   have c0 : wr.cell? ⟨w.heap.size, 0, none⟩ = some (.pointer (some ⟨29, 86, none⟩)) := by simp [World.cell?, hcb]
   have c1 : wr.cell? ⟨w.heap.size, 1, none⟩ = some (.pointer (some va)) := by simp [World.cell?, hcb]
   have c2 : wr.cell? ⟨w.heap.size, 2, none⟩ = some (.int .u64 150) := by simp [World.cell?, hcb]
   have Hall := H_ hall
   clear hall hcb
   go_wp2
   go_ret
   exact ⟨rfl, (((un Hall).alloc (un Hall).size _).mono (Nat.le_of_lt htl)).setCell (Nat.le_refl _) _⟩
  | succ m =>
   obtain ⟨k, u, rfl, hu⟩ := un hc
   have Hd := H_ (dep_eq (nf_v j) (un hc))
   obtain ⟨uT, ux, rfl⟩ := hu.shape ⟨_, _, rfl⟩
   have Hd2 := H_ (dep_eq (nf_v j) hu)
   have HU := H_ hu
   clear hc hu
   go_wp2
   go_roundw
   case rel => exact ⟨m, HU, H_ ((un hb).alloc (un hb).size _)⟩
   case measure =>
    have e1 := un Hd
    have e2 := un Hd2
    have e3 : dep (nov j) (.iface uT ux) < dep (nov j) (flt k (.iface uT ux)) := by omega
    exact e3
theorem As_gives (T : TypeId) (v : Value) (b : Bool) (h : AsGives (.iface T v) b) (t : Addr) (old : Value) (w : World)
  (hg : w.cell? ⟨15, 0, none⟩ = some (.iface 180 (.agg #[.pointer (some ⟨29, 52, none⟩)]))) (ht : w.cell? t = some old) (hf : w.frozen? t = false) :
  Calls Tryz.prog 54 #[.iface T v, .iface 86 (.pointer (some t))] w fun e w' => e = .returned (.bool b) /\ Below (lim b t.block w.heap.size) w w' := by
 have hext32 := @run_callFunc_extern Tryz.prog 82 _ (fun args => ReflectliteValue.unpack (args.getD 0 (.tuple #[]))) Tryz.func82 (by kernel_rfl) (by kernel_rfl) (by kernel_rfl) (by kernel_rfl)
 have hext33 := @run_callFunc_extern Tryz.prog 83 _ (ReflectliteValue.methodAny (ReflectliteValue.valueError "reflectlite.Value.Type" 0) (fun t _ _ _ => ReflectliteType.toType t)) Tryz.func83 (by kernel_rfl) (by kernel_rfl) (by kernel_rfl) (by kernel_rfl)
 have hext34 := @run_callFunc_extern Tryz.prog 84 _ (ReflectliteValue.method (ReflectliteValue.valueError "reflectlite.Value.IsNil" 0) ReflectliteValue.isNil) Tryz.func84 (by kernel_rfl) (by kernel_rfl) (by kernel_rfl) (by kernel_rfl)
 have hext55 := @run_callFunc_extern Tryz.prog 264 _ (ReflectliteType.abiMethod fun t => do pure (.int .u8 (<- Rtype.kind t))) Tryz.func264 (by kernel_rfl) (by kernel_rfl) (by kernel_rfl) (by kernel_rfl)
 have hext67 := @run_callFunc_extern Tryz.prog 284 _ (ReflectliteType.method ReflectliteType.elem) Tryz.func284 (by kernel_rfl) (by kernel_rfl) (by kernel_rfl) (by kernel_rfl)
 have hext68 := @run_callFunc_extern Tryz.prog 285 _ (ReflectliteType.relation "Implements" ReflectliteType.implements_) Tryz.func285 (by kernel_rfl) (by kernel_rfl) (by kernel_rfl) (by kernel_rfl)
 have f6 := vOfT
 have f7 := typeT
 have mK := methodKind
 have mE := methodElem
 have mI := methodImplements
 have k27 := kindT
 have k25 := kindE
 have e27 := elemT
 have i25 := implementsE
 have htl := lt_of_cell ht
 have hgl := lt_of_cell hg
 have n8 := isNilT ⟨w.heap.size, 0, none⟩ t ((w.alloc (.cells #[.pointer (some t)] 86)).alloc (.cells #[.pointer (some ⟨29, 86, none⟩), .pointer (some ⟨w.heap.size, 0, none⟩), .int .u64 150] 135)) (by simp)
 have hg2 : ((w.alloc (.cells #[.pointer (some t)] 86)).alloc (.cells #[.pointer (some ⟨29, 86, none⟩), .pointer (some ⟨w.heap.size, 0, none⟩), .int .u64 150] 135)).cell? ⟨15, 0, none⟩ = some (.iface 180 (.agg #[.pointer (some ⟨29, 52, none⟩)])) := by
  rw [World.cell?_alloc_lt _ _ _ (by simp at hgl ⊢; omega), World.cell?_alloc_lt _ _ _ hgl]; exact hg
 have H := h (.iface 86 (.pointer (some t))) ⟨w.heap.size, 0, none⟩ t old ((w.alloc (.cells #[.pointer (some t)] 86)).alloc (.cells #[.pointer (some ⟨29, 86, none⟩), .pointer (some ⟨w.heap.size, 0, none⟩), .int .u64 150] 135))
  (by simp)
  (by rw [World.cell?_alloc_lt _ _ t (by simp; omega), World.cell?_alloc_lt _ _ t htl]; exact ht)
  (by rw [World.frozen?_alloc_old _ _ t (by simp; omega), World.frozen?_alloc_old _ _ t (Nat.ne_of_lt htl)]; exact hf)
 clear h
 go_enter Tryz.func54, Tryz.ntmps54
 go_wp2_with (go_at_call 85; refine H.mono ?_; rintro e w' ⟨rfl, hb⟩)
 go_ret
 refine ⟨rfl, ?_⟩
 cases b with
 | false => exact (((Below.refl _ _).alloc (Nat.le_refl _) _).alloc (by simp) _).trans (Below.mono hb (by simp [lim]; omega))
 | true => exact (((Below.refl _ _).alloc (by simp [lim]; omega) _).alloc (by simp [lim]; omega) _).trans hb
end Go.Proofs.YtmenllnokgjdlaaGreatDoor.G.V
