/- Several texts in one: GErrsI, GErrsK, GErrsV, TDoorW, GErrno, GBuild, GDoorE, GPure2. Each says what it proves, and its conditions. -/
import Derived.Test.YtmenllnokgjdlaaGreatDoorG35
set_option linter.unusedSimpArgs false
set_option maxHeartbeats 4000000
set_option maxRecDepth 100000
/-
 What errors.As and errors.Is answer where package filt asks them (errors.Is). Conditions: none.
-/
namespace Go.Proofs.YtmenllnokgjdlaaGreatDoor.G
open Go.RowKit Go.Extern.Stop Go.Stop Go.Extern G.K
open D (H_ un)
theorem isY (n : Nat) (a : Addr) (v : Value) (h : Ch n (sen a) v) (w : World) :
  Calls Tryz.prog 87 #[v, sen a, .bool true] w fun e w' => e = .returned (.bool true) /\ Below w.heap.size w w' := by
 obtain ⟨i, hi, hcmp⟩ := Option.map_eq_some_iff.1 compS
 obtain ⟨j, hj, hjs⟩ := Option.map_eq_some_iff.1 sizeS
 have nW := noIsF
 have nE := noIsS
 have uW := unwF
 have uE := noUnwS
 have vE := noUnwsS
 have mU := methodUnwrap
 have heq := fun w => run_eql_iface_ptr_same (P := Tryz.prog) w a Tryz.underlying52 Tryz.underlying350 hi hcmp hj
 have hty := fun (x : Array Value) (b : Option Addr) (w : World) => run_eql_iface_types (P := Tryz.prog) 64 350 (.agg x) (.pointer b) Tryz.underlying52 (by decide) w
 have H := H_ h
 obtain ⟨vT, vx, rfl⟩ := h.shape ⟨_, _, rfl⟩
 clear h
 go_enter Tryz.func87, Tryz.ntmps87
 go_wp2
 go_loopw [0] (fun y wr => ∃ m, Hid (Ch m (sen a) y) /\ Hid (Below w.heap.size w wr)) (fun y _ => dep (sen a) y)
 case atStart => exact ⟨n, H, H_ (Below.refl _ _)⟩
 case round =>
  obtain ⟨m, hc, hb⟩ := hrel
  clear H
  cases m with
  | zero =>
   obtain rfl := un hc
   clear hc
   go_wp2
   go_ret
   exact ⟨rfl, un hb⟩
  | succ m =>
   obtain ⟨k, u, rfl, hu⟩ := un hc
   have Hd := H_ (dep_eq (nf_s a) (un hc))
   obtain ⟨uT, ux, rfl⟩ := hu.shape ⟨_, _, rfl⟩
   have Hd2 := H_ (dep_eq (nf_s a) hu)
   have HU := H_ hu
   clear hc hu
   go_wp2
   go_roundw
   case rel => exact ⟨m, HU, H_ ((un hb).alloc (un hb).size _)⟩
   case measure =>
    have e1 := un Hd
    have e2 := un Hd2
    have e3 : dep (sen a) (.iface uT ux) < dep (sen a) (flt k (.iface uT ux)) := by omega
    exact e3
theorem IsY (n : Nat) (a : Addr) (v : Value) (h : Ch n (sen a) v) (w : World) :
  Calls Tryz.prog 55 #[v, sen a] w fun e w' => e = .returned (.bool true) /\ Below w.heap.size w w' := by
 have hext36 := @run_callFunc_extern Tryz.prog 86 _ ReflectliteType.typeOf Tryz.func86 (by kernel_rfl) (by kernel_rfl) (by kernel_rfl) (by kernel_rfl)
 obtain ⟨ext, hfind, cT⟩ := cmpExt
 have hext66 := @run_callFunc_extern Tryz.prog 283 _ ext Tryz.func283 (by kernel_rfl) (by kernel_rfl) (by kernel_rfl) hfind
 clear hfind
 have tT := typeOfS
 have mR := methodComparable
 have H := H_ (isY n a v h w)
 obtain ⟨vT, vx, rfl⟩ := h.shape ⟨_, _, rfl⟩
 clear h
 go_enter Tryz.func55, Tryz.ntmps55
 go_wp2_with fail
 refine (un H).mono ?_
 rintro e w1 ⟨rfl, hb⟩
 have HB := H_ hb
 clear hb H
 go_wp2
 go_ret
 exact ⟨rfl, un HB⟩
theorem isN (n : Nat) (a : Addr) (v : Value) (h : Ch n (sen a) v) (w : World) (b : Addr) (hne : a ≠ b) (hx : ∃ c t, w.heap[a.block]? = some (.cells c t (0, 0))) (hy : ∃ c t, w.heap[b.block]? = some (.cells c t (0, 0))) :
  Calls Tryz.prog 87 #[v, sen b, .bool true] w fun e w' => e = .returned (.bool false) /\ Below w.heap.size w w' := by
 obtain ⟨i, hi, hcmp⟩ := Option.map_eq_some_iff.1 compS
 obtain ⟨j, hj, hjs⟩ := Option.map_eq_some_iff.1 sizeS
 have nW := noIsF
 have nE := noIsS
 have uW := unwF
 have uE := noUnwS
 have vE := noUnwsS
 have mU := methodUnwrap
 obtain ⟨ca, ta, ha⟩ := hx
 obtain ⟨cb, tb, hb⟩ := hy
 have heq := H_ fun (w' : World) (hbw : Below w.heap.size w w') => run_eql_iface_ptr_other (P := Tryz.prog) w' Tryz.underlying52 Tryz.underlying350 hi hcmp hj (by rw [hjs]; decide) hne ((hbw.block _ (Array.getElem?_eq_some_iff.1 ha).1).trans ha) ((hbw.block _ (Array.getElem?_eq_some_iff.1 hb).1).trans hb)
 clear ha hb
 have hty := fun (x : Array Value) (b : Option Addr) (w : World) => run_eql_iface_types (P := Tryz.prog) 64 350 (.agg x) (.pointer b) Tryz.underlying52 (by decide) w
 have H := H_ h
 obtain ⟨vT, vx, rfl⟩ := h.shape ⟨_, _, rfl⟩
 clear h
 go_enter Tryz.func87, Tryz.ntmps87
 go_wp2
 go_loopw [0] (fun y wr => ∃ m, Hid (Ch m (sen a) y) /\ Hid (Below w.heap.size w wr)) (fun y _ => dep (sen a) y)
 case atStart => exact ⟨n, H, H_ (Below.refl _ _)⟩
 case round =>
  obtain ⟨m, hc, hb⟩ := hrel
  clear H
  cases m with
  | zero =>
   obtain rfl := un hc
   clear hc
   have heq2 := (un heq) wr (un hb)
   go_wp2
   go_ret
   exact ⟨rfl, un hb⟩
  | succ m =>
   obtain ⟨k, u, rfl, hu⟩ := un hc
   have Hd := H_ (dep_eq (nf_s a) (un hc))
   obtain ⟨uT, ux, rfl⟩ := hu.shape ⟨_, _, rfl⟩
   have Hd2 := H_ (dep_eq (nf_s a) hu)
   have HU := H_ hu
   clear hc hu
   go_wp2
   go_roundw
   case rel => exact ⟨m, HU, H_ ((un hb).alloc (un hb).size _)⟩
   case measure =>
    have e1 := un Hd
    have e2 := un Hd2
    have e3 : dep (sen a) (.iface uT ux) < dep (sen a) (flt k (.iface uT ux)) := by omega
    exact e3
theorem IsN (n : Nat) (a : Addr) (v : Value) (h : Ch n (sen a) v) (w : World) (b : Addr) (hne : a ≠ b) (hx : ∃ c t, w.heap[a.block]? = some (.cells c t (0, 0))) (hy : ∃ c t, w.heap[b.block]? = some (.cells c t (0, 0))) :
  Calls Tryz.prog 55 #[v, sen b] w fun e w' => e = .returned (.bool false) /\ Below w.heap.size w w' := by
 have hext36 := @run_callFunc_extern Tryz.prog 86 _ ReflectliteType.typeOf Tryz.func86 (by kernel_rfl) (by kernel_rfl) (by kernel_rfl) (by kernel_rfl)
 obtain ⟨ext, hfind, cT⟩ := cmpExt
 have hext66 := @run_callFunc_extern Tryz.prog 283 _ ext Tryz.func283 (by kernel_rfl) (by kernel_rfl) (by kernel_rfl) hfind
 clear hfind
 have tT := typeOfS
 have mR := methodComparable
 have H := H_ (isN n a v h w b hne hx hy)
 obtain ⟨vT, vx, rfl⟩ := h.shape ⟨_, _, rfl⟩
 clear h hx hy
 go_enter Tryz.func55, Tryz.ntmps55
 go_wp2_with fail
 refine (un H).mono ?_
 rintro e w1 ⟨rfl, hb⟩
 have HB := H_ hb
 clear hb H
 go_wp2
 go_ret
 exact ⟨rfl, un HB⟩
end Go.Proofs.YtmenllnokgjdlaaGreatDoor.G
/-
 What errors.As and errors.Is answer where package filt asks them (errors.As at a noKind). Conditions: none.
-/
namespace Go.Proofs.YtmenllnokgjdlaaGreatDoor.G.K
open Go.RowKit Go.Extern.Stop Go.Stop Go.Extern G
open D (H_ un)
def AsGives (err : Value) (b : Bool) : Prop := ∀ (tg : Value) (va t : Addr) (old : Value) (w : World), w.cell? va = some (.pointer (some t)) -> w.cell? t = some old -> w.frozen? t = false ->
  Calls Tryz.prog 85 #[err, tg, .agg #[.pointer (some ⟨29, 85, none⟩), .pointer (some va), .int .u64 150], .iface 180 (.agg #[.pointer (some ⟨29, 83, none⟩)])] w
   fun e w' => e = .returned (.bool b) /\ Below (lim b t.block w.heap.size) w w'
theorem asS (n : Nat) (a : Addr) (v : Value) (h : Ch n (sen a) v) : AsGives v false := by
 intro tg va t old w hv ht hf
 have hext36 := @run_callFunc_extern Tryz.prog 86 _ ReflectliteType.typeOf Tryz.func86 (by kernel_rfl) (by kernel_rfl) (by kernel_rfl) (by kernel_rfl)
 have hext65 := @run_callFunc_extern Tryz.prog 282 _ (ReflectliteType.relation "AssignableTo" ReflectliteType.assignableTo) Tryz.func282 (by kernel_rfl) (by kernel_rfl) (by kernel_rfl) (by kernel_rfl)
 have h1 := typeOfS
 have h1' := typeOfF
 have h2 := assignS
 have h2' := assignF
 have h3 := methodAssignableTo
 have h5 := noAsF
 have h5' := noAsS
 have h6' := noUnwS
 have h6'' := noUnwsS
 have h6 := unwF
 have h7 := methodUnwrap
 have htl := lt_of_cell ht
 have hvl := lt_of_cell hv
 have H := H_ h
 obtain ⟨w1, hw1⟩ : ∃ w1, w1 = w.alloc (.cells #[.pointer (some ⟨29, 85, none⟩), .pointer (some va), .int .u64 150] 135) := ⟨_, rfl⟩
 have hb1 : Hid (Below w.heap.size w w1) := H_ (by rw [hw1]; exact (Below.refl _ _).alloc (Nat.le_refl _) _)
 have HC := H_ (show w1.heap[w.heap.size]? = some (.cells #[.pointer (some ⟨29, 85, none⟩), .pointer (some va), .int .u64 150] 135 (0, 0)) by rw [hw1]; exact World.alloc_heap_new w _)
 have Hv := H_ hv
 have Ht := H_ ht
 have Hf := H_ hf
 obtain ⟨vT, vx, rfl⟩ := h.shape ⟨_, _, rfl⟩
 clear h hv ht hf
 go_enter Tryz.func85, Tryz.ntmps85
 go_wp2
 rw [<- hw1]
 clear hw1
 go_loopw [0] (fun y wr => ∃ m, Hid (Ch m (sen a) y) /\ Hid (Below w1.heap.size w1 wr)) (fun y _ => dep (sen a) y)
 case atStart => exact ⟨n, H, H_ (Below.refl _ _)⟩
 case round =>
  obtain ⟨m, hc, hb⟩ := hrel
  clear H
  cases m with
  | zero =>
   obtain rfl := un hc
   clear hc
   go_wp2
   go_ret
   exact ⟨rfl, (un hb1).trans ((un hb).mono (un hb1).size)⟩
  | succ m =>
   obtain ⟨k, u, rfl, hu⟩ := un hc
   have Hd := H_ (dep_eq (nf_s a) (un hc))
   obtain ⟨uT, ux, rfl⟩ := hu.shape ⟨_, _, rfl⟩
   have Hd2 := H_ (dep_eq (nf_s a) hu)
   have HU := H_ hu
   clear hc hu
   go_wp2
   go_roundw
   case rel => exact ⟨m, HU, H_ ((un hb).alloc (un hb).size _)⟩
   case measure =>
    have e1 := un Hd
    have e2 := un Hd2
    have e3 : dep (sen a) (.iface uT ux) < dep (sen a) (flt k (.iface uT ux)) := by omega
    exact e3
theorem asO (n : Nat) (j : Int) (v : Value) (h : Ch n (nov j) v) : AsGives v false := by
 intro tg va t old w hv ht hf
 have hext36 := @run_callFunc_extern Tryz.prog 86 _ ReflectliteType.typeOf Tryz.func86 (by kernel_rfl) (by kernel_rfl) (by kernel_rfl) (by kernel_rfl)
 have hext65 := @run_callFunc_extern Tryz.prog 282 _ (ReflectliteType.relation "AssignableTo" ReflectliteType.assignableTo) Tryz.func282 (by kernel_rfl) (by kernel_rfl) (by kernel_rfl) (by kernel_rfl)
 have h1 := typeOfO
 have h1' := typeOfF
 have h2 := assignO
 have h2' := assignF
 have h3 := methodAssignableTo
 have h5 := noAsF
 have h5' := noAsO
 have h6' := noUnwO
 have h6'' := noUnwsO
 have h6 := unwF
 have h7 := methodUnwrap
 have htl := lt_of_cell ht
 have hvl := lt_of_cell hv
 have H := H_ h
 obtain ⟨w1, hw1⟩ : ∃ w1, w1 = w.alloc (.cells #[.pointer (some ⟨29, 85, none⟩), .pointer (some va), .int .u64 150] 135) := ⟨_, rfl⟩
 have hb1 : Hid (Below w.heap.size w w1) := H_ (by rw [hw1]; exact (Below.refl _ _).alloc (Nat.le_refl _) _)
 have HC := H_ (show w1.heap[w.heap.size]? = some (.cells #[.pointer (some ⟨29, 85, none⟩), .pointer (some va), .int .u64 150] 135 (0, 0)) by rw [hw1]; exact World.alloc_heap_new w _)
 have Hv := H_ hv
 have Ht := H_ ht
 have Hf := H_ hf
 obtain ⟨vT, vx, rfl⟩ := h.shape ⟨_, _, rfl⟩
 clear h hv ht hf
 go_enter Tryz.func85, Tryz.ntmps85
 go_wp2
 rw [<- hw1]
 clear hw1
 go_loopw [0] (fun y wr => ∃ m, Hid (Ch m (nov j) y) /\ Hid (Below w1.heap.size w1 wr)) (fun y _ => dep (nov j) y)
 case atStart => exact ⟨n, H, H_ (Below.refl _ _)⟩
 case round =>
  obtain ⟨m, hc, hb⟩ := hrel
  clear H
  cases m with
  | zero =>
   obtain rfl := un hc
   clear hc
   go_wp2
   go_ret
   exact ⟨rfl, (un hb1).trans ((un hb).mono (un hb1).size)⟩
  | succ m =>
   obtain ⟨k, u, rfl, hu⟩ := un hc
   have Hd := H_ (dep_eq (nf_v j) (un hc))
   obtain ⟨uT, ux, rfl⟩ := hu.shape ⟨_, _, rfl⟩
   have Hd2 := H_ (dep_eq (nf_v j) hu)
   have HU := H_ hu
   clear hc hu
   go_wp2
   go_roundw
   case rel => exact ⟨m, HU, H_ ((un hb).alloc (un hb).size _)⟩
   case measure =>
    have e1 := un Hd
    have e2 := un Hd2
    have e3 : dep (nov j) (.iface uT ux) < dep (nov j) (flt k (.iface uT ux)) := by omega
    exact e3
theorem asE (n : Nat) (j : Int) (v : Value) (h : Ch n (nok j) v) : AsGives v true := by
 intro tg va t old w hv ht hf
 have hext36 := @run_callFunc_extern Tryz.prog 86 _ ReflectliteType.typeOf Tryz.func86 (by kernel_rfl) (by kernel_rfl) (by kernel_rfl) (by kernel_rfl)
 have hext65 := @run_callFunc_extern Tryz.prog 282 _ (ReflectliteType.relation "AssignableTo" ReflectliteType.assignableTo) Tryz.func282 (by kernel_rfl) (by kernel_rfl) (by kernel_rfl) (by kernel_rfl)
 have hext39 := @run_callFunc_extern Tryz.prog 118 _ (ReflectliteValue.method (ReflectliteValue.valueError "reflectlite.Value.Elem" 0) ReflectliteValue.elem) Tryz.func118 (by kernel_rfl) (by kernel_rfl) (by kernel_rfl) (by kernel_rfl)
 have hext40 := @run_callFunc_extern Tryz.prog 119 _ ReflectliteValue.set Tryz.func119 (by kernel_rfl) (by kernel_rfl) (by kernel_rfl) (by kernel_rfl)
 have hext32 := @run_callFunc_extern Tryz.prog 82 _ (fun args => ReflectliteValue.unpack (args.getD 0 (.tuple #[]))) Tryz.func82 (by kernel_rfl) (by kernel_rfl) (by kernel_rfl) (by kernel_rfl)
 have h1 := typeOfE
 have h1' := typeOfF
 have h2 := assignE
 have h2' := assignF
 have h3 := methodAssignableTo
 have h5 := noAsF
 have h4 := vOfE
 have h6 := unwF
 have h7 := methodUnwrap
 have htl := lt_of_cell ht
 have hvl := lt_of_cell hv
 have H := H_ h
 obtain ⟨w1, hw1⟩ : ∃ w1, w1 = w.alloc (.cells #[.pointer (some ⟨29, 85, none⟩), .pointer (some va), .int .u64 150] 135) := ⟨_, rfl⟩
 have hb1 : Hid (Below w.heap.size w w1) := H_ (by rw [hw1]; exact (Below.refl _ _).alloc (Nat.le_refl _) _)
 have HC := H_ (show w1.heap[w.heap.size]? = some (.cells #[.pointer (some ⟨29, 85, none⟩), .pointer (some va), .int .u64 150] 135 (0, 0)) by rw [hw1]; exact World.alloc_heap_new w _)
 have Hv := H_ hv
 have Ht := H_ ht
 have Hf := H_ hf
 obtain ⟨vT, vx, rfl⟩ := h.shape ⟨_, _, rfl⟩
 clear h hv ht hf
 go_enter Tryz.func85, Tryz.ntmps85
 go_wp2
 rw [<- hw1]
 clear hw1
 go_loopw [0] (fun y wr => ∃ m, Hid (Ch m (nok j) y) /\ Hid (Below w1.heap.size w1 wr)) (fun y _ => dep (nok j) y)
 case atStart => exact ⟨n, H, H_ (Below.refl _ _)⟩
 case round =>
  obtain ⟨m, hc, hb⟩ := hrel
  clear H
  cases m with
  | zero =>
   obtain rfl := un hc
   clear hc
   have hall : Below w.heap.size w wr := (un hb1).trans ((un hb).mono (un hb1).size)
   have el := elemVT va t wr ((hall.cell hvl).trans (un Hv))
   have st := setE t ⟨wr.heap.size, 0, none⟩ j old (wr.alloc (.cells #[.int .i64 j] 83))
    (by rw [World.cell?_alloc_at _ _ _ _ (by simp)]; rfl)
    (by rw [World.cell?_alloc_lt _ _ t (by have := hall.size; omega)]; exact (hall.cell htl).trans (un Ht))
    (by
     rw [World.frozen?_alloc_old _ _ t (by have := hall.size; omega)]
     have e := hall.block _ htl
     have e2 := un Hf
     unfold World.frozen? at e2 ⊢
     rw [e]; exact e2)
   have hcb : wr.heap[w.heap.size]? = some (.cells #[.pointer (some ⟨29, 85, none⟩), .pointer (some va), .int .u64 150] 135 (0, 0)) := ((un hb).block _ (Array.getElem?_eq_some_iff.1 (un HC)).1).trans (un HC)
   have c0 : wr.cell? ⟨w.heap.size, 0, none⟩ = some (.pointer (some ⟨29, 85, none⟩)) := by simp [World.cell?, hcb]
   have c1 : wr.cell? ⟨w.heap.size, 1, none⟩ = some (.pointer (some va)) := by simp [World.cell?, hcb]
   have c2 : wr.cell? ⟨w.heap.size, 2, none⟩ = some (.int .u64 150) := by simp [World.cell?, hcb]
   have Hall := H_ hall
   clear hall hcb
   go_wp2
   go_ret
   exact ⟨rfl, (((un Hall).alloc (un Hall).size _).mono (Nat.le_of_lt htl)).setCell (Nat.le_refl _) _⟩
  | succ m =>
   obtain ⟨k, u, rfl, hu⟩ := un hc
   have Hd := H_ (dep_eq (nf_k j) (un hc))
   obtain ⟨uT, ux, rfl⟩ := hu.shape ⟨_, _, rfl⟩
   have Hd2 := H_ (dep_eq (nf_k j) hu)
   have HU := H_ hu
   clear hc hu
   go_wp2
   go_roundw
   case rel => exact ⟨m, HU, H_ ((un hb).alloc (un hb).size _)⟩
   case measure =>
    have e1 := un Hd
    have e2 := un Hd2
    have e3 : dep (nok j) (.iface uT ux) < dep (nok j) (flt k (.iface uT ux)) := by omega
    exact e3
theorem As_gives (T : TypeId) (v : Value) (b : Bool) (h : AsGives (.iface T v) b) (t : Addr) (old : Value) (w : World)
  (hg : w.cell? ⟨15, 0, none⟩ = some (.iface 180 (.agg #[.pointer (some ⟨29, 52, none⟩)]))) (ht : w.cell? t = some old) (hf : w.frozen? t = false) :
  Calls Tryz.prog 54 #[.iface T v, .iface 85 (.pointer (some t))] w fun e w' => e = .returned (.bool b) /\ Below (lim b t.block w.heap.size) w w' := by
 have hext32 := @run_callFunc_extern Tryz.prog 82 _ (fun args => ReflectliteValue.unpack (args.getD 0 (.tuple #[]))) Tryz.func82 (by kernel_rfl) (by kernel_rfl) (by kernel_rfl) (by kernel_rfl)
 have hext33 := @run_callFunc_extern Tryz.prog 83 _ (ReflectliteValue.methodAny (ReflectliteValue.valueError "reflectlite.Value.Type" 0) (fun t _ _ _ => ReflectliteType.toType t)) Tryz.func83 (by kernel_rfl) (by kernel_rfl) (by kernel_rfl) (by kernel_rfl)
 have hext34 := @run_callFunc_extern Tryz.prog 84 _ (ReflectliteValue.method (ReflectliteValue.valueError "reflectlite.Value.IsNil" 0) ReflectliteValue.isNil) Tryz.func84 (by kernel_rfl) (by kernel_rfl) (by kernel_rfl) (by kernel_rfl)
 have hext55 := @run_callFunc_extern Tryz.prog 264 _ (ReflectliteType.abiMethod fun t => do pure (.int .u8 (<- Rtype.kind t))) Tryz.func264 (by kernel_rfl) (by kernel_rfl) (by kernel_rfl) (by kernel_rfl)
 have hext67 := @run_callFunc_extern Tryz.prog 284 _ (ReflectliteType.method ReflectliteType.elem) Tryz.func284 (by kernel_rfl) (by kernel_rfl) (by kernel_rfl) (by kernel_rfl)
 have hext68 := @run_callFunc_extern Tryz.prog 285 _ (ReflectliteType.relation "Implements" ReflectliteType.implements_) Tryz.func285 (by kernel_rfl) (by kernel_rfl) (by kernel_rfl) (by kernel_rfl)
 have f6 := vOfT
 have f7 := typeT
 have mK := methodKind
 have mE := methodElem
 have mI := methodImplements
 have k27 := kindT
 have k25 := kindE
 have e27 := elemT
 have i25 := implementsE
 have htl := lt_of_cell ht
 have hgl := lt_of_cell hg
 have n8 := isNilT ⟨w.heap.size, 0, none⟩ t ((w.alloc (.cells #[.pointer (some t)] 85)).alloc (.cells #[.pointer (some ⟨29, 85, none⟩), .pointer (some ⟨w.heap.size, 0, none⟩), .int .u64 150] 135)) (by simp)
 have hg2 : ((w.alloc (.cells #[.pointer (some t)] 85)).alloc (.cells #[.pointer (some ⟨29, 85, none⟩), .pointer (some ⟨w.heap.size, 0, none⟩), .int .u64 150] 135)).cell? ⟨15, 0, none⟩ = some (.iface 180 (.agg #[.pointer (some ⟨29, 52, none⟩)])) := by
  rw [World.cell?_alloc_lt _ _ _ (by simp at hgl ⊢; omega), World.cell?_alloc_lt _ _ _ hgl]; exact hg
 have H := h (.iface 85 (.pointer (some t))) ⟨w.heap.size, 0, none⟩ t old ((w.alloc (.cells #[.pointer (some t)] 85)).alloc (.cells #[.pointer (some ⟨29, 85, none⟩), .pointer (some ⟨w.heap.size, 0, none⟩), .int .u64 150] 135))
  (by simp)
  (by rw [World.cell?_alloc_lt _ _ t (by simp; omega), World.cell?_alloc_lt _ _ t htl]; exact ht)
  (by rw [World.frozen?_alloc_old _ _ t (by simp; omega), World.frozen?_alloc_old _ _ t (Nat.ne_of_lt htl)]; exact hf)
 clear h
 go_enter Tryz.func54, Tryz.ntmps54
 go_wp2_with (go_at_call 85; refine H.mono ?_; rintro e w' ⟨rfl, hb⟩)
 go_ret
 refine ⟨rfl, ?_⟩
 cases b with
 | false => exact (((Below.refl _ _).alloc (Nat.le_refl _) _).alloc (by simp) _).trans (Below.mono hb (by simp [lim]; omega))
 | true => exact (((Below.refl _ _).alloc (by simp [lim]; omega) _).alloc (by simp [lim]; omega) _).trans hb
end Go.Proofs.YtmenllnokgjdlaaGreatDoor.G.K
/-
 What errors.As and errors.Is answer where package filt asks them (errors.As at a noBytes). Conditions: none.
-/
namespace Go.Proofs.YtmenllnokgjdlaaGreatDoor.G.V
open Go.RowKit Go.Extern.Stop Go.Stop Go.Extern G
open D (H_ un)
def AsGives (err : Value) (b : Bool) : Prop := ∀ (tg : Value) (va t : Addr) (old : Value) (w : World), w.cell? va = some (.pointer (some t)) -> w.cell? t = some old -> w.frozen? t = false ->
  Calls Tryz.prog 85 #[err, tg, .agg #[.pointer (some ⟨29, 86, none⟩), .pointer (some va), .int .u64 150], .iface 180 (.agg #[.pointer (some ⟨29, 62, none⟩)])] w
   fun e w' => e = .returned (.bool b) /\ Below (lim b t.block w.heap.size) w w'
theorem asS (n : Nat) (a : Addr) (v : Value) (h : Ch n (sen a) v) : AsGives v false := by
 intro tg va t old w hv ht hf
 have hext36 := @run_callFunc_extern Tryz.prog 86 _ ReflectliteType.typeOf Tryz.func86 (by kernel_rfl) (by kernel_rfl) (by kernel_rfl) (by kernel_rfl)
 have hext65 := @run_callFunc_extern Tryz.prog 282 _ (ReflectliteType.relation "AssignableTo" ReflectliteType.assignableTo) Tryz.func282 (by kernel_rfl) (by kernel_rfl) (by kernel_rfl) (by kernel_rfl)
 have h1 := typeOfS
 have h1' := typeOfF
 have h2 := assignS
 have h2' := assignF
 have h3 := methodAssignableTo
 have h5 := noAsF
 have h5' := noAsS
 have h6' := noUnwS
 have h6'' := noUnwsS
 have h6 := unwF
 have h7 := methodUnwrap
 have htl := lt_of_cell ht
 have hvl := lt_of_cell hv
 have H := H_ h
 obtain ⟨w1, hw1⟩ : ∃ w1, w1 = w.alloc (.cells #[.pointer (some ⟨29, 86, none⟩), .pointer (some va), .int .u64 150] 135) := ⟨_, rfl⟩
 have hb1 : Hid (Below w.heap.size w w1) := H_ (by rw [hw1]; exact (Below.refl _ _).alloc (Nat.le_refl _) _)
 have HC := H_ (show w1.heap[w.heap.size]? = some (.cells #[.pointer (some ⟨29, 86, none⟩), .pointer (some va), .int .u64 150] 135 (0, 0)) by rw [hw1]; exact World.alloc_heap_new w _)
 have Hv := H_ hv
 have Ht := H_ ht
 have Hf := H_ hf
 obtain ⟨vT, vx, rfl⟩ := h.shape ⟨_, _, rfl⟩
 clear h hv ht hf
 go_enter Tryz.func85, Tryz.ntmps85
 go_wp2
 rw [<- hw1]
 clear hw1
 go_loopw [0] (fun y wr => ∃ m, Hid (Ch m (sen a) y) /\ Hid (Below w1.heap.size w1 wr)) (fun y _ => dep (sen a) y)
 case atStart => exact ⟨n, H, H_ (Below.refl _ _)⟩
 case round =>
  obtain ⟨m, hc, hb⟩ := hrel
  clear H
  cases m with
  | zero =>
   obtain rfl := un hc
   clear hc
   go_wp2
   go_ret
   exact ⟨rfl, (un hb1).trans ((un hb).mono (un hb1).size)⟩
  | succ m =>
   obtain ⟨k, u, rfl, hu⟩ := un hc
   have Hd := H_ (dep_eq (nf_s a) (un hc))
   obtain ⟨uT, ux, rfl⟩ := hu.shape ⟨_, _, rfl⟩
   have Hd2 := H_ (dep_eq (nf_s a) hu)
   have HU := H_ hu
   clear hc hu
   go_wp2
   go_roundw
   case rel => exact ⟨m, HU, H_ ((un hb).alloc (un hb).size _)⟩
   case measure =>
    have e1 := un Hd
    have e2 := un Hd2
    have e3 : dep (sen a) (.iface uT ux) < dep (sen a) (flt k (.iface uT ux)) := by omega
    exact e3
theorem asE (n : Nat) (j : Int) (v : Value) (h : Ch n (nov j) v) : AsGives v true := by
 intro tg va t old w hv ht hf
 have hext36 := @run_callFunc_extern Tryz.prog 86 _ ReflectliteType.typeOf Tryz.func86 (by kernel_rfl) (by kernel_rfl) (by kernel_rfl) (by kernel_rfl)
 have hext65 := @run_callFunc_extern Tryz.prog 282 _ (ReflectliteType.relation "AssignableTo" ReflectliteType.assignableTo) Tryz.func282 (by kernel_rfl) (by kernel_rfl) (by kernel_rfl) (by kernel_rfl)
 have hext39 := @run_callFunc_extern Tryz.prog 118 _ (ReflectliteValue.method (ReflectliteValue.valueError "reflectlite.Value.Elem" 0) ReflectliteValue.elem) Tryz.func118 (by kernel_rfl) (by kernel_rfl) (by kernel_rfl) (by kernel_rfl)
 have hext40 := @run_callFunc_extern Tryz.prog 119 _ ReflectliteValue.set Tryz.func119 (by kernel_rfl) (by kernel_rfl) (by kernel_rfl) (by kernel_rfl)
 have hext32 := @run_callFunc_extern Tryz.prog 82 _ (fun args => ReflectliteValue.unpack (args.getD 0 (.tuple #[]))) Tryz.func82 (by kernel_rfl) (by kernel_rfl) (by kernel_rfl) (by kernel_rfl)
 have h1 := typeOfE
 have h1' := typeOfF
 have h2 := assignE
 have h2' := assignF
 have h3 := methodAssignableTo
 have h5 := noAsF
 have h4 := vOfE
 have h6 := unwF
 have h7 := methodUnwrap
 have htl := lt_of_cell ht
 have hvl := lt_of_cell hv
 have H := H_ h
 obtain ⟨w1, hw1⟩ : ∃ w1, w1 = w.alloc (.cells #[.pointer (some ⟨29, 86, none⟩), .pointer (some va), .int .u64 150] 135) := ⟨_, rfl⟩
 have hb1 : Hid (Below w.heap.size w w1) := H_ (by rw [hw1]; exact (Below.refl _ _).alloc (Nat.le_refl _) _)
 have HC := H_ (show w1.heap[w.heap.size]? = some (.cells #[.pointer (some ⟨29, 86, none⟩), .pointer (some va), .int .u64 150] 135 (0, 0)) by rw [hw1]; exact World.alloc_heap_new w _)
 have Hv := H_ hv
 have Ht := H_ ht
 have Hf := H_ hf
 obtain ⟨vT, vx, rfl⟩ := h.shape ⟨_, _, rfl⟩
 clear h hv ht hf
 go_enter Tryz.func85, Tryz.ntmps85
 go_wp2
 rw [<- hw1]
 clear hw1
 go_loopw [0] (fun y wr => ∃ m, Hid (Ch m (nov j) y) /\ Hid (Below w1.heap.size w1 wr)) (fun y _ => dep (nov j) y)
 case atStart => exact ⟨n, H, H_ (Below.refl _ _)⟩
 case round =>
  obtain ⟨m, hc, hb⟩ := hrel
  clear H
  cases m with
  | zero =>
   obtain rfl := un hc
   clear hc
   have hall : Below w.heap.size w wr := (un hb1).trans ((un hb).mono (un hb1).size)
   have el := elemVT va t wr ((hall.cell hvl).trans (un Hv))
   have st := setE t ⟨wr.heap.size, 0, none⟩ j old (wr.alloc (.cells #[.int .i64 j] 62))
    (by rw [World.cell?_alloc_at _ _ _ _ (by simp)]; rfl)
    (by rw [World.cell?_alloc_lt _ _ t (by have := hall.size; omega)]; exact (hall.cell htl).trans (un Ht))
    (by
     rw [World.frozen?_alloc_old _ _ t (by have := hall.size; omega)]
     have e := hall.block _ htl
     have e2 := un Hf
     unfold World.frozen? at e2 ⊢
     rw [e]; exact e2)
   have hcb : wr.heap[w.heap.size]? = some (.cells #[.pointer (some ⟨29, 86, none⟩), .pointer (some va), .int .u64 150] 135 (0, 0)) := ((un hb).block _ (Array.getElem?_eq_some_iff.1 (un HC)).1).trans (un HC)
   have c0 : wr.cell? ⟨w.heap.size, 0, none⟩ = some (.pointer (some ⟨29, 86, none⟩)) := by simp [World.cell?, hcb]
   have c1 : wr.cell? ⟨w.heap.size, 1, none⟩ = some (.pointer (some va)) := by simp [World.cell?, hcb]
   have c2 : wr.cell? ⟨w.heap.size, 2, none⟩ = some (.int .u64 150) := by simp [World.cell?, hcb]
   have Hall := H_ hall
   clear hall hcb
   go_wp2
   go_ret
   exact ⟨rfl, (((un Hall).alloc (un Hall).size _).mono (Nat.le_of_lt htl)).setCell (Nat.le_refl _) _⟩
  | succ m =>
   obtain ⟨k, u, rfl, hu⟩ := un hc
   have Hd := H_ (dep_eq (nf_v j) (un hc))
   obtain ⟨uT, ux, rfl⟩ := hu.shape ⟨_, _, rfl⟩
   have Hd2 := H_ (dep_eq (nf_v j) hu)
   have HU := H_ hu
   clear hc hu
   go_wp2
   go_roundw
   case rel => exact ⟨m, HU, H_ ((un hb).alloc (un hb).size _)⟩
   case measure =>
    have e1 := un Hd
    have e2 := un Hd2
    have e3 : dep (nov j) (.iface uT ux) < dep (nov j) (flt k (.iface uT ux)) := by omega
    exact e3
theorem As_gives (T : TypeId) (v : Value) (b : Bool) (h : AsGives (.iface T v) b) (t : Addr) (old : Value) (w : World)
  (hg : w.cell? ⟨15, 0, none⟩ = some (.iface 180 (.agg #[.pointer (some ⟨29, 52, none⟩)]))) (ht : w.cell? t = some old) (hf : w.frozen? t = false) :
  Calls Tryz.prog 54 #[.iface T v, .iface 86 (.pointer (some t))] w fun e w' => e = .returned (.bool b) /\ Below (lim b t.block w.heap.size) w w' := by
 have hext32 := @run_callFunc_extern Tryz.prog 82 _ (fun args => ReflectliteValue.unpack (args.getD 0 (.tuple #[]))) Tryz.func82 (by kernel_rfl) (by kernel_rfl) (by kernel_rfl) (by kernel_rfl)
 have hext33 := @run_callFunc_extern Tryz.prog 83 _ (ReflectliteValue.methodAny (ReflectliteValue.valueError "reflectlite.Value.Type" 0) (fun t _ _ _ => ReflectliteType.toType t)) Tryz.func83 (by kernel_rfl) (by kernel_rfl) (by kernel_rfl) (by kernel_rfl)
 have hext34 := @run_callFunc_extern Tryz.prog 84 _ (ReflectliteValue.method (ReflectliteValue.valueError "reflectlite.Value.IsNil" 0) ReflectliteValue.isNil) Tryz.func84 (by kernel_rfl) (by kernel_rfl) (by kernel_rfl) (by kernel_rfl)
 have hext55 := @run_callFunc_extern Tryz.prog 264 _ (ReflectliteType.abiMethod fun t => do pure (.int .u8 (<- Rtype.kind t))) Tryz.func264 (by kernel_rfl) (by kernel_rfl) (by kernel_rfl) (by kernel_rfl)
 have hext67 := @run_callFunc_extern Tryz.prog 284 _ (ReflectliteType.method ReflectliteType.elem) Tryz.func284 (by kernel_rfl) (by kernel_rfl) (by kernel_rfl) (by kernel_rfl)
 have hext68 := @run_callFunc_extern Tryz.prog 285 _ (ReflectliteType.relation "Implements" ReflectliteType.implements_) Tryz.func285 (by kernel_rfl) (by kernel_rfl) (by kernel_rfl) (by kernel_rfl)
 have f6 := vOfT
 have f7 := typeT
 have mK := methodKind
 have mE := methodElem
 have mI := methodImplements
 have k27 := kindT
 have k25 := kindE
 have e27 := elemT
 have i25 := implementsE
 have htl := lt_of_cell ht
 have hgl := lt_of_cell hg
 have n8 := isNilT ⟨w.heap.size, 0, none⟩ t ((w.alloc (.cells #[.pointer (some t)] 86)).alloc (.cells #[.pointer (some ⟨29, 86, none⟩), .pointer (some ⟨w.heap.size, 0, none⟩), .int .u64 150] 135)) (by simp)
 have hg2 : ((w.alloc (.cells #[.pointer (some t)] 86)).alloc (.cells #[.pointer (some ⟨29, 86, none⟩), .pointer (some ⟨w.heap.size, 0, none⟩), .int .u64 150] 135)).cell? ⟨15, 0, none⟩ = some (.iface 180 (.agg #[.pointer (some ⟨29, 52, none⟩)])) := by
  rw [World.cell?_alloc_lt _ _ _ (by simp at hgl ⊢; omega), World.cell?_alloc_lt _ _ _ hgl]; exact hg
 have H := h (.iface 86 (.pointer (some t))) ⟨w.heap.size, 0, none⟩ t old ((w.alloc (.cells #[.pointer (some t)] 86)).alloc (.cells #[.pointer (some ⟨29, 86, none⟩), .pointer (some ⟨w.heap.size, 0, none⟩), .int .u64 150] 135))
  (by simp)
  (by rw [World.cell?_alloc_lt _ _ t (by simp; omega), World.cell?_alloc_lt _ _ t htl]; exact ht)
  (by rw [World.frozen?_alloc_old _ _ t (by simp; omega), World.frozen?_alloc_old _ _ t (Nat.ne_of_lt htl)]; exact hf)
 clear h
 go_enter Tryz.func54, Tryz.ntmps54
 go_wp2_with (go_at_call 85; refine H.mono ?_; rintro e w' ⟨rfl, hb⟩)
 go_ret
 refine ⟨rfl, ?_⟩
 cases b with
 | false => exact (((Below.refl _ _).alloc (Nat.le_refl _) _).alloc (by simp) _).trans (Below.mono hb (by simp [lim]; omega))
 | true => exact (((Below.refl _ _).alloc (by simp [lim]; omega) _).alloc (by simp [lim]; omega) _).trans hb
end Go.Proofs.YtmenllnokgjdlaaGreatDoor.G.V
/-
 What tlv.Right, Encode and Whole answer. Conditions: a text is at most 9000 bytes long; the package-level variables hold what the program's text lays.
-/
namespace Tv
def wholeT (l : List UInt8) : Except Int (Tr 13) :=
 match decT l 0 with
 | .error e => .error e
 | .ok (T, nx) => if nx < l.length then .error 11 else .ok T
theorem right_small {n : Nat} {T : Tr n} (h : right T = true) : (enc n T).length <= 16000000 := by
 unfold right at h
 simp only [Bool.and_eq_true, decide_eq_true_eq] at h
 omega
theorem right_shape {n : Nat} {T : Tr n} (h : right T = true) : shape n 12 T = true := by
 unfold right at h
 simp only [Bool.and_eq_true, decide_eq_true_eq] at h
 exact h.1.1
end Tv
namespace Go.Proofs.YtmenllnokgjdlaaGreatDoor
open Go.RowKit Tv T Go.Shelf
def encT {n : Nat} (T : Tr n) : Value := if right T = true then .tuple #[txt (enc n T), .int .i64 0] else .tuple #[.string ⟨#[]⟩, .int .i64 21]
theorem encode_any (n : Nat) (T : Tr n) (A : Ads) (aS aF : Addr) (w : World) (p : Nat -> Prop) (v : Value) (g : Gl A aS aF w) (hN : Node n w p v T) (hn : n <= 100) :
  Calls Tryz.prog 38 #[v] w fun e w' => e = .returned (encT T) /\ Below w.heap.size w w' := by
 cases n with
 | zero => exact Empty.elim T
 | succ n =>
 obtain ⟨g0, off, cap, a, rfl, hd, hk, hks⟩ := kidsAt hN
 have hb0 : Below w.heap.size w (w.alloc (.cells #[.int .i64 (tag T), .string (dat T), .slice a (kids T).length cap] 28)) := (Below.refl _ _).alloc (Nat.le_refl _) _
 have hC := check_any (n + 1) T A aS aF _ _ _ (g.below hb0) (hN.below hb0) hn
 have HN := H_ hN
 have HG := H_ g
 clear g hN hks
 go_enter Tryz.func38, Tryz.ntmps38
 go_wp2_with fail
 refine hC.mono ?_
 rintro e w2 ⟨hb2, h2⟩
 have hb := hb0.trans (hb2.mono hb0.size)
 cases hr : right T
 ·rw [hr, if_neg (by simp)] at h2
  obtain ⟨v, rfl, hE⟩ := h2
  have hO := errnoOf_any A v 21 hE w2 ((un HG).below hb).t
  obtain ⟨kk, u, rfl, hw⟩ := hE
  have Hr := H_ hr
  clear hC hb2 hr hw
  go_wp2_with (go_at_call 60; refine hO.mono ?_; rintro e w3 ⟨rfl, hb3⟩)
  go_ret2
  unfold encT
  rw [un Hr]
  exact ⟨rfl, hb.trans (hb3.mono hb.size)⟩
 ·rw [hr, if_pos rfl] at h2
  obtain rfl := h2
  have hL := lay_any (n + 1) T 12 w2 p _ ((un HN).below hb) (right_shape hr) (right_small hr)
  obtain ⟨⟨b0, b1, b2⟩, _⟩ := cells3 ((hb2.block w.heap.size (by simp)).trans (World.alloc_heap_new w _))
  have Hr := H_ hr
  clear hC hb2 hr
  go_wp2_with (go_at_call 61; refine hL.mono ?_; rintro e w3 ⟨rfl, hb3⟩)
  go_ret2
  unfold encT
  rw [un Hr]
  exact ⟨rfl, hb.trans (hb3.mono hb.size)⟩
def WholePost (w : World) (r : Except Int (Tr 13)) (e : Ending) (w' : World) : Prop :=
 Below w.heap.size w w' /\ match r with
  | .error E => e = .returned (.tuple #[zeroN, .int .i64 E])
  | .ok T => ∃ v, e = .returned (.tuple #[v, .int .i64 0]) /\ Node 13 w' (fun b => w.heap.size <= b) v T
theorem whole_any (s : ByteArray) (A : Ads) (aS aF : Addr) (w : World) (g : Gl A aS aF w) (hs : s.size <= 9000) :
  Calls Tryz.prog 40 #[.string s] w (WholePost w (wholeT s.data.toList)) := by
 have hl : s.data.toList.length = s.size := Array.length_toList
 have hb0 : Below w.heap.size w (w.alloc (.cells #[.int .i64 0, .string ⟨#[]⟩, .slice none 0 0] 28)) := (Below.refl _ _).alloc (Nat.le_refl _) _
 have hR := read_any s 0 A aS aF _ (g.below hb0) hs
 have HG := H_ g
 clear g
 go_enter Tryz.func40, Tryz.ntmps40
 go_wp2_with fail
 refine hR.mono ?_
 rintro e w2 ⟨hb2, h2⟩
 have hb := hb0.trans (hb2.mono hb0.size)
 have hz2 : w.heap.size + 1 <= w2.heap.size := by have := hb2.size; simpa using this
 have hq0 := (hb2.block w.heap.size (by simp)).trans (World.alloc_heap_new w _)
 have q3 := H_ fun o => cells3 ((Below.heap_alloc w2 o w.heap.size (by omega)).trans hq0)
 cases hd : decT s.data.toList 0 with
 | error E =>
  rw [hd] at h2
  obtain ⟨v, rfl, hE⟩ := h2
  have hb1 := hb.alloc (o := .cells #[.int .i64 0, .string ⟨#[]⟩, .slice none 0 0] 28) hb.size
  have hO := errnoOf_any A v E hE _ ((un HG).below hb1).t
  have hqq := (Below.heap_alloc w2 (.cells #[.int .i64 0, .string ⟨#[]⟩, .slice none 0 0] 28) w.heap.size (by omega)).trans hq0
  obtain ⟨kk, u, rfl, hw⟩ := hE
  have Hd := H_ (show wholeT s.data.toList = .error E by unfold wholeT; rw [hd])
  clear hd hb2 hR hw q3 hq0
  go_wp2_with fail
  refine hO.mono ?_
  rintro e w3 ⟨rfl, hb3⟩
  obtain ⟨⟨c0, c1, c2⟩, r0, r1, r2⟩ := cells3 ((hb3.block w.heap.size (by simp; omega)).trans hqq)
  have Hb := H_ (hb1.trans (hb3.mono hb1.size))
  clear hb3 hqq hO
  go_wp2_with fail
  refine bodyPost_ret (v := .tuple #[zeroN, .int .i64 E]) (by simp [results, Tryz.results40, go_sem, c0, c1, c2]) rfl ?_
  unfold WholePost
  rw [un Hd]
  exact ⟨set3n (un Hb) (Nat.le_refl _) _ _ _, rfl⟩
 | ok r =>
  obtain ⟨T, nx⟩ := r
  rw [hd] at h2
  obtain ⟨v, rfl, hN⟩ := h2
  obtain ⟨g0, off, cap, a, rfl, hdd, hk, hks⟩ := kidsAt hN
  obtain ⟨⟨c0, c1, c2⟩, r0, r1, r2⟩ := (un q3) (.cells #[.int .i64 (tag T), .string (dat T), .slice a (kids T).length cap] 28)
  have hb1 := hb.alloc (o := .cells #[.int .i64 (tag T), .string (dat T), .slice a (kids T).length cap] 28) hb.size
  by_cases hnx : nx < s.size
  ·have hnx' : (nx : Int) < s.size := by omega
   have gmo := ((un HG).below hb1).t.mo
   have hO := errnoOf_any A (.iface 97 (.agg #[.int .i64 nx, sentV A.mo])) 11 ⟨_, _, rfl, .inr ⟨_, rfl, .inr (.inr (.inl ⟨rfl, rfl⟩))⟩⟩ _ ((un HG).below hb1).t
   have hqq := (Below.heap_alloc w2 (.cells #[.int .i64 (tag T), .string (dat T), .slice a (kids T).length cap] 28) w.heap.size (by omega)).trans hq0
   have Hd := H_ (show wholeT s.data.toList = .error 11 by unfold wholeT; rw [hd]; simp only [hl]; rw [if_pos hnx])
   clear hd hb2 hR q3 hq0 c0 c1 c2 r0 r1 r2 hN hks
   go_wp2_with fail
   refine hO.mono ?_
   rintro e w3 ⟨rfl, hb3⟩
   obtain ⟨⟨c0, c1, c2⟩, r0, r1, r2⟩ := cells3 ((hb3.block w.heap.size (by simp; omega)).trans hqq)
   have Hb := H_ (hb1.trans (hb3.mono hb1.size))
   clear hb3 hqq hO gmo
   go_wp2_with fail
   refine bodyPost_ret (v := .tuple #[zeroN, .int .i64 11]) (by simp [results, Tryz.results40, go_sem, c0, c1, c2]) rfl ?_
   unfold WholePost
   rw [un Hd]
   exact ⟨set3n (un Hb) (Nat.le_refl _) _ _ _, rfl⟩
  ·have hnx' : ¬ (nx : Int) < s.size := by omega
   have HN1 := H_ (hN.below ((Below.refl w2.heap.size w2).alloc (Nat.le_refl _) (.cells #[.int .i64 (tag T), .string (dat T), .slice a (kids T).length cap] 28)))
   have Hd := H_ (show wholeT s.data.toList = .ok T by unfold wholeT; rw [hd]; simp only [hl]; rw [if_neg hnx])
   have Hb := H_ hb1
   clear hd hb2 hR q3 hq0 hN hb1 hb hks
   go_wp2_with fail
   refine bodyPost_ret (v := .tuple #[.agg #[.int .i64 (tag T), .string (dat T), .slice a (kids T).length cap], .int .i64 0]) (by simp [results, Tryz.results40, go_sem, c0, c1, c2]) rfl ?_
   unfold WholePost
   rw [un Hd]
   exact ⟨set3n (un Hb) (Nat.le_refl _) _ _ _, _, rfl, (set3_node (un HN1) (by simp) _ _ _).imp fun b hb _ => by simp at hb; omega⟩
end Go.Proofs.YtmenllnokgjdlaaGreatDoor
/-
 What fber.errnoOf answers at each error that package fber makes, wrapped any number of times, and at none. Conditions: the package-level variables hold what the program's text lays ('Glob').
-/
namespace Go.Proofs.YtmenllnokgjdlaaGreatDoor.G
open Go.RowKit Go.Extern.Stop Go.Stop Go.Extern
open D (H_ un)
structure Ad where
 f : F.Ad
 t : T.Ads
 aS : Addr
 aF : Addr
 ri : Addr
 de : Addr
 co : Addr
 tr : Addr
structure Glob (a : Ad) (w : World) : Prop where
 gf : F.Glob a.f w
 gt : Gl a.t a.aS a.aF w
 vri : w.cell? ⟨0, 0, none⟩ = some (sen a.ri)
 vde : w.cell? ⟨1, 0, none⟩ = some (sen a.de)
 vco : w.cell? ⟨2, 0, none⟩ = some (sen a.co)
 vtr : w.cell? ⟨3, 0, none⟩ = some (sen a.tr)
 hri : ∃ c t, w.heap[a.ri.block]? = some (.cells c t (0, 0))
 hde : ∃ c t, w.heap[a.de.block]? = some (.cells c t (0, 0))
 hco : ∃ c t, w.heap[a.co.block]? = some (.cells c t (0, 0))
 htr : ∃ c t, w.heap[a.tr.block]? = some (.cells c t (0, 0))
theorem Glob.below {a : Ad} {w w' : World} (g : Glob a w) {B : Nat} (hB : w.heap.size <= B) (h : Below B w w') : Glob a w' := by
 have hc : ∀ {p : Addr} {v : Value}, w.cell? p = some v -> w'.cell? p = some v := fun {p v} e => (h.cell (Nat.lt_of_lt_of_le (lt_of_cell e) hB)).trans e
 have hh : ∀ {b : Nat}, (∃ c t, w.heap[b]? = some (.cells c t (0, 0))) -> ∃ c t, w'.heap[b]? = some (.cells c t (0, 0)) := fun {b} ⟨c, t, e⟩ => ⟨c, t, (h.block _ (Nat.lt_of_lt_of_le (Array.getElem?_eq_some_iff.1 e).1 hB)).trans e⟩
 exact ⟨g.gf.below hB h, g.gt.below (h.mono hB), hc g.vri, hc g.vde, hc g.vco, hc g.vtr, hh g.hri, hh g.hde, hh g.hco, hh g.htr⟩
theorem Glob.next {a : Ad} {w w' : World} (g : Glob a w) (h : Below w.heap.size w w') : Glob a w' := g.below (Nat.le_refl _) h
def IsS (a : Ad) (x : Addr) : Prop := x = a.ri \/ x = a.de \/ x = a.co \/ x = a.tr
theorem Glob.h {a : Ad} {w : World} (g : Glob a w) {x : Addr} (h : IsS a x) : ∃ c t, w.heap[x.block]? = some (.cells c t (0, 0)) := by
 rcases h with rfl | rfl | rfl | rfl
 ·exact g.hri
 ·exact g.hde
 ·exact g.hco
 ·exact g.htr
def IsErr (a : Ad) (v : Value) : Prop := ∃ n b, Ch n b v /\ ((∃ x, IsS a x /\ b = sen x) \/ (∃ j, b = nok j) \/ ∃ j, b = nov j)
theorem IsErr.wrap {a : Ad} {v : Value} (h : IsErr a v) (k : Int) : IsErr a (flt k v) := by
 obtain ⟨n, b, h1, h2⟩ := h
 exact ⟨n + 1, b, ⟨k, v, rfl, h1⟩, h2⟩
theorem IsErr.sen {a : Ad} {x : Addr} (h : IsS a x) : IsErr a (G.sen x) := ⟨0, _, rfl, .inl ⟨x, h, rfl⟩⟩
theorem IsErr.nok (a : Ad) (j : Int) : IsErr a (G.nok j) := ⟨0, _, rfl, .inr (.inl ⟨j, rfl⟩)⟩
theorem IsErr.nov (a : Ad) (j : Int) : IsErr a (G.nov j) := ⟨0, _, rfl, .inr (.inr ⟨j, rfl⟩)⟩
abbrev two (w : World) : World := (w.alloc (.cells #[.int .i64 0] 83)).alloc (.cells #[.int .i64 0] 62)
theorem two_below (w : World) : Below w.heap.size w (two w) := ((Below.refl _ _).alloc (Nat.le_refl _) _).alloc (by simp) _
theorem AsK {v : Value} {b : Bool} (h : K.AsGives v b) (hv : ∃ T x, v = .iface T x) (a : Ad) (w : World) (g : Glob a w) :
  Calls Tryz.prog 54 #[v, .iface 85 (.pointer (some ⟨w.heap.size, 0, none⟩))] (two w) fun e w' => e = .returned (.bool b) /\ Below w.heap.size w w' /\ (b = false -> Below (w.heap.size + 2) (two w) w') := by
 obtain ⟨T, x, rfl⟩ := hv
 refine (K.As_gives T x b h ⟨w.heap.size, 0, none⟩ (.int .i64 0) _ (g.next (two_below w)).gf.ty (by rw [World.cell?_alloc_lt _ _ _ (by simp)]; simp) (by rw [World.frozen?_alloc_old _ _ _ (by simp)]; simp)).mono fun e w' ⟨he, hb⟩ => ⟨he, ?_, fun hb0 => by subst hb0; simpa [lim] using hb⟩
 refine (two_below w).trans (hb.mono ?_)
 cases b <;> simp [lim] <;> omega
theorem AsV {v : Value} {b : Bool} (h : V.AsGives v b) (hv : ∃ T x, v = .iface T x) (a : Ad) (w u : World) (g : Glob a w) (hu : Below (w.heap.size + 2) (two w) u) :
  Calls Tryz.prog 54 #[v, .iface 86 (.pointer (some ⟨w.heap.size + 1, 0, none⟩))] u fun e w' => e = .returned (.bool b) /\ Below w.heap.size w w' := by
 obtain ⟨T, x, rfl⟩ := hv
 have hb0 := two_below w
 have hub : Below w.heap.size w u := hb0.trans (hu.mono (by omega))
 have hblk : u.heap[w.heap.size + 1]? = some (.cells #[.int .i64 0] 62 (0, 0)) := by
  rw [hu.block _ (by omega)]
  have := World.alloc_heap_new (w.alloc (.cells #[.int .i64 0] 83)) (.cells #[.int .i64 0] 62)
  rwa [World.size_alloc] at this
 refine (V.As_gives T x b h ⟨w.heap.size + 1, 0, none⟩ (.int .i64 0) u (g.next hub).gf.ty (by simp [World.cell?, hblk]) (by simp [World.frozen?, hblk])).mono fun e w' ⟨he, hb⟩ => ⟨he, ?_⟩
 refine hub.trans (hb.mono ?_)
 have := hub.size
 cases b <;> simp [lim] <;> omega
theorem errnoOf_s (n : Nat) (x : Addr) (v : Value) (a : Ad) (w : World) (g : Glob a w) (hx : IsS a x) (hc : Ch n (sen x) v) :
  Calls Tryz.prog 33 #[v] w fun e w' => e = .returned (.int .i64 80) /\ Below w.heap.size w w' := by
 have hf := hc.shape ⟨_, _, rfl⟩
 have H := H_ (AsK (K.asS n x v hc) hf a w g)
 have HV := H_ fun u hu => AsV (V.asS n x v hc) hf a w u g hu
 have HY := H_ fun W => IsY n x v hc W
 have HN := H_ fun W b h1 h2 h3 => IsN n x v hc W b h1 h2 h3
 have Hg := H_ g
 have Hx := H_ hx
 obtain ⟨T, y, rfl⟩ := hf
 clear g hx hc
 go_enter Tryz.func33, Tryz.ntmps33
 go_wp2_with fail
 refine (un H).mono ?_
 rintro e u ⟨rfl, _, hu⟩
 have HU := H_ (hu trivial)
 clear hu H
 go_wp2_with fail
 refine ((un HV) _ (un HU)).mono ?_
 rintro e w0 ⟨rfl, hb⟩
 have B0 := H_ hb
 have G0 := H_ ((un Hg).next hb)
 clear hb HU HV
 have c0 := (un G0).vri
 go_wp2_with fail
 by_cases h0 : x = a.ri
 ·refine (h0 ▸ (un HY) _ : Calls Tryz.prog 55 #[_, sen a.ri] _ fun e w' => e = .returned (.bool true) /\ Below _ _ w').mono ?_
  rintro e w1 ⟨rfl, hb⟩
  have B1 := H_ ((un B0).trans (hb.mono (un B0).size))
  clear hb c0 h0
  go_wp2
  go_ret
  exact ⟨rfl, un B1⟩
 refine ((un HN) _ _ h0 ((un G0).h (un Hx)) (un G0).hri).mono ?_
 rintro e w1 ⟨rfl, hb⟩
 have B1 := H_ ((un B0).trans (hb.mono (un B0).size))
 have G1 := H_ ((un G0).next hb)
 replace h0 := H_ h0
 clear hb c0 B0
 have c1 := (un G1).vde
 go_wp2_with fail
 by_cases h1 : x = a.de
 ·refine (h1 ▸ (un HY) _ : Calls Tryz.prog 55 #[_, sen a.de] _ fun e w' => e = .returned (.bool true) /\ Below _ _ w').mono ?_
  rintro e w1 ⟨rfl, hb⟩
  have B1 := H_ ((un B1).trans (hb.mono (un B1).size))
  clear hb c1 h1
  go_wp2
  go_ret
  exact ⟨rfl, un B1⟩
 refine ((un HN) _ _ h1 ((un G1).h (un Hx)) (un G1).hde).mono ?_
 rintro e w2 ⟨rfl, hb⟩
 have B2 := H_ ((un B1).trans (hb.mono (un B1).size))
 have G2 := H_ ((un G1).next hb)
 replace h1 := H_ h1
 clear hb c1 B1
 have c2 := (un G2).vco
 go_wp2_with fail
 by_cases h2 : x = a.co
 ·refine (h2 ▸ (un HY) _ : Calls Tryz.prog 55 #[_, sen a.co] _ fun e w' => e = .returned (.bool true) /\ Below _ _ w').mono ?_
  rintro e w1 ⟨rfl, hb⟩
  have B1 := H_ ((un B2).trans (hb.mono (un B2).size))
  clear hb c2 h2
  go_wp2
  go_ret
  exact ⟨rfl, un B1⟩
 refine ((un HN) _ _ h2 ((un G2).h (un Hx)) (un G2).hco).mono ?_
 rintro e w3 ⟨rfl, hb⟩
 have B3 := H_ ((un B2).trans (hb.mono (un B2).size))
 have G3 := H_ ((un G2).next hb)
 replace h2 := H_ h2
 clear hb c2 B2
 have c3 := (un G3).vtr
 go_wp2_with fail
 by_cases h3 : x = a.tr
 ·refine (h3 ▸ (un HY) _ : Calls Tryz.prog 55 #[_, sen a.tr] _ fun e w' => e = .returned (.bool true) /\ Below _ _ w').mono ?_
  rintro e w1 ⟨rfl, hb⟩
  have B1 := H_ ((un B3).trans (hb.mono (un B3).size))
  clear hb c3 h3
  go_wp2
  go_ret
  exact ⟨rfl, un B1⟩
 refine ((un HN) _ _ h3 ((un G3).h (un Hx)) (un G3).htr).mono ?_
 rintro e w4 ⟨rfl, hb⟩
 have B4 := H_ ((un B3).trans (hb.mono (un B3).size))
 have G4 := H_ ((un G3).next hb)
 replace h3 := H_ h3
 clear hb c3 B3
 rcases un Hx with h | h | h | h
 ·exact absurd h (un h0)
 ·exact absurd h (un h1)
 ·exact absurd h (un h2)
 ·exact absurd h (un h3)
theorem errnoOf_k (n : Nat) (j : Int) (v : Value) (a : Ad) (w : World) (g : Glob a w) (hc : Ch n (nok j) v) :
  Calls Tryz.prog 33 #[v] w fun e w' => e = .returned (.int .i64 80) /\ Below w.heap.size w w' := by
 have hf := hc.shape ⟨_, _, rfl⟩
 have H := H_ (AsK (K.asE n j v hc) hf a w g)
 obtain ⟨T, y, rfl⟩ := hf
 clear g hc
 go_enter Tryz.func33, Tryz.ntmps33
 go_wp2_with fail
 refine (un H).mono ?_
 rintro e u ⟨rfl, hb, _⟩
 have HB := H_ hb
 clear hb H
 go_wp2
 go_ret
 exact ⟨rfl, un HB⟩
theorem errnoOf_v (n : Nat) (j : Int) (v : Value) (a : Ad) (w : World) (g : Glob a w) (hc : Ch n (nov j) v) :
  Calls Tryz.prog 33 #[v] w fun e w' => e = .returned (.int .i64 80) /\ Below w.heap.size w w' := by
 have hf := hc.shape ⟨_, _, rfl⟩
 have H := H_ (AsK (K.asO n j v hc) hf a w g)
 have HV := H_ fun u hu => AsV (V.asE n j v hc) hf a w u g hu
 obtain ⟨T, y, rfl⟩ := hf
 clear g hc
 go_enter Tryz.func33, Tryz.ntmps33
 go_wp2_with fail
 refine (un H).mono ?_
 rintro e u ⟨rfl, _, hu⟩
 have HU := H_ (hu trivial)
 clear hu H
 go_wp2_with fail
 refine ((un HV) _ (un HU)).mono ?_
 rintro e w0 ⟨rfl, hb⟩
 have HB := H_ hb
 clear hb HU HV
 go_wp2
 go_ret
 exact ⟨rfl, un HB⟩
theorem errnoOf_any (v : Value) (a : Ad) (w : World) (g : Glob a w) (h : IsErr a v) :
  Calls Tryz.prog 33 #[v] w fun e w' => e = .returned (.int .i64 80) /\ Below w.heap.size w w' := by
 obtain ⟨n, b, hc, ⟨x, hx, rfl⟩ | ⟨j, rfl⟩ | ⟨j, rfl⟩⟩ := h
 ·exact errnoOf_s n x v a w g hx hc
 ·exact errnoOf_k n j v a w g hc
 ·exact errnoOf_v n j v a w g hc
end Go.Proofs.YtmenllnokgjdlaaGreatDoor.G
/-
 What fber.build, fber.Tree and fber.Encode answer. Conditions: the package-level variables hold what the program's text lays.
-/
namespace Go.Proofs.YtmenllnokgjdlaaGreatDoor.G
open Go Go.RowKit Go.Shelf Gp
open D (H_ un)
open F (At FNode box6 box1)
open Fp (Fl)
attribute [local go_sem] Oper.semAt_some
theorem finB {b : Nat} {V : World} {tmps : Array Value} {c0 c1 c2 u : Value} {R : Ending -> World -> Prop} (h0 : V.heap[b]? = some (.cells #[c0, c1, c2] 28 (0, 0)))
  (t2 : tmps.getD 2 undef = .pointer (some ⟨b, 0, none⟩)) (t3 : tmps.getD 3 undef = u) (hp : R (.returned (.tuple #[.agg #[c0, c1, c2], u])) V) :
  bodyPost Tryz.prog Tryz.f32 R Exit.ret { tmps, defers := [] } V := by
 refine ⟨rfl, .tuple #[.agg #[c0, c1, c2], u], ?_, hp⟩
 obtain ⟨⟨x0, x1, x2⟩, _⟩ := cells3 h0
 have t2' : tmps[2]?.getD undef = .pointer (some ⟨b, 0, none⟩) := by simpa using t2
 have t3' : tmps[3]?.getD undef = u := by simpa using t3
 simp [results, Tryz.results32, go_sem, t2', t3', x0, x1, x2]
def BuildPost (n : Nat) (A : Ad) (X : Fl (n + 1)) (w : World) (e : Ending) (w' : World) : Prop := Below w.heap.size w w' /\ (if Fp.right (n + 1) 6 X = true
 then ∃ ct cs ca cn cc, e = .returned (.tuple #[.agg #[.int .i64 ct, .string cs, .slice ca cn cc], .nilIface]) /\ Node (n + 3) w' (fun b => w.heap.size <= b) (.agg #[.int .i64 ct, .string cs, .slice ca cn cc]) (tree (n + 1) X)
 else ∃ T y, e = .returned (.tuple #[zeroN, .iface T y]) /\ IsErr A (.iface T y))
theorem build_any (n : Nat) (X : Fl (n + 1)) (A : Ad) (w : World) (p : Nat -> Prop) (d : FD) (g : Glob A w) (hN : FNode (n + 1) w p d X) (hn : n <= 99) :
  Calls Tryz.prog 32 #[F.Fd.val d] w (BuildPost n A X w) := by
 have hb0 : Below w.heap.size w ((w.alloc (fobj d)).alloc znObj) := ((Below.refl _ _).alloc (Nat.le_refl _) _).alloc (by simp) _
 have q0 : ((w.alloc (fobj d)).alloc znObj).heap[w.heap.size]? = some (.cells (F.Fd.cs d) 25 (0, 0)) := (Below.heap_alloc _ _ _ (by simp)).trans (World.alloc_heap_new w _)
 have q1 : ((w.alloc (fobj d)).alloc znObj).heap[w.heap.size + 1]? = some (.cells #[.int .i64 0, .string ⟨#[]⟩, .slice none 0 0] 28 (0, 0)) := by
  have := World.alloc_heap_new (w.alloc (fobj d)) znObj
  rwa [World.size_alloc] at this
 have HR := H_ (F.right_any n X A.f _ p d (g.next hb0).gf (hN.below hb0) hn)
 have HB := H_ hb0
 have HQ := H_ (And.intro q0 q1)
 have HG := H_ g
 have hgl := D.lt_cell g.vri
 have hgn0 : ¬ w.heap.size = 0 := by simp only at hgl; omega
 have hgn1 : ¬ w.heap.size + 1 = 0 := by simp only at hgl; omega
 have HN := H_ hN
 obtain ⟨⟨x0, x1, x2, x3, x4, x5⟩, _⟩ := box6 q0
 obtain ⟨k, a, v, sa, sn, sc, f, la, ln, lc⟩ := d
 dsimp only [fobj, F.Fd.obj, F.Fd.cs, znObj] at x0 x1 x2 x3 x4 x5
 clear g hN hb0 q0 q1 hgl
 cases hr : Fp.right (n + 1) 6 X
 ·rw [hr] at HR
  rw [show BuildPost n A X w = fun e w' => Below w.heap.size w w' /\ ∃ T y, e = .returned (.tuple #[zeroN, .iface T y]) /\ IsErr A (.iface T y) from by funext e w'; unfold BuildPost; rw [hr, if_neg (by simp)]]
  clear hr HN
  go_enter Tryz.func32, Tryz.ntmps32
  go_wp2_with fail
  refine (un HR).mono ?_
  rintro e w1 ⟨rfl, hb⟩
  have hB1 := (un HB).trans (hb.mono (un HB).size)
  have hq0 := (hb.block _ (Array.getElem?_eq_some_iff.1 (un HQ).1).1).trans (un HQ).1
  have hq1 := (hb.block _ (Array.getElem?_eq_some_iff.1 (un HQ).2).1).trans (un HQ).2
  have y0 := (box6 hq0).1.1
  obtain ⟨⟨e0, e1, e2⟩, r0, r1, r2⟩ := cells3 hq1
  have gv := ((un HG).next hB1).vri
  have HB1 := H_ (And.intro hB1 hq1)
  dsimp only at y0
  clear hB1 hq0 hq1 hb HB HQ HR HG x0 x1 x2 x3 x4 x5
  go_wp2_with fail
  refine wp_mono (Q := fun e a1 V => match e with | .normal => a1.defers = [] /\ a1.tmps.getD 2 undef = .pointer (some ⟨w.heap.size + 1, 0, none⟩) /\ a1.tmps.getD 3 undef = flt k (sen A.ri) /\ V = (((w1.setCell ⟨w.heap.size + 1, 0, none⟩ (.int .i64 0)).setCell ⟨w.heap.size + 1, 1, none⟩ (.string ⟨#[]⟩)).setCell ⟨w.heap.size + 1, 2, none⟩ (.slice none 0 0)).drew | _ => False) ?_ ?_
  ·go_region
   all_goals exact ⟨rfl, rfl, rfl, rfl⟩
  rintro e ⟨tmps, defers⟩ U hq
  cases e with
  | normal =>
   obtain ⟨hdf, t2, t3, hU⟩ := hq
   dsimp only at hdf t2 t3
   subst hdf
   have HT := H_ (And.intro t2 (And.intro t3 hU))
   clear t2 t3 hU e0 e1 e2 r0 r1 r2 gv y0
   go_wp2
   obtain ⟨t2, t3, hU⟩ := un HT
   obtain ⟨hB1, hq1⟩ := un HB1
   refine finB (b := w.heap.size + 1) (c0 := .int .i64 0) (c1 := .string ⟨#[]⟩) (c2 := .slice none 0 0) (by rw [hU]; exact set3_blk hq1) t2 t3 ⟨?_, _, _, rfl, (IsErr.sen (.inl rfl)).wrap k⟩
   rw [hU]
   exact (set3n hB1 (by omega) _ _ _).drew
  | _ => exact hq.elim
 ·rw [hr] at HR
  rw [show BuildPost n A X w = fun e w' => Below w.heap.size w w' /\ ∃ ct cs ca cn cc, e = .returned (.tuple #[.agg #[.int .i64 ct, .string cs, .slice ca cn cc], .nilIface]) /\ Node (n + 3) w' (fun b => w.heap.size <= b) (.agg #[.int .i64 ct, .string cs, .slice ca cn cc]) (tree (n + 1) X) from by funext e w'; unfold BuildPost; rw [hr, if_pos rfl]]
  have HRT := H_ hr
  clear hr hgn0 hgn1
  go_enter Tryz.func32, Tryz.ntmps32
  go_wp2_with fail
  refine (un HR).mono ?_
  rintro e w1 ⟨rfl, hb⟩
  have HB1 := H_ ((un HB).trans (hb.mono (un HB).size))
  have Q := H_ (And.intro ((hb.block _ (Array.getElem?_eq_some_iff.1 (un HQ).1).1).trans (un HQ).1) ((hb.block _ (Array.getElem?_eq_some_iff.1 (un HQ).2).1).trans (un HQ).2))
  have HV1 := H_ (Array.getElem?_eq_some_iff.1 (un Q).2).1
  clear hb HB HQ HR x0 x1 x2 x3 x4 x5
  go_wp2_with fail
  refine wp_region_sw (fun _ => True) (fun w' => w'.cell? ⟨w.heap.size, 0, none⟩ = some (.int .i64 k) /\ w'.cell? ⟨w.heap.size, 1, none⟩ = some (.string a) /\ w'.cell? ⟨w.heap.size, 2, none⟩ = some (.string v) /\ w'.cell? ⟨w.heap.size, 3, none⟩ = some (.slice sa sn sc) /\ w'.cell? ⟨w.heap.size, 4, none⟩ = some (.string f) /\ w'.cell? ⟨w.heap.size, 5, none⟩ = some (.slice la ln lc)) 4 (by kernel_rfl) ?_
  have hS0 := (box6 (W := w1.drew) (un Q).1).1
  have HWV := H_ (show Below w1.heap.size w1 w1.drew from ⟨rfl, rfl, rfl, Nat.le_refl _, fun _ _ => rfl⟩)
  have HQ0 := H_ (show w1.drew.heap[w.heap.size]? = _ from (un Q).1)
  have HQ1 := H_ (show w1.drew.heap[w.heap.size + 1]? = _ from (un Q).2)
  dsimp only at hS0
  generalize w1.drew = V at *
  change wpAnyS _ _ _ _ _ _ _ 6 #[false, false, false, false, false, false] _ V
  refine wpAnyS_take1 (i := 0) (v := .agg #[.int .i64 k, .string a, .string v, .slice sa sn sc, .string f, .slice la ln lc]) rfl (by kernel_rfl) (by kernel_rfl) (by kernel_rfl) (by kernel_rfl) (fun _ _ _ h => h) (Or.inl ⟨by kernel_rfl, by rintro w1 ⟨s0, s1, s2, s3, s4, s5⟩; go_simp; all_goals first | rfl | omega⟩) ⟨fun _ => trivial, hS0⟩ ?_
  simp only [Act.put, nrm]
  refine wpAnyS_ready (rs := [1]) (by kernel_rfl) (by simp) ?_
  refine AllReadyS.cons rfl (fun K hK => ?_) AllReadyS.nil
  rw [if_pos (by kernel_rfl)]
  go_wp2_with fail
  refine (tags_any V).mono ?_
  rintro e V1 ⟨rfl, hb, hTg⟩
  have hbV1 : Below w1.heap.size w1 V1 := (un HWV).trans (hb.mono (un HWV).size)
  have HQ0' := H_ ((hb.block _ (Array.getElem?_eq_some_iff.1 (un HQ0)).1).trans (un HQ0))
  have HQ1' := H_ ((hb.block _ (Array.getElem?_eq_some_iff.1 (un HQ1)).1).trans (un HQ1))
  have hS1 := (box6 (un HQ0')).1
  dsimp only at hS1
  obtain ⟨bt, hbt⟩ : ∃ bt, bt = V.heap.size := ⟨_, rfl⟩
  rw [<- hbt] at hTg ⊢
  have HTT := H_ (tree_any (n + 1) 6 X V1 _ ⟨k, a, v, sa, sn, sc, f, la, ln, lc⟩ bt (un HRT) ((un HN).below ((un HB1).trans (hbV1.mono (un HB1).size))) hTg)
  have HB2 := H_ ((un HB1).trans (hbV1.mono (un HB1).size))
  have HVs := H_ hbV1.size
  clear hb hTg hbt hbV1 hS0 HQ0 HQ1 HWV Q
  go_wp2
  refine hK.out _ _ ⟨fun _ => trivial, hS1⟩ (fun _ => ?_)
  clear hK K
  simp only [Act.put, nrm]
  refine wpAnyS_take1 (i := 2) (v := .agg #[.int .i64 k, .string a, .string v, .slice sa sn sc, .string f, .slice la ln lc, .map (some bt)]) rfl (by kernel_rfl) (by kernel_rfl) (by kernel_rfl) (by kernel_rfl) (fun _ _ _ h => h) (Or.inl ⟨by kernel_rfl, by rintro w1 ⟨s0, s1, s2, s3, s4, s5⟩; go_simp; all_goals first | rfl | omega⟩) ⟨fun _ => trivial, hS1⟩ ?_
  simp only [Act.put, nrm]
  refine wpAnyS_ready (rs := [3]) (by kernel_rfl) (by simp) ?_
  refine AllReadyS.cons rfl (fun K hK => ?_) AllReadyS.nil
  rw [if_pos (by kernel_rfl)]
  go_wp2_with fail
  refine (un HTT).mono ?_
  rintro e V2 ⟨ct, cs, ca, cn, cc, rfl, hb, hNd⟩
  have HQ0 := H_ ((hb.block _ (Array.getElem?_eq_some_iff.1 (un HQ0')).1).trans (un HQ0'))
  have HQ1 := H_ ((hb.block _ (Array.getElem?_eq_some_iff.1 (un HQ1')).1).trans (un HQ1'))
  have hS2 := (box6 (un HQ0)).1
  dsimp only at hS2
  obtain ⟨⟨e0, e1, e2⟩, r0, r1, r2⟩ := cells3 (un HQ1)
  have HB3 := H_ (And.intro ((un HB2).trans (hb.mono (un HB2).size)) (And.intro hNd (un HVs)))
  clear hb hNd hS1 HQ0' HQ1' HTT
  go_wp2
  refine hK.out _ _ ⟨fun _ => trivial, hS2⟩ (fun _ => ?_)
  clear hK K
  simp only [Act.put, nrm]
  refine wpAnyS_ready (rs := [4]) (by kernel_rfl) (by simp) ?_
  refine AllReadyS.cons rfl (fun K hK => ?_) AllReadyS.nil
  rw [if_pos (by kernel_rfl)]
  go_simp
  have hS3 : ∀ x y z, _ := fun x y z => (box6 ((set3_far V2 (w.heap.size + 1) x y z w.heap.size (by omega)).trans (un HQ0))).1
  dsimp only at hS3
  refine hK.out _ _ ⟨fun _ => trivial, hS3 _ _ _⟩ (fun _ => ?_)
  clear hK K
  simp only [Act.put, nrm]
  refine wpAnyS_take1 (i := 5) (v := .nilIface) rfl (by kernel_rfl) (by kernel_rfl) (by kernel_rfl) (by kernel_rfl) (fun _ _ _ h => h) (Or.inl ⟨by kernel_rfl, by rintro w1 ⟨s0, s1, s2, s3, s4, s5⟩; go_simp; all_goals first | rfl | omega⟩) ⟨fun _ => trivial, (hS3 _ _ _)⟩ ?_
  simp only [Act.put, nrm]
  refine wpAnyS_done (by kernel_rfl) ?_ _
  simp only [onlyS]
  go_wp2
  obtain ⟨hb2, hNd, hlo⟩ := un HB3
  have hlt := (Array.getElem?_eq_some_iff.1 (un HQ1)).1
  have g0 := set3_blk (x' := .int .i64 ct) (y' := .string cs) (z' := .slice ca cn cc) (un HQ1)
  have far := fun i (hi : i ≠ w.heap.size + 1) => set3_far V2 (w.heap.size + 1) (.int .i64 ct) (.string cs) (.slice ca cn cc) i hi
  have hbX := set3n (b := w.heap.size + 1) hb2 (by omega) (.int .i64 ct) (.string cs) (.slice ca cn cc)
  have hlV := (un HV1)
  refine finB g0 rfl rfl ⟨hbX, ?_⟩
  exact ⟨_, _, _, _, _, rfl, (hNd.of fun b h1 h2 => far b (by omega)).imp fun b h1 _ => by omega⟩
end Go.Proofs.YtmenllnokgjdlaaGreatDoor.G
/-
 What fber.Tree and fber.Encode answer. Conditions: the package-level variables hold what the program's text lays.
-/
namespace Go.Proofs.YtmenllnokgjdlaaGreatDoor.G
open Go Go.RowKit Go.Shelf Gp
open D (H_ un)
open F (At FNode box6 box1)
open Fp (Fl)
attribute [local go_sem] Oper.semAt_some
def encB (n : Nat) (X : Fl (n + 1)) : Value := if Fp.right (n + 1) 6 X = true /\ Tv.right (tree (n + 1) X) = true then .tuple #[txt (Tv.enc (n + 3) (tree (n + 1) X)), .int .i64 0] else .tuple #[.string ⟨#[]⟩, .int .i64 80]
theorem encode_door (n : Nat) (X : Fl (n + 1)) (A : Ad) (w : World) (p : Nat -> Prop) (d : FD) (g : Glob A w) (hN : FNode (n + 1) w p d X) (hn : n <= 97) :
  Calls Tryz.prog 18 #[F.Fd.val d] w fun e w' => e = .returned (encB n X) /\ Below w.heap.size w w' := by
 have hb0 : Below w.heap.size w (w.alloc (fobj d)) := (Below.refl _ _).alloc (Nat.le_refl _) _
 have q0 : (w.alloc (fobj d)).heap[w.heap.size]? = some (.cells (F.Fd.cs d) 25 (0, 0)) := World.alloc_heap_new w _
 have HR := H_ (build_any n X A _ p d (g.next hb0) (hN.below hb0) (by omega))
 have HB := H_ hb0
 have HQ := H_ q0
 have HG := H_ g
 obtain ⟨⟨x0, x1, x2, x3, x4, x5⟩, _⟩ := box6 q0
 obtain ⟨k, a, v, sa, sn, sc, f, la, ln, lc⟩ := d
 dsimp only [fobj, F.Fd.obj, F.Fd.cs] at x0 x1 x2 x3 x4 x5
 clear g hN hb0 q0
 go_enter Tryz.func18, Tryz.ntmps18
 go_wp2_with fail
 refine (un HR).mono ?_
 rintro e w1 ⟨hb, hp⟩
 have hB1 := (un HB).trans (hb.mono (un HB).size)
 have hq1 := (hb.block _ (Array.getElem?_eq_some_iff.1 (un HQ)).1).trans (un HQ)
 cases hr : Fp.right (n + 1) 6 X
 ·rw [hr, if_neg (by simp)] at hp
  obtain ⟨T, y, rfl, hE⟩ := hp
  have hB2 : Below w.heap.size w (w1.alloc znObj) := hB1.alloc hB1.size _
  have HO := H_ (errnoOf_any (.iface T y) A (w1.alloc znObj) ((un HG).next hB2) hE)
  have HB2 := H_ hB2
  have Hr := H_ (show encB n X = .tuple #[.string ⟨#[]⟩, .int .i64 80] by unfold encB; rw [hr, if_neg (by simp)])
  clear hB1 hq1 hb HB HQ HR HG x0 x1 x2 x3 x4 x5 hE hB2 hr
  go_wp2_with fail
  refine (un HO).mono ?_
  rintro e w3 ⟨rfl, hb⟩
  have HB3 := H_ ((un HB2).trans (hb.mono (un HB2).size))
  clear hb HB2 HO
  go_wp2
  go_ret2
  rw [un Hr]
  exact ⟨rfl, un HB3⟩
 ·rw [hr, if_pos rfl] at hp
  obtain ⟨ct, cs, ca, cn, cc, rfl, hNd⟩ := hp
  have hal := (Below.refl w1.heap.size w1).alloc (Nat.le_refl _) (.cells #[.int .i64 ct, .string cs, .slice ca cn cc] 28)
  have hB2 : Below w.heap.size w (w1.alloc (.cells #[.int .i64 ct, .string cs, .slice ca cn cc] 28)) := hB1.alloc hB1.size _
  have HE := H_ (encode_any (n + 3) (tree (n + 1) X) A.t A.aS A.aF _ _ _ ((un HG).next hB2).gt (hNd.below hal) (by omega))
  have y0 := (box6 ((Below.heap_alloc w1 (.cells #[.int .i64 ct, .string cs, .slice ca cn cc] 28) _ (Array.getElem?_eq_some_iff.1 hq1).1).trans hq1))
  have HB2 := H_ (And.intro hB2 ((Below.heap_alloc w1 (.cells #[.int .i64 ct, .string cs, .slice ca cn cc] 28) _ (Array.getElem?_eq_some_iff.1 hq1).1).trans hq1))
  have Hr := H_ hr
  clear hB1 hq1 hb HB HQ HR x0 x1 x2 x3 x4 x5 hB2 hr hNd hal y0
  unfold encT at HE
  by_cases ht : Tv.right (tree (n + 1) X) = true
  ·rw [if_pos ht] at HE
   have Ht := H_ (show encB n X = .tuple #[txt (Tv.enc (n + 3) (tree (n + 1) X)), .int .i64 0] by unfold encB; rw [if_pos ⟨un Hr, ht⟩])
   generalize txt (Tv.enc (n + 3) (tree (n + 1) X)) = tx at *
   clear ht Hr HG
   go_wp2_with fail
   refine (un HE).mono ?_
   rintro e w3 ⟨rfl, hb⟩
   have HB3 := H_ ((un HB2).1.trans (hb.mono (un HB2).1.size))
   clear hb HB2 HE
   go_wp2
   go_ret2
   rw [un Ht]
   exact ⟨rfl, un HB3⟩
  ·rw [if_neg ht] at HE
   have Ht := H_ (show encB n X = .tuple #[.string ⟨#[]⟩, .int .i64 80] by unfold encB; rw [if_neg (fun h => ht h.2)])
   clear ht Hr
   go_wp2_with fail
   refine (un HE).mono ?_
   rintro e w3 ⟨rfl, hb⟩
   have hB3 := (un HB2).1.trans (hb.mono (un HB2).1.size)
   have y0 := (box6 ((hb.block _ (Array.getElem?_eq_some_iff.1 (un HB2).2).1).trans (un HB2).2)).1.1
   have HO := H_ (errnoOf_any (flt k (nov 21)) A w3 ((un HG).next hB3) ((IsErr.nov A 21).wrap k))
   have HB3 := H_ hB3
   dsimp only at y0
   clear hb HB2 HE hB3 HG
   go_wp2_with fail
   refine (un HO).mono ?_
   rintro e w4 ⟨rfl, hb⟩
   have HB4 := H_ ((un HB3).trans (hb.mono (un HB3).size))
   clear hb HB3 HO
   go_wp2
   go_ret2
   rw [un Ht]
   exact ⟨rfl, un HB4⟩
end Go.Proofs.YtmenllnokgjdlaaGreatDoor.G
/-
 What the document reads roughly of a tree, held against the filter's own tree, is what is read of it; a tree of more levels is read alike. Conditions: none.
-/
namespace Go.Proofs.YtmenllnokgjdlaaGreatDoor.Gp
open Fp (Fl kd nm va an fi ls isSet fitF fitB)
open Tv (Tr)
end Go.Proofs.YtmenllnokgjdlaaGreatDoor.Gp
