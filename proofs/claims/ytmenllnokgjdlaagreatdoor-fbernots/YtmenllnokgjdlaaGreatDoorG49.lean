/- Several texts in one: Errno, Help. Each says what it proves, and its conditions. -/
import Derived.Test.YtmenllnokgjdlaaGreatDoorErrs
import Derived.BigQuiet
/-
 What size.errnoOf answers at each error that package size makes. Conditions: the package-level variables hold what the program's text lays ('Glob').
-/
namespace Go.Proofs.YtmenllnokgjdlaaGreatDoor
open Go.RowKit Go.Extern.Stop Go.Stop Go.Extern
theorem Is_same (k : Int) (a : Addr) (w : World) :
  Calls Tryz.prog 55 #[.iface 296 (.agg #[.int .i64 k, .iface 350 (.pointer (some a))]), .iface 350 (.pointer (some a))] w fun e w' => e = .returned (.bool true) /\ Below w.heap.size w w' := by
 obtain ⟨i, hi, hcmp⟩ := Option.map_eq_some_iff.1 compS
 obtain ⟨j, hj, hjs⟩ := Option.map_eq_some_iff.1 sizeS
 have hext36 := @run_callFunc_extern Tryz.prog 86 _ ReflectliteType.typeOf Tryz.func86 (by kernel_rfl) (by kernel_rfl) (by kernel_rfl) (by kernel_rfl)
 obtain ⟨ext, hfind, cT⟩ := cmpExt
 have hext66 := @run_callFunc_extern Tryz.prog 283 _ ext Tryz.func283 (by kernel_rfl) (by kernel_rfl) (by kernel_rfl) hfind
 clear hfind
 have tT := typeOfS
 have mR := methodComparable
 have nW := noIsF
 have uW := unwF
 have mU := methodUnwrap
 have heq := fun w => run_eql_iface_ptr_same (P := Tryz.prog) w a Tryz.underlying52 Tryz.underlying350 hi hcmp hj
 have hty := fun w => run_eql_iface_types (P := Tryz.prog) 296 350 (.agg #[.int .i64 k, .iface 350 (.pointer (some a))]) (.pointer (some a)) Tryz.underlying52 (by decide) w
 go_enter Tryz.func55, Tryz.ntmps55
 go_wp2
 refine wp_loop_rounds 2 ?_
 rw [rounds_succ]
 go_wp2
 rw [rounds_succ]
 go_wp2
 go_ret
 exact ⟨rfl, (Below.refl _ _).alloc (by simp) _⟩
theorem Is_other (k : Int) (a b : Addr) (ca cb : Array Value) (ta tb : TypeId) (w : World) (hne : a ≠ b) (ha : w.heap[a.block]? = some (.cells ca ta (0, 0))) (hb : w.heap[b.block]? = some (.cells cb tb (0, 0))) :
  Calls Tryz.prog 55 #[.iface 296 (.agg #[.int .i64 k, .iface 350 (.pointer (some a))]), .iface 350 (.pointer (some b))] w fun e w' => e = .returned (.bool false) /\ Below w.heap.size w w' := by
 obtain ⟨i, hi, hcmp⟩ := Option.map_eq_some_iff.1 compS
 obtain ⟨j, hj, hjs⟩ := Option.map_eq_some_iff.1 sizeS
 have hext36 := @run_callFunc_extern Tryz.prog 86 _ ReflectliteType.typeOf Tryz.func86 (by kernel_rfl) (by kernel_rfl) (by kernel_rfl) (by kernel_rfl)
 obtain ⟨ext, hfind, cT⟩ := cmpExt
 have hext66 := @run_callFunc_extern Tryz.prog 283 _ ext Tryz.func283 (by kernel_rfl) (by kernel_rfl) (by kernel_rfl) hfind
 clear hfind
 have tT := typeOfS
 have mR := methodComparable
 have nW := noIsF
 have nE := noIsS
 have uW := unwF
 have uE := noUnwS
 have vE := noUnwsS
 have mU := methodUnwrap
 have hal : a.block < w.heap.size := (Array.getElem?_eq_some_iff.1 ha).1
 have hbl : b.block < w.heap.size := (Array.getElem?_eq_some_iff.1 hb).1
 have heq := run_eql_iface_ptr_other (P := Tryz.prog) (w.alloc (.cells #[.int .i64 k, .iface 350 (.pointer (some a))] 296)) Tryz.underlying52 Tryz.underlying350 hi hcmp hj (by rw [hjs]; decide) hne ((Below.heap_alloc _ _ _ hal).trans ha) ((Below.heap_alloc _ _ _ hbl).trans hb)
 have hty := fun w => run_eql_iface_types (P := Tryz.prog) 296 350 (.agg #[.int .i64 k, .iface 350 (.pointer (some a))]) (.pointer (some b)) Tryz.underlying52 (by decide) w
 clear ha hb hal hbl
 go_enter Tryz.func55, Tryz.ntmps55
 go_wp2
 refine wp_loop_rounds 2 ?_
 rw [rounds_succ]
 go_wp2
 rw [rounds_succ]
 go_wp2
 go_ret
 exact ⟨rfl, (Below.refl _ _).alloc (by simp) _⟩
structure Glob (aS aF : Addr) (w : World) : Prop where
 ty : w.cell? ⟨15, 0, none⟩ = some (.iface 180 (.agg #[.pointer (some ⟨29, 52, none⟩)]))
 sh : w.cell? ⟨20, 0, none⟩ = some (.iface 350 (.pointer (some aS)))
 fo : w.cell? ⟨18, 0, none⟩ = some (.iface 350 (.pointer (some aF)))
 ne : aS ≠ aF
 hS : ∃ c t, w.heap[aS.block]? = some (.cells c t (0, 0))
 hF : ∃ c t, w.heap[aF.block]? = some (.cells c t (0, 0))
theorem Glob.below {aS aF : Addr} {w w' : World} (g : Glob aS aF w) {B : Nat} (hB : w.heap.size <= B) (h : Below B w w') : Glob aS aF w' := by
 obtain ⟨ty, sh, fo, ne, ⟨c, t, hS⟩, ⟨c', t', hF⟩⟩ := g
 refine ⟨?_, ?_, ?_, ne, ⟨c, t, ?_⟩, ⟨c', t', ?_⟩⟩
 ·rw [h.cell (Nat.lt_of_lt_of_le (lt_of_cell ty) hB)]; exact ty
 ·rw [h.cell (Nat.lt_of_lt_of_le (lt_of_cell sh) hB)]; exact sh
 ·rw [h.cell (Nat.lt_of_lt_of_le (lt_of_cell fo) hB)]; exact fo
 ·rw [h.block _ (Nat.lt_of_lt_of_le (Array.getElem?_eq_some_iff.1 hS).1 hB)]; exact hS
 ·rw [h.block _ (Nat.lt_of_lt_of_le (Array.getElem?_eq_some_iff.1 hF).1 hB)]; exact hF
theorem Glob.alloc {aS aF : Addr} {w : World} (g : Glob aS aF w) (o : Obj) : Glob aS aF (w.alloc o) :=
 g.below (Nat.le_refl _) ((Below.refl _ _).alloc (Nat.le_refl _) _)
theorem errnoOf_size (T : TypeId) (v : Value) (h : AsGives (.iface T v) true) (aS aF : Addr) (w : World) (g : Glob aS aF w) :
  Calls Tryz.prog 125 #[.iface T v] w fun e w' => e = .returned (.int .i64 12) /\ Below w.heap.size w w' := by
 have gt := (g.alloc (.cells #[.int .i64 0] 234)).ty
 have H := As_gives T v true h ⟨w.heap.size, 0, none⟩ (.int .i64 0) (w.alloc (.cells #[.int .i64 0] 234)) gt (by simp) (by simp)
 clear h gt
 go_enter Tryz.func125, Tryz.ntmps125
 go_wp2_with (go_at_call 54; refine H.mono ?_; rintro e w' ⟨rfl, hb⟩)
 go_ret
 exact ⟨rfl, ((Below.refl _ _).alloc (Nat.le_refl _) _).trans hb⟩
theorem errnoOf_form (k : Int) (aS aF : Addr) (w : World) (g : Glob aS aF w) :
  Calls Tryz.prog 125 #[.iface 296 (.agg #[.int .i64 k, .iface 350 (.pointer (some aF))])] w fun e w' => e = .returned (.int .i64 11) /\ Below w.heap.size w w' := by
 have gt := g.alloc (.cells #[.int .i64 0] 234)
 have H := (As_gives _ _ false (as3 k aF) ⟨w.heap.size, 0, none⟩ (.int .i64 0) (w.alloc (.cells #[.int .i64 0] 234)) gt.ty (by simp) (by simp)).mono
  (R' := fun e w' => e = .returned (.bool false) /\ Below w.heap.size (w.alloc (.cells #[.int .i64 0] 234)) w' /\ w'.cell? ⟨18, 0, none⟩ = some (.iface 350 (.pointer (some aF))))
  (fun e w' ⟨he, hb⟩ => ⟨he, hb, by rw [hb.cell (lt_of_cell g.fo)]; exact gt.fo⟩)
 clear gt
 go_enter Tryz.func125, Tryz.ntmps125
 go_wp2_with (first | (go_at_call 54; refine H.mono ?_; rintro e w' ⟨rfl, hb, hc⟩) | (go_at_call 55; refine (Is_same k aF _).mono ?_; rintro e w'' ⟨rfl, hb2⟩))
 go_ret
 exact ⟨rfl, (((Below.refl _ _).alloc (Nat.le_refl _) _).trans hb).trans (hb2.mono (by have := hb.size; simp at this; omega))⟩
theorem errnoOf_short (k : Int) (aS aF : Addr) (w : World) (g : Glob aS aF w) :
  Calls Tryz.prog 125 #[.iface 296 (.agg #[.int .i64 k, .iface 350 (.pointer (some aS))])] w fun e w' => e = .returned (.int .i64 10) /\ Below w.heap.size w w' := by
 have gt := g.alloc (.cells #[.int .i64 0] 234)
 obtain ⟨cS, tS, hS⟩ := g.hS
 obtain ⟨cF, tF, hF⟩ := g.hF
 have H := (As_gives _ _ false (as3 k aS) ⟨w.heap.size, 0, none⟩ (.int .i64 0) (w.alloc (.cells #[.int .i64 0] 234)) gt.ty (by simp) (by simp)).mono
  (R' := fun e w' => e = .returned (.bool false) /\ Below w.heap.size (w.alloc (.cells #[.int .i64 0] 234)) w' /\ w'.cell? ⟨18, 0, none⟩ = some (.iface 350 (.pointer (some aF)))
   /\ Hid (w'.heap[aS.block]? = some (.cells cS tS (0, 0))) /\ Hid (w'.heap[aF.block]? = some (.cells cF tF (0, 0))))
  (fun e w' ⟨he, hb⟩ => ⟨he, hb, by rw [hb.cell (lt_of_cell g.fo)]; exact gt.fo, by
   show _ = _
   rw [hb.block _ (Array.getElem?_eq_some_iff.1 hS).1, Below.heap_alloc _ _ _ (Array.getElem?_eq_some_iff.1 hS).1]; exact hS, by
   show _ = _
   rw [hb.block _ (Array.getElem?_eq_some_iff.1 hF).1, Below.heap_alloc _ _ _ (Array.getElem?_eq_some_iff.1 hF).1]; exact hF⟩)
 have hne := g.ne
 clear gt hS hF g
 go_enter Tryz.func125, Tryz.ntmps125
 go_wp2_with (first | (go_at_call 54; refine H.mono ?_; rintro e w' ⟨rfl, hb, hc, hS, hF⟩) | (go_at_call 55; refine (Is_other k aS aF cS cF tS tF _ hne hS.out hF.out).mono ?_; rintro e w'' ⟨rfl, hb2⟩))
 go_ret
 exact ⟨rfl, (((Below.refl _ _).alloc (Nat.le_refl _) _).trans hb).trans (hb2.mono (by have := hb.size; simp at this; omega))⟩
end Go.Proofs.YtmenllnokgjdlaaGreatDoor
/-
 Small laws on worlds: what is kept while one block of the call's own is written. Conditions: none.
-/
namespace Go.Proofs.YtmenllnokgjdlaaGreatDoor
open Go.RowKit
structure But (b : Nat) (w w' : World) : Prop where
 os : w'.os = w.os
 tape : w'.tape = w.tape
 output : w'.output = w.output
 size : w.heap.size <= w'.heap.size
 block : ∀ k, k < w.heap.size -> k ≠ b -> w'.heap[k]? = w.heap[k]?
theorem But.refl (b : Nat) (w : World) : But b w w := ⟨rfl, rfl, rfl, Nat.le_refl _, fun _ _ _ => rfl⟩
theorem But.trans {b : Nat} {u v w : World} (h : But b u v) (k : But b v w) : But b u w :=
 ⟨k.os.trans h.os, k.tape.trans h.tape, k.output.trans h.output, Nat.le_trans h.size k.size, fun i hi hn => (k.block i (Nat.lt_of_lt_of_le hi h.size) hn).trans (h.block i hi hn)⟩
theorem But.of_below {b : Nat} {w w' : World} (h : Below w.heap.size w w') : But b w w' := ⟨h.os, h.tape, h.output, h.size, fun k hk _ => h.block k hk⟩
theorem But.alloc {b : Nat} {u w : World} (h : But b u w) (o : Obj) : But b u (w.alloc o) := h.trans (But.of_below ((Below.refl _ _).alloc (Nat.le_refl _) _))
theorem But.drew {b : Nat} {u w : World} (h : But b u w) : But b u w.drew := ⟨h.os, h.tape, h.output, h.size, h.block⟩
theorem But.drewN {b : Nat} {u w : World} (h : But b u w) (n : Nat) : But b u (w.drewN n) := ⟨h.os, h.tape, h.output, h.size, h.block⟩
theorem But.setCell {b : Nat} {u w : World} (h : But b u w) (o : Nat) (v : Value) : But b u (w.setCell ⟨b, o, none⟩ v) :=
 h.trans ⟨rfl, rfl, rfl, by simp [World.setCell], fun k _ hn => Below.heap_setCell _ _ _ _ hn⟩
theorem But.cell {b : Nat} {w w' : World} (h : But b w w') {p : Addr} {v : Value} (hv : w.cell? p = some v) (hn : p.block ≠ b) : w'.cell? p = some v :=
 (World.cell?_of_block (w := w) (h.block p.block (lt_of_cell hv) hn)).trans hv
theorem But.frozen {b : Nat} {w w' : World} (h : But b w w') {p : Addr} (hp : p.block < w.heap.size) (hn : p.block ≠ b) : w'.frozen? p = w.frozen? p :=
 World.frozen?_of_block (w := w) (h.block p.block hp hn)
theorem But.below {b B : Nat} {w w' : World} (h : But b w w') (hB : B <= b) (hs : b < w.heap.size) : Below B w w' :=
 ⟨h.os, h.tape, h.output, h.size, fun k hk => h.block k (by omega) (by omega)⟩
structure GB (aS aF : Addr) (b : Nat) : Prop where
 ty : 15 < b
 sh : 20 < b
 fo : 18 < b
 aS : aS.block < b
 aF : aF.block < b
theorem Glob.gb {aS aF : Addr} {w : World} (g : Glob aS aF w) : GB aS aF w.heap.size := by
 obtain ⟨ty, sh, fo, _, ⟨_, _, hS⟩, ⟨_, _, hF⟩⟩ := g
 exact ⟨lt_of_cell ty, lt_of_cell sh, lt_of_cell fo, (Array.getElem?_eq_some_iff.1 hS).1, (Array.getElem?_eq_some_iff.1 hF).1⟩
theorem Glob.but {aS aF : Addr} {w w' : World} {b : Nat} (g : Glob aS aF w) (h : But b w w') (hb : GB aS aF b) : Glob aS aF w' := by
 obtain ⟨ty, sh, fo, ne, ⟨c, t, hS'⟩, ⟨c', t', hF'⟩⟩ := g
 obtain ⟨b1, b2, b3, b4, b5⟩ := hb
 refine ⟨h.cell ty ?_, h.cell sh ?_, h.cell fo ?_, ne, ⟨c, t, ?_⟩, ⟨c', t', ?_⟩⟩
 ·exact Nat.ne_of_lt b1
 ·exact Nat.ne_of_lt b2
 ·exact Nat.ne_of_lt b3
 ·rw [h.block _ (Array.getElem?_eq_some_iff.1 hS').1 (Nat.ne_of_lt b4)]; exact hS'
 ·rw [h.block _ (Array.getElem?_eq_some_iff.1 hF').1 (Nat.ne_of_lt b5)]; exact hF'
structure Rd (b : Nat) (s : ByteArray) (a c n : Int) (w : World) : Prop where
 h0 : w.cell? ⟨b, 0, none⟩ = some (.string s)
 h1 : w.cell? ⟨b, 1, none⟩ = some (.int .i64 a)
 h2 : w.cell? ⟨b, 2, none⟩ = some (.int .i64 c)
 h3 : w.cell? ⟨b, 3, none⟩ = some (.int .u32 n)
 f2 : w.frozen? ⟨b, 2, none⟩ = false
 f3 : w.frozen? ⟨b, 3, none⟩ = false
theorem Rd.lt {b : Nat} {s : ByteArray} {a c n : Int} {w : World} (h : Rd b s a c n w) : b < w.heap.size := lt_of_cell h.h0
theorem Rd.of {b : Nat} {s : ByteArray} {a c n : Int} {w w' : World} (h : Rd b s a c n w) (e : w'.heap[b]? = w.heap[b]?) : Rd b s a c n w' :=
 ⟨(World.cell?_of_block (w := w) e).trans h.h0, (World.cell?_of_block (w := w) e).trans h.h1, (World.cell?_of_block (w := w) e).trans h.h2, (World.cell?_of_block (w := w) e).trans h.h3,
  (World.frozen?_of_block (w := w) e).trans h.f2, (World.frozen?_of_block (w := w) e).trans h.f3⟩
theorem Rd.drewN {b : Nat} {s : ByteArray} {a c n : Int} {w : World} (h : Rd b s a c n w) (k : Nat) : Rd b s a c n (w.drewN k) := ⟨h.h0, h.h1, h.h2, h.h3, h.f2, h.f3⟩
theorem Rd.drew {b : Nat} {s : ByteArray} {a c n : Int} {w : World} (h : Rd b s a c n w) : Rd b s a c n w.drew := ⟨h.h0, h.h1, h.h2, h.h3, h.f2, h.f3⟩
theorem Rd.alloc {b : Nat} {s : ByteArray} {a c n : Int} {w : World} (h : Rd b s a c n w) (o : Obj) : Rd b s a c n (w.alloc o) := h.of (Below.heap_alloc _ _ _ h.lt)
theorem Rd.below {b B : Nat} {s : ByteArray} {a c n : Int} {w w' : World} (h : Rd b s a c n w) (k : Below B w w') (hB : b < B) : Rd b s a c n w' := h.of (k.block _ hB)
theorem Rd.set3 {b : Nat} {s : ByteArray} {a c n : Int} {w : World} (h : Rd b s a c n w) (m : Int) : Rd b s a c m (w.setCell ⟨b, 3, none⟩ (.int .u32 m)) :=
 ⟨by rw [World.cell?_setCell_other (h := by simp)]; exact h.h0, by rw [World.cell?_setCell_other (h := by simp)]; exact h.h1, by rw [World.cell?_setCell_other (h := by simp)]; exact h.h2,
  World.cell?_setCell_same' _ _ _ (by rw [h.h3]; rfl), by rw [World.frozen?_setCell]; exact h.f2, by rw [World.frozen?_setCell]; exact h.f3⟩
theorem Rd.set2 {b : Nat} {s : ByteArray} {a c n : Int} {w : World} (h : Rd b s a c n w) (m : Int) : Rd b s a m n (w.setCell ⟨b, 2, none⟩ (.int .i64 m)) :=
 ⟨by rw [World.cell?_setCell_other (h := by simp)]; exact h.h0, by rw [World.cell?_setCell_other (h := by simp)]; exact h.h1,
  World.cell?_setCell_same' _ _ _ (by rw [h.h2]; rfl), by rw [World.cell?_setCell_other (h := by simp)]; exact h.h3, by rw [World.frozen?_setCell]; exact h.f2, by rw [World.frozen?_setCell]; exact h.f3⟩
end Go.Proofs.YtmenllnokgjdlaaGreatDoor
