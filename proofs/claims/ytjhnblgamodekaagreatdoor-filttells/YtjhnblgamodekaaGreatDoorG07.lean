/- Several texts in one: EErrno, EIter. Each says what it proves, and its conditions. -/
import Derived.Test.YtjhnblgamodekaaGreatDoorEErrs
import Derived.Test.YtjhnblgamodekaaGreatDoorG06
set_option maxHeartbeats 2000000
set_option maxRecDepth 100000
/-
 What esc.errnoOf answers at each error that package esc makes. Conditions: the package-level variables hold what the program's text lays ('Glob').
-/
namespace Go.Proofs.YtjhnblgamodekaaGreatDoor.E
open Go.RowKit Go.Extern.Stop Go.Stop Go.Extern
theorem Is_same (k : Int) (a : Addr) (w : World) :
  Calls Tryz.prog 38 #[.iface 216 (.agg #[.int .i64 k, .iface 254 (.pointer (some a))]), .iface 254 (.pointer (some a))] w fun e w' => e = .returned (.bool true) /\ Below w.heap.size w w' := by
 obtain ⟨i, hi, hcmp⟩ := Option.map_eq_some_iff.1 compS
 obtain ⟨j, hj, hjs⟩ := Option.map_eq_some_iff.1 sizeS
 have hext36 := @run_callFunc_extern Tryz.prog 68 _ ReflectliteType.typeOf Tryz.func68 (by kernel_rfl) (by kernel_rfl) (by kernel_rfl) (by kernel_rfl)
 obtain ⟨ext, hfind, cT⟩ := cmpExt
 have hext66 := @run_callFunc_extern Tryz.prog 208 _ ext Tryz.func208 (by kernel_rfl) (by kernel_rfl) (by kernel_rfl) hfind
 clear hfind
 have tT := typeOfS
 have mR := methodComparable
 have nW := noIsF
 have uW := unwF
 have mU := methodUnwrap
 have heq := fun w => run_eql_iface_ptr_same (P := Tryz.prog) w a Tryz.underlying42 Tryz.underlying254 hi hcmp hj
 have hty := fun w => run_eql_iface_types (P := Tryz.prog) 216 254 (.agg #[.int .i64 k, .iface 254 (.pointer (some a))]) (.pointer (some a)) Tryz.underlying42 (by decide) w
 go_enter Tryz.func38, Tryz.ntmps38
 go_wp2
 refine wp_loop_rounds 2 ?_
 rw [rounds_succ]
 go_wp2
 rw [rounds_succ]
 go_wp2
 go_ret
 exact ⟨rfl, (Below.refl _ _).alloc (by simp) _⟩
theorem Is_other (k : Int) (a b : Addr) (ca cb : Array Value) (ta tb : TypeId) (w : World) (hne : a ≠ b) (ha : w.heap[a.block]? = some (.cells ca ta (0, 0))) (hb : w.heap[b.block]? = some (.cells cb tb (0, 0))) :
  Calls Tryz.prog 38 #[.iface 216 (.agg #[.int .i64 k, .iface 254 (.pointer (some a))]), .iface 254 (.pointer (some b))] w fun e w' => e = .returned (.bool false) /\ Below w.heap.size w w' := by
 obtain ⟨i, hi, hcmp⟩ := Option.map_eq_some_iff.1 compS
 obtain ⟨j, hj, hjs⟩ := Option.map_eq_some_iff.1 sizeS
 have hext36 := @run_callFunc_extern Tryz.prog 68 _ ReflectliteType.typeOf Tryz.func68 (by kernel_rfl) (by kernel_rfl) (by kernel_rfl) (by kernel_rfl)
 obtain ⟨ext, hfind, cT⟩ := cmpExt
 have hext66 := @run_callFunc_extern Tryz.prog 208 _ ext Tryz.func208 (by kernel_rfl) (by kernel_rfl) (by kernel_rfl) hfind
 clear hfind
 have tT := typeOfS
 have mR := methodComparable
 have nW := noIsF
 have nE := noIsS
 have uW := unwF
 have uE := noUnwS
 have vE := noUnwsS
 have mU := methodUnwrap
 have hal : a.block < w.heap.size := (Array.getElem?_eq_some_iff.1 ha).1
 have hbl : b.block < w.heap.size := (Array.getElem?_eq_some_iff.1 hb).1
 have heq := run_eql_iface_ptr_other (P := Tryz.prog) (w.alloc (.cells #[.int .i64 k, .iface 254 (.pointer (some a))] 216)) Tryz.underlying42 Tryz.underlying254 hi hcmp hj (by rw [hjs]; decide) hne ((Below.heap_alloc _ _ _ hal).trans ha) ((Below.heap_alloc _ _ _ hbl).trans hb)
 have hty := fun w => run_eql_iface_types (P := Tryz.prog) 216 254 (.agg #[.int .i64 k, .iface 254 (.pointer (some a))]) (.pointer (some b)) Tryz.underlying42 (by decide) w
 clear ha hb hal hbl
 go_enter Tryz.func38, Tryz.ntmps38
 go_wp2
 refine wp_loop_rounds 2 ?_
 rw [rounds_succ]
 go_wp2
 rw [rounds_succ]
 go_wp2
 go_ret
 exact ⟨rfl, (Below.refl _ _).alloc (by simp) _⟩
theorem H_ {p : Prop} (h : p) : Hid p := h
theorem un {p : Prop} (h : Hid p) : p := h
structure Ad where
 cd : C.Ad
 ut : Addr
 us : Addr
 t : Addr
 m : Addr
structure Glob (a : Ad) (w : World) : Prop where
 gc : C.Glob a.cd w
 gu : U.Glob a.ut a.us w
 tx : w.cell? ⟨11, 0, none⟩ = some (.iface 254 (.pointer (some a.t)))
 mr : w.cell? ⟨12, 0, none⟩ = some (.iface 254 (.pointer (some a.m)))
 mt : a.m ≠ a.t
 hT : ∃ c t, w.heap[a.t.block]? = some (.cells c t (0, 0))
 hM : ∃ c t, w.heap[a.m.block]? = some (.cells c t (0, 0))
theorem Glob.ty {a : Ad} {w : World} (g : Glob a w) : w.cell? ⟨7, 0, none⟩ = some (.iface 121 (.agg #[.pointer (some ⟨17, 42, none⟩)])) := g.gc.ty
theorem Glob.below {a : Ad} {w w' : World} (g : Glob a w) {B : Nat} (hB : w.heap.size <= B) (h : Below B w w') : Glob a w' := by
 obtain ⟨gc, gu, tx, mr, mt, ⟨c1, t1, h1⟩, ⟨c2, t2, h2⟩⟩ := g
 refine ⟨gc.below hB h, gu.below hB h, ?_, ?_, mt, ⟨c1, t1, ?_⟩, ⟨c2, t2, ?_⟩⟩
 ·rw [h.cell (Nat.lt_of_lt_of_le (lt_of_cell tx) hB)]; exact tx
 ·rw [h.cell (Nat.lt_of_lt_of_le (lt_of_cell mr) hB)]; exact mr
 ·rw [h.block _ (Nat.lt_of_lt_of_le (Array.getElem?_eq_some_iff.1 h1).1 hB)]; exact h1
 ·rw [h.block _ (Nat.lt_of_lt_of_le (Array.getElem?_eq_some_iff.1 h2).1 hB)]; exact h2
theorem Glob.alloc {a : Ad} {w : World} (g : Glob a w) (o : Obj) : Glob a (w.alloc o) :=
 g.below (Nat.le_refl _) ((Below.refl _ _).alloc (Nat.le_refl _) _)
abbrev flt (k : Int) (a : Addr) : Value := .iface 216 (.agg #[.int .i64 k, .iface 254 (.pointer (some a))])
abbrev nos (k n : Int) : Value := .iface 216 (.agg #[.int .i64 k, .iface 220 (.agg #[.int .u8 n])])
theorem errnoOf_bare (k n : Int) (a : Ad) (w : World) (g : Glob a w) :
  Calls Tryz.prog 158 #[nos k n] w fun e w' => e = .returned (.int .i64 60) /\ Below w.heap.size w w' := by
 have gt := (g.alloc (.cells #[.int .u8 0] 220)).ty
 have H := H_ (As_gives _ _ true (as2 n k) ⟨w.heap.size, 0, none⟩ (.int .u8 0) (w.alloc (.cells #[.int .u8 0] 220)) gt (by simp) (by simp))
 clear gt g
 go_enter Tryz.func158, Tryz.ntmps158
 go_wp2_with fail
 refine (un H).mono ?_
 rintro e w1 ⟨rfl, hb⟩
 have HB := H_ hb
 clear hb
 go_wp2
 go_ret
 exact ⟨rfl, ((Below.refl _ _).alloc (Nat.le_refl _) _).trans (un HB)⟩
theorem asNo (k : Int) (x : Addr) (a : Ad) (w : World) (g : Glob a w) :
  Calls Tryz.prog 37 #[flt k x, .iface 221 (.pointer (some ⟨w.heap.size, 0, none⟩))] (w.alloc (.cells #[.int .u8 0] 220)) fun e w' => e = .returned (.bool false) /\ Hid (Below w.heap.size w w') /\ Hid (Glob a w') /\
   w'.cell? ⟨11, 0, none⟩ = some (.iface 254 (.pointer (some a.t))) := by
 have g1 := g.alloc (.cells #[.int .u8 0] 220)
 refine (As_gives _ _ false (as3 k x) ⟨w.heap.size, 0, none⟩ (.int .u8 0) _ g1.ty (by simp) (by simp)).mono fun e w' ⟨he, hb⟩ => ?_
 have hb' : Below w.heap.size w w' := ((Below.refl _ _).alloc (Nat.le_refl _) _).trans hb
 have g' := g.below (Nat.le_refl _) hb'
 exact ⟨he, hb', g', g'.tx⟩
theorem isYes (k : Int) (x : Addr) (w w1 : World) (h : Hid (Below w.heap.size w w1)) :
  Calls Tryz.prog 38 #[flt k x, .iface 254 (.pointer (some x))] w1 fun e w' => e = .returned (.bool true) /\ Hid (Below w.heap.size w w') :=
 (Is_same k x w1).mono fun _ _ ⟨he, hb⟩ => ⟨he, (un h).trans (hb.mono (un h).size)⟩
theorem isNo (k : Int) (x y : Addr) (hne : x ≠ y) (a : Ad) (w w1 : World) (h : Hid (Below w.heap.size w w1)) (g : Hid (Glob a w1)) (hx : ∃ c t, w1.heap[x.block]? = some (.cells c t (0, 0))) (hy : ∃ c t, w1.heap[y.block]? = some (.cells c t (0, 0))) :
  Calls Tryz.prog 38 #[flt k x, .iface 254 (.pointer (some y))] w1 fun e w' => e = .returned (.bool false) /\ Hid (Below w.heap.size w w') /\ Hid (Glob a w') /\
   w'.cell? ⟨12, 0, none⟩ = some (.iface 254 (.pointer (some a.m))) := by
 obtain ⟨c1, t1, h1⟩ := hx
 obtain ⟨c2, t2, h2⟩ := hy
 refine (Is_other k x y c1 c2 t1 t2 w1 hne h1 h2).mono fun e w' ⟨he, hb⟩ => ?_
 have g' := (un g).below (Nat.le_refl _) hb
 exact ⟨he, (un h).trans (hb.mono (un h).size), g', g'.mr⟩
theorem errnoOf_text (k : Int) (a : Ad) (w : World) (g : Glob a w) :
  Calls Tryz.prog 158 #[flt k a.t] w fun e w' => e = .returned (.int .i64 60) /\ Below w.heap.size w w' := by
 have H := H_ (asNo k a.t a w g)
 clear g
 go_enter Tryz.func158, Tryz.ntmps158
 go_wp2_with fail
 refine (un H).mono ?_
 rintro e w1 ⟨rfl, hb, hg, hc⟩
 go_wp2_with fail
 refine (isYes k a.t w _ hb).mono ?_
 rintro e w2 ⟨rfl, hb2⟩
 go_wp2
 go_ret
 exact ⟨rfl, un hb2⟩
theorem errnoOf_mark (k : Int) (a : Ad) (w : World) (g : Glob a w) :
  Calls Tryz.prog 158 #[flt k a.m] w fun e w' => e = .returned (.int .i64 60) /\ Below w.heap.size w w' := by
 have H := H_ (asNo k a.m a w g)
 have ne := H_ g.mt
 clear g
 go_enter Tryz.func158, Tryz.ntmps158
 go_wp2_with fail
 refine (un H).mono ?_
 rintro e w1 ⟨rfl, hb, hg, hc⟩
 go_wp2_with fail
 refine (isNo k a.m a.t (un ne) a w _ hb hg (un hg).hM (un hg).hT).mono ?_
 rintro e w2 ⟨rfl, hb2, hg2, hc2⟩
 go_wp2_with fail
 refine (isYes k a.m w _ hb2).mono ?_
 rintro e w3 ⟨rfl, hb3⟩
 go_wp2
 go_ret
 exact ⟨rfl, un hb3⟩
def IsErr (a : Ad) (v : Value) : Prop := (∃ k, v = flt k a.t) \/ (∃ k, v = flt k a.m) \/ (∃ k n, v = nos k n)
theorem errnoOf_any (v : Value) (a : Ad) (w : World) (g : Glob a w) (h : IsErr a v) :
  Calls Tryz.prog 158 #[v] w fun e w' => e = .returned (.int .i64 60) /\ Below w.heap.size w w' := by
 rcases h with ⟨k, rfl⟩ | ⟨k, rfl⟩ | ⟨k, n, rfl⟩
 ·exact errnoOf_text k a w g
 ·exact errnoOf_mark k a w g
 ·exact errnoOf_bare k n a w g
theorem IsErr.form {a : Ad} {v : Value} (h : IsErr a v) : ∃ x, v = .iface 216 x := by
 rcases h with ⟨k, rfl⟩ | ⟨k, rfl⟩ | ⟨k, n, rfl⟩ <;> exact ⟨_, rfl⟩
end Go.Proofs.YtjhnblgamodekaaGreatDoor.E
/-
 The iterator of package esc: 'text.bytes' hands over a text's bytes, each with its place. Conditions: none.
-/
namespace Go.Proofs.YtjhnblgamodekaaGreatDoor.E
open Go Go.RowKit Go.Shelf
attribute [local go_sem] Oper.semAt_some
abbrev Pc := C.Pc
abbrev all (s : ByteArray) : List (Pc s) := C.all s 1
theorem bytes_any (s : ByteArray) (w : World) :
  Calls Tryz.prog 89 #[.agg #[.string s]] w fun e w' => e = .returned (.func (.func 107) #[] #[.pointer (some ⟨w.heap.size, 0, none⟩)]) /\ w' = w.alloc (.cells #[.string s] 144) := by
 go_enter Tryz.func89, Tryz.ntmps89
 go_wp2
 go_ret
 exact ⟨rfl, rfl⟩
theorem bytes1_stops (m : Nat) (hm : 1 <= m) (Bs : Nat) (s : ByteArray) (w : World) (hs : s.size <= 1000)
  (hBs : w.cell? ⟨Bs, 0, none⟩ = some (.string s)) :
  SeqStopsK Fence.wide m Tryz.prog 107 #[.pointer (some ⟨Bs, 0, none⟩)] (fun x : Pc s => #[.int .i64 x.p, .int .u8 ((s[x.p]'x.hp).toNat : Int)]) (C.Two Bs Bs)
   (fun xs => xs = all s) (fun pre => pre <+: all s) s.size w := fun l J Jx W hW hJ hJx hY h0 => by
 have hbs := (hW.cell (p := ⟨Bs, 0, none⟩) (lt_of_cell hBs)).trans hBs
 clear hBs hW
 refine callsIn_of_wp Tryz.func107 rfl trivial ?_ rfl
 simp only [Tryz.ntmps107, List.size_toArray, List.length_cons, List.length_nil, Nat.reduceAdd, Nat.reduceSub, Array.replicate_succ, Array.replicate_zero, List.push_toArray, List.append_toArray, List.nil_append, List.cons_append]
 gi_wp2
 gi_loopw [7] (fun i wr => ∃ (pre : List (Pc s)) (f p : Nat), pre ++ C.al s 1 f p = all s /\ s.size <= p + f /\ pre.length <= p /\ p <= s.size /\ i = .int .i64 (p : Int) /\ J pre wr /\ wr.cell? ⟨Bs, 0, none⟩ = some (.string s))
  (fun i _ => s.size - (intOf i).toNat)
 case atStart => exact ⟨[], s.size, 0, rfl, by omega, Nat.le_refl _, by omega, rfl, h0, hbs⟩
 case round =>
  obtain ⟨pre, f, p, hl, hf, hpl, hp4, rfl, hJs, ha⟩ := hrel
  by_cases hlt : p < s.size
  ·obtain ⟨f', rfl, hal, hf'⟩ := C.al_cons s 1 f p (Nat.le_refl _) hlt hf
   rw [hal] at hl
   obtain ⟨fn, tmps, assign, body, hy, hR⟩ := hY _ ⟨p, hlt⟩ _ hJs (by omega)
   have Hl := H_ hl
   have Hf := H_ hf'
   have Hpl := H_ hpl
   have Hlt := H_ hlt
   have hlt' : (p : Int) < s.size := by omega
   have hp' : (p : Int) <= 1000 := by omega
   clear hl hal hf hf' hpl hbs
   gi_wp2
   refine hR.mono ?_
   rintro e W3 (⟨rfl, hJ3, hk3⟩ | ⟨rfl, hJx3⟩)
   ·have h3s := (World.cell?_of_block (a := ⟨Bs, 0, none⟩) hk3.1).trans ha
    clear hk3
    gi_wp2
    go_roundw
    case rel =>
     refine ⟨_, f', p + 1, ?_, un Hf, ?_, by omega, by simp, hJ3, h3s⟩
     ·rw [List.append_assoc]
      exact un Hl
     ·have := un Hpl
      simp
      omega
    case measure => simp [intOf]; omega
   ·gi_wp2
    refine bodyPost_ret (results_none rfl _ _ _) rfl ?_
    exact ⟨⟨_, rfl⟩, .inr ⟨_, ⟨C.al s 1 f' (p + 1), by rw [List.append_assoc]; exact un Hl⟩, hJx3⟩⟩
  ·have hge : ¬ (p : Int) < s.size := by omega
   rw [C.al_end s 1 f p hlt, List.append_nil] at hl
   subst hl
   clear hbs hf hpl
   gi_wp2
   go_end0
   first | exact ⟨⟨_, rfl⟩, .inl ⟨_, rfl, hJs⟩⟩ | exact ⟨⟨_, rfl⟩, .inl hJs⟩
end Go.Proofs.YtjhnblgamodekaaGreatDoor.E
