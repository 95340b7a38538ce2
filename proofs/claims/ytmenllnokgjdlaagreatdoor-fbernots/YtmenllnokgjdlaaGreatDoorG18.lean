/- Several texts in one: Help, TErrno, TvLaws, TNode, GNode, TShelf, DText, FRange. Each says what it proves, and its conditions. -/
import Derived.Test.YtmenllnokgjdlaaGreatDoorG17
import Derived.Shelf.Strings.OnBuilder
import Derived.Shelf.Strconv.Clone
import Derived.Laws.DeepStrings4
set_option maxHeartbeats 1000000
set_option maxRecDepth 100000
/-
 Small laws on worlds: what is kept while one block of the call's own is written. Conditions: none.
-/
namespace Go.Proofs.YtmenllnokgjdlaaGreatDoor
open Go.RowKit
structure But (b : Nat) (w w' : World) : Prop where
 os : w'.os = w.os
 tape : w'.tape = w.tape
 output : w'.output = w.output
 size : w.heap.size <= w'.heap.size
 block : ∀ k, k < w.heap.size -> k ≠ b -> w'.heap[k]? = w.heap[k]?
theorem But.refl (b : Nat) (w : World) : But b w w := ⟨rfl, rfl, rfl, Nat.le_refl _, fun _ _ _ => rfl⟩
theorem But.trans {b : Nat} {u v w : World} (h : But b u v) (k : But b v w) : But b u w :=
 ⟨k.os.trans h.os, k.tape.trans h.tape, k.output.trans h.output, Nat.le_trans h.size k.size, fun i hi hn => (k.block i (Nat.lt_of_lt_of_le hi h.size) hn).trans (h.block i hi hn)⟩
theorem But.of_below {b : Nat} {w w' : World} (h : Below w.heap.size w w') : But b w w' := ⟨h.os, h.tape, h.output, h.size, fun k hk _ => h.block k hk⟩
theorem But.alloc {b : Nat} {u w : World} (h : But b u w) (o : Obj) : But b u (w.alloc o) := h.trans (But.of_below ((Below.refl _ _).alloc (Nat.le_refl _) _))
theorem But.drew {b : Nat} {u w : World} (h : But b u w) : But b u w.drew := ⟨h.os, h.tape, h.output, h.size, h.block⟩
theorem But.drewN {b : Nat} {u w : World} (h : But b u w) (n : Nat) : But b u (w.drewN n) := ⟨h.os, h.tape, h.output, h.size, h.block⟩
theorem But.setCell {b : Nat} {u w : World} (h : But b u w) (o : Nat) (v : Value) : But b u (w.setCell ⟨b, o, none⟩ v) :=
 h.trans ⟨rfl, rfl, rfl, by simp [World.setCell], fun k _ hn => Below.heap_setCell _ _ _ _ hn⟩
theorem But.cell {b : Nat} {w w' : World} (h : But b w w') {p : Addr} {v : Value} (hv : w.cell? p = some v) (hn : p.block ≠ b) : w'.cell? p = some v :=
 (World.cell?_of_block (w := w) (h.block p.block (lt_of_cell hv) hn)).trans hv
theorem But.frozen {b : Nat} {w w' : World} (h : But b w w') {p : Addr} (hp : p.block < w.heap.size) (hn : p.block ≠ b) : w'.frozen? p = w.frozen? p :=
 World.frozen?_of_block (w := w) (h.block p.block hp hn)
theorem But.below {b B : Nat} {w w' : World} (h : But b w w') (hB : B <= b) (hs : b < w.heap.size) : Below B w w' :=
 ⟨h.os, h.tape, h.output, h.size, fun k hk => h.block k (by omega) (by omega)⟩
structure GB (aS aF : Addr) (b : Nat) : Prop where
 ty : 15 < b
 sh : 20 < b
 fo : 18 < b
 aS : aS.block < b
 aF : aF.block < b
theorem Glob.gb {aS aF : Addr} {w : World} (g : Glob aS aF w) : GB aS aF w.heap.size := by
 obtain ⟨ty, sh, fo, _, ⟨_, _, hS⟩, ⟨_, _, hF⟩⟩ := g
 exact ⟨lt_of_cell ty, lt_of_cell sh, lt_of_cell fo, (Array.getElem?_eq_some_iff.1 hS).1, (Array.getElem?_eq_some_iff.1 hF).1⟩
theorem Glob.but {aS aF : Addr} {w w' : World} {b : Nat} (g : Glob aS aF w) (h : But b w w') (hb : GB aS aF b) : Glob aS aF w' := by
 obtain ⟨ty, sh, fo, ne, ⟨c, t, hS'⟩, ⟨c', t', hF'⟩⟩ := g
 obtain ⟨b1, b2, b3, b4, b5⟩ := hb
 refine ⟨h.cell ty ?_, h.cell sh ?_, h.cell fo ?_, ne, ⟨c, t, ?_⟩, ⟨c', t', ?_⟩⟩
 ·exact Nat.ne_of_lt b1
 ·exact Nat.ne_of_lt b2
 ·exact Nat.ne_of_lt b3
 ·rw [h.block _ (Array.getElem?_eq_some_iff.1 hS').1 (Nat.ne_of_lt b4)]; exact hS'
 ·rw [h.block _ (Array.getElem?_eq_some_iff.1 hF').1 (Nat.ne_of_lt b5)]; exact hF'
structure Rd (b : Nat) (s : ByteArray) (a c n : Int) (w : World) : Prop where
 h0 : w.cell? ⟨b, 0, none⟩ = some (.string s)
 h1 : w.cell? ⟨b, 1, none⟩ = some (.int .i64 a)
 h2 : w.cell? ⟨b, 2, none⟩ = some (.int .i64 c)
 h3 : w.cell? ⟨b, 3, none⟩ = some (.int .u32 n)
 f2 : w.frozen? ⟨b, 2, none⟩ = false
 f3 : w.frozen? ⟨b, 3, none⟩ = false
theorem Rd.lt {b : Nat} {s : ByteArray} {a c n : Int} {w : World} (h : Rd b s a c n w) : b < w.heap.size := lt_of_cell h.h0
theorem Rd.of {b : Nat} {s : ByteArray} {a c n : Int} {w w' : World} (h : Rd b s a c n w) (e : w'.heap[b]? = w.heap[b]?) : Rd b s a c n w' :=
 ⟨(World.cell?_of_block (w := w) e).trans h.h0, (World.cell?_of_block (w := w) e).trans h.h1, (World.cell?_of_block (w := w) e).trans h.h2, (World.cell?_of_block (w := w) e).trans h.h3,
  (World.frozen?_of_block (w := w) e).trans h.f2, (World.frozen?_of_block (w := w) e).trans h.f3⟩
theorem Rd.drewN {b : Nat} {s : ByteArray} {a c n : Int} {w : World} (h : Rd b s a c n w) (k : Nat) : Rd b s a c n (w.drewN k) := ⟨h.h0, h.h1, h.h2, h.h3, h.f2, h.f3⟩
theorem Rd.drew {b : Nat} {s : ByteArray} {a c n : Int} {w : World} (h : Rd b s a c n w) : Rd b s a c n w.drew := ⟨h.h0, h.h1, h.h2, h.h3, h.f2, h.f3⟩
theorem Rd.alloc {b : Nat} {s : ByteArray} {a c n : Int} {w : World} (h : Rd b s a c n w) (o : Obj) : Rd b s a c n (w.alloc o) := h.of (Below.heap_alloc _ _ _ h.lt)
theorem Rd.below {b B : Nat} {s : ByteArray} {a c n : Int} {w w' : World} (h : Rd b s a c n w) (k : Below B w w') (hB : b < B) : Rd b s a c n w' := h.of (k.block _ hB)
theorem Rd.set3 {b : Nat} {s : ByteArray} {a c n : Int} {w : World} (h : Rd b s a c n w) (m : Int) : Rd b s a c m (w.setCell ⟨b, 3, none⟩ (.int .u32 m)) :=
 ⟨by rw [World.cell?_setCell_other (h := by simp)]; exact h.h0, by rw [World.cell?_setCell_other (h := by simp)]; exact h.h1, by rw [World.cell?_setCell_other (h := by simp)]; exact h.h2,
  World.cell?_setCell_same' _ _ _ (by rw [h.h3]; rfl), by rw [World.frozen?_setCell]; exact h.f2, by rw [World.frozen?_setCell]; exact h.f3⟩
theorem Rd.set2 {b : Nat} {s : ByteArray} {a c n : Int} {w : World} (h : Rd b s a c n w) (m : Int) : Rd b s a m n (w.setCell ⟨b, 2, none⟩ (.int .i64 m)) :=
 ⟨by rw [World.cell?_setCell_other (h := by simp)]; exact h.h0, by rw [World.cell?_setCell_other (h := by simp)]; exact h.h1,
  World.cell?_setCell_same' _ _ _ (by rw [h.h2]; rfl), by rw [World.cell?_setCell_other (h := by simp)]; exact h.h3, by rw [World.frozen?_setCell]; exact h.f2, by rw [World.frozen?_setCell]; exact h.f3⟩
end Go.Proofs.YtmenllnokgjdlaaGreatDoor
/-
 What tlv.errnoOf answers at each error that package tlv makes. Conditions: the package-level variables hold what the program's text lays ('TG').
-/
namespace Go.Proofs.YtmenllnokgjdlaaGreatDoor
open Go.RowKit
theorem H_ {p : Prop} (h : p) : Hid p := h
theorem un {p : Prop} (h : Hid p) : p := h
end Go.Proofs.YtmenllnokgjdlaaGreatDoor
namespace Go.Proofs.YtmenllnokgjdlaaGreatDoor.T
open Go.RowKit Go.Extern.Stop Go.Stop Go.Extern
theorem Is_same (k : Int) (a : Addr) (w : World) :
  Calls Tryz.prog 55 #[.iface 97 (.agg #[.int .i64 k, .iface 350 (.pointer (some a))]), .iface 350 (.pointer (some a))] w fun e w' => e = .returned (.bool true) /\ Below w.heap.size w w' := by
 obtain ⟨i, hi, hcmp⟩ := Option.map_eq_some_iff.1 compS
 obtain ⟨j, hj, hjs⟩ := Option.map_eq_some_iff.1 sizeS
 have hext36 := @run_callFunc_extern Tryz.prog 86 _ ReflectliteType.typeOf Tryz.func86 (by kernel_rfl) (by kernel_rfl) (by kernel_rfl) (by kernel_rfl)
 obtain ⟨ext, hfind, cT⟩ := cmpExt
 have hext66 := @run_callFunc_extern Tryz.prog 283 _ ext Tryz.func283 (by kernel_rfl) (by kernel_rfl) (by kernel_rfl) hfind
 clear hfind
 have tT := typeOfS
 have mR := methodComparable
 have nW := noIsF
 have uW := unwF
 have mU := methodUnwrap
 have heq := fun w => run_eql_iface_ptr_same (P := Tryz.prog) w a Tryz.underlying52 Tryz.underlying350 hi hcmp hj
 have hty := fun w => run_eql_iface_types (P := Tryz.prog) 97 350 (.agg #[.int .i64 k, .iface 350 (.pointer (some a))]) (.pointer (some a)) Tryz.underlying52 (by decide) w
 go_enter Tryz.func55, Tryz.ntmps55
 go_wp2
 refine wp_loop_rounds 2 ?_
 rw [rounds_succ]
 go_wp2
 rw [rounds_succ]
 go_wp2
 go_ret
 exact ⟨rfl, (Below.refl _ _).alloc (by simp) _⟩
theorem Is_other (k : Int) (a b : Addr) (ca cb : Array Value) (ta tb : TypeId) (w : World) (hne : a ≠ b) (ha : w.heap[a.block]? = some (.cells ca ta (0, 0))) (hb : w.heap[b.block]? = some (.cells cb tb (0, 0))) :
  Calls Tryz.prog 55 #[.iface 97 (.agg #[.int .i64 k, .iface 350 (.pointer (some a))]), .iface 350 (.pointer (some b))] w fun e w' => e = .returned (.bool false) /\ Below w.heap.size w w' := by
 obtain ⟨i, hi, hcmp⟩ := Option.map_eq_some_iff.1 compS
 obtain ⟨j, hj, hjs⟩ := Option.map_eq_some_iff.1 sizeS
 have hext36 := @run_callFunc_extern Tryz.prog 86 _ ReflectliteType.typeOf Tryz.func86 (by kernel_rfl) (by kernel_rfl) (by kernel_rfl) (by kernel_rfl)
 obtain ⟨ext, hfind, cT⟩ := cmpExt
 have hext66 := @run_callFunc_extern Tryz.prog 283 _ ext Tryz.func283 (by kernel_rfl) (by kernel_rfl) (by kernel_rfl) hfind
 clear hfind
 have tT := typeOfS
 have mR := methodComparable
 have nW := noIsF
 have nE := noIsS
 have uW := unwF
 have uE := noUnwS
 have vE := noUnwsS
 have mU := methodUnwrap
 have hal : a.block < w.heap.size := (Array.getElem?_eq_some_iff.1 ha).1
 have hbl : b.block < w.heap.size := (Array.getElem?_eq_some_iff.1 hb).1
 have heq := run_eql_iface_ptr_other (P := Tryz.prog) (w.alloc (.cells #[.int .i64 k, .iface 350 (.pointer (some a))] 97)) Tryz.underlying52 Tryz.underlying350 hi hcmp hj (by rw [hjs]; decide) hne ((Below.heap_alloc _ _ _ hal).trans ha) ((Below.heap_alloc _ _ _ hbl).trans hb)
 have hty := fun w => run_eql_iface_types (P := Tryz.prog) 97 350 (.agg #[.int .i64 k, .iface 350 (.pointer (some a))]) (.pointer (some b)) Tryz.underlying52 (by decide) w
 clear ha hb hal hbl
 go_enter Tryz.func55, Tryz.ntmps55
 go_wp2
 refine wp_loop_rounds 2 ?_
 rw [rounds_succ]
 go_wp2
 rw [rounds_succ]
 go_wp2
 go_ret
 exact ⟨rfl, (Below.refl _ _).alloc (by simp) _⟩
structure Ads where
 sh : Addr
 tg : Addr
 mo : Addr
 no : Addr
 ki : Addr
 la : Addr
def Lies (w : World) (a : Addr) : Prop := ∃ c t, w.heap[a.block]? = some (.cells c t (0, 0))
theorem Lies.lt {w : World} {a : Addr} (h : Lies w a) : a.block < w.heap.size := by obtain ⟨_, _, h⟩ := h; exact (Array.getElem?_eq_some_iff.1 h).1
theorem Lies.of {w w' : World} {a : Addr} (h : Lies w a) (e : w'.heap[a.block]? = w.heap[a.block]?) : Lies w' a := by obtain ⟨c, t, h⟩ := h; exact ⟨c, t, e.trans h⟩
structure TG (A : Ads) (w : World) : Prop where
 ty : w.cell? ⟨15, 0, none⟩ = some (.iface 180 (.agg #[.pointer (some ⟨29, 52, none⟩)]))
 sh : w.cell? ⟨16, 0, none⟩ = some (.iface 350 (.pointer (some A.sh)))
 tg : w.cell? ⟨17, 0, none⟩ = some (.iface 350 (.pointer (some A.tg)))
 mo : w.cell? ⟨4, 0, none⟩ = some (.iface 350 (.pointer (some A.mo)))
 no : w.cell? ⟨12, 0, none⟩ = some (.iface 350 (.pointer (some A.no)))
 ki : w.cell? ⟨13, 0, none⟩ = some (.iface 350 (.pointer (some A.ki)))
 la : w.cell? ⟨14, 0, none⟩ = some (.iface 350 (.pointer (some A.la)))
 lsh : Lies w A.sh
 ltg : Lies w A.tg
 lmo : Lies w A.mo
 lno : Lies w A.no
 lki : Lies w A.ki
 lla : Lies w A.la
 ne : A.tg ≠ A.sh /\ A.mo ≠ A.sh /\ A.no ≠ A.sh /\ A.ki ≠ A.sh /\ A.la ≠ A.sh /\ A.mo ≠ A.tg /\ A.no ≠ A.tg /\ A.ki ≠ A.tg /\ A.la ≠ A.tg /\ A.no ≠ A.mo /\ A.ki ≠ A.mo /\ A.la ≠ A.mo
theorem TG.of {A : Ads} {w w' : World} (g : TG A w) (hc : ∀ k, k < 29 -> k < w.heap.size -> w'.heap[k]? = w.heap[k]?) (hl : ∀ a, Lies w a -> (a = A.sh \/ a = A.tg \/ a = A.mo \/ a = A.no \/ a = A.ki \/ a = A.la) -> w'.heap[a.block]? = w.heap[a.block]?) : TG A w' := by
 have c : ∀ (k : Nat) (v : Value), k < 29 -> w.cell? ⟨k, 0, none⟩ = some v -> w'.cell? ⟨k, 0, none⟩ = some v := fun k v hk h => (World.cell?_of_block (w := w) (a := ⟨k, 0, none⟩) (hc k hk (lt_of_cell h))).trans h
 exact ⟨c _ _ (by decide) g.ty, c _ _ (by decide) g.sh, c _ _ (by decide) g.tg, c _ _ (by decide) g.mo, c _ _ (by decide) g.no, c _ _ (by decide) g.ki, c _ _ (by decide) g.la,
  g.lsh.of (hl _ g.lsh (by simp)), g.ltg.of (hl _ g.ltg (by simp)), g.lmo.of (hl _ g.lmo (by simp)), g.lno.of (hl _ g.lno (by simp)), g.lki.of (hl _ g.lki (by simp)), g.lla.of (hl _ g.lla (by simp)), g.ne⟩
theorem TG.below {A : Ads} {w w' : World} (g : TG A w) {B : Nat} (hB : w.heap.size <= B) (h : Below B w w') : TG A w' :=
 g.of (fun k _ hk => h.block k (by omega)) (fun a ha _ => h.block _ (by have := ha.lt; omega))
def IsWhy (A : Ads) (u : Value) (E : Int) : Prop := u = .iface 149 (.agg #[.int .i64 E]) \/
 ∃ a, u = .iface 350 (.pointer (some a)) /\ (a = A.sh /\ E = 10 \/ a = A.tg /\ E = 20 \/ a = A.mo /\ E = 11 \/ (a = A.no \/ a = A.ki \/ a = A.la) /\ E = 21)
def IsErr (A : Ads) (v : Value) (E : Int) : Prop := ∃ k u, v = .iface 97 (.agg #[.int .i64 k, u]) /\ IsWhy A u E
theorem Is_any (k : Int) (a b : Addr) (w : World) (ha : Lies w a) (hb : Lies w b) (w1 : World) (h : Below w.heap.size w w1) :
  Calls Tryz.prog 55 #[.iface 97 (.agg #[.int .i64 k, .iface 350 (.pointer (some a))]), .iface 350 (.pointer (some b))] w1 fun e w' => e = .returned (.bool (decide (a = b))) /\ Below w.heap.size w w' := by
 by_cases e : a = b
 ·subst e
  rw [decide_eq_true rfl]
  exact (Is_same k a w1).mono fun _ _ ⟨h1, h2⟩ => ⟨h1, h.trans (h2.mono h.size)⟩
 ·rw [decide_eq_false e]
  obtain ⟨ca, ta, ha'⟩ := ha.of (h.block _ ha.lt)
  obtain ⟨cb, tb, hb'⟩ := hb.of (h.block _ hb.lt)
  exact (Is_other k a b ca cb ta tb w1 e ha' hb').mono fun _ _ ⟨h1, h2⟩ => ⟨h1, h.trans (h2.mono h.size)⟩
theorem errnoOf_size (k n : Int) (A : Ads) (w : World) (g : TG A w) :
  Calls Tryz.prog 60 #[.iface 97 (.agg #[.int .i64 k, .iface 149 (.agg #[.int .i64 n])])] w fun e w' => e = .returned (.int .i64 n) /\ Below w.heap.size w w' := by
 have gt := (g.below (Nat.le_refl _) ((Below.refl _ _).alloc (Nat.le_refl _) (.cells #[.int .i64 0] 149))).ty
 have H := As_gives _ _ true _ (as2 n k) ⟨w.heap.size, 0, none⟩ (.int .i64 0) (w.alloc (.cells #[.int .i64 0] 149)) gt (by simp) (by simp)
 clear gt g
 go_enter Tryz.func60, Tryz.ntmps60
 go_wp2_with (go_at_call 54; refine H.mono ?_; rintro e w' ⟨rfl, hb, hc⟩)
 go_ret
 exact ⟨rfl, ((Below.refl _ _).alloc (Nat.le_refl _) _).trans hb⟩
theorem errnoOf_sent (k : Int) (a : Addr) (E : Int) (A : Ads) (w : World) (g : TG A w) (la : Lies w a) (hE : E = if a = A.sh then 10 else if a = A.tg then 20 else if a = A.mo then 11 else 21) :
  Calls Tryz.prog 60 #[.iface 97 (.agg #[.int .i64 k, .iface 350 (.pointer (some a))])] w fun e w' => e = .returned (.int .i64 E) /\ Below w.heap.size w w' := by
 have gt := (g.below (Nat.le_refl _) ((Below.refl _ _).alloc (Nat.le_refl _) (.cells #[.int .i64 0] 149))).ty
 have H := As_gives _ _ false _ (as3 k a) ⟨w.heap.size, 0, none⟩ (.int .i64 0) (w.alloc (.cells #[.int .i64 0] 149)) gt (by simp) (by simp)
 have I1 := H_ (Is_any k a A.sh w la g.lsh)
 have I2 := H_ (Is_any k a A.tg w la g.ltg)
 have I3 := H_ (Is_any k a A.mo w la g.lmo)
 have HE := H_ hE
 have G := H_ (show ∀ w1, Below w.heap.size w w1 -> w1.cell? ⟨16, 0, none⟩ = some (.iface 350 (.pointer (some A.sh))) /\ w1.cell? ⟨17, 0, none⟩ = some (.iface 350 (.pointer (some A.tg))) /\ w1.cell? ⟨4, 0, none⟩ = some (.iface 350 (.pointer (some A.mo))) from
  fun w1 h => ⟨(g.below (Nat.le_refl _) h).sh, (g.below (Nat.le_refl _) h).tg, (g.below (Nat.le_refl _) h).mo⟩)
 clear gt g hE la
 go_enter Tryz.func60, Tryz.ntmps60
 go_wp2_with fail
 refine H.mono ?_
 rintro e w1 ⟨rfl, hb, _⟩
 have hb1 : Below w.heap.size w w1 := ((Below.refl _ _).alloc (Nat.le_refl _) _).trans hb
 obtain ⟨c1, _, _⟩ := (un G) w1 hb1
 clear hb H
 go_wp2_with fail
 refine ((un I1) w1 hb1).mono ?_
 rintro e w2 ⟨rfl, hb2⟩
 obtain ⟨_, c2, _⟩ := (un G) w2 hb2
 clear I1 c1
 by_cases e1 : a = A.sh
 ·rw [decide_eq_true e1]
  go_wp2
  go_ret
  exact ⟨by rw [un HE, if_pos e1]; rfl, hb2⟩
 ·rw [decide_eq_false e1]
  go_wp2_with fail
  refine ((un I2) w2 hb2).mono ?_
  rintro e w3 ⟨rfl, hb3⟩
  obtain ⟨_, _, c3⟩ := (un G) w3 hb3
  clear I2 c2
  by_cases e2 : a = A.tg
  ·rw [decide_eq_true e2]
   go_wp2
   go_ret
   exact ⟨by rw [un HE, if_neg e1, if_pos e2]; rfl, hb3⟩
  ·rw [decide_eq_false e2]
   go_wp2_with fail
   refine ((un I3) w3 hb3).mono ?_
   rintro e w4 ⟨rfl, hb4⟩
   by_cases e3 : a = A.mo
   ·rw [decide_eq_true e3]
    go_wp2
    go_ret
    exact ⟨by rw [un HE, if_neg e1, if_neg e2, if_pos e3]; rfl, hb4⟩
   ·rw [decide_eq_false e3]
    go_wp2
    go_ret
    exact ⟨by rw [un HE, if_neg e1, if_neg e2, if_neg e3]; rfl, hb4⟩
theorem errnoOf_any (A : Ads) (v : Value) (E : Int) (h : IsErr A v E) (w : World) (g : TG A w) :
  Calls Tryz.prog 60 #[v] w fun e w' => e = .returned (.int .i64 E) /\ Below w.heap.size w w' := by
 obtain ⟨k, u, rfl, rfl | ⟨a, rfl, h⟩⟩ := h
 ·exact errnoOf_size k E A w g
 ·obtain ⟨n1, n2, n3, n4, n5, n6, n7, n8, n9, n10, n11, n12⟩ := g.ne
  rcases h with ⟨rfl, rfl⟩ | ⟨rfl, rfl⟩ | ⟨rfl, rfl⟩ | ⟨rfl | rfl | rfl, rfl⟩
  ·exact errnoOf_sent k _ _ A w g g.lsh (by simp)
  ·exact errnoOf_sent k _ _ A w g g.ltg (by simp [n1])
  ·exact errnoOf_sent k _ _ A w g g.lmo (by simp [n2, n6])
  ·exact errnoOf_sent k _ _ A w g g.lno (by simp [n3, n7, n10])
  ·exact errnoOf_sent k _ _ A w g g.lki (by simp [n4, n8, n11])
  ·exact errnoOf_sent k _ _ A w g g.lla (by simp [n5, n9, n12])
end Go.Proofs.YtmenllnokgjdlaaGreatDoor.T
/-
 Laws on trees of tags, their bytes, and what is read of bytes: plain mathematics; no program. Conditions: none.
-/
namespace Tv
theorem okL_eq {α : Type} (f : Nat -> α -> Option Nat) (S : α -> Bool) (N : α -> Nat) (hf : ∀ c x, c <= 200 -> f c x = if S x = true /\ c + N x <= 200 then some (c + N x) else none) :
  ∀ (xs : List α) (c : Nat), c <= 200 -> okL f c xs = if xs.all S = true /\ c + (xs.map N).sum <= 200 then some (c + (xs.map N).sum) else none
 | [], c, hc => by simp [okL, hc]
 | x :: xs, c, hc => by
  unfold okL
  rw [hf c x hc]
  by_cases h : S x = true /\ c + N x <= 200
  ·rw [if_pos h, Option.bind_some, okL_eq f S N hf xs _ h.2]
   simp only [List.all_cons, h.1, Bool.true_and, List.map_cons, List.sum_cons, Nat.add_assoc]
  ·rw [if_neg h, Option.bind_none, if_neg]
   rintro ⟨h1, h2⟩
   simp at h1 h2
   exact h ⟨h1.1, by omega⟩
theorem count_pos : ∀ (n : Nat) (T : Tr n), 1 <= count n T
 | 0, t => Empty.elim t
 | n + 1, T => by unfold count; omega
theorem okT_eq : ∀ (n : Nat) (c deep : Nat) (T : Tr n), c <= 200 -> okT n c deep T = if shape n (13 - deep) T = true /\ c + count n T <= 200 then some (c + count n T) else none
 | 0, _, _, t, _ => Empty.elim t
 | n + 1, c, deep, T, hc => by
  unfold okT
  by_cases h : c < 200 /\ deep <= 12 /\ fitB (tag T) (dat T).size (kids T).length = true
  ·rw [if_pos h, okL_eq _ (shape n (13 - (deep + 1))) (count n) (fun c' x hc' => okT_eq n c' (deep + 1) x hc') _ _ (by omega)]
   have e : shape (n + 1) (13 - deep) T = (kids T).all (shape n (13 - (deep + 1))) := by
    unfold shape
    rw [h.2.2, show 13 - deep - 1 = 13 - (deep + 1) by omega]
    simp
    omega
   rw [e]
   unfold count
   simp only [Nat.add_assoc]
  ·rw [if_neg h, if_neg]
   rintro ⟨h1, h2⟩
   have := count_pos (n + 1) T
   unfold shape at h1
   simp at h1
   exact h ⟨by omega, by omega, h1.1.2⟩
theorem okT_right (n : Nat) (T : Tr n) : (okT n 0 1 T).isSome = (shape n 12 T && decide (count n T <= 200)) := by
 rw [okT_eq n 0 1 T (by omega)]
 by_cases h : shape n (13 - 1) T = true /\ 0 + count n T <= 200
 ·rw [if_pos h]; simp at h; simp [h]
 ·rw [if_neg h]
  cases h1 : shape n 12 T
  ·rfl
  ·simp at h
   simp
   exact h h1
theorem least_len (n : Nat) : (Sz.least n).length <= 5 := by
 rw [Sz.least_length]; have := Sz.wd_le n; split <;> omega
theorem enc_len {n : Nat} (T : Tr (n + 1)) : (enc (n + 1) T).length = 1 + (Sz.least (body T).length).length + (body T).length := by
 rw [enc_succ]; simp; omega
theorem flat_len {α : Type} (f : α -> List UInt8) (g : α -> Nat) : ∀ (xs : List α), (∀ x ∈ xs, (f x).length <= g x) -> (xs.map f).flatten.length <= (xs.map g).sum
 | [], _ => by simp
 | x :: xs, h => by
  have h1 := h x (by simp)
  have h2 := flat_len f g xs (fun y hy => h y (by simp [hy]))
  simp at h2 ⊢
  omega
theorem sum_mul {α : Type} (f : α -> Nat) (k : Nat) : ∀ (xs : List α), (xs.map fun x => f x * k).sum = (xs.map f).sum * k
 | [] => by simp
 | x :: xs => by simp [sum_mul f k xs, Nat.add_mul]
theorem enc_small : ∀ (n : Nat) (T : Tr n), small n T = true -> (enc n T).length <= count n T * 9010
 | 0, t, _ => Empty.elim t
 | n + 1, T, h => by
  unfold small at h
  simp only [Bool.and_eq_true, decide_eq_true_eq, List.all_eq_true] at h
  have h2 := flat_len (enc n) (fun x => count n x * 9010) (kids T) (fun x hx => enc_small n x (h.2 x hx))
  rw [sum_mul] at h2
  have h3 := least_len (body T).length
  have h4 : (body T).length = (dat T).size + ((kids T).map (enc n)).flatten.length := by unfold body; rw [List.length_append]; rfl
  have h5 : count (n + 1) T = 1 + ((kids T).map (count n)).sum := rfl
  rw [enc_len, h5]
  omega
theorem kid_le {α : Type} (f : α -> List UInt8) : ∀ (xs : List α) (x : α), x ∈ xs -> (f x).length <= (xs.map f).flatten.length
 | y :: ys, x, h => by
  simp only [List.map_cons, List.flatten_cons, List.length_append]
  rcases List.mem_cons.1 h with rfl | h
  ·omega
  ·have := kid_le f ys x h; omega
theorem kid_body {n : Nat} (T : Tr (n + 1)) (x : Tr n) (h : x ∈ kids T) : (enc n x).length <= (body T).length := by
 have := kid_le (enc n) (kids T) x h
 unfold body
 simp only [List.length_append]
 omega
theorem nil_of_size {d : ByteArray} (h : d.size = 0) : d = ⟨#[]⟩ := by
 cases d with | mk a =>
 have : a.size = 0 := h
 rw [Array.eq_empty_of_size_eq_zero this]
theorem fit_iff (t : Int) (d k : Nat) : fitB t d k = true ↔ (0 <= t /\ t <= 255 /\ t % 32 ≠ 31 /\ (isIn t = true -> d = 0) /\ (isIn t = false -> k = 0)) := by
 unfold fitB; rw [decide_eq_true_iff]
theorem shape_succ {n k : Nat} {T : Tr (n + 1)} (h : shape (n + 1) k T = true) : 0 < k /\ fitB (tag T) (dat T).size (kids T).length = true /\ ∀ x ∈ kids T, shape n (k - 1) x = true := by
 unfold shape at h
 simp only [Bool.and_eq_true, decide_eq_true_eq, List.all_eq_true] at h
 exact ⟨h.1.1, h.1.2, h.2⟩
theorem readL_props {α : Type} (rd : Nat -> Nat -> Except Int (α × Nat × Nat)) (en : α -> List UInt8) (N : α -> Nat) (S : α -> Prop) (stop : Nat)
  (hr : ∀ q c x nx c', c <= 200 -> rd q c = .ok (x, nx, c') -> q + (en x).length <= nx /\ nx <= stop /\ q < nx /\ S x /\ c' = c + N x /\ c' <= 200) :
  ∀ (fuel p c : Nat) (xs : List α) (c' : Nat), c <= 200 -> p <= stop -> readL rd fuel p stop c = .ok (xs, c') -> p + (xs.map en).flatten.length <= stop /\ (∀ x ∈ xs, S x) /\ c' = c + (xs.map N).sum /\ c' <= 200
 | 0, p, c, xs, c', hc, hp, h => by
  simp only [readL, Except.ok.injEq, Prod.mk.injEq] at h
  obtain ⟨rfl, rfl⟩ := h
  simp [hc, hp]
 | f + 1, p, c, xs, c', hc, hp, h => by
  unfold readL at h
  by_cases hlt : p < stop
  ·rw [if_pos hlt] at h
   cases hrd : rd p c with
   | error e => rw [hrd] at h; cases h
   | ok r =>
    obtain ⟨x, nx, c1⟩ := r
    rw [hrd] at h
    obtain ⟨g1, g2, g3, g4, g5, g6⟩ := hr p c x nx c1 hc hrd
    simp only at h
    cases hl : readL rd f nx stop c1 with
    | error e => rw [hl] at h; cases h
    | ok r =>
     obtain ⟨ys, c2⟩ := r
     rw [hl] at h
     simp only [Except.ok.injEq, Prod.mk.injEq] at h
     obtain ⟨rfl, rfl⟩ := h
     obtain ⟨i1, i2, i3, i4⟩ := readL_props rd en N S stop hr f nx c1 ys c2 g6 g2 hl
     refine ⟨by simp at i1 ⊢; omega, ?_, by simp; omega, i4⟩
     intro y hy
     rcases List.mem_cons.1 hy with rfl | hy
     ·exact g4
     ·exact i2 y hy
  ·rw [if_neg hlt] at h
   simp only [Except.ok.injEq, Prod.mk.injEq] at h
   obtain ⟨rfl, rfl⟩ := h
   simp [hc, hp]
theorem headT_ok {l : List UInt8} {p stop t a b : Nat} (hs : stop <= l.length) (h : headT l p stop = .ok (t, a, b)) :
  p < stop /\ p + 2 <= a /\ a <= b /\ b <= stop /\ t = (l.getD p 0).toNat /\ t < 256 /\ t % 32 ≠ 31 /\ b - a <= 16777215 /\ (Sz.least (b - a)).length <= a - (p + 1) := by
 unfold headT at h
 by_cases h1 : p = stop
 ·rw [if_pos h1] at h; cases h
 ·rw [if_neg h1] at h
  by_cases h2 : (l.getD p 0).toNat % 32 = 31
  ·rw [if_pos h2] at h; cases h
  ·rw [if_neg h2] at h
   obtain ⟨n, q, E, hd⟩ : ∃ n q E, Sz.dec (l.take stop) ((p : Int) + 1) = (n, q, E) := ⟨_, _, _, rfl⟩
   rw [hd] at h
   simp only at h
   by_cases h3 : E ≠ 0
   ·rw [if_pos h3] at h; cases h
   ·rw [if_neg h3] at h
    have hE : E = 0 := by simpa using h3
    obtain ⟨k, n', q', e1, rfl, rfl, e4, e5, e6, e7, _⟩ := (Sz.dec_shape _ _ _ _ _ hd).2 hE
    by_cases h4 : (stop : Int) - (q' : Int) < (n' : Int)
    ·rw [if_pos h4] at h; cases h
    ·rw [if_neg h4] at h
     simp only [Except.ok.injEq, Prod.mk.injEq, Int.toNat_natCast] at h
     obtain ⟨rfl, rfl, rfl⟩ := h
     have hlt := (l.getD p 0).toNat_lt
     simp at e5
     rw [show q' + n' - q' = n' by omega]
     exact ⟨by omega, by omega, by omega, by omega, rfl, hlt, h2, e6, by omega⟩
theorem readT_props (l : List UInt8) : ∀ (k : Nat) (p stop c : Nat) (T : Tr (k + 1)) (nx c' : Nat), stop <= l.length -> c <= 200 -> readT l k p stop c = .ok (T, nx, c') ->
  p + (enc (k + 1) T).length <= nx /\ nx <= stop /\ p + 2 <= nx /\ (shape (k + 1) k T = true /\ (stop <= 9000 -> small (k + 1) T = true)) /\ c' = c + count (k + 1) T /\ c' <= 200
 | 0, p, stop, c, T, nx, c', _, _, h => by simp [readT] at h
 | k + 1, p, stop, c, T, nx, c', hs, hc, h => by
  unfold readT at h
  by_cases h1 : c = 200
  ·rw [if_pos h1] at h; cases h
  ·rw [if_neg h1] at h
   cases hh : headT l p stop with
   | error e => rw [hh] at h; cases h
   | ok r =>
    obtain ⟨t, a, b⟩ := r
    obtain ⟨g1, g2, g3, g4, _, g5, g6, g7, g8⟩ := headT_ok hs hh
    rw [hh] at h
    simp only at h
    by_cases hi : isIn t = true
    ·rw [if_pos hi] at h
     cases hl : readL (fun q c' => readT l k q b c') (b - a) a b (c + 1) with
     | error e => rw [hl] at h; cases h
     | ok r =>
      obtain ⟨ks, c2⟩ := r
      rw [hl] at h
      simp only [Except.ok.injEq, Prod.mk.injEq] at h
      obtain ⟨rfl, rfl, rfl⟩ := h
      obtain ⟨i1, i2, i3, i4⟩ := readL_props _ (enc (k + 1)) (count (k + 1)) (fun T => shape (k + 1) k T = true /\ (b <= 9000 -> small (k + 1) T = true)) b
       (fun q c x nx c' hc' hx => by
        obtain ⟨j1, j2, j3, j4, j5, j6⟩ := readT_props l k q b c x nx c' (by omega) hc' hx
        exact ⟨j1, j2, by omega, j4, j5, j6⟩) _ _ _ _ _ (by omega) g3 hl
      have hbl : (body (mk (t : Int) (⟨#[]⟩ : ByteArray) ks)).length = (ks.map (enc (k + 1))).flatten.length := by unfold body; simp
      have hm : (Sz.least (ks.map (enc (k + 1))).flatten.length).length <= (Sz.least (b - a)).length := by
       rw [Sz.least_length, Sz.least_length]
       have := Sz.wd_le (ks.map (enc (k + 1))).flatten.length
       by_cases q1 : (ks.map (enc (k + 1))).flatten.length < 128
       ·rw [if_pos q1]; split <;> omega
       ·rw [if_neg q1, if_neg (by omega)]
        have := Sz.wd_min (ks.map (enc (k + 1))).flatten.length (Sz.wd (b - a)) (Sz.wd_le _) (Nat.lt_of_le_of_lt (by omega) (Sz.lt_pow_wd (b - a) (by omega)))
        omega
      refine ⟨by rw [enc_len, hbl]; omega, g4, by omega, ⟨?_, ?_⟩, by rw [i3]; unfold count; simp only [kids_mk]; omega, i4⟩
      ·unfold shape
       simp only [tag_mk, dat_mk, kids_mk, Bool.and_eq_true, decide_eq_true_eq, List.all_eq_true]
       refine ⟨⟨by omega, (fit_iff _ _ _).2 ⟨by omega, by omega, by omega, fun _ => rfl, (fun e => by rw [hi] at e; cases e)⟩⟩, fun x hx => (i2 x hx).1⟩
      ·intro h5
       unfold small
       simp only [dat_mk, kids_mk, Bool.and_eq_true, List.all_eq_true]
       exact ⟨decide_eq_true (Nat.zero_le _), fun x hx => (i2 x hx).2 (by omega)⟩
    ·rw [if_neg hi] at h
     simp only [Except.ok.injEq, Prod.mk.injEq] at h
     obtain ⟨rfl, rfl, rfl⟩ := h
     have hi' : isIn t = false := by simpa using hi
     have hsz : ((l.drop a).take (b - a)).length = b - a := by simp; omega
     have hbl : (body (mk (n := k + 1) (t : Int) (⟨((l.drop a).take (b - a)).toArray⟩ : ByteArray) [])).length = b - a := by unfold body; simp; omega
     refine ⟨by rw [enc_len, hbl]; omega, g4, by omega, ⟨?_, ?_⟩, by unfold count; simp, by omega⟩
     ·unfold shape
      simp only [tag_mk, dat_mk, kids_mk, Bool.and_eq_true, decide_eq_true_eq, List.all_eq_true]
      exact ⟨⟨by omega, (fit_iff _ _ _).2 ⟨by omega, by omega, by omega, (fun e => by rw [hi'] at e; cases e), fun _ => rfl⟩⟩, fun x hx => by cases hx⟩
     ·intro h5
      unfold small
      simp only [dat_mk, kids_mk, Bool.and_eq_true, List.all_eq_true]
      refine ⟨decide_eq_true ?_, fun x hx => by cases hx⟩
      show (List.toArray _).size <= 9000
      simp
      omega
end Tv
/-
 What lies in memory of a tree: 'Node'; and small laws on it. Conditions: none.
-/
namespace Go.Proofs.YtmenllnokgjdlaaGreatDoor
open Go.RowKit Tv
def Node : (n : Nat) -> World -> (Nat -> Prop) -> Value -> Tr n -> Prop
 | 0, _, _, _, t => Empty.elim t
 | n + 1, W, p, v, T => ∃ a cap, v = .agg #[.int .i64 (tag T), .string (dat T), .slice a (kids T).length cap] /\ (dat T).size <= 9000 /\ (kids T).length <= 4000 /\
   (kids T = [] \/ ∃ g off, a = some ⟨g, off, none⟩ /\ p g /\ ∀ (i : Nat) x, (kids T)[i]? = some x -> ∃ c0 c1 c2, W.cell? ⟨g, off + i * 3, none⟩ = some c0 /\ W.cell? ⟨g, off + i * 3 + 1, none⟩ = some c1 /\ W.cell? ⟨g, off + i * 3 + 2, none⟩ = some c2 /\ Node n W p (.agg #[c0, c1, c2]) x)
theorem Node.of : ∀ {n : Nat} {W W' : World} {p : Nat -> Prop} {v : Value} {T : Tr n}, Node n W p v T -> (∀ b, p b -> b < W.heap.size -> W'.heap[b]? = W.heap[b]?) -> Node n W' p v T
 | 0, _, _, _, _, t, _, _ => Empty.elim t
 | n + 1, W, W', p, v, T, ⟨a, cap, hv, hd, hk, h⟩, hb => by
  refine ⟨a, cap, hv, hd, hk, ?_⟩
  rcases h with h | ⟨g, off, ha, hp, hx⟩
  ·exact .inl h
  ·refine .inr ⟨g, off, ha, hp, fun i x hi => ?_⟩
   obtain ⟨c0, c1, c2, h0, h1, h2, h3⟩ := hx i x hi
   have e : W'.heap[g]? = W.heap[g]? := hb g hp (lt_of_cell h0)
   exact ⟨c0, c1, c2, (World.cell?_of_block (w := W) (a := ⟨g, off + i * 3, none⟩) e).trans h0, (World.cell?_of_block (w := W) (a := ⟨g, off + i * 3 + 1, none⟩) e).trans h1, (World.cell?_of_block (w := W) (a := ⟨g, off + i * 3 + 2, none⟩) e).trans h2, Node.of h3 hb⟩
theorem Node.imp : ∀ {n : Nat} {W : World} {p q : Nat -> Prop} {v : Value} {T : Tr n}, Node n W p v T -> (∀ b, p b -> b < W.heap.size -> q b) -> Node n W q v T
 | 0, _, _, _, _, t, _, _ => Empty.elim t
 | n + 1, W, p, q, v, T, ⟨a, cap, hv, hd, hk, h⟩, hb => by
  refine ⟨a, cap, hv, hd, hk, ?_⟩
  rcases h with h | ⟨g, off, ha, hp, hx⟩
  ·exact .inl h
  ·cases hks : kids T with
   | nil => exact .inl rfl
   | cons y ys =>
    rw [hks] at hx
    obtain ⟨_, _, _, h0, _, _, _⟩ := hx 0 y rfl
    refine .inr ⟨g, off, ha, hb g hp (lt_of_cell h0), fun i x hi => ?_⟩
    obtain ⟨c0, c1, c2, h0, h1, h2, h3⟩ := hx i x hi
    exact ⟨c0, c1, c2, h0, h1, h2, Node.imp h3 hb⟩
theorem Node.below {n : Nat} {W W' : World} {p : Nat -> Prop} {v : Value} {T : Tr n} (h : Node n W p v T) (hb : Below W.heap.size W W') : Node n W' p v T := h.of fun b _ hl => hb.block b hl
theorem Node.but {n : Nat} {W W' : World} {p : Nat -> Prop} {v : Value} {T : Tr n} {b : Nat} (h : Node n W p v T) (hb : But b W W') (hp : ¬ p b) : Node n W' p v T := h.of fun k hk hl => hb.block k hl (fun e => hp (e ▸ hk))
theorem Node.shape {n : Nat} {W : World} {p : Nat -> Prop} {v : Value} {T : Tr (n + 1)} (h : Node (n + 1) W p v T) : ∃ a cap, v = .agg #[.int .i64 (tag T), .string (dat T), .slice a (kids T).length cap] /\ (dat T).size <= 9000 /\ (kids T).length <= 4000 /\
   ∀ (i : Nat) (hi : i < (kids T).length), ∃ g off, a = some ⟨g, off, none⟩ /\ p g /\ ∃ t d a' len' cap', W.cell? ⟨g, off + i * 3, none⟩ = some (.int .i64 t) /\ W.cell? ⟨g, off + i * 3 + 1, none⟩ = some (.string d) /\ W.cell? ⟨g, off + i * 3 + 2, none⟩ = some (.slice a' len' cap') /\
    Node n W p (.agg #[.int .i64 t, .string d, .slice a' len' cap']) (kids T)[i] := by
 obtain ⟨a, cap, hv, hd, hk, h⟩ := h
 refine ⟨a, cap, hv, hd, hk, fun i hi => ?_⟩
 rcases h with h | ⟨g, off, ha, hp, hx⟩
 ·rw [h] at hi; cases hi
 ·obtain ⟨c0, c1, c2, h0, h1, h2, h3⟩ := hx i _ (List.getElem?_eq_getElem hi)
  cases n with
  | zero => exact Empty.elim (kids T)[i]
  | succ m =>
   have h3' := h3
   obtain ⟨a', cap', e, _, _, _⟩ := h3'
   injection e with e
   have e' := congrArg Array.toList e
   simp only [List.cons.injEq, and_true] at e'
   obtain ⟨rfl, rfl, rfl⟩ := e'
   exact ⟨g, off, ha, hp, _, _, _, _, _, h0, h1, h2, h3⟩
end Go.Proofs.YtmenllnokgjdlaaGreatDoor
/-
 Trees as they lie: one of more levels; a leaf. Conditions: none.
-/
namespace Go.Proofs.YtmenllnokgjdlaaGreatDoor.G
open Go Go.RowKit Gp
open Tv (Tr)
theorem node_up : ∀ {n : Nat} {W : World} {p : Nat -> Prop} {v : Value} {T : Tr n}, Node n W p v T -> Node (n + 1) W p v (up n T)
 | 0, _, _, _, t, _ => Empty.elim t
 | n + 1, W, p, v, T, ⟨a, cap, hv, hd, hk, h⟩ => by
  have hl : (Tv.kids (up (n + 1) T)).length = (Tv.kids T).length := List.length_map _
  refine ⟨a, cap, by rw [hl]; exact hv, hd, by rw [hl]; exact hk, ?_⟩
  rcases h with h | ⟨g, off, ha, hp, hx⟩
  ·left
   show (Tv.kids T).map (up n) = []
   rw [h]
   rfl
  ·refine .inr ⟨g, off, ha, hp, fun i x hi => ?_⟩
   have hi' : ((Tv.kids T).map (up n))[i]? = some x := hi
   rw [List.getElem?_map, Option.map_eq_some_iff] at hi'
   obtain ⟨y, hy, rfl⟩ := hi'
   obtain ⟨c0, c1, c2, h0, h1, h2, h3⟩ := hx i y hy
   exact ⟨c0, c1, c2, h0, h1, h2, node_up h3⟩
theorem node_up2 {n : Nat} {W : World} {p : Nat -> Prop} {v : Value} {T : Tr n} (h : Node n W p v T) : Node (n + 2) W p v (up2 n T) := node_up (node_up h)
theorem node_leaf {n : Nat} (W : World) (p : Nat -> Prop) (t : Int) (d : ByteArray) (hd : d.size <= 9000) : Node (n + 1) W p (.agg #[.int .i64 t, .string d, .slice none 0 0]) (lf t d) :=
 ⟨none, 0, rfl, hd, Nat.zero_le _, .inl rfl⟩
end Go.Proofs.YtmenllnokgjdlaaGreatDoor.G
/-
 The library's strings.Join and strings.Clone at this program: its own numbers held against the contracts' bodies; what a call of each does. Conditions: the bounds that each statement names.
-/
namespace Go.Proofs.YtmenllnokgjdlaaGreatDoor
open Go.Shelf Go.RowKit
def lays156_ren : Go.Shelf.Ren := ⟨fun | 156 => 113 | 165 => 139 | 166 => 140 | 169 => 141 | 240 => 162 | 241 => 163 | 276 => 182 | 277 => 183 | n => n, fun | 31 => 22 | 9 => 9 | 3 => 3 | 4 => 4 | 0 => 0 | 20 => 20 | 72 => 220 | 76 => 222 | 70 => 218 | 37 => 152 | 75 => 52 | 127 => 246 | 164 => 132 | 5 => 5 | 80 => 224 | n => n, fun | n => n⟩
theorem lays156 : Go.Proofs.Lays.n156 Tryz.prog lays156_ren := {
 mixed := by kernel_rfl
 f156 := Tryz.func113.trans (congrArg some (by kernel_rfl))
 f165 := Tryz.func139.trans (congrArg some (by kernel_rfl))
 f166 := Tryz.func140.trans (congrArg some (by kernel_rfl))
 f169 := Tryz.func141.trans (congrArg some (by kernel_rfl))
 f240 := Tryz.func162.trans (congrArg some (by kernel_rfl))
 f241 := Tryz.func163.trans (congrArg some (by kernel_rfl))
 f276 := Tryz.func182.trans (congrArg some (by kernel_rfl))
 f277 := Tryz.func183.trans (congrArg some (by kernel_rfl))
 t0 := Tryz.underlying0
 a0 := Tryz.isAgg0
 z0 := Tryz.sizeOf0
 v0 := Tryz.zeroValue0
 t3 := Tryz.underlying3
 a3 := Tryz.isAgg3
 z3 := Tryz.sizeOf3
 v3 := Tryz.zeroValue3
 t4 := Tryz.underlying4
 a4 := Tryz.isAgg4
 z4 := Tryz.sizeOf4
 v4 := Tryz.zeroValue4
 t9 := Tryz.underlying9
 a9 := Tryz.isAgg9
 z9 := Tryz.sizeOf9
 v9 := Tryz.zeroValue9
 t20 := Tryz.underlying20
 a20 := Tryz.isAgg20
 z20 := Tryz.sizeOf20
 v20 := Tryz.zeroValue20
 t31 := Tryz.underlying22
 a31 := Tryz.isAgg22
 z31 := Tryz.sizeOf22
 v31 := Tryz.zeroValue22
 t37 := Tryz.underlying152
 a37 := Tryz.isAgg152
 z37 := Tryz.sizeOf152
 v37 := Tryz.zeroValue152
 t70 := Tryz.underlying218
 a70 := Tryz.isAgg218
 z70 := Tryz.sizeOf218
 v70 := Tryz.zeroValue218
 t72 := Tryz.underlying220
 a72 := Tryz.isAgg220
 z72 := Tryz.sizeOf220
 v72 := Tryz.zeroValue220
 t75 := Tryz.underlying52
 a75 := Tryz.isAgg52
 z75 := Tryz.sizeOf52
 v75 := Tryz.zeroValue52
 t76 := Tryz.underlying222
 a76 := Tryz.isAgg222
 z76 := Tryz.sizeOf222
 v76 := Tryz.zeroValue222
 t127 := Tryz.underlying246
 a127 := Tryz.isAgg246
 z127 := Tryz.sizeOf246
 v127 := Tryz.zeroValue246
 t164 := Tryz.underlying132
 a164 := Tryz.isAgg132
 z164 := Tryz.sizeOf132
 v164 := Tryz.zeroValue132 }
theorem Builder_Extra_156 : Builder.Extra Tryz.prog lays156_ren := {
 sizeBuilder := by kernel_rfl
 liesBuilder := by kernel_rfl
 t5 := Tryz.underlying5
 a5 := Tryz.isAgg5
 z5 := Tryz.sizeOf5
 v5 := Tryz.zeroValue5
 infoByte := by kernel_rfl
 cellsByte := by kernel_rfl
 sizeByte := by kernel_rfl
 neB5 := by decide }
def laysM316_ren : Go.Shelf.Ren := ⟨fun | 316 => 146 | n => n, fun | 9 => 9 | 3 => 3 | 4 => 4 | 37 => 152 | 0 => 0 | 127 => 246 | 5 => 5 | n => n, fun | n => n⟩
theorem laysM316 : Go.Proofs.LaysM.n316 Tryz.prog laysM316_ren := {
 mixed := by kernel_rfl
 f316 := Tryz.func146.trans (congrArg some (by kernel_rfl))
 t0 := Tryz.underlying0
 a0 := Tryz.isAgg0
 z0 := Tryz.sizeOf0
 v0 := Tryz.zeroValue0
 t3 := Tryz.underlying3
 a3 := Tryz.isAgg3
 z3 := Tryz.sizeOf3
 v3 := Tryz.zeroValue3
 t4 := Tryz.underlying4
 a4 := Tryz.isAgg4
 z4 := Tryz.sizeOf4
 v4 := Tryz.zeroValue4
 t9 := Tryz.underlying9
 a9 := Tryz.isAgg9
 z9 := Tryz.sizeOf9
 v9 := Tryz.zeroValue9
 t37 := Tryz.underlying152
 a37 := Tryz.isAgg152
 z37 := Tryz.sizeOf152
 v37 := Tryz.zeroValue152
 t127 := Tryz.underlying246
 a127 := Tryz.isAgg246
 z127 := Tryz.sizeOf246
 v127 := Tryz.zeroValue246
 t5 := Tryz.underlying5
 a5 := Tryz.isAgg5
 z5 := Tryz.sizeOf5
 v5 := Tryz.zeroValue5
 i0 := by kernel_rfl
 i3 := by kernel_rfl
 i4 := by kernel_rfl
 i5 := by kernel_rfl
 i9 := by kernel_rfl
 i37 := by kernel_rfl
 i127 := by kernel_rfl }
theorem join_some (bk o c : Nat) (xs : List ByteArray) (sep : ByteArray) (w : World) (hcells : ∀ (j : Nat) x, xs[j]? = some x -> w.cell? ⟨bk, o + j, none⟩ = some (.string x)) (hbk : bk < w.heap.size) (hN : xs.length <= 140737488355328) (hcap : xs.length <= c)
  (hlen : (Lib.join (xs.map (·.data.toList)) sep.data.toList).length <= 140737488355328) :
  Calls Tryz.prog 113 #[.slice (some ⟨bk, o, none⟩) xs.length c, .string sep] w fun e w' => e = .returned (.string ⟨(Lib.join (xs.map (·.data.toList)) sep.data.toList).toArray⟩) /\ Below w.heap.size w w' :=
 Any.strings_Join lays156 Builder_Extra_156 bk o c xs sep w hcells hbk hN hcap hlen
theorem clone0_any (s : ByteArray) (w : World) (hlim : s.size <= 281474976710656) : Calls Tryz.prog 146 #[.string s] w fun e w' => e = .returned (.string s) /\ Below w.heap.size w w' :=
 Any.stringslite_Clone laysM316 s w hlim
end Go.Proofs.YtmenllnokgjdlaaGreatDoor
/-
 What package dn's text answers: has, next, end, piece; and what a byte may be: isDigit, isLetter, fits, isWord, isNumber. Conditions: none.
-/
namespace Go.Proofs.YtmenllnokgjdlaaGreatDoor.D
open Go Go.RowKit Dp
attribute [local go_sem] Oper.semAt_some
theorem H_ {p : Prop} (h : p) : Hid p := h
theorem un {p : Prop} (h : Hid p) : p := h
theorem lt_cell {w : World} {a : Addr} {v : Value} (h : w.cell? a = some v) : a.block < w.heap.size := by
 rcases Nat.lt_or_ge a.block w.heap.size with h' | h'
 ·exact h'
 ·simp [World.cell?, Array.getElem?_eq_none h'] at h
theorem beq_u8 (x y : UInt8) (h : x ≠ y) : ((x.toNat : Int) == y.toNat) = false := by
 rw [beq_eq_false_iff_ne]
 intro e
 exact h (UInt8.toNat.inj (by omega))
theorem beq_int (x y : UInt8) : ((x.toNat : Int) == y.toNat) = decide (x = y) := by
 by_cases h : x = y
 ·rw [h]; simp
 ·rw [beq_u8 x y h, decide_eq_false h]
theorem drop_at {s : ByteArray} {j : Nat} (h : j < s.size) : s.data.toList.drop j = s[j] :: s.data.toList.drop (j + 1) := by
 rw [List.drop_eq_getElem_cons (by rw [Array.length_toList]; exact h)]
 rfl
theorem drop_out {s : ByteArray} {j : Nat} (h : ¬ j < s.size) : s.data.toList.drop j = [] :=
 List.drop_of_length_le (by rw [Array.length_toList]; show s.size <= j; omega)
abbrev tb (s : ByteArray) : Obj := .cells #[.string s] 282
theorem has_any (s : ByteArray) (p : Nat) (c : UInt8) (w : World) (hp : p < s.size) :
  Calls Tryz.prog 216 #[.agg #[.string s], .int .i64 p, .int .u8 c.toNat] w fun e w' => e = .returned (.bool (decide (s[p] = c))) /\ Below w.heap.size w w' := by
 have HB := H_ ((Below.refl w.heap.size w).alloc (Nat.le_refl _) (tb s))
 have hp' : (p : Int) < s.size := by omega
 have hb := beq_int s[p] c
 generalize decide (s[p] = c) = b at *
 go_enter Tryz.func216, Tryz.ntmps216
 go_wp2
 go_ret
 exact ⟨by rw [<- hb]; rfl, un HB⟩
theorem end_any (s : ByteArray) (w : World) :
  Calls Tryz.prog 214 #[.agg #[.string s]] w fun e w' => e = .returned (.int .i64 s.size) /\ Below w.heap.size w w' := by
 have HB := H_ ((Below.refl w.heap.size w).alloc (Nat.le_refl _) (tb s))
 go_enter Tryz.func214, Tryz.ntmps214
 go_wp2
 go_ret
 exact ⟨rfl, un HB⟩
def nx (s : ByteArray) (p : Nat) : Nat := if h : p < s.size then (if s[p] = 92 then min (p + 2) s.size else p + 1) else p
theorem nx_lt {s : ByteArray} {p : Nat} (h : p < s.size) : p < nx s p /\ nx s p <= s.size := by
 unfold nx
 rw [dif_pos h]
 split <;> omega
theorem next_any (s : ByteArray) (p : Nat) (w : World) (hs : s.size <= 10000) (hp : p < s.size) :
  Calls Tryz.prog 215 #[.agg #[.string s], .int .i64 p] w fun e w' => e = .returned (.int .i64 (nx s p : Nat)) /\ Below w.heap.size w w' := by
 have HB := H_ ((Below.refl w.heap.size w).alloc (Nat.le_refl _) (tb s))
 have H := H_ fun W => has_any s p 92 W hp
 have H2 := H_ fun W => end_any s W
 have Hx : Hid ((w.alloc (tb s)).cell? ⟨w.heap.size, 0, none⟩ = some (.string s)) := H_ (by rw [World.cell?_alloc_at _ _ _ _ rfl]; rfl)
 unfold nx
 rw [dif_pos hp]
 have hp1 : (p : Int) <= 10000 := by omega
 by_cases h : s[p] = 92
 ·rw [if_pos h]
  rw [decide_eq_true h] at H
  clear h
  go_enter Tryz.func215, Tryz.ntmps215
  go_wp2_with fail
  refine ((un H) _).mono ?_
  rintro e w1 ⟨rfl, hb⟩
  have HB1 := H_ ((un HB).trans (hb.mono (by simp)))
  have c1 : w1.cell? ⟨w.heap.size, 0, none⟩ = some (.string s) := (hb.cell (lt_cell (un Hx))).trans (un Hx)
  clear hb
  go_wp2_with fail
  refine ((un H2) _).mono ?_
  rintro e w2 ⟨rfl, hb⟩
  have HB2 := H_ ((un HB1).trans (hb.mono (un HB1).size))
  clear hb
  go_wp2
  all_goals go_ret
  all_goals exact ⟨by simp; omega, un HB2⟩
 ·rw [if_neg h]
  rw [decide_eq_false h] at H
  clear h
  go_enter Tryz.func215, Tryz.ntmps215
  go_wp2_with fail
  refine ((un H) _).mono ?_
  rintro e w1 ⟨rfl, hb⟩
  have HB1 := H_ ((un HB).trans (hb.mono (by simp)))
  clear hb
  go_wp2
  go_ret
  exact ⟨by simp, un HB1⟩
theorem piece_any (s : ByteArray) (a b : Nat) (w : World) (hab : a <= b) (hb : b <= s.size) :
  Calls Tryz.prog 217 #[.agg #[.string s], .int .i64 a, .int .i64 b] w fun e w' => e = .returned (.string (s.extract a b)) /\ Below w.heap.size w w' := by
 have HB := H_ ((Below.refl w.heap.size w).alloc (Nat.le_refl _) (tb s))
 have h1 : (a : Int) <= b := by omega
 have h2 : (b : Int) <= s.size := by omega
 go_enter Tryz.func217, Tryz.ntmps217
 go_wp2
 go_ret
 exact ⟨rfl, un HB⟩
theorem isDigit_any (x : UInt8) (w : World) :
  Calls Tryz.prog 211 #[.int .u8 x.toNat] w fun e w' => e = .returned (.bool (dig x)) /\ w' = w := by
 unfold dig
 by_cases h1 : 48 <= x.toNat
 ·have k1 : (48 : Int) <= x.toNat := by omega
  rw [decide_eq_true h1, Bool.true_and]
  by_cases h2 : x.toNat <= 57
  ·have k2 : (x.toNat : Int) <= 57 := by omega
   rw [decide_eq_true h2]
   clear h1 h2
   go_enter Tryz.func211, Tryz.ntmps211
   go_wp2
   go_ret
   exact ⟨rfl, rfl⟩
  ·have k2 : ¬ (x.toNat : Int) <= 57 := by omega
   rw [decide_eq_false h2]
   clear h1 h2
   go_enter Tryz.func211, Tryz.ntmps211
   go_wp2
   go_ret
   exact ⟨rfl, rfl⟩
 ·have k1 : ¬ (48 : Int) <= x.toNat := by omega
  rw [decide_eq_false h1, Bool.false_and]
  clear h1
  go_enter Tryz.func211, Tryz.ntmps211
  go_wp2
  go_ret
  exact ⟨rfl, rfl⟩
theorem isLetter_any (x : UInt8) (w : World) :
  Calls Tryz.prog 212 #[.int .u8 x.toNat] w fun e w' => e = .returned (.bool (ltr x)) /\ w' = w := by
 have H : ∀ b, ltr x = b -> Hid (ltr x = b) := fun b h => h
 by_cases h1 : 65 <= x.toNat
 ·have k1 : (65 : Int) <= x.toNat := by omega
  by_cases h2 : x.toNat <= 90
  ·have k2 : (x.toNat : Int) <= 90 := by omega
   rw [show ltr x = true by unfold ltr; simp; omega]
   clear H h1 h2
   go_enter Tryz.func212, Tryz.ntmps212
   go_wp2
   go_ret
   exact ⟨rfl, rfl⟩
  ·have k2 : ¬ (x.toNat : Int) <= 90 := by omega
   by_cases h3 : 97 <= x.toNat
   ·have k3 : (97 : Int) <= x.toNat := by omega
    by_cases h4 : x.toNat <= 122
    ·have k4 : (x.toNat : Int) <= 122 := by omega
     rw [show ltr x = true by unfold ltr; simp; omega]
     clear H h1 h2 h3 h4
     go_enter Tryz.func212, Tryz.ntmps212
     go_wp2
     go_ret
     exact ⟨rfl, rfl⟩
    ·have k4 : ¬ (x.toNat : Int) <= 122 := by omega
     rw [show ltr x = false by unfold ltr; simp; omega]
     clear H h1 h2 h3 h4
     go_enter Tryz.func212, Tryz.ntmps212
     go_wp2
     go_ret
     exact ⟨rfl, rfl⟩
   ·have k3 : ¬ (97 : Int) <= x.toNat := by omega
    rw [show ltr x = false by unfold ltr; simp; omega]
    clear H h1 h2 h3
    go_enter Tryz.func212, Tryz.ntmps212
    go_wp2
    go_ret
    exact ⟨rfl, rfl⟩
 ·have k1 : ¬ (65 : Int) <= x.toNat := by omega
  have k3 : ¬ (97 : Int) <= x.toNat := by omega
  rw [show ltr x = false by unfold ltr; simp; omega]
  clear H h1
  go_enter Tryz.func212, Tryz.ntmps212
  go_wp2
  go_ret
  exact ⟨rfl, rfl⟩
theorem fits_ahead (x : UInt8) (w : World) :
  Calls Tryz.prog 192 #[.int .i64 0, .int .u8 x.toNat] w fun e w' => e = .returned (.bool (ltr x)) /\ w' = w := by
 have H := H_ fun W => isLetter_any x W
 generalize ltr x = b at *
 go_enter Tryz.func192, Tryz.ntmps192
 go_wp2_with fail
 refine ((un H) _).mono ?_
 rintro e w1 ⟨rfl, rfl⟩
 go_wp2
 go_ret
 exact ⟨rfl, rfl⟩
theorem fits_behind (x : UInt8) (w : World) :
  Calls Tryz.prog 192 #[.int .i64 1, .int .u8 x.toNat] w fun e w' => e = .returned (.bool (fit x)) /\ w' = w := by
 have H := H_ fun W => isLetter_any x W
 have H2 := H_ fun W => isDigit_any x W
 have e0 : fit x = (dig x || x == 45 || ltr x) := rfl
 rw [e0]
 clear e0
 have hb := beq_int x 45
 rw [show (x == 45) = decide (x = 45) by rw [Bool.eq_iff_iff]; simp]
 have e45 : (((45 : UInt8).toNat : Nat) : Int) = 45 := rfl
 rw [e45] at hb
 generalize ltr x = b at *
 generalize dig x = b2 at *
 cases b2
 ·cases h : decide (x = 45)
  ·rw [h] at hb
   clear h
   go_enter Tryz.func192, Tryz.ntmps192
   go_wp2_with fail
   refine ((un H2) _).mono ?_
   rintro e w1 ⟨rfl, rfl⟩
   go_wp2_with fail
   refine ((un H) _).mono ?_
   rintro e w1 ⟨rfl, rfl⟩
   go_wp2
   go_ret
   exact ⟨rfl, rfl⟩
  ·rw [h] at hb
   clear h
   go_enter Tryz.func192, Tryz.ntmps192
   go_wp2_with fail
   refine ((un H2) _).mono ?_
   rintro e w1 ⟨rfl, rfl⟩
   go_wp2
   go_ret
   exact ⟨rfl, rfl⟩
 ·clear hb
  go_enter Tryz.func192, Tryz.ntmps192
  go_wp2_with fail
  refine ((un H2) _).mono ?_
  rintro e w1 ⟨rfl, rfl⟩
  go_wp2
  go_ret
  exact ⟨rfl, rfl⟩
theorem isWord_any (s : ByteArray) (w : World) (hs : s.size <= 1000) :
  Calls Tryz.prog 174 #[.string s] w fun e w' => e = .returned (.bool (word s.data.toList)) /\ w' = w := by
 by_cases h0 : s.size = 0
 ·obtain rfl : s = ⟨#[]⟩ := by
   cases s with
   | mk d => congr 1; exact Array.eq_empty_of_size_eq_zero h0
  rw [show word (ByteArray.mk #[]).data.toList = false from rfl]
  clear h0
  go_enter Tryz.func174, Tryz.ntmps174
  go_wp2
  go_loopw [3, 7] (fun m ix wr => m = .int .i64 0 /\ ix = .int .i64 0 /\ wr = w) (fun _ _ _ => 0)
  case atStart => exact ⟨rfl, rfl, rfl⟩
  case round =>
   obtain ⟨rfl, rfl, rfl⟩ := hrel
   go_wp2
   go_ret
   exact ⟨rfl, rfl⟩
 ·have hne : (s.toList != ([] : List UInt8)) = true := by
   rw [bne_iff_ne, ByteArray.toList_eq]
   intro e
   exact h0 (by rw [show s.size = s.data.toList.length from (Array.length_toList).symm, e]; rfl)
  have H1 := H_ fun x W => fits_ahead x W
  have H2 := H_ fun x W => fits_behind x W
  obtain ⟨r, hr⟩ : ∃ r, word s.data.toList = r := ⟨_, rfl⟩
  rw [hr]
  have hps : 0 < s.size := by omega
  have hw : word s.data.toList = (ltr (s[0]'hps) && (s.data.toList.drop 1).all fit) := by
   have := drop_at (s := s) (j := 0) hps
   rw [List.drop_zero] at this
   rw [this]
   rfl
  have Hr := H_ hr
  have Hw := H_ hw
  have H0 := H_ h0
  clear hr hw h0
  go_enter Tryz.func174, Tryz.ntmps174
  go_wp2
  go_loopw [3, 7] (fun m ix wr => ∃ j : Nat, j <= s.size /\ m = .int .i64 (if j = 0 then 0 else 1) /\ ix = .int .i64 (j : Int) /\ (j = 0 \/ Hid ((s.data.toList.drop j).all fit = r)) /\ wr = w)
   (fun _ ix _ => s.size - (intOf ix).toNat)
  case atStart => exact ⟨0, Nat.zero_le _, rfl, rfl, .inl rfl, rfl⟩
  case round =>
   obtain ⟨j, hj, rfl, rfl, hd, rfl⟩ := hrel
   by_cases hlt : j < s.size
   ·have hlt' : (j : Int) < s.size := by omega
    have hj' : (j : Int) <= 1000 := by omega
    by_cases hj0 : j = 0
    ·subst hj0
     have hz : 0 < s.size := hlt
     obtain ⟨b, hb⟩ : ∃ b, ltr s[0] = b := ⟨_, rfl⟩
     have Hc := H_ ((un H1) s[0])
     rw [hb] at Hc
     have Hn : Hid ((b && (s.data.toList.drop 1).all fit) = r) := H_ (by rw [<- hb, <- un Hw]; exact un Hr)
     obtain ⟨y, hy⟩ : ∃ y, s[0] = y := ⟨_, rfl⟩
     rw [hy] at Hc
     clear hb hd
     cases b
     ·obtain rfl : r = false := by rw [<- un Hn]; rfl
      go_wp2_with fail
      refine ((un Hc) _).mono ?_
      rintro e w1 ⟨rfl, rfl⟩
      go_wp2
      go_ret
      exact ⟨rfl, rfl⟩
     ·go_wp2_with fail
      refine ((un Hc) _).mono ?_
      rintro e w1 ⟨rfl, rfl⟩
      go_wp2
      go_roundw
      case rel => exact ⟨1, by omega, by simp, by simp, .inr (by have := un Hn; rw [Bool.true_and] at this; exact this), by first | rfl | trivial⟩
      case measure => simp [intOf]; omega
    ·have hd := hd.resolve_left hj0
     obtain ⟨b, hb⟩ : ∃ b, fit s[j] = b := ⟨_, rfl⟩
     have Hc := H_ ((un H2) s[j])
     rw [hb] at Hc
     have Hn : Hid ((b && (s.data.toList.drop (j + 1)).all fit) = r) := H_ (by rw [<- hb, <- List.all_cons, <- drop_at hlt]; exact un hd)
     have hjj : ((if j = 0 then 0 else 1 : Int)) = 1 := if_neg hj0
     obtain ⟨y, hy⟩ : ∃ y, s[j] = y := ⟨_, rfl⟩
     rw [hy] at Hc
     clear hb hd
     rw [hjj]
     clear hjj
     cases b
     ·obtain rfl : r = false := by rw [<- un Hn]; rfl
      go_wp2_with fail
      refine ((un Hc) _).mono ?_
      rintro e w1 ⟨rfl, rfl⟩
      go_wp2
      go_ret
      exact ⟨rfl, rfl⟩
     ·go_wp2_with fail
      refine ((un Hc) _).mono ?_
      rintro e w1 ⟨rfl, rfl⟩
      go_wp2
      go_roundw
      case rel => exact ⟨j + 1, by omega, by simp, by simp, .inr (by have := un Hn; rw [Bool.true_and] at this; exact this), by first | rfl | trivial⟩
      case measure => simp [intOf]; omega
   ·have hge : ¬ (j : Int) < s.size := by omega
    have hj0 : j ≠ 0 := by have := un H0; omega
    have hd := un (hd.resolve_left hj0)
    rw [drop_out hlt] at hd
    obtain rfl : r = true := by rw [<- hd]; rfl
    clear hd
    go_wp2
    go_ret
    exact ⟨by simpa using hne, rfl⟩
theorem num_iff (l : List UInt8) : num l = (l.all dig && (l == [48] || (l != [] && l.head? != some 48))) := by
 match l with
 | [] => rfl
 | [x] =>
  rw [num]
  by_cases h : x = 48
  ·subst h; rfl
  ·have e1 : (([x] : List UInt8) == [48]) = false := by simpa using h
   simp [h]
 | x :: y :: r =>
  rw [num]
  ·have e1 : ((x :: y :: r : List UInt8) == [48]) = false := by simp
   rw [e1, Bool.false_or]
   by_cases h : x = 48
   ·subst h; simp
   ·have e2 : (x != 48) = true := by simpa using h
    have e3 : ((x :: y :: r : List UInt8).head? != some 48) = true := by simpa using h
    have e4 : ((x :: y :: r : List UInt8) != []) = true := by simp
    rw [e2, e3, e4, List.all_cons]
    simp
  ·simp
theorem isNumber_any (s : ByteArray) (w : World) (hs : s.size <= 1000) :
  Calls Tryz.prog 194 #[.string s] w fun e w' => e = .returned (.bool (num s.data.toList)) /\ w' = w := by
 have H := H_ fun x W => isDigit_any x W
 obtain ⟨r, hr⟩ : ∃ r, s.data.toList.all dig = r := ⟨_, rfl⟩
 rw [num_iff, hr]
 have Hr := H_ hr
 clear hr
 go_enter Tryz.func194, Tryz.ntmps194
 go_wp2
 go_loopw [6] (fun ix wr => ∃ j : Nat, j <= s.size /\ ix = .int .i64 (j : Int) /\ Hid ((s.data.toList.drop j).all dig = r) /\ wr = w)
  (fun ix _ => s.size - (intOf ix).toNat)
 case atStart => exact ⟨0, Nat.zero_le _, rfl, by rw [List.drop_zero]; exact Hr, rfl⟩
 case round =>
  obtain ⟨j, hj, rfl, hd, rfl⟩ := hrel
  by_cases hlt : j < s.size
  ·have hlt' : (j : Int) < s.size := by omega
   have hj' : (j : Int) <= 1000 := by omega
   obtain ⟨b, hb⟩ : ∃ b, dig s[j] = b := ⟨_, rfl⟩
   have Hc := H_ ((un H) s[j])
   rw [hb] at Hc
   have Hn : Hid ((b && (s.data.toList.drop (j + 1)).all dig) = r) := H_ (by rw [<- hb, <- List.all_cons, <- drop_at hlt]; exact un hd)
   obtain ⟨y, hy⟩ : ∃ y, s[j] = y := ⟨_, rfl⟩
   rw [hy] at Hc
   clear hb hd
   cases b
   ·obtain rfl : r = false := by rw [<- un Hn]; rfl
    go_wp2_with fail
    refine ((un Hc) _).mono ?_
    rintro e w1 ⟨rfl, rfl⟩
    go_wp2
    go_ret
    exact ⟨by rw [Bool.false_and]; rfl, rfl⟩
   ·go_wp2_with fail
    refine ((un Hc) _).mono ?_
    rintro e w1 ⟨rfl, rfl⟩
    go_wp2
    go_roundw
    case rel => exact ⟨j + 1, by omega, by simp, by have := un Hn; rw [Bool.true_and] at this; exact this, by first | rfl | trivial⟩
    case measure => simp [intOf]; omega
  ·have hge : ¬ (j : Int) < s.size := by omega
   have hd := un hd
   rw [drop_out hlt] at hd
   obtain rfl : r = true := by rw [<- hd]; rfl
   clear hd Hr H
   have HT : Hid (s.toList = s.data.toList) := H_ (ByteArray.toList_eq s)
   cases h1 : (s.toList == ([48] : List UInt8))
   ·have E1 : Hid ((s.data.toList == ([48] : List UInt8)) = false) := H_ (by rw [<- un HT]; exact h1)
    cases h2 : (s.toList != ([] : List UInt8))
    ·have h2' : s.toList = [] := by simpa using h2
     obtain rfl : s = ⟨#[]⟩ := by
      cases s with
      | mk d => congr 1; exact Array.eq_empty_of_size_eq_zero (by rw [<- Array.length_toList, show d.toList = [] from (un HT).symm.trans h2']; rfl)
     clear h1 h2 h2' E1 HT hlt
     go_wp2
     go_ret
     exact ⟨rfl, rfl⟩
    ·have E2 : Hid ((s.data.toList != ([] : List UInt8)) = true) := H_ (by rw [<- un HT]; exact h2)
     have hpos : 0 < s.size := by
      rcases Nat.eq_zero_or_pos s.size with h | h
      ·exfalso
       rw [bne_iff_ne, un HT] at h2
       exact h2 (List.length_eq_zero_iff.1 (by rw [Array.length_toList]; exact h))
      ·exact h
     have hh : s.data.toList.head? = some s[0] := by
      have := drop_at (s := s) (j := 0) hpos
      rw [List.drop_zero] at this
      rw [this]
      rfl
     have hpos' : (0 : Int) < s.size := by omega
     have hb := beq_int s[0] 48
     have e48 : (((48 : UInt8).toNat : Nat) : Int) = 48 := rfl
     rw [e48] at hb
     obtain ⟨y, hy⟩ : ∃ y, s[0] = y := ⟨_, rfl⟩
     rw [hy] at hb hh
     have E3 : Hid ((s.data.toList.head? != some 48) = !decide (y = 48)) := H_ (by rw [hh, Bool.eq_iff_iff]; simp)
     have h2' : s.toList.isEmpty = false := by simpa using h2
     clear hh hlt hj e48 h2
     generalize decide (y = 48) = d at *
     cases d
     ·go_wp2
      go_ret
      exact ⟨by rw [un E1, un E2, un E3]; simp [bne, hb], rfl⟩
     ·go_wp2
      go_ret
      exact ⟨by rw [un E1, un E2, un E3]; simp [bne, hb], rfl⟩
   ·have E1 : Hid ((s.data.toList == ([48] : List UInt8)) = true) := H_ (by rw [<- un HT]; exact h1)
    go_wp2
    go_ret
    exact ⟨by rw [un E1]; rfl, rfl⟩
end Go.Proofs.YtmenllnokgjdlaaGreatDoor.D
/-
 A range over a function whose iterator may write a block of its own, with or without a box for the loop's variable. Conditions: the fence that asks nothing.
-/
namespace Go.Proofs.YtmenllnokgjdlaaGreatDoor.F
open Go Go.RowKit Go.Shelf
structure But (b : Nat) (w w' : World) : Prop where
 os : w'.os = w.os
 tape : w'.tape = w.tape
 output : w'.output = w.output
 size : w.heap.size <= w'.heap.size
 block : ∀ k, k < w.heap.size -> k ≠ b -> w'.heap[k]? = w.heap[k]?
theorem But.refl (b : Nat) (w : World) : But b w w := ⟨rfl, rfl, rfl, Nat.le_refl _, fun _ _ _ => rfl⟩
theorem But.trans {b : Nat} {u v w : World} (h : But b u v) (k : But b v w) : But b u w :=
 ⟨k.os.trans h.os, k.tape.trans h.tape, k.output.trans h.output, Nat.le_trans h.size k.size, fun i hi hn => (k.block i (Nat.lt_of_lt_of_le hi h.size) hn).trans (h.block i hi hn)⟩
theorem But.of_below {b : Nat} {w w' : World} (h : Below w.heap.size w w') : But b w w' := ⟨h.os, h.tape, h.output, h.size, fun k hk _ => h.block k hk⟩
theorem But.alloc {b : Nat} {u w : World} (h : But b u w) (o : Obj) : But b u (w.alloc o) := h.trans (But.of_below ((Below.refl _ _).alloc (Nat.le_refl _) _))
theorem But.setCell {b : Nat} {u w : World} (h : But b u w) (o : Nat) (v : Value) : But b u (w.setCell ⟨b, o, none⟩ v) :=
 ⟨h.os, h.tape, h.output, by simpa using h.size, fun k hk hn => (Below.heap_setCell _ _ _ _ hn).trans (h.block k hk hn)⟩
theorem But.putObj (b : Nat) (W : World) (o : Obj) : But b W (W.putObj b o) := ⟨rfl, rfl, rfl, by simp, fun _ _ hn => World.putObj_heap_other hn⟩
def Two (p q : Nat) (W W' : World) : Prop := W'.heap[p]? = W.heap[p]? /\ W'.heap[q]? = W.heap[q]?
theorem Two.trans {p q : Nat} {A B C : World} (h : Two p q A B) (k : Two p q B C) : Two p q A C := ⟨k.1.trans h.1, k.2.trans h.2⟩
theorem round_any {P : Program} {m m' l : Nat} {f : FuncId} {tmps : Array Value} {assign body : Code} {w : World} {R : Ending -> World -> Prop} (h : RoundIn Fence.wide m P l f tmps assign body w R) : RoundIn Fence.wide m' P l f tmps assign body w R :=
 ⟨h.1, fun c cs _ => h.2 c cs (room_wide _)⟩
def roundEnd {σ : Type} (D : Nat) (Kp : World -> World -> Prop) (I : σ -> World -> Prop) (Ix : Code -> σ -> World -> Prop) (s : σ) (g gx : Prop) (W : World) : Exit -> Act -> World -> Prop
 | .normal, _, W' => g /\ Two D (D + 1) W W' /\ Kp W W' /\ I s W'
 | .ret, _, W' => gx /\ Two D (D + 1) W W' /\ Ix .ret s W'
 | .exit id, _, W' => gx /\ Two D (D + 1) W W' /\ Ix (.exit id) s W'
 | .goto t, _, W' => gx /\ Two D (D + 1) W W' /\ Ix (.goto t) s W'
 | .panic _, _, _ => False
 | .outgrown, _, _ => False
theorem range_own {P : Program} {α σ : Type} {g : Operand} {ps : Array Tmp} {assign body : Code} {Q : Exit -> Act -> World -> Prop} {a : Act} {w : World}
  {gf : Nat} {lb : Array Value} (hg : a.eval g = .func (.func gf) #[] lb) (eg : ∀ args w, (callFunc gf args).run P w = .ok (.enter gf args) w)
  (encs : α -> Array Value) (hps : ∀ x, (encs x).size = ps.size)
  (Kp Ab : World -> World -> Prop) (I : σ -> World -> Prop) (Ix : Code -> σ -> World -> Prop) (Pr : σ -> α -> World -> Prop) (nx : σ -> α -> σ) (s0 : σ) (S : σ -> World -> Prop) (Sp : σ -> Prop) (G Gx : σ -> α -> Prop)
  (wa : α -> World -> World) (aa : α -> World -> Act) (hwa : ∀ x W, Below W.heap.size W (wa x W))
  (hKt : ∀ {A B C : World}, Kp A B -> Kp B C -> Kp A C) (hKp : ∀ A B, But (w.heap.size + 1) A B -> Kp A B)
  (hAb : ∀ A B, Ab A B -> w.heap.size + 2 <= A.heap.size -> Two w.heap.size (w.heap.size + 1) A B)
  (hI : ∀ s A B, But (w.heap.size + 1) A B -> I s A -> I s B) (hAI : ∀ s A B, Ab A B -> w.heap.size + 2 <= A.heap.size -> I s A -> I s B)
  (hIx : ∀ c s A B, But (w.heap.size + 1) A B -> Ix c s A -> Ix c s B) (hPr : ∀ s x A B, But (w.heap.size + 1) A B -> Pr s x A -> Pr s x B)
  (hS : ∀ s A B, But (w.heap.size + 1) A B -> S s A -> S s B) (h0 : I s0 w)
  (hiter : ∀ W : World, But (w.heap.size + 1) w W -> W.heap.size = w.heap.size + 2 -> ∀ J Jx : σ -> World -> Prop, (∀ s A B, Ab A B -> J s A -> J s B) -> (∀ s A, J s A -> I s A /\ w.heap.size + 2 <= A.heap.size) ->
   (∀ s x W' m, J s W' -> Pr s x W' -> YieldAt Fence.wide m P (w.heap.size + 1) (encs x) W' fun e W2 => (e = .returned (.bool true) /\ G s x /\ J (nx s x) W2 /\ Kp W' W2) \/ (e = .returned (.bool false) /\ Gx s x /\ Jx (nx s x) W2)) ->
   J s0 W -> CallsIn Fence.wide 6 P gf (#[.func (.yield (w.heap.size + 1)) #[] #[]] ++ lb) W fun e W' => (∃ v, e = .returned v) /\ ((∃ s, S s W' /\ J s W') \/ (∃ s, Sp s /\ Jx s W')))
  (hassign : ∀ s x W (K : Act -> World -> Prop), I s W -> Pr s x W -> K (aa x W) (wa x W) ->
   assign.wpIn (Fence.wide.inRound (w.heap.size + 1)) 5 P (Exit.then K (fun _ _ _ => False)) { tmps := (ps.zip (encs x)).foldl (fun t (p, v) => t.setIfInBounds p v) a.tmps, defers := [] } W)
  (hbody : ∀ s x W0 W, I s W -> Pr s x W -> w.heap.size + 2 <= W0.heap.size -> But (w.heap.size + 1) (wa x W0) W -> I s W0 -> body.wpIn (Fence.wide.inRound (w.heap.size + 1)) 5 P (roundEnd w.heap.size Kp I Ix (nx s x) (G s x) (Gx s x) W) (aa x W0) W)
  (hdone : ∀ s W, S s W -> I s W -> W.heap[w.heap.size]? = some (.deferred (some [])) -> Q .normal { a with defers := { target := .collected w.heap.size, args := #[] } :: a.defers } W)
  (hstop : ∀ c s W, Sp s -> Ix c s W -> W.heap[w.heap.size]? = some (.deferred (some [])) -> c.wpIn Fence.wide 7 P Q { a with defers := { target := .collected w.heap.size, args := #[] } :: a.defers } W) :
  (Code.rangeFunc g ps assign body).wpIn Fence.wide 7 P Q a w := by
 refine wpIn_rangeFunc ?_
 intro fn hfn
 obtain ⟨rec, hrec⟩ : ∃ rec : LoopState -> Option Code -> Loop, rec = fun st pe => { state := st, pending := pe, fn, tmps := a.tmps, params := ps, assign, body, defers := w.heap.size } := ⟨_, rfl⟩
 obtain ⟨W1, hW1⟩ : ∃ W1, W1 = (w.alloc (.deferred (some []))).alloc (.loop (rec .ready none)) := ⟨_, rfl⟩
 have hL1 : W1.heap[w.heap.size + 1]? = some (.loop (rec .ready none)) := by
  rw [hW1]; have := World.alloc_heap_new (w.alloc (.deferred (some []))) (.loop (rec .ready none)); rwa [World.size_alloc] at this
 have hK1 : W1.heap[w.heap.size]? = some (.deferred (some [])) := by
  rw [hW1]; exact (Below.heap_alloc _ _ _ (by simp)).trans (World.alloc_heap_new w _)
 have hb1 : But (w.heap.size + 1) w W1 := by rw [hW1]; exact ((But.refl _ _).alloc _).alloc _
 have hz1 : W1.heap.size = w.heap.size + 2 := by rw [hW1]; simp
 refine ⟨w.heap.size + 1, [{ target := .collected w.heap.size, args := #[] }], W1, { target := .fn (.func gf) lb, args := #[.func (.yield (w.heap.size + 1)) #[] #[]] }, W1, gf,
  #[.func (.yield (w.heap.size + 1)) #[] #[]] ++ lb, W1, ?_, ?_, fun _ _ => trivial, ?_, fun _ => by omega, ?_⟩
 ·rw [hW1, hrec]; exact run_enterLoop_outer _ _ _ _ _
 ·simp only [resolve, hg]
  simp [go_sem]
 ·simp [invoke, go_sem, eg]
 ·refine (hiter W1 hb1 hz1
   (fun s W => I s W /\ W.heap[w.heap.size + 1]? = some (.loop (rec .ready none)) /\ W.heap[w.heap.size]? = some (.deferred (some [])))
   (fun s W => ∃ c, Ix c s W /\ W.heap[w.heap.size + 1]? = some (.loop (rec .done (some c))) /\ W.heap[w.heap.size]? = some (.deferred (some [])))
   (fun s A B hab hs => by
    have hlt := (Array.getElem?_eq_some_iff.1 hs.2.1).1
    obtain ⟨e1, e2⟩ := hAb A B hab (by omega)
    exact ⟨hAI s A B hab (by omega) hs.1, e2.trans hs.2.1, e1.trans hs.2.2⟩)
   (fun s A hs => ⟨hs.1, by have := (Array.getElem?_eq_some_iff.1 hs.2.1).1; omega⟩)
   ?_ ⟨hI _ _ _ hb1 h0, hL1, hK1⟩).mono ?_
  ·rintro s x W m ⟨hi, hl, hk⟩ hpr
   have hlt : w.heap.size + 1 < W.heap.size := (Array.getElem?_eq_some_iff.1 hl).1
   have hy := run_yield (P := P) (args := encs x) hl (by rw [hrec]; exact hps x)
   rw [hrec] at hy
   refine ⟨fn, _, assign, body, hy, round_any (roundIn_of_wpIn hfn (hassign s x W _ hi hpr ?_))⟩
   have hba0 : But (w.heap.size + 1) W (wa x W) := But.of_below (hwa x W)
   have hsame : (wa x W).heap[w.heap.size + 1]? = W.heap[w.heap.size + 1]? := (hwa x W).block _ hlt
   ·skip
    obtain ⟨Wa, hWa⟩ : ∃ Wa, Wa = wa x W := ⟨_, rfl⟩
    have hba : But (w.heap.size + 1) W Wa := by rw [hWa]; exact hba0
    have hla : Wa.heap[w.heap.size + 1]? = some (.loop (rec .ready none)) := by rw [hWa]; exact hsame.trans hl
    have hka : Wa.heap[w.heap.size]? = some (.deferred (some [])) := (hba.block _ (by omega) (by omega)).trans hk
    have hwb : But (w.heap.size + 1) (wa x W) Wa := by rw [hWa]; exact But.refl _ _
    rw [<- hWa]
    refine ⟨_, run_beginRound hla (by rw [hrec]), ?_⟩
    obtain ⟨Wb, hWb⟩ : ∃ Wb, Wb = Wa.putObj (w.heap.size + 1) (.loop { rec .ready none with state := .busy }) := ⟨_, rfl⟩
    have hbb : But (w.heap.size + 1) Wa Wb := by rw [hWb]; exact But.putObj _ _ _
    have hlb : Wb.heap[w.heap.size + 1]? = some (.loop { rec .ready none with state := .busy }) := by rw [hWb]; exact World.putObj_heap_same (Array.getElem?_eq_some_iff.1 hla).1
    have hkb : Wb.heap[w.heap.size]? = some (.deferred (some [])) := (hbb.block _ (Array.getElem?_eq_some_iff.1 hka).1 (by omega)).trans hka
    rw [<- hWb]
    refine wpIn_mono (hbody s x W Wb (hI _ _ _ (hba.trans hbb) hi) (hPr _ _ _ _ (hba.trans hbb) hpr) (by omega) (hwb.trans hbb) hi) ?_
    have fin : ∀ (jump : Option Code) (W3 : World), Two w.heap.size (w.heap.size + 1) Wb W3 ->
      (Instr.endRound (w.heap.size + 1) jump).run P W3 = .ok (.bool jump.isNone) (W3.putObj (w.heap.size + 1) (.loop (rec (if jump.isNone then .ready else .done) jump))) /\
      (W3.putObj (w.heap.size + 1) (.loop (rec (if jump.isNone then .ready else .done) jump))).heap[w.heap.size + 1]? = some (.loop (rec (if jump.isNone then .ready else .done) jump)) /\
      (W3.putObj (w.heap.size + 1) (.loop (rec (if jump.isNone then .ready else .done) jump))).heap[w.heap.size]? = some (.deferred (some [])) := fun jump W3 hk3 => by
     have hl3 := hk3.2.trans hlb
     have := run_endRound (P := P) jump hl3
     rw [hrec] at this ⊢
     exact ⟨this, World.putObj_heap_same (Array.getElem?_eq_some_iff.1 hl3).1, (World.putObj_heap_other (by omega)).trans (hk3.1.trans hkb)⟩
    rintro e a3 W3 hp
    cases e with
    | normal =>
     obtain ⟨hg3, hk3, hkp3, hi3⟩ := hp
     obtain ⟨hr, hl4, hk4⟩ := fin none W3 hk3
     exact ⟨_, _, hr, .inl ⟨rfl, hg3, ⟨hI _ _ _ (But.putObj _ _ _) hi3, hl4, hk4⟩, hKt (hKp _ _ (hba.trans hbb)) (hKt hkp3 (hKp _ _ (But.putObj _ _ _)))⟩⟩
    | ret =>
     obtain ⟨hg3, hk3, hi3⟩ := hp
     obtain ⟨hr, hl4, hk4⟩ := fin (some .ret) W3 hk3
     exact ⟨_, _, hr, .inr ⟨rfl, hg3, .ret, hIx _ _ _ _ (But.putObj _ _ _) hi3, hl4, hk4⟩⟩
    | exit id =>
     obtain ⟨hg3, hk3, hi3⟩ := hp
     obtain ⟨hr, hl4, hk4⟩ := fin (some (.exit id)) W3 hk3
     exact ⟨_, _, hr, .inr ⟨rfl, hg3, .exit id, hIx _ _ _ _ (But.putObj _ _ _) hi3, hl4, hk4⟩⟩
    | goto t =>
     obtain ⟨hg3, hk3, hi3⟩ := hp
     obtain ⟨hr, hl4, hk4⟩ := fin (some (.goto t)) W3 hk3
     exact ⟨_, _, hr, .inr ⟨rfl, hg3, .goto t, hIx _ _ _ _ (But.putObj _ _ _) hi3, hl4, hk4⟩⟩
    | panic ch => exact hp.elim
    | outgrown => exact hp.elim
  ·rintro e W2 ⟨⟨v, rfl⟩, (⟨s, hs, hi, hl, hk⟩ | ⟨s, hSp, c, hi, hl, hk⟩)⟩
   ·exact ⟨none, _, by have := run_endLoop (P := P) hl (by rw [hrec]; simp); rw [hrec] at this; exact this, hdone s _ (hS _ _ _ (But.putObj _ _ _) hs) (hI _ _ _ (But.putObj _ _ _) hi) ((World.putObj_heap_other (by omega)).trans hk)⟩
   ·exact ⟨some c, _, by have := run_endLoop (P := P) hl (by rw [hrec]; simp); rw [hrec] at this; exact this, hstop c s _ hSp (hIx _ _ _ _ (But.putObj _ _ _) hi) ((World.putObj_heap_other (by omega)).trans hk)⟩
end Go.Proofs.YtmenllnokgjdlaaGreatDoor.F
