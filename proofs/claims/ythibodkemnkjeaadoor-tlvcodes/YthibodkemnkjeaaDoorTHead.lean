/-
  What reader.head of package tlv does. Conditions: the package-level variables hold what the program's text lays.
-/
import Derived.Test.YthibodkemnkjeaaDoorTSmall
import Derived.Deep.RegionHeld
import Derived.Deep.Light
namespace Go.Proofs.YthibodkemnkjeaaDoor
open Go.RowKit Tv T

/-- the reader lies in block R: its text, how many trees it met. -/
structure TRd (R : Nat) (s : ByteArray) (c : Int) (w : World) : Prop where
  h0 : w.cell? ⟨R, 0, none⟩ = some (.string s)
  h1 : w.cell? ⟨R, 1, none⟩ = some (.int .i64 c)
  f1 : w.frozen? ⟨R, 1, none⟩ = false
theorem TRd.lt {R : Nat} {s : ByteArray} {c : Int} {w : World} (h : TRd R s c w) : R < w.heap.size := lt_of_cell h.h0
theorem TRd.of {R : Nat} {s : ByteArray} {c : Int} {w w' : World} (h : TRd R s c w) (e : w'.heap[R]? = w.heap[R]?) : TRd R s c w' :=
  ⟨(World.cell?_of_block (w := w) (a := ⟨R, 0, none⟩) e).trans h.h0, (World.cell?_of_block (w := w) (a := ⟨R, 1, none⟩) e).trans h.h1, (World.frozen?_of_block (w := w) (a := ⟨R, 1, none⟩) e).trans h.f1⟩
theorem TRd.below {R : Nat} {s : ByteArray} {c : Int} {w w' : World} {B : Nat} (h : TRd R s c w) (hb : Below B w w') (hB : R < B) : TRd R s c w' := h.of (hb.block R hB)
theorem TRd.set {R : Nat} {s : ByteArray} {c : Int} {w : World} (h : TRd R s c w) (c' : Int) : TRd R s c' (w.setCell ⟨R, 1, none⟩ (.int .i64 c')) :=
  ⟨by rw [World.cell?_setCell_other (h := by simp)]; exact h.h0, World.cell?_setCell_same' _ _ _ (by rw [h.h1]; rfl), by rw [World.frozen?_setCell]; exact h.f1⟩

abbrev headV (t a b : Int) : Value := .agg #[.int .i64 t, .int .i64 a, .int .i64 b]
abbrev sentV (a : Addr) : Value := .iface 158 (.pointer (some a))

set_option maxHeartbeats 1000000 in
theorem head_node (R : Nat) (s : ByteArray) (c a stop deep : Int) (A : Ads) (w : World) (h : TRd R s c w) (g : TG A w) (hc : c = 200 ∨ 12 < deep) :
    Calls Tryd.prog 64 #[.pointer (some ⟨R, 0, none⟩), .int .i64 a, .int .i64 stop, .int .i64 deep] w fun e w' => e = .returned (.tuple #[headV 0 0 0, sentV A.no]) ∧ Below w.heap.size w w' := by
  have q1 : ∀ o, (w.alloc o).cell? ⟨R, 1, none⟩ = some (.int .i64 c) := fun o => by rw [World.cell?_alloc_lt _ _ _ (lt_of_cell h.h1)]; exact h.h1
  have g1 := fun o => (g.below (Nat.le_refl _) ((Below.refl _ _).alloc (Nat.le_refl _) o)).no
  have hb : ∀ o, Below w.heap.size w (w.alloc o).drew := fun o => ((Below.refl _ _).alloc (Nat.le_refl _) _).drew
  clear g h
  by_cases h200 : c = 200
  · subst h200
    clear hc
    go_enter Tryd.func64, Tryd.ntmps64
    go_wp2
    go_region
    all_goals go_wp2
    all_goals go_light
    all_goals exact bodyPost_ret (v := .tuple #[headV 0 0 0, sentV A.no]) (by simp [results, Tryd.results64, go_sem]) rfl ⟨rfl, hb _⟩
  · have h12 : 12 < deep := by omega
    have e1 : (c == 200) = false := beq_eq_false_iff_ne.2 h200
    clear hc h200
    go_enter Tryd.func64, Tryd.ntmps64
    go_wp2
    go_region
    all_goals go_wp2
    all_goals go_light
    all_goals exact bodyPost_ret (v := .tuple #[headV 0 0 0, sentV A.no]) (by simp [results, Tryd.results64, go_sem]) rfl ⟨rfl, hb _⟩

/-- all package-level variables that the walks read. -/
structure Gl (A : Ads) (aS aF : Addr) (w : World) : Prop where
  g : Glob aS aF w
  t : TG A w
theorem Gl.below {A : Ads} {aS aF : Addr} {w w' : World} (g : Gl A aS aF w) (h : Below w.heap.size w w') : Gl A aS aF w' := ⟨g.g.below (Nat.le_refl _) h, g.t.below (Nat.le_refl _) h⟩

/-- what is kept when the reader's count was raised. -/
theorem raised {R : Nat} {s : ByteArray} {c : Int} {A : Ads} {aS aF : Addr} {w₀ w : World} (h : TRd R s c w) (g : Gl A aS aF w₀) (hw : Below w₀.heap.size w₀ w) (hR : w₀.heap.size ≤ R) (c' : Int) (o : Obj) :
    TRd R s c' ((w.setCell ⟨R, 1, none⟩ (.int .i64 c')).alloc o) ∧ Gl A aS aF ((w.setCell ⟨R, 1, none⟩ (.int .i64 c')).alloc o) ∧ But R w ((w.setCell ⟨R, 1, none⟩ (.int .i64 c')).alloc o) ∧ Below w₀.heap.size w₀ ((w.setCell ⟨R, 1, none⟩ (.int .i64 c')).alloc o) := by
  have hb : Below w₀.heap.size w₀ ((w.setCell ⟨R, 1, none⟩ (.int .i64 c')).alloc o) := (hw.setCell (p := ⟨R, 1, none⟩) hR _).alloc (by have := hw.size; simpa [World.setCell] using this) _
  exact ⟨(h.set c').of (Below.heap_alloc _ _ _ (by have := h.lt; simpa [World.setCell] using this)), g.below hb, ((But.refl R w).setCell 1 _).alloc o, hb⟩

/-- head's answer. -/
def HeadPost (R : Nat) (s : ByteArray) (c : Nat) (A : Ads) (w : World) (r : Except Int (Nat × Nat × Nat)) (e : Ending) (w' : World) : Prop :=
  But R w w' ∧ TRd R s ((c + 1 : Nat) : Int) w' ∧ match r with
    | .error E => ∃ u, e = .returned (.tuple #[headV 0 0 0, u]) ∧ u ≠ .nilIface ∧ IsWhy A u E
    | .ok (t, a, b) => e = .returned (.tuple #[headV t a b, .nilIface])

set_option maxHeartbeats 1000000 in
theorem head_short (R : Nat) (s : ByteArray) (c a : Nat) (deep : Int) (A : Ads) (aS aF : Addr) (w₀ w : World) (h : TRd R s c w) (g : Gl A aS aF w₀) (hw : Below w₀.heap.size w₀ w) (hR : w₀.heap.size ≤ R) (hc : c < 200) (hdp : deep ≤ 12) :
    Calls Tryd.prog 64 #[.pointer (some ⟨R, 0, none⟩), .int .i64 a, .int .i64 a, .int .i64 deep] w fun e w' => e = .returned (.tuple #[headV 0 0 0, sentV A.sh]) ∧ But R w w' ∧ TRd R s ((c + 1 : Nat) : Int) w' := by
  have q1 : ∀ o, (w.alloc o).cell? ⟨R, 1, none⟩ = some (.int .i64 c) := fun o => by rw [World.cell?_alloc_lt _ _ _ (lt_of_cell h.h1)]; exact h.h1
  have f1 : ∀ o, (w.alloc o).frozen? ⟨R, 1, none⟩ = false := fun o => by rw [World.frozen?_alloc_old _ _ _ (Nat.ne_of_lt h.lt)]; exact h.f1
  have hlt := h.lt
  have g1 := fun o => (raised h g hw hR ((c : Int) + 1) o).2.1.t.sh
  have fin := hide fun o => (raised h g hw hR ((c : Int) + 1) o)
  have e1 : ((c : Int) == 200) = false := beq_eq_false_iff_ne.2 (by omega)
  have hc1 : (c : Int) ≤ 200 := by omega
  clear g h
  go_enter Tryd.func64, Tryd.ntmps64
  go_wp2
  go_region
  all_goals go_wp2
  all_goals go_light
  all_goals exact bodyPost_ret (v := .tuple #[headV 0 0 0, sentV A.sh]) (by simp [results, Tryd.results64, go_sem]) rfl ⟨rfl, ((unhide fin) _).2.2.1.drew, ((unhide fin) _).1.of rfl⟩

theorem byteConv (x : UInt8) : (x.toNat : Int) ≤ 255 := by have := x.toNat_lt; omega

set_option maxHeartbeats 1000000 in
theorem head_tag (R : Nat) (s : ByteArray) (c a stop : Nat) (deep : Int) (A : Ads) (aS aF : Addr) (w₀ w : World) (h : TRd R s c w) (g : Gl A aS aF w₀) (hw : Below w₀.heap.size w₀ w) (hR : w₀.heap.size ≤ R) (hc : c < 200) (hdp : deep ≤ 12)
    (ha : a < stop) (hst : stop ≤ s.size) (ht : s[a].toNat % 32 = 31) :
    Calls Tryd.prog 64 #[.pointer (some ⟨R, 0, none⟩), .int .i64 a, .int .i64 stop, .int .i64 deep] w fun e w' => e = .returned (.tuple #[headV 0 0 0, sentV A.tg]) ∧ But R w w' ∧ TRd R s ((c + 1 : Nat) : Int) w' := by
  have q1 : ∀ o, (w.alloc o).cell? ⟨R, 1, none⟩ = some (.int .i64 c) := fun o => by rw [World.cell?_alloc_lt _ _ _ (lt_of_cell h.h1)]; exact h.h1
  have f1 : ∀ o, (w.alloc o).frozen? ⟨R, 1, none⟩ = false := fun o => by rw [World.frozen?_alloc_old _ _ _ (Nat.ne_of_lt h.lt)]; exact h.f1
  have hlt := h.lt
  have g1 := fun o => (raised h g hw hR ((c : Int) + 1) o).2.1.t.tg
  have k0 := fun o => (raised h g hw hR ((c : Int) + 1) o).1.h0
  have fin := hide fun o => (raised h g hw hR ((c : Int) + 1) o)
  have e1 : ((c : Int) == 200) = false := beq_eq_false_iff_ne.2 (by omega)
  have e2 : ((a : Int) == stop) = false := beq_eq_false_iff_ne.2 (by omega)
  have hc1 : (c : Int) ≤ 200 := by omega
  have b1 := byteConv s[a]
  have b2 : 0 ≤ (s[a].toNat : Int) := by omega
  have e3 : (bits BinOp.and IntKind.i64 (s[a].toNat : Int) 31 == 31) = true := by rw [low_eq _ b2 b1, beq_iff_eq]; omega
  have h1 : (a : Int) < s.size := by omega
  clear g h ht
  go_enter Tryd.func64, Tryd.ntmps64
  go_wp2
  go_region
  all_goals go_wp2
  all_goals go_light
  all_goals exact bodyPost_ret (v := .tuple #[headV 0 0 0, sentV A.tg]) (by simp [results, Tryd.results64, go_sem]) rfl ⟨rfl, ((unhide fin) _).2.2.1.drew, ((unhide fin) _).1.of rfl⟩

/-- a box of three cells behind a call that keeps what lay. -/
theorem box3 {W w' : World} {x y z : Value} {t : TypeId} {n : Nat} (hn : W.heap.size = n) (hb : Below (W.alloc (.cells #[x, y, z] t)).heap.size (W.alloc (.cells #[x, y, z] t)) w') :
    w'.cell? ⟨n, 0, none⟩ = some x ∧ w'.cell? ⟨n, 1, none⟩ = some y ∧ w'.cell? ⟨n, 2, none⟩ = some z ∧ w'.frozen? ⟨n, 0, none⟩ = false ∧ w'.frozen? ⟨n, 1, none⟩ = false ∧ w'.frozen? ⟨n, 2, none⟩ = false := by
  subst hn
  have e : w'.heap[W.heap.size]? = some (.cells #[x, y, z] t (0, 0)) := (hb.block _ (by simp)).trans (World.alloc_heap_new W _)
  simp [World.cell?, World.frozen?, e]
theorem fin3 {R : Nat} {s : ByteArray} {c : Int} {w W w' : World} (hR : R < w.heap.size) (hs : W.heap.size = w.heap.size + 1) (ht : TRd R s c W) (hbut : But R w W) (hb : Below W.heap.size W w') (x y z : Value) :
    But R w (((w'.setCell ⟨w.heap.size, 0, none⟩ x).setCell ⟨w.heap.size, 1, none⟩ y).setCell ⟨w.heap.size, 2, none⟩ z) ∧ TRd R s c (((w'.setCell ⟨w.heap.size, 0, none⟩ x).setCell ⟨w.heap.size, 1, none⟩ y).setCell ⟨w.heap.size, 2, none⟩ z) := by
  have e : ∀ k, k < w.heap.size → (((w'.setCell ⟨w.heap.size, 0, none⟩ x).setCell ⟨w.heap.size, 1, none⟩ y).setCell ⟨w.heap.size, 2, none⟩ z).heap[k]? = W.heap[k]? := fun k hk => by
    rw [Below.heap_setCell _ _ _ _ (by show k ≠ w.heap.size; omega), Below.heap_setCell _ _ _ _ (by show k ≠ w.heap.size; omega), Below.heap_setCell _ _ _ _ (by show k ≠ w.heap.size; omega)]
    exact hb.block k (by omega)
  refine ⟨⟨hb.os.trans hbut.os, hb.tape.trans hbut.tape, hb.output.trans hbut.output, ?_, fun k hk hn => (e k hk).trans (hbut.block k hk hn)⟩, ht.of (e R hR)⟩
  have := hb.size
  simp [World.setCell]
  omega
theorem size_setCell (w : World) (a : Addr) (v : Value) : (w.setCell a v).heap.size = w.heap.size := by simp [World.setCell]

set_option maxHeartbeats 1000000 in
theorem head_len (R : Nat) (s : ByteArray) (c a stop : Nat) (deep : Int) (A : Ads) (aS aF : Addr) (w₀ w : World) (h : TRd R s c w) (g : Gl A aS aF w₀) (hw : Below w₀.heap.size w₀ w) (hR : w₀.heap.size ≤ R) (hc : c < 200) (hdp : deep ≤ 12)
    (hs : s.size ≤ 10000) (ha : a < stop) (hst : stop ≤ s.size) (ht : s[a].toNat % 32 ≠ 31) (n p E : Int) (hd : Sz.dec (s.data.toList.take stop) ((a : Int) + 1) = (n, p, E)) (hE : E ≠ 0) :
    Calls Tryd.prog 64 #[.pointer (some ⟨R, 0, none⟩), .int .i64 a, .int .i64 stop, .int .i64 deep] w fun e w' => e = .returned (.tuple #[headV 0 0 0, .iface 69 (.agg #[.int .i64 E])]) ∧ But R w w' ∧ TRd R s ((c + 1 : Nat) : Int) w' := by
  have q1 : ∀ o, (w.alloc o).cell? ⟨R, 1, none⟩ = some (.int .i64 c) := fun o => by rw [World.cell?_alloc_lt _ _ _ (lt_of_cell h.h1)]; exact h.h1
  have f1 : ∀ o, (w.alloc o).frozen? ⟨R, 1, none⟩ = false := fun o => by rw [World.frozen?_alloc_old _ _ _ (Nat.ne_of_lt h.lt)]; exact h.f1
  have hlt := h.lt
  have k0 := fun o => (raised h g hw hR ((c : Int) + 1) o).1.h0
  have fin := hide fun o => (raised h g hw hR ((c : Int) + 1) o)
  have e1 : ((c : Int) == 200) = false := beq_eq_false_iff_ne.2 (by omega)
  have e2 : ((a : Int) == stop) = false := beq_eq_false_iff_ne.2 (by omega)
  have hc1 : (c : Int) ≤ 200 := by omega
  have b1 := byteConv s[a]
  have b2 : 0 ≤ (s[a].toNat : Int) := by omega
  have e3 : (bits BinOp.and IntKind.i64 (s[a].toNat : Int) 31 == 31) = false := by rw [low_eq _ b2 b1, beq_eq_false_iff_ne]; omega
  have h1 : (a : Int) < s.size := by omega
  have h2 : (a : Int) ≤ 10000 := by omega
  have H := hide fun o => length_no s ((a : Int) + 1) stop E aS aF _ (raised h g hw hR ((c : Int) + 1) o).2.1.g hs hst n p hd hE
  clear g h ht hd hE
  go_enter Tryd.func64, Tryd.ntmps64
  go_wp2_with (go_at_call 72; refine ((unhide H) _).mono ?_; rintro e w' ⟨rfl, hb⟩; obtain ⟨c0, c1, c2, r0, r1, r2⟩ := box3 (size_setCell _ _ _) hb; have hb' := hide hb; clear hb)
  all_goals go_light
  all_goals exact bodyPost_ret (v := .tuple #[headV 0 0 0, .iface 69 (.agg #[.int .i64 E])]) (by simp [results, Tryd.results64, go_sem, c0, c1, c2]) rfl ⟨rfl, fin3 hlt (by simp [World.setCell]) ((unhide fin) _).1 ((unhide fin) _).2.2.1 (unhide hb') _ _ _⟩

set_option maxHeartbeats 1000000 in
theorem head_more (R : Nat) (s : ByteArray) (c a stop : Nat) (deep : Int) (A : Ads) (aS aF : Addr) (w₀ w : World) (h : TRd R s c w) (g : Gl A aS aF w₀) (hw : Below w₀.heap.size w₀ w) (hR : w₀.heap.size ≤ R) (hc : c < 200) (hdp : deep ≤ 12)
    (hs : s.size ≤ 10000) (ha : a < stop) (hst : stop ≤ s.size) (ht : s[a].toNat % 32 ≠ 31) (n p : Nat) (hd : Sz.dec (s.data.toList.take stop) ((a : Int) + 1) = ((n : Int), (p : Int), 0)) (hn : n ≤ 16777215) (hp : p ≤ stop) (hnp : (stop : Int) - p < n) :
    Calls Tryd.prog 64 #[.pointer (some ⟨R, 0, none⟩), .int .i64 a, .int .i64 stop, .int .i64 deep] w fun e w' => e = .returned (.tuple #[headV 0 0 0, sentV A.sh]) ∧ But R w w' ∧ TRd R s ((c + 1 : Nat) : Int) w' := by
  have q1 : ∀ o, (w.alloc o).cell? ⟨R, 1, none⟩ = some (.int .i64 c) := fun o => by rw [World.cell?_alloc_lt _ _ _ (lt_of_cell h.h1)]; exact h.h1
  have f1 : ∀ o, (w.alloc o).frozen? ⟨R, 1, none⟩ = false := fun o => by rw [World.frozen?_alloc_old _ _ _ (Nat.ne_of_lt h.lt)]; exact h.f1
  have hlt := h.lt
  have k0 := fun o => (raised h g hw hR ((c : Int) + 1) o).1.h0
  have fin := hide fun o => (raised h g hw hR ((c : Int) + 1) o)
  have e1 : ((c : Int) == 200) = false := beq_eq_false_iff_ne.2 (by omega)
  have e2 : ((a : Int) == stop) = false := beq_eq_false_iff_ne.2 (by omega)
  have hc1 : (c : Int) ≤ 200 := by omega
  have b1 := byteConv s[a]
  have b2 : 0 ≤ (s[a].toNat : Int) := by omega
  have e3 : (bits BinOp.and IntKind.i64 (s[a].toNat : Int) 31 == 31) = false := by rw [low_eq _ b2 b1, beq_eq_false_iff_ne]; omega
  have h1 : (a : Int) < s.size := by omega
  have h2 : (a : Int) ≤ 10000 := by omega
  have H := hide fun o => length_ok s ((a : Int) + 1) stop n p aS aF _ (raised h g hw hR ((c : Int) + 1) o).2.1.g hs hst hd
  have G := hide fun o w' (hb : Below _ ((w.setCell ⟨R, 1, none⟩ (.int .i64 ((c : Int) + 1))).alloc o) w') => ((raised h g hw hR ((c : Int) + 1) o).2.1.below hb).t.sh
  have h3 : (stop : Int) ≤ 10000 := by omega
  have h4 : (p : Int) ≤ 10000 := by omega
  have hG : Hid (4 < w.heap.size) := hide (by have := lt_of_cell g.t.sh; have := hw.size; simp at *; omega)
  clear g h ht hd
  go_enter Tryd.func64, Tryd.ntmps64
  go_wp2_with (go_at_call 72; refine ((unhide H) _).mono ?_; rintro e w' ⟨rfl, hb⟩; obtain ⟨c0, c1, c2, r0, r1, r2⟩ := box3 (size_setCell _ _ _) hb; have gs := (unhide G) _ _ hb; have gs0 : ∀ v, (w'.setCell ⟨w.heap.size, 0, none⟩ v).cell? ⟨4, 0, none⟩ = some (sentV A.sh) := (fun v => by rw [World.cell?_setCell_far _ _ _ _ (by have := unhide hG; simp; omega)]; exact gs); have hb' := hide hb; clear hb)
  go_region
  all_goals go_wp2
  all_goals go_light
  all_goals exact bodyPost_ret (v := .tuple #[headV 0 0 0, sentV A.sh]) (by simp [results, Tryd.results64, go_sem, c0, c1, c2]) rfl ⟨rfl, (fin3 hlt (by simp [World.setCell]) ((unhide fin) _).1 ((unhide fin) _).2.2.1 (unhide hb') _ _ _).1.drew, (fin3 hlt (by simp [World.setCell]) ((unhide fin) _).1 ((unhide fin) _).2.2.1 (unhide hb') _ _ _).2.of rfl⟩

set_option maxHeartbeats 1000000 in
theorem head_ok (R : Nat) (s : ByteArray) (c a stop : Nat) (deep : Int) (A : Ads) (aS aF : Addr) (w₀ w : World) (h : TRd R s c w) (g : Gl A aS aF w₀) (hw : Below w₀.heap.size w₀ w) (hR : w₀.heap.size ≤ R) (hc : c < 200) (hdp : deep ≤ 12)
    (hs : s.size ≤ 10000) (ha : a < stop) (hst : stop ≤ s.size) (ht : s[a].toNat % 32 ≠ 31) (n p : Nat) (hd : Sz.dec (s.data.toList.take stop) ((a : Int) + 1) = ((n : Int), (p : Int), 0)) (hn : n ≤ 16777215) (hp : p ≤ stop) (hnp : ¬ (stop : Int) - p < n) :
    Calls Tryd.prog 64 #[.pointer (some ⟨R, 0, none⟩), .int .i64 a, .int .i64 stop, .int .i64 deep] w fun e w' => e = .returned (.tuple #[headV s[a].toNat p ((p + n : Nat) : Int), .nilIface]) ∧ But R w w' ∧ TRd R s ((c + 1 : Nat) : Int) w' := by
  have q1 : ∀ o, (w.alloc o).cell? ⟨R, 1, none⟩ = some (.int .i64 c) := fun o => by rw [World.cell?_alloc_lt _ _ _ (lt_of_cell h.h1)]; exact h.h1
  have f1 : ∀ o, (w.alloc o).frozen? ⟨R, 1, none⟩ = false := fun o => by rw [World.frozen?_alloc_old _ _ _ (Nat.ne_of_lt h.lt)]; exact h.f1
  have hlt := h.lt
  have k0 := fun o => (raised h g hw hR ((c : Int) + 1) o).1.h0
  have fin := hide fun o => (raised h g hw hR ((c : Int) + 1) o)
  have e1 : ((c : Int) == 200) = false := beq_eq_false_iff_ne.2 (by omega)
  have e2 : ((a : Int) == stop) = false := beq_eq_false_iff_ne.2 (by omega)
  have hc1 : (c : Int) ≤ 200 := by omega
  have b1 := byteConv s[a]
  have b2 : 0 ≤ (s[a].toNat : Int) := by omega
  have e3 : (bits BinOp.and IntKind.i64 (s[a].toNat : Int) 31 == 31) = false := by rw [low_eq _ b2 b1, beq_eq_false_iff_ne]; omega
  have h1 : (a : Int) < s.size := by omega
  have h2 : (a : Int) ≤ 10000 := by omega
  have H := hide fun o => length_ok s ((a : Int) + 1) stop n p aS aF _ (raised h g hw hR ((c : Int) + 1) o).2.1.g hs hst hd
  have h3 : (stop : Int) ≤ 10000 := by omega
  have h4 : (p : Int) ≤ 10000 := by omega
  have h5 : (n : Int) ≤ 10000 := by omega
  clear g h ht hd
  go_enter Tryd.func64, Tryd.ntmps64
  go_wp2_with (go_at_call 72; refine ((unhide H) _).mono ?_; rintro e w' ⟨rfl, hb⟩; obtain ⟨c0, c1, c2, r0, r1, r2⟩ := box3 (size_setCell _ _ _) hb; have hb' := hide hb; clear hb)
  all_goals go_light
  all_goals exact bodyPost_ret (v := .tuple #[headV s[a].toNat p ((p + n : Nat) : Int), .nilIface]) (by simp [results, Tryd.results64, go_sem, c0, c1, c2]) rfl ⟨rfl, fin3 hlt (by simp [World.setCell]) ((unhide fin) _).1 ((unhide fin) _).2.2.1 (unhide hb') _ _ _⟩

theorem getD_nat (s : ByteArray) (a : Nat) (h : a < s.size) : s.data.toList.getD a 0 = s[a] := by
  have h' : a < s.data.toList.length := by simpa using h
  rw [List.getD_eq_getElem?_getD, List.getElem?_eq_getElem h']
  rfl
/-- head, where trees may still be met. -/
theorem head_any (R : Nat) (s : ByteArray) (c a stop : Nat) (deep : Int) (A : Ads) (aS aF : Addr) (w₀ w : World) (h : TRd R s c w) (g : Gl A aS aF w₀) (hw : Below w₀.heap.size w₀ w) (hR : w₀.heap.size ≤ R) (hc : c < 200) (hdp : deep ≤ 12)
    (hs : s.size ≤ 10000) (ha : a ≤ stop) (hst : stop ≤ s.size) :
    Calls Tryd.prog 64 #[.pointer (some ⟨R, 0, none⟩), .int .i64 a, .int .i64 stop, .int .i64 deep] w (HeadPost R s c A w (headT s.data.toList a stop)) := by
  by_cases h1 : a = stop
  · subst h1
    refine (head_short R s c a deep A aS aF w₀ w h g hw hR hc hdp).mono fun e w' ⟨he, hb, ht⟩ => ⟨hb, ht, ?_⟩
    unfold headT
    rw [if_pos rfl]
    exact ⟨_, he, by simp, .inr ⟨_, rfl, .inl ⟨rfl, rfl⟩⟩⟩
  · have hlt : a < stop := by omega
    have hg := getD_nat s a (by omega)
    by_cases h2 : s[a].toNat % 32 = 31
    · refine (head_tag R s c a stop deep A aS aF w₀ w h g hw hR hc hdp hlt hst h2).mono fun e w' ⟨he, hb, ht⟩ => ⟨hb, ht, ?_⟩
      unfold headT
      rw [if_neg h1, hg, if_pos h2]
      exact ⟨_, he, by simp, .inr ⟨_, rfl, .inr (.inl ⟨rfl, rfl⟩)⟩⟩
    · obtain ⟨n, p, E, hd⟩ : ∃ n p E, Sz.dec (s.data.toList.take stop) ((a : Int) + 1) = (n, p, E) := ⟨_, _, _, rfl⟩
      by_cases hE : E = 0
      · subst hE
        obtain ⟨k, n', p', _, rfl, rfl, e4, e5, e6, _, _⟩ := (Sz.dec_shape _ _ _ _ _ hd).2 rfl
        have e5' : p' ≤ stop := by simp at e5; omega
        by_cases h4 : (stop : Int) - p' < n'
        · refine (head_more R s c a stop deep A aS aF w₀ w h g hw hR hc hdp hs hlt hst h2 n' p' hd e6 e5' h4).mono fun e w' ⟨he, hb, ht⟩ => ⟨hb, ht, ?_⟩
          unfold headT
          rw [if_neg h1, hg, if_neg h2, hd]
          simp only [ne_eq, not_true_eq_false, if_false]
          rw [if_pos h4]
          exact ⟨_, he, by simp, .inr ⟨_, rfl, .inl ⟨rfl, rfl⟩⟩⟩
        · refine (head_ok R s c a stop deep A aS aF w₀ w h g hw hR hc hdp hs hlt hst h2 n' p' hd e6 e5' h4).mono fun e w' ⟨he, hb, ht⟩ => ⟨hb, ht, ?_⟩
          unfold headT
          rw [if_neg h1, hg, if_neg h2, hd]
          simp only [ne_eq, not_true_eq_false, if_false]
          rw [if_neg h4]
          exact he
      · refine (head_len R s c a stop deep A aS aF w₀ w h g hw hR hc hdp hs hlt hst h2 n p E hd hE).mono fun e w' ⟨he, hb, ht⟩ => ⟨hb, ht, ?_⟩
        unfold headT
        rw [if_neg h1, hg, if_neg h2, hd]
        simp only [ne_eq]
        rw [if_pos hE]
        exact ⟨_, he, by simp, .inl rfl⟩
end Go.Proofs.YthibodkemnkjeaaDoor
