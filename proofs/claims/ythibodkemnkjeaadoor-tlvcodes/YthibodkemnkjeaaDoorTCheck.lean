/-
  What tlv.check answers. Conditions: the package-level variables hold what the program's text lays.
-/
import Derived.Test.YthibodkemnkjeaaDoorTPass
import Derived.Test.YthibodkemnkjeaaDoorTHead
import Derived.Scope
namespace Go.Proofs.YthibodkemnkjeaaDoor
open Go.RowKit Tv T Go.Shelf
attribute [local go_sem] Oper.semAt_some

theorem all_any (t : Int) (d : ByteArray) (a : Option Addr) (len cap : Nat) (w : World) :
    Calls Tryd.prog 42 #[.agg #[.int .i64 t, .string d, .slice a len cap]] w fun e w' => e = .returned (.func (.func 55) #[] #[.pointer (some ⟨w.heap.size, 0, none⟩)]) ∧ w' = w.alloc (.cells #[.int .i64 t, .string d, .slice a len cap] 24) := by
  go_enter Tryd.func42, Tryd.ntmps42
  go_wp2
  go_ret
  exact ⟨rfl, rfl⟩

theorem Node.small : ∀ {n : Nat} {W : World} {p : Nat → Prop} {v : Value} {T : Tr n}, Node n W p v T → small n T = true
  | 0, _, _, _, t, _ => Empty.elim t
  | n + 1, W, p, v, T, h => by
    obtain ⟨a, cap, _, hd, _, hk⟩ := h.shape
    unfold Tv.small
    simp only [Bool.and_eq_true, decide_eq_true_eq, List.all_eq_true]
    refine ⟨hd, fun x hx => ?_⟩
    obtain ⟨i, hi, rfl⟩ := List.getElem_of_mem hx
    obtain ⟨g, off, _, _, t, d, a', l', c', _, _, _, hN⟩ := hk i hi
    exact hN.small

/-- what check leaves. -/
def CheckPost (A : Ads) (w : World) (b : Bool) (e : Ending) (w' : World) : Prop := Below w.heap.size w w' ∧ if b = true then e = .returned .nilIface else ∃ v, e = .returned v ∧ IsErr A v 21

/-- the four boxes of check. -/
abbrev four (w : World) (t : Int) (d : ByteArray) (a : Option Addr) (len cap : Nat) : World := (((w.alloc (.cells #[.int .i64 t, .string d, .slice a len cap] 24)).alloc (.cells #[.nilIface] 48)).alloc (.cells #[.int .i64 0] 3)).alloc (.cells #[.int .i64 t, .string d, .slice a len cap] 24)
theorem four_below (w : World) (t : Int) (d : ByteArray) (a : Option Addr) (len cap : Nat) : Below w.heap.size w (four w t d a len cap) := ((((Below.refl _ _).alloc (Nat.le_refl _) _).alloc (by simp) _).alloc (by simp; omega) _).alloc (by simp; omega) _
theorem four_at (w : World) (t : Int) (d : ByteArray) (a : Option Addr) (len cap : Nat) : (four w t d a len cap).heap[w.heap.size]? = some (.cells #[.int .i64 t, .string d, .slice a len cap] 24 (0, 0)) ∧ (four w t d a len cap).heap[w.heap.size + 1]? = some (.cells #[.nilIface] 48 (0, 0)) ∧
    (four w t d a len cap).heap[w.heap.size + 1 + 1]? = some (.cells #[.int .i64 0] 3 (0, 0)) ∧ (four w t d a len cap).heap[w.heap.size + 1 + 1 + 1]? = some (.cells #[.int .i64 t, .string d, .slice a len cap] 24 (0, 0)) := by
  have h : (four w t d a len cap).heap = (((w.heap.push (.cells #[.int .i64 t, .string d, .slice a len cap] 24)).push (.cells #[.nilIface] 48)).push (.cells #[.int .i64 0] 3)).push (.cells #[.int .i64 t, .string d, .slice a len cap] 24) := rfl
  refine ⟨?_, ?_, ?_, ?_⟩
  · rw [Below.heap_alloc _ _ _ (by simp; omega), Below.heap_alloc _ _ _ (by simp; omega), Below.heap_alloc _ _ _ (by simp)]; exact World.alloc_heap_new w _
  · rw [h]; simp [Array.getElem_push]
  · rw [h]; simp [Array.getElem_push]
  · rw [h]; simp [Array.getElem_push]

/-- what the loop keeps; the box of what is wrong holds y. -/
structure InvC (w : World) (t : Int) (d : ByteArray) (a : Option Addr) (len cap : Nat) (y : Value) (c : Int) (W : World) : Prop where
  b0 : W.heap[w.heap.size]? = some (.cells #[.int .i64 t, .string d, .slice a len cap] 24 (0, 0))
  b1 : W.heap[w.heap.size + 1]? = some (.cells #[y] 48 (0, 0))
  b2 : W.heap[w.heap.size + 1 + 1]? = some (.cells #[.int .i64 c] 3 (0, 0))
  bel : Below w.heap.size w W
  sz : w.heap.size + 4 ≤ W.heap.size
theorem InvC.ext {w : World} {t : Int} {d : ByteArray} {a : Option Addr} {len cap : Nat} {y : Value} {c : Int} {A B : World} (h : InvC w t d a len cap y c A) (hb : ∀ x, x < w.heap.size + 3 → B.heap[x]? = A.heap[x]?) (ho : B.os = A.os ∧ B.tape = A.tape ∧ B.output = A.output) (hz : A.heap.size ≤ B.heap.size) : InvC w t d a len cap y c B :=
  ⟨(hb _ (by omega)).trans h.b0, (hb _ (by omega)).trans h.b1, (hb _ (by omega)).trans h.b2, ⟨ho.1.trans h.bel.os, ho.2.1.trans h.bel.tape, ho.2.2.trans h.bel.output, Nat.le_trans h.bel.size hz, fun k hk => (hb k (by omega)).trans (h.bel.block k hk)⟩, Nat.le_trans h.sz hz⟩
theorem InvC.but {w : World} {t : Int} {d : ByteArray} {a : Option Addr} {len cap : Nat} {y : Value} {c : Int} {A B : World} {l : Nat} (h : InvC w t d a len cap y c A) (hl : w.heap.size + 4 ≤ l) (hb : But l A B) : InvC w t d a len cap y c B :=
  h.ext (fun x hx => hb.block x (by have := h.sz; omega) (by omega)) ⟨hb.os, hb.tape, hb.output⟩ hb.size
theorem InvC.below {w : World} {t : Int} {d : ByteArray} {a : Option Addr} {len cap : Nat} {y : Value} {c : Int} {A B : World} (h : InvC w t d a len cap y c A) (hb : Below A.heap.size A B) : InvC w t d a len cap y c B :=
  h.ext (fun x hx => hb.block x (by have := h.sz; omega)) ⟨hb.os, hb.tape, hb.output⟩ hb.size
theorem InvC.cells {w : World} {t : Int} {d : ByteArray} {a : Option Addr} {len cap : Nat} {y : Value} {c : Int} {A : World} (h : InvC w t d a len cap y c A) : (A.cell? ⟨w.heap.size, 0, none⟩ = some (.int .i64 t) ∧ A.cell? ⟨w.heap.size, 1, none⟩ = some (.string d) ∧ A.cell? ⟨w.heap.size, 2, none⟩ = some (.slice a len cap)) ∧ (A.cell? ⟨w.heap.size + 1, 0, none⟩ = some y ∧ A.cell? ⟨w.heap.size + 1 + 1, 0, none⟩ = some (.int .i64 c)) ∧ A.frozen? ⟨w.heap.size + 1, 0, none⟩ = false ∧ A.frozen? ⟨w.heap.size + 1 + 1, 0, none⟩ = false := by
  refine ⟨(cells3 h.b0).1, ⟨?_, ?_⟩, ?_, ?_⟩ <;> simp [World.cell?, World.frozen?, h.b1, h.b2]
theorem InvC.setWhy {w : World} {t : Int} {d : ByteArray} {a : Option Addr} {len cap : Nat} {y : Value} {c : Int} {A : World} (h : InvC w t d a len cap y c A) (y' : Value) : InvC w t d a len cap y' c (A.setCell ⟨w.heap.size + 1, 0, none⟩ y') :=
  ⟨(Below.heap_setCell _ _ _ _ (by show w.heap.size ≠ w.heap.size + 1; omega)).trans h.b0, heap_setCell_same A _ 0 _ _ _ h.b1, (Below.heap_setCell _ _ _ _ (by show w.heap.size + 1 + 1 ≠ w.heap.size + 1; omega)).trans h.b2, h.bel.setCell (p := ⟨w.heap.size + 1, 0, none⟩) (by show _ ≤ w.heap.size + 1; omega) _, by rw [size_setCell]; exact h.sz⟩
theorem InvC.setAt {w : World} {t : Int} {d : ByteArray} {a : Option Addr} {len cap : Nat} {y : Value} {c : Int} {A : World} (h : InvC w t d a len cap y c A) (c' : Int) : InvC w t d a len cap y c' (A.setCell ⟨w.heap.size + 1 + 1, 0, none⟩ (.int .i64 c')) :=
  ⟨(Below.heap_setCell _ _ _ _ (by show w.heap.size ≠ w.heap.size + 1 + 1; omega)).trans h.b0, (Below.heap_setCell _ _ _ _ (by show w.heap.size + 1 ≠ w.heap.size + 1 + 1; omega)).trans h.b1, heap_setCell_same A _ 0 _ _ _ h.b2, h.bel.setCell (p := ⟨w.heap.size + 1 + 1, 0, none⟩) (by show _ ≤ w.heap.size + 1 + 1; omega) _, by rw [size_setCell]; exact h.sz⟩

/-- what a round leaves that goes no further. -/
def OutC (A : Ads) (w : World) (t : Int) (d : ByteArray) (a : Option Addr) (len cap : Nat) (cd : Code) (W : World) : Prop := cd = .exit 0 ∧ ∃ ad c, (ad = A.no ∨ ad = A.ki) ∧ InvC w t d a len cap (sentV ad) c W

set_option maxHeartbeats 1000000 in
/-- the iterator's own body. -/
theorem all1_any (n l Bx : Nat) (T : Tr (n + 1)) (X : Nat → Prop) (J : Nat → World → Prop) (Jx : World → Prop) (hJ : ∀ c A o, J c A → J c (A.alloc o)) (hJX : ∀ c A k, J c A → X k → k < A.heap.size)
    (hY : ∀ c x W m, J c W → YieldAt Fence.wide m Tryd.prog l #[.int .i64 x.deep, .agg x.cs] W fun e W2 => (e = .returned (.bool true) ∧ good c x ∧ J (c + 1) W2 ∧ Low X W W2) ∨ (e = .returned (.bool false) ∧ ¬ good c x ∧ Jx W2))
    (W : World) (a : Option Addr) (cap : Nat) (hN : Node (n + 1) W (fun b => ¬ X b) (.agg #[.int .i64 (tag T), .string (dat T), .slice a (kids T).length cap]) T) (hn : n + 1 ≤ 100) (h0 : J 0 W) (hB : W.heap[Bx]? = some (.cells #[.int .i64 (tag T), .string (dat T), .slice a (kids T).length cap] 24 (0, 0))) :
    CallsIn Fence.wide 6 Tryd.prog 55 #[.func (.yield l) #[] #[], .pointer (some ⟨Bx, 0, none⟩)] W fun e W' => (∃ v, e = .returned v) ∧ ((∃ c, okT (n + 1) 0 1 T = some c ∧ J c W') ∨ (okT (n + 1) 0 1 T = none ∧ Jx W')) := by
  have H := pass_any l X J Jx hJ hJX hY (n + 1) T 0 1 W _ hN h0 (by omega) hn
  obtain ⟨b0, b1, b2⟩ := (cells3 hB).1
  clear hY hN hB
  refine callsIn_of_wp Tryd.func55 rfl trivial ?_ rfl
  simp only [Tryd.ntmps55, List.size_toArray, List.length_cons, List.length_nil, Nat.reduceAdd, Nat.reduceSub, Array.replicate_succ, Array.replicate_zero, List.push_toArray, List.append_toArray, List.nil_append, List.cons_append]
  gi_wp2_with fail
  refine ⟨trivial, (callsIn_wide.2 H).mono ?_⟩
  rintro e W3 (⟨c2, rfl, hs2, hj4, _⟩ | ⟨rfl, hs2, hx⟩)
  · gi_wp2
    go_end0
    exact ⟨⟨_, rfl⟩, .inl ⟨c2, hs2, hj4⟩⟩
  · gi_wp2
    go_end0
    exact ⟨⟨_, rfl⟩, .inr ⟨hs2, hx⟩⟩

theorem below_putNew {B l : Nat} {a w : World} (h : Below B a w) (hl : B ≤ l) (o : Obj) : Below B a (w.putObj l o) :=
  ⟨h.os, h.tape, h.output, by rw [World.putObj_size]; exact h.size, fun k hk => (World.putObj_heap_other (by omega)).trans (h.block k hk)⟩
/-- the activation of check behind the loop. -/
abbrev actD (m : Nat) (t : Int) (d : ByteArray) (a : Option Addr) (len cap : Nat) (L : Int) (x33 : Value) : Act :=
  { defers := [{ target := .collected (m + 4), args := #[] }], tmps := #[.agg #[.int .i64 t, .string d, .slice a len cap], .pointer (some ⟨m, 0, none⟩), .nilIface, .pointer (some ⟨m + 1, 0, none⟩), .pointer (some ⟨m + 1 + 1, 0, none⟩), undef, undef, .agg #[.int .i64 t, .string d, .slice a len cap],
      .func (.func 55) #[] #[.pointer (some ⟨m + 1 + 1 + 1, 0, none⟩)], undef, undef, undef, undef, undef, undef, undef, undef, undef, undef, undef, undef, undef, undef, undef, undef, undef, .nilIface, .bool true, .bool true, .agg #[.int .i64 t, .string d, .slice a len cap], .int .i64 L, .bool true, .bool true, x33, undef, undef, undef, undef, undef, undef] }
/-- the activation within a round of check. -/
abbrev actC (m : Nat) (t : Int) (d : ByteArray) (a : Option Addr) (len cap : Nat) (x5 x6 x9 x10 : Value) : Act :=
  { defers := [], tmps := #[.agg #[.int .i64 t, .string d, .slice a len cap], .pointer (some ⟨m, 0, none⟩), .nilIface, .pointer (some ⟨m + 1, 0, none⟩), .pointer (some ⟨m + 1 + 1, 0, none⟩), x5, x6, .agg #[.int .i64 t, .string d, .slice a len cap],
      .func (.func 55) #[] #[.pointer (some ⟨m + 1 + 1 + 1, 0, none⟩)], x9, x10, undef, undef, undef, undef, undef, undef, undef, undef, undef, undef, undef, undef, undef, undef, undef, undef, undef, undef, undef, undef, undef, undef, undef, undef, undef, undef, undef, undef, undef] }

set_option maxRecDepth 100000 in
set_option maxHeartbeats 2000000 in
theorem check_any (n : Nat) (T : Tr n) (A : Ads) (aS aF : Addr) (w : World) (p : Nat → Prop) (v : Value) (g : Gl A aS aF w) (hN : Node n w p v T) (hn : n ≤ 100) :
    Calls Tryd.prog 28 #[v] w (CheckPost A w (right T)) := by
  cases n with
  | zero => exact Empty.elim T
  | succ n =>
  obtain ⟨g0, off, cap, a, hv, hd, hk, hks⟩ := kidsAt hN
  subst hv
  have hmx : Tryd.prog.follows .mixedOrders = true := by kernel_rfl
  refine (callsIn_wide (n := 7)).1 ?_
  refine callsIn_of_wp_marks Tryd.func28 rfl trivial ?_ rfl
  simp only [Tryd.ntmps28, List.size_toArray, List.length_cons, List.length_nil, Nat.reduceAdd, Nat.reduceSub, Array.replicate_succ, Array.replicate_zero, List.push_toArray, List.append_toArray, List.nil_append, List.cons_append]
  refine wpIn_wide.2 ?_
  go_wp2
  refine wp_scope_straight ?_
  go_wp2
  refine wp_label ?_
  go_wp2_with (go_at_call 42; refine (all_any _ _ _ _ _ _).mono ?_; rintro e w' ⟨rfl, rfl⟩)
  change Code.wp _ _ _ _ (four w (tag T) (dat T) a (kids T).length cap)
  obtain ⟨q0, q1, q2, q3⟩ := four_at w (tag T) (dat T) a (kids T).length cap
  have hB0 := four_below w (tag T) (dat T) a (kids T).length cap
  have hz : (four w (tag T) (dat T) a (kids T).length cap).heap.size = w.heap.size + 4 := by simp
  have hInv : InvC w (tag T) (dat T) a (kids T).length cap .nilIface 0 (four w (tag T) (dat T) a (kids T).length cap) := ⟨q0, q1, q2, hB0, by omega⟩
  generalize four w (tag T) (dat T) a (kids T).length cap = W0 at *
  clear q0 q1 q2 hB0
  refine (wpIn_wide (n := 7)).1 ?_
  refine range_mine (α := Visit) (σ := Nat) (gf := 55) (lb := #[.pointer (some ⟨w.heap.size + 1 + 1 + 1, 0, none⟩)]) rfl (enters_of Tryd.func55 (by kernel_rfl) rfl)
    (fun x => #[.int .i64 x.deep, .agg x.cs]) (fun _ => rfl) (Low fun k => k = w.heap.size + 1 ∨ k = w.heap.size + 1 + 1 ∨ k = w.heap.size + 5) (fun A B => Below A.heap.size A B)
    (fun c W => InvC w (tag T) (dat T) a (kids T).length cap .nilIface c W ∧ c ≤ 200)
    (fun cd _ W => OutC A w (tag T) (dat T) a (kids T).length cap cd W)
    (fun _ _ _ => True) (fun c _ => c + 1) 0
    (fun c _ => okT (n + 1) 0 1 T = some c) (fun _ => okT (n + 1) 0 1 T = none) good (fun c x => ¬ good c x)
    (fun x => x.cs) 24 (fun x B => actC w.heap.size (tag T) (dat T) a (kids T).length cap (.int .i64 x.deep) (.pointer (some ⟨B, 0, none⟩)) (.int .i64 x.deep) (.agg x.cs))
    Low.trans ?_ ?_ ?_ ?_ ?_ (fun _ _ _ _ _ h => h) (fun _ _ _ _ h => h) ⟨hInv, by omega⟩ ?iter ?assign ?body ?done ?stop
  · intro X Y hxy; rw [hz] at hxy; exact ⟨hxy.size, fun k hk hn => hxy.block k hk (fun e => hn (.inr (.inr (by omega))))⟩
  · intro X Y hxy hsz; rw [hz] at hsz ⊢; exact ⟨hxy.block _ (by omega), hxy.block _ (by omega)⟩
  · intro c X Y hxy h; rw [hz] at hxy; exact ⟨h.1.but (by omega) hxy, h.2⟩
  · intro c X Y hxy _ h; exact ⟨h.1.below hxy, h.2⟩
  · rintro cd c X Y hxy ⟨rfl, ad, c', h1, h2⟩; rw [hz] at hxy; exact ⟨rfl, ad, c', h1, h2.but (by omega) hxy⟩
  case iter =>
    intro W hbW hzW J Jx hJ hJI hY h0
    rw [hz] at hbW hzW hY ⊢
    have hNW : Node (n + 1) W (fun b => ¬ (b = w.heap.size + 1 ∨ b = w.heap.size + 1 + 1 ∨ b = w.heap.size + 5)) (.agg #[.int .i64 (tag T), .string (dat T), .slice a (kids T).length cap]) T := by
      have h1 : Node (n + 1) w (fun b => b < w.heap.size) (.agg #[.int .i64 (tag T), .string (dat T), .slice a (kids T).length cap]) T := hN.imp fun b _ hl => hl
      exact ((h1.below hInv.bel).of fun b hb hl => hbW.block b hl (by omega)).imp fun b hb _ => by omega
    refine (all1_any n (w.heap.size + 4 + 1) (w.heap.size + 1 + 1 + 1) T _ J (fun W => ∃ c, Jx c W) (fun c A o h => hJ c A _ ((Below.refl _ _).alloc (Nat.le_refl _) o) h)
      (fun c X k hX hk' => by have := (hJI c X hX).2; rw [hz] at this; omega)
      (fun c x W' m hj => (hY c x W' m hj trivial).mono fun e W2 h => h.imp id fun ⟨h1, h2, h3⟩ => ⟨h1, h2, _, h3⟩) W a cap hNW hn h0 ((hbW.block _ (by omega) (by omega)).trans q3)).mono ?_
    rintro e W' ⟨h1, h2⟩
    refine ⟨h1, h2.imp (fun ⟨c, h3, h4⟩ => ⟨c, h3, h4⟩) (fun ⟨h3, c, h4⟩ => ⟨c, h3, h4⟩)⟩
  case assign =>
    intro c x W K _ _ hK
    gi_wp2
    exact hK
  case body =>
    rintro c ⟨xd, xt, xs, xa, xn, xc⟩ B W ⟨hI, hc⟩ _ hB hbox
    go_light
    dsimp only at hbox ⊢
    obtain ⟨_, ⟨y1, y2⟩, f1, f2⟩ := hI.cells
    obtain ⟨e0, e1, e2⟩ := (cells3 hbox).1
    have hG := g.below hI.bel
    have gno := hG.t.no
    have hc1 : (c : Int) ≤ 200 := by omega
    by_cases h200 : c = 200
    · have t1 : ((c : Int) == 200) = true := beq_iff_eq.2 (by omega)
      have H200 := hide h200
      clear h200
      gi_wp2
      try rw [hz]
      have h200 := unhide H200
      exact ⟨fun h => by have := h.1; omega, ⟨Below.heap_setCell _ _ _ _ (by show w.heap.size + 4 ≠ w.heap.size + 1; omega), Below.heap_setCell _ _ _ _ (by show w.heap.size + 4 + 1 ≠ w.heap.size + 1; omega)⟩, rfl, A.no, c, .inl rfl, hI.setWhy _⟩
    · have t1 : ((c : Int) == 200) = false := beq_eq_false_iff_ne.2 (by omega)
      by_cases h12 : 12 < xd
      · gi_wp2
        try rw [hz]
        exact ⟨fun h => by have := h.2.1; dsimp only at this; omega, ⟨Below.heap_setCell _ _ _ _ (by show w.heap.size + 4 ≠ w.heap.size + 1; omega), Below.heap_setCell _ _ _ _ (by show w.heap.size + 4 + 1 ≠ w.heap.size + 1; omega)⟩, rfl, A.no, c, .inl rfl, hI.setWhy _⟩
      · have H := fits_any xt xs xa xn xc W
        cases hf : fitB xt xs.size xn
        · rw [hf] at H
          have hK := hide fun (w' : World) (hb : Below W.heap.size W w') => (hI.below hb)
          have hGk := hide fun (w' : World) (hb : Below W.heap.size W w') => ((g.below (hI.below hb).bel).t.ki)
          have hno : ¬ good c ⟨xd, xt, xs, xa, xn, xc⟩ := fun h => by have := h.2.2; dsimp only at this; rw [hf] at this; cases this
          have Hno := hide hno
          clear hno hI hf hG gno
          gi_wp2_with fail
          refine ⟨trivial, (CallsIn.inRound _ (callsIn_wide.2 H)).mono ?_⟩
          rintro e w' ⟨rfl, hb⟩
          have hI2 := (unhide hK) w' hb
          have gki := (unhide hGk) w' hb
          obtain ⟨_, ⟨z1, z2⟩, g1, g2⟩ := hI2.cells
          have HI2 := hide hI2
          have Hb := hide hb
          clear hI2 hb H
          gi_wp2
          try rw [hz]
          have hzW := (unhide Hb).size
          refine ⟨unhide Hno, ⟨(Below.heap_setCell _ _ _ _ (by show w.heap.size + 4 ≠ w.heap.size + 1; omega)).trans ((unhide Hb).block _ ?_), (Below.heap_setCell _ _ _ _ (by show w.heap.size + 4 + 1 ≠ w.heap.size + 1; omega)).trans ((unhide Hb).block _ ?_)⟩, rfl, A.ki, c, .inr rfl, (unhide HI2).setWhy _⟩
          · have := (Array.getElem?_eq_some_iff.1 hbox).1; omega
          · have := (Array.getElem?_eq_some_iff.1 hbox).1; omega
        · rw [hf] at H
          have hK := hide fun (w' : World) (hb : Below W.heap.size W w') => (hI.below hb)
          have hgo : good c ⟨xd, xt, xs, xa, xn, xc⟩ := ⟨by omega, by dsimp only; omega, hf⟩
          have Hgo := hide hgo
          clear hgo hI hf hG gno
          gi_wp2_with fail
          refine ⟨trivial, (CallsIn.inRound _ (callsIn_wide.2 H)).mono ?_⟩
          rintro e w' ⟨rfl, hb⟩
          have hI2 := (unhide hK) w' hb
          obtain ⟨_, ⟨z1, z2⟩, g1, g2⟩ := hI2.cells
          have HI2 := hide hI2
          have Hb := hide hb
          clear hI2 hb H
          gi_wp2
          try rw [hz]
          have hzW := (unhide Hb).size
          have hBl := (Array.getElem?_eq_some_iff.1 hbox).1
          refine ⟨unhide Hgo, ⟨(Below.heap_setCell _ _ _ _ (by show w.heap.size + 4 ≠ w.heap.size + 1 + 1; omega)).trans ((unhide Hb).block _ (by omega)), (Below.heap_setCell _ _ _ _ (by show w.heap.size + 4 + 1 ≠ w.heap.size + 1 + 1; omega)).trans ((unhide Hb).block _ (by omega))⟩, ⟨by rw [size_setCell]; exact hzW, fun k hk hn => (Below.heap_setCell _ _ _ _ (by show k ≠ w.heap.size + 1 + 1; omega)).trans ((unhide Hb).block k hk)⟩, (unhide HI2).setAt _, by omega⟩
  case done =>
    rintro c W hok ⟨hI, hc⟩ hK
    rw [hz] at hK
    have hrt : Tv.shape (n + 1) 12 T = true ∧ count (n + 1) T ≤ 200 := by
      have := okT_right (n + 1) T
      rw [hok] at this
      simpa using this.symm
    have hsm := hN.small
    have hle := enc_small (n + 1) T hsm
    have hle2 : (enc (n + 1) T).length ≤ 16000000 := by omega
    have M := measure_any (n + 1) T W p _ (hN.below hI.bel) hle2
    obtain ⟨⟨y0, y1, y2⟩, ⟨z1, z2⟩, f1, f2⟩ := hI.cells
    have hKb := hide fun (w' : World) (hb : Below W.heap.size W w') => hI.below hb
    have hKd := hide fun (w' : World) (hb : Below W.heap.size W w') => (hb.block _ (Array.getElem?_eq_some_iff.1 hK).1).trans hK
    have hG := hide fun (w' : World) (hb : Below W.heap.size W w') => (g.below (hI.below hb).bel).t.la
    by_cases h4 : 4000 < (enc (n + 1) T).length
    · have hr : right T = false := by unfold right; simp; omega
      have h4' : (4000 : Int) < (enc (n + 1) T).length := by omega
      rw [hr]
      clear hrt hsm hle hI hN
      go_wp2_with fail
      refine M.mono ?_
      rintro e w' ⟨rfl, hb⟩
      have hI2 := (unhide hKb) w' hb
      have hK2 := (unhide hKd) w' hb
      have gla := (unhide hG) w' hb
      obtain ⟨_, ⟨u1, u2⟩, f3, f4⟩ := hI2.cells
      have hgl := lt_of_cell g.t.la
      have gla' : ∀ v, (w'.setCell ⟨w.heap.size + 1 + 1, 0, none⟩ v).cell? ⟨3, 0, none⟩ = some (sentV A.la) := fun v => by rw [World.cell?_setCell_far _ _ _ _ (by simp at hgl ⊢; omega)]; exact gla
      have HI2 := hide hI2
      have HK2 := hide hK2
      clear hI2 hb M hK2 hgl
      go_wp2
      refine wp_mono (Q := fun e a1 w1 => match e with | .normal => a1 = actD w.heap.size (tag T) (dat T) a (kids T).length cap (enc (n + 1) T).length (sentV A.la) ∧ w1 = ((w'.setCell ⟨w.heap.size + 1 + 1, 0, none⟩ (.int .i64 0)).setCell ⟨w.heap.size + 1, 0, none⟩ (sentV A.la)).drew | _ => False) ?_ ?_
      · go_region
        all_goals exact ⟨rfl, rfl⟩
      intro e a1 w5 hq
      cases e with
      | normal =>
        obtain ⟨rfl, hw5⟩ := hq
        have hI5 : InvC w (tag T) (dat T) a (kids T).length cap (sentV A.la) 0 w5 := by
          rw [hw5]
          exact (((unhide HI2).setAt 0).setWhy (sentV A.la)).ext (fun _ _ => rfl) ⟨rfl, rfl, rfl⟩ (Nat.le_refl _)
        have hK5 : w5.heap[w.heap.size + 4]? = some (.deferred (some [])) := by
          rw [hw5]
          show ((w'.setCell ⟨w.heap.size + 1 + 1, 0, none⟩ (.int .i64 0)).setCell ⟨w.heap.size + 1, 0, none⟩ (sentV A.la)).heap[w.heap.size + 4]? = _
          rw [Below.heap_setCell _ _ _ _ (by show w.heap.size + 4 ≠ w.heap.size + 1; omega), Below.heap_setCell _ _ _ _ (by show w.heap.size + 4 ≠ w.heap.size + 1 + 1; omega)]
          exact unhide HK2
        clear hw5 gla gla' u1 u2 f3 f4
        obtain ⟨_, ⟨u1, u2⟩, _, _⟩ := hI5.cells
        have HI5 := hide hI5
        have HK5 := hide hK5
        clear hI5 hK5
        go_wp2
        refine ⟨by simp, .inl ⟨_, _, rfl, run_takeDeferred (unhide HK5), ?_⟩⟩
        refine ⟨_, results_tmp rfl _ _ _, below_putNew (unhide HI5).bel (by omega) _, ?_⟩
        rw [hr]
        exact ⟨_, rfl, 0, _, rfl, .inr ⟨_, rfl, .inr (.inr (.inr ⟨.inr (.inr rfl), rfl⟩))⟩⟩
      | _ => exact hq.elim
    · have hr : right T = true := by unfold right; simp [hrt]; omega
      have h4' : ¬ (4000 : Int) < (enc (n + 1) T).length := by omega
      rw [hr]
      clear hrt hsm hle hI hN
      go_wp2_with fail
      refine M.mono ?_
      rintro e w' ⟨rfl, hb⟩
      have hI2 := (unhide hKb) w' hb
      have hK2 := (unhide hKd) w' hb
      obtain ⟨_, ⟨u1, u2⟩, _, _⟩ := hI2.cells
      have HI2 := hide hI2
      clear hI2 hb M
      have HK2 := hide hK2
      clear hK2
      go_wp2
      refine ⟨by simp, .inl ⟨_, _, rfl, run_takeDeferred (unhide HK2), ?_⟩⟩
      refine ⟨_, results_tmp rfl _ _ _, below_putNew (unhide HI2).bel (by omega) _, ?_⟩
      rw [hr]
      rfl
  case stop =>
    rintro cd c W hno ⟨rfl, ad, c', had, hI⟩ hK
    rw [hz] at hK
    have hr : right T = false := by
      have := okT_right (n + 1) T
      rw [hno] at this
      unfold right
      rw [← this]
      rfl
    obtain ⟨_, ⟨u1, u2⟩, _, _⟩ := hI.cells
    have HI := hide hI
    have HK := hide hK
    clear hI hK
    refine wpIn_exit ?_
    go_wp2
    refine ⟨by simp, .inl ⟨_, _, rfl, run_takeDeferred ((congrArg (fun x => W.heap[x]?) hz).trans (unhide HK)), ?_⟩⟩
    refine ⟨_, results_tmp rfl _ _ _, below_putNew (unhide HI).bel (by omega) _, ?_⟩
    rw [hr]
    exact ⟨_, rfl, c', _, rfl, .inr ⟨_, rfl, .inr (.inr (.inr ⟨had.imp id .inl, rfl⟩))⟩⟩
end Go.Proofs.YthibodkemnkjeaaDoor
