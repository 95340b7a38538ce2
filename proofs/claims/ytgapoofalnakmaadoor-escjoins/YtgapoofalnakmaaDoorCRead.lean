/-
  What code.coder.read answers: the text that has some signs. Conditions: the package-level variables hold what the program's text lays ('Glob').
-/
import Derived.Test.YtgapoofalnakmaaDoorCPrint
import Derived.Test.YtgapoofalnakmaaDoorCLaws
import Derived.Test.YtgapoofalnakmaaDoorRound
namespace Go.Proofs.YtgapoofalnakmaaDoor.C
open Go Go.RowKit Go.Shelf Cd
attribute [local go_sem] Oper.semAt_some

/-- a post that holds where nothing leaves. -/
def only (Q : Exit → Act → World → Prop) : Exit → Act → World → Prop
  | .normal, a, w => Q .normal a w
  | _, _, _ => False
/-- reads, one by one; shut, so that nothing looks ahead. -/
structure Wst (P : Program) (ops : Array Oper) (w : World) (Q : Act → Prop) (l : List Oper) (a : Act) : Prop where
  out : wpStill P ops w Q l a
theorem wst_do {P : Program} {ops : Array Oper} {w : World} {Q : Act → Prop} {a : Act} {o : Oper} {rest : List Oper} (hg : Region.wanted o (yielded ops a.tmps) = true)
    (h : ∀ K : Act → Prop, Shut (∀ a, Wst P ops w Q rest a → K a) → o.still P a w K) : Wst P ops w Q (o :: rest) a :=
  ⟨wpStill_step fun K hK => by rw [if_pos hg]; exact h K (fun a h => hK a h.out)⟩
theorem wst_skip {P : Program} {ops : Array Oper} {w : World} {Q : Act → Prop} {a : Act} {o : Oper} {rest : List Oper} (hg : Region.wanted o (yielded ops a.tmps) = false)
    (h : Wst P ops w Q rest (a.put o.dst undef)) : Wst P ops w Q (o :: rest) a :=
  ⟨wpStill_step fun K hK => by rw [if_neg (by rw [hg]; simp)]; exact hK _ h.out⟩
theorem wst_nil {P : Program} {ops : Array Oper} {w : World} {Q : Act → Prop} {a : Act} (h : Q a) : Wst P ops w Q [] a := ⟨wpStill_nil h⟩
theorem regionIn_tail_n {P : Program} {Q : Exit → Act → World → Prop} {lp m id : Nat} {a : Act} {w : World} {l : List Oper} (k : Nat) (hm : P.follows .mixedOrders = true) (hB : Region.lexTailB .any l.toArray k = true) (hd : noDefer l = true)
    (h : Wst P l.toArray w.drew (fun a' => wpList P l.toArray (only Q) (l.drop k) a' w.drew) (l.take k) a) : (Code.region id l.toArray true).wpIn (Fence.wide.inRound lp) m P Q a w :=
  wpIn_mono (regionIn_tail k hm hB hd (by rintro ⟨a, w, h⟩; exact h) h.out) (fun e a w h => by cases e <;> first | exact h | exact h.elim)
theorem region_tail {P : Program} {Q : Exit → Act → World → Prop} {id : Nat} {a : Act} {w : World} {l : List Oper} (k : Nat) (hm : P.follows .mixedOrders = true) (hB : Region.lexTailB .any l.toArray k = true)
    (h : wpStill P l.toArray w.drew (fun a' => wpList P l.toArray Q (l.drop k) a' w.drew) (l.take k) a) : (Code.region id l.toArray true).wp P Q a w := wp_region_still_tail k hm hB h

theorem region_tail_n {P : Program} {Q : Exit → Act → World → Prop} {id : Nat} {a : Act} {w : World} {l : List Oper} (k : Nat) (hm : P.follows .mixedOrders = true) (hB : Region.lexTailB .any l.toArray k = true)
    (h : Wst P l.toArray w.drew (fun a' => wpList P l.toArray (only Q) (l.drop k) a' w.drew) (l.take k) a) : (Code.region id l.toArray true).wp P Q a w :=
  wp_mono (region_tail k hm hB h.out) (fun e a w h => by cases e <;> first | exact h | exact h.elim)

/-- what told does, at any kind. -/
def Tolds (k : Kd) : Prop := ∀ (B at_ : Nat) (s : ByteArray) (a : Ad) (w : World), Glob a w → Cod k w B → s.size ≤ k.wd → at_ ≤ 10000 →
    Calls Tryd.prog 80 #[.pointer (some ⟨B, 0, none⟩), .int .i64 at_, .string s] w (ToldPost k s.data.toList a w)
theorem tolds_B : Tolds kB := fun B at_ s a w g hc hs hat => by
  by_cases h : s.size < 4
  · exact told_short kB B at_ s a w g hc h (by decide) hat
  · exact toldB B at_ s a w g hc (by have : s.size ≤ 4 := hs; omega) hat nx_ok
theorem tolds_H : Tolds kH := fun B at_ s a w g hc hs hat => by
  by_cases h : s.size < 2
  · exact told_short kH B at_ s a w g hc h (by decide) hat
  · exact toldH B at_ s a w g hc (by have : s.size ≤ 2 := hs; omega) hat nh_ok

theorem lp_bound (k : Kd) (hm : ∀ x m, k.nm x = some m → m < 2 ^ k.bt) : ∀ (l : List UInt8) (i b c : Nat), (i + l.length) * k.bt ≤ 24 → b % 2 ^ (24 - k.bt * i) = 0 → b < 2 ^ 24 → ∀ b' c', lp k l i b c = some (b', c') → b' < 2 ^ 24 ∧ c' ≤ c + l.length
  | [], i, b, c, _, _, hb, b', c', h => by rw [lp] at h; cases h; exact ⟨hb, Nat.le_refl _⟩
  | x :: r, i, b, c, hi, hmd, hb, b', c', h => by
    have hi' : (i + 1 + r.length) * k.bt ≤ 24 := by rw [List.length_cons, ← Nat.add_assoc, Nat.add_right_comm] at hi; exact hi
    rw [lp] at h
    cases hx : k.nm x with
    | none =>
      rw [hx] at h
      dsimp only at h
      split at h
      · obtain ⟨h1, h2⟩ := lp_bound k hm r (i + 1) b c hi' (more_mod hmd) hb b' c' h
        exact ⟨h1, by rw [List.length_cons]; omega⟩
      · cases h
    | some n =>
      rw [hx] at h
      dsimp only at h
      split at h
      · have h6 : k.bt * (i + 1) ≤ 24 := by
          refine Nat.le_trans ?_ hi'
          rw [Nat.mul_comm]
          exact Nat.mul_le_mul_right _ (by omega)
        have e : 24 - k.bt * i = 24 - k.bt * (i + 1) + k.bt := by rw [Nat.mul_succ] at h6 ⊢; omega
        rw [e] at hmd
        obtain ⟨h1, h2⟩ := lp_bound k hm r (i + 1) _ (c + 1) hi' (put_mod b n _ _ hmd) (put_lt b n _ _ hmd (hm x n hx) hb (by rw [← e]; omega)) b' c' h
        exact ⟨h1, by rw [List.length_cons]; omega⟩
      · cases h
theorem tl_bound (k : Kd) (hm : ∀ x m, k.nm x = some m → m < 2 ^ k.bt) (hwt : k.wd * k.bt ≤ 24) (g : List UInt8) (hg : g.length ≤ k.wd) {b c : Nat} (h : tl k g = some (b, c)) : b < 16777216 ∧ c ≤ k.wd := by
  unfold tl at h
  split at h
  · cases h
  · cases hl : lp k g 0 0 0 with
    | none => rw [hl] at h; cases h
    | some r =>
      rw [hl, Option.bind_some] at h
      split at h
      · cases h
        have := lp_bound k hm g 0 0 0 (by rw [Nat.zero_add]; exact Nat.le_trans (Nat.mul_le_mul_right _ hg) hwt) (by simp) (by decide) b c hl
        exact ⟨this.1, by omega⟩
      · cases h
/-- the bytes of a piece, of pieces. -/
def one (k : Kd) {s : ByteArray} (x : Pc s) : Option (List UInt8) := stp k (!decide (x.p + k.wd < s.size)) (x.g k.wd).data.toList
def rds (k : Kd) {s : ByteArray} : List (Pc s) → Option (List UInt8)
  | [] => some []
  | x :: l => (one k x).bind fun t => (rds k l).map (t ++ ·)
/-- so much has been read. -/
def Rd (k : Kd) {s : ByteArray} (pre : List (Pc s)) (out : List UInt8) : Prop := out.length ≤ 3 * pre.length ∧ ∀ tail, rds k (pre ++ tail) = (rds k tail).map (out ++ ·)
theorem rd_nil (k : Kd) (s : ByteArray) : Rd k ([] : List (Pc s)) [] := ⟨Nat.le_refl _, fun tail => by simp⟩
theorem Rd.snoc {k : Kd} {s : ByteArray} {pre : List (Pc s)} {out t : List UInt8} {x : Pc s} (h : Rd k pre out) (hx : one k x = some t) (ht : t.length ≤ 3) : Rd k (pre ++ [x]) (out ++ t) := by
  refine ⟨by have := h.1; simp; omega, fun tail => ?_⟩
  rw [List.append_assoc, h.2, List.singleton_append, rds, hx, Option.bind_some, Option.map_map]
  congr 1
  funext l
  simp
theorem Rd.fail {k : Kd} {s : ByteArray} {pre : List (Pc s)} {out : List UInt8} {x : Pc s} (h : Rd k pre out) (hx : one k x = none) (tail : List (Pc s)) : rds k (pre ++ [x] ++ tail) = none := by
  rw [List.append_assoc, h.2, List.singleton_append, rds, hx]
  rfl

/-- what lies in memory while the groups are gone through. -/
structure Rin (B : Nat) (s : ByteArray) (w : World) (out : List UInt8) (v err : Value) (W : World) : Prop where
  bc : W.heap[w.heap.size]? = some (.cells #[.pointer (some ⟨B, 0, none⟩)] 65)
  bs : W.heap[w.heap.size + 1]? = some (.cells #[.string s] 9)
  bv : W.heap[w.heap.size + 2]? = some (.cells #[v] 44)
  be : W.heap[w.heap.size + 3]? = some (.cells #[err] 36)
  own : W.ownsRow (w.heap.size + 6) 5 1 v out.length (cells out)
  bel : Below w.heap.size w W
  size : w.heap.size + 6 ≤ W.heap.size
theorem Rin.cl {B : Nat} {s : ByteArray} {w W : World} {out : List UInt8} {v err : Value} (h : Rin B s w out v err W) :
    W.cell? ⟨w.heap.size, 0, none⟩ = some (.pointer (some ⟨B, 0, none⟩)) ∧ W.cell? ⟨w.heap.size + 1, 0, none⟩ = some (.string s) ∧ W.cell? ⟨w.heap.size + 2, 0, none⟩ = some v ∧ W.cell? ⟨w.heap.size + 3, 0, none⟩ = some err ∧ W.frozen? ⟨w.heap.size + 2, 0, none⟩ = false ∧ W.frozen? ⟨w.heap.size + 3, 0, none⟩ = false := by
  have h1 := h.bc
  have h2 := h.bs
  have h3 := h.bv
  have h4 := h.be
  simp [World.cell?, World.frozen?, h1, h2, h3, h4]
theorem Rin.grown {B : Nat} {s : ByteArray} {w W W' : World} {out : List UInt8} {v err : Value} {row : Option Nat} (h : Rin B s w out v err W) (hg : W.grownBy W' row) (hr : ∀ r, row = some r → w.heap.size + 6 ≤ r ∧ ∃ o, W.heap[r]? = some o ∧ o.isCells = false) : Rin B s w out v err W' := by
  have hz := h.size
  have hk : ∀ k, k < w.heap.size + 6 → W'.heap[k]? = W.heap[k]? := fun k hk => hg.block k (by omega) (fun e => by have := (hr k e.symm).1; omega)
  refine ⟨(hk _ (by omega)).trans h.bc, (hk _ (by omega)).trans h.bs, (hk _ (by omega)).trans h.bv, (hk _ (by omega)).trans h.be, h.own.kept hg ?_, ⟨hg.os.trans h.bel.os, hg.tape.trans h.bel.tape, hg.output.trans h.bel.output, Nat.le_trans h.bel.size hg.size, fun k hk' => (hk k (by omega)).trans (h.bel.block k hk')⟩, Nat.le_trans hz hg.size⟩
  rcases h.own.2 with ⟨rfl, _⟩ | ⟨g, cap, cur, rfl, _, hgb, _⟩
  · exact .inl rfl
  · refine .inr fun e' => ?_
    obtain ⟨_, o, ho, hc⟩ := hr g (by simpa [Value.ownBlock] using e'.symm)
    rw [hgb] at ho; cases ho; cases hc
theorem own_below {w w' : World} {b n : Nat} {v : Value} {xs : List Value} (h : w.ownsRow b 5 1 v n xs) (hb : Below w.heap.size w w') : w'.ownsRow b 5 1 v n xs :=
  h.kept (row := none) ⟨hb.os, hb.tape, hb.output, hb.size, fun k hk _ => hb.block k hk⟩ (by cases hv : v.ownBlock with | none => exact .inl rfl | some r => exact .inr (by simp))
theorem Rin.below {B : Nat} {s : ByteArray} {w W W' : World} {out : List UInt8} {v err : Value} (h : Rin B s w out v err W) (hb : Below W.heap.size W W') : Rin B s w out v err W' := by
  have hz := h.size
  have hk : ∀ k, k < w.heap.size + 6 → W'.heap[k]? = W.heap[k]? := fun k hk => hb.block k (by omega)
  exact ⟨(hk _ (by omega)).trans h.bc, (hk _ (by omega)).trans h.bs, (hk _ (by omega)).trans h.bv, (hk _ (by omega)).trans h.be, own_below h.own hb, h.bel.trans (hb.mono (by omega)), Nat.le_trans hz hb.size⟩
theorem Rin.drew {B : Nat} {s : ByteArray} {w W : World} {out : List UInt8} {v err : Value} (h : Rin B s w out v err W) : Rin B s w out v err W.drew := h.below (Below.refl _ _).drew
theorem Rin.setE {B : Nat} {s : ByteArray} {w W : World} {out : List UInt8} {v err : Value} (h : Rin B s w out v err W) (m : Value) : Rin B s w out v m (W.setCell ⟨w.heap.size + 3, 0, none⟩ m) := by
  have o : ∀ k, k ≠ w.heap.size + 3 → (W.setCell ⟨w.heap.size + 3, 0, none⟩ m).heap[k]? = W.heap[k]? := fun k hk => Below.heap_setCell _ _ _ _ hk
  exact ⟨(o _ (by omega)).trans h.bc, (o _ (by omega)).trans h.bs, (o _ (by omega)).trans h.bv, heap_setCell_same W _ 0 _ _ _ h.be, ownsRow_setCell_below h.own (by show w.heap.size + 3 < _; omega) _, h.bel.setCell (by show w.heap.size ≤ w.heap.size + 3; omega) _, by simp; exact h.size⟩
theorem Rin.put {B : Nat} {s : ByteArray} {w W W' : World} {out more : List UInt8} {v v' err : Value} (h : Rin B s w out v err W) (hb : Bel (w.heap.size + 6) W W') (ho : W'.ownsRow (w.heap.size + 6) 5 1 v' (out.length + more.length) (cells out ++ cells more)) :
    Rin B s w (out ++ more) v' err (W'.setCell ⟨w.heap.size + 2, 0, none⟩ v') := by
  have hz := h.size
  have hk : ∀ k, k < w.heap.size + 6 → W'.heap[k]? = W.heap[k]? := fun k hk => hb.1.block k hk
  have o : ∀ k, k ≠ w.heap.size + 2 → (W'.setCell ⟨w.heap.size + 2, 0, none⟩ v').heap[k]? = W'.heap[k]? := fun k hk => Below.heap_setCell _ _ _ _ hk
  refine ⟨(o _ (by omega)).trans ((hk _ (by omega)).trans h.bc), (o _ (by omega)).trans ((hk _ (by omega)).trans h.bs), heap_setCell_same W' _ 0 _ _ _ ((hk _ (by omega)).trans h.bv), (o _ (by omega)).trans ((hk _ (by omega)).trans h.be), ?_, (h.bel.trans (hb.1.mono (by omega))).setCell (by show w.heap.size ≤ w.heap.size + 2; omega) _, by simp; have := hb.1.size; omega⟩
  rw [List.length_append, cells_append]
  exact ownsRow_setCell_below ho (by show w.heap.size + 2 < w.heap.size + 6; omega) _

theorem keepsO {W W' : World} (h : Below W.heap.size W W') : KeepsOthers W W' := ⟨h.size, fun k _ hk _ => (h.block k (Array.getElem?_eq_some_iff.1 hk).1).trans hk⟩
theorem own_slice {w : World} {base n : Nat} {v : Value} {xs : List Value} (h : w.ownsRow base 5 1 v n xs) : ∃ a l c, v = .slice a l c := by
  rcases h.2 with ⟨rfl, _⟩ | ⟨g, cap, _, rfl, _⟩
  · exact ⟨_, _, _, rfl⟩
  · exact ⟨_, _, _, rfl⟩
/-- what read leaves. -/
def ReadPost (k : Kd) (s : ByteArray) (a : Ad) (w : World) (e : Ending) (w' : World) : Prop := Below w.heap.size w w' ∧
  ((∃ t, rds k (all s k.wd) = some t ∧ e = .returned (.tuple #[.string ⟨t.toArray⟩, .nilIface])) ∨ (rds k (all s k.wd) = none ∧ ∃ v, e = .returned (.tuple #[.string ⟨#[]⟩, v]) ∧ IsErr a v))
def rinv (k : Kd) (B : Nat) (s : ByteArray) (w : World) (pre : List (Pc s)) (W : World) : Prop := ∃ out v, Rd k pre out ∧ Rin B s w out v .nilIface W
def rout (k : Kd) (B : Nat) (s : ByteArray) (a : Ad) (w : World) (cd : Code) (pre : List (Pc s)) (W : World) : Prop := cd = .exit 0 ∧ ∃ l x out v err, pre = l ++ [x] ∧ Rd k l out ∧ one k x = none ∧ IsErr a err ∧ Rin B s w out v err W

theorem finR {w V : World} {D : Nat} {tmps : Array Value} {v u : Value} {R : Ending → World → Prop} (hV : V.heap[D]? = some (.deferred (some []))) (hD : w.heap.size ≤ D) (hb : Below w.heap.size w V) (t4 : tmps.getD 4 undef = v) (t5 : tmps.getD 5 undef = u)
    (hp : ∀ V', Below w.heap.size w V' → R (.returned (.tuple #[v, u])) V') :
    Exit.noGoto (bodyPostM Fence.wide 3 Tryd.prog Tryd.f76 R) Exit.ret { tmps, defers := [{ target := .collected D, args := #[] }] } V := by
  refine ⟨by simp, .inl ⟨_, _, rfl, run_takeDeferred hV, ?_⟩⟩
  refine ⟨.tuple #[v, u], ?_, hp _ (putObj_below hb hD)⟩
  subst t4
  subst t5
  simp [results, Tryd.results76, go_sem]
set_option linter.unusedSimpArgs false in
set_option maxRecDepth 100000 in
set_option maxHeartbeats 4000000 in
theorem read_any (k : Kd) (hT : Tolds k) (B : Nat) (s : ByteArray) (a : Ad) (w : World) (g : Glob a w) (hc : Cod k w B) (hs : s.size ≤ 2000) (hk : 1 ≤ k.wd) (hk4 : k.wd ≤ 4) (hbt : k.bt ≤ 6) (hwt : k.wd * k.bt ≤ 24) (hnm : ∀ x m, k.nm x = some m → m < 2 ^ k.bt) :
    Calls Tryd.prog 76 #[.pointer (some ⟨B, 0, none⟩), .string s] w (ReadPost k s a w) := by
  have hwi := hc.wi
  have hlt := hc.lt
  refine (callsIn_wide (n := 3)).1 ?_
  refine callsIn_of_wp_marks Tryd.func76 rfl trivial ?_ rfl
  simp only [Tryd.ntmps76, List.size_toArray, List.length_cons, List.length_nil, Nat.reduceAdd, Nat.reduceSub, Array.replicate_succ, Array.replicate_zero, List.push_toArray, List.append_toArray, List.nil_append, List.cons_append]
  refine wpIn_wide.2 ?_
  have hwi2 : ((((w.alloc (.cells #[.pointer (some ⟨B, 0, none⟩)] 65)).alloc (.cells #[.string s] 9)).alloc (.cells #[.slice none 0 0] 44)).alloc (.cells #[.nilIface] 36)).cell? ⟨B, 193, none⟩ = some (.int .i64 k.wd) := by
    rw [World.cell?_alloc_lt _ _ _ (by simp; omega), World.cell?_alloc_lt _ _ _ (by simp; omega), World.cell?_alloc_lt _ _ _ (by simp; omega), World.cell?_alloc_lt _ _ _ hlt]; exact hwi
  have Hc := hide hc
  have Hg0 := hide g
  clear hwi hc
  have hmx : Tryd.prog.follows .mixedOrders = true := by kernel_rfl
  go_wp2
  refine wp_scope_straight ?_
  go_wp2
  refine wp_label ?_
  go_wp2
  refine region_tail 5 hmx (by kernel_rfl) ?_
  simp only [List.take_succ_cons, List.take_zero, List.drop_succ_cons, List.drop_zero]
  repeat still_step
  refine wpStill_nil ?_
  go_wp2_with fail
  refine (groups_any s k.wd _).mono ?_
  rintro e w' ⟨rfl, rfl⟩
  go_wp2
  obtain ⟨W0, hW0⟩ : ∃ W0, W0 = ((((((w.alloc (.cells #[.pointer (some ⟨B, 0, none⟩)] 65)).alloc (.cells #[.string s] 9)).alloc (.cells #[.slice none 0 0] 44)).alloc (.cells #[.nilIface] 36)).alloc (.cells #[.string s] 9)).alloc (.cells #[.int .i64 k.wd] 3)).drew := ⟨_, rfl⟩
  have hz : W0.heap.size = w.heap.size + 6 := by rw [hW0]; simp
  have hSt : Rin B s w [] (.slice none 0 0) .nilIface W0 := by
    rw [hW0]
    refine Rin.drew ?_
    refine ⟨?_, ?_, ?_, ?_, World.ownsRow_nil _ _ _ _, ?_, by simp⟩
    · rw [Below.heap_alloc _ _ _ (by simp <;> omega), Below.heap_alloc _ _ _ (by simp <;> omega), Below.heap_alloc _ _ _ (by simp <;> omega), Below.heap_alloc _ _ _ (by simp <;> omega), Below.heap_alloc _ _ _ (by simp <;> omega)]
      exact World.alloc_heap_new _ _
    · rw [Below.heap_alloc _ _ _ (by simp <;> omega), Below.heap_alloc _ _ _ (by simp <;> omega), Below.heap_alloc _ _ _ (by simp <;> omega), Below.heap_alloc _ _ _ (by simp <;> omega)]
      have := World.alloc_heap_new (w.alloc (.cells #[.pointer (some ⟨B, 0, none⟩)] 65)) (.cells #[.string s] 9); rwa [World.size_alloc] at this
    · rw [Below.heap_alloc _ _ _ (by simp <;> omega), Below.heap_alloc _ _ _ (by simp <;> omega), Below.heap_alloc _ _ _ (by simp <;> omega)]
      have := World.alloc_heap_new ((w.alloc (.cells #[.pointer (some ⟨B, 0, none⟩)] 65)).alloc (.cells #[.string s] 9)) (.cells #[.slice none 0 0] 44); rwa [World.size_alloc, World.size_alloc] at this
    · rw [Below.heap_alloc _ _ _ (by simp <;> omega), Below.heap_alloc _ _ _ (by simp <;> omega)]
      have := World.alloc_heap_new (((w.alloc (.cells #[.pointer (some ⟨B, 0, none⟩)] 65)).alloc (.cells #[.string s] 9)).alloc (.cells #[.slice none 0 0] 44)) (.cells #[.nilIface] 36); rwa [World.size_alloc, World.size_alloc, World.size_alloc] at this
    · repeat (refine Below.alloc ?_ (by simp <;> omega) _)
      exact Below.refl _ _
  have hBs : W0.cell? ⟨w.heap.size + 4, 0, none⟩ = some (.string s) := by
    rw [hW0]
    show (World.alloc _ _).cell? _ = _
    rw [World.cell?_alloc_lt _ _ _ (by simp), World.cell?_alloc_at _ _ _ _ (by simp)]
    rfl
  have hBn : W0.cell? ⟨w.heap.size + 5, 0, none⟩ = some (.int .i64 k.wd) := by
    rw [hW0]
    show (World.alloc _ _).cell? _ = _
    rw [World.cell?_alloc_at _ _ _ _ (by simp)]
    rfl
  rw [← hW0]
  clear hW0 hwi2
  refine (wpIn_wide (n := 3)).1 ?_
  refine wpIn_rangeFunc_ownF rfl (by omega) (gf := 67) (lb := #[.pointer (some ⟨w.heap.size + 4, 0, none⟩), .pointer (some ⟨w.heap.size + 5, 0, none⟩)]) rfl trivial (enters_of Tryd.func67 (by kernel_rfl) rfl)
    (groups1_stops (3 - 1) (by omega) (w.heap.size + 4) (w.heap.size + 5) k.wd s W0 hk hk4 hs hBs hBn) Two.trans (fun W l o o' hl h1 h2 h3 => Two.book (w := W0) (by omega) (by omega) W l o o' hl h1 h2 h3) (Below.refl _ _) (fun _ => rfl)
    (rinv k B s w) (rout k B s a w)
    (fun pre A B' row hs hg hr => by
      obtain ⟨out, v, h1, h⟩ := hs
      exact ⟨out, v, h1, h.grown hg (fun r e => ⟨by have := (hr r e).1; omega, (hr r e).2⟩)⟩)
    (fun cd pre A B' row hs hg hr => by
      obtain ⟨e1, l, x, out, v, err, h1, h2, h3, h4, h⟩ := hs
      exact ⟨e1, l, x, out, v, err, h1, h2, h3, h4, h.grown hg (fun r e => ⟨by have := (hr r e).1; omega, (hr r e).2⟩)⟩)
    ⟨[], _, rd_nil k s, hSt⟩
    (fun x => { tmps := #[.pointer (some ⟨B, 0, none⟩), .string s, .pointer (some ⟨w.heap.size, 0, none⟩), .pointer (some ⟨w.heap.size + 1, 0, none⟩), .string ⟨#[]⟩, .nilIface, .pointer (some ⟨w.heap.size + 2, 0, none⟩), .pointer (some ⟨w.heap.size + 3, 0, none⟩), .int .i64 x.p, .string (x.g k.wd), undef, undef, .string s, .pointer (some ⟨B, 0, none⟩), .pointer (some ⟨B, 0, none⟩), .pointer (some ⟨B, 193, none⟩), .int .i64 k.wd, .func (.func 67) #[] #[.pointer (some ⟨w.heap.size + 4, 0, none⟩), .pointer (some ⟨w.heap.size + 5, 0, none⟩)], .int .i64 x.p, .string (x.g k.wd), undef, undef, undef, undef, undef, undef, undef, undef, undef, undef, undef, undef, undef, undef, undef, undef, undef, undef, undef, undef, undef, undef, undef, undef, undef, undef, undef, undef, undef, undef, undef, undef, undef, undef, undef, undef, undef, undef, undef, undef, undef, undef, undef, undef, undef, undef, undef, undef, undef, undef, undef], defers := [] }) ?assign ?body ?done ?stop
  case assign =>
    intro l x W K hK
    gi_wp2
    exact hK
  case body =>
    rintro l pre x W ⟨out, v, hrd, hin⟩ hN
    go_light
    have hcW := (unhide Hc).below hlt hin.bel
    have hps := piece_size x hk
    have hxp := x.hp
    have H := hT B x.p (x.g k.wd) a W (g.below (Nat.le_refl _) hin.bel) hcW hps.2 (by omega)
    have hx : one k x = stp k (!decide (x.p + k.wd < s.size)) (x.g k.wd).data.toList := rfl
    unfold stp at hx
    obtain ⟨c0, c1, c2, c3, c4, c5⟩ := hin.cl
    cases htl : tl k (x.g k.wd).data.toList with
    | none =>
      rw [htl] at hx
      have H' := hide (H.mono (R' := fun e w' => ∃ xv, e = .returned (.tuple #[.int .i64 0, .int .i64 0, .iface 143 xv]) ∧ IsErr a (.iface 143 xv) ∧ Below W.heap.size W w') (fun e w' ⟨hb, he⟩ => by
        rcases he with ⟨b, c, h1, _⟩ | ⟨_, v1, h2, h3⟩
        · rw [htl] at h1; cases h1
        · obtain ⟨xv, rfl⟩ := h3.form
          exact ⟨xv, h2, h3, hb⟩))
      have Hin := hide hin
      have Hx : Hid (one k x = none) := hx
      have Hrd := hide hrd
      clear H hin hx hrd htl hN hSt hBs hBn hz hcW hps hxp g
      gi_wp2_with fail
      refine ⟨trivial, (CallsIn.inRound _ (callsIn_wide.2 (unhide H'))).mono ?_⟩
      rintro e w' ⟨xv, rfl, herr, hb⟩
      have hi1 := (unhide Hin).below hb
      have hi2 := hi1.setE (.iface 143 xv)
      obtain ⟨d0, d1, d2, d3, d4, d5⟩ := hi1.cl
      obtain ⟨e0, e1, e2, e3, e4, e5⟩ := hi2.cl
      have Hi1 := hide hi1
      have Hi2 := hide hi2
      have He := hide herr
      have HK := hide ((keepsO hb).trans (KeepsOthers.setCell w' ⟨w.heap.size + 3, 0, none⟩ (.iface 143 xv)))
      clear hi1 hi2 herr hb c0 c1 c2 c3 c4 c5
      gi_wp2
      refine regionIn_tail_n 20 hmx (by kernel_rfl) (by kernel_rfl) ?_
      simp only [List.take_succ_cons, List.take_zero, List.drop_succ_cons, List.drop_zero]
      refine wst_do (by kernel_rfl) (fun K hK => ?_)
      go_simp
      refine hK.out _ ?_
      clear hK K
      refine wst_do (by kernel_rfl) (fun K hK => ?_)
      go_simp
      refine hK.out _ ?_
      clear hK K
      refine wst_do (by kernel_rfl) (fun K hK => ?_)
      go_simp
      refine hK.out _ ?_
      clear hK K
      refine wst_skip (by kernel_rfl) ?_
      simp only [Act.put, List.setIfInBounds_toArray, List.set_cons_zero, List.set_cons_succ, List.getElem_toArray, List.getElem_cons_zero, List.getElem_cons_succ]
      refine wst_skip (by kernel_rfl) ?_
      simp only [Act.put, List.setIfInBounds_toArray, List.set_cons_zero, List.set_cons_succ, List.getElem_toArray, List.getElem_cons_zero, List.getElem_cons_succ]
      refine wst_skip (by kernel_rfl) ?_
      simp only [Act.put, List.setIfInBounds_toArray, List.set_cons_zero, List.set_cons_succ, List.getElem_toArray, List.getElem_cons_zero, List.getElem_cons_succ]
      refine wst_skip (by kernel_rfl) ?_
      simp only [Act.put, List.setIfInBounds_toArray, List.set_cons_zero, List.set_cons_succ, List.getElem_toArray, List.getElem_cons_zero, List.getElem_cons_succ]
      refine wst_skip (by kernel_rfl) ?_
      simp only [Act.put, List.setIfInBounds_toArray, List.set_cons_zero, List.set_cons_succ, List.getElem_toArray, List.getElem_cons_zero, List.getElem_cons_succ]
      refine wst_skip (by kernel_rfl) ?_
      simp only [Act.put, List.setIfInBounds_toArray, List.set_cons_zero, List.set_cons_succ, List.getElem_toArray, List.getElem_cons_zero, List.getElem_cons_succ]
      refine wst_do (by kernel_rfl) (fun K hK => ?_)
      go_simp
      refine hK.out _ ?_
      clear hK K
      refine wst_do (by kernel_rfl) (fun K hK => ?_)
      go_simp
      refine hK.out _ ?_
      clear hK K
      refine wst_skip (by kernel_rfl) ?_
      simp only [Act.put, List.setIfInBounds_toArray, List.set_cons_zero, List.set_cons_succ, List.getElem_toArray, List.getElem_cons_zero, List.getElem_cons_succ]
      refine wst_skip (by kernel_rfl) ?_
      simp only [Act.put, List.setIfInBounds_toArray, List.set_cons_zero, List.set_cons_succ, List.getElem_toArray, List.getElem_cons_zero, List.getElem_cons_succ]
      refine wst_skip (by kernel_rfl) ?_
      simp only [Act.put, List.setIfInBounds_toArray, List.set_cons_zero, List.set_cons_succ, List.getElem_toArray, List.getElem_cons_zero, List.getElem_cons_succ]
      refine wst_skip (by kernel_rfl) ?_
      simp only [Act.put, List.setIfInBounds_toArray, List.set_cons_zero, List.set_cons_succ, List.getElem_toArray, List.getElem_cons_zero, List.getElem_cons_succ]
      refine wst_skip (by kernel_rfl) ?_
      simp only [Act.put, List.setIfInBounds_toArray, List.set_cons_zero, List.set_cons_succ, List.getElem_toArray, List.getElem_cons_zero, List.getElem_cons_succ]
      refine wst_skip (by kernel_rfl) ?_
      simp only [Act.put, List.setIfInBounds_toArray, List.set_cons_zero, List.set_cons_succ, List.getElem_toArray, List.getElem_cons_zero, List.getElem_cons_succ]
      refine wst_skip (by kernel_rfl) ?_
      simp only [Act.put, List.setIfInBounds_toArray, List.set_cons_zero, List.set_cons_succ, List.getElem_toArray, List.getElem_cons_zero, List.getElem_cons_succ]
      refine wst_skip (by kernel_rfl) ?_
      simp only [Act.put, List.setIfInBounds_toArray, List.set_cons_zero, List.set_cons_succ, List.getElem_toArray, List.getElem_cons_zero, List.getElem_cons_succ]
      refine wst_skip (by kernel_rfl) ?_
      simp only [Act.put, List.setIfInBounds_toArray, List.set_cons_zero, List.set_cons_succ, List.getElem_toArray, List.getElem_cons_zero, List.getElem_cons_succ]
      refine wst_nil ?_
      go_wp2
      simp only [only]
      gi_wp2
      exact ⟨(unhide HK).trans (KeepsOthers.drew _), rfl, pre, x, out, v, _, rfl, unhide Hrd, unhide Hx, unhide He, (unhide Hi2).drew⟩
    | some r =>
      obtain ⟨b, c⟩ := r
      rw [htl, Option.bind_some] at hx
      dsimp only at hx
      have H' := hide (H.mono (R' := fun e w' => e = .returned (.tuple #[.int .i64 b, .int .i64 c, .nilIface]) ∧ Below W.heap.size W w') (fun e w' ⟨hb, he⟩ => by
        rcases he with ⟨b', c', h1, h2⟩ | ⟨h1, _⟩
        · rw [htl] at h1; cases h1; exact ⟨h2, hb⟩
        · rw [htl] at h1; cases h1))
      obtain ⟨hb24, hc4⟩ := tl_bound k hnm hwt (x.g k.wd).data.toList (by rw [Array.length_toList]; exact hps.2) htl
      replace hc4 : c ≤ 4 := by omega
      have h24 : c * k.bt / 8 ≤ 3 := by have : c * k.bt ≤ 4 * 6 := Nat.mul_le_mul hc4 hbt; omega
      have Hlen : Hid ((unp b (c * k.bt / 8)).length ≤ 3) := by show _ ≤ _; simp [unp]; exact h24
      have Hin := hide hin
      have Hrd := hide hrd
      have hprl := hin.size
      have hpre : pre.length ≤ 2000 := by omega
      by_cases hcw : c < k.wd
      · by_cases hlast : x.p + k.wd < s.size
        · rw [if_pos ⟨hcw, by simp [hlast]⟩] at hx
          have Hx := hide hx
          have gE := (g.below (Nat.le_refl _) hin.bel)
          have Hg := hide gE
          have hcw' : (c : Int) < k.wd := by omega
          have hl' : (x.p : Int) + k.wd < s.size := by omega
          have hp2 : (x.p : Int) ≤ 2000 := by omega
          have hw2 : (k.wd : Int) ≤ 4 := by omega
          clear H hin hx hrd htl hN hSt hBs hBn hz hcW hps hxp g gE
          gi_wp2_with fail
          refine ⟨trivial, (CallsIn.inRound _ (callsIn_wide.2 (unhide H'))).mono ?_⟩
          rintro e w' ⟨rfl, hb⟩
          have hi1 := (unhide Hin).below hb
          have hi2 := hi1.setE .nilIface
          obtain ⟨d0, d1, d2, d3, d4, d5⟩ := hi1.cl
          obtain ⟨e0, e1, e2, e3, e4, e5⟩ := hi2.cl
          have f0 : (w'.setCell ⟨w.heap.size + 3, 0, none⟩ .nilIface).cell? ⟨B, 193, none⟩ = some (.int .i64 k.wd) := ((unhide Hc).below hlt hi2.bel).wi
          have Hi2 := hide hi2
          have HK := hide ((keepsO hb).trans (KeepsOthers.setCell w' ⟨w.heap.size + 3, 0, none⟩ .nilIface))
          have HT2 : Hid (Two (w.heap.size + 4) (w.heap.size + 5) W (w'.setCell ⟨w.heap.size + 3, 0, none⟩ .nilIface)) :=
            ⟨(Below.heap_setCell _ _ _ _ (by show w.heap.size + 4 ≠ w.heap.size + 3; omega)).trans (hb.block _ (by have := (unhide Hin).size; omega)), (Below.heap_setCell _ _ _ _ (by show w.heap.size + 5 ≠ w.heap.size + 3; omega)).trans (hb.block _ (by have := (unhide Hin).size; omega))⟩
          have g0 : (w'.setCell ⟨w.heap.size + 3, 0, none⟩ .nilIface).cell? ⟨4, 0, none⟩ = some (.iface 151 (.pointer (some a.e))) := ((unhide Hg0).below (Nat.le_refl _) hi2.bel).en
          clear hi1 hi2 hb c0 c1 c2 c3 c4 c5 d0 d1 d2
          gi_wp2
          refine regionIn_tail_n 20 hmx (by kernel_rfl) (by kernel_rfl) ?_
          simp only [List.take_succ_cons, List.take_zero, List.drop_succ_cons, List.drop_zero]
          refine wst_do (by kernel_rfl) (fun K hK => ?_)
          go_simp
          refine hK.out _ ?_
          clear hK K
          refine wst_do (by kernel_rfl) (fun K hK => ?_)
          go_simp
          refine hK.out _ ?_
          clear hK K
          refine wst_do (by kernel_rfl) (fun K hK => ?_)
          go_simp
          refine hK.out _ ?_
          clear hK K
          refine wst_do (by kernel_rfl) (fun K hK => ?_)
          go_simp
          refine hK.out _ ?_
          clear hK K
          refine wst_do (by kernel_rfl) (fun K hK => ?_)
          go_simp
          refine hK.out _ ?_
          clear hK K
          refine wst_do (by kernel_rfl) (fun K hK => ?_)
          go_simp
          refine hK.out _ ?_
          clear hK K
          refine wst_do (by kernel_rfl) (fun K hK => ?_)
          go_simp
          refine hK.out _ ?_
          clear hK K
          refine wst_do (by kernel_rfl) (fun K hK => ?_)
          go_simp
          refine hK.out _ ?_
          clear hK K
          refine wst_do (by kernel_rfl) (fun K hK => ?_)
          go_simp
          refine hK.out _ ?_
          clear hK K
          refine wst_do (by kernel_rfl) (fun K hK => ?_)
          go_simp
          refine hK.out _ ?_
          clear hK K
          refine wst_do (by kernel_rfl) (fun K hK => ?_)
          go_simp
          refine hK.out _ ?_
          clear hK K
          refine wst_do (by kernel_rfl) (fun K hK => ?_)
          go_simp
          refine hK.out _ ?_
          clear hK K
          refine wst_do (by kernel_rfl) (fun K hK => ?_)
          go_simp
          refine hK.out _ ?_
          clear hK K
          refine wst_do (by kernel_rfl) (fun K hK => ?_)
          go_simp
          refine hK.out _ ?_
          clear hK K
          refine wst_do (by kernel_rfl) (fun K hK => ?_)
          go_simp
          refine hK.out _ ?_
          clear hK K
          refine wst_do (by kernel_rfl) (fun K hK => ?_)
          go_simp
          refine hK.out _ ?_
          clear hK K
          refine wst_do (by kernel_rfl) (fun K hK => ?_)
          go_simp
          refine hK.out _ ?_
          clear hK K
          refine wst_do (by kernel_rfl) (fun K hK => ?_)
          go_simp
          refine hK.out _ ?_
          clear hK K
          refine wst_do (by kernel_rfl) (fun K hK => ?_)
          go_simp
          refine hK.out _ ?_
          clear hK K
          refine wst_do (by kernel_rfl) (fun K hK => ?_)
          go_simp
          refine hK.out _ ?_
          clear hK K
          refine wst_nil ?_
          go_wp2
          simp only [only]
          gi_wp2
          refine regionIn_tail_n 9 hmx (by kernel_rfl) (by kernel_rfl) ?_
          simp only [List.take_succ_cons, List.take_zero, List.drop_succ_cons, List.drop_zero]
          refine wst_do (by kernel_rfl) (fun K hK => ?_)
          go_simp
          refine hK.out _ ?_
          clear hK K
          refine wst_do (by kernel_rfl) (fun K hK => ?_)
          go_simp
          refine hK.out _ ?_
          clear hK K
          refine wst_do (by kernel_rfl) (fun K hK => ?_)
          go_simp
          refine hK.out _ ?_
          clear hK K
          refine wst_do (by kernel_rfl) (fun K hK => ?_)
          go_simp
          refine hK.out _ ?_
          clear hK K
          refine wst_do (by kernel_rfl) (fun K hK => ?_)
          go_simp
          refine hK.out _ ?_
          clear hK K
          refine wst_do (by kernel_rfl) (fun K hK => ?_)
          go_simp
          refine hK.out _ ?_
          clear hK K
          refine wst_do (by kernel_rfl) (fun K hK => ?_)
          go_simp
          refine hK.out _ ?_
          clear hK K
          refine wst_do (by kernel_rfl) (fun K hK => ?_)
          go_simp
          refine hK.out _ ?_
          clear hK K
          refine wst_do (by kernel_rfl) (fun K hK => ?_)
          go_simp
          refine hK.out _ ?_
          clear hK K
          refine wst_nil ?_
          go_wp2
          simp only [only]
          have hi3 := (unhide Hi2).drew.drew.setE (flt ((x.p : Int) + k.wd) a.e)
          obtain ⟨p0, p1, p2, p3, p4, p5⟩ := hi3.cl
          have Hi3 := hide hi3
          clear hi3
          gi_wp2
          exact ⟨(((unhide HK).trans (KeepsOthers.drew _)).trans (KeepsOthers.drew _)).trans (KeepsOthers.setCell _ _ _), rfl, pre, x, out, v, _, rfl, unhide Hrd, unhide Hx, isErr_end _ _, unhide Hi3⟩
        · rw [if_neg (fun h => by simp [hlast] at h)] at hx
          have Hx := hide hx
          have hcw' : (c : Int) < k.wd := by omega
          have hl' : ¬ (x.p : Int) + k.wd < s.size := by omega
          have hp2 : (x.p : Int) ≤ 2000 := by omega
          have hw2 : (k.wd : Int) ≤ 4 := by omega
          clear H hin hx htl hN hSt hBs hBn hz hcW hps hxp g
          gi_wp2_with fail
          refine ⟨trivial, (CallsIn.inRound _ (callsIn_wide.2 (unhide H'))).mono ?_⟩
          rintro e w' ⟨rfl, hb⟩
          have hi1 := (unhide Hin).below hb
          have hi2 := hi1.setE .nilIface
          obtain ⟨d0, d1, d2, d3, d4, d5⟩ := hi1.cl
          obtain ⟨e0, e1, e2, e3, e4, e5⟩ := hi2.cl
          have f0 : (w'.setCell ⟨w.heap.size + 3, 0, none⟩ .nilIface).cell? ⟨B, 193, none⟩ = some (.int .i64 k.wd) := ((unhide Hc).below hlt hi2.bel).wi
          have Hi2 := hide hi2
          have HK := hide ((keepsO hb).trans (KeepsOthers.setCell w' ⟨w.heap.size + 3, 0, none⟩ .nilIface))
          have HT2 : Hid (Two (w.heap.size + 4) (w.heap.size + 5) W (w'.setCell ⟨w.heap.size + 3, 0, none⟩ .nilIface)) :=
            ⟨(Below.heap_setCell _ _ _ _ (by show w.heap.size + 4 ≠ w.heap.size + 3; omega)).trans (hb.block _ (by have := (unhide Hin).size; omega)), (Below.heap_setCell _ _ _ _ (by show w.heap.size + 5 ≠ w.heap.size + 3; omega)).trans (hb.block _ (by have := (unhide Hin).size; omega))⟩
          have HW := hide (whole_any k B c k.bt (w'.setCell ⟨w.heap.size + 3, 0, none⟩ .nilIface).drew.drew ((unhide Hc).below hlt hi2.drew.drew.bel) rfl hbt hc4)
          have HU := hide (unpack_any b (c * k.bt / 8) (w'.setCell ⟨w.heap.size + 3, 0, none⟩ .nilIface).drew.drew (w.heap.size + 6) v _ _ hb24 h24 hi2.drew.drew.own (by have := (unhide Hrd).1; omega) hi2.drew.drew.size)
          clear hi1 hi2 hb c0 c1 c2 c3 c4 c5 d0 d1 d2
          gi_wp2
          refine regionIn_tail_n 20 hmx (by kernel_rfl) (by kernel_rfl) ?_
          simp only [List.take_succ_cons, List.take_zero, List.drop_succ_cons, List.drop_zero]
          refine wst_do (by kernel_rfl) (fun K hK => ?_)
          go_simp
          refine hK.out _ ?_
          clear hK K
          refine wst_do (by kernel_rfl) (fun K hK => ?_)
          go_simp
          refine hK.out _ ?_
          clear hK K
          refine wst_do (by kernel_rfl) (fun K hK => ?_)
          go_simp
          refine hK.out _ ?_
          clear hK K
          refine wst_do (by kernel_rfl) (fun K hK => ?_)
          go_simp
          refine hK.out _ ?_
          clear hK K
          refine wst_do (by kernel_rfl) (fun K hK => ?_)
          go_simp
          refine hK.out _ ?_
          clear hK K
          refine wst_do (by kernel_rfl) (fun K hK => ?_)
          go_simp
          refine hK.out _ ?_
          clear hK K
          refine wst_do (by kernel_rfl) (fun K hK => ?_)
          go_simp
          refine hK.out _ ?_
          clear hK K
          refine wst_do (by kernel_rfl) (fun K hK => ?_)
          go_simp
          refine hK.out _ ?_
          clear hK K
          refine wst_do (by kernel_rfl) (fun K hK => ?_)
          go_simp
          refine hK.out _ ?_
          clear hK K
          refine wst_do (by kernel_rfl) (fun K hK => ?_)
          go_simp
          refine hK.out _ ?_
          clear hK K
          refine wst_do (by kernel_rfl) (fun K hK => ?_)
          go_simp
          refine hK.out _ ?_
          clear hK K
          refine wst_do (by kernel_rfl) (fun K hK => ?_)
          go_simp
          refine hK.out _ ?_
          clear hK K
          refine wst_do (by kernel_rfl) (fun K hK => ?_)
          go_simp
          refine hK.out _ ?_
          clear hK K
          refine wst_do (by kernel_rfl) (fun K hK => ?_)
          go_simp
          refine hK.out _ ?_
          clear hK K
          refine wst_do (by kernel_rfl) (fun K hK => ?_)
          go_simp
          refine hK.out _ ?_
          clear hK K
          refine wst_do (by kernel_rfl) (fun K hK => ?_)
          go_simp
          refine hK.out _ ?_
          clear hK K
          refine wst_do (by kernel_rfl) (fun K hK => ?_)
          go_simp
          refine hK.out _ ?_
          clear hK K
          refine wst_do (by kernel_rfl) (fun K hK => ?_)
          go_simp
          refine hK.out _ ?_
          clear hK K
          refine wst_do (by kernel_rfl) (fun K hK => ?_)
          go_simp
          refine hK.out _ ?_
          clear hK K
          refine wst_do (by kernel_rfl) (fun K hK => ?_)
          go_simp
          refine hK.out _ ?_
          clear hK K
          refine wst_nil ?_
          go_wp2
          simp only [only]
          gi_wp2
          refine regionIn_tail_n 5 hmx (by kernel_rfl) (by kernel_rfl) ?_
          simp only [List.take_succ_cons, List.take_zero, List.drop_succ_cons, List.drop_zero]
          refine wst_do (by kernel_rfl) (fun K hK => ?_)
          go_simp
          refine hK.out _ ?_
          clear hK K
          refine wst_do (by kernel_rfl) (fun K hK => ?_)
          go_simp
          refine hK.out _ ?_
          clear hK K
          refine wst_do (by kernel_rfl) (fun K hK => ?_)
          go_simp
          refine hK.out _ ?_
          clear hK K
          refine wst_do (by kernel_rfl) (fun K hK => ?_)
          go_simp
          refine hK.out _ ?_
          clear hK K
          refine wst_do (by kernel_rfl) (fun K hK => ?_)
          go_simp
          refine ⟨_, unhide HW, hK.out _ ?_⟩
          clear hK K
          refine wst_nil ?_
          go_wp2_with fail
          refine (unhide HU).mono ?_
          rintro e w2 ⟨v', rfl, hown, hbl⟩
          have hP := (unhide Hi2).drew.drew.put hbl hown
          obtain ⟨sa, sn, sc, rfl⟩ := own_slice hown
          have hz := (unhide Hi2).size
          have m1 := (hbl.1.cell (p := ⟨w.heap.size + 2, 0, none⟩) (by show w.heap.size + 2 < w.heap.size + 6; omega)).trans e2
          have m2 := (bel_frozen hbl.1 (a := ⟨w.heap.size + 2, 0, none⟩) (by show w.heap.size + 2 < w.heap.size + 6; omega)).trans e4
          have HP := hide hP
          have HK2 := hide (((((unhide HK).trans (KeepsOthers.drew _)).trans (KeepsOthers.drew _)).trans hbl.2).trans (KeepsOthers.setCell w2 ⟨w.heap.size + 2, 0, none⟩ (.slice sa sn sc)))
          have HT3 : Hid (Two (w.heap.size + 4) (w.heap.size + 5) W (w2.setCell ⟨w.heap.size + 2, 0, none⟩ (.slice sa sn sc))) :=
            (unhide HT2).trans ⟨(Below.heap_setCell _ _ _ _ (by show w.heap.size + 4 ≠ w.heap.size + 2; omega)).trans (hbl.1.block _ (by omega)), (Below.heap_setCell _ _ _ _ (by show w.heap.size + 5 ≠ w.heap.size + 2; omega)).trans (hbl.1.block _ (by omega))⟩
          clear hown hbl hP hz
          go_wp2
          simp only [only]
          gi_wp2
          exact ⟨unhide HK2, unhide HT3, _, _, (unhide Hrd).snoc (unhide Hx) (unhide Hlen), unhide HP⟩
      · rw [if_neg (fun h => hcw h.1)] at hx
        have Hx := hide hx
        have hcw' : ¬ (c : Int) < k.wd := by omega
        clear H hin hx htl hN hSt hBs hBn hz hcW hps hxp g
        gi_wp2_with fail
        refine ⟨trivial, (CallsIn.inRound _ (callsIn_wide.2 (unhide H'))).mono ?_⟩
        rintro e w' ⟨rfl, hb⟩
        have hi1 := (unhide Hin).below hb
        have hi2 := hi1.setE .nilIface
        obtain ⟨d0, d1, d2, d3, d4, d5⟩ := hi1.cl
        obtain ⟨e0, e1, e2, e3, e4, e5⟩ := hi2.cl
        have f0 : (w'.setCell ⟨w.heap.size + 3, 0, none⟩ .nilIface).cell? ⟨B, 193, none⟩ = some (.int .i64 k.wd) := ((unhide Hc).below hlt hi2.bel).wi
        have Hi2 := hide hi2
        have HK := hide ((keepsO hb).trans (KeepsOthers.setCell w' ⟨w.heap.size + 3, 0, none⟩ .nilIface))
        have HT2 : Hid (Two (w.heap.size + 4) (w.heap.size + 5) W (w'.setCell ⟨w.heap.size + 3, 0, none⟩ .nilIface)) :=
          ⟨(Below.heap_setCell _ _ _ _ (by show w.heap.size + 4 ≠ w.heap.size + 3; omega)).trans (hb.block _ (by have := (unhide Hin).size; omega)), (Below.heap_setCell _ _ _ _ (by show w.heap.size + 5 ≠ w.heap.size + 3; omega)).trans (hb.block _ (by have := (unhide Hin).size; omega))⟩
        have HW := hide (whole_any k B c k.bt (w'.setCell ⟨w.heap.size + 3, 0, none⟩ .nilIface).drew.drew ((unhide Hc).below hlt hi2.drew.drew.bel) rfl hbt hc4)
        have HU := hide (unpack_any b (c * k.bt / 8) (w'.setCell ⟨w.heap.size + 3, 0, none⟩ .nilIface).drew.drew (w.heap.size + 6) v _ _ hb24 h24 hi2.drew.drew.own (by have := (unhide Hrd).1; omega) hi2.drew.drew.size)
        clear hi1 hi2 hb c0 c1 c2 c3 c4 c5 d0 d1 d2
        gi_wp2
        refine regionIn_tail_n 20 hmx (by kernel_rfl) (by kernel_rfl) ?_
        simp only [List.take_succ_cons, List.take_zero, List.drop_succ_cons, List.drop_zero]
        refine wst_do (by kernel_rfl) (fun K hK => ?_)
        go_simp
        refine hK.out _ ?_
        clear hK K
        refine wst_do (by kernel_rfl) (fun K hK => ?_)
        go_simp
        refine hK.out _ ?_
        clear hK K
        refine wst_do (by kernel_rfl) (fun K hK => ?_)
        go_simp
        refine hK.out _ ?_
        clear hK K
        refine wst_do (by kernel_rfl) (fun K hK => ?_)
        go_simp
        refine hK.out _ ?_
        clear hK K
        refine wst_do (by kernel_rfl) (fun K hK => ?_)
        go_simp
        refine hK.out _ ?_
        clear hK K
        refine wst_do (by kernel_rfl) (fun K hK => ?_)
        go_simp
        refine hK.out _ ?_
        clear hK K
        refine wst_do (by kernel_rfl) (fun K hK => ?_)
        go_simp
        refine hK.out _ ?_
        clear hK K
        refine wst_do (by kernel_rfl) (fun K hK => ?_)
        go_simp
        refine hK.out _ ?_
        clear hK K
        refine wst_do (by kernel_rfl) (fun K hK => ?_)
        go_simp
        refine hK.out _ ?_
        clear hK K
        refine wst_do (by kernel_rfl) (fun K hK => ?_)
        go_simp
        refine hK.out _ ?_
        clear hK K
        refine wst_do (by kernel_rfl) (fun K hK => ?_)
        go_simp
        refine hK.out _ ?_
        clear hK K
        refine wst_skip (by kernel_rfl) ?_
        simp only [Act.put, List.setIfInBounds_toArray, List.set_cons_zero, List.set_cons_succ, List.getElem_toArray, List.getElem_cons_zero, List.getElem_cons_succ]
        refine wst_skip (by kernel_rfl) ?_
        simp only [Act.put, List.setIfInBounds_toArray, List.set_cons_zero, List.set_cons_succ, List.getElem_toArray, List.getElem_cons_zero, List.getElem_cons_succ]
        refine wst_skip (by kernel_rfl) ?_
        simp only [Act.put, List.setIfInBounds_toArray, List.set_cons_zero, List.set_cons_succ, List.getElem_toArray, List.getElem_cons_zero, List.getElem_cons_succ]
        refine wst_skip (by kernel_rfl) ?_
        simp only [Act.put, List.setIfInBounds_toArray, List.set_cons_zero, List.set_cons_succ, List.getElem_toArray, List.getElem_cons_zero, List.getElem_cons_succ]
        refine wst_skip (by kernel_rfl) ?_
        simp only [Act.put, List.setIfInBounds_toArray, List.set_cons_zero, List.set_cons_succ, List.getElem_toArray, List.getElem_cons_zero, List.getElem_cons_succ]
        refine wst_skip (by kernel_rfl) ?_
        simp only [Act.put, List.setIfInBounds_toArray, List.set_cons_zero, List.set_cons_succ, List.getElem_toArray, List.getElem_cons_zero, List.getElem_cons_succ]
        refine wst_skip (by kernel_rfl) ?_
        simp only [Act.put, List.setIfInBounds_toArray, List.set_cons_zero, List.set_cons_succ, List.getElem_toArray, List.getElem_cons_zero, List.getElem_cons_succ]
        refine wst_skip (by kernel_rfl) ?_
        simp only [Act.put, List.setIfInBounds_toArray, List.set_cons_zero, List.set_cons_succ, List.getElem_toArray, List.getElem_cons_zero, List.getElem_cons_succ]
        refine wst_skip (by kernel_rfl) ?_
        simp only [Act.put, List.setIfInBounds_toArray, List.set_cons_zero, List.set_cons_succ, List.getElem_toArray, List.getElem_cons_zero, List.getElem_cons_succ]
        refine wst_nil ?_
        go_wp2
        simp only [only]
        gi_wp2
        refine regionIn_tail_n 5 hmx (by kernel_rfl) (by kernel_rfl) ?_
        simp only [List.take_succ_cons, List.take_zero, List.drop_succ_cons, List.drop_zero]
        refine wst_do (by kernel_rfl) (fun K hK => ?_)
        go_simp
        refine hK.out _ ?_
        clear hK K
        refine wst_do (by kernel_rfl) (fun K hK => ?_)
        go_simp
        refine hK.out _ ?_
        clear hK K
        refine wst_do (by kernel_rfl) (fun K hK => ?_)
        go_simp
        refine hK.out _ ?_
        clear hK K
        refine wst_do (by kernel_rfl) (fun K hK => ?_)
        go_simp
        refine hK.out _ ?_
        clear hK K
        refine wst_do (by kernel_rfl) (fun K hK => ?_)
        go_simp
        refine ⟨_, unhide HW, hK.out _ ?_⟩
        clear hK K
        refine wst_nil ?_
        go_wp2_with fail
        refine (unhide HU).mono ?_
        rintro e w2 ⟨v', rfl, hown, hbl⟩
        have hP := (unhide Hi2).drew.drew.put hbl hown
        obtain ⟨sa, sn, sc, rfl⟩ := own_slice hown
        have hz := (unhide Hi2).size
        have m1 := (hbl.1.cell (p := ⟨w.heap.size + 2, 0, none⟩) (by show w.heap.size + 2 < w.heap.size + 6; omega)).trans e2
        have m2 := (bel_frozen hbl.1 (a := ⟨w.heap.size + 2, 0, none⟩) (by show w.heap.size + 2 < w.heap.size + 6; omega)).trans e4
        have HP := hide hP
        have HK2 := hide (((((unhide HK).trans (KeepsOthers.drew _)).trans (KeepsOthers.drew _)).trans hbl.2).trans (KeepsOthers.setCell w2 ⟨w.heap.size + 2, 0, none⟩ (.slice sa sn sc)))
        have HT3 : Hid (Two (w.heap.size + 4) (w.heap.size + 5) W (w2.setCell ⟨w.heap.size + 2, 0, none⟩ (.slice sa sn sc))) :=
          (unhide HT2).trans ⟨(Below.heap_setCell _ _ _ _ (by show w.heap.size + 4 ≠ w.heap.size + 2; omega)).trans (hbl.1.block _ (by omega)), (Below.heap_setCell _ _ _ _ (by show w.heap.size + 5 ≠ w.heap.size + 2; omega)).trans (hbl.1.block _ (by omega))⟩
        clear hown hbl hP hz
        go_wp2
        simp only [only]
        gi_wp2
        exact ⟨unhide HK2, unhide HT3, _, _, (unhide Hrd).snoc (unhide Hx) (unhide Hlen), unhide HP⟩
  case done =>
    rintro D ys W hD rfl ⟨out, v, hrd, hin⟩ hK
    obtain ⟨c0, c1, c2, c3, c4, c5⟩ := hin.cl
    have hcv := conv_row hin.own rfl
    have HK := hide hK
    have Hin := hide hin
    have Hr : Hid (rds k (all s k.wd) = some out) := by
      have := hrd.2 []
      rw [List.append_nil] at this
      show _ = _
      rw [this]
      simp [rds]
    clear hK hin hrd hSt hBs hBn
    go_wp2
    refine finR (v := .string ⟨out.toArray⟩) (u := .nilIface) (unhide HK) (by omega) (unhide Hin).bel rfl rfl fun V' hb => ⟨hb, .inl ⟨out, unhide Hr, rfl⟩⟩
  case stop =>
    rintro D cd pre W hD hpre ⟨rfl, l, x, out, v, err, rfl, hrd, hx, he, hin⟩ hK
    obtain ⟨xv, rfl⟩ := he.form
    refine wpIn_exit ?_
    obtain ⟨c0, c1, c2, c3, c4, c5⟩ := hin.cl
    have Hr : Hid (rds k (all s k.wd) = none) := by
      obtain ⟨t, ht⟩ := hpre
      show _ = _
      rw [← ht]
      exact hrd.fail hx t
    have HK := hide hK
    have Hin := hide hin
    have He := hide he
    clear hK hin hrd hx hpre hSt hBs hBn he
    go_wp2
    refine region_tail_n 2 hmx (by kernel_rfl) ?_
    simp only [List.take_succ_cons, List.take_zero, List.drop_succ_cons, List.drop_zero]
    refine wst_do (by kernel_rfl) (fun K hK => ?_)
    go_simp
    refine hK.out _ ?_
    clear hK K
    refine wst_do (by kernel_rfl) (fun K hK => ?_)
    go_simp
    refine hK.out _ ?_
    clear hK K
    refine wst_nil ?_
    go_wp2
    simp only [only]
    go_wp2
    refine finR (v := .string ⟨#[]⟩) (u := .iface 143 xv) (unhide HK) (by omega) (unhide Hin).bel.drew rfl rfl fun V' hb => ⟨hb, .inr ⟨unhide Hr, _, rfl, unhide He⟩⟩
end Go.Proofs.YtgapoofalnakmaaDoor.C
