/-
  What reader.trees of package tlv answers, and how its iterator tells trees one by one. Conditions: the package-level variables hold what the program's text lays; what reader.tree does at the next depth.
-/
import Derived.Test.YthibodkemnkjeaaDoorTTree1
import Derived.Test.YthibodkemnkjeaaDoorTRange
namespace Go.Proofs.YthibodkemnkjeaaDoor
open Go.RowKit Tv T Go.Shelf
attribute [local go_sem] Oper.semAt_some

theorem trees_any (r : Value) (hr : ∃ p, r = .pointer p) (a b d : Int) (w : World) :
    Calls Tryd.prog 66 #[r, .int .i64 a, .int .i64 b, .int .i64 d] w fun e w' => e = .returned (.func (.func 74) #[] #[.pointer (some ⟨w.heap.size + 1, 0, none⟩), .pointer (some ⟨w.heap.size + 1 + 1, 0, none⟩), .pointer (some ⟨w.heap.size, 0, none⟩), .pointer (some ⟨w.heap.size + 1 + 1 + 1, 0, none⟩)]) ∧
      w' = (((w.alloc (.cells #[r] 105)).alloc (.cells #[.int .i64 a] 3)).alloc (.cells #[.int .i64 b] 3)).alloc (.cells #[.int .i64 d] 3) := by
  obtain ⟨p, rfl⟩ := hr
  go_enter Tryd.func66, Tryd.ntmps66
  go_wp2
  go_ret
  exact ⟨rfl, rfl⟩

/-- what is told of a tree in another one: its three fields, an error, where its memory begins, and what was read. -/
structure Item (k : Nat) where
  t : Int
  d : ByteArray
  sa : Option Addr
  sn : Nat
  sc : Nat
  err : Value
  lo : Nat
  g : Except Int (Tr (k + 1) × Nat × Nat)
/-- its fields. -/
abbrev Item.cs {k : Nat} (x : Item k) : Array Value := #[.int .i64 x.t, .string x.d, .slice x.sa x.sn x.sc]
/-- the place, the count, and what was told so far. -/
structure Sta (k : Nat) where
  q : Nat
  c : Nat
  pre : List (Tr (k + 1))
def nxt {k : Nat} (s : Sta k) (x : Item k) : Sta k := match x.g with
  | .error _ => s
  | .ok (T, nx, c) => ⟨nx, c, s.pre ++ [T]⟩
def isOk {k : Nat} (x : Item k) : Prop := ∃ r, x.g = .ok r
def isNo {k : Nat} (x : Item k) : Prop := ∃ E, x.g = .error E
def ItemIs {k : Nat} (A : Ads) (Bn m b : Nat) (l : List UInt8) (s : Sta k) (x : Item k) (W : World) : Prop :=
  x.g = readT l k s.q b s.c ∧ (m ≤ x.lo ∧ m ≤ W.heap.size) ∧ (∀ g off len cap, W.cell? ⟨Bn, 2, none⟩ = some (.slice (some ⟨g, off, none⟩) len cap) → g < x.lo) ∧
  match x.g with
  | .error E => x.cs = #[.int .i64 0, .string ⟨#[]⟩, .slice none 0 0] ∧ IsErr A x.err E
  | .ok (T, _, _) => x.err = .nilIface ∧ Node (k + 1) W (fun b => x.lo ≤ b) (.agg x.cs) T
/-- what a round keeps for the iterator. -/
def Kept (D Bn : Nat) (A B : World) : Prop := A.heap.size ≤ B.heap.size ∧ ∀ k, k < D → k ≠ Bn → k < A.heap.size → B.heap[k]? = A.heap[k]?
theorem Kept.trans {D Bn : Nat} {A B C : World} (h : Kept D Bn A B) (k : Kept D Bn B C) : Kept D Bn A C :=
  ⟨Nat.le_trans h.1 k.1, fun i hi hn hl => (k.2 i hi hn (Nat.lt_of_lt_of_le hl h.1)).trans (h.2 i hi hn hl)⟩
theorem Kept.of_but {D Bn l : Nat} {A B : World} (hl : D ≤ l) (h : But l A B) : Kept D Bn A B := ⟨h.size, fun i hi _ hlt => h.block i hlt (by omega)⟩

def glue {α : Type} (pre : List α) : Except Int (List α × Nat) → Except Int (List α × Nat)
  | .error E => .error E
  | .ok (xs, c) => .ok (pre ++ xs, c)
theorem glue_glue {α : Type} (p q : List α) (r : Except Int (List α × Nat)) : glue p (glue q r) = glue (p ++ q) r := by
  cases r with
  | error E => rfl
  | ok r => simp [glue]
theorem readL_err {α : Type} {rd : Nat → Nat → Except Int (α × Nat × Nat)} {f q b c : Nat} {E : Int} (hq : q < b) (h : rd q c = .error E) : readL rd (f + 1) q b c = .error E := by
  unfold readL; rw [if_pos hq, h]
theorem readL_ok {α : Type} {rd : Nat → Nat → Except Int (α × Nat × Nat)} {f q b c : Nat} {x : α} {nx c' : Nat} (hq : q < b) (h : rd q c = .ok (x, nx, c')) : readL rd (f + 1) q b c = glue [x] (readL rd f nx b c') := by
  rw [readL, if_pos hq, h]
  simp only
  cases readL rd f nx b c' with
  | error E => rfl
  | ok r => rfl
theorem readL_end {α : Type} {rd : Nat → Nat → Except Int (α × Nat × Nat)} {f q b c : Nat} (hq : ¬ q < b) : readL rd f q b c = .ok ([], c) := by
  cases f with
  | zero => rfl
  | succ f => rw [readL, if_neg hq]

set_option maxRecDepth 100000 in
set_option maxHeartbeats 2000000 in
theorem trees1_any (k R a b c₀ D Bn Ba Be Br Bd : Nat) (str : ByteArray) (A : Ads) (w₀ : World) (deep : Int) (hb : b ≤ str.size) (hab : a ≤ b) (hc : c₀ ≤ 200)
    (hR : R < D ∧ R ≠ Bn ∧ w₀.heap.size ≤ R) (hBn : Bn < D) (hBe : Be < D ∧ Be ≠ Bn ∧ Be ≠ R) (hBr : Br < D ∧ Br ≠ Bn ∧ Br ≠ R) (hBd : Bd < D ∧ Bd ≠ Bn ∧ Bd ≠ R)
    (IH : ∀ (q c : Nat) (w : World), TRd R str c w → Below w₀.heap.size w₀ w → c ≤ 200 → q ≤ b → Calls Tryd.prog 51 #[.pointer (some ⟨R, 0, none⟩), .int .i64 q, .int .i64 b, .int .i64 deep] w (TreePost R str A w k (readT str.data.toList k q b c)))
    (J Jx : Sta k → World → Prop) (hJ : ∀ s A B, But R A B → J s A → J s B)
    (hJI : ∀ s W, J s W → D + 2 ≤ W.heap.size ∧ Below w₀.heap.size w₀ W ∧ (∀ g off len cap, W.cell? ⟨Bn, 2, none⟩ = some (.slice (some ⟨g, off, none⟩) len cap) → g < W.heap.size))
    (hY : ∀ s x W m, J s W → ItemIs A Bn (D + 2) b str.data.toList s x W → YieldAt Fence.wide m Tryd.prog (D + 1) #[.agg x.cs, x.err] W fun e W2 => (e = .returned (.bool true) ∧ isOk x ∧ J (nxt s x) W2 ∧ Kept D Bn W W2) ∨ (e = .returned (.bool false) ∧ isNo x ∧ Jx (nxt s x) W2))
    (W : World) (h0 : J ⟨a, c₀, []⟩ W) (hT : TRd R str c₀ W) (ka : W.cell? ⟨Ba, 0, none⟩ = some (.int .i64 a)) (ke : W.cell? ⟨Be, 0, none⟩ = some (.int .i64 b)) (kr : W.cell? ⟨Br, 0, none⟩ = some (.pointer (some ⟨R, 0, none⟩))) (kd : W.cell? ⟨Bd, 0, none⟩ = some (.int .i64 deep)) :
    CallsIn Fence.wide 6 Tryd.prog 74 #[.func (.yield (D + 1)) #[] #[], .pointer (some ⟨Ba, 0, none⟩), .pointer (some ⟨Be, 0, none⟩), .pointer (some ⟨Br, 0, none⟩), .pointer (some ⟨Bd, 0, none⟩)] W fun e W' => (∃ v, e = .returned v) ∧
      ((∃ s, (readL (fun q c' => readT str.data.toList k q b c') (b - a) a b c₀ = .ok (s.pre, s.c) ∧ TRd R str s.c W') ∧ J s W') ∨
       (∃ s : Sta k, (∃ E, readL (fun q c' => readT str.data.toList k q b c') (b - a) a b c₀ = .error E ∧ readT str.data.toList k s.q b s.c = .error E) ∧ Jx s W')) := by
  refine callsIn_of_wp Tryd.func74 rfl trivial ?_ rfl
  simp only [Tryd.ntmps74, List.size_toArray, List.length_cons, List.length_nil, Nat.reduceAdd, Nat.reduceSub, Array.replicate_succ, Array.replicate_zero, List.push_toArray, List.append_toArray, List.nil_append, List.cons_append]
  gi_wp2
  gi_loopw [6] (fun i wr => ∃ (q c f : Nat) (pre : List (Tr (k + 1))), i = .int .i64 q ∧ q ≤ b ∧ c ≤ 200 ∧ b - q ≤ f ∧ Hid (readL (fun q c' => readT str.data.toList k q b c') (b - a) a b c₀ = glue pre (readL (fun q c' => readT str.data.toList k q b c') f q b c)) ∧ J ⟨q, c, pre⟩ wr ∧ TRd R str c wr ∧
      wr.cell? ⟨Be, 0, none⟩ = some (.int .i64 b) ∧ wr.cell? ⟨Br, 0, none⟩ = some (.pointer (some ⟨R, 0, none⟩)) ∧ wr.cell? ⟨Bd, 0, none⟩ = some (.int .i64 deep))
    (fun i _ => b - (intOf i).toNat)
  case atStart =>
    refine ⟨a, c₀, b - a, [], rfl, hab, hc, Nat.le_refl _, ?_, h0, hT, ke, kr, kd⟩
    show _ = _
    cases readL (fun q c' => readT str.data.toList k q b c') (b - a) a b c₀ with
    | error E => rfl
    | ok r => rfl
  case round =>
    obtain ⟨q, c, f, pre, rfl, hq, hc1, hf, hgl, hj, hT1, ke1, kr1, kd1⟩ := hrel
    clear h0 hT ka ke kr kd
    by_cases hlt : q < b
    · have hlt' : (q : Int) < b := by omega
      have H := IH q c wr hT1 (hJI _ _ hj).2.1 hc1 hq
      gi_wp2_with fail
      refine ⟨trivial, (callsIn_wide.2 H).mono ?_⟩
      rintro e w1 ⟨hbt, hres⟩
      clear H IH
      have hold : ∀ x, x < D → x ≠ R → x < wr.heap.size → w1.heap[x]? = wr.heap[x]? := fun x _ hn hl => hbt.block x hl hn
      have ke2 : w1.cell? ⟨Be, 0, none⟩ = some (.int .i64 b) := (World.cell?_of_block (w := wr) (a := ⟨Be, 0, none⟩) (hold Be hBe.1 hBe.2.2 (lt_of_cell ke1))).trans ke1
      have kr2 : w1.cell? ⟨Br, 0, none⟩ = some (.pointer (some ⟨R, 0, none⟩)) := (World.cell?_of_block (w := wr) (a := ⟨Br, 0, none⟩) (hold Br hBr.1 hBr.2.2 (lt_of_cell kr1))).trans kr1
      have kd2 : w1.cell? ⟨Bd, 0, none⟩ = some (.int .i64 deep) := (World.cell?_of_block (w := wr) (a := ⟨Bd, 0, none⟩) (hold Bd hBd.1 hBd.2.2 (lt_of_cell kd1))).trans kd1
      have hj1 : ∀ o, J ⟨q, c, pre⟩ (w1.alloc o) := fun o => hJ _ _ _ (hbt.alloc o) hj
      obtain ⟨hz1, _, hrow⟩ := hJI _ _ hj
      have hBnl : Bn < wr.heap.size := by omega
      have hrow1 : ∀ o g off len cap, (w1.alloc o).cell? ⟨Bn, 2, none⟩ = some (.slice (some ⟨g, off, none⟩) len cap) → g < wr.heap.size := fun o g off len cap h => hrow g off len cap (by
        rw [← h]
        exact (World.cell?_of_block (w := wr) (a := ⟨Bn, 2, none⟩) ((Below.heap_alloc _ _ _ (by show Bn < _; have := hbt.size; omega)).trans (hold Bn hBn (fun e => hR.2.1 e.symm) hBnl))).symm)
      obtain ⟨f', rfl⟩ : ∃ f', f = f' + 1 := ⟨f - 1, by omega⟩
      cases hrd : readT str.data.toList k q b c with
      | error E =>
        rw [hrd] at hres
        obtain ⟨v, rfl, hE⟩ := hres
        obtain ⟨kk, u, rfl, hu⟩ := id hE
        obtain ⟨fn, tmps, assign, body, hy, hRd⟩ := hY ⟨q, c, pre⟩ ⟨0, ⟨#[]⟩, none, 0, 0, .iface 60 (.agg #[.int .i64 kk, u]), wr.heap.size, .error E⟩ _ 5 (hj1 (.cells #[.int .i64 0, .string ⟨#[]⟩, .slice none 0 0] 24))
          ⟨hrd.symm, ⟨hz1, by have := hbt.size; simp; omega⟩, hrow1 _, rfl, hE⟩
        dsimp only at hy
        have Hgl : Hid (readL (fun q c' => readT str.data.toList k q b c') (b - a) a b c₀ = .error E) := hide (by
          rw [unhide hgl, readL_err hlt hrd]; rfl)
        have Hrd := hide hrd
        clear hgl hrd hJI hY hrow hrow1 hj1 hE hu
        gi_wp2
        refine hRd.mono ?_
        rintro e W3 (⟨rfl, ⟨r, hE⟩, _⟩ | ⟨rfl, _, hx3⟩)
        · cases hE
        · gi_wp2
          refine bodyPost_ret (results_none rfl _ _ _) rfl ?_
          exact ⟨⟨_, rfl⟩, .inr ⟨⟨q, c, pre⟩, ⟨E, unhide Hgl, unhide Hrd⟩, hx3⟩⟩
      | ok r =>
        obtain ⟨T, nx, c'⟩ := r
        rw [hrd] at hres
        obtain ⟨v, rfl, hN, hT2⟩ := hres
        obtain ⟨p1, p2, p3, _, p5, p6⟩ := readT_props str.data.toList k q b c T nx c' (by simpa using hb) hc1 hrd
        obtain ⟨sa, sc, rfl, _⟩ := hN.shape
        obtain ⟨fn, tmps, assign, body, hy, hRd⟩ := hY ⟨q, c, pre⟩ ⟨tag T, dat T, sa, (kids T).length, sc, .nilIface, wr.heap.size, .ok (T, nx, c')⟩ _ 5 (hj1 (.cells #[.int .i64 (tag T), .string (dat T), .slice sa (kids T).length sc] 24))
          ⟨hrd.symm, ⟨hz1, by have := hbt.size; simp; omega⟩, hrow1 _, rfl, hN.below ((Below.refl _ _).alloc (Nat.le_refl _) _)⟩
        dsimp only at hy
        have Hgl : Hid (readL (fun q c' => readT str.data.toList k q b c') (b - a) a b c₀ = glue (pre ++ [T]) (readL (fun q c' => readT str.data.toList k q b c') f' nx b c')) := hide (by
          rw [unhide hgl, readL_ok hlt hrd, glue_glue])
        have HT2 := hide hT2
        clear hgl hrd hN hJI hY hrow hrow1 hj1 hT2
        gi_wp2
        refine hRd.mono ?_
        rintro e W3 (⟨rfl, _, hJ3, hk3⟩ | ⟨rfl, ⟨E, hE⟩, _⟩)
        · have hw3 : ∀ x v, x < D → x ≠ Bn → w1.cell? ⟨x, 0, none⟩ = some v → W3.cell? ⟨x, 0, none⟩ = some v := fun x v hx hn h => by
            have hl := lt_of_cell h
            have e1 := hk3.2 x hx hn (by have : x < w1.heap.size := hl; simp; omega)
            exact (World.cell?_of_block (w := w1) (a := ⟨x, 0, none⟩) (e1.trans (Below.heap_alloc _ _ _ hl))).trans h
          have ke3 := hw3 Be _ hBe.1 hBe.2.1 ke2
          have kr3 := hw3 Br _ hBr.1 hBr.2.1 kr2
          have kd3 := hw3 Bd _ hBd.1 hBd.2.1 kd2
          have hT3 : TRd R str c' W3 := by
            have hl := (unhide HT2).lt
            exact (unhide HT2).of ((hk3.2 R hR.1 hR.2.1 (by simp; omega)).trans (Below.heap_alloc _ _ _ hl))
          clear hw3
          gi_wp2
          go_roundw
          case rel => exact ⟨nx, c', f', pre ++ [T], rfl, p2, p6, by omega, Hgl, hJ3, hT3, ke3, kr3, kd3⟩
          case measure => simp [intOf]; omega
        · cases hE
    · have hge : ¬ (q : Int) < b := by omega
      have hfin : readL (fun q c' => readT str.data.toList k q b c') (b - a) a b c₀ = .ok (pre, c) := by
        rw [unhide hgl, readL_end hlt]; simp [glue]
      have Hf := hide hfin
      clear hfin hgl IH hY
      gi_wp2
      go_end0
      exact ⟨⟨_, rfl⟩, .inl ⟨⟨q, c, pre⟩, ⟨unhide Hf, hT1⟩, hj⟩⟩
end Go.Proofs.YthibodkemnkjeaaDoor
