/-
  How tlv.all goes through the trees in a tree: the iterator. Conditions: none.
-/
import Derived.Test.YthibodkemnkjeaaDoorTMeasure
import Derived.Test.YthibodkemnkjeaaDoorTRange
import Derived.Test.YthibodkemnkjeaaDoorTTree1
namespace Go.Proofs.YthibodkemnkjeaaDoor
open Go.RowKit Tv T Go.Shelf
attribute [local go_sem] Oper.semAt_some

/-- one of the trees that are gone through: how deep it stands, its fields. -/
structure Visit where
  deep : Int
  t : Int
  d : ByteArray
  sa : Option Addr
  sn : Nat
  sc : Nat
abbrev Visit.cs (x : Visit) : Array Value := #[.int .i64 x.t, .string x.d, .slice x.sa x.sn x.sc]
/-- it may be passed. -/
def good (c : Nat) (x : Visit) : Prop := c < 200 ∧ x.deep ≤ 12 ∧ fitB x.t x.d.size x.sn = true
/-- what a round keeps: all but some blocks. -/
def Low (X : Nat → Prop) (A B : World) : Prop := A.heap.size ≤ B.heap.size ∧ ∀ k, k < A.heap.size → ¬ X k → B.heap[k]? = A.heap[k]?
theorem Low.refl (X : Nat → Prop) (A : World) : Low X A A := ⟨Nat.le_refl _, fun _ _ _ => rfl⟩
theorem Low.trans {X : Nat → Prop} {A B C : World} (h : Low X A B) (k : Low X B C) : Low X A C := ⟨Nat.le_trans h.1 k.1, fun i hl hn => (k.2 i (Nat.lt_of_lt_of_le hl h.1) hn).trans (h.2 i hl hn)⟩
theorem Low.alloc {X : Nat → Prop} {A B : World} (h : Low X A B) (o : Obj) : Low X A (B.alloc o) := h.trans ⟨by simp, fun k hl _ => Below.heap_alloc B o k hl⟩
theorem Node.low {n : Nat} {X : Nat → Prop} {W W' : World} {v : Value} {T : Tr n} (h : Node n W (fun b => ¬ X b) v T) (hk : Low X W W') : Node n W' (fun b => ¬ X b) v T := h.of fun b hb hl => hk.2 b hl hb

theorem kidLow {n : Nat} {X : Nat → Prop} {w wr : World} {T : Tr (n + 1)} {v : Value} (h : Node (n + 1) w (fun b => ¬ X b) v T) (hk : Low X w wr) {i : Nat} (hi : i < (kids T).length) {g off : Nat} {a : Option Addr} {cap : Nat} (hv : v = .agg #[.int .i64 (tag T), .string (dat T), .slice a (kids T).length cap]) (ha : a = some ⟨g, off, none⟩) :
    ∃ t d a' len' cap', wr.cell? ⟨g, off + i * 3, none⟩ = some (.int .i64 t) ∧ wr.cell? ⟨g, off + i * 3 + 1, none⟩ = some (.string d) ∧ wr.cell? ⟨g, off + i * 3 + 2, none⟩ = some (.slice a' len' cap') ∧ Node n wr (fun b => ¬ X b) (.agg #[.int .i64 t, .string d, .slice a' len' cap']) (kids T)[i] :=
  kidAt (h.low hk) (Below.refl _ _) hi hv ha

theorem okL_app {α : Type} (f : Nat → α → Option Nat) : ∀ (xs ys : List α) (c : Nat), okL f c (xs ++ ys) = (okL f c xs).bind fun c' => okL f c' ys
  | [], ys, c => rfl
  | x :: xs, ys, c => by
    simp only [List.cons_append, okL]
    cases f c x with
    | none => rfl
    | some c' => simp [okL_app f xs ys c']
theorem okL_none {α : Type} (f : Nat → α → Option Nat) (xs : List α) (i c c' : Nat) (hi : i < xs.length) (h1 : okL f c (xs.take i) = some c') (h2 : f c' xs[i] = none) : okL f c xs = none := by
  rw [← List.take_append_drop i xs, okL_app, h1, List.drop_eq_getElem_cons hi]
  simp [okL, h2]
theorem okL_some {α : Type} (f : Nat → α → Option Nat) (xs : List α) (i c c' c'' : Nat) (hi : i < xs.length) (h1 : okL f c (xs.take i) = some c') (h2 : f c' xs[i] = some c'') : okL f c (xs.take (i + 1)) = some c'' := by
  rw [List.take_succ_eq_append_getElem hi, okL_app, h1]
  simp [okL, h2]

/-- what pass leaves. -/
def PassPost (X : Nat → Prop) (J : Nat → World → Prop) (Jx : World → Prop) (W : World) (r : Option Nat) (e : Ending) (W' : World) : Prop :=
  (∃ c', e = .returned (.bool true) ∧ r = some c' ∧ J c' W' ∧ Low X W W') ∨ (e = .returned (.bool false) ∧ r = none ∧ Jx W')

set_option maxRecDepth 100000 in
set_option maxHeartbeats 2000000 in
theorem pass_any (l : Nat) (X : Nat → Prop) (J : Nat → World → Prop) (Jx : World → Prop) (hJ : ∀ c A o, J c A → J c (A.alloc o)) (hJX : ∀ c A k, J c A → X k → k < A.heap.size)
    (hY : ∀ c x W m, J c W → YieldAt Fence.wide m Tryd.prog l #[.int .i64 x.deep, .agg x.cs] W fun e W2 => (e = .returned (.bool true) ∧ good c x ∧ J (c + 1) W2 ∧ Low X W W2) ∨ (e = .returned (.bool false) ∧ ¬ good c x ∧ Jx W2)) :
    ∀ (n : Nat) (T : Tr n) (c deep : Nat) (W : World) (v : Value), Node n W (fun b => ¬ X b) v T → J c W → deep ≤ 1000 - n → n ≤ 100 →
      Calls Tryd.prog 56 #[v, .int .i64 deep, .func (.yield l) #[] #[]] W (PassPost X J Jx W (okT n c deep T)) := by
  intro n
  induction n with
  | zero => intro T; exact Empty.elim T
  | succ n ih =>
    intro T c deep W v hN hj hdp hn
    obtain ⟨g, off, cap, a, hv, hd, hk, hks⟩ := kidsAt hN
    have HN := hide hN
    have IH := hide ih
    subst hv
    clear ih hN
    obtain ⟨fn, tmps, assign, body, hy, hR⟩ := hY c ⟨deep, tag T, dat T, a, (kids T).length, cap⟩ _ 4 (hJ _ _ (.cells #[.int .i64 (tag T), .string (dat T), .slice a (kids T).length cap] 24) hj)
    dsimp only at hy
    have HY := hide hY
    clear hY
    refine (callsIn_wide (n := 5)).1 ?_
    refine callsIn_of_wp Tryd.func56 rfl trivial ?_ rfl
    simp only [Tryd.ntmps56, List.size_toArray, List.length_cons, List.length_nil, Nat.reduceAdd, Nat.reduceSub, Array.replicate_succ, Array.replicate_zero, List.push_toArray, List.append_toArray, List.nil_append, List.cons_append]
    gi_wp2
    refine hR.mono ?_
    rintro e W2 (⟨rfl, hg, hj2, hlow⟩ | ⟨rfl, hg, hx⟩)
    · have hok : okT (n + 1) c deep T = okL (fun c' x => okT n c' (deep + 1) x) (c + 1) (kids T) := by
        obtain ⟨h1, h2, h3⟩ := hg
        dsimp only at h1 h2 h3
        rw [okT, if_pos ⟨h1, by omega, h3⟩]
      have Hok := hide hok
      clear hok hg hR
      have hbox : W2.heap[W.heap.size]? = some (.cells #[.int .i64 (tag T), .string (dat T), .slice a (kids T).length cap] 24 (0, 0)) :=
        (hlow.2 _ (by simp) (fun hx => by have := hJX _ _ _ hj hx; omega)).trans (World.alloc_heap_new W _)
      obtain ⟨b0, b1, b2⟩ := (cells3 hbox).1
      have hlow2 : Low X W W2 := ((Low.refl X W).alloc _).trans hlow
      have hk' : ((kids T).length : Int) ≤ 4000 := by omega
      gi_wp2
      gi_loopw [17] (fun y wr => ∃ i c' : Nat, i ≤ (kids T).length ∧ y = .int .i64 i ∧ Hid (okL (fun c' x => okT n c' (deep + 1) x) (c + 1) ((kids T).take i) = some c') ∧ J c' wr ∧ Low X W wr) (fun y _ => (kids T).length - (intOf y).toNat)
      case atStart => exact ⟨0, c + 1, Nat.zero_le _, rfl, rfl, hj2, hlow2⟩
      case round =>
        obtain ⟨i, c1, hi, rfl, hsum, hj3, hlow3⟩ := hrel
        clear b0 b1 b2 hbox hlow hlow2 hj2
        by_cases hlt : i < (kids T).length
        · have ha : a = some ⟨g, off, none⟩ := hks.resolve_right (fun e => by rw [e] at hlt; cases hlt)
          obtain ⟨t, d, a', len', cap', c0, c1', c2, hNi⟩ := kidLow (unhide HN) hlow3 hlt rfl ha
          have H := hide (fun o => by
            have := (unhide IH) (kids T)[i] c1 (deep + 1) (wr.alloc o) _ (hNi.low ((Low.refl X wr).alloc o)) (hJ _ _ _ hj3) (by omega) (by omega)
            rw [Int.natCast_add] at this
            exact this)
          have hlt' : (i : Int) < (kids T).length := by omega
          have hd1 : (deep : Int) ≤ 1000 := by omega
          subst ha
          clear hNi hks
          gi_wp2_with fail
          refine ⟨trivial, (callsIn_wide.2 ((unhide H) _)).mono ?_⟩
          rintro e W3 (⟨c2, rfl, hs2, hj4, hlow4⟩ | ⟨rfl, hs2, hx⟩)
          · have Hs := hide (okL_some _ _ _ _ _ _ hlt (unhide hsum) hs2)
            clear hsum hs2 H
            gi_wp2
            go_roundw
            case rel => exact ⟨i + 1, c2, by omega, by simp, Hs, hj4, hlow3.trans (((Low.refl X wr).alloc _).trans hlow4)⟩
            case measure => simp [intOf]; omega
          · have hno : okT (n + 1) c deep T = none := by rw [unhide Hok]; exact okL_none _ _ _ _ _ hlt (unhide hsum) hs2
            have Hno := hide hno
            clear hno hsum hs2 H
            gi_wp2
            go_ret
            exact .inr ⟨rfl, unhide Hno, hx⟩
        · have hge : ¬ (i : Int) < (kids T).length := by omega
          have hfin : okT (n + 1) c deep T = some c1 := by rw [unhide Hok, ← unhide hsum, List.take_of_length_le (by omega)]
          have Hfin := hide hfin
          clear hfin hsum hks
          gi_wp2
          go_ret
          exact .inl ⟨c1, rfl, unhide Hfin, hj3, hlow3⟩
    · have hno : okT (n + 1) c deep T = none := by
        rw [okT, if_neg]
        rintro ⟨h1, h2, h3⟩
        exact hg ⟨h1, by dsimp only; omega, h3⟩
      have Hno := hide hno
      clear hno hg hR
      gi_wp2
      go_ret
      exact .inr ⟨rfl, unhide Hno, hx⟩
end Go.Proofs.YthibodkemnkjeaaDoor
