/-
  What the document's count and long say of a tree, against its bytes: plain mathematics; no program. The document's shape, count and long of a tree (latinerref02), walked. The document's shape of a tree (latinerref02), walked. The document's long of a tree, and which trees are right (latinerref02), walked. Conditions: none.
-/
import Derived.Test.YthibodkemnkjeaaDoorTvBack
import Derived.Test.YthibodkemnkjeaaDoorTBox
import Derived.Test.YthibodkemnkjeaaDoorRefD
namespace Tv

/-- lengths added up, as long as they are at most 5000. -/
def lgL {α : Type} (f : α → Nat) : Nat → List α → Nat
  | b, [] => b
  | b, x :: xs => if b ≤ 5000 then lgL f (b + f x) xs else b
/-- how long a tree is said to be. -/
def lg : (n : Nat) → Tr n → Nat
  | 0, t => Empty.elim t
  | n + 1, T => 1 + (Sz.least (min (lgL (lg n) (dat T).size (kids T)) 5000)).length + min (lgL (lg n) (dat T).size (kids T)) 5000

theorem lgL_big {α : Type} (f : α → Nat) : ∀ (xs : List α) (b : Nat), 5000 < b → lgL f b xs = b
  | [], _, _ => rfl
  | x :: xs, b, h => by unfold lgL; rw [if_neg (by omega)]
theorem lgL_ge {α : Type} (f : α → Nat) : ∀ (xs : List α) (b : Nat), b ≤ lgL f b xs
  | [], b => Nat.le_refl _
  | x :: xs, b => by
    unfold lgL
    split
    · exact Nat.le_trans (Nat.le_add_right _ _) (lgL_ge f xs _)
    · exact Nat.le_refl _
theorem lgL_eq {α : Type} (f : α → Nat) (g : α → List UInt8) : ∀ (xs : List α) (b : Nat), (∀ x ∈ xs, f x = (g x).length) → b + (xs.map g).flatten.length ≤ 5000 → lgL f b xs = b + (xs.map g).flatten.length
  | [], b, _, _ => by simp [lgL]
  | x :: xs, b, h, hb => by
    simp only [List.map_cons, List.flatten_cons, List.length_append] at hb ⊢
    unfold lgL
    rw [if_pos (by omega), lgL_eq f g xs _ (fun y hy => h y (List.mem_cons_of_mem _ hy)) (by rw [h x (List.mem_cons_self ..)]; omega), h x (List.mem_cons_self ..)]
    omega
/-- either all is added up, or more than 4000 is reached. -/
theorem lgL_more {α : Type} (f : α → Nat) (g : α → List UInt8) : ∀ (xs : List α) (b : Nat), (∀ x ∈ xs, ((g x).length ≤ 4000 → f x = (g x).length) ∧ (4000 < (g x).length → 4000 < f x)) →
    lgL f b xs = b + (xs.map g).flatten.length ∨ 4000 < lgL f b xs
  | [], b, _ => by simp [lgL]
  | x :: xs, b, h => by
    simp only [List.map_cons, List.flatten_cons, List.length_append]
    unfold lgL
    split
    · have hx := h x (List.mem_cons_self ..)
      rcases Nat.lt_or_ge 4000 (g x).length with hl | hl
      · right
        have := lgL_ge f xs (b + f x)
        have := hx.2 hl
        omega
      · rw [hx.1 hl]
        rcases lgL_more f g xs (b + (g x).length) (fun y hy => h y (List.mem_cons_of_mem _ hy)) with e | e
        · left; rw [e]; omega
        · right; exact e
    · right; omega
theorem least_mono {a b : Nat} (h : a ≤ b) (hb : b ≤ 16777215) : (Sz.least a).length ≤ (Sz.least b).length := by
  rw [Sz.least_length, Sz.least_length]
  unfold Sz.wd
  repeat (split <;> try omega)
/-- long tells a tree's bytes, up to 4000. -/
theorem lg_spec : ∀ (n : Nat) (T : Tr n), ((enc n T).length ≤ 4000 → lg n T = (enc n T).length) ∧ (4000 < (enc n T).length → 4000 < lg n T)
  | 0, T => Empty.elim T
  | n + 1, T => by
    have hl := enc_len T
    have hbd : (body T).length = (dat T).size + ((kids T).map (enc n)).flatten.length := by unfold body; simp
    have hlg : lg (n + 1) T = 1 + (Sz.least (min (lgL (lg n) (dat T).size (kids T)) 5000)).length + min (lgL (lg n) (dat T).size (kids T)) 5000 := rfl
    refine ⟨fun h => ?_, fun h => ?_⟩
    · have e := lgL_eq (lg n) (enc n) (kids T) (dat T).size (fun x hx => (lg_spec n x).1 (by have := kid_body T x hx; omega)) (by omega)
      rw [hlg, e, ← hbd, Nat.min_eq_left (by omega), hl]
    · rcases lgL_more (lg n) (enc n) (kids T) (dat T).size (fun x _ => lg_spec n x) with e | e
      · rw [← hbd] at e
        rw [hlg, e]
        by_cases hb : (body T).length ≤ 5000
        · rw [Nat.min_eq_left hb]; omega
        · rw [Nat.min_eq_right (by omega)]; omega
      · rw [hlg]
        omega
theorem lg_le (n : Nat) (T : Tr n) : lg n T ≤ 5010 := by
  cases n with
  | zero => exact Empty.elim T
  | succ n =>
    have : lg (n + 1) T = 1 + (Sz.least (min (lgL (lg n) (dat T).size (kids T)) 5000)).length + min (lgL (lg n) (dat T).size (kids T)) 5000 := rfl
    have := least_len (min (lgL (lg n) (dat T).size (kids T)) 5000)
    omega
/-- as many bytes at least as trees. -/
theorem count_enc : ∀ (n : Nat) (T : Tr n), count n T ≤ (enc n T).length
  | 0, T => Empty.elim T
  | n + 1, T => by
    have hl := enc_len T
    have hbd : (body T).length = (dat T).size + ((kids T).map (enc n)).flatten.length := by unfold body; simp
    have hc : count (n + 1) T = 1 + ((kids T).map (count n)).sum := rfl
    have : ∀ xs : List (Tr n), (xs.map (count n)).sum ≤ (xs.map (enc n)).flatten.length := fun xs => by
      induction xs with
      | nil => simp
      | cons x xs ih => have := count_enc n x; simp only [List.map_cons, List.sum_cons, List.flatten_cons, List.length_append]; omega
    have := this (kids T)
    omega
theorem right_lg {n : Nat} (T : Tr n) : right T = (shape n 12 T && decide (count n T ≤ 200) && decide (lg n T ≤ 4000)) := by
  unfold right
  have h := lg_spec n T
  congr 1
  rw [Bool.eq_iff_iff]
  simp only [decide_eq_true_eq]
  omega
end Tv

namespace Go.Proofs.YthibodkemnkjeaaDoor
open Go.RowKit Tv T Go.Shelf

/-- the box that a function makes of its argument keeps its cells. -/
theorem boxKeep {w wr : World} {x y z : Value} (hb : Below (w.heap.size + 1) (w.alloc (.cells #[x, y, z] 24)) wr) : wr.cell? ⟨w.heap.size, 0, none⟩ = some x ∧ wr.cell? ⟨w.heap.size, 1, none⟩ = some y ∧ wr.cell? ⟨w.heap.size, 2, none⟩ = some z :=
  (cells3 ((hb.block w.heap.size (by omega)).trans (World.alloc_heap_new w _))).1
theorem boxBel {w wr : World} {o : Obj} (hb : Below (w.heap.size + 1) (w.alloc o) wr) : Below w.heap.size w wr := ((Below.refl _ _).alloc (Nat.le_refl _) _).trans (hb.mono (by omega))
theorem boxGo {w wr w' : World} {o : Obj} (hb : Below (w.heap.size + 1) (w.alloc o) wr) (h : Below wr.heap.size wr w') : Below (w.heap.size + 1) (w.alloc o) w' := hb.trans (h.mono (by have := hb.size; simp at this; omega))
theorem boxFirst (w : World) (o : Obj) : Below (w.heap.size + 1) (w.alloc o) (w.alloc o) := Below.refl _ _

/-- the sum of the first so many. -/
def cntTo {n : Nat} (T : Tr (n + 1)) (i : Nat) : Nat := 1 + (((kids T).take i).map (count n)).sum
theorem cntTo_succ {n : Nat} (T : Tr (n + 1)) (i : Nat) (h : i < (kids T).length) : cntTo T (i + 1) = cntTo T i + count n (kids T)[i] := by
  unfold cntTo
  rw [List.take_succ_eq_append_getElem h, List.map_append, List.sum_append]
  simp [Nat.add_assoc]
theorem cntTo_all {n : Nat} (T : Tr (n + 1)) (i : Nat) (h : (kids T).length ≤ i) : cntTo T i = count (n + 1) T := by
  unfold cntTo; rw [List.take_of_length_le h]; rfl
theorem wrap_add (a b : Int) : wrap64 (wrap64 a + wrap64 b) = wrap64 (a + b) := by unfold wrap64; omega

set_option maxRecDepth 100000 in
set_option maxHeartbeats 1000000 in
theorem refCount_any : ∀ (n : Nat) (T : Tr n) (w : World) (p : Nat → Prop) (v : Value), Node n w p v T →
    Calls Tryd.prog 36 #[v] w fun e w' => e = .returned (.int .i64 (wrap64 (count n T))) ∧ Below w.heap.size w w' := by
  intro n
  induction n with
  | zero => intro T; exact Empty.elim T
  | succ n ih =>
    intro T w p v hN
    obtain ⟨g, off, cap, a, hv, hd, hk, hks⟩ := kidsAt hN
    have IH := hide ih
    have HN := hide hN
    subst hv
    clear ih hN
    have hk' : ((kids T).length : Int) ≤ 4000 := by omega
    go_enter Tryd.func36, Tryd.ntmps36
    go_wp2
    go_loopw [3, 4] (fun x y wr => ∃ i : Nat, i ≤ (kids T).length ∧ x = .int .i64 (wrap64 (cntTo T i)) ∧ y = .int .i64 i ∧ Below (w.heap.size + 1) (w.alloc (.cells #[.int .i64 (tag T), .string (dat T), .slice a (kids T).length cap] 24)) wr) (fun _ y _ => (kids T).length - (intOf y).toNat)
    case atStart => exact ⟨0, Nat.zero_le _, by simp [cntTo, wrap64], rfl, boxFirst _ _⟩
    case round =>
      obtain ⟨i, hi, rfl, rfl, hb⟩ := hrel
      obtain ⟨c0, c1, c2⟩ := boxKeep hb
      by_cases hlt : i < (kids T).length
      · have ha : a = some ⟨g, off, none⟩ := hks.resolve_right (fun e => by rw [e] at hlt; cases hlt)
        obtain ⟨t, d, a', len', cap', d0, d1, d2, hNi⟩ := kidAt (unhide HN) (boxBel hb) hlt rfl ha
        have hsu := hide (cntTo_succ T i hlt)
        have H := hide ((unhide IH) (kids T)[i] wr p _ hNi)
        have hlt' : (i : Int) < (kids T).length := by omega
        have HB := hide hb
        subst ha
        clear hNi hks hb
        go_wp2_with (go_at_call 36; refine (unhide H).mono ?_; rintro e w' ⟨rfl, hb2⟩)
        go_roundw
        case rel =>
          refine ⟨i + 1, by omega, ?_, by simp, boxGo (unhide HB) hb2⟩
          rw [unhide hsu]
          show Value.int .i64 _ = Value.int .i64 _
          congr 1
          have := wrap_add (cntTo T i) (count n (kids T)[i])
          simpa [wrap64] using this
        case measure => simp [intOf]; omega
      · have hall := hide (cntTo_all T i (by omega))
        have hge : ¬ (i : Int) < (kids T).length := by omega
        have HB := hide hb
        clear hks hb
        go_wp2
        go_ret
        refine ⟨?_, boxBel (unhide HB)⟩
        rw [← unhide hall]
        rfl
end Go.Proofs.YthibodkemnkjeaaDoor

namespace Go.Proofs.YthibodkemnkjeaaDoor
open Go.RowKit Tv T Go.Shelf

set_option maxRecDepth 100000 in
set_option maxHeartbeats 2000000 in
theorem refShape_any : ∀ (n : Nat) (T : Tr n) (k : Nat) (w : World) (p : Nat → Prop) (v : Value), k ≤ 12 → Node n w p v T →
    Calls Tryd.prog 35 #[v, .int .i64 k] w fun e w' => e = .returned (.bool (Tv.shape n k T)) ∧ Below w.heap.size w w' := by
  intro n
  induction n with
  | zero => intro T; exact Empty.elim T
  | succ n ih =>
    intro T k w p v hk12 hN
    obtain ⟨g, off, cap, a, hv, hd, hk, hks⟩ := kidsAt hN
    have IH := hide ih
    have HN := hide hN
    subst hv
    clear ih hN
    have hk' : ((kids T).length : Int) ≤ 4000 := by omega
    by_cases h0 : tag T < 0
    · rw [show Tv.shape (n + 1) k T = false by unfold Tv.shape; rw [show fitB (tag T) (dat T).size (kids T).length = false by unfold fitB; rw [decide_eq_false]; omega]; simp]
      go_enter Tryd.func35, Tryd.ntmps35
      go_wp2
      go_ret
      exact ⟨rfl, (Below.refl _ _).alloc (Nat.le_refl _) _⟩
    have d0 : decide (tag T < 0) = false := decide_eq_false h0
    by_cases h1 : 255 < tag T
    · rw [show Tv.shape (n + 1) k T = false by unfold Tv.shape; rw [show fitB (tag T) (dat T).size (kids T).length = false by unfold fitB; rw [decide_eq_false]; omega]; simp]
      go_enter Tryd.func35, Tryd.ntmps35
      go_wp2
      go_ret
      exact ⟨rfl, (Below.refl _ _).alloc (Nat.le_refl _) _⟩
    have d1 : decide (255 < tag T) = false := decide_eq_false h1
    by_cases h2 : tag T % 32 = 31
    · rw [show Tv.shape (n + 1) k T = false by unfold Tv.shape; rw [show fitB (tag T) (dat T).size (kids T).length = false by unfold fitB; rw [decide_eq_false]; omega]; simp]
      have h0' : 0 ≤ tag T := by omega
      go_enter Tryd.func35, Tryd.ntmps35
      go_wp2
      go_ret
      exact ⟨rfl, (Below.refl _ _).alloc (Nat.le_refl _) _⟩
    have d2 : (tag T % 32 == 31) = false := beq_eq_false_iff_ne.2 h2
    have h0' : 0 ≤ tag T := by omega
    by_cases h3 : k = 0
    · subst h3
      rw [show Tv.shape (n + 1) 0 T = false by unfold Tv.shape; simp]
      go_enter Tryd.func35, Tryd.ntmps35
      go_wp2
      go_ret
      exact ⟨rfl, (Below.refl _ _).alloc (Nat.le_refl _) _⟩
    have d3 : decide ((k : Int) < 1) = false := decide_eq_false (by omega)
    have hfit : fitB (tag T) (dat T).size (kids T).length = decide ((isIn (tag T) = true → (dat T).size = 0) ∧ (isIn (tag T) = false → (kids T).length = 0)) := by
      unfold fitB
      rw [decide_eq_decide]
      constructor
      · exact fun h => h.2.2.2
      · exact fun h => ⟨by omega, by omega, h2, h⟩
    have hsh : Tv.shape (n + 1) k T = (fitB (tag T) (dat T).size (kids T).length && (kids T).all (Tv.shape n (k - 1))) := by
      show (decide (0 < k) && fitB (tag T) (dat T).size (kids T).length && (kids T).all (Tv.shape n (k - 1))) = _
      rw [decide_eq_true (by omega : 0 < k), Bool.true_and]
    have h255 : tag T ≤ 255 := by omega
    by_cases hI : tag T / 32 % 2 = 1
    · have hin : isIn (tag T) = true := decide_eq_true hI
      rw [hin] at hfit
      have dI : (tag T / 32 % 2 == 1) = true := beq_iff_eq.2 hI
      by_cases hz : (dat T).size = 0
      · have dz : (dat T).toList.isEmpty = true := by
          rw [ByteArray.toList_eq]
          have : (dat T).data.size = 0 := hz
          rw [List.isEmpty_iff, ← List.length_eq_zero_iff, Array.length_toList]
          exact this
        rw [show fitB (tag T) (dat T).size (kids T).length = true by rw [hfit]; exact decide_eq_true ⟨fun _ => hz, fun h => by cases h⟩, Bool.true_and] at hsh
        have HSH := hide hsh
        clear hsh hfit h2 hin hz
        go_enter Tryd.func35, Tryd.ntmps35
        go_wp2
        go_loopw [6] (fun y wr => ∃ i : Nat, i ≤ (kids T).length ∧ y = .int .i64 i ∧ Below (w.heap.size + 1) (w.alloc (.cells #[.int .i64 (tag T), .string (dat T), .slice a (kids T).length cap] 24)) wr ∧ Hid (∀ j (hj : j < (kids T).length), j < i → Tv.shape n (k - 1) (kids T)[j] = true)) (fun y _ => (kids T).length - (intOf y).toNat)
        case atStart => exact ⟨0, Nat.zero_le _, rfl, boxFirst _ _, fun j _ h => by omega⟩
        case round =>
          obtain ⟨i, hi, rfl, hb, hpre⟩ := hrel
          obtain ⟨c0, c1, c2⟩ := boxKeep hb
          by_cases hlt : i < (kids T).length
          · have ha : a = some ⟨g, off, none⟩ := hks.resolve_right (fun e => by rw [e] at hlt; cases hlt)
            obtain ⟨t, d, a', len', cap', e0, e1, e2, hNi⟩ := kidAt (unhide HN) (boxBel hb) hlt rfl ha
            have H := (unhide IH) (kids T)[i] (k - 1) wr p _ (by omega) hNi
            rw [show ((k - 1 : Nat) : Int) = (k : Int) - 1 by omega] at H
            have HH := hide H
            have hlt' : (i : Int) < (kids T).length := by omega
            have hkk : (k : Int) ≤ 12 := by omega
            have hk1 : 1 ≤ (k : Int) := by omega
            have HB := hide hb
            subst ha
            clear hNi hks hb H
            cases hs : Tv.shape n (k - 1) (kids T)[i]
            · rw [hs] at HH
              have HS := hide hs
              clear hs
              go_wp2_with (go_at_call 35; refine (unhide HH).mono ?_; rintro e w' ⟨rfl, hb2⟩)
              go_ret
              refine ⟨?_, boxBel (boxGo (unhide HB) hb2)⟩
              rw [unhide HSH, List.all_eq_false.2 ⟨_, List.getElem_mem hlt, by rw [unhide HS]; exact Bool.false_ne_true⟩]
              rfl
            · rw [hs] at HH
              have HS := hide hs
              clear hs
              go_wp2_with (go_at_call 35; refine (unhide HH).mono ?_; rintro e w' ⟨rfl, hb2⟩)
              go_roundw
              case rel =>
                refine ⟨i + 1, by omega, by simp, boxGo (unhide HB) hb2, fun j hj hji => ?_⟩
                by_cases e : j = i
                · subst e; exact unhide HS
                · exact (unhide hpre) j hj (by omega)
              case measure => simp [intOf]; omega
          · have hge : ¬ (i : Int) < (kids T).length := by omega
            have HB := hide hb
            clear hks hb
            go_wp2
            go_ret
            refine ⟨?_, boxBel (unhide HB)⟩
            rw [unhide HSH, List.all_eq_true.2 (fun x hx => by
              obtain ⟨j, hj, rfl⟩ := List.getElem_of_mem hx
              exact (unhide hpre) j hj (by omega))]
            rfl
      · have dz : (dat T).toList.isEmpty = false := by
          rw [ByteArray.toList_eq, Bool.eq_false_iff, ne_eq, List.isEmpty_iff, ← List.length_eq_zero_iff, Array.length_toList]
          exact hz
        rw [hsh, show fitB (tag T) (dat T).size (kids T).length = false by rw [hfit]; exact decide_eq_false fun h => hz (h.1 rfl), Bool.false_and]
        clear hsh hfit h2 hin hz
        go_enter Tryd.func35, Tryd.ntmps35
        go_wp2
        go_ret
        exact ⟨rfl, (Below.refl _ _).alloc (Nat.le_refl _) _⟩
    · have hin : isIn (tag T) = false := decide_eq_false hI
      rw [hin] at hfit
      have dI : (tag T / 32 % 2 == 1) = false := beq_eq_false_iff_ne.2 hI
      by_cases hz : (kids T).length = 0
      · have hz' : ¬ (0 : Int) < (kids T).length := by omega
        have dz : decide (0 < (kids T).length) = false := decide_eq_false (by omega)
        rw [hsh, show fitB (tag T) (dat T).size (kids T).length = true by rw [hfit]; exact decide_eq_true ⟨fun h => (by cases h), fun _ => hz⟩, Bool.true_and, List.eq_nil_of_length_eq_zero hz]
        clear hsh hfit h2 hin
        go_enter Tryd.func35, Tryd.ntmps35
        go_wp2
        refine wp_loop_rounds 1 ?_
        rw [rounds_succ]
        go_wp2
        go_ret
        exact ⟨rfl, (Below.refl _ _).alloc (Nat.le_refl _) _⟩
      · have dz : decide (0 < (kids T).length) = true := decide_eq_true (by omega)
        rw [hsh, show fitB (tag T) (dat T).size (kids T).length = false by rw [hfit]; exact decide_eq_false fun h => hz (h.2 rfl), Bool.false_and]
        have hz2 : (0 : Int) < (kids T).length := by omega
        clear hsh hfit h2 hin hz
        go_enter Tryd.func35, Tryd.ntmps35
        go_wp2
        go_ret
        exact ⟨rfl, (Below.refl _ _).alloc (Nat.le_refl _) _⟩
end Go.Proofs.YthibodkemnkjeaaDoor

namespace Go.Proofs.YthibodkemnkjeaaDoor
open Go.RowKit Tv T Go.Shelf

theorem lgL_cons {α : Type} (f : α → Nat) (b : Nat) (x : α) (xs : List α) : lgL f b (x :: xs) = if b ≤ 5000 then lgL f (b + f x) xs else b := rfl

set_option maxRecDepth 100000 in
set_option maxHeartbeats 2000000 in
theorem refLong_any : ∀ (n : Nat) (T : Tr n) (w : World) (p : Nat → Prop) (v : Value), Node n w p v T →
    Calls Tryd.prog 34 #[v] w fun e w' => e = .returned (.int .i64 (lg n T)) ∧ Below w.heap.size w w' := by
  intro n
  induction n with
  | zero => intro T; exact Empty.elim T
  | succ n ih =>
    intro T w p v hN
    obtain ⟨g, off, cap, a, hv, hd, hk, hks⟩ := kidsAt hN
    have IH := hide ih
    have HN := hide hN
    subst hv
    clear ih hN
    have hk' : ((kids T).length : Int) ≤ 4000 := by omega
    have hd' : ((dat T).size : Int) ≤ 9000 := by omega
    have HL := hide (show lg (n + 1) T = 1 + (Sz.least (min (lgL (lg n) (dat T).size (kids T)) 5000)).length + min (lgL (lg n) (dat T).size (kids T)) 5000 from rfl)
    go_enter Tryd.func34, Tryd.ntmps34
    go_wp2
    go_loopw [3, 4] (fun x y wr => ∃ i b : Nat, i ≤ (kids T).length ∧ b ≤ 15000 ∧ x = .int .i64 b ∧ y = .int .i64 i ∧ Below (w.heap.size + 1) (w.alloc (.cells #[.int .i64 (tag T), .string (dat T), .slice a (kids T).length cap] 24)) wr ∧ Hid (lgL (lg n) (dat T).size (kids T) = lgL (lg n) b ((kids T).drop i))) (fun _ y _ => (kids T).length - (intOf y).toNat)
    case atStart => exact ⟨0, (dat T).size, Nat.zero_le _, by omega, rfl, rfl, boxFirst _ _, rfl⟩
    case round =>
      obtain ⟨i, b, hi, hb15, rfl, rfl, hb, hT⟩ := hrel
      obtain ⟨c0, c1, c2⟩ := boxKeep hb
      have hb15' : (b : Int) ≤ 15000 := by omega
      by_cases hlt : i < (kids T).length
      · have hlt' : (i : Int) < (kids T).length := by omega
        have edr : (kids T).drop i = (kids T)[i] :: (kids T).drop (i + 1) := List.drop_eq_getElem_cons hlt
        by_cases h5 : b ≤ 5000
        · have h5' : (b : Int) ≤ 5000 := by omega
          have ha : a = some ⟨g, off, none⟩ := hks.resolve_right (fun e => by rw [e] at hlt; cases hlt)
          obtain ⟨t, d, a', len', cap', e0, e1, e2, hNi⟩ := kidAt (unhide HN) (boxBel hb) hlt rfl ha
          have H := hide ((unhide IH) (kids T)[i] wr p _ hNi)
          have hle := lg_le n (kids T)[i]
          have hle' : ((lg n (kids T)[i] : Nat) : Int) ≤ 5010 := by omega
          have HT2 := hide (show lgL (lg n) (dat T).size (kids T) = lgL (lg n) (b + lg n (kids T)[i]) ((kids T).drop (i + 1)) by rw [unhide hT, edr, lgL_cons, if_pos h5])
          have HB := hide hb
          subst ha
          clear hNi hks hb edr
          go_wp2_with (go_at_call 34; refine (unhide H).mono ?_; rintro e w' ⟨rfl, hb2⟩)
          go_roundw
          case rel => exact ⟨i + 1, b + lg n (kids T)[i], by omega, by omega, by simp, by simp, boxGo (unhide HB) hb2, unhide HT2⟩
          case measure => simp [intOf]; omega
        · have h5' : decide ((b : Int) ≤ 5000) = false := decide_eq_false (by omega)
          have HT := hide (show lgL (lg n) (dat T).size (kids T) = b by rw [unhide hT]; exact lgL_big _ _ _ (by omega))
          clear edr hT
          have H := hide (refSize_ok (min (b : Int) 5000) wr (by omega) (by omega))
          have hl5 := least_len (min (b : Int) 5000).toNat
          have hl5' : (((Sz.least (min (b : Int) 5000).toNat).length : Nat) : Int) ≤ 5 := by omega
          have HB := hide hb
          have HM := hide (show (min (b : Int) 5000).toNat = min b 5000 by omega)
          clear hks hb hl5
          go_wp2_with fail
          refine (unhide H).mono ?_
          rintro e w' ⟨rfl, hb2⟩
          have HB2 := hide (boxBel (boxGo (unhide HB) hb2))
          clear hb2
          go_wp2
          go_ret
          refine ⟨?_, unhide HB2⟩
          rw [unhide HL]
          refine congrArg (fun x => Ending.returned (Value.int .i64 x)) (?_ : _ = (((1 + (Sz.least (min (lgL (lg n) (dat T).size (kids T)) 5000)).length + min (lgL (lg n) (dat T).size (kids T)) 5000 : Nat)) : Int))
          rw [unhide HT, ← unhide HM]
          omega
      · have hge : ¬ (i : Int) < (kids T).length := by omega
        have hge' : decide ((i : Int) < (kids T).length) = false := decide_eq_false hge
        have HT := hide (show lgL (lg n) (dat T).size (kids T) = b by rw [unhide hT, List.drop_of_length_le (by omega)]; rfl)
        clear hT
        have H := hide (refSize_ok (min (b : Int) 5000) wr (by omega) (by omega))
        have hl5 := least_len (min (b : Int) 5000).toNat
        have hl5' : (((Sz.least (min (b : Int) 5000).toNat).length : Nat) : Int) ≤ 5 := by omega
        have HB := hide hb
        have HM := hide (show (min (b : Int) 5000).toNat = min b 5000 by omega)
        clear hks hb hl5
        go_wp2_with fail
        refine (unhide H).mono ?_
        rintro e w' ⟨rfl, hb2⟩
        have HB2 := hide (boxBel (boxGo (unhide HB) hb2))
        clear hb2
        go_wp2
        go_ret
        refine ⟨?_, unhide HB2⟩
        rw [unhide HL]
        refine congrArg (fun x => Ending.returned (Value.int .i64 x)) (?_ : _ = (((1 + (Sz.least (min (lgL (lg n) (dat T).size (kids T)) 5000)).length + min (lgL (lg n) (dat T).size (kids T)) 5000 : Nat)) : Int))
        rw [unhide HT, ← unhide HM]
        omega

theorem wrap_small {n : Nat} (h : n ≤ 9000000000000000000) : wrap64 (n : Int) = n := by unfold wrap64; omega

set_option maxRecDepth 100000 in
set_option maxHeartbeats 1000000 in
theorem refRight_any (n : Nat) (T : Tr n) (w : World) (p : Nat → Prop) (v : Value) (hN : Node n w p v T) :
    Calls Tryd.prog 22 #[v] w fun e w' => e = .returned (.bool (right T)) ∧ Below w.heap.size w w' := by
  obtain ⟨t, d, a, len, cap, rfl⟩ := hN.agg
  have hb0 : Below w.heap.size w (w.alloc (.cells #[.int .i64 t, .string d, .slice a len cap] 24)) := (Below.refl _ _).alloc (Nat.le_refl _) _
  have h1 := refShape_any n T 12 _ p _ (by omega) (hN.below hb0)
  have HC := hide fun W (hb : Below w.heap.size w W) => refCount_any n T W p _ (hN.below hb)
  have HG := hide fun W (hb : Below w.heap.size w W) => refLong_any n T W p _ (hN.below hb)
  have hr := right_lg T
  have hgl := lg_spec n T
  have hce := count_enc n T
  have hlt : w.heap.size < (w.alloc (.cells #[.int .i64 t, .string d, .slice a len cap] 24)).heap.size := by simp
  have hq := World.alloc_heap_new w (.cells #[.int .i64 t, .string d, .slice a len cap] 24)
  have H1 := hide h1
  have HB0 := hide hb0
  have HQ := hide hq
  have HLT := hide hlt
  clear h1 hN hb0 hq hlt
  go_enter Tryd.func22, Tryd.ntmps22
  go_wp2_with fail
  refine (unhide H1).mono ?_
  rintro e w1 ⟨rfl, hb1⟩
  have HB1 := hide ((unhide HB0).trans (hb1.mono (unhide HB0).size))
  have hq1 := (hb1.block _ (unhide HLT)).trans (unhide HQ)
  obtain ⟨⟨c0, c1, c2⟩, _⟩ := cells3 hq1
  have HQ1 := hide hq1
  clear hb1 hq1 H1 HQ HLT HB0
  cases hs : Tv.shape n 12 T
  · rw [hs] at hr
    have HR := hide hr
    clear hr hs hgl hce
    go_wp2
    go_ret
    refine ⟨?_, unhide HB1⟩
    rw [unhide HR]
    rfl
  · rw [hs, Bool.true_and] at hr
    have HR := hide hr
    have HGL := hide hgl
    have HCE := hide hce
    clear hr hgl hce hs
    go_wp2_with fail
    refine ((unhide HC) _ (unhide HB1)).mono ?_
    rintro e w2 ⟨rfl, hb2⟩
    have HB2 := hide ((unhide HB1).trans (hb2.mono (unhide HB1).size))
    obtain ⟨⟨d0, d1, d2⟩, _⟩ := cells3 ((hb2.block _ (Array.getElem?_eq_some_iff.1 (unhide HQ1)).1).trans (unhide HQ1))
    clear hb2 HQ1 c0 c1 c2
    by_cases hc : wrap64 (count n T : Int) ≤ 200
    · have hfin : right T = decide (lg n T ≤ 4000) := by
        rw [unhide HR]
        by_cases h2 : count n T ≤ 200
        · rw [decide_eq_true h2, Bool.true_and]
        · have hbig : 9000000000000000000 < count n T := by
            refine Nat.lt_of_not_le fun h => ?_
            rw [wrap_small h] at hc
            omega
          have h1 := unhide HCE
          have h3 := (unhide HGL).2 (by omega)
          rw [decide_eq_false h2, Bool.false_and, decide_eq_false (by omega)]
      have HF := hide hfin
      clear hfin
      generalize wrap64 (count n T : Int) = cw at *
      go_wp2_with fail
      refine ((unhide HG) _ (unhide HB2)).mono ?_
      rintro e w3 ⟨rfl, hb3⟩
      have HB3 := hide ((unhide HB2).trans (hb3.mono (unhide HB2).size))
      clear hb3
      go_wp2
      go_ret
      refine ⟨?_, unhide HB3⟩
      rw [unhide HF]
      refine congrArg (fun b => Ending.returned (Value.bool b)) (?_ : _ = decide (lg n T ≤ 4000))
      rw [decide_eq_decide]
      omega
    · have hcf : decide (wrap64 (count n T : Int) ≤ 200) = false := decide_eq_false hc
      have HCC := hide hc
      clear hc
      go_wp2
      go_ret
      refine ⟨?_, unhide HB2⟩
      have hc := unhide HCC
      rw [unhide HR, decide_eq_false (fun h : count n T ≤ 200 => by rw [wrap_small (by omega)] at hc; omega), Bool.false_and]
      rfl
end Go.Proofs.YthibodkemnkjeaaDoor
