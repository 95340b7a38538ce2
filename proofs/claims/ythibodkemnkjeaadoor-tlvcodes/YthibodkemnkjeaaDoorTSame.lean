/-
  What tlv.Same answers. Conditions: none.
-/
import Derived.Test.YthibodkemnkjeaaDoorTLay
namespace Go.Proofs.YthibodkemnkjeaaDoor
open Go.RowKit Tv Go.Shelf

theorem allB_len {α : Type} (f : α → α → Bool) : ∀ (xs ys : List α), xs.length ≠ ys.length → allB f xs ys = false
  | [], [], h => absurd rfl h
  | [], _ :: _, _ => rfl
  | _ :: _, [], _ => rfl
  | x :: xs, y :: ys, h => by
    rw [allB, allB_len f xs ys (by simpa using h), Bool.and_false]
theorem allB_true {α : Type} (f : α → α → Bool) : ∀ (xs ys : List α) (hl : xs.length = ys.length), (∀ (j : Nat) (h : j < xs.length), f xs[j] (ys[j]'(hl ▸ h)) = true) → allB f xs ys = true
  | [], [], _, _ => rfl
  | [], _ :: _, hl, _ => by cases hl
  | _ :: _, [], hl, _ => by cases hl
  | x :: xs, y :: ys, hl, h => by
    rw [allB, Bool.and_eq_true]
    exact ⟨h 0 (by simp), allB_true f xs ys (by simpa using hl) fun j hj => h (j + 1) (by simpa using hj)⟩
theorem allB_false {α : Type} (f : α → α → Bool) : ∀ (xs ys : List α) (hl : xs.length = ys.length) (j : Nat) (h : j < xs.length), f xs[j] (ys[j]'(hl ▸ h)) = false → allB f xs ys = false
  | [], _, _, j, h, _ => by cases h
  | _ :: _, [], hl, _, _, _ => by cases hl
  | x :: xs, y :: ys, hl, 0, h, hf => by
    simp at hf
    rw [allB, hf, Bool.false_and]
  | x :: xs, y :: ys, hl, j + 1, h, hf => by
    rw [allB, allB_false f xs ys (by simpa using hl) j (by simpa using h) (by simpa using hf), Bool.and_false]

/-- what Same answers, at one depth. -/
def SameIs (n : Nat) : Prop := ∀ (A B : Tr n) (w : World) (p q : Nat → Prop) (u v : Value), Node n w p u A → Node n w q v B →
  Calls Tryd.prog 23 #[u, v] w fun e w' => e = .returned (.bool (same n A B)) ∧ Below w.heap.size w w'

set_option maxRecDepth 100000 in
set_option maxHeartbeats 1000000 in
theorem equal_any (n : Nat) (ih : SameIs n) (A B : Tr (n + 1)) (w : World) (p q : Nat → Prop) (a b : Option Addr) (cap cap' : Nat) (hA : Node (n + 1) w p (.agg #[.int .i64 (tag A), .string (dat A), .slice a (kids A).length cap]) A) (hB : Node (n + 1) w q (.agg #[.int .i64 (tag B), .string (dat B), .slice b (kids B).length cap']) B) :
    Calls Tryd.prog 37 #[.slice a (kids A).length cap, .slice b (kids B).length cap', .func (.func 23) #[] #[]] w fun e w' => e = .returned (.bool (allB (same n) (kids A) (kids B))) ∧ Below w.heap.size w w' := by
  have HA := hide hA
  have HB := hide hB
  obtain ⟨g, off, _, _, hv, _, hk, hks⟩ := kidsAt hA
  injection hv with hv
  have e' := congrArg Array.toList hv
  simp only [List.cons.injEq, Value.slice.injEq, true_and, and_true] at e'
  obtain ⟨rfl, rfl⟩ := e'
  obtain ⟨g', off', _, _, hv', _, hk', hks'⟩ := kidsAt hB
  injection hv' with hv'
  have e' := congrArg Array.toList hv'
  simp only [List.cons.injEq, Value.slice.injEq, true_and, and_true] at e'
  obtain ⟨rfl, rfl⟩ := e'
  clear hv hv' hA hB
  by_cases hl : (kids A).length = (kids B).length
  · have hll : (((kids A).length : Int) != ((kids B).length : Int)) = false := by simp [hl]
    have IH := hide ih
    have hl1 : ((kids A).length : Int) ≤ 4000 := by omega
    have HL := hide hl
    clear ih hl
    go_enter Tryd.func37, Tryd.ntmps37
    go_wp2
    go_loopw [17] (fun y wr => ∃ i : Nat, i ≤ (kids A).length ∧ y = .int .i64 i ∧ Hid (∀ (j : Nat) (h : j < (kids A).length), j < i → same n (kids A)[j] ((kids B)[j]'((unhide HL) ▸ h)) = true) ∧ Below w.heap.size w wr) (fun y _ => (kids A).length - (intOf y).toNat)
    case atStart => exact ⟨0, Nat.zero_le _, rfl, hide (fun j _ h => by cases h), Below.refl _ _⟩
    case round =>
      obtain ⟨i, hi, rfl, hall, hb⟩ := hrel
      by_cases hlt : i < (kids A).length
      · have hltB : i < (kids B).length := (unhide HL) ▸ hlt
        have ha : a = some ⟨g, off, none⟩ := hks.resolve_right (fun e => by rw [e] at hlt; cases hlt)
        have hb' : b = some ⟨g', off', none⟩ := hks'.resolve_right (fun e => by rw [e] at hltB; cases hltB)
        obtain ⟨t, d, sa, sl, sc, c0, c1, c2, hNi⟩ := kidAt (unhide HA) hb hlt rfl ha
        obtain ⟨t', d', sa', sl', sc', x0, x1, x2, hNi'⟩ := kidAt (unhide HB) hb hltB rfl hb'
        have H := hide (fun o o' => (unhide IH) (kids A)[i] (kids B)[i] ((wr.alloc o).alloc o') p q _ _ (hNi.below (((Below.refl _ _).alloc (Nat.le_refl _) _).alloc (by simp) _)) (hNi'.below (((Below.refl _ _).alloc (Nat.le_refl _) _).alloc (by simp) _)))
        have hlt' : (i : Int) < (kids A).length := by omega
        have hltB' : (i : Int) < (kids B).length := by omega
        have z0 : ∀ o, (wr.alloc o).cell? ⟨g', off' + i * 3, none⟩ = some (.int .i64 t') := fun o => (((Below.refl wr.heap.size wr).alloc (Nat.le_refl _) o).cell (lt_of_cell x0)).trans x0
        have z1 : ∀ o, (wr.alloc o).cell? ⟨g', off' + i * 3 + 1, none⟩ = some (.string d') := fun o => (((Below.refl wr.heap.size wr).alloc (Nat.le_refl _) o).cell (lt_of_cell x1)).trans x1
        have z2 : ∀ o, (wr.alloc o).cell? ⟨g', off' + i * 3 + 2, none⟩ = some (.slice sa' sl' sc') := fun o => (((Below.refl wr.heap.size wr).alloc (Nat.le_refl _) o).cell (lt_of_cell x2)).trans x2
        subst ha
        subst hb'
        clear hNi hNi' hks hks' x0 x1 x2
        go_wp2_with fail
        refine ((unhide H) _ _).mono ?_
        rintro e w2 ⟨rfl, hb2⟩
        have hbb : Below w.heap.size w w2 := hb.trans ((((Below.refl wr.heap.size wr).alloc (Nat.le_refl _) _).alloc (by simp) _).trans (hb2.mono (by simp; omega)) |>.mono hb.size)
        cases hs : same n (kids A)[i] (kids B)[i]
        · have Hf := hide (allB_false (same n) (kids A) (kids B) (unhide HL) i hlt hs)
          clear hs hb2 H hb z0 z1 z2 c0 c1 c2
          go_wp2
          go_ret
          rw [unhide Hf]
          exact ⟨rfl, hbb⟩
        · have hs' := hide hs
          clear hs hb2 H hb z0 z1 z2 c0 c1 c2
          go_wp2
          go_roundw
          case rel =>
            refine ⟨i + 1, by omega, by simp, hide (fun j h hj => ?_), hbb⟩
            by_cases hji : j = i
            · subst hji; exact unhide hs'
            · exact (unhide hall) j h (by omega)
          case measure => simp [intOf]; omega
      · have hge : ¬ (i : Int) < (kids A).length := by omega
        have Hf := hide (allB_true (same n) (kids A) (kids B) (unhide HL) (fun j h => (unhide hall) j h (by omega)))
        clear hall hks hks'
        go_wp2
        go_ret
        rw [unhide Hf]
        exact ⟨rfl, hb⟩
  · have hll : (((kids A).length : Int) != ((kids B).length : Int)) = true := by rw [bne_iff_ne]; omega
    have hf := allB_len (same n) (kids A) (kids B) hl
    rw [hf]
    clear ih
    go_enter Tryd.func37, Tryd.ntmps37
    go_wp2
    go_ret
    exact ⟨rfl, Below.refl _ _⟩

set_option maxRecDepth 100000 in
set_option maxHeartbeats 1000000 in
theorem same_any : ∀ n, SameIs n
  | 0 => fun A => Empty.elim A
  | n + 1 => by
    have ih := same_any n
    intro A B w p q u v hA hB
    obtain ⟨g, off, cap, a, rfl, _, _, _⟩ := kidsAt hA
    obtain ⟨g', off', cap', b, rfl, _, _, _⟩ := kidsAt hB
    have hbt : ∀ o o', Below w.heap.size w ((w.alloc o).alloc o') := fun o o' => ((Below.refl _ _).alloc (Nat.le_refl _) o).alloc (by simp) o'
    have H := hide (fun o o' => equal_any n ih A B ((w.alloc o).alloc o') p q a b cap cap' (hA.below (hbt o o')) (hB.below (hbt o o')))
    have hs : same (n + 1) A B = (decide (tag A = tag B) && ((dat A).data.toList == (dat B).data.toList) && allB (same n) (kids A) (kids B)) := rfl
    have HS := hide hs
    clear ih hA hB hs
    cases ht : (tag A == tag B)
    · have Ht := hide ht
      go_enter Tryd.func23, Tryd.ntmps23
      go_wp2
      go_ret
      refine ⟨?_, hbt _ _⟩
      rw [unhide HS, decide_eq_false (by simpa using unhide Ht)]
      rfl
    · cases hd : ((dat A).toList == (dat B).toList)
      · have Ht := hide ht
        have Hd := hide hd
        go_enter Tryd.func23, Tryd.ntmps23
        go_wp2
        go_ret
        refine ⟨?_, hbt _ _⟩
        have := unhide Hd
        rw [ByteArray.toList_eq, ByteArray.toList_eq] at this
        rw [unhide HS, this, Bool.and_false]
        rfl
      · have Ht := hide ht
        have Hd := hide hd
        go_enter Tryd.func23, Tryd.ntmps23
        go_wp2_with (go_at_call 37; refine ((unhide H) _ _).mono ?_; rintro e w2 ⟨rfl, hb2⟩)
        go_ret
        refine ⟨?_, (hbt _ _).trans (hb2.mono (by simp; omega))⟩
        have := unhide Hd
        rw [ByteArray.toList_eq, ByteArray.toList_eq] at this
        rw [unhide HS, this, decide_eq_true (by simpa using unhide Ht)]
        rfl
end Go.Proofs.YthibodkemnkjeaaDoor
