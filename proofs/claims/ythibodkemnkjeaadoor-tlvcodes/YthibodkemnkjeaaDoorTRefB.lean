/-
  A region that draws its order, whose operations read, and whose calls keep all that lay when it began: one walk, in the text's order. Which trees are the same, as the document says (latinerref02), walked. The bytes of a right tree, and what Encode says, as the document does (latinerref02), walked. Conditions: the region's operations may be taken in the text's order.
-/
import Derived.BigQuiet
import Derived.WalkKit
import Derived.Test.YthibodkemnkjeaaDoorTRefA
namespace Go.Proofs.YthibodkemnkjeaaDoor
open Go Go.RowKit

/-- the worlds that keep all that lies in V. -/
structure Cl (V : World) : Type where
  w : World
  b : Below V.heap.size V w
theorem clNonempty (V : World) : Nonempty (Cl V) := ⟨⟨V, Below.refl _ _⟩⟩
theorem wp_region_class {P : Program} {id : Nat} {Q : Exit → Act → World → Prop} {a : Act} {V : World} {l : List Oper} (hm : P.follows .mixedOrders = true) (hB : Region.lexB .any l.toArray = true)
    (h : wpQuiet P l.toArray (fun w' => ∃ s : Cl V, w' = s.w) (fun a' => ∀ w', (∃ s : Cl V, w' = s.w) → Q .normal a' w') l a) : (Code.region id l.toArray true).wp P Q a V :=
  wp_region_quiet (C := fun w' => ∃ s : Cl V, w' = s.w) hm hB ⟨⟨V.drew, ⟨rfl, rfl, rfl, Nat.le_refl _, fun _ _ => rfl⟩⟩, rfl⟩ (by simpa using h)
theorem Cl.cell {V : World} (s : Cl V) {p : Addr} {v : Value} (h : V.cell? p = some v) (hp : p.block < V.heap.size) : s.w.cell? p = some v := (s.b.cell hp).trans h
/-- a call's contract, in the class. -/
theorem Cl.call {P : Program} {f : FuncId} {args : Array Value} {V : World} {v : Value} (s : Cl V) (h : Calls P f args s.w fun e w' => e = .returned v ∧ Below s.w.heap.size s.w w') :
    Calls P f args s.w fun e w'' => e = .returned v ∧ ∃ m : Cl V, w'' = m.w :=
  h.mono fun _ w' ⟨he, hb⟩ => ⟨he, ⟨w', s.b.trans (hb.mono s.b.size)⟩, rfl⟩
end Go.Proofs.YthibodkemnkjeaaDoor

namespace Go.Proofs.YthibodkemnkjeaaDoor
open Go.RowKit Tv T Go.Shelf

theorem boxTwo {w wr : World} {x y z x' y' z' : Value} (hb : Below (w.heap.size + 2) ((w.alloc (.cells #[x, y, z] 24)).alloc (.cells #[x', y', z'] 24)) wr) :
    (wr.cell? ⟨w.heap.size, 0, none⟩ = some x ∧ wr.cell? ⟨w.heap.size, 1, none⟩ = some y ∧ wr.cell? ⟨w.heap.size, 2, none⟩ = some z) ∧ wr.cell? ⟨w.heap.size + 1, 0, none⟩ = some x' ∧ wr.cell? ⟨w.heap.size + 1, 1, none⟩ = some y' ∧ wr.cell? ⟨w.heap.size + 1, 2, none⟩ = some z' := by
  have h2 := World.alloc_heap_new (w.alloc (.cells #[x, y, z] 24)) (.cells #[x', y', z'] 24)
  rw [World.size_alloc] at h2
  exact ⟨(cells3 ((hb.block w.heap.size (by omega)).trans ((Below.heap_alloc _ _ _ (by simp)).trans (World.alloc_heap_new w _)))).1, (cells3 ((hb.block (w.heap.size + 1) (by omega)).trans h2)).1⟩
theorem bel2 {w wr : World} {o o' : Obj} (hb : Below (w.heap.size + 2) ((w.alloc o).alloc o') wr) : Below w.heap.size w wr := (((Below.refl _ _).alloc (Nat.le_refl _) _).alloc (by simp) _).trans (hb.mono (by omega))
theorem go2 {w wr w' : World} {o o' : Obj} (hb : Below (w.heap.size + 2) ((w.alloc o).alloc o') wr) (h : Below wr.heap.size wr w') : Below (w.heap.size + 2) ((w.alloc o).alloc o') w' := hb.trans (h.mono (by have := hb.size; simp at this; omega))

set_option maxRecDepth 100000 in
set_option maxHeartbeats 4000000 in
theorem refSame_any : ∀ (n : Nat) (A B : Tr n) (w : World) (p q : Nat → Prop) (u v : Value), Node n w p u A → Node n w q v B →
    Calls Tryd.prog 24 #[u, v] w fun e w' => e = .returned (.bool (same n A B)) ∧ Below w.heap.size w w' := by
  intro n
  induction n with
  | zero => intro A; exact Empty.elim A
  | succ n ih =>
    intro A B w p q u v hA hB
    obtain ⟨g, off, cap, a, hv, hd, hk, hks⟩ := kidsAt hA
    obtain ⟨g2, off2, cap2, b, hv2, hd2, hk2, hks2⟩ := kidsAt hB
    have IH := hide ih
    have HA := hide hA
    have HBb := hide hB
    subst hv hv2
    clear ih hA hB
    have hk' : ((kids A).length : Int) ≤ 4000 := by omega
    have hk2' : ((kids B).length : Int) ≤ 4000 := by omega
    have hsame : same (n + 1) A B = (decide (tag A = tag B) && ((dat A).data.toList == (dat B).data.toList) && allB (same n) (kids A) (kids B)) := rfl
    have hb0 : Below w.heap.size w ((w.alloc (.cells #[.int .i64 (tag A), .string (dat A), .slice a (kids A).length cap] 24)).alloc (.cells #[.int .i64 (tag B), .string (dat B), .slice b (kids B).length cap2] 24)) := ((Below.refl _ _).alloc (Nat.le_refl _) _).alloc (by simp) _
    by_cases ht : tag A = tag B
    · have dt : (tag A != tag B) = false := by simp [ht]
      cases hd0 : ((dat A).toList == (dat B).toList)
      · rw [hsame, ← ByteArray.toList_eq, ← ByteArray.toList_eq, hd0, Bool.and_false, Bool.false_and]
        have dd : ((dat A).toList != (dat B).toList) = true := by rw [bne, hd0]; rfl
        have HB0 := hide hb0
        clear hsame hb0 ht
        go_enter Tryd.func24, Tryd.ntmps24
        go_wp2
        go_ret
        exact ⟨rfl, unhide HB0⟩
      · have dd : ((dat A).toList != (dat B).toList) = false := by rw [bne, hd0]; rfl
        rw [decide_eq_true ht, ← ByteArray.toList_eq, ← ByteArray.toList_eq, hd0, Bool.true_and, Bool.true_and] at hsame
        by_cases hl : (kids A).length = (kids B).length
        · have hl' : ((kids A).length : Int) = (kids B).length := by omega
          have dl : (((kids A).length : Int) != (kids B).length) = false := by simp [hl']
          have HS := hide hsame
          have HT := hide ht
          have HL := hide hl
          have HB0 := hide (show Below (w.heap.size + 2) ((w.alloc (.cells #[.int .i64 (tag A), .string (dat A), .slice a (kids A).length cap] 24)).alloc (.cells #[.int .i64 (tag B), .string (dat B), .slice b (kids B).length cap2] 24)) ((w.alloc (.cells #[.int .i64 (tag A), .string (dat A), .slice a (kids A).length cap] 24)).alloc (.cells #[.int .i64 (tag B), .string (dat B), .slice b (kids B).length cap2] 24)) from Below.refl _ _)
          clear hsame hb0 ht hl hl'
          go_enter Tryd.func24, Tryd.ntmps24
          go_wp2
          go_loopw [5] (fun y wr => ∃ i : Nat, i ≤ (kids A).length ∧ y = .int .i64 i ∧ Below (w.heap.size + 2) ((w.alloc (.cells #[.int .i64 (tag A), .string (dat A), .slice a (kids A).length cap] 24)).alloc (.cells #[.int .i64 (tag B), .string (dat B), .slice b (kids B).length cap2] 24)) wr ∧ Hid (∀ j (hj : j < (kids A).length) (hj' : j < (kids B).length), j < i → same n (kids A)[j] (kids B)[j] = true)) (fun y _ => (kids A).length - (intOf y).toNat)
          case atStart => exact ⟨0, Nat.zero_le _, rfl, unhide HB0, fun j _ _ h => by omega⟩
          case round =>
            obtain ⟨i, hi, rfl, hb, hpre⟩ := hrel
            obtain ⟨⟨c0, c1, c2⟩, e0, e1, e2⟩ := boxTwo hb
            have hl := unhide HL
            by_cases hlt : i < (kids A).length
            · have hltB : i < (kids B).length := by omega
              have ha : a = some ⟨g, off, none⟩ := hks.resolve_right (fun e => by rw [e] at hlt; cases hlt)
              have hbb : b = some ⟨g2, off2, none⟩ := hks2.resolve_right (fun e => by rw [e] at hltB; cases hltB)
              obtain ⟨t, d, a', len', cap', r0, r1, r2, hNi⟩ := kidAt (unhide HA) (bel2 hb) hlt rfl ha
              obtain ⟨t2, d2, a2', len2', cap2', s0, s1, s2, hNi2⟩ := kidAt (unhide HBb) (bel2 hb) hltB rfl hbb
              have H := hide fun s : Cl wr => Cl.call s ((unhide IH) (kids A)[i] (kids B)[i] s.w p q _ _ (hNi.below s.b) (hNi2.below s.b))
              have hlt' : (i : Int) < (kids A).length := by omega
              have hltB' : (i : Int) < (kids B).length := by omega
              have HB := hide hb
              subst ha hbb
              clear hNi hNi2 hks hks2 hb hl
              cases hs : same n (kids A)[i] (kids B)[i]
              · rw [hs] at H
                have HSs := hide hs
                clear hs
                go_wp2
                refine wp_region_class (by kernel_rfl) (by kernel_rfl) ?_
                have f2 := fun s : Cl wr => Cl.cell s c2 (lt_of_cell c2)
                have g2' := fun s : Cl wr => Cl.cell s e2 (lt_of_cell e2)
                have k0 := fun s : Cl wr => Cl.cell s r0 (lt_of_cell r0)
                have k1 := fun s : Cl wr => Cl.cell s r1 (lt_of_cell r1)
                have k2 := fun s : Cl wr => Cl.cell s r2 (lt_of_cell r2)
                have m0 := fun s : Cl wr => Cl.cell s s0 (lt_of_cell s0)
                have m1 := fun s : Cl wr => Cl.cell s s1 (lt_of_cell s1)
                have m2 := fun s : Cl wr => Cl.cell s s2 (lt_of_cell s2)
                clear c0 c1 c2 e0 e1 e2 r0 r1 r2 s0 s1 s2
                have hne : Nonempty (Cl wr) := clNonempty wr
                repeat (go_big_quiet_step (exact (unhide H) _))
                refine wpQuiet_nil ?_
                rintro w' ⟨s, rfl⟩
                go_wp2
                go_ret
                refine ⟨?_, (bel2 (unhide HB)).trans (s.b.mono (bel2 (unhide HB)).size)⟩
                rw [unhide HS, allB_false (same n) (kids A) (kids B) (unhide HL) i hlt (unhide HSs)]
                rfl
              · rw [hs] at H
                have HSs := hide hs
                clear hs
                go_wp2
                refine wp_region_class (by kernel_rfl) (by kernel_rfl) ?_
                have f2 := fun s : Cl wr => Cl.cell s c2 (lt_of_cell c2)
                have g2' := fun s : Cl wr => Cl.cell s e2 (lt_of_cell e2)
                have k0 := fun s : Cl wr => Cl.cell s r0 (lt_of_cell r0)
                have k1 := fun s : Cl wr => Cl.cell s r1 (lt_of_cell r1)
                have k2 := fun s : Cl wr => Cl.cell s r2 (lt_of_cell r2)
                have m0 := fun s : Cl wr => Cl.cell s s0 (lt_of_cell s0)
                have m1 := fun s : Cl wr => Cl.cell s s1 (lt_of_cell s1)
                have m2 := fun s : Cl wr => Cl.cell s s2 (lt_of_cell s2)
                clear c0 c1 c2 e0 e1 e2 r0 r1 r2 s0 s1 s2
                have hne : Nonempty (Cl wr) := clNonempty wr
                repeat (go_big_quiet_step (exact (unhide H) _))
                refine wpQuiet_nil ?_
                rintro w' ⟨s, rfl⟩
                go_wp2
                go_roundw
                case rel =>
                  refine ⟨i + 1, by omega, by simp, go2 (unhide HB) s.b, fun j hj hj' hji => ?_⟩
                  by_cases e : j = i
                  · subst e; exact unhide HSs
                  · exact (unhide hpre) j hj hj' (by omega)
                case measure => simp [intOf]; omega
            · have hge : ¬ (i : Int) < (kids A).length := by omega
              have HB := hide hb
              clear hks hks2 hb
              go_wp2
              go_ret
              refine ⟨?_, bel2 (unhide HB)⟩
              rw [unhide HS, allB_true (same n) (kids A) (kids B) (unhide HL) (fun j h => (unhide hpre) j h (by have := unhide HL; omega) (by omega))]
              rfl
        · have dl : (((kids A).length : Int) != (kids B).length) = true := by simp; omega
          rw [hsame, allB_len (same n) (kids A) (kids B) hl]
          have HB0 := hide hb0
          clear hsame hb0 ht hl
          go_enter Tryd.func24, Tryd.ntmps24
          go_wp2
          go_ret
          exact ⟨rfl, unhide HB0⟩
    · have dt : (tag A != tag B) = true := by simp [ht]
      rw [hsame, decide_eq_false ht, Bool.false_and, Bool.false_and]
      have HB0 := hide hb0
      clear hsame hb0 ht
      go_enter Tryd.func24, Tryd.ntmps24
      go_wp2
      go_ret
      exact ⟨rfl, unhide HB0⟩
end Go.Proofs.YthibodkemnkjeaaDoor

namespace Tv
/-- the body's bytes, so many of its trees. -/
def bdT {n : Nat} (T : Tr (n + 1)) (i : Nat) : List UInt8 := (dat T).data.toList ++ (((kids T).take i).map (enc n)).flatten
theorem bdT_zero {n : Nat} (T : Tr (n + 1)) : bdT T 0 = (dat T).data.toList := by simp [bdT]
theorem bdT_succ {n : Nat} (T : Tr (n + 1)) (i : Nat) (h : i < (kids T).length) : bdT T (i + 1) = bdT T i ++ enc n (kids T)[i] := by
  unfold bdT
  rw [List.take_succ_eq_append_getElem h, List.map_append, List.flatten_append, List.append_assoc]
  congr 2
  exact List.append_nil _
theorem bdT_all {n : Nat} (T : Tr (n + 1)) (i : Nat) (h : (kids T).length ≤ i) : bdT T i = body T := by
  unfold bdT body
  rw [List.take_of_length_le h]
theorem bdT_le {n : Nat} (T : Tr (n + 1)) (i : Nat) : (bdT T i).length ≤ (body T).length := by
  by_cases h : (kids T).length ≤ i
  · rw [bdT_all T i h]; exact Nat.le_refl _
  · unfold bdT body
    simp only [List.length_append]
    have e : (kids T).take i ++ (kids T).drop i = kids T := List.take_append_drop i _
    have : ((kids T).map (enc n)).flatten.length = (((kids T).take i).map (enc n)).flatten.length + (((kids T).drop i).map (enc n)).flatten.length := by
      rw [← List.length_append, ← List.flatten_append, ← List.map_append, e]
    omega
end Tv
namespace Go.Proofs.YthibodkemnkjeaaDoor
open Go.RowKit Tv T Go.Shelf Go.WideShapes

theorem rconv1 (W : World) (x : Int) : (convert 41 9 (.slice (some ⟨W.heap.size, 0, none⟩) 1 1)).run Tryd.prog (W.alloc (.cells #[.int .u8 x] 5)) = .ok (.string ⟨#[UInt8.ofNat x.toNat]⟩) (W.alloc (.cells #[.int .u8 x] 5)) :=
  run_convert_bytes_arg (W.alloc (.cells #[.int .u8 x] 5)) 41 _ Tryd.underlying41 Tryd.underlying5 W.heap.size 0 1 1 [x] rfl (fun i hi => by
    obtain rfl : i = 0 := by omega
    simp) 9 Tryd.underlying9

set_option maxRecDepth 100000 in
set_option maxHeartbeats 2000000 in
theorem refBytes_any : ∀ (n : Nat) (T : Tr n) (k : Nat) (w : World) (p : Nat → Prop) (v : Value), Tv.shape n k T = true → (enc n T).length ≤ 4000 → Node n w p v T →
    Calls Tryd.prog 31 #[v] w fun e w' => e = .returned (.string ⟨(enc n T).toArray⟩) ∧ Below w.heap.size w w' := by
  intro n
  induction n with
  | zero => intro T; exact Empty.elim T
  | succ n ih =>
    intro T k w p v hsh hlen hN
    obtain ⟨g, off, cap, a, hv, hd, hk, hks⟩ := kidsAt hN
    have hs3 := shape_succ hsh
    have hf := (fit_iff _ _ _).1 hs3.2.1
    have hel := enc_len T
    have hen := enc_succ T
    have IH := hide ih
    have HN := hide hN
    have HS3 := hide hs3.2.2
    subst hv
    have hk' : ((kids T).length : Int) ≤ 4000 := by omega
    have t0 : 0 ≤ tag T := hf.1
    have t1 : tag T ≤ 255 := hf.2.1
    have hb0 : (⟨(bdT T 0).toArray⟩ : ByteArray) = dat T := bytes_inj (by rw [bdT_zero])
    have hsz : ∀ i, (⟨(bdT T i).toArray⟩ : ByteArray).size = (bdT T i).length := fun i => by show (bdT T i).toArray.size = _; simp
    have HSZ := hide hsz
    have HLE := hide fun i => bdT_le T i
    have HEN := hide hen
    have HKB := hide fun x hx => kid_body T x hx
    have hbl : (body T).length ≤ 4000 := by omega
    clear ih hN hsh hf hs3 hsz hen hel hlen
    go_enter Tryd.func31, Tryd.ntmps31
    go_wp2
    go_loopw [3, 4] (fun x y wr => ∃ i : Nat, i ≤ (kids T).length ∧ x = .string ⟨(bdT T i).toArray⟩ ∧ y = .int .i64 i ∧ Below (w.heap.size + 1) (w.alloc (.cells #[.int .i64 (tag T), .string (dat T), .slice a (kids T).length cap] 24)) wr) (fun _ y _ => (kids T).length - (intOf y).toNat)
    case atStart => exact ⟨0, Nat.zero_le _, by rw [hb0], rfl, boxFirst _ _⟩
    case round =>
      obtain ⟨i, hi, rfl, rfl, hb⟩ := hrel
      obtain ⟨c0, c1, c2⟩ := boxKeep hb
      have s1 := (unhide HSZ) i
      have s1' := (unhide HLE) i
      by_cases hlt : i < (kids T).length
      · have ha : a = some ⟨g, off, none⟩ := hks.resolve_right (fun e => by rw [e] at hlt; cases hlt)
        obtain ⟨t, d, a', len', cap', d0, d1, d2, hNi⟩ := kidAt (unhide HN) (boxBel hb) hlt rfl ha
        have hmem := List.getElem_mem hlt
        have hkl := (unhide HKB) _ hmem
        have H := hide ((unhide IH) (kids T)[i] (k - 1) wr p _ ((unhide HS3) _ hmem) (by omega) hNi)
        have s2 : (⟨(enc n (kids T)[i]).toArray⟩ : ByteArray).size = (enc n (kids T)[i]).length := by show (enc n (kids T)[i]).toArray.size = _; simp
        have s3 := bdT_succ T i hlt
        have s4 := (unhide HLE) (i + 1)
        have s5 : (⟨(bdT T i).toArray⟩ : ByteArray) ++ ⟨(enc n (kids T)[i]).toArray⟩ = ⟨(bdT T (i + 1)).toArray⟩ := bytes_inj (by rw [ByteArray.data_append, Array.toList_append, s3])
        have z1 : ((⟨(bdT T i).toArray⟩ : ByteArray).size : Int) ≤ 4000 := by omega
        have z2 : ((⟨(enc n (kids T)[i]).toArray⟩ : ByteArray).size : Int) ≤ 4000 := by omega
        have H5 := hide s5
        have HB := hide hb
        have hlt' : (i : Int) < (kids T).length := by omega
        generalize (⟨(bdT T i).toArray⟩ : ByteArray) = P at *
        generalize (⟨(enc n (kids T)[i]).toArray⟩ : ByteArray) = Q at *
        subst ha
        clear s1 s1' s2 s3 s4 s5 hNi hks hb hmem hkl
        go_wp2_with (go_at_call 31; refine (unhide H).mono ?_; rintro e w' ⟨rfl, hb2⟩)
        go_roundw
        case rel => exact ⟨i + 1, by omega, by rw [unhide H5], by simp, boxGo (unhide HB) hb2⟩
        case measure => simp [intOf]; omega
      · have hge : ¬ (i : Int) < (kids T).length := by omega
        have hall := bdT_all T i (by omega)
        rw [hall] at s1 s1'
        rw [hall]
        have H := refEncode_ok ((⟨(body T).toArray⟩ : ByteArray).size : Int) wr (by omega) (by omega)
        have hP : (⟨(body T).toArray⟩ : ByteArray).data.toList = body T := by simp
        have hL : (⟨(Sz.least (((⟨(body T).toArray⟩ : ByteArray).size : Int)).toNat).toArray⟩ : ByteArray).data.toList = Sz.least (body T).length := by rw [Int.toNat_natCast, s1]
        have hLz : (⟨(Sz.least (((⟨(body T).toArray⟩ : ByteArray).size : Int)).toNat).toArray⟩ : ByteArray).size ≤ 5 := by
          show (Sz.least _).toArray.size ≤ 5
          rw [List.size_toArray]
          exact least_len _
        have hPz : ((⟨(body T).toArray⟩ : ByteArray).size : Int) ≤ 4000 := by omega
        generalize (⟨(Sz.least (((⟨(body T).toArray⟩ : ByteArray).size : Int)).toNat).toArray⟩ : ByteArray) = L at *
        generalize (⟨(body T).toArray⟩ : ByteArray) = P at *
        have heq : (⟨#[UInt8.ofNat (tag T).toNat]⟩ : ByteArray) ++ L ++ P = ⟨(enc (n + 1) T).toArray⟩ := bytes_inj (by
          rw [ByteArray.data_append, Array.toList_append, ByteArray.data_append, Array.toList_append, hL, hP, unhide HEN]
          simp)
        have HEQ := hide heq
        have hLz' : (L.size : Int) ≤ 5 := by omega
        have hcv := rconv1
        have HB := hide hb
        have HH := hide H
        clear hP hL hLz s1 s1' hb hks hall heq H
        go_wp2_with fail
        refine (unhide HH).mono ?_
        rintro e w4 ⟨rfl, hb4⟩
        obtain ⟨q0, q1, q2⟩ := boxKeep (boxGo (unhide HB) hb4)
        have HB4 := hide (boxBel (boxGo (unhide HB) hb4))
        clear hb4 c0 c1 c2
        go_wp2
        go_ret
        refine ⟨?_, (unhide HB4).alloc (unhide HB4).size _⟩
        rw [← unhide HEQ]
        rfl

set_option maxRecDepth 100000 in
theorem refEnc_any (n : Nat) (T : Tr n) (w : World) (p : Nat → Prop) (v : Value) (hN : Node n w p v T) :
    Calls Tryd.prog 16 #[v] w fun e w' => e = .returned (encT T) ∧ Below w.heap.size w w' := by
  obtain ⟨t, d, a, len, cap, rfl⟩ := hN.agg
  have hb0 : Below w.heap.size w (w.alloc (.cells #[.int .i64 t, .string d, .slice a len cap] 24)) := (Below.refl _ _).alloc (Nat.le_refl _) _
  have h1 := refRight_any n T _ p _ (hN.below hb0)
  have hlt : w.heap.size < (w.alloc (.cells #[.int .i64 t, .string d, .slice a len cap] 24)).heap.size := by simp
  have hq := World.alloc_heap_new w (.cells #[.int .i64 t, .string d, .slice a len cap] 24)
  have H1 := hide h1
  have HB0 := hide hb0
  have HQ := hide hq
  have HLT := hide hlt
  have HN := hide hN
  clear h1 hN hb0 hq hlt
  go_enter Tryd.func16, Tryd.ntmps16
  go_wp2_with fail
  refine (unhide H1).mono ?_
  rintro e w1 ⟨rfl, hb1⟩
  have HB1 := hide ((unhide HB0).trans (hb1.mono (unhide HB0).size))
  obtain ⟨⟨c0, c1, c2⟩, _⟩ := cells3 ((hb1.block _ (unhide HLT)).trans (unhide HQ))
  clear hb1 H1 HQ HLT HB0
  cases hr : right T
  · have HR := hide hr
    clear hr
    go_wp2
    go_ret2
    rw [encT_no (unhide HR)]
    exact ⟨rfl, unhide HB1⟩
  · obtain ⟨r1, r2, r3⟩ := right_iff.1 hr
    have H2 := hide (refBytes_any n T 12 w1 p _ r1 r3 ((unhide HN).below (unhide HB1)))
    have HR := hide hr
    clear hr r1 r2 r3
    go_wp2_with fail
    refine (unhide H2).mono ?_
    rintro e w2 ⟨rfl, hb2⟩
    have HB2 := hide ((unhide HB1).trans (hb2.mono (unhide HB1).size))
    clear hb2
    go_wp2
    go_ret2
    rw [encT_yes (unhide HR)]
    exact ⟨rfl, unhide HB2⟩
end Go.Proofs.YthibodkemnkjeaaDoor
