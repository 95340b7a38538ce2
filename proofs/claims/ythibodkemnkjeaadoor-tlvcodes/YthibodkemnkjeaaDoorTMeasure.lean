/-
  What tlv.measure answers. Conditions: the tree's bytes are at most 16000000.
-/
import Derived.Test.YthibodkemnkjeaaDoorTSmall
import Derived.Deep.Light
namespace Go.Proofs.YthibodkemnkjeaaDoor
open Go.RowKit Tv

theorem flat_sum {α : Type} (f : α → List UInt8) (xs : List α) : (xs.map f).flatten.length = (xs.map fun x => (f x).length).sum := by
  simp [List.length_flatten, List.map_map, Function.comp_def]
theorem sum_take_succ {α : Type} (f : α → Nat) (xs : List α) (i : Nat) (h : i < xs.length) : ((xs.take (i + 1)).map f).sum = ((xs.take i).map f).sum + f xs[i] := by
  rw [List.take_succ_eq_append_getElem h, List.map_append, List.sum_append]; simp
theorem sum_take_le {α : Type} (f : α → Nat) (xs : List α) (i : Nat) : ((xs.take i).map f).sum ≤ (xs.map f).sum := by
  have : (xs.map f).sum = ((xs.take i).map f).sum + ((xs.drop i).map f).sum := by rw [← List.sum_append, ← List.map_append, List.take_append_drop]
  omega
/-- so many bytes has the body, up to its i-th tree. -/
def bodyTo {n : Nat} (T : Tr (n + 1)) (i : Nat) : Nat := (dat T).size + (((kids T).take i).map fun x => (enc n x).length).sum
theorem bodyTo_succ {n : Nat} (T : Tr (n + 1)) (i : Nat) (h : i < (kids T).length) : bodyTo T (i + 1) = bodyTo T i + (enc n (kids T)[i]).length := by
  unfold bodyTo; rw [sum_take_succ _ _ _ h]; omega
theorem body_len {n : Nat} (T : Tr (n + 1)) : (body T).length = (dat T).size + ((kids T).map fun x => (enc n x).length).sum := by
  unfold body; rw [List.length_append, flat_sum]; rfl
theorem bodyTo_all {n : Nat} (T : Tr (n + 1)) (i : Nat) (h : (kids T).length ≤ i) : bodyTo T i = (body T).length := by
  unfold bodyTo; rw [List.take_of_length_le h, body_len]
theorem bodyTo_le {n : Nat} (T : Tr (n + 1)) (i : Nat) : bodyTo T i ≤ (body T).length := by
  unfold bodyTo; rw [body_len]; have := sum_take_le (fun x => (enc n x).length) (kids T) i; omega

theorem szl (n : Nat) : sz n = ((Sz.least n).length : Nat) := by
  unfold sz
  rw [Sz.least_length]
  split <;> simp
theorem size_nat (n : Nat) (w : World) (h : n ≤ 16777215) : Calls Tryd.prog 26 #[.int .i64 (n : Int)] w fun e w' => e = .returned (.tuple #[.int .i64 ((Sz.least n).length : Nat), .int .i64 0]) ∧ Below w.heap.size w w' := by
  have := size_ok n w (by omega) (by omega)
  rw [Int.toNat_natCast, szl] at this
  exact this
/-- the i-th tree of a node, in a world that keeps what lay. -/
theorem kidAt {n : Nat} {w wr : World} {p : Nat → Prop} {T : Tr (n + 1)} {v : Value} (h : Node (n + 1) w p v T) (hb : Below w.heap.size w wr) {i : Nat} (hi : i < (kids T).length) {g off : Nat} {a : Option Addr} {cap : Nat} (hv : v = .agg #[.int .i64 (tag T), .string (dat T), .slice a (kids T).length cap]) (ha : a = some ⟨g, off, none⟩) :
    ∃ t d a' len' cap', wr.cell? ⟨g, off + i * 3, none⟩ = some (.int .i64 t) ∧ wr.cell? ⟨g, off + i * 3 + 1, none⟩ = some (.string d) ∧ wr.cell? ⟨g, off + i * 3 + 2, none⟩ = some (.slice a' len' cap') ∧ Node n wr p (.agg #[.int .i64 t, .string d, .slice a' len' cap']) (kids T)[i] := by
  obtain ⟨a1, cap1, e, _, _, hk⟩ := h.shape
  rw [hv] at e
  injection e with e
  have e' := congrArg Array.toList e
  simp only [List.cons.injEq, Value.slice.injEq, true_and, and_true] at e'
  obtain ⟨rfl, rfl⟩ := e'
  obtain ⟨g', off', e2, _, t, d, a', len', cap', c0, c1, c2, hN⟩ := hk i hi
  rw [ha] at e2
  cases e2
  exact ⟨t, d, a', len', cap', (hb.cell (lt_of_cell c0)).trans c0, (hb.cell (lt_of_cell c1)).trans c1, (hb.cell (lt_of_cell c2)).trans c2, hN.below hb⟩
/-- where the trees of a node lie. -/
theorem kidsAt {n : Nat} {w : World} {p : Nat → Prop} {T : Tr (n + 1)} {v : Value} (h : Node (n + 1) w p v T) : ∃ g off cap a, v = .agg #[.int .i64 (tag T), .string (dat T), .slice a (kids T).length cap] ∧ (dat T).size ≤ 9000 ∧ (kids T).length ≤ 4000 ∧ (a = some ⟨g, off, none⟩ ∨ kids T = []) := by
  obtain ⟨a, cap, hv, hd, hk, h⟩ := h
  rcases h with h | ⟨g, off, ha, _, _⟩
  · exact ⟨0, 0, cap, a, hv, hd, hk, .inr h⟩
  · exact ⟨g, off, cap, a, hv, hd, hk, .inl ha⟩

set_option maxRecDepth 100000 in
set_option maxHeartbeats 1000000 in
theorem measure_any : ∀ (n : Nat) (T : Tr n) (w : World) (p : Nat → Prop) (v : Value), Node n w p v T → (enc n T).length ≤ 16000000 →
    Calls Tryd.prog 44 #[v] w fun e w' => e = .returned (.int .i64 (enc n T).length) ∧ Below w.heap.size w w' := by
  intro n
  induction n with
  | zero => intro T; exact Empty.elim T
  | succ n ih =>
    intro T w p v hN hlen
    obtain ⟨g, off, cap, a, hv, hd, hk, hks⟩ := kidsAt hN
    have hel := enc_len T
    have hbl : (body T).length ≤ 16000000 := by omega
    have IH := hide ih
    have HN := hide hN
    have Hel := hide hel
    have hle := fun i => bodyTo_le T i
    subst hv
    clear ih hN hel
    have hk' : ((kids T).length : Int) ≤ 4000 := by omega
    go_enter Tryd.func44, Tryd.ntmps44
    go_wp2
    go_loopw [3, 14] (fun x y wr => ∃ i : Nat, i ≤ (kids T).length ∧ x = .int .i64 (bodyTo T i) ∧ y = .int .i64 i ∧ Below w.heap.size w wr) (fun _ y _ => (kids T).length - (intOf y).toNat)
    case atStart => exact ⟨0, Nat.zero_le _, by simp [bodyTo], rfl, (Below.refl _ _).alloc (Nat.le_refl _) _⟩
    case round =>
      obtain ⟨i, hi, rfl, rfl, hb⟩ := hrel
      by_cases hlt : i < (kids T).length
      · have ha : a = some ⟨g, off, none⟩ := hks.resolve_right (fun e => by rw [e] at hlt; cases hlt)
        obtain ⟨t, d, a', len', cap', c0, c1, c2, hNi⟩ := kidAt (unhide HN) hb hlt rfl ha
        have hkl := kid_body T (kids T)[i] (List.getElem_mem hlt)
        have hsu := hide (bodyTo_succ T i hlt)
        have h1 := hle i
        have h2 := hle (i + 1)
        have H := hide (fun o => (unhide IH) (kids T)[i] (wr.alloc o) p _ (hNi.below ((Below.refl _ _).alloc (Nat.le_refl _) _)) (by omega))
        have hlt' : (i : Int) < (kids T).length := by omega
        have h1' : ((bodyTo T i : Nat) : Int) ≤ 16000000 := by omega
        have h3' : (((enc n (kids T)[i]).length : Nat) : Int) ≤ 16000000 := by omega
        subst ha
        clear hle hNi hks
        go_wp2_with (go_at_call 44; refine ((unhide H) _).mono ?_; rintro e w' ⟨rfl, hb2⟩)
        go_roundw
        case rel => exact ⟨i + 1, by omega, by rw [unhide hsu]; simp, by simp, hb.trans (((Below.refl _ _).alloc (Nat.le_refl _) _).trans (hb2.mono (by simp)) |>.mono hb.size)⟩
        case measure => simp [intOf]; omega
      · have hall := hide (bodyTo_all T i (by omega))
        have hge : ¬ (i : Int) < (kids T).length := by omega
        have hz : bodyTo T i ≤ 16000000 := by have := hle i; omega
        have hz' : ((bodyTo T i : Nat) : Int) ≤ 16000000 := by omega
        have S := size_nat (bodyTo T i) wr (by omega)
        have hl5 := least_len (bodyTo T i)
        have hl5' : (((Sz.least (bodyTo T i)).length : Nat) : Int) ≤ 5 := by omega
        clear hle hks
        go_wp2_with (go_at_call 26; refine S.mono ?_; rintro e w' ⟨rfl, hb2⟩)
        go_ret
        refine ⟨?_, hb.trans (hb2.mono hb.size)⟩
        rw [unhide Hel, ← unhide hall]
        show Ending.returned (Value.int .i64 _) = Ending.returned (Value.int .i64 _)
        congr 2
end Go.Proofs.YthibodkemnkjeaaDoor
