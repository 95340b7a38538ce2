/-
  What reader.tree of package tlv does, for every text, place and depth. Conditions: the package-level variables hold what the program's text lays.
-/
import Derived.Test.YthibodkemnkjeaaDoorTTree2
namespace Go.Proofs.YthibodkemnkjeaaDoor
open Go.RowKit Tv T

theorem ext_eq (s : ByteArray) (a b : Nat) : (⟨((s.data.toList.drop a).take (b - a)).toArray⟩ : ByteArray) = s.extract a b := by
  apply ByteArray.ext
  simp [ByteArray.data_extract]
  apply Array.ext'
  simp [List.extract_eq_take_drop]

theorem leaf_node (k : Nat) (W : World) (p : Nat → Prop) (t : Int) (d : ByteArray) (hd : d.size ≤ 9000) : Node (k + 1) W p (.agg #[.int .i64 t, .string d, .slice none 0 0]) (mk t d []) := ⟨none, 0, rfl, hd, Nat.zero_le _, .inl rfl⟩

theorem tree_any (R : Nat) (s : ByteArray) (A : Ads) (aS aF : Addr) (w₀ : World) (g : Gl A aS aF w₀) (hR : w₀.heap.size ≤ R) (hs : s.size ≤ 9000) :
    ∀ (k p stop c : Nat) (w : World), TRd R s c w → Below w₀.heap.size w₀ w → c ≤ 200 → p ≤ stop → stop ≤ s.size → k ≤ 12 →
      Calls Tryd.prog 51 #[.pointer (some ⟨R, 0, none⟩), .int .i64 p, .int .i64 stop, .int .i64 (13 - (k : Int))] w (TreePost R s A w k (readT s.data.toList k p stop c)) := by
  intro k
  induction k with
  | zero =>
    intro p stop c w hT hw hc hp hst _
    have hTa : TRd R s c (ans w) := hT.below (ans_below w) hT.lt
    have hwa : Below w₀.heap.size w₀ (ans w) := hw.trans ((ans_below w).mono hw.size)
    refine (tree_err R A w p stop _ 21 hT.lt ((head_node R s c p stop _ A (ans w) hTa (g.below hwa).t (.inr (by decide))).mono fun e w' ⟨he, hb⟩ => ⟨But.of_below hb, _, he, by simp, .inr ⟨_, rfl, .inr (.inr (.inr ⟨.inl rfl, rfl⟩))⟩⟩)).mono fun e w' h => ?_
    exact h
  | succ k ih =>
    intro p stop c w hT hw hc hp hst hk
    have hTa : TRd R s c (ans w) := hT.below (ans_below w) hT.lt
    have hwa : Below w₀.heap.size w₀ (ans w) := hw.trans ((ans_below w).mono hw.size)
    by_cases h200 : c = 200
    · refine (tree_err R A w p stop _ 21 hT.lt ((head_node R s c p stop _ A (ans w) hTa (g.below hwa).t (.inl (by omega))).mono fun e w' ⟨he, hb⟩ => ⟨But.of_below hb, _, he, by simp, .inr ⟨_, rfl, .inr (.inr (.inr ⟨.inl rfl, rfl⟩))⟩⟩)).mono fun e w' h => ?_
      unfold readT
      rw [if_pos h200]
      exact h
    · have H := head_any R s c p stop (13 - ((k + 1 : Nat) : Int)) A aS aF w₀ (ans w) hTa g hwa hR (by omega) (by omega) (by omega) hp hst
      cases hh : headT s.data.toList p stop with
      | error E =>
        rw [hh] at H
        refine (tree_err R A w p stop _ E hT.lt (H.mono fun e w' ⟨hb, _, u, he, hu, hy⟩ => ⟨hb, u, he, hu, hy⟩)).mono fun e w' h => ?_
        unfold readT
        rw [if_neg h200, hh]
        exact h
      | ok r =>
        obtain ⟨t, a, b⟩ := r
        rw [hh] at H
        obtain ⟨g1, g2, g3, g4, _, g5, g6, _, _⟩ := headT_ok (by simpa using hst) hh
        by_cases hi : isIn t = true
        · refine (tree_inner k R s (c + 1) a b t A w₀ w p stop _ hw hR hT.lt g3 (by omega) g5 hi (by omega) (by omega) (by omega)
            (H.mono fun e w' ⟨hb, ht, he⟩ => ⟨hb, ht, he⟩)
            (fun q c' w' hT' hw' hc' hq => by
              have := ih q b c' w' hT' hw' hc' hq (by omega) (by omega)
              rw [show 13 - ((k + 1 : Nat) : Int) + 1 = 13 - (k : Int) by omega]
              exact this)).mono fun e w' h => ?_
          unfold readT
          rw [if_neg h200, hh]
          simp only
          rw [if_pos hi]
          refine ⟨h.1, ?_⟩
          have h2 := h.2
          cases hl : readL (fun q c' => readT s.data.toList k q b c') (b - a) a b (c + 1) with
          | error E => rw [hl] at h2; exact h2
          | ok r => rw [hl] at h2; exact h2
        · have hi' : isIn t = false := by simpa using hi
          refine (tree_leaf R s ((c + 1 : Nat)) a b t w p stop _ hT.lt (by omega) g3 (by omega) g5 hi' (H.mono fun e w' ⟨hb, ht, he⟩ => ⟨hb, ht, he⟩)).mono fun e w' ⟨hb, he, ht⟩ => ?_
          unfold readT
          rw [if_neg h200, hh]
          simp only
          rw [if_neg hi]
          refine ⟨hb, _, he, ?_, ht⟩
          rw [ext_eq]
          exact leaf_node _ _ _ _ _ (by rw [ByteArray.size_extract]; omega)
end Go.Proofs.YthibodkemnkjeaaDoor
