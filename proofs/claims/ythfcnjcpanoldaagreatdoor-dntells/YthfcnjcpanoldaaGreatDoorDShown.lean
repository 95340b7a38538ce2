/-
  The law file's shown() and cut(). Conditions: the package-level variables hold what the program's text lays.
-/
import Derived.Test.YthfcnjcpanoldaaGreatDoorDDoor
import Derived.KernelRfl
namespace Go.Proofs.YthfcnjcpanoldaaGreatDoor.D
open Go Go.RowKit Go.Shelf Dp
attribute [local go_sem] Oper.semAt_some

theorem step {w w1 w2 : World} (h : Below w.heap.size w w1) (k : Below w1.heap.size w1 w2) : Below w.heap.size w w2 := h.trans (k.mono h.size)
/-- the name that is shown. -/
def xN : Nm := [[(⟨#[99, 110]⟩, ⟨#[97, 44, 98]⟩), (⟨#[115, 110]⟩, ⟨#[99]⟩)], [(⟨#[111]⟩, ⟨#[120]⟩)]]
theorem xN_ok : okN xN = true := by decide +kernel
theorem xN_pri : pri xN = (⟨#[99, 110, 61, 97, 92, 44, 98, 43, 115, 110, 61, 99, 44, 111, 61, 120]⟩, 0) := by kernel_rfl
abbrev xS : ByteArray := ⟨#[99, 110, 61, 97, 92, 50, 99, 98, 43, 115, 110, 61, 99, 44, 111, 61, 120]⟩
theorem xN_rd : rdN xS.data.toList = some xN := by kernel_rfl
theorem xN_can : can xS.data.toList = (⟨#[99, 110, 61, 97, 92, 44, 98, 43, 115, 110, 61, 99, 44, 111, 61, 120]⟩, 0) := by kernel_rfl
theorem bad_rd : rdN (⟨#[99, 110, 61, 97, 44, 32, 111, 61, 120]⟩ : ByteArray).data.toList = none := by kernel_rfl
theorem xN_sm : Sm xN := sm_ok xN_ok
theorem xN_lies {W : World} {B : Nat} (h0 : W.heap[B]? = some (.cells #[.string ⟨#[99, 110]⟩, .string ⟨#[97, 44, 98]⟩, .string ⟨#[115, 110]⟩, .string ⟨#[99]⟩] 39)) (h1 : W.heap[B + 1]? = some (.cells #[.string ⟨#[111]⟩, .string ⟨#[120]⟩] 39))
    (h2 : W.heap[B + 1 + 1]? = some (.cells #[.slice (some ⟨B, 0, none⟩) 2 2, .slice (some ⟨B + 1, 0, none⟩) 1 1] 42)) :
    Nml W (.slice (some ⟨B + 1 + 1, 0, none⟩) 2 2) xN ∧ Nml W (.slice (some ⟨B + 1 + 1, 1, none⟩) 1 1) (xN.drop 1) := by
  have r0 : Rdl W (.slice (some ⟨B, 0, none⟩) 2 2) [(⟨#[99, 110]⟩, ⟨#[97, 44, 98]⟩), (⟨#[115, 110]⟩, ⟨#[99]⟩)] := by
    refine ⟨_, _, rfl, Nat.le_refl _, .inr ⟨B, 0, rfl, fun i x hx => ?_⟩⟩
    match i, hx with
    | 0, hx => cases hx; simp [World.cell?, h0]
    | 1, hx => cases hx; simp [World.cell?, h0]
  have r1 : Rdl W (.slice (some ⟨B + 1, 0, none⟩) 1 1) [(⟨#[111]⟩, ⟨#[120]⟩)] := by
    refine ⟨_, _, rfl, Nat.le_refl _, .inr ⟨B + 1, 0, rfl, fun i x hx => ?_⟩⟩
    match i, hx with
    | 0, hx => cases hx; simp [World.cell?, h1]
  refine ⟨⟨_, _, rfl, Nat.le_refl _, .inr ⟨B + 1 + 1, 0, rfl, fun i r hr => ?_⟩⟩, ⟨_, _, rfl, Nat.le_refl _, .inr ⟨B + 1 + 1, 1, rfl, fun i r hr => ?_⟩⟩⟩
  · match i, hr with
    | 0, hr => cases hr; exact ⟨_, by simp [World.cell?, h2], r0⟩
    | 1, hr => cases hr; exact ⟨_, by simp [World.cell?, h2], r1⟩
  · match i, hr with
    | 0, hr => cases hr; exact ⟨_, by simp [World.cell?, h2], r1⟩

set_option maxRecDepth 100000 in
set_option maxHeartbeats 2000000 in
theorem shown_true (a : Ad) (w : World) (g : Glob a w) : Calls Tryz.prog 10 #[] w fun e w' => e = .returned (.bool true) ∧ Below w.heap.size w w' := by
  obtain ⟨W0, hW0⟩ : ∃ W0, W0 = ((w.alloc (.cells #[.string ⟨#[99, 110]⟩, .string ⟨#[97, 44, 98]⟩, .string ⟨#[115, 110]⟩, .string ⟨#[99]⟩] 39)).alloc (.cells #[.string ⟨#[111]⟩, .string ⟨#[120]⟩] 39)).alloc (.cells #[.slice (some ⟨w.heap.size, 0, none⟩) 2 2, .slice (some ⟨w.heap.size + 1, 0, none⟩) 1 1] 42) := ⟨_, rfl⟩
  have hB0 : Below w.heap.size w W0 := by
    rw [hW0]
    repeat (refine Below.alloc ?_ (by simp <;> omega) _)
    exact Below.refl _ _
  have hX := xN_lies (W := W0) (B := w.heap.size)
    (by rw [hW0, Below.heap_alloc _ _ _ (by simp <;> omega), Below.heap_alloc _ _ _ (by simp)]; exact World.alloc_heap_new _ _)
    (by rw [hW0, Below.heap_alloc _ _ _ (by simp <;> omega)]; have := World.alloc_heap_new (w.alloc (.cells #[.string ⟨#[99, 110]⟩, .string ⟨#[97, 44, 98]⟩, .string ⟨#[115, 110]⟩, .string ⟨#[99]⟩] 39)) (.cells #[.string ⟨#[111]⟩, .string ⟨#[120]⟩] 39); rwa [World.size_alloc] at this)
    (by rw [hW0]; have := World.alloc_heap_new ((w.alloc (.cells #[.string ⟨#[99, 110]⟩, .string ⟨#[97, 44, 98]⟩, .string ⟨#[115, 110]⟩, .string ⟨#[99]⟩] 39)).alloc (.cells #[.string ⟨#[111]⟩, .string ⟨#[120]⟩] 39)) (.cells #[.slice (some ⟨w.heap.size, 0, none⟩) 2 2, .slice (some ⟨w.heap.size + 1, 0, none⟩) 1 1] 42); rwa [World.size_alloc, World.size_alloc] at this)
  have HX := hide hX
  have HB0 := hide hB0
  have Hg := hide g
  have hp := fun W g h => print_any xN (.slice (some ⟨w.heap.size + 1 + 1, 0, none⟩) 2 2) a W g h xN_sm
  rw [xN_pri] at hp
  have e1 := hide hp
  have hpa := fun W g => parse_any xS a W g (shrt_of (by decide))
  rw [xN_rd] at hpa
  have e2 := hide hpa
  have hca := fun W g => canon_any xS a W g (shrt_of (by decide))
  rw [xN_can] at hca
  have e3 := hide hca
  have hpb := fun W g => parse_any ⟨#[99, 110, 61, 97, 44, 32, 111, 61, 120]⟩ a W g (shrt_of (by decide))
  rw [bad_rd] at hpb
  have e4 := hide hpb
  have e5 := hide fun W => isType_any ⟨#[50, 46, 53, 46, 52, 46, 51]⟩ W (by decide)
  rw [show isTy ⟨#[50, 46, 53, 46, 52, 46, 51]⟩ = true by decide +kernel] at e5
  have e6 := hide fun W => isType_any ⟨#[50, 46, 48, 53]⟩ W (by decide)
  rw [show isTy ⟨#[50, 46, 48, 53]⟩ = false by decide +kernel] at e6
  clear hX hB0 g hp hpa hca hpb
  go_enter Tryz.func10, Tryz.ntmps10
  go_wp2_with fail
  rw [← hW0]
  refine ((unhide e1) W0 ((unhide Hg).below (Nat.le_refl _) (unhide HB0)) (unhide HX).1).mono ?_
  rintro e w1 ⟨rfl, hb⟩
  have B1 := hide (step (unhide HB0) hb)
  have X1 := hide (And.intro ((unhide HX).1.below hb) ((unhide HX).2.below hb))
  clear hb e1 HX HB0 hW0
  go_wp2_with fail
  refine ((unhide e2) _ ((unhide Hg).below (Nat.le_refl _) (unhide B1))).mono ?_
  rintro e w2 ⟨hb, ⟨d, v, hf, rfl, ho⟩ | ⟨hf, _⟩⟩
  case inr => cases hf
  cases hf
  have Y2 := hide ho.nml
  obtain ⟨ad, cap, rfl, _, _⟩ := ho.nml
  have B2 := hide (step (unhide B1) hb)
  have X2 := hide (And.intro ((unhide X1).1.below hb) ((unhide X1).2.below hb))
  clear hb ho e2 X1 B1
  go_wp2_with fail
  refine ((unhide e3) _ ((unhide Hg).below (Nat.le_refl _) (unhide B2))).mono ?_
  rintro e w3 ⟨rfl, hb⟩
  have B3 := hide (step (unhide B2) hb)
  have X3 := hide (And.intro ((unhide X2).1.below hb) ((unhide X2).2.below hb))
  have Y3 := hide ((unhide Y2).below hb)
  clear hb e3 X2 B2 Y2
  go_wp2_with fail
  refine ((unhide e4) _ ((unhide Hg).below (Nat.le_refl _) (unhide B3))).mono ?_
  rintro e w4 ⟨hb, ⟨d, v, hf, _⟩ | ⟨_, rfl⟩⟩
  · cases hf
  have B4 := hide (step (unhide B3) hb)
  have X4 := hide (And.intro ((unhide X3).1.below hb) ((unhide X3).2.below hb))
  have Y4 := hide ((unhide Y3).below hb)
  clear hb e4 X3 B3 Y3
  have hS := same_any xN xN _ _ w4 (unhide X4).1 (unhide Y4) xN_sm
  rw [decide_eq_true rfl] at hS
  have HS := hide hS
  clear hS Y4
  go_wp2_with fail
  refine (unhide HS).mono ?_
  rintro e w5 ⟨rfl, hb⟩
  have B5 := hide (step (unhide B4) hb)
  have X5 := hide (And.intro ((unhide X4).1.below hb) ((unhide X4).2.below hb))
  clear hb X4 B4 HS
  have hU := isUnder_any xN (xN.drop 1) _ _ w5 (unhide X5).1 (unhide X5).2 xN_sm (by decide)
  rw [show under xN (xN.drop 1) = true by decide +kernel] at hU
  have HU := hide hU
  clear hU
  go_wp2_with fail
  refine (unhide HU).mono ?_
  rintro e w6 ⟨rfl, hb⟩
  have B6 := hide (step (unhide B5) hb)
  have X6 := hide (And.intro ((unhide X5).1.below hb) ((unhide X5).2.below hb))
  clear hb X5 B5 HU
  have hU := isUnder_any (xN.drop 1) xN _ _ w6 (unhide X6).2 (unhide X6).1 (sm_drop xN_sm 1) (by decide)
  rw [show under (xN.drop 1) xN = false by decide +kernel] at hU
  have HU := hide hU
  clear hU
  go_wp2_with fail
  refine (unhide HU).mono ?_
  rintro e w7 ⟨rfl, hb⟩
  have B7 := hide (step (unhide B6) hb)
  clear hb X6 B6 HU
  go_wp2_with fail
  refine ((unhide e5) _).mono ?_
  rintro e w8 ⟨rfl, hb⟩
  have B8 := hide (step (unhide B7) hb)
  clear hb B7
  go_wp2_with fail
  refine ((unhide e6) _).mono ?_
  rintro e w9 ⟨rfl, hb⟩
  have B9 := hide (step (unhide B8) hb)
  clear hb B8
  go_wp2
  go_ret
  exact ⟨rfl, unhide B9⟩

theorem ext_min (s : ByteArray) (n : Nat) : s.extract 0 (min (s.size : Int) n).toNat = s.extract 0 n := by
  refine ByteArray.ext (Array.ext' ?_)
  rw [ext_list, ext_list, List.drop_zero, List.drop_zero]
  rcases Nat.le_total s.size n with h | h
  · rw [show (min (s.size : Int) n).toNat = s.size by omega, List.take_of_length_le (by rw [Array.length_toList]; exact Nat.le_refl _), List.take_of_length_le (by rw [Array.length_toList]; exact h)]
  · rw [show (min (s.size : Int) n).toNat = n by omega]
theorem cut_any (s : ByteArray) (w : World) (hs : s.size ≤ maxLen) :
    Calls Tryz.prog 12 #[.string s] w fun e w' => e = .returned (.string (s.extract 0 300)) ∧ w' = w := by
  unfold maxLen at hs
  have e := ext_min s 300
  have E := hide e
  clear e
  go_enter Tryz.func12, Tryz.ntmps12
  go_wp2
  go_ret
  exact ⟨by rw [← unhide E]; rfl, rfl⟩
theorem cut_shrt (s : ByteArray) : Shrt (s.extract 0 300).data.toList := shrt_of (by rw [Array.length_toList]; show (s.extract 0 300).size ≤ 1000; rw [ByteArray.size_extract]; omega)
end Go.Proofs.YthfcnjcpanoldaaGreatDoor.D
