/-
  What the document's Ints answers: are two lists the same? Conditions: none.
-/
import Derived.Test.YtpfopmjpchiekaaDoorUDoor
namespace Go.Proofs.YtpfopmjpchiekaaDoor.U
open Go Go.RowKit

theorem prefix_eq {A B : List Int} (hl : A.length = B.length) (h : ∀ j, j < A.length → A[j]? = B[j]?) : A = B := by
  apply List.ext_getElem?
  intro i
  rcases Nat.lt_or_ge i A.length with hi | hi
  · exact h i hi
  · rw [List.getElem?_eq_none hi, List.getElem?_eq_none (by omega)]

set_option maxRecDepth 100000 in
set_option maxHeartbeats 2000000 in
theorem ints_any (A B : List Int) (u v : Value) (w : World) (hA : A.length ≤ 1000) (hB : B.length ≤ 1000) (hu : Lies w u A) (hv : Lies w v B) :
    Calls Tryd.prog 21 #[u, v] w fun e w' => e = .returned (.bool (decide (A = B))) ∧ Below w.heap.size w w' := by
  obtain ⟨a, c, rfl, hc⟩ := hu
  obtain ⟨a', c', rfl, hc'⟩ := hv
  by_cases hn : A.length = B.length
  · rw [← hn]
    have hAi : (A.length : Int) ≤ 1000 := by omega
    go_enter Tryd.func21, Tryd.ntmps21
    go_wp2
    go_loopw [5] (fun ix wr => ∃ j : Nat, j ≤ A.length ∧ ix = .int .i64 (j : Int) ∧ (∀ i, i < j → A[i]? = B[i]?) ∧ Below w.heap.size w wr)
      (fun ix _ => A.length - (intOf ix).toNat)
    case atStart =>
      exact ⟨0, Nat.zero_le _, rfl, fun i h => by omega, Below.refl _ _⟩
    case round =>
      obtain ⟨j, hj, rfl, hpre, hb⟩ := hrel
      by_cases hlt : j < A.length
      · obtain ⟨x, hx⟩ : ∃ n, A[j]? = some n := ⟨_, List.getElem?_eq_getElem hlt⟩
        obtain ⟨y, hy⟩ : ∃ n, B[j]? = some n := ⟨_, List.getElem?_eq_getElem (by omega)⟩
        obtain ⟨b, o, rfl, hcell⟩ : ∃ b o, a = some ⟨b, o, none⟩ ∧ ∀ (i : Nat) n, A[i]? = some n → w.cell? ⟨b, o + i, none⟩ = some (.int .i64 n) := by
          rcases hc with rfl | h
          · simp at hlt
          · exact h
        obtain ⟨b', o', rfl, hcell'⟩ : ∃ b o, a' = some ⟨b, o, none⟩ ∧ ∀ (i : Nat) n, B[i]? = some n → w.cell? ⟨b, o + i, none⟩ = some (.int .i64 n) := by
          rcases hc' with rfl | h
          · exact absurd hlt (by rw [hn]; simp)
          · exact h
        have hcj : wr.cell? ⟨b, o + j, none⟩ = some (.int .i64 x) := (hb.cell (lt_of_cell (hcell j x hx))).trans (hcell j x hx)
        have hcj' : wr.cell? ⟨b', o' + j, none⟩ = some (.int .i64 y) := (hb.cell (lt_of_cell (hcell' j y hy))).trans (hcell' j y hy)
        have hlt' : (j : Int) < A.length := by omega
        have Hpre := hide hpre
        have HB := hide hb
        have Hx := hide hx
        have Hy := hide hy
        have Hn := hide hn
        clear hpre hb hx hy hcell hcell' hc hc' hn hB
        by_cases hxy : x = y
        · have t0 : (x != y) = false := by simp [hxy]
          have Hxy := hide hxy
          clear hxy
          go_wp2
          go_quiet (fail)
          go_wp2
          go_roundw
          case rel =>
            refine ⟨j + 1, by omega, by simp, fun i hi => ?_, below_drewN (unhide HB) _⟩
            by_cases e : i = j
            · subst e; rw [unhide Hx, unhide Hy, unhide Hxy]
            · exact unhide Hpre i (by omega)
          case measure => simp [intOf]; omega
        · have t0 : (x != y) = true := by simp [hxy]
          have Hxy := hide hxy
          clear hxy
          go_wp2
          go_quiet (fail)
          go_wp2
          go_ret
          refine ⟨?_, below_drewN (unhide HB) _⟩
          rw [decide_eq_false]
          · rfl
          · intro e
            have hx := unhide Hx
            have hy := unhide Hy
            rw [e, hy] at hx
            exact unhide Hxy (Option.some.inj hx).symm
      · have hge : ¬ (j : Int) < A.length := by omega
        have hAB : A = B := prefix_eq hn (fun i hi => hpre i (by omega))
        have HB := hide hb
        have HAB := hide hAB
        clear hpre hb hAB hc hc' hn
        go_wp2
        go_ret
        refine ⟨?_, unhide HB⟩
        rw [decide_eq_true (unhide HAB)]
        rfl
  · have t0 : ((A.length : Int) != (B.length : Int)) = true := by simp; omega
    have hne : A ≠ B := fun e => hn (by rw [e])
    rw [decide_eq_false hne]
    clear hc hc' hn hne
    go_enter Tryd.func21, Tryd.ntmps21
    go_wp2
    go_ret
    exact ⟨rfl, Below.refl _ _⟩
end Go.Proofs.YtpfopmjpchiekaaDoor.U
