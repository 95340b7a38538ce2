/-
  A name of one part that was just laid; facts for the laws. Conditions: none.
-/
import Derived.Test.YthfcnjcpanoldaaGreatDoorDShown
namespace Go.Proofs.YthfcnjcpanoldaaGreatDoor.D
open Go Go.RowKit Go.Shelf Dp

theorem one_at {V : World} {B : Nat} {k v : ByteArray} (h0 : V.heap[B]? = some (.cells #[.string k, .string v] 39)) (h1 : V.heap[B + 1]? = some (.cells #[.slice (some ⟨B, 0, none⟩) 1 1] 42)) : Nml V (.slice (some ⟨B + 1, 0, none⟩) 1 1) [[(k, v)]] := by
  refine ⟨_, _, rfl, Nat.le_refl _, .inr ⟨_, 0, rfl, fun i r hr => ?_⟩⟩
  match i, hr with
  | 0, hr =>
    cases hr
    have hc : V.cell? ⟨B + 1, 0 + 0, none⟩ = some (.slice (some ⟨B, 0, none⟩) 1 1) := by simp [World.cell?, h1]
    refine ⟨_, hc, _, _, rfl, Nat.le_refl _, .inr ⟨_, 0, rfl, fun i x hx => ?_⟩⟩
    match i, hx with
    | 0, hx => cases hx; simp [World.cell?, h0]
theorem one_lies (W : World) (k v : ByteArray) : Nml ((W.alloc (.cells #[.string k, .string v] 39)).alloc (.cells #[.slice (some ⟨W.heap.size, 0, none⟩) 1 1] 42)) (.slice (some ⟨W.heap.size + 1, 0, none⟩) 1 1) [[(k, v)]] := by
  refine one_at ?_ ?_
  · rw [Below.heap_alloc _ _ _ (by simp)]; exact World.alloc_heap_new _ _
  · have := World.alloc_heap_new (W.alloc (.cells #[.string k, .string v] 39)) (.cells #[.slice (some ⟨W.heap.size, 0, none⟩) 1 1] 42)
    rwa [World.size_alloc] at this
theorem okN_one (k v : ByteArray) : okN [[(k, v)]] = okA (k, v) := by
  unfold okN okR
  simp
theorem pr_one (k v : ByteArray) : pr [[(k, v)]] = prB (k, v) := by
  unfold pr prL prB
  simp only [List.map_cons, List.map_nil, jn_one, prR]
theorem sm_one {k v : ByteArray} (h : k.size ≤ 1000) (h2 : v.size ≤ 1000) : Sm [[(k, v)]] := by
  refine ⟨by simp, fun r hr => ?_⟩
  simp at hr
  subst hr
  refine ⟨by simp, fun a ha => ?_⟩
  simp at ha
  subst ha
  exact ⟨h, h2⟩
theorem ext_size (s : ByteArray) (n : Nat) : (s.extract 0 n).size ≤ n := by rw [ByteArray.size_extract]; omega
end Go.Proofs.YthfcnjcpanoldaaGreatDoor.D
