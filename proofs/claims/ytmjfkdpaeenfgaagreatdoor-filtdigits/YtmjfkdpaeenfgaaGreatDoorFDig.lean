/-
  Values told by their digits, plainly. Conditions: none.
-/
import Derived.Test.YtmjfkdpaeenfgaaGreatDoorG31
namespace Go.Proofs.YtmjfkdpaeenfgaaGreatDoor.F
open Go Go.RowKit Go.Shelf Fp Ec
open Go.Proofs.YtmjfkdpaeenfgaaGreatDoor.D (hide unhide ext_list)

def dgs (l : List UInt8) : List UInt8 := l.flatMap fun x => 92 :: hx x
theorem dx_ok : ∀ i, i < 16 → Cd.nh (Cd.dx i) = some i ∧ (false && sE.contains (Cd.dx i)) = false := by
  intro i hi
  have h : ∀ i : Fin 16, Cd.nh (Cd.dx i.val) = some i.val ∧ (false && sE.contains (Cd.dx i.val)) = false := by decide +kernel
  exact h ⟨i, hi⟩
theorem u16 (x : UInt8) : x.toNat / 16 < 16 ∧ x.toNat % 16 < 16 := ⟨by have := x.toNat_lt; omega, by omega⟩
theorem rdk_dgs (N : Nat) : ∀ (l : List UInt8) (p : Nat), rdk false N 0 p (dgs l) = some l
  | [], p => by simp [dgs, rdk]
  | x :: l, p => by
    obtain ⟨a1, a2⟩ := dx_ok _ (u16 x).1
    obtain ⟨b1, b2⟩ := dx_ok _ (u16 x).2
    have e : dgs (x :: l) = 92 :: Cd.dx (x.toNat / 16) :: Cd.dx (x.toNat % 16) :: dgs l := by simp [dgs, hx]
    have hs : stp false N p 92 (Cd.dx (x.toNat / 16) :: Cd.dx (x.toNat % 16) :: dgs l) = some ([x], 2) := by
      unfold stp
      rw [if_pos rfl]
      rw [esc1, if_neg (by rw [a2]; simp)]
      simp only [a1, b1]
      congr 2
      have : UInt8.ofNat (16 * (x.toNat / 16) + x.toNat % 16) = x := Cd.ofNat_eq (by have := x.toNat_lt; omega)
      rw [this]
    rw [e, rdk_cons, hs]
    simp only
    rw [rdk, rdk, rdk_dgs N l]
    rfl
theorem dx_low : ∀ i, i < 16 → Cd.dx i < 128 ∧ Cd.dx i ≠ 40 ∧ Cd.dx i ≠ 41 ∧ Cd.dx i ≠ 42 ∧ Cd.dx i ≠ 61 := by
  intro i hi
  have h : ∀ i : Fin 16, Cd.dx i.val < 128 ∧ Cd.dx i.val ≠ 40 ∧ Cd.dx i.val ≠ 41 ∧ Cd.dx i.val ≠ 42 ∧ Cd.dx i.val ≠ 61 := by decide +kernel
  exact h ⟨i, hi⟩
theorem dgs_mem {l : List UInt8} : ∀ y ∈ dgs l, y < 128 ∧ y ≠ 40 ∧ y ≠ 41 ∧ y ≠ 42 ∧ y ≠ 61 := by
  intro y hy
  unfold dgs at hy
  obtain ⟨x, _, h⟩ := List.mem_flatMap.1 hy
  simp [hx] at h
  rcases h with rfl | rfl | rfl
  · decide
  · exact dx_low _ (u16 x).1
  · exact dx_low _ (u16 x).2
theorem und_dgs (v : ByteArray) : E.und false ⟨(dgs v.data.toList).toArray⟩ = (v, 0) := by
  have h := E.rd_low false (s := ⟨(dgs v.data.toList).toArray⟩) (fun x hx => (dgs_mem x hx).1)
  have h2 := rdk_dgs (⟨(dgs v.data.toList).toArray⟩ : ByteArray).size v.data.toList 0
  unfold E.und
  rw [h, show (⟨(dgs v.data.toList).toArray⟩ : ByteArray).data.toList = dgs v.data.toList from rfl, h2]
theorem rdV_dgs (v : ByteArray) : rdV (dgs v.data.toList) = some v := by unfold rdV; rw [und_dgs]; rfl
/-- the text of one whose value is told by its digits, read. -/
theorem dig_rd {n v : ByteArray} (hn : okName n = true) (hv : v.size ≤ 60) : rdT (40 :: (n.data.toList ++ 61 :: dgs v.data.toList) ++ [41]) = some (itF 3 n v) := by
  have h61 : (61 : UInt8) ∉ n.data.toList := fun hm => (name_no hn _ hm).1.1 rfl
  have hno : (41 : UInt8) ∉ n.data.toList ++ 61 :: dgs v.data.toList := by
    intro hm
    rcases List.mem_append.1 hm with hm | hm
    · exact (name_no hn _ hm).2.1.2.1 rfl
    · rcases List.mem_cons.1 hm with hm | hm
      · cases hm
      · exact (dgs_mem _ hm).2.2.1 rfl
  have hC : (rdC (n.data.toList ++ 61 :: dgs v.data.toList) : Option (Fl 8)) = some (itF 3 n v) := by
    unfold rdC
    rw [cutB_at 61 _ _ h61]
    simp only
    rw [kindOf_name hn]
    simp only
    unfold rdVals
    rw [if_pos (Or.inr (fun hm => (dgs_mem _ hm).2.2.2.1 rfl)), rdV_dgs, Option.map_some, E.mk_data]
  have hset : (n.data.toList ++ 61 :: (dgs v.data.toList ++ [41])).head?.bind setK = none := by
    obtain ⟨hz, _⟩ := name_size hn
    cases hl : n.data.toList with
    | nil => exact absurd (show n.data.size = 0 by rw [← Array.length_toList, hl]; rfl) hz
    | cons y ys =>
      have hy := (name_no hn y (by rw [hl]; simp)).2.2
      show setK y = none
      unfold setK
      rw [if_neg hy.1, if_neg hy.2.1, if_neg hy.2.2]
  have hB : rdB (rdF 5) (n.data.toList ++ 61 :: (dgs v.data.toList ++ [41])) = some (itF 3 n v, [41]) := by
    unfold rdB
    rw [hset]
    simp only
    rw [show n.data.toList ++ 61 :: (dgs v.data.toList ++ [41]) = (n.data.toList ++ 61 :: dgs v.data.toList) ++ 41 :: [] by simp, cutB_at 41 _ _ hno]
    simp only
    rw [hC, Option.map_some, List.drop_left]
  have hfit : fitF (itF 3 n v) = true := by
    have := itF_right (k := 3) (n := n) (v := v) (.inl rfl)
    rw [hn, decide_eq_true hv] at this
    rw [right] at this
    simp only [Bool.and_eq_true, Bool.and_self] at this
    exact this.1.2
  unfold rdT
  rw [rdF, if_pos (show (40 :: (n.data.toList ++ 61 :: dgs v.data.toList) ++ [41] : List UInt8).head? = some 40 from rfl)]
  rw [show (40 :: (n.data.toList ++ 61 :: dgs v.data.toList) ++ [41] : List UInt8).tail = n.data.toList ++ 61 :: (dgs v.data.toList ++ [41]) by simp, hB]
  simp only
  rw [if_pos ⟨rfl, hfit⟩]
  rfl
theorem dgs_len : ∀ l : List UInt8, (dgs l).length = 3 * l.length
  | [] => rfl
  | x :: l => by
    have e : dgs (x :: l) = [92, Cd.dx (x.toNat / 16), Cd.dx (x.toNat % 16)] ++ dgs l := by simp [dgs, hx]
    rw [e, List.length_append, dgs_len l]
    simp
    omega
theorem dgs_snoc (l : List UInt8) (x : UInt8) : dgs (l ++ [x]) = dgs l ++ 92 :: hx x := by simp [dgs]
theorem next_text {S k v : ByteArray} {i : Nat} (hi : i < v.size) (h : S.data.toList = 40 :: k.data.toList ++ 61 :: dgs (v.data.toList.take i)) :
    (S ++ ⟨#[92]⟩ ++ ⟨(hx v[i]).toArray⟩ : ByteArray).data.toList = 40 :: k.data.toList ++ 61 :: dgs (v.data.toList.take (i + 1)) := by
  have hl : i < v.data.toList.length := by rw [Array.length_toList]; exact hi
  rw [E.data_app, E.data_app, h, List.take_succ_eq_append_getElem hl, dgs_snoc]
  show _ ++ _ ++ [92] ++ hx v[i] = _
  have : v.data.toList[i] = v[i] := rfl
  rw [this]
  simp
end Go.Proofs.YtmjfkdpaeenfgaaGreatDoor.F
