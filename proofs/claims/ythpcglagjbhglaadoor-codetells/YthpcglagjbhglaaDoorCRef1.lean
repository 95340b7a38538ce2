/-
  What the document's own value, Digit and group answer. Conditions: none.
-/
import Derived.Test.YthpcglagjbhglaaDoorCShown
import Derived.Laws.DeepStrings4
namespace Go.Proofs.YthpcglagjbhglaaDoor.C
open Go Go.RowKit Cd
attribute [local go_sem] Oper.semAt_some

/-- what a sign is worth. -/
def vl (c : UInt8) : Nat := (nx c).getD 0
theorem sixes_at (j : Nat) (h : j < sixesS.size) : sixesS[j] = sx j := by
  have : ∀ i : Fin 64, sixesS.data.toList.getD i.val 0 = sx i.val := by decide +kernel
  have h2 := this ⟨j, h⟩
  rw [← h2]
  have hl : j < sixesS.data.toList.length := h
  rw [List.getD_eq_getElem?_getD, List.getElem?_eq_getElem hl]
  rfl
theorem vl_at {c : UInt8} {j : Nat} (hj : j < 64) (h : sx j = c) : vl c = j := by
  unfold vl
  rw [← h, nx_sx j hj]
  rfl
theorem vl_none {c : UInt8} (h : ∀ i, i < 64 → sx i ≠ c) : vl c = 0 := by
  unfold vl
  cases hx : nx c with
  | none => rfl
  | some n => exact absurd (nx_some hx).2 (h n (nx_some hx).1)
set_option maxRecDepth 100000 in
set_option maxHeartbeats 2000000 in
theorem value_any (c : UInt8) (w : World) :
    Calls Tryd.prog 21 #[.int .u8 c.toNat] w fun e w' => e = .returned (.int .i64 (vl c)) ∧ w' = w := by
  go_enter Tryd.func21, Tryd.ntmps21
  go_wp2
  go_loopw [3] (fun ix wr => ∃ j : Nat, j ≤ 64 ∧ ix = .int .i64 (j : Int) ∧ (∀ i, i < j → sx i ≠ c) ∧ wr = w)
    (fun ix _ => 64 - (intOf ix).toNat)
  case atStart => exact ⟨0, Nat.zero_le _, rfl, fun i hi => by omega, rfl⟩
  case round =>
    obtain ⟨j, hj, rfl, hno, rfl⟩ := hrel
    have Hno := hide hno
    clear hno
    by_cases hlt : j < 64
    · have hlt' : (j : Int) < 64 := by omega
      have hat := sixes_at j hlt
      by_cases he : sx j = c
      · have heq : ((sx j).toNat : Int) = c.toNat := by rw [he]
        have Hv := hide (vl_at hlt he)
        clear he
        go_wp2
        go_ret
        exact ⟨by rw [unhide Hv]; rfl, rfl⟩
      · have heq : (((sx j).toNat : Int) == c.toNat) = false := by
          rw [beq_eq_false_iff_ne]
          intro h
          exact he (UInt8.toNat.inj (by omega))
        have He := hide he
        clear he
        go_wp2
        go_roundw
        case rel =>
          refine ⟨j + 1, by omega, by simp, fun i hi => ?_, by first | rfl | trivial⟩
          by_cases h : i = j
          · rw [h]; exact unhide He
          · exact unhide Hno i (by omega)
        case measure => simp [intOf]; omega
    · have hge : ¬ (j : Int) < 64 := by omega
      have hv : vl c = 0 := vl_none fun i hi => unhide Hno i (by omega)
      have Hv := hide hv
      clear hv
      go_wp2
      go_ret
      exact ⟨by rw [unhide Hv]; rfl, rfl⟩

/-- what a digit is worth. -/
def dg (c : UInt8) : Int := match nh c with | some n => (n : Int) | none => -1
set_option maxRecDepth 100000 in
theorem digit_any (c : UInt8) (w : World) :
    Calls Tryd.prog 23 #[.int .u8 c.toNat] w fun e w' => e = .returned (.int .i64 (dg c)) ∧ w' = w := by
  have hc := c.toNat_lt
  unfold dg nh
  by_cases h1 : 48 ≤ c.toNat ∧ c.toNat ≤ 57
  · rw [if_pos h1]
    have a1 : (48 : Int) ≤ c.toNat := by omega
    have a2 : (c.toNat : Int) ≤ 57 := by omega
    dsimp only
    rw [show ((c.toNat - 48 : Nat) : Int) = (c.toNat : Int) - 48 by omega]
    clear h1
    go_enter Tryd.func23, Tryd.ntmps23
    go_wp2
    go_ret
    exact ⟨rfl, rfl⟩
  rw [if_neg h1]
  by_cases h2 : 97 ≤ c.toNat ∧ c.toNat ≤ 102
  · rw [if_pos h2]
    have a0 : (48 : Int) ≤ c.toNat := by omega
    have a1 : ¬ (c.toNat : Int) ≤ 57 := by omega
    have a2 : (97 : Int) ≤ c.toNat := by omega
    have a3 : (c.toNat : Int) ≤ 102 := by omega
    dsimp only
    rw [show ((c.toNat - 87 : Nat) : Int) = (c.toNat : Int) - 97 + 10 by omega]
    clear h1 h2
    go_enter Tryd.func23, Tryd.ntmps23
    go_wp2
    go_ret
    exact ⟨rfl, rfl⟩
  rw [if_neg h2]
  by_cases h3 : 65 ≤ c.toNat ∧ c.toNat ≤ 70
  · rw [if_pos h3]
    have a0 : (48 : Int) ≤ c.toNat := by omega
    have a1 : ¬ (c.toNat : Int) ≤ 57 := by omega
    have a2 : ¬ (97 : Int) ≤ c.toNat := by omega
    have a3 : (65 : Int) ≤ c.toNat := by omega
    have a4 : (c.toNat : Int) ≤ 70 := by omega
    dsimp only
    rw [show ((c.toNat - 55 : Nat) : Int) = (c.toNat : Int) - 65 + 10 by omega]
    clear h1 h2 h3
    go_enter Tryd.func23, Tryd.ntmps23
    go_wp2
    go_ret
    exact ⟨rfl, rfl⟩
  rw [if_neg h3]
  dsimp only
  by_cases b1 : 48 ≤ c.toNat
  · have a0 : (48 : Int) ≤ c.toNat := by omega
    have a1 : ¬ (c.toNat : Int) ≤ 57 := by omega
    by_cases b2 : 97 ≤ c.toNat
    · have a2 : (97 : Int) ≤ c.toNat := by omega
      have a3 : ¬ (c.toNat : Int) ≤ 102 := by omega
      have a4 : (65 : Int) ≤ c.toNat := by omega
      have a5 : ¬ (c.toNat : Int) ≤ 70 := by omega
      clear h1 h2 h3 b1 b2
      go_enter Tryd.func23, Tryd.ntmps23
      go_wp2
      go_ret
      exact ⟨rfl, rfl⟩
    · have a2 : ¬ (97 : Int) ≤ c.toNat := by omega
      by_cases b3 : 65 ≤ c.toNat
      · have a4 : (65 : Int) ≤ c.toNat := by omega
        have a5 : ¬ (c.toNat : Int) ≤ 70 := by omega
        clear h1 h2 h3 b1 b2 b3
        go_enter Tryd.func23, Tryd.ntmps23
        go_wp2
        go_ret
        exact ⟨rfl, rfl⟩
      · have a4 : ¬ (65 : Int) ≤ c.toNat := by omega
        clear h1 h2 h3 b1 b2 b3
        go_enter Tryd.func23, Tryd.ntmps23
        go_wp2
        go_ret
        exact ⟨rfl, rfl⟩
  · have a0 : ¬ (48 : Int) ≤ c.toNat := by omega
    have a2 : ¬ (97 : Int) ≤ c.toNat := by omega
    have a4 : ¬ (65 : Int) ≤ c.toNat := by omega
    clear h1 h2 h3 b1
    go_enter Tryd.func23, Tryd.ntmps23
    go_wp2
    go_ret
    exact ⟨rfl, rfl⟩

theorem slice_one (k : Nat) (hk : k < 64) (wx : World) : (Instr.slice 9 (.string sixesS) (some (.int .i64 (k : Int))) (some (.int .i64 ((k : Int) + 1))) none).run Tryd.prog wx = .ok (.string ⟨#[sx k]⟩) wx := by
  have := run_slice_string (P := Tryd.prog) (w := wx) 9 sixesS .i64 .i64 (k : Int) ((k : Int) + 1) Tryd.underlying9 (by omega) (by omega) (by show (k : Int) + 1 ≤ 64; omega)
  rw [show ((k : Int)).toNat = k by omega, show ((k : Int) + 1).toNat = k + 1 by omega] at this
  have e : ∀ i : Fin 64, (sixesS.extract i.val (i.val + 1)).data.toList = [sx i.val] := by decide +kernel
  rw [this, show sixesS.extract k (k + 1) = ⟨#[sx k]⟩ from ByteArray.ext (Array.ext' (e ⟨k, hk⟩))]
set_option maxRecDepth 100000 in
set_option maxHeartbeats 4000000 in
theorem group3 (s : ByteArray) (a b c : UInt8) (w : World) (h : s.data.toList = [a, b, c]) :
    Calls Tryd.prog 25 #[.string s] w fun e w' => e = .returned (.string ⟨(gr kB s.data.toList).toArray⟩) ∧ w' = w := by
  have hz : s.size = 3 := by have := congrArg List.length h; simpa using this
  have hz' : (s.size : Int) = 3 := by omega
  have h0 : s[0] = a := getD_of h 0 (by omega)
  have l0 := a.toNat_lt
  have h1 : s[1] = b := getD_of h 1 (by omega)
  have l1 := b.toNat_lt
  have h2 : s[2] = c := getD_of h 2 (by omega)
  have l2 := c.toNat_lt
  rw [h, gr_B3]
  have hX : pk [a, b, c] = a.toNat * 65536 + b.toNat * 256 + c.toNat := rfl
  have hE : 256 * (256 * (a.toNat : Int) + b.toNat) + c.toNat = ((pk [a, b, c] : Nat) : Int) := by rw [hX]; omega
  generalize pk [a, b, c] = X at *
  have HE := hide hE
  clear hE hX
  go_enter Tryd.func25, Tryd.ntmps25
  go_wp2
  refine wp_loop_rounds 4 ?_
  rw [rounds_succ]
  go_wp2
  rw [rounds_succ]
  go_wp2
  rw [rounds_succ]
  go_wp2
  rw [rounds_succ]
  go_wp2
  rw [unhide HE]
  have s0 := fun wx => slice_one (X / 262144 % 64) (by omega) wx
  rw [show ((X / 262144 % 64 : Nat) : Int) = (X : Int) / 262144 % 64 by omega] at s0
  have s1 := fun wx => slice_one (X / 4096 % 64) (by omega) wx
  rw [show ((X / 4096 % 64 : Nat) : Int) = (X : Int) / 4096 % 64 by omega] at s1
  have s2 := fun wx => slice_one (X / 64 % 64) (by omega) wx
  rw [show ((X / 64 % 64 : Nat) : Int) = (X : Int) / 64 % 64 by omega] at s2
  have s3 := fun wx => slice_one (X % 64) (by omega) wx
  rw [show ((X % 64 : Nat) : Int) = (X : Int) % 64 by omega] at s3
  clear l0 l1 l2 HE
  refine wp_loop_rounds 5 ?_
  rw [rounds_succ]
  go_wp2
  rw [rounds_succ]
  go_wp2
  rw [rounds_succ]
  go_wp2
  rw [rounds_succ]
  go_wp2
  rw [rounds_succ]
  go_wp2
  go_ret
  refine ⟨congrArg (fun x : ByteArray => Ending.returned (Value.string x)) (ByteArray.ext ?_), rfl⟩
  simp [ByteArray.data_append]
set_option maxRecDepth 100000 in
set_option maxHeartbeats 4000000 in
theorem group2 (s : ByteArray) (a b : UInt8) (w : World) (h : s.data.toList = [a, b]) :
    Calls Tryd.prog 25 #[.string s] w fun e w' => e = .returned (.string ⟨(gr kB s.data.toList).toArray⟩) ∧ w' = w := by
  have hz : s.size = 2 := by have := congrArg List.length h; simpa using this
  have hz' : (s.size : Int) = 2 := by omega
  have h0 : s[0] = a := getD_of h 0 (by omega)
  have l0 := a.toNat_lt
  have h1 : s[1] = b := getD_of h 1 (by omega)
  have l1 := b.toNat_lt
  rw [h, gr_B2]
  have hX : pk [a, b] = a.toNat * 65536 + b.toNat * 256 := rfl
  have hE : 256 * (256 * (a.toNat : Int) + b.toNat) = ((pk [a, b] : Nat) : Int) := by rw [hX]; omega
  generalize pk [a, b] = X at *
  have HE := hide hE
  clear hE hX
  go_enter Tryd.func25, Tryd.ntmps25
  go_wp2
  refine wp_loop_rounds 4 ?_
  rw [rounds_succ]
  go_wp2
  rw [rounds_succ]
  go_wp2
  rw [rounds_succ]
  go_wp2
  rw [rounds_succ]
  go_wp2
  rw [unhide HE]
  have s0 := fun wx => slice_one (X / 262144 % 64) (by omega) wx
  rw [show ((X / 262144 % 64 : Nat) : Int) = (X : Int) / 262144 % 64 by omega] at s0
  have s1 := fun wx => slice_one (X / 4096 % 64) (by omega) wx
  rw [show ((X / 4096 % 64 : Nat) : Int) = (X : Int) / 4096 % 64 by omega] at s1
  have s2 := fun wx => slice_one (X / 64 % 64) (by omega) wx
  rw [show ((X / 64 % 64 : Nat) : Int) = (X : Int) / 64 % 64 by omega] at s2
  clear l0 l1 HE
  refine wp_loop_rounds 5 ?_
  rw [rounds_succ]
  go_wp2
  rw [rounds_succ]
  go_wp2
  rw [rounds_succ]
  go_wp2
  rw [rounds_succ]
  go_wp2
  rw [rounds_succ]
  go_wp2
  go_ret
  refine ⟨congrArg (fun x : ByteArray => Ending.returned (Value.string x)) (ByteArray.ext ?_), rfl⟩
  simp [ByteArray.data_append]
set_option maxRecDepth 100000 in
set_option maxHeartbeats 4000000 in
theorem group1 (s : ByteArray) (a : UInt8) (w : World) (h : s.data.toList = [a]) :
    Calls Tryd.prog 25 #[.string s] w fun e w' => e = .returned (.string ⟨(gr kB s.data.toList).toArray⟩) ∧ w' = w := by
  have hz : s.size = 1 := by have := congrArg List.length h; simpa using this
  have hz' : (s.size : Int) = 1 := by omega
  have h0 : s[0] = a := getD_of h 0 (by omega)
  have l0 := a.toNat_lt
  rw [h, gr_B1]
  have hX : pk [a] = a.toNat * 65536 := rfl
  have hE : 256 * (256 * (a.toNat : Int)) = ((pk [a] : Nat) : Int) := by rw [hX]; omega
  generalize pk [a] = X at *
  have HE := hide hE
  clear hE hX
  go_enter Tryd.func25, Tryd.ntmps25
  go_wp2
  refine wp_loop_rounds 4 ?_
  rw [rounds_succ]
  go_wp2
  rw [rounds_succ]
  go_wp2
  rw [rounds_succ]
  go_wp2
  rw [rounds_succ]
  go_wp2
  rw [unhide HE]
  have s0 := fun wx => slice_one (X / 262144 % 64) (by omega) wx
  rw [show ((X / 262144 % 64 : Nat) : Int) = (X : Int) / 262144 % 64 by omega] at s0
  have s1 := fun wx => slice_one (X / 4096 % 64) (by omega) wx
  rw [show ((X / 4096 % 64 : Nat) : Int) = (X : Int) / 4096 % 64 by omega] at s1
  clear l0 HE
  refine wp_loop_rounds 5 ?_
  rw [rounds_succ]
  go_wp2
  rw [rounds_succ]
  go_wp2
  rw [rounds_succ]
  go_wp2
  rw [rounds_succ]
  go_wp2
  rw [rounds_succ]
  go_wp2
  go_ret
  refine ⟨congrArg (fun x : ByteArray => Ending.returned (Value.string x)) (ByteArray.ext ?_), rfl⟩
  simp [ByteArray.data_append]
theorem group_any (s : ByteArray) (w : World) (h1 : 1 ≤ s.size) (h3 : s.size ≤ 3) :
    Calls Tryd.prog 25 #[.string s] w fun e w' => e = .returned (.string ⟨(gr kB s.data.toList).toArray⟩) ∧ w' = w := by
  have hl : s.data.toList.length = s.size := by simp
  match hs : s.data.toList with
  | [] => rw [hs] at hl; simp at hl; omega
  | [a] => rw [← hs]; exact group1 s a w hs
  | [a, b] => rw [← hs]; exact group2 s a b w hs
  | [a, b, c] => rw [← hs]; exact group3 s a b c w hs
  | a :: b :: c :: d :: r => rw [hs] at hl; simp at hl; omega
end Go.Proofs.YthpcglagjbhglaaDoor.C
