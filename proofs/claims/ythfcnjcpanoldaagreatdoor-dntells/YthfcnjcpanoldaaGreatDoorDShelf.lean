/-
  strings.Cut at a separator of one byte, strings.Clone, and dn.joined (strings.Join). Conditions: the bounds that each statement names.
-/
import Derived.Test.YthfcnjcpanoldaaGreatDoorTShelf
import Derived.Test.YthfcnjcpanoldaaGreatDoorDName
import Derived.Lib.Bytealg
namespace Go.Proofs.YthfcnjcpanoldaaGreatDoor.D
open Go Go.RowKit Go.Shelf Dp
attribute [local go_sem] Oper.semAt_some

theorem idx_cut : ∀ l : List UInt8, match cutE l with
    | none => Lib.indexByte l 61 = -1
    | some (k, t) => Lib.indexByte l 61 = k.length ∧ k.length + 1 + t.length = l.length
  | [] => rfl
  | x :: r => by
    have ih := idx_cut r
    rw [cutE]
    by_cases h : x = 61
    · subst h
      rw [if_pos rfl]
      exact ⟨rfl, by simp; omega⟩
    · rw [if_neg h]
      have hb : (x == 61) = false := by simpa using h
      cases hc : cutE r with
      | none =>
        rw [hc] at ih
        show Lib.indexByte (x :: r) 61 = -1
        rw [Lib.indexByte, hb, ih]
        rfl
      | some q =>
        rw [hc] at ih
        show Lib.indexByte (x :: r) 61 = ((x :: q.1).length : Int) ∧ _
        rw [Lib.indexByte, hb, ih.1]
        have h1 : ((q.1.length : Int) == -1) = false := by rw [beq_eq_false_iff_ne]; omega
        rw [h1]
        refine ⟨by simp, ?_⟩
        have := ih.2
        simp only [List.length_cons]
        omega
set_option maxRecDepth 100000 in
theorem indexByte_any (s : ByteArray) (w : World) :
    Calls Tryz.prog 117 #[.string s, .int .u8 61] w fun e w' => e = .returned (.int .i64 (Lib.indexByte s.data.toList 61)) ∧ w' = w := by
  have hx := @run_callFunc_extern Tryz.prog 126 _ Extern.BytealgIndexByte.indexByte Tryz.func126 (by kernel_rfl) (by kernel_rfl) (by kernel_rfl) (by kernel_rfl)
  have hr := fun w => Lib.run_indexByteString (P := Tryz.prog) s 61 w
  rw [show (61 : Int).toNat.toUInt8 = 61 from rfl] at hr
  generalize Lib.indexByte s.data.toList 61 = n at *
  go_enter Tryz.func117, Tryz.ntmps117
  go_wp2
  go_ret
  exact ⟨rfl, rfl⟩
set_option maxRecDepth 100000 in
theorem index_any (s : ByteArray) (w : World) :
    Calls Tryz.prog 113 #[.string s, .string ⟨#[61]⟩] w fun e w' => e = .returned (.int .i64 (Lib.indexByte s.data.toList 61)) ∧ w' = w := by
  have H := hide fun W => indexByte_any s W
  have hl : (⟨#[61]⟩ : ByteArray).toList = [61] := by rw [ByteArray.toList_eq]
  cases h : (([61] : List UInt8) == s.toList)
  · generalize Lib.indexByte s.data.toList 61 = n at *
    go_enter Tryz.func113, Tryz.ntmps113
    go_wp2_with fail
    refine ((unhide H) _).mono ?_
    rintro e w1 ⟨rfl, rfl⟩
    go_wp2
    go_ret
    exact ⟨rfl, rfl⟩
  · have e : Lib.indexByte s.data.toList 61 = 0 := by
      have : ([61] : List UInt8) = s.toList := by simpa using h
      rw [← ByteArray.toList_eq, ← this]
      rfl
    rw [e]
    clear e H
    go_enter Tryz.func113, Tryz.ntmps113
    go_wp2
    go_ret
    exact ⟨rfl, rfl⟩
theorem take_drop_of {s : ByteArray} {k t : List UInt8} (h : cutE s.data.toList = some (k, t)) : s.extract 0 k.length = ⟨k.toArray⟩ ∧ s.extract (k.length + 1) s.size = ⟨t.toArray⟩ := by
  have e := cutE_len _ _ _ h
  have hz : s.size = s.data.toList.length := (Array.length_toList).symm
  constructor
  · refine ByteArray.ext (Array.ext' ?_)
    rw [ext_list, e]
    simp
  · refine ByteArray.ext (Array.ext' ?_)
    rw [ext_list, hz, List.take_length, e]
    simp
set_option maxRecDepth 100000 in
theorem cut0_none (s : ByteArray) (w : World) (h : cutE s.data.toList = none) :
    Calls Tryz.prog 106 #[.string s, .string ⟨#[61]⟩] w fun e w' => e = .returned (.tuple #[.string s, .string ⟨#[]⟩, .bool false]) ∧ Below w.heap.size w w' := by
  have H := hide fun W => index_any s W
  have hi := idx_cut s.data.toList
  rw [h] at hi
  rw [show Lib.indexByte s.data.toList 61 = -1 from hi] at H
  clear hi h
  go_enter Tryz.func106, Tryz.ntmps106
  go_wp2_with fail
  refine ((unhide H) _).mono ?_
  rintro e w1 ⟨rfl, rfl⟩
  go_wp2
  go_ret3
  exact ⟨rfl, Below.refl _ _⟩
set_option maxRecDepth 100000 in
theorem cut0_some (s : ByteArray) (k t : List UInt8) (w : World) (hs : s.size ≤ 10000) (h : cutE s.data.toList = some (k, t)) :
    Calls Tryz.prog 106 #[.string s, .string ⟨#[61]⟩] w fun e w' => e = .returned (.tuple #[.string ⟨k.toArray⟩, .string ⟨t.toArray⟩, .bool true]) ∧ Below w.heap.size w w' := by
  have H := hide fun W => index_any s W
  have hi := idx_cut s.data.toList
  rw [h] at hi
  obtain ⟨h1, h2⟩ : Lib.indexByte s.data.toList 61 = k.length ∧ k.length + 1 + t.length = s.data.toList.length := hi
  rw [h1] at H
  rw [Array.length_toList] at h2
  obtain ⟨e1, e2⟩ := take_drop_of h
  rw [← e1, ← e2]
  have h2' : k.length + 1 + t.length = s.size := h2
  clear h h1 e1 e2 h2
  obtain ⟨n, hn⟩ : ∃ n, k.length = n := ⟨_, rfl⟩
  rw [hn] at H h2' ⊢
  clear hn
  have hn1 : (n : Int) ≤ s.size := by omega
  have hn2 : (n : Int) + 1 ≤ s.size := by omega
  have hn3 : (n : Int) ≤ 10000 := by omega
  clear h2'
  have hmx : Tryz.prog.follows .mixedOrders = true := by kernel_rfl
  go_enter Tryz.func106, Tryz.ntmps106
  go_wp2_with fail
  refine ((unhide H) _).mono ?_
  rintro e w1 ⟨rfl, rfl⟩
  clear H
  go_wp2
  go_quiet (fail)
  go_wp2
  go_ret3
  exact ⟨rfl, U.below_drewN (Below.refl _ _) _⟩
theorem cut_none (s : ByteArray) (w : World) (h : cutE s.data.toList = none) :
    Calls Tryz.prog 99 #[.string s, .string ⟨#[61]⟩] w fun e w' => e = .returned (.tuple #[.string s, .string ⟨#[]⟩, .bool false]) ∧ Below w.heap.size w w' := by
  have H := hide fun W => cut0_none s W h
  go_enter Tryz.func99, Tryz.ntmps99
  go_wp2_with fail
  refine ((unhide H) _).mono ?_
  rintro e w1 ⟨rfl, hb⟩
  have HB := hide hb
  clear hb
  go_wp2
  go_ret3
  exact ⟨rfl, unhide HB⟩
theorem cut_some (s : ByteArray) (k t : List UInt8) (w : World) (hs : s.size ≤ 10000) (h : cutE s.data.toList = some (k, t)) :
    Calls Tryz.prog 99 #[.string s, .string ⟨#[61]⟩] w fun e w' => e = .returned (.tuple #[.string ⟨k.toArray⟩, .string ⟨t.toArray⟩, .bool true]) ∧ Below w.heap.size w w' := by
  have H := hide fun W => cut0_some s k t W hs h
  generalize (⟨k.toArray⟩ : ByteArray) = kk at *
  generalize (⟨t.toArray⟩ : ByteArray) = tt at *
  clear h
  go_enter Tryz.func99, Tryz.ntmps99
  go_wp2_with fail
  refine ((unhide H) _).mono ?_
  rintro e w1 ⟨rfl, hb⟩
  have HB := hide hb
  clear hb
  go_wp2
  go_ret3
  exact ⟨rfl, unhide HB⟩
theorem clone_any (s : ByteArray) (w : World) (hs : s.size ≤ 10000) : Calls Tryz.prog 101 #[.string s] w fun e w' => e = .returned (.string s) ∧ Below w.heap.size w w' := by
  have H := clone0_any s w (by omega)
  go_enter Tryz.func101, Tryz.ntmps101
  go_wp2_with (go_at_call 108; refine H.mono ?_; rintro e w' ⟨rfl, hb⟩)
  go_ret
  exact ⟨rfl, hb⟩

/-- joined, of pieces that lie in a slice. -/
theorem conv_one (c : UInt8) (w : World) : (convert 85 9 (.slice (some ⟨w.heap.size, 0, none⟩) 1 1)).run Tryz.prog (w.alloc (.cells #[.int .u8 (c.toNat : Int)] 5)) = .ok (.string ⟨#[c]⟩) (w.alloc (.cells #[.int .u8 (c.toNat : Int)] 5)) := by
  rw [show (⟨#[c]⟩ : ByteArray) = ⟨[c].toArray⟩ from rfl, ← C.nums_str]
  refine run_convert_bytes_arg _ _ _ Tryz.underlying85 Tryz.underlying5 w.heap.size 0 1 1 ([c].map fun x => (x.toNat : Int)) rfl (fun i hi => ?_) _ Tryz.underlying9
  obtain rfl : i = 0 := by omega
  rw [World.cell?_alloc_at _ _ _ _ rfl]
  rfl
set_option maxRecDepth 100000 in
theorem joined_nil (c : UInt8) (a : Option Addr) (k : Nat) (w : World) :
    Calls Tryz.prog 50 #[.int .u8 c.toNat, .slice a 0 k] w fun e w' => e = .returned (.string ⟨#[]⟩) ∧ Below w.heap.size w w' := by
  have H := hide fun sep W => join_none a k sep W
  have hcv := conv_one c w
  have HB := hide ((Below.refl w.heap.size w).alloc (Nat.le_refl _) (.cells #[.int .u8 (c.toNat : Int)] 5))
  go_enter Tryz.func50, Tryz.ntmps50
  go_wp2_with fail
  refine ((unhide H) _ _).mono ?_
  rintro e w1 ⟨rfl, rfl⟩
  go_wp2
  go_ret
  exact ⟨rfl, unhide HB⟩
set_option maxRecDepth 100000 in
theorem joined_some (c : UInt8) (bk k : Nat) (xs : List ByteArray) (w : World) (hcells : ∀ (j : Nat) x, xs[j]? = some x → w.cell? ⟨bk, 0 + j, none⟩ = some (.string x)) (hbk : bk < w.heap.size) (hN : xs.length ≤ 10000) (hcap : xs.length ≤ k)
    (hlen : (jn c (xs.map (·.data.toList))).length ≤ 100000000000) :
    Calls Tryz.prog 50 #[.int .u8 c.toNat, .slice (some ⟨bk, 0, none⟩) xs.length k] w fun e w' => e = .returned (.string ⟨(jn c (xs.map (·.data.toList))).toArray⟩) ∧ Below w.heap.size w w' := by
  have HB := hide ((Below.refl w.heap.size w).alloc (Nat.le_refl _) (.cells #[.int .u8 (c.toNat : Int)] 5))
  have H := hide (join_some bk 0 k xs ⟨#[c]⟩ (w.alloc (.cells #[.int .u8 (c.toNat : Int)] 5)) (fun j x h => below_cell ((Below.refl _ _).alloc (Nat.le_refl _) _) _ _ (hcells j x h)) (by simp; omega) (by omega) hcap (by show (jn c _).length ≤ _; omega))
  have hcv := conv_one c w
  have e : Lib.join (xs.map (·.data.toList)) (⟨#[c]⟩ : ByteArray).data.toList = jn c (xs.map (·.data.toList)) := rfl
  rw [e] at H
  generalize (⟨(jn c (xs.map (·.data.toList))).toArray⟩ : ByteArray) = res at *
  clear hcells hlen e
  go_enter Tryz.func50, Tryz.ntmps50
  go_wp2_with fail
  refine (unhide H).mono ?_
  rintro e w1 ⟨rfl, hb⟩
  have HB1 := hide ((unhide HB).trans (hb.mono (by simp)))
  clear hb
  go_wp2
  go_ret
  exact ⟨rfl, unhide HB1⟩
end Go.Proofs.YthfcnjcpanoldaaGreatDoor.D
