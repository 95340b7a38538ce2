/-
  What prim.Int, ReadInt, Bool and ReadBool answer, at every input. Conditions: the package-level variables hold what the program's text lays ('Glob').
-/
import Derived.Test.YtjgphpjbcabdeaaDoorPRead
import Derived.Test.YtjgphpjbcabdeaaDoorPBytes
namespace Go.Proofs.YtjgphpjbcabdeaaDoor.P
open Go.RowKit

/-- a call that answers v and keeps what lay in w. -/
def Keeps (w : World) (f : FuncId) (args : Array Value) (v : Value) : Prop :=
  ∀ w1, Below w.heap.size w w1 → Calls Tryd.prog f args w1 fun e w' => e = .returned v ∧ Below w.heap.size w w'
theorem keep {aB : Addr} {w : World} (g : Glob aB w) {f : FuncId} {args : Array Value} {v : Value}
    (h : ∀ w1, Glob aB w1 → Calls Tryd.prog f args w1 fun e w' => e = .returned v ∧ Below w1.heap.size w1 w') : Keeps w f args v :=
  fun w1 hb => (h w1 (g.below (Nat.le_refl _) hb)).mono fun _ _ ⟨he, hb'⟩ => ⟨he, hb.trans (hb'.mono hb.size)⟩
theorem keep0 {w : World} {f : FuncId} {args : Array Value} {v : Value}
    (h : ∀ w1, Calls Tryd.prog f args w1 fun e w' => e = .returned v ∧ Below w1.heap.size w1 w') : Keeps w f args v :=
  fun w1 hb => (h w1).mono fun _ _ ⟨he, hb'⟩ => ⟨he, hb.trans (hb'.mono hb.size)⟩

abbrev str (l : List UInt8) : Value := .string ⟨l.toArray⟩

set_option maxRecDepth 100000 in
theorem int_ok (n : Int) (w : World) (h : Pr.wd n ≠ 0) :
    Calls Tryd.prog 11 #[.int .i64 n] w fun e w' => e = .returned (.tuple #[str (Pr.enc n), .int .i64 0]) ∧ Below w.heap.size w w' := by
  have H := numberOf_ok n h w
  have hk : 1 ≤ (Pr.wd n : Int) ∧ (Pr.wd n : Int) ≤ 4 := by have := Pr.wd_le n; omega
  have H2 := hide fun w1 => bytes_any (Pr.wd n) n hk w1
  simp only [Int.toNat_natCast] at H2
  go_enter Tryd.func11, Tryd.ntmps11
  go_wp2_with fail
  refine H.mono ?_
  rintro e w1 ⟨rfl, hb1⟩
  have HB1 := hide hb1
  clear hb1
  go_wp2_with fail
  refine ((unhide H2) _).mono ?_
  rintro e w2 ⟨rfl, hb2⟩
  have HB2 := hide hb2
  clear hb2
  go_wp2
  go_ret2
  exact ⟨rfl, ((unhide HB1).alloc (unhide HB1).size _).trans ((unhide HB2).mono (by have := (unhide HB1).size; simp; omega))⟩

set_option maxRecDepth 100000 in
theorem int_no (n : Int) (aB : Addr) (w : World) (g : Glob aB w) (h : Pr.wd n = 0) :
    Calls Tryd.prog 11 #[.int .i64 n] w fun e w' => e = .returned (.tuple #[.string ⟨#[]⟩, .int .i64 30]) ∧ Below w.heap.size w w' := by
  have H := numberOf_no n h w
  have H2 := hide fun w1 (hb : Below w.heap.size w w1) => errnoOf_number _ _ (as1 moreS) aB w1 (g.below (Nat.le_refl _) hb)
  clear g
  go_enter Tryd.func11, Tryd.ntmps11
  go_wp2_with fail
  refine H.mono ?_
  rintro e w1 ⟨rfl, hb1⟩
  have HB1 := hide hb1
  clear hb1
  go_wp2_with fail
  refine ((unhide H2) _ ((unhide HB1).alloc (unhide HB1).size _)).mono ?_
  rintro e w2 ⟨rfl, hb2⟩
  have HB2 := hide hb2
  clear hb2
  go_wp2
  go_ret2
  exact ⟨rfl, ((unhide HB1).alloc (unhide HB1).size _).trans ((unhide HB2).mono (by have := (unhide HB1).size; simp; omega))⟩

/-- what Int answers. -/
def intA (n : Int) : Int := if Pr.wd n = 0 then 30 else 0
theorem int_any (n : Int) (aB : Addr) (w : World) (g : Glob aB w) :
    Calls Tryd.prog 11 #[.int .i64 n] w fun e w' => e = .returned (.tuple #[str (Pr.enc n), .int .i64 (intA n)]) ∧ Below w.heap.size w w' := by
  unfold intA
  by_cases h : Pr.wd n = 0
  · rw [if_pos h, show Pr.enc n = [] by unfold Pr.enc; rw [h]; rfl]
    exact int_no n aB w g h
  · rw [if_neg h]
    exact int_ok n w h

set_option maxRecDepth 100000 in
theorem readInt_any (s : ByteArray) (aB : Addr) (w : World) (g : Glob aB w) (hs : s.size ≤ maxLen) :
    Calls Tryd.prog 13 #[.string s] w fun e w' => e = .returned (.tuple #[.int .i64 (Pr.dec s.data.toList).1, .int .i64 (Pr.dec s.data.toList).2]) ∧ Below w.heap.size w w' := by
  have H := read_any s w hs
  rcases Pr.dec_shape s.data.toList with hd | hd
  · have H' := H.mono (R' := fun e w' => Hid (Below w.heap.size w w') ∧ ∃ c, e = .returned (.tuple #[.agg #[.int .i64 c, .int .i64 (Pr.val s.data.toList)], .nilIface])) (fun e w' ⟨hb, he⟩ => ⟨hb, by rw [hd] at he; simpa using he⟩)
    rw [hd]
    clear H hd g
    go_enter Tryd.func13, Tryd.ntmps13
    go_wp2_with fail
    refine H'.mono ?_
    rintro e w1 ⟨hb, c, rfl⟩
    go_wp2
    go_ret2
    exact ⟨rfl, (unhide hb).alloc (unhide hb).size _⟩
  · have H' := H.mono (R' := fun e w' => Hid (Below w.heap.size w w') ∧ ∃ k t, e = .returned (.tuple #[.agg #[.int .i64 0, .int .i64 0], bad k t])) (fun e w' ⟨hb, he⟩ => ⟨hb, by rw [hd] at he; simpa using he⟩)
    rw [hd]
    have H2 := hide fun k t w1 (hb : Below w.heap.size w w1) => errnoOf_number _ _ (as2 t k) aB w1 (g.below (Nat.le_refl _) hb)
    clear H hd g
    go_enter Tryd.func13, Tryd.ntmps13
    go_wp2_with fail
    refine H'.mono ?_
    rintro e w1 ⟨hb, k, t, rfl⟩
    go_wp2_with fail
    refine ((unhide H2) k t _ ((unhide hb).alloc (unhide hb).size _)).mono ?_
    rintro e w2 ⟨rfl, hb2⟩
    have HB2 := hide hb2
    clear hb2
    go_wp2
    go_ret2
    exact ⟨rfl, ((unhide hb).alloc (unhide hb).size _).trans ((unhide HB2).mono (by have := (unhide hb).size; simp; omega))⟩

theorem bool_any (b : Bool) (w : World) :
    Calls Tryd.prog 17 #[.bool b] w fun e w' => e = .returned (.string ⟨#[if b then 255 else 0]⟩) ∧ w' = w := by
  cases b
  · go_enter Tryd.func17, Tryd.ntmps17
    go_wp2
    go_ret
    exact ⟨rfl, rfl⟩
  · go_enter Tryd.func17, Tryd.ntmps17
    go_wp2
    go_ret
    exact ⟨rfl, rfl⟩

/-- what ReadBool answers. -/
def rb (l : List UInt8) : Bool × Int := match l with | [x] => (x != 0, 0) | _ => (false, 31)

theorem one_of_size {s : ByteArray} (h : s.size = 1) : ∃ x, s = ⟨#[x]⟩ := by
  obtain ⟨⟨l⟩⟩ := s
  match l, h with
  | [x], _ => exact ⟨x, rfl⟩
theorem empty_iff (s : ByteArray) : s.toList.isEmpty = decide (s.size = 0) := by
  rw [ByteArray.toList_eq]
  obtain ⟨⟨l⟩⟩ := s
  cases l <;> rfl

theorem checkBool_ok (s : ByteArray) (w : World) (h : s.size = 1) :
    Calls Tryd.prog 23 #[.string s] w fun e w' => e = .returned .nilIface ∧ w' = w := by
  have h0 : s.toList.isEmpty = false := by rw [empty_iff, h]; rfl
  have h1 : ¬ 1 < (s.size : Int) := by omega
  have h2 : (s.size : Int) ≤ 9223372036854775807 := by omega
  clear h
  go_enter Tryd.func23, Tryd.ntmps23
  go_wp2
  go_ret
  exact ⟨rfl, rfl⟩
theorem checkBool_no (s : ByteArray) (aB : Addr) (w : World) (g : Glob aB w) (hs : s.size ≤ maxLen) (h : s.size ≠ 1) :
    Calls Tryd.prog 23 #[.string s] w fun e w' => (∃ k, e = .returned (.iface 60 (.agg #[.int .i64 k, .iface 95 (.pointer (some aB))]))) ∧ w' = w := by
  unfold maxLen at hs
  have hbo := g.bo
  clear g
  by_cases hz : s.size = 0
  · have h0 : s.toList.isEmpty = true := by rw [empty_iff, hz]; rfl
    clear h hz
    go_enter Tryd.func23, Tryd.ntmps23
    go_wp2
    go_ret
    exact ⟨⟨_, rfl⟩, rfl⟩
  · have h0 : s.toList.isEmpty = false := by rw [empty_iff]; simpa using hz
    have h1 : 1 < (s.size : Int) := by omega
    clear h hz
    go_enter Tryd.func23, Tryd.ntmps23
    go_wp2
    go_ret
    exact ⟨⟨_, rfl⟩, rfl⟩

theorem readBool_ok (x : UInt8) (w : World) :
    Calls Tryd.prog 15 #[.string ⟨#[x]⟩] w fun e w' => e = .returned (.tuple #[.bool (x != 0), .int .i64 0]) ∧ Below w.heap.size w w' := by
  have H := checkBool_ok ⟨#[x]⟩ w rfl
  have H2 := bool_any false w
  go_enter Tryd.func15, Tryd.ntmps15
  go_wp2_with fail
  refine H.mono ?_
  rintro e w1 ⟨rfl, rfl⟩
  go_wp2_with fail
  refine H2.mono ?_
  rintro e w1 ⟨rfl, rfl⟩
  go_wp2
  go_ret2
  exact ⟨rfl, Below.refl _ _⟩
theorem readBool_no (s : ByteArray) (aB : Addr) (w : World) (g : Glob aB w) (hs : s.size ≤ maxLen) (h : s.size ≠ 1) :
    Calls Tryd.prog 15 #[.string s] w fun e w' => e = .returned (.tuple #[.bool false, .int .i64 31]) ∧ Below w.heap.size w w' := by
  have H := checkBool_no s aB w g hs h
  have H2 := hide fun k => errnoOf_bool k aB w g
  clear hs h g
  go_enter Tryd.func15, Tryd.ntmps15
  go_wp2_with fail
  refine H.mono ?_
  rintro e w1 ⟨⟨k, rfl⟩, rfl⟩
  go_wp2_with fail
  refine ((unhide H2) k).mono ?_
  rintro e w2 ⟨rfl, hb⟩
  go_wp2
  go_ret2
  exact ⟨rfl, hb⟩

theorem rb_no {l : List UInt8} (h : l.length ≠ 1) : rb l = (false, 31) := by
  match l, h with
  | [], _ => rfl
  | [_], h => exact absurd rfl h
  | _ :: _ :: _, _ => rfl
theorem readBool_any (s : ByteArray) (aB : Addr) (w : World) (g : Glob aB w) (hs : s.size ≤ maxLen) :
    Calls Tryd.prog 15 #[.string s] w fun e w' => e = .returned (.tuple #[.bool (rb s.data.toList).1, .int .i64 (rb s.data.toList).2]) ∧ Below w.heap.size w w' := by
  by_cases h : s.size = 1
  · obtain ⟨x, rfl⟩ := one_of_size h
    exact readBool_ok x w
  · rw [rb_no (by simpa using h)]
    exact readBool_no s aB w g hs h
end Go.Proofs.YtjgphpjbcabdeaaDoor.P
