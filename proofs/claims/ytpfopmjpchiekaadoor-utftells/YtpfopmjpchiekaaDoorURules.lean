/-
  What the rules of package utf answer: isTold, isPlain, mayBegin, mayEnd. Conditions: the package-level variables hold what the program's text lays ('Glob').
-/
import Derived.Test.YtpfopmjpchiekaaDoorUStand2
namespace Go.Proofs.YtpfopmjpchiekaaDoor.U
open Go Go.RowKit

/-- The package-level variables hold what the program's text lays. -/
structure Glob (aU aS : Addr) (w : World) : Prop where
  ty : w.cell? ⟨2, 0, none⟩ = some (.iface 90 (.agg #[.pointer (some ⟨3, 39, none⟩)]))
  ut : w.cell? ⟨0, 0, none⟩ = some (.iface 104 (.pointer (some aU)))
  sf : w.cell? ⟨1, 0, none⟩ = some (.iface 104 (.pointer (some aS)))

theorem Glob.below {aU aS : Addr} {w w' : World} (g : Glob aU aS w) {B : Nat} (hB : w.heap.size ≤ B) (h : Below B w w') : Glob aU aS w' := by
  obtain ⟨ty, ut, sf⟩ := g
  refine ⟨?_, ?_, ?_⟩
  · rw [h.cell (Nat.lt_of_lt_of_le (lt_of_cell ty) hB)]; exact ty
  · rw [h.cell (Nat.lt_of_lt_of_le (lt_of_cell ut) hB)]; exact ut
  · rw [h.cell (Nat.lt_of_lt_of_le (lt_of_cell sf) hB)]; exact sf
theorem Glob.alloc {aU aS : Addr} {w : World} (g : Glob aU aS w) (o : Obj) : Glob aU aS (w.alloc o) :=
  g.below (Nat.le_refl _) ((Below.refl _ _).alloc (Nat.le_refl _) _)

/-- an error, or none. -/
def er (b : Bool) (a : Addr) : Value := if b then .nilIface else .iface 104 (.pointer (some a))

theorem isTold_any (s : ByteArray) (p n : Nat) (aU aS : Addr) (w : World) (g : Glob aU aS w) (h : n ≤ 1114111) (hp : p ≤ s.size) (hs : s.size ≤ 1000) :
    Calls Tryd.prog 36 #[.agg #[.string s], .int .i64 p, .int .i32 n] w fun e w' => e = .returned (er (st s p n) aU) ∧ Below w.heap.size w w' := by
  have H := stands_any s p n (w.alloc (.cells #[.string s] 59)) h hp hs
  have g1 := g.alloc (.cells #[.string s] 59)
  have H' := H.mono (R' := fun e w' => e = .returned (.bool (st s p n)) ∧ Hid (Below w.heap.size w w') ∧ w'.cell? ⟨0, 0, none⟩ = some (.iface 104 (.pointer (some aU))))
    (fun e w' ⟨he, hb⟩ => ⟨he, hide (((Below.refl _ _).alloc (Nat.le_refl _) _).trans (hb.mono (by simp))), (g1.below (Nat.le_refl _) hb).ut⟩)
  clear H g g1
  generalize st s p n = b at *
  cases b
  · go_enter Tryd.func36, Tryd.ntmps36
    go_wp2_with fail
    refine H'.mono ?_
    rintro e w1 ⟨rfl, hb, hc⟩
    go_wp2
    go_ret
    exact ⟨rfl, unhide hb⟩
  · go_enter Tryd.func36, Tryd.ntmps36
    go_wp2_with fail
    refine H'.mono ?_
    rintro e w1 ⟨rfl, hb, hc⟩
    go_wp2
    go_ret
    exact ⟨rfl, unhide hb⟩

/-- may a sign stand in a line? -/
def plain (n : Nat) : Bool := !(n == 0 || n == 10 || n == 13 || decide (128 ≤ n))
def begins (p n : Nat) : Bool := !(p == 0 && (n == 32 || n == 58 || n == 60))
def ends (s : ByteArray) (p n : Nat) : Bool := !(decide ((p : Int) = (s.size : Int) - 1) && n == 32)

theorem beq_cast (a c : Nat) : ((a : Int) == (c : Int)) = (a == c) := by
  rw [Bool.eq_iff_iff, beq_iff_eq, beq_iff_eq]
  omega

set_option maxRecDepth 100000 in
theorem isPlain_any (s : ByteArray) (p n : Nat) (aU aS : Addr) (w : World) (g : Glob aU aS w) :
    Calls Tryd.prog 33 #[.agg #[.string s], .int .i64 p, .int .i32 n] w fun e w' => e = .returned (er (plain n) aS) ∧ Below w.heap.size w w' := by
  have g1 := (g.alloc (.cells #[.string s] 59)).sf
  clear g
  unfold plain
  have k0 : ((n : Int) == 0) = (n == 0) := beq_cast n 0
  have k1 : ((n : Int) == 10) = (n == 10) := beq_cast n 10
  have k2 : ((n : Int) == 13) = (n == 13) := beq_cast n 13
  have k3 : decide ((128 : Int) ≤ n) = decide (128 ≤ n) := by rw [Bool.eq_iff_iff]; simp; omega
  generalize (n == 0) = b0 at *
  generalize (n == 10) = b1 at *
  generalize (n == 13) = b2 at *
  generalize decide (128 ≤ n) = b3 at *
  cases b0 <;> cases b1 <;> cases b2 <;> cases b3 <;>
  · go_enter Tryd.func33, Tryd.ntmps33
    go_wp2
    go_ret
    exact ⟨rfl, (Below.refl _ _).alloc (Nat.le_refl _) _⟩

set_option maxRecDepth 100000 in
theorem mayBegin_any (s : ByteArray) (p n : Nat) (aU aS : Addr) (w : World) (g : Glob aU aS w) :
    Calls Tryd.prog 34 #[.agg #[.string s], .int .i64 p, .int .i32 n] w fun e w' => e = .returned (er (begins p n) aS) ∧ Below w.heap.size w w' := by
  have g1 := (g.alloc (.cells #[.string s] 59)).sf
  clear g
  unfold begins
  have k0 : ((p : Int) == 0) = (p == 0) := beq_cast p 0
  have k1 : ((n : Int) == 32) = (n == 32) := beq_cast n 32
  have k2 : ((n : Int) == 58) = (n == 58) := beq_cast n 58
  have k3 : ((n : Int) == 60) = (n == 60) := beq_cast n 60
  generalize (p == 0) = b0 at *
  generalize (n == 32) = b1 at *
  generalize (n == 58) = b2 at *
  generalize (n == 60) = b3 at *
  cases b0 <;> cases b1 <;> cases b2 <;> cases b3 <;>
  · go_enter Tryd.func34, Tryd.ntmps34
    go_wp2
    go_ret
    exact ⟨rfl, (Below.refl _ _).alloc (Nat.le_refl _) _⟩

theorem ends_any (s : ByteArray) (p : Nat) (w : World) (hs : s.size ≤ 1000) :
    Calls Tryd.prog 43 #[.agg #[.string s], .int .i64 p] w fun e w' => e = .returned (.bool (decide ((p : Int) = (s.size : Int) - 1))) ∧ Below w.heap.size w w' := by
  have e1 : wrap64 ((s.size : Int) - 1) = s.size - 1 := by unfold wrap64; omega
  go_enter Tryd.func43, Tryd.ntmps43
  go_wp2
  go_ret
  refine ⟨?_, (Below.refl _ _).alloc (Nat.le_refl _) _⟩
  show Ending.returned (Value.bool ((p : Int) == (s.size : Int) - 1)) = _
  congr 2

set_option maxRecDepth 100000 in
theorem mayEnd_any (s : ByteArray) (p n : Nat) (aU aS : Addr) (w : World) (g : Glob aU aS w) (hs : s.size ≤ 1000) :
    Calls Tryd.prog 35 #[.agg #[.string s], .int .i64 p, .int .i32 n] w fun e w' => e = .returned (er (ends s p n) aS) ∧ Below w.heap.size w w' := by
  have H := ends_any s p (w.alloc (.cells #[.string s] 59)) hs
  have g1 := g.alloc (.cells #[.string s] 59)
  unfold ends
  generalize decide ((p : Int) = (s.size : Int) - 1) = b0 at *
  have H' := H.mono (R' := fun e w' => e = .returned (.bool b0) ∧ Hid (Below w.heap.size w w') ∧ w'.cell? ⟨1, 0, none⟩ = some (.iface 104 (.pointer (some aS))))
    (fun e w' ⟨he, hb⟩ => ⟨he, hide (((Below.refl _ _).alloc (Nat.le_refl _) _).trans (hb.mono (by simp))), (g1.below (Nat.le_refl _) hb).sf⟩)
  clear H g g1
  have k1 : ((n : Int) == 32) = (n == 32) := beq_cast n 32
  generalize (n == 32) = b1 at *
  cases b0 <;> cases b1 <;>
  · go_enter Tryd.func35, Tryd.ntmps35
    go_wp2_with fail
    refine H'.mono ?_
    rintro e w1 ⟨rfl, hb, hc⟩
    go_wp2
    go_ret
    exact ⟨rfl, unhide hb⟩
end Go.Proofs.YtpfopmjpchiekaaDoor.U
