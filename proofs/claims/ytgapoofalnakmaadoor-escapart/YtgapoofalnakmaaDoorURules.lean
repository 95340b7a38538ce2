/-
  What the rules of package utf answer: isTold, isPlain, mayBegin, mayEnd. Conditions: the package-level variables hold what the program's text lays ('Glob').
-/
import Derived.Test.YtgapoofalnakmaaDoorUStand2
namespace Go.Proofs.YtgapoofalnakmaaDoor.U
open Go Go.RowKit

/-- The package-level variables hold what the program's text lays. -/
structure Glob (aU aS : Addr) (w : World) : Prop where
  ty : w.cell? ⟨2, 0, none⟩ = some (.iface 104 (.agg #[.pointer (some ⟨7, 36, none⟩)]))
  ut : w.cell? ⟨3, 0, none⟩ = some (.iface 151 (.pointer (some aU)))

theorem Glob.below {aU aS : Addr} {w w' : World} (g : Glob aU aS w) {B : Nat} (hB : w.heap.size ≤ B) (h : Below B w w') : Glob aU aS w' := by
  obtain ⟨ty, ut⟩ := g
  refine ⟨?_, ?_⟩
  · rw [h.cell (Nat.lt_of_lt_of_le (lt_of_cell ty) hB)]; exact ty
  · rw [h.cell (Nat.lt_of_lt_of_le (lt_of_cell ut) hB)]; exact ut
theorem Glob.alloc {aU aS : Addr} {w : World} (g : Glob aU aS w) (o : Obj) : Glob aU aS (w.alloc o) :=
  g.below (Nat.le_refl _) ((Below.refl _ _).alloc (Nat.le_refl _) _)

/-- an error, or none. -/
def er (b : Bool) (a : Addr) : Value := if b then .nilIface else .iface 151 (.pointer (some a))

theorem isTold_any (s : ByteArray) (p n : Nat) (aU aS : Addr) (w : World) (g : Glob aU aS w) (h : n ≤ 1114111) (hp : p ≤ s.size) (hs : s.size ≤ 1000) :
    Calls Tryd.prog 61 #[.agg #[.string s], .int .i64 p, .int .i32 n] w fun e w' => e = .returned (er (st s p n) aU) ∧ Below w.heap.size w w' := by
  have H := stands_any s p n (w.alloc (.cells #[.string s] 125)) h hp hs
  have g1 := g.alloc (.cells #[.string s] 125)
  have H' := H.mono (R' := fun e w' => e = .returned (.bool (st s p n)) ∧ Hid (Below w.heap.size w w') ∧ w'.cell? ⟨3, 0, none⟩ = some (.iface 151 (.pointer (some aU))))
    (fun e w' ⟨he, hb⟩ => ⟨he, hide (((Below.refl _ _).alloc (Nat.le_refl _) _).trans (hb.mono (by simp))), (g1.below (Nat.le_refl _) hb).ut⟩)
  clear H g g1
  generalize st s p n = b at *
  cases b
  · go_enter Tryd.func61, Tryd.ntmps61
    go_wp2_with fail
    refine H'.mono ?_
    rintro e w1 ⟨rfl, hb, hc⟩
    go_wp2
    go_ret
    exact ⟨rfl, unhide hb⟩
  · go_enter Tryd.func61, Tryd.ntmps61
    go_wp2_with fail
    refine H'.mono ?_
    rintro e w1 ⟨rfl, hb, hc⟩
    go_wp2
    go_ret
    exact ⟨rfl, unhide hb⟩

/-- may a sign stand in a line? -/
def plain (n : Nat) : Bool := !(n == 0 || n == 10 || n == 13 || decide (128 ≤ n))
def begins (p n : Nat) : Bool := !(p == 0 && (n == 32 || n == 58 || n == 60))
def ends (s : ByteArray) (p n : Nat) : Bool := !(decide ((p : Int) = (s.size : Int) - 1) && n == 32)

theorem beq_cast (a c : Nat) : ((a : Int) == (c : Int)) = (a == c) := by
  rw [Bool.eq_iff_iff, beq_iff_eq, beq_iff_eq]
  omega

end Go.Proofs.YtgapoofalnakmaaDoor.U
