/-
  What the document's 'one' answers: the sign whose bytes stand at a place. Conditions: none.
-/
import Derived.Test.YtgapoofalnakmaaDoorURef1
import Derived.BigQuiet
import Derived.Deep.RegionHeld
namespace Go.Proofs.YtgapoofalnakmaaDoor.U
open Go Go.RowKit

/-- what a call may leave: more memory. -/
structure Cl (V : World) where
  w : World
  b : Below V.heap.size V w
theorem wp_region_class {P : Program} {id : Nat} {Q : Exit → Act → World → Prop} {a : Act} {V : World} {l : List Oper} (hm : P.follows .mixedOrders = true) (hB : Region.lexB .any l.toArray = true)
    (h : wpQuiet P l.toArray (fun w' => ∃ s : Cl V, w' = s.w) (fun a' => ∀ w', (∃ s : Cl V, w' = s.w) → Q .normal a' w') l a) : (Code.region id l.toArray true).wp P Q a V :=
  wp_region_quiet (C := fun w' => ∃ s : Cl V, w' = s.w) hm hB ⟨⟨V.drew, ⟨rfl, rfl, rfl, Nat.le_refl _, fun _ _ => rfl⟩⟩, rfl⟩ (by simpa using h)
theorem isg_le {n : Nat} (h : isg n = true) : n ≤ 1114111 := (isg_sg.1 h).1
theorem slice_at (s : ByteArray) (p k : Nat) (wx : World) (h : p + k - 1 < s.size) (hk : 1 ≤ k := by decide) : (Instr.slice 9 (.string s) (some (.int .i64 (p : Int))) (some (.int .i64 ((p : Int) + k))) none).run Tryd.prog wx = .ok (.string (s.extract p (p + k))) wx := by
  have := run_slice_string (P := Tryd.prog) wx 9 s .i64 .i64 (p : Int) ((p : Int) + k) Tryd.underlying9 (by omega) (by omega) (by omega)
  rwa [show ((p : Int)).toNat = p by omega, show ((p : Int) + k).toNat = p + k by omega] at this
theorem Cl.call {P : Program} {f : FuncId} {args : Array Value} {V : World} {v : Value} (s : Cl V) (h : Calls P f args s.w fun e w' => e = .returned v ∧ Below s.w.heap.size s.w w') :
    Calls P f args s.w fun e w'' => e = .returned v ∧ ∃ m : Cl V, w'' = m.w :=
  h.mono fun _ w' ⟨he, hb⟩ => ⟨he, ⟨w', s.b.trans (hb.mono s.b.size)⟩, rfl⟩

set_option maxRecDepth 100000 in
set_option maxHeartbeats 4000000 in
theorem one1n (s : ByteArray) (p : Nat) (w : World) (x0 : Nat) (h : p + 0 < s.size) (e0 : Hid ((s[p]'(by omega)).toNat = x0)) (b0 : Hid ((x0 : Int) ≤ 255)) (d0 : decide ((240 : Int) ≤ (x0 : Int)) = false) (d1 : decide ((224 : Int) ≤ (x0 : Int)) = false) (d2 : decide ((192 : Int) ≤ (x0 : Int)) = false) (hi0 : (p : Int) < s.size) (hz : (s.size : Int) ≤ 1000) (w0 : Hid (wrap64 (x0 : Int) = x0)) (dl : decide ((s.size : Int) - p < 1) = false) (hg : isg (x0 : Int) = false) :
    Calls Tryd.prog 56 #[.string s, .int .i64 p] w fun e w' => e = .returned (.tuple #[.int .i64 0, .int .i64 0]) ∧ Below w.heap.size w w' := by
  have K1 : Hid (∀ z : Cl w, Calls Tryd.prog 65 #[.int .i64 x0] z.w fun e w'' => e = .returned (.bool false) ∧ ∃ m : Cl w, w'' = m.w) := fun z => z.call (by rw [← hg]; exact (refSign_any _ z.w).mono fun e w' ⟨he, hw⟩ => ⟨he, by rw [hw]; exact Below.refl _ _⟩)
  clear hg
  have W0 := unhide w0
  have E0 := unhide e0
  have C0 := unhide b0
  go_enter Tryd.func56, Tryd.ntmps56
  go_wp2
  refine wp_loop_rounds 1 ?_
  clear W0 E0
  rw [rounds_succ]
  go_wp2
  refine wp_region_class (by kernel_rfl) (by kernel_rfl) ?_
  have hne : Nonempty (Cl w) := ⟨⟨w, Below.refl _ _⟩⟩
  repeat (go_big_quiet_step (first | with_reducible exact (unhide K1) _))
  refine wpQuiet_nil ?_
  rintro w' ⟨z, rfl⟩
  go_wp2
  go_ret2
  exact ⟨rfl, z.b⟩

set_option maxRecDepth 100000 in
set_option maxHeartbeats 4000000 in
theorem one1y (s : ByteArray) (p : Nat) (w : World) (x0 : Nat) (h : p + 0 < s.size) (e0 : Hid ((s[p]'(by omega)).toNat = x0)) (b0 : Hid ((x0 : Int) ≤ 255)) (d0 : decide ((240 : Int) ≤ (x0 : Int)) = false) (d1 : decide ((224 : Int) ≤ (x0 : Int)) = false) (d2 : decide ((192 : Int) ≤ (x0 : Int)) = false) (hi0 : (p : Int) < s.size) (hz : (s.size : Int) ≤ 1000) (w0 : Hid (wrap64 (x0 : Int) = x0)) (dl : decide ((s.size : Int) - p < 1) = false) (u x : ByteArray) (hu : str (Ut.enc x0) = u) (hx : s.extract p (p + 1) = x) (hg : isg (x0 : Int) = true) (hne2 : (u.toList == x.toList) = true) :
    Calls Tryd.prog 56 #[.string s, .int .i64 p] w fun e w' => e = .returned (.tuple #[.int .i64 x0, .int .i64 1]) ∧ Below w.heap.size w w' := by
  have K2 : Hid (∀ z : Cl w, Calls Tryd.prog 66 #[.int .i64 x0] z.w fun e w'' => e = .returned (.string u) ∧ ∃ m : Cl w, w'' = m.w) := fun z => z.call (by rw [← hu]; exact refBytes_any x0 z.w (isg_le hg))
  have hsl : ∀ wx, (Instr.slice 9 (.string s) (some (.int .i64 (p : Int))) (some (.int .i64 ((p : Int) + 1))) none).run Tryd.prog wx = .ok (.string x) wx := fun wx => by rw [← hx]; exact slice_at s p 1 wx h
  clear hu hx
  have K1 : Hid (∀ z : Cl w, Calls Tryd.prog 65 #[.int .i64 x0] z.w fun e w'' => e = .returned (.bool true) ∧ ∃ m : Cl w, w'' = m.w) := fun z => z.call (by rw [← hg]; exact (refSign_any _ z.w).mono fun e w' ⟨he, hw⟩ => ⟨he, by rw [hw]; exact Below.refl _ _⟩)
  clear hg
  have W0 := unhide w0
  have E0 := unhide e0
  have C0 := unhide b0
  go_enter Tryd.func56, Tryd.ntmps56
  go_wp2
  refine wp_loop_rounds 1 ?_
  clear W0 E0
  rw [rounds_succ]
  go_wp2
  refine wp_region_class (by kernel_rfl) (by kernel_rfl) ?_
  have hne : Nonempty (Cl w) := ⟨⟨w, Below.refl _ _⟩⟩
  repeat (go_big_quiet_step (first | with_reducible exact (unhide K1) _ | with_reducible exact (unhide K2) _))
  refine wpQuiet_nil ?_
  rintro w' ⟨z, rfl⟩
  go_wp2
  go_ret2
  exact ⟨rfl, z.b⟩

set_option maxRecDepth 100000 in
set_option maxHeartbeats 4000000 in
theorem one1x (s : ByteArray) (p : Nat) (w : World) (x0 : Nat) (h : p + 0 < s.size) (e0 : Hid ((s[p]'(by omega)).toNat = x0)) (b0 : Hid ((x0 : Int) ≤ 255)) (d0 : decide ((240 : Int) ≤ (x0 : Int)) = false) (d1 : decide ((224 : Int) ≤ (x0 : Int)) = false) (d2 : decide ((192 : Int) ≤ (x0 : Int)) = false) (hi0 : (p : Int) < s.size) (hz : (s.size : Int) ≤ 1000) (w0 : Hid (wrap64 (x0 : Int) = x0)) (dl : decide ((s.size : Int) - p < 1) = false) (u x : ByteArray) (hu : str (Ut.enc x0) = u) (hx : s.extract p (p + 1) = x) (hg : isg (x0 : Int) = true) (hne2 : (u.toList == x.toList) = false) :
    Calls Tryd.prog 56 #[.string s, .int .i64 p] w fun e w' => e = .returned (.tuple #[.int .i64 0, .int .i64 0]) ∧ Below w.heap.size w w' := by
  have K2 : Hid (∀ z : Cl w, Calls Tryd.prog 66 #[.int .i64 x0] z.w fun e w'' => e = .returned (.string u) ∧ ∃ m : Cl w, w'' = m.w) := fun z => z.call (by rw [← hu]; exact refBytes_any x0 z.w (isg_le hg))
  have hsl : ∀ wx, (Instr.slice 9 (.string s) (some (.int .i64 (p : Int))) (some (.int .i64 ((p : Int) + 1))) none).run Tryd.prog wx = .ok (.string x) wx := fun wx => by rw [← hx]; exact slice_at s p 1 wx h
  clear hu hx
  have K1 : Hid (∀ z : Cl w, Calls Tryd.prog 65 #[.int .i64 x0] z.w fun e w'' => e = .returned (.bool true) ∧ ∃ m : Cl w, w'' = m.w) := fun z => z.call (by rw [← hg]; exact (refSign_any _ z.w).mono fun e w' ⟨he, hw⟩ => ⟨he, by rw [hw]; exact Below.refl _ _⟩)
  clear hg
  have W0 := unhide w0
  have E0 := unhide e0
  have C0 := unhide b0
  go_enter Tryd.func56, Tryd.ntmps56
  go_wp2
  refine wp_loop_rounds 1 ?_
  clear W0 E0
  rw [rounds_succ]
  go_wp2
  refine wp_region_class (by kernel_rfl) (by kernel_rfl) ?_
  have hne : Nonempty (Cl w) := ⟨⟨w, Below.refl _ _⟩⟩
  repeat (go_big_quiet_step (first | with_reducible exact (unhide K1) _ | with_reducible exact (unhide K2) _))
  refine wpQuiet_nil ?_
  rintro w' ⟨z, rfl⟩
  go_wp2
  go_ret2
  exact ⟨rfl, z.b⟩

set_option maxRecDepth 100000 in
set_option maxHeartbeats 4000000 in
theorem one2n (s : ByteArray) (p : Nat) (w : World) (x0 x1 v1 : Nat) (h : p + 1 < s.size) (e0 : Hid ((s[p]'(by omega)).toNat = x0)) (b0 : Hid ((x0 : Int) ≤ 255)) (e1 : Hid ((s[p + 1]'(by omega)).toNat = x1)) (b1 : Hid ((x1 : Int) ≤ 255)) (d0 : decide ((240 : Int) ≤ (x0 : Int)) = false) (d1 : decide ((224 : Int) ≤ (x0 : Int)) = false) (d2 : decide ((192 : Int) ≤ (x0 : Int)) = true) (q1 : Hid ((v1 : Int) = 64 * ((x0 : Int) - 192) + (x1 : Int) % 64)) (g1 : Hid ((v1 : Int) ≤ 4194303)) (hi0 : (p : Int) < s.size) (hi1 : Hid ((p : Int) + 1 < s.size)) (hz : (s.size : Int) ≤ 1000) (w0 : Hid (wrap64 (x0 : Int) = x0)) (w1 : Hid (wrap64 (x1 : Int) = x1)) (dl : decide ((s.size : Int) - p < 2) = false) (hg : isg (v1 : Int) = false) :
    Calls Tryd.prog 56 #[.string s, .int .i64 p] w fun e w' => e = .returned (.tuple #[.int .i64 0, .int .i64 0]) ∧ Below w.heap.size w w' := by
  have K1 : Hid (∀ z : Cl w, Calls Tryd.prog 65 #[.int .i64 v1] z.w fun e w'' => e = .returned (.bool false) ∧ ∃ m : Cl w, w'' = m.w) := fun z => z.call (by rw [← hg]; exact (refSign_any _ z.w).mono fun e w' ⟨he, hw⟩ => ⟨he, by rw [hw]; exact Below.refl _ _⟩)
  clear hg
  have W0 := unhide w0
  have E0 := unhide e0
  have C0 := unhide b0
  go_enter Tryd.func56, Tryd.ntmps56
  go_wp2
  refine wp_loop_rounds 2 ?_
  clear W0 E0
  rw [rounds_succ]
  have W1 := unhide w1
  have E1 := unhide e1
  have C1 := unhide b1
  have I1 := unhide hi1
  go_wp2
  rw [← unhide q1]
  have G1 := unhide g1
  clear W1 C1 I1 E1 C0
  rw [rounds_succ]
  go_wp2
  refine wp_region_class (by kernel_rfl) (by kernel_rfl) ?_
  have hne : Nonempty (Cl w) := ⟨⟨w, Below.refl _ _⟩⟩
  repeat (go_big_quiet_step (first | with_reducible exact (unhide K1) _))
  refine wpQuiet_nil ?_
  rintro w' ⟨z, rfl⟩
  go_wp2
  go_ret2
  exact ⟨rfl, z.b⟩

set_option maxRecDepth 100000 in
set_option maxHeartbeats 4000000 in
theorem one2y (s : ByteArray) (p : Nat) (w : World) (x0 x1 v1 : Nat) (h : p + 1 < s.size) (e0 : Hid ((s[p]'(by omega)).toNat = x0)) (b0 : Hid ((x0 : Int) ≤ 255)) (e1 : Hid ((s[p + 1]'(by omega)).toNat = x1)) (b1 : Hid ((x1 : Int) ≤ 255)) (d0 : decide ((240 : Int) ≤ (x0 : Int)) = false) (d1 : decide ((224 : Int) ≤ (x0 : Int)) = false) (d2 : decide ((192 : Int) ≤ (x0 : Int)) = true) (q1 : Hid ((v1 : Int) = 64 * ((x0 : Int) - 192) + (x1 : Int) % 64)) (g1 : Hid ((v1 : Int) ≤ 4194303)) (hi0 : (p : Int) < s.size) (hi1 : Hid ((p : Int) + 1 < s.size)) (hz : (s.size : Int) ≤ 1000) (w0 : Hid (wrap64 (x0 : Int) = x0)) (w1 : Hid (wrap64 (x1 : Int) = x1)) (dl : decide ((s.size : Int) - p < 2) = false) (u x : ByteArray) (hu : str (Ut.enc v1) = u) (hx : s.extract p (p + 2) = x) (hg : isg (v1 : Int) = true) (hne2 : (u.toList == x.toList) = true) :
    Calls Tryd.prog 56 #[.string s, .int .i64 p] w fun e w' => e = .returned (.tuple #[.int .i64 v1, .int .i64 2]) ∧ Below w.heap.size w w' := by
  have K2 : Hid (∀ z : Cl w, Calls Tryd.prog 66 #[.int .i64 v1] z.w fun e w'' => e = .returned (.string u) ∧ ∃ m : Cl w, w'' = m.w) := fun z => z.call (by rw [← hu]; exact refBytes_any v1 z.w (isg_le hg))
  have hsl : ∀ wx, (Instr.slice 9 (.string s) (some (.int .i64 (p : Int))) (some (.int .i64 ((p : Int) + 2))) none).run Tryd.prog wx = .ok (.string x) wx := fun wx => by rw [← hx]; exact slice_at s p 2 wx h
  clear hu hx
  have K1 : Hid (∀ z : Cl w, Calls Tryd.prog 65 #[.int .i64 v1] z.w fun e w'' => e = .returned (.bool true) ∧ ∃ m : Cl w, w'' = m.w) := fun z => z.call (by rw [← hg]; exact (refSign_any _ z.w).mono fun e w' ⟨he, hw⟩ => ⟨he, by rw [hw]; exact Below.refl _ _⟩)
  clear hg
  have W0 := unhide w0
  have E0 := unhide e0
  have C0 := unhide b0
  go_enter Tryd.func56, Tryd.ntmps56
  go_wp2
  refine wp_loop_rounds 2 ?_
  clear W0 E0
  rw [rounds_succ]
  have W1 := unhide w1
  have E1 := unhide e1
  have C1 := unhide b1
  have I1 := unhide hi1
  go_wp2
  rw [← unhide q1]
  have G1 := unhide g1
  clear W1 C1 I1 E1 C0
  rw [rounds_succ]
  go_wp2
  refine wp_region_class (by kernel_rfl) (by kernel_rfl) ?_
  have hne : Nonempty (Cl w) := ⟨⟨w, Below.refl _ _⟩⟩
  repeat (go_big_quiet_step (first | with_reducible exact (unhide K1) _ | with_reducible exact (unhide K2) _))
  refine wpQuiet_nil ?_
  rintro w' ⟨z, rfl⟩
  go_wp2
  go_ret2
  exact ⟨rfl, z.b⟩

set_option maxRecDepth 100000 in
set_option maxHeartbeats 4000000 in
theorem one2x (s : ByteArray) (p : Nat) (w : World) (x0 x1 v1 : Nat) (h : p + 1 < s.size) (e0 : Hid ((s[p]'(by omega)).toNat = x0)) (b0 : Hid ((x0 : Int) ≤ 255)) (e1 : Hid ((s[p + 1]'(by omega)).toNat = x1)) (b1 : Hid ((x1 : Int) ≤ 255)) (d0 : decide ((240 : Int) ≤ (x0 : Int)) = false) (d1 : decide ((224 : Int) ≤ (x0 : Int)) = false) (d2 : decide ((192 : Int) ≤ (x0 : Int)) = true) (q1 : Hid ((v1 : Int) = 64 * ((x0 : Int) - 192) + (x1 : Int) % 64)) (g1 : Hid ((v1 : Int) ≤ 4194303)) (hi0 : (p : Int) < s.size) (hi1 : Hid ((p : Int) + 1 < s.size)) (hz : (s.size : Int) ≤ 1000) (w0 : Hid (wrap64 (x0 : Int) = x0)) (w1 : Hid (wrap64 (x1 : Int) = x1)) (dl : decide ((s.size : Int) - p < 2) = false) (u x : ByteArray) (hu : str (Ut.enc v1) = u) (hx : s.extract p (p + 2) = x) (hg : isg (v1 : Int) = true) (hne2 : (u.toList == x.toList) = false) :
    Calls Tryd.prog 56 #[.string s, .int .i64 p] w fun e w' => e = .returned (.tuple #[.int .i64 0, .int .i64 0]) ∧ Below w.heap.size w w' := by
  have K2 : Hid (∀ z : Cl w, Calls Tryd.prog 66 #[.int .i64 v1] z.w fun e w'' => e = .returned (.string u) ∧ ∃ m : Cl w, w'' = m.w) := fun z => z.call (by rw [← hu]; exact refBytes_any v1 z.w (isg_le hg))
  have hsl : ∀ wx, (Instr.slice 9 (.string s) (some (.int .i64 (p : Int))) (some (.int .i64 ((p : Int) + 2))) none).run Tryd.prog wx = .ok (.string x) wx := fun wx => by rw [← hx]; exact slice_at s p 2 wx h
  clear hu hx
  have K1 : Hid (∀ z : Cl w, Calls Tryd.prog 65 #[.int .i64 v1] z.w fun e w'' => e = .returned (.bool true) ∧ ∃ m : Cl w, w'' = m.w) := fun z => z.call (by rw [← hg]; exact (refSign_any _ z.w).mono fun e w' ⟨he, hw⟩ => ⟨he, by rw [hw]; exact Below.refl _ _⟩)
  clear hg
  have W0 := unhide w0
  have E0 := unhide e0
  have C0 := unhide b0
  go_enter Tryd.func56, Tryd.ntmps56
  go_wp2
  refine wp_loop_rounds 2 ?_
  clear W0 E0
  rw [rounds_succ]
  have W1 := unhide w1
  have E1 := unhide e1
  have C1 := unhide b1
  have I1 := unhide hi1
  go_wp2
  rw [← unhide q1]
  have G1 := unhide g1
  clear W1 C1 I1 E1 C0
  rw [rounds_succ]
  go_wp2
  refine wp_region_class (by kernel_rfl) (by kernel_rfl) ?_
  have hne : Nonempty (Cl w) := ⟨⟨w, Below.refl _ _⟩⟩
  repeat (go_big_quiet_step (first | with_reducible exact (unhide K1) _ | with_reducible exact (unhide K2) _))
  refine wpQuiet_nil ?_
  rintro w' ⟨z, rfl⟩
  go_wp2
  go_ret2
  exact ⟨rfl, z.b⟩

set_option maxRecDepth 100000 in
set_option maxHeartbeats 4000000 in
theorem one3n (s : ByteArray) (p : Nat) (w : World) (x0 x1 x2 v1 v2 : Nat) (h : p + 2 < s.size) (e0 : Hid ((s[p]'(by omega)).toNat = x0)) (b0 : Hid ((x0 : Int) ≤ 255)) (e1 : Hid ((s[p + 1]'(by omega)).toNat = x1)) (b1 : Hid ((x1 : Int) ≤ 255)) (e2 : Hid ((s[p + 2]'(by omega)).toNat = x2)) (b2 : Hid ((x2 : Int) ≤ 255)) (d0 : decide ((240 : Int) ≤ (x0 : Int)) = false) (d1 : decide ((224 : Int) ≤ (x0 : Int)) = true) (q1 : Hid ((v1 : Int) = 64 * ((x0 : Int) - 224) + (x1 : Int) % 64)) (g1 : Hid ((v1 : Int) ≤ 4194303)) (q2 : Hid ((v2 : Int) = 64 * (v1 : Int) + (x2 : Int) % 64)) (g2 : Hid ((v2 : Int) ≤ 4194303)) (hi0 : (p : Int) < s.size) (hi1 : Hid ((p : Int) + 1 < s.size)) (hi2 : Hid ((p : Int) + 2 < s.size)) (hz : (s.size : Int) ≤ 1000) (w0 : Hid (wrap64 (x0 : Int) = x0)) (w1 : Hid (wrap64 (x1 : Int) = x1)) (w2 : Hid (wrap64 (x2 : Int) = x2)) (dl : decide ((s.size : Int) - p < 3) = false) (hg : isg (v2 : Int) = false) :
    Calls Tryd.prog 56 #[.string s, .int .i64 p] w fun e w' => e = .returned (.tuple #[.int .i64 0, .int .i64 0]) ∧ Below w.heap.size w w' := by
  have K1 : Hid (∀ z : Cl w, Calls Tryd.prog 65 #[.int .i64 v2] z.w fun e w'' => e = .returned (.bool false) ∧ ∃ m : Cl w, w'' = m.w) := fun z => z.call (by rw [← hg]; exact (refSign_any _ z.w).mono fun e w' ⟨he, hw⟩ => ⟨he, by rw [hw]; exact Below.refl _ _⟩)
  clear hg
  have W0 := unhide w0
  have E0 := unhide e0
  have C0 := unhide b0
  go_enter Tryd.func56, Tryd.ntmps56
  go_wp2
  refine wp_loop_rounds 3 ?_
  clear W0 E0
  rw [rounds_succ]
  have W1 := unhide w1
  have E1 := unhide e1
  have C1 := unhide b1
  have I1 := unhide hi1
  go_wp2
  rw [← unhide q1]
  have G1 := unhide g1
  clear W1 C1 I1 E1 C0
  rw [rounds_succ]
  have W2 := unhide w2
  have E2 := unhide e2
  have C2 := unhide b2
  have I2 := unhide hi2
  go_wp2
  rw [← unhide q2]
  have G2 := unhide g2
  clear W2 C2 I2 E2 G1
  rw [rounds_succ]
  go_wp2
  refine wp_region_class (by kernel_rfl) (by kernel_rfl) ?_
  have hne : Nonempty (Cl w) := ⟨⟨w, Below.refl _ _⟩⟩
  repeat (go_big_quiet_step (first | with_reducible exact (unhide K1) _))
  refine wpQuiet_nil ?_
  rintro w' ⟨z, rfl⟩
  go_wp2
  go_ret2
  exact ⟨rfl, z.b⟩

set_option maxRecDepth 100000 in
set_option maxHeartbeats 4000000 in
theorem one3y (s : ByteArray) (p : Nat) (w : World) (x0 x1 x2 v1 v2 : Nat) (h : p + 2 < s.size) (e0 : Hid ((s[p]'(by omega)).toNat = x0)) (b0 : Hid ((x0 : Int) ≤ 255)) (e1 : Hid ((s[p + 1]'(by omega)).toNat = x1)) (b1 : Hid ((x1 : Int) ≤ 255)) (e2 : Hid ((s[p + 2]'(by omega)).toNat = x2)) (b2 : Hid ((x2 : Int) ≤ 255)) (d0 : decide ((240 : Int) ≤ (x0 : Int)) = false) (d1 : decide ((224 : Int) ≤ (x0 : Int)) = true) (q1 : Hid ((v1 : Int) = 64 * ((x0 : Int) - 224) + (x1 : Int) % 64)) (g1 : Hid ((v1 : Int) ≤ 4194303)) (q2 : Hid ((v2 : Int) = 64 * (v1 : Int) + (x2 : Int) % 64)) (g2 : Hid ((v2 : Int) ≤ 4194303)) (hi0 : (p : Int) < s.size) (hi1 : Hid ((p : Int) + 1 < s.size)) (hi2 : Hid ((p : Int) + 2 < s.size)) (hz : (s.size : Int) ≤ 1000) (w0 : Hid (wrap64 (x0 : Int) = x0)) (w1 : Hid (wrap64 (x1 : Int) = x1)) (w2 : Hid (wrap64 (x2 : Int) = x2)) (dl : decide ((s.size : Int) - p < 3) = false) (u x : ByteArray) (hu : str (Ut.enc v2) = u) (hx : s.extract p (p + 3) = x) (hg : isg (v2 : Int) = true) (hne2 : (u.toList == x.toList) = true) :
    Calls Tryd.prog 56 #[.string s, .int .i64 p] w fun e w' => e = .returned (.tuple #[.int .i64 v2, .int .i64 3]) ∧ Below w.heap.size w w' := by
  have K2 : Hid (∀ z : Cl w, Calls Tryd.prog 66 #[.int .i64 v2] z.w fun e w'' => e = .returned (.string u) ∧ ∃ m : Cl w, w'' = m.w) := fun z => z.call (by rw [← hu]; exact refBytes_any v2 z.w (isg_le hg))
  have hsl : ∀ wx, (Instr.slice 9 (.string s) (some (.int .i64 (p : Int))) (some (.int .i64 ((p : Int) + 3))) none).run Tryd.prog wx = .ok (.string x) wx := fun wx => by rw [← hx]; exact slice_at s p 3 wx h
  clear hu hx
  have K1 : Hid (∀ z : Cl w, Calls Tryd.prog 65 #[.int .i64 v2] z.w fun e w'' => e = .returned (.bool true) ∧ ∃ m : Cl w, w'' = m.w) := fun z => z.call (by rw [← hg]; exact (refSign_any _ z.w).mono fun e w' ⟨he, hw⟩ => ⟨he, by rw [hw]; exact Below.refl _ _⟩)
  clear hg
  have W0 := unhide w0
  have E0 := unhide e0
  have C0 := unhide b0
  go_enter Tryd.func56, Tryd.ntmps56
  go_wp2
  refine wp_loop_rounds 3 ?_
  clear W0 E0
  rw [rounds_succ]
  have W1 := unhide w1
  have E1 := unhide e1
  have C1 := unhide b1
  have I1 := unhide hi1
  go_wp2
  rw [← unhide q1]
  have G1 := unhide g1
  clear W1 C1 I1 E1 C0
  rw [rounds_succ]
  have W2 := unhide w2
  have E2 := unhide e2
  have C2 := unhide b2
  have I2 := unhide hi2
  go_wp2
  rw [← unhide q2]
  have G2 := unhide g2
  clear W2 C2 I2 E2 G1
  rw [rounds_succ]
  go_wp2
  refine wp_region_class (by kernel_rfl) (by kernel_rfl) ?_
  have hne : Nonempty (Cl w) := ⟨⟨w, Below.refl _ _⟩⟩
  repeat (go_big_quiet_step (first | with_reducible exact (unhide K1) _ | with_reducible exact (unhide K2) _))
  refine wpQuiet_nil ?_
  rintro w' ⟨z, rfl⟩
  go_wp2
  go_ret2
  exact ⟨rfl, z.b⟩

set_option maxRecDepth 100000 in
set_option maxHeartbeats 4000000 in
theorem one3x (s : ByteArray) (p : Nat) (w : World) (x0 x1 x2 v1 v2 : Nat) (h : p + 2 < s.size) (e0 : Hid ((s[p]'(by omega)).toNat = x0)) (b0 : Hid ((x0 : Int) ≤ 255)) (e1 : Hid ((s[p + 1]'(by omega)).toNat = x1)) (b1 : Hid ((x1 : Int) ≤ 255)) (e2 : Hid ((s[p + 2]'(by omega)).toNat = x2)) (b2 : Hid ((x2 : Int) ≤ 255)) (d0 : decide ((240 : Int) ≤ (x0 : Int)) = false) (d1 : decide ((224 : Int) ≤ (x0 : Int)) = true) (q1 : Hid ((v1 : Int) = 64 * ((x0 : Int) - 224) + (x1 : Int) % 64)) (g1 : Hid ((v1 : Int) ≤ 4194303)) (q2 : Hid ((v2 : Int) = 64 * (v1 : Int) + (x2 : Int) % 64)) (g2 : Hid ((v2 : Int) ≤ 4194303)) (hi0 : (p : Int) < s.size) (hi1 : Hid ((p : Int) + 1 < s.size)) (hi2 : Hid ((p : Int) + 2 < s.size)) (hz : (s.size : Int) ≤ 1000) (w0 : Hid (wrap64 (x0 : Int) = x0)) (w1 : Hid (wrap64 (x1 : Int) = x1)) (w2 : Hid (wrap64 (x2 : Int) = x2)) (dl : decide ((s.size : Int) - p < 3) = false) (u x : ByteArray) (hu : str (Ut.enc v2) = u) (hx : s.extract p (p + 3) = x) (hg : isg (v2 : Int) = true) (hne2 : (u.toList == x.toList) = false) :
    Calls Tryd.prog 56 #[.string s, .int .i64 p] w fun e w' => e = .returned (.tuple #[.int .i64 0, .int .i64 0]) ∧ Below w.heap.size w w' := by
  have K2 : Hid (∀ z : Cl w, Calls Tryd.prog 66 #[.int .i64 v2] z.w fun e w'' => e = .returned (.string u) ∧ ∃ m : Cl w, w'' = m.w) := fun z => z.call (by rw [← hu]; exact refBytes_any v2 z.w (isg_le hg))
  have hsl : ∀ wx, (Instr.slice 9 (.string s) (some (.int .i64 (p : Int))) (some (.int .i64 ((p : Int) + 3))) none).run Tryd.prog wx = .ok (.string x) wx := fun wx => by rw [← hx]; exact slice_at s p 3 wx h
  clear hu hx
  have K1 : Hid (∀ z : Cl w, Calls Tryd.prog 65 #[.int .i64 v2] z.w fun e w'' => e = .returned (.bool true) ∧ ∃ m : Cl w, w'' = m.w) := fun z => z.call (by rw [← hg]; exact (refSign_any _ z.w).mono fun e w' ⟨he, hw⟩ => ⟨he, by rw [hw]; exact Below.refl _ _⟩)
  clear hg
  have W0 := unhide w0
  have E0 := unhide e0
  have C0 := unhide b0
  go_enter Tryd.func56, Tryd.ntmps56
  go_wp2
  refine wp_loop_rounds 3 ?_
  clear W0 E0
  rw [rounds_succ]
  have W1 := unhide w1
  have E1 := unhide e1
  have C1 := unhide b1
  have I1 := unhide hi1
  go_wp2
  rw [← unhide q1]
  have G1 := unhide g1
  clear W1 C1 I1 E1 C0
  rw [rounds_succ]
  have W2 := unhide w2
  have E2 := unhide e2
  have C2 := unhide b2
  have I2 := unhide hi2
  go_wp2
  rw [← unhide q2]
  have G2 := unhide g2
  clear W2 C2 I2 E2 G1
  rw [rounds_succ]
  go_wp2
  refine wp_region_class (by kernel_rfl) (by kernel_rfl) ?_
  have hne : Nonempty (Cl w) := ⟨⟨w, Below.refl _ _⟩⟩
  repeat (go_big_quiet_step (first | with_reducible exact (unhide K1) _ | with_reducible exact (unhide K2) _))
  refine wpQuiet_nil ?_
  rintro w' ⟨z, rfl⟩
  go_wp2
  go_ret2
  exact ⟨rfl, z.b⟩

set_option maxRecDepth 100000 in
set_option maxHeartbeats 4000000 in
theorem one4n (s : ByteArray) (p : Nat) (w : World) (x0 x1 x2 x3 v1 v2 v3 : Nat) (h : p + 3 < s.size) (e0 : Hid ((s[p]'(by omega)).toNat = x0)) (b0 : Hid ((x0 : Int) ≤ 255)) (e1 : Hid ((s[p + 1]'(by omega)).toNat = x1)) (b1 : Hid ((x1 : Int) ≤ 255)) (e2 : Hid ((s[p + 2]'(by omega)).toNat = x2)) (b2 : Hid ((x2 : Int) ≤ 255)) (e3 : Hid ((s[p + 3]'(by omega)).toNat = x3)) (b3 : Hid ((x3 : Int) ≤ 255)) (d0 : decide ((240 : Int) ≤ (x0 : Int)) = true) (q1 : Hid ((v1 : Int) = 64 * ((x0 : Int) - 240) + (x1 : Int) % 64)) (g1 : Hid ((v1 : Int) ≤ 4194303)) (q2 : Hid ((v2 : Int) = 64 * (v1 : Int) + (x2 : Int) % 64)) (g2 : Hid ((v2 : Int) ≤ 4194303)) (q3 : Hid ((v3 : Int) = 64 * (v2 : Int) + (x3 : Int) % 64)) (g3 : Hid ((v3 : Int) ≤ 4194303)) (hi0 : (p : Int) < s.size) (hi1 : Hid ((p : Int) + 1 < s.size)) (hi2 : Hid ((p : Int) + 2 < s.size)) (hi3 : Hid ((p : Int) + 3 < s.size)) (hz : (s.size : Int) ≤ 1000) (w0 : Hid (wrap64 (x0 : Int) = x0)) (w1 : Hid (wrap64 (x1 : Int) = x1)) (w2 : Hid (wrap64 (x2 : Int) = x2)) (w3 : Hid (wrap64 (x3 : Int) = x3)) (dl : decide ((s.size : Int) - p < 4) = false) (hg : isg (v3 : Int) = false) :
    Calls Tryd.prog 56 #[.string s, .int .i64 p] w fun e w' => e = .returned (.tuple #[.int .i64 0, .int .i64 0]) ∧ Below w.heap.size w w' := by
  have K1 : Hid (∀ z : Cl w, Calls Tryd.prog 65 #[.int .i64 v3] z.w fun e w'' => e = .returned (.bool false) ∧ ∃ m : Cl w, w'' = m.w) := fun z => z.call (by rw [← hg]; exact (refSign_any _ z.w).mono fun e w' ⟨he, hw⟩ => ⟨he, by rw [hw]; exact Below.refl _ _⟩)
  clear hg
  have W0 := unhide w0
  have E0 := unhide e0
  have C0 := unhide b0
  go_enter Tryd.func56, Tryd.ntmps56
  go_wp2
  refine wp_loop_rounds 4 ?_
  clear W0 E0
  rw [rounds_succ]
  have W1 := unhide w1
  have E1 := unhide e1
  have C1 := unhide b1
  have I1 := unhide hi1
  go_wp2
  rw [← unhide q1]
  have G1 := unhide g1
  clear W1 C1 I1 E1 C0
  rw [rounds_succ]
  have W2 := unhide w2
  have E2 := unhide e2
  have C2 := unhide b2
  have I2 := unhide hi2
  go_wp2
  rw [← unhide q2]
  have G2 := unhide g2
  clear W2 C2 I2 E2 G1
  rw [rounds_succ]
  have W3 := unhide w3
  have E3 := unhide e3
  have C3 := unhide b3
  have I3 := unhide hi3
  go_wp2
  rw [← unhide q3]
  have G3 := unhide g3
  clear W3 C3 I3 E3 G2
  rw [rounds_succ]
  go_wp2
  refine wp_region_class (by kernel_rfl) (by kernel_rfl) ?_
  have hne : Nonempty (Cl w) := ⟨⟨w, Below.refl _ _⟩⟩
  repeat (go_big_quiet_step (first | with_reducible exact (unhide K1) _))
  refine wpQuiet_nil ?_
  rintro w' ⟨z, rfl⟩
  go_wp2
  go_ret2
  exact ⟨rfl, z.b⟩

set_option maxRecDepth 100000 in
set_option maxHeartbeats 4000000 in
theorem one4y (s : ByteArray) (p : Nat) (w : World) (x0 x1 x2 x3 v1 v2 v3 : Nat) (h : p + 3 < s.size) (e0 : Hid ((s[p]'(by omega)).toNat = x0)) (b0 : Hid ((x0 : Int) ≤ 255)) (e1 : Hid ((s[p + 1]'(by omega)).toNat = x1)) (b1 : Hid ((x1 : Int) ≤ 255)) (e2 : Hid ((s[p + 2]'(by omega)).toNat = x2)) (b2 : Hid ((x2 : Int) ≤ 255)) (e3 : Hid ((s[p + 3]'(by omega)).toNat = x3)) (b3 : Hid ((x3 : Int) ≤ 255)) (d0 : decide ((240 : Int) ≤ (x0 : Int)) = true) (q1 : Hid ((v1 : Int) = 64 * ((x0 : Int) - 240) + (x1 : Int) % 64)) (g1 : Hid ((v1 : Int) ≤ 4194303)) (q2 : Hid ((v2 : Int) = 64 * (v1 : Int) + (x2 : Int) % 64)) (g2 : Hid ((v2 : Int) ≤ 4194303)) (q3 : Hid ((v3 : Int) = 64 * (v2 : Int) + (x3 : Int) % 64)) (g3 : Hid ((v3 : Int) ≤ 4194303)) (hi0 : (p : Int) < s.size) (hi1 : Hid ((p : Int) + 1 < s.size)) (hi2 : Hid ((p : Int) + 2 < s.size)) (hi3 : Hid ((p : Int) + 3 < s.size)) (hz : (s.size : Int) ≤ 1000) (w0 : Hid (wrap64 (x0 : Int) = x0)) (w1 : Hid (wrap64 (x1 : Int) = x1)) (w2 : Hid (wrap64 (x2 : Int) = x2)) (w3 : Hid (wrap64 (x3 : Int) = x3)) (dl : decide ((s.size : Int) - p < 4) = false) (u x : ByteArray) (hu : str (Ut.enc v3) = u) (hx : s.extract p (p + 4) = x) (hg : isg (v3 : Int) = true) (hne2 : (u.toList == x.toList) = true) :
    Calls Tryd.prog 56 #[.string s, .int .i64 p] w fun e w' => e = .returned (.tuple #[.int .i64 v3, .int .i64 4]) ∧ Below w.heap.size w w' := by
  have K2 : Hid (∀ z : Cl w, Calls Tryd.prog 66 #[.int .i64 v3] z.w fun e w'' => e = .returned (.string u) ∧ ∃ m : Cl w, w'' = m.w) := fun z => z.call (by rw [← hu]; exact refBytes_any v3 z.w (isg_le hg))
  have hsl : ∀ wx, (Instr.slice 9 (.string s) (some (.int .i64 (p : Int))) (some (.int .i64 ((p : Int) + 4))) none).run Tryd.prog wx = .ok (.string x) wx := fun wx => by rw [← hx]; exact slice_at s p 4 wx h
  clear hu hx
  have K1 : Hid (∀ z : Cl w, Calls Tryd.prog 65 #[.int .i64 v3] z.w fun e w'' => e = .returned (.bool true) ∧ ∃ m : Cl w, w'' = m.w) := fun z => z.call (by rw [← hg]; exact (refSign_any _ z.w).mono fun e w' ⟨he, hw⟩ => ⟨he, by rw [hw]; exact Below.refl _ _⟩)
  clear hg
  have W0 := unhide w0
  have E0 := unhide e0
  have C0 := unhide b0
  go_enter Tryd.func56, Tryd.ntmps56
  go_wp2
  refine wp_loop_rounds 4 ?_
  clear W0 E0
  rw [rounds_succ]
  have W1 := unhide w1
  have E1 := unhide e1
  have C1 := unhide b1
  have I1 := unhide hi1
  go_wp2
  rw [← unhide q1]
  have G1 := unhide g1
  clear W1 C1 I1 E1 C0
  rw [rounds_succ]
  have W2 := unhide w2
  have E2 := unhide e2
  have C2 := unhide b2
  have I2 := unhide hi2
  go_wp2
  rw [← unhide q2]
  have G2 := unhide g2
  clear W2 C2 I2 E2 G1
  rw [rounds_succ]
  have W3 := unhide w3
  have E3 := unhide e3
  have C3 := unhide b3
  have I3 := unhide hi3
  go_wp2
  rw [← unhide q3]
  have G3 := unhide g3
  clear W3 C3 I3 E3 G2
  rw [rounds_succ]
  go_wp2
  refine wp_region_class (by kernel_rfl) (by kernel_rfl) ?_
  have hne : Nonempty (Cl w) := ⟨⟨w, Below.refl _ _⟩⟩
  repeat (go_big_quiet_step (first | with_reducible exact (unhide K1) _ | with_reducible exact (unhide K2) _))
  refine wpQuiet_nil ?_
  rintro w' ⟨z, rfl⟩
  go_wp2
  go_ret2
  exact ⟨rfl, z.b⟩

set_option maxRecDepth 100000 in
set_option maxHeartbeats 4000000 in
theorem one4x (s : ByteArray) (p : Nat) (w : World) (x0 x1 x2 x3 v1 v2 v3 : Nat) (h : p + 3 < s.size) (e0 : Hid ((s[p]'(by omega)).toNat = x0)) (b0 : Hid ((x0 : Int) ≤ 255)) (e1 : Hid ((s[p + 1]'(by omega)).toNat = x1)) (b1 : Hid ((x1 : Int) ≤ 255)) (e2 : Hid ((s[p + 2]'(by omega)).toNat = x2)) (b2 : Hid ((x2 : Int) ≤ 255)) (e3 : Hid ((s[p + 3]'(by omega)).toNat = x3)) (b3 : Hid ((x3 : Int) ≤ 255)) (d0 : decide ((240 : Int) ≤ (x0 : Int)) = true) (q1 : Hid ((v1 : Int) = 64 * ((x0 : Int) - 240) + (x1 : Int) % 64)) (g1 : Hid ((v1 : Int) ≤ 4194303)) (q2 : Hid ((v2 : Int) = 64 * (v1 : Int) + (x2 : Int) % 64)) (g2 : Hid ((v2 : Int) ≤ 4194303)) (q3 : Hid ((v3 : Int) = 64 * (v2 : Int) + (x3 : Int) % 64)) (g3 : Hid ((v3 : Int) ≤ 4194303)) (hi0 : (p : Int) < s.size) (hi1 : Hid ((p : Int) + 1 < s.size)) (hi2 : Hid ((p : Int) + 2 < s.size)) (hi3 : Hid ((p : Int) + 3 < s.size)) (hz : (s.size : Int) ≤ 1000) (w0 : Hid (wrap64 (x0 : Int) = x0)) (w1 : Hid (wrap64 (x1 : Int) = x1)) (w2 : Hid (wrap64 (x2 : Int) = x2)) (w3 : Hid (wrap64 (x3 : Int) = x3)) (dl : decide ((s.size : Int) - p < 4) = false) (u x : ByteArray) (hu : str (Ut.enc v3) = u) (hx : s.extract p (p + 4) = x) (hg : isg (v3 : Int) = true) (hne2 : (u.toList == x.toList) = false) :
    Calls Tryd.prog 56 #[.string s, .int .i64 p] w fun e w' => e = .returned (.tuple #[.int .i64 0, .int .i64 0]) ∧ Below w.heap.size w w' := by
  have K2 : Hid (∀ z : Cl w, Calls Tryd.prog 66 #[.int .i64 v3] z.w fun e w'' => e = .returned (.string u) ∧ ∃ m : Cl w, w'' = m.w) := fun z => z.call (by rw [← hu]; exact refBytes_any v3 z.w (isg_le hg))
  have hsl : ∀ wx, (Instr.slice 9 (.string s) (some (.int .i64 (p : Int))) (some (.int .i64 ((p : Int) + 4))) none).run Tryd.prog wx = .ok (.string x) wx := fun wx => by rw [← hx]; exact slice_at s p 4 wx h
  clear hu hx
  have K1 : Hid (∀ z : Cl w, Calls Tryd.prog 65 #[.int .i64 v3] z.w fun e w'' => e = .returned (.bool true) ∧ ∃ m : Cl w, w'' = m.w) := fun z => z.call (by rw [← hg]; exact (refSign_any _ z.w).mono fun e w' ⟨he, hw⟩ => ⟨he, by rw [hw]; exact Below.refl _ _⟩)
  clear hg
  have W0 := unhide w0
  have E0 := unhide e0
  have C0 := unhide b0
  go_enter Tryd.func56, Tryd.ntmps56
  go_wp2
  refine wp_loop_rounds 4 ?_
  clear W0 E0
  rw [rounds_succ]
  have W1 := unhide w1
  have E1 := unhide e1
  have C1 := unhide b1
  have I1 := unhide hi1
  go_wp2
  rw [← unhide q1]
  have G1 := unhide g1
  clear W1 C1 I1 E1 C0
  rw [rounds_succ]
  have W2 := unhide w2
  have E2 := unhide e2
  have C2 := unhide b2
  have I2 := unhide hi2
  go_wp2
  rw [← unhide q2]
  have G2 := unhide g2
  clear W2 C2 I2 E2 G1
  rw [rounds_succ]
  have W3 := unhide w3
  have E3 := unhide e3
  have C3 := unhide b3
  have I3 := unhide hi3
  go_wp2
  rw [← unhide q3]
  have G3 := unhide g3
  clear W3 C3 I3 E3 G2
  rw [rounds_succ]
  go_wp2
  refine wp_region_class (by kernel_rfl) (by kernel_rfl) ?_
  have hne : Nonempty (Cl w) := ⟨⟨w, Below.refl _ _⟩⟩
  repeat (go_big_quiet_step (first | with_reducible exact (unhide K1) _ | with_reducible exact (unhide K2) _))
  refine wpQuiet_nil ?_
  rintro w' ⟨z, rfl⟩
  go_wp2
  go_ret2
  exact ⟨rfl, z.b⟩

end Go.Proofs.YtgapoofalnakmaaDoor.U
