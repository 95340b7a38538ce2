/- Several texts in one: UOne, UOneAny, URef2, CRef1, CRef2. Each says what it proves, and its conditions. -/
import Derived.Test.YtjhnblgamodekaaGreatDoorG38
set_option linter.unusedSimpArgs false
set_option maxHeartbeats 4000000
set_option maxRecDepth 100000
/-
 What the document's 'one' answers: the sign whose bytes stand at a place. Conditions: none.
-/
namespace Go.Proofs.YtjhnblgamodekaaGreatDoor.U
open Go Go.RowKit
structure Cl (V : World) where
 w : World
 b : Below V.heap.size V w
theorem wp_region_class {P : Program} {id : Nat} {Q : Exit -> Act -> World -> Prop} {a : Act} {V : World} {l : List Oper} (hm : P.follows .mixedOrders = true) (hB : Region.lexB .any l.toArray = true)
  (h : wpQuiet P l.toArray (fun w' => ∃ s : Cl V, w' = s.w) (fun a' => ∀ w', (∃ s : Cl V, w' = s.w) -> Q .normal a' w') l a) : (Code.region id l.toArray true).wp P Q a V :=
 wp_region_quiet (C := fun w' => ∃ s : Cl V, w' = s.w) hm hB ⟨⟨V.drew, ⟨rfl, rfl, rfl, Nat.le_refl _, fun _ _ => rfl⟩⟩, rfl⟩ (by simpa using h)
theorem isg_le {n : Nat} (h : isg n = true) : n <= 1114111 := (isg_sg.1 h).1
theorem slice_at (s : ByteArray) (p k : Nat) (wx : World) (h : p + k - 1 < s.size) (hk : 1 <= k := by decide) : (Instr.slice 9 (.string s) (some (.int .i64 (p : Int))) (some (.int .i64 ((p : Int) + k))) none).run Tryz.prog wx = .ok (.string (s.extract p (p + k))) wx := by
 have := run_slice_string (P := Tryz.prog) wx 9 s .i64 .i64 (p : Int) ((p : Int) + k) Tryz.underlying9 (by omega) (by omega) (by omega)
 rwa [show ((p : Int)).toNat = p by omega, show ((p : Int) + k).toNat = p + k by omega] at this
theorem Cl.call {P : Program} {f : FuncId} {args : Array Value} {V : World} {v : Value} (s : Cl V) (h : Calls P f args s.w fun e w' => e = .returned v /\ Below s.w.heap.size s.w w') :
  Calls P f args s.w fun e w'' => e = .returned v /\ ∃ m : Cl V, w'' = m.w :=
 h.mono fun _ w' ⟨he, hb⟩ => ⟨he, ⟨w', s.b.trans (hb.mono s.b.size)⟩, rfl⟩
theorem one1n (s : ByteArray) (p : Nat) (w : World) (x0 : Nat) (h : p + 0 < s.size) (e0 : Hid ((s[p]'(by omega)).toNat = x0)) (b0 : Hid ((x0 : Int) <= 255)) (d0 : decide ((240 : Int) <= (x0 : Int)) = false) (d1 : decide ((224 : Int) <= (x0 : Int)) = false) (d2 : decide ((192 : Int) <= (x0 : Int)) = false) (hi0 : (p : Int) < s.size) (hz : (s.size : Int) <= 1000) (w0 : Hid (wrap64 (x0 : Int) = x0)) (dl : decide ((s.size : Int) - p < 1) = false) (hg : isg (x0 : Int) = false) :
  Calls Tryz.prog 153 #[.string s, .int .i64 p] w fun e w' => e = .returned (.tuple #[.int .i64 0, .int .i64 0]) /\ Below w.heap.size w w' := by
 have K1 : Hid (∀ z : Cl w, Calls Tryz.prog 155 #[.int .i64 x0] z.w fun e w'' => e = .returned (.bool false) /\ ∃ m : Cl w, w'' = m.w) := fun z => z.call (by rw [<- hg]; exact (refSign_any _ z.w).mono fun e w' ⟨he, hw⟩ => ⟨he, by rw [hw]; exact Below.refl _ _⟩)
 clear hg
 have W0 := un w0
 have E0 := un e0
 have C0 := un b0
 go_enter Tryz.func153, Tryz.ntmps153
 go_wp2
 refine wp_loop_rounds 1 ?_
 clear W0 E0
 rw [rounds_succ]
 go_wp2
 refine wp_region_class (by kernel_rfl) (by kernel_rfl) ?_
 have hne : Nonempty (Cl w) := ⟨⟨w, Below.refl _ _⟩⟩
 repeat (go_big_quiet_step (first | with_reducible exact (un K1) _))
 refine wpQuiet_nil ?_
 rintro w' ⟨z, rfl⟩
 go_wp2
 go_ret2
 exact ⟨rfl, z.b⟩
theorem one1y (s : ByteArray) (p : Nat) (w : World) (x0 : Nat) (h : p + 0 < s.size) (e0 : Hid ((s[p]'(by omega)).toNat = x0)) (b0 : Hid ((x0 : Int) <= 255)) (d0 : decide ((240 : Int) <= (x0 : Int)) = false) (d1 : decide ((224 : Int) <= (x0 : Int)) = false) (d2 : decide ((192 : Int) <= (x0 : Int)) = false) (hi0 : (p : Int) < s.size) (hz : (s.size : Int) <= 1000) (w0 : Hid (wrap64 (x0 : Int) = x0)) (dl : decide ((s.size : Int) - p < 1) = false) (u x : ByteArray) (hu : str (Ut.enc x0) = u) (hx : s.extract p (p + 1) = x) (hg : isg (x0 : Int) = true) (hne2 : (u.toList == x.toList) = true) :
  Calls Tryz.prog 153 #[.string s, .int .i64 p] w fun e w' => e = .returned (.tuple #[.int .i64 x0, .int .i64 1]) /\ Below w.heap.size w w' := by
 have K2 : Hid (∀ z : Cl w, Calls Tryz.prog 156 #[.int .i64 x0] z.w fun e w'' => e = .returned (.string u) /\ ∃ m : Cl w, w'' = m.w) := fun z => z.call (by rw [<- hu]; exact refBytes_any x0 z.w (isg_le hg))
 have hsl : ∀ wx, (Instr.slice 9 (.string s) (some (.int .i64 (p : Int))) (some (.int .i64 ((p : Int) + 1))) none).run Tryz.prog wx = .ok (.string x) wx := fun wx => by rw [<- hx]; exact slice_at s p 1 wx h
 clear hu hx
 have K1 : Hid (∀ z : Cl w, Calls Tryz.prog 155 #[.int .i64 x0] z.w fun e w'' => e = .returned (.bool true) /\ ∃ m : Cl w, w'' = m.w) := fun z => z.call (by rw [<- hg]; exact (refSign_any _ z.w).mono fun e w' ⟨he, hw⟩ => ⟨he, by rw [hw]; exact Below.refl _ _⟩)
 clear hg
 have W0 := un w0
 have E0 := un e0
 have C0 := un b0
 go_enter Tryz.func153, Tryz.ntmps153
 go_wp2
 refine wp_loop_rounds 1 ?_
 clear W0 E0
 rw [rounds_succ]
 go_wp2
 refine wp_region_class (by kernel_rfl) (by kernel_rfl) ?_
 have hne : Nonempty (Cl w) := ⟨⟨w, Below.refl _ _⟩⟩
 repeat (go_big_quiet_step (first | with_reducible exact (un K1) _ | with_reducible exact (un K2) _))
 refine wpQuiet_nil ?_
 rintro w' ⟨z, rfl⟩
 go_wp2
 go_ret2
 exact ⟨rfl, z.b⟩
theorem one1x (s : ByteArray) (p : Nat) (w : World) (x0 : Nat) (h : p + 0 < s.size) (e0 : Hid ((s[p]'(by omega)).toNat = x0)) (b0 : Hid ((x0 : Int) <= 255)) (d0 : decide ((240 : Int) <= (x0 : Int)) = false) (d1 : decide ((224 : Int) <= (x0 : Int)) = false) (d2 : decide ((192 : Int) <= (x0 : Int)) = false) (hi0 : (p : Int) < s.size) (hz : (s.size : Int) <= 1000) (w0 : Hid (wrap64 (x0 : Int) = x0)) (dl : decide ((s.size : Int) - p < 1) = false) (u x : ByteArray) (hu : str (Ut.enc x0) = u) (hx : s.extract p (p + 1) = x) (hg : isg (x0 : Int) = true) (hne2 : (u.toList == x.toList) = false) :
  Calls Tryz.prog 153 #[.string s, .int .i64 p] w fun e w' => e = .returned (.tuple #[.int .i64 0, .int .i64 0]) /\ Below w.heap.size w w' := by
 have K2 : Hid (∀ z : Cl w, Calls Tryz.prog 156 #[.int .i64 x0] z.w fun e w'' => e = .returned (.string u) /\ ∃ m : Cl w, w'' = m.w) := fun z => z.call (by rw [<- hu]; exact refBytes_any x0 z.w (isg_le hg))
 have hsl : ∀ wx, (Instr.slice 9 (.string s) (some (.int .i64 (p : Int))) (some (.int .i64 ((p : Int) + 1))) none).run Tryz.prog wx = .ok (.string x) wx := fun wx => by rw [<- hx]; exact slice_at s p 1 wx h
 clear hu hx
 have K1 : Hid (∀ z : Cl w, Calls Tryz.prog 155 #[.int .i64 x0] z.w fun e w'' => e = .returned (.bool true) /\ ∃ m : Cl w, w'' = m.w) := fun z => z.call (by rw [<- hg]; exact (refSign_any _ z.w).mono fun e w' ⟨he, hw⟩ => ⟨he, by rw [hw]; exact Below.refl _ _⟩)
 clear hg
 have W0 := un w0
 have E0 := un e0
 have C0 := un b0
 go_enter Tryz.func153, Tryz.ntmps153
 go_wp2
 refine wp_loop_rounds 1 ?_
 clear W0 E0
 rw [rounds_succ]
 go_wp2
 refine wp_region_class (by kernel_rfl) (by kernel_rfl) ?_
 have hne : Nonempty (Cl w) := ⟨⟨w, Below.refl _ _⟩⟩
 repeat (go_big_quiet_step (first | with_reducible exact (un K1) _ | with_reducible exact (un K2) _))
 refine wpQuiet_nil ?_
 rintro w' ⟨z, rfl⟩
 go_wp2
 go_ret2
 exact ⟨rfl, z.b⟩
theorem one2n (s : ByteArray) (p : Nat) (w : World) (x0 x1 v1 : Nat) (h : p + 1 < s.size) (e0 : Hid ((s[p]'(by omega)).toNat = x0)) (b0 : Hid ((x0 : Int) <= 255)) (e1 : Hid ((s[p + 1]'(by omega)).toNat = x1)) (b1 : Hid ((x1 : Int) <= 255)) (d0 : decide ((240 : Int) <= (x0 : Int)) = false) (d1 : decide ((224 : Int) <= (x0 : Int)) = false) (d2 : decide ((192 : Int) <= (x0 : Int)) = true) (q1 : Hid ((v1 : Int) = 64 * ((x0 : Int) - 192) + (x1 : Int) % 64)) (g1 : Hid ((v1 : Int) <= 4194303)) (hi0 : (p : Int) < s.size) (hi1 : Hid ((p : Int) + 1 < s.size)) (hz : (s.size : Int) <= 1000) (w0 : Hid (wrap64 (x0 : Int) = x0)) (w1 : Hid (wrap64 (x1 : Int) = x1)) (dl : decide ((s.size : Int) - p < 2) = false) (hg : isg (v1 : Int) = false) :
  Calls Tryz.prog 153 #[.string s, .int .i64 p] w fun e w' => e = .returned (.tuple #[.int .i64 0, .int .i64 0]) /\ Below w.heap.size w w' := by
 have K1 : Hid (∀ z : Cl w, Calls Tryz.prog 155 #[.int .i64 v1] z.w fun e w'' => e = .returned (.bool false) /\ ∃ m : Cl w, w'' = m.w) := fun z => z.call (by rw [<- hg]; exact (refSign_any _ z.w).mono fun e w' ⟨he, hw⟩ => ⟨he, by rw [hw]; exact Below.refl _ _⟩)
 clear hg
 have W0 := un w0
 have E0 := un e0
 have C0 := un b0
 go_enter Tryz.func153, Tryz.ntmps153
 go_wp2
 refine wp_loop_rounds 2 ?_
 clear W0 E0
 rw [rounds_succ]
 have W1 := un w1
 have E1 := un e1
 have C1 := un b1
 have I1 := un hi1
 go_wp2
 rw [<- un q1]
 have G1 := un g1
 clear W1 C1 I1 E1 C0
 rw [rounds_succ]
 go_wp2
 refine wp_region_class (by kernel_rfl) (by kernel_rfl) ?_
 have hne : Nonempty (Cl w) := ⟨⟨w, Below.refl _ _⟩⟩
 repeat (go_big_quiet_step (first | with_reducible exact (un K1) _))
 refine wpQuiet_nil ?_
 rintro w' ⟨z, rfl⟩
 go_wp2
 go_ret2
 exact ⟨rfl, z.b⟩
theorem one2y (s : ByteArray) (p : Nat) (w : World) (x0 x1 v1 : Nat) (h : p + 1 < s.size) (e0 : Hid ((s[p]'(by omega)).toNat = x0)) (b0 : Hid ((x0 : Int) <= 255)) (e1 : Hid ((s[p + 1]'(by omega)).toNat = x1)) (b1 : Hid ((x1 : Int) <= 255)) (d0 : decide ((240 : Int) <= (x0 : Int)) = false) (d1 : decide ((224 : Int) <= (x0 : Int)) = false) (d2 : decide ((192 : Int) <= (x0 : Int)) = true) (q1 : Hid ((v1 : Int) = 64 * ((x0 : Int) - 192) + (x1 : Int) % 64)) (g1 : Hid ((v1 : Int) <= 4194303)) (hi0 : (p : Int) < s.size) (hi1 : Hid ((p : Int) + 1 < s.size)) (hz : (s.size : Int) <= 1000) (w0 : Hid (wrap64 (x0 : Int) = x0)) (w1 : Hid (wrap64 (x1 : Int) = x1)) (dl : decide ((s.size : Int) - p < 2) = false) (u x : ByteArray) (hu : str (Ut.enc v1) = u) (hx : s.extract p (p + 2) = x) (hg : isg (v1 : Int) = true) (hne2 : (u.toList == x.toList) = true) :
  Calls Tryz.prog 153 #[.string s, .int .i64 p] w fun e w' => e = .returned (.tuple #[.int .i64 v1, .int .i64 2]) /\ Below w.heap.size w w' := by
 have K2 : Hid (∀ z : Cl w, Calls Tryz.prog 156 #[.int .i64 v1] z.w fun e w'' => e = .returned (.string u) /\ ∃ m : Cl w, w'' = m.w) := fun z => z.call (by rw [<- hu]; exact refBytes_any v1 z.w (isg_le hg))
 have hsl : ∀ wx, (Instr.slice 9 (.string s) (some (.int .i64 (p : Int))) (some (.int .i64 ((p : Int) + 2))) none).run Tryz.prog wx = .ok (.string x) wx := fun wx => by rw [<- hx]; exact slice_at s p 2 wx h
 clear hu hx
 have K1 : Hid (∀ z : Cl w, Calls Tryz.prog 155 #[.int .i64 v1] z.w fun e w'' => e = .returned (.bool true) /\ ∃ m : Cl w, w'' = m.w) := fun z => z.call (by rw [<- hg]; exact (refSign_any _ z.w).mono fun e w' ⟨he, hw⟩ => ⟨he, by rw [hw]; exact Below.refl _ _⟩)
 clear hg
 have W0 := un w0
 have E0 := un e0
 have C0 := un b0
 go_enter Tryz.func153, Tryz.ntmps153
 go_wp2
 refine wp_loop_rounds 2 ?_
 clear W0 E0
 rw [rounds_succ]
 have W1 := un w1
 have E1 := un e1
 have C1 := un b1
 have I1 := un hi1
 go_wp2
 rw [<- un q1]
 have G1 := un g1
 clear W1 C1 I1 E1 C0
 rw [rounds_succ]
 go_wp2
 refine wp_region_class (by kernel_rfl) (by kernel_rfl) ?_
 have hne : Nonempty (Cl w) := ⟨⟨w, Below.refl _ _⟩⟩
 repeat (go_big_quiet_step (first | with_reducible exact (un K1) _ | with_reducible exact (un K2) _))
 refine wpQuiet_nil ?_
 rintro w' ⟨z, rfl⟩
 go_wp2
 go_ret2
 exact ⟨rfl, z.b⟩
theorem one2x (s : ByteArray) (p : Nat) (w : World) (x0 x1 v1 : Nat) (h : p + 1 < s.size) (e0 : Hid ((s[p]'(by omega)).toNat = x0)) (b0 : Hid ((x0 : Int) <= 255)) (e1 : Hid ((s[p + 1]'(by omega)).toNat = x1)) (b1 : Hid ((x1 : Int) <= 255)) (d0 : decide ((240 : Int) <= (x0 : Int)) = false) (d1 : decide ((224 : Int) <= (x0 : Int)) = false) (d2 : decide ((192 : Int) <= (x0 : Int)) = true) (q1 : Hid ((v1 : Int) = 64 * ((x0 : Int) - 192) + (x1 : Int) % 64)) (g1 : Hid ((v1 : Int) <= 4194303)) (hi0 : (p : Int) < s.size) (hi1 : Hid ((p : Int) + 1 < s.size)) (hz : (s.size : Int) <= 1000) (w0 : Hid (wrap64 (x0 : Int) = x0)) (w1 : Hid (wrap64 (x1 : Int) = x1)) (dl : decide ((s.size : Int) - p < 2) = false) (u x : ByteArray) (hu : str (Ut.enc v1) = u) (hx : s.extract p (p + 2) = x) (hg : isg (v1 : Int) = true) (hne2 : (u.toList == x.toList) = false) :
  Calls Tryz.prog 153 #[.string s, .int .i64 p] w fun e w' => e = .returned (.tuple #[.int .i64 0, .int .i64 0]) /\ Below w.heap.size w w' := by
 have K2 : Hid (∀ z : Cl w, Calls Tryz.prog 156 #[.int .i64 v1] z.w fun e w'' => e = .returned (.string u) /\ ∃ m : Cl w, w'' = m.w) := fun z => z.call (by rw [<- hu]; exact refBytes_any v1 z.w (isg_le hg))
 have hsl : ∀ wx, (Instr.slice 9 (.string s) (some (.int .i64 (p : Int))) (some (.int .i64 ((p : Int) + 2))) none).run Tryz.prog wx = .ok (.string x) wx := fun wx => by rw [<- hx]; exact slice_at s p 2 wx h
 clear hu hx
 have K1 : Hid (∀ z : Cl w, Calls Tryz.prog 155 #[.int .i64 v1] z.w fun e w'' => e = .returned (.bool true) /\ ∃ m : Cl w, w'' = m.w) := fun z => z.call (by rw [<- hg]; exact (refSign_any _ z.w).mono fun e w' ⟨he, hw⟩ => ⟨he, by rw [hw]; exact Below.refl _ _⟩)
 clear hg
 have W0 := un w0
 have E0 := un e0
 have C0 := un b0
 go_enter Tryz.func153, Tryz.ntmps153
 go_wp2
 refine wp_loop_rounds 2 ?_
 clear W0 E0
 rw [rounds_succ]
 have W1 := un w1
 have E1 := un e1
 have C1 := un b1
 have I1 := un hi1
 go_wp2
 rw [<- un q1]
 have G1 := un g1
 clear W1 C1 I1 E1 C0
 rw [rounds_succ]
 go_wp2
 refine wp_region_class (by kernel_rfl) (by kernel_rfl) ?_
 have hne : Nonempty (Cl w) := ⟨⟨w, Below.refl _ _⟩⟩
 repeat (go_big_quiet_step (first | with_reducible exact (un K1) _ | with_reducible exact (un K2) _))
 refine wpQuiet_nil ?_
 rintro w' ⟨z, rfl⟩
 go_wp2
 go_ret2
 exact ⟨rfl, z.b⟩
theorem one3n (s : ByteArray) (p : Nat) (w : World) (x0 x1 x2 v1 v2 : Nat) (h : p + 2 < s.size) (e0 : Hid ((s[p]'(by omega)).toNat = x0)) (b0 : Hid ((x0 : Int) <= 255)) (e1 : Hid ((s[p + 1]'(by omega)).toNat = x1)) (b1 : Hid ((x1 : Int) <= 255)) (e2 : Hid ((s[p + 2]'(by omega)).toNat = x2)) (b2 : Hid ((x2 : Int) <= 255)) (d0 : decide ((240 : Int) <= (x0 : Int)) = false) (d1 : decide ((224 : Int) <= (x0 : Int)) = true) (q1 : Hid ((v1 : Int) = 64 * ((x0 : Int) - 224) + (x1 : Int) % 64)) (g1 : Hid ((v1 : Int) <= 4194303)) (q2 : Hid ((v2 : Int) = 64 * (v1 : Int) + (x2 : Int) % 64)) (g2 : Hid ((v2 : Int) <= 4194303)) (hi0 : (p : Int) < s.size) (hi1 : Hid ((p : Int) + 1 < s.size)) (hi2 : Hid ((p : Int) + 2 < s.size)) (hz : (s.size : Int) <= 1000) (w0 : Hid (wrap64 (x0 : Int) = x0)) (w1 : Hid (wrap64 (x1 : Int) = x1)) (w2 : Hid (wrap64 (x2 : Int) = x2)) (dl : decide ((s.size : Int) - p < 3) = false) (hg : isg (v2 : Int) = false) :
  Calls Tryz.prog 153 #[.string s, .int .i64 p] w fun e w' => e = .returned (.tuple #[.int .i64 0, .int .i64 0]) /\ Below w.heap.size w w' := by
 have K1 : Hid (∀ z : Cl w, Calls Tryz.prog 155 #[.int .i64 v2] z.w fun e w'' => e = .returned (.bool false) /\ ∃ m : Cl w, w'' = m.w) := fun z => z.call (by rw [<- hg]; exact (refSign_any _ z.w).mono fun e w' ⟨he, hw⟩ => ⟨he, by rw [hw]; exact Below.refl _ _⟩)
 clear hg
 have W0 := un w0
 have E0 := un e0
 have C0 := un b0
 go_enter Tryz.func153, Tryz.ntmps153
 go_wp2
 refine wp_loop_rounds 3 ?_
 clear W0 E0
 rw [rounds_succ]
 have W1 := un w1
 have E1 := un e1
 have C1 := un b1
 have I1 := un hi1
 go_wp2
 rw [<- un q1]
 have G1 := un g1
 clear W1 C1 I1 E1 C0
 rw [rounds_succ]
 have W2 := un w2
 have E2 := un e2
 have C2 := un b2
 have I2 := un hi2
 go_wp2
 rw [<- un q2]
 have G2 := un g2
 clear W2 C2 I2 E2 G1
 rw [rounds_succ]
 go_wp2
 refine wp_region_class (by kernel_rfl) (by kernel_rfl) ?_
 have hne : Nonempty (Cl w) := ⟨⟨w, Below.refl _ _⟩⟩
 repeat (go_big_quiet_step (first | with_reducible exact (un K1) _))
 refine wpQuiet_nil ?_
 rintro w' ⟨z, rfl⟩
 go_wp2
 go_ret2
 exact ⟨rfl, z.b⟩
theorem one3y (s : ByteArray) (p : Nat) (w : World) (x0 x1 x2 v1 v2 : Nat) (h : p + 2 < s.size) (e0 : Hid ((s[p]'(by omega)).toNat = x0)) (b0 : Hid ((x0 : Int) <= 255)) (e1 : Hid ((s[p + 1]'(by omega)).toNat = x1)) (b1 : Hid ((x1 : Int) <= 255)) (e2 : Hid ((s[p + 2]'(by omega)).toNat = x2)) (b2 : Hid ((x2 : Int) <= 255)) (d0 : decide ((240 : Int) <= (x0 : Int)) = false) (d1 : decide ((224 : Int) <= (x0 : Int)) = true) (q1 : Hid ((v1 : Int) = 64 * ((x0 : Int) - 224) + (x1 : Int) % 64)) (g1 : Hid ((v1 : Int) <= 4194303)) (q2 : Hid ((v2 : Int) = 64 * (v1 : Int) + (x2 : Int) % 64)) (g2 : Hid ((v2 : Int) <= 4194303)) (hi0 : (p : Int) < s.size) (hi1 : Hid ((p : Int) + 1 < s.size)) (hi2 : Hid ((p : Int) + 2 < s.size)) (hz : (s.size : Int) <= 1000) (w0 : Hid (wrap64 (x0 : Int) = x0)) (w1 : Hid (wrap64 (x1 : Int) = x1)) (w2 : Hid (wrap64 (x2 : Int) = x2)) (dl : decide ((s.size : Int) - p < 3) = false) (u x : ByteArray) (hu : str (Ut.enc v2) = u) (hx : s.extract p (p + 3) = x) (hg : isg (v2 : Int) = true) (hne2 : (u.toList == x.toList) = true) :
  Calls Tryz.prog 153 #[.string s, .int .i64 p] w fun e w' => e = .returned (.tuple #[.int .i64 v2, .int .i64 3]) /\ Below w.heap.size w w' := by
 have K2 : Hid (∀ z : Cl w, Calls Tryz.prog 156 #[.int .i64 v2] z.w fun e w'' => e = .returned (.string u) /\ ∃ m : Cl w, w'' = m.w) := fun z => z.call (by rw [<- hu]; exact refBytes_any v2 z.w (isg_le hg))
 have hsl : ∀ wx, (Instr.slice 9 (.string s) (some (.int .i64 (p : Int))) (some (.int .i64 ((p : Int) + 3))) none).run Tryz.prog wx = .ok (.string x) wx := fun wx => by rw [<- hx]; exact slice_at s p 3 wx h
 clear hu hx
 have K1 : Hid (∀ z : Cl w, Calls Tryz.prog 155 #[.int .i64 v2] z.w fun e w'' => e = .returned (.bool true) /\ ∃ m : Cl w, w'' = m.w) := fun z => z.call (by rw [<- hg]; exact (refSign_any _ z.w).mono fun e w' ⟨he, hw⟩ => ⟨he, by rw [hw]; exact Below.refl _ _⟩)
 clear hg
 have W0 := un w0
 have E0 := un e0
 have C0 := un b0
 go_enter Tryz.func153, Tryz.ntmps153
 go_wp2
 refine wp_loop_rounds 3 ?_
 clear W0 E0
 rw [rounds_succ]
 have W1 := un w1
 have E1 := un e1
 have C1 := un b1
 have I1 := un hi1
 go_wp2
 rw [<- un q1]
 have G1 := un g1
 clear W1 C1 I1 E1 C0
 rw [rounds_succ]
 have W2 := un w2
 have E2 := un e2
 have C2 := un b2
 have I2 := un hi2
 go_wp2
 rw [<- un q2]
 have G2 := un g2
 clear W2 C2 I2 E2 G1
 rw [rounds_succ]
 go_wp2
 refine wp_region_class (by kernel_rfl) (by kernel_rfl) ?_
 have hne : Nonempty (Cl w) := ⟨⟨w, Below.refl _ _⟩⟩
 repeat (go_big_quiet_step (first | with_reducible exact (un K1) _ | with_reducible exact (un K2) _))
 refine wpQuiet_nil ?_
 rintro w' ⟨z, rfl⟩
 go_wp2
 go_ret2
 exact ⟨rfl, z.b⟩
theorem one3x (s : ByteArray) (p : Nat) (w : World) (x0 x1 x2 v1 v2 : Nat) (h : p + 2 < s.size) (e0 : Hid ((s[p]'(by omega)).toNat = x0)) (b0 : Hid ((x0 : Int) <= 255)) (e1 : Hid ((s[p + 1]'(by omega)).toNat = x1)) (b1 : Hid ((x1 : Int) <= 255)) (e2 : Hid ((s[p + 2]'(by omega)).toNat = x2)) (b2 : Hid ((x2 : Int) <= 255)) (d0 : decide ((240 : Int) <= (x0 : Int)) = false) (d1 : decide ((224 : Int) <= (x0 : Int)) = true) (q1 : Hid ((v1 : Int) = 64 * ((x0 : Int) - 224) + (x1 : Int) % 64)) (g1 : Hid ((v1 : Int) <= 4194303)) (q2 : Hid ((v2 : Int) = 64 * (v1 : Int) + (x2 : Int) % 64)) (g2 : Hid ((v2 : Int) <= 4194303)) (hi0 : (p : Int) < s.size) (hi1 : Hid ((p : Int) + 1 < s.size)) (hi2 : Hid ((p : Int) + 2 < s.size)) (hz : (s.size : Int) <= 1000) (w0 : Hid (wrap64 (x0 : Int) = x0)) (w1 : Hid (wrap64 (x1 : Int) = x1)) (w2 : Hid (wrap64 (x2 : Int) = x2)) (dl : decide ((s.size : Int) - p < 3) = false) (u x : ByteArray) (hu : str (Ut.enc v2) = u) (hx : s.extract p (p + 3) = x) (hg : isg (v2 : Int) = true) (hne2 : (u.toList == x.toList) = false) :
  Calls Tryz.prog 153 #[.string s, .int .i64 p] w fun e w' => e = .returned (.tuple #[.int .i64 0, .int .i64 0]) /\ Below w.heap.size w w' := by
 have K2 : Hid (∀ z : Cl w, Calls Tryz.prog 156 #[.int .i64 v2] z.w fun e w'' => e = .returned (.string u) /\ ∃ m : Cl w, w'' = m.w) := fun z => z.call (by rw [<- hu]; exact refBytes_any v2 z.w (isg_le hg))
 have hsl : ∀ wx, (Instr.slice 9 (.string s) (some (.int .i64 (p : Int))) (some (.int .i64 ((p : Int) + 3))) none).run Tryz.prog wx = .ok (.string x) wx := fun wx => by rw [<- hx]; exact slice_at s p 3 wx h
 clear hu hx
 have K1 : Hid (∀ z : Cl w, Calls Tryz.prog 155 #[.int .i64 v2] z.w fun e w'' => e = .returned (.bool true) /\ ∃ m : Cl w, w'' = m.w) := fun z => z.call (by rw [<- hg]; exact (refSign_any _ z.w).mono fun e w' ⟨he, hw⟩ => ⟨he, by rw [hw]; exact Below.refl _ _⟩)
 clear hg
 have W0 := un w0
 have E0 := un e0
 have C0 := un b0
 go_enter Tryz.func153, Tryz.ntmps153
 go_wp2
 refine wp_loop_rounds 3 ?_
 clear W0 E0
 rw [rounds_succ]
 have W1 := un w1
 have E1 := un e1
 have C1 := un b1
 have I1 := un hi1
 go_wp2
 rw [<- un q1]
 have G1 := un g1
 clear W1 C1 I1 E1 C0
 rw [rounds_succ]
 have W2 := un w2
 have E2 := un e2
 have C2 := un b2
 have I2 := un hi2
 go_wp2
 rw [<- un q2]
 have G2 := un g2
 clear W2 C2 I2 E2 G1
 rw [rounds_succ]
 go_wp2
 refine wp_region_class (by kernel_rfl) (by kernel_rfl) ?_
 have hne : Nonempty (Cl w) := ⟨⟨w, Below.refl _ _⟩⟩
 repeat (go_big_quiet_step (first | with_reducible exact (un K1) _ | with_reducible exact (un K2) _))
 refine wpQuiet_nil ?_
 rintro w' ⟨z, rfl⟩
 go_wp2
 go_ret2
 exact ⟨rfl, z.b⟩
theorem one4n (s : ByteArray) (p : Nat) (w : World) (x0 x1 x2 x3 v1 v2 v3 : Nat) (h : p + 3 < s.size) (e0 : Hid ((s[p]'(by omega)).toNat = x0)) (b0 : Hid ((x0 : Int) <= 255)) (e1 : Hid ((s[p + 1]'(by omega)).toNat = x1)) (b1 : Hid ((x1 : Int) <= 255)) (e2 : Hid ((s[p + 2]'(by omega)).toNat = x2)) (b2 : Hid ((x2 : Int) <= 255)) (e3 : Hid ((s[p + 3]'(by omega)).toNat = x3)) (b3 : Hid ((x3 : Int) <= 255)) (d0 : decide ((240 : Int) <= (x0 : Int)) = true) (q1 : Hid ((v1 : Int) = 64 * ((x0 : Int) - 240) + (x1 : Int) % 64)) (g1 : Hid ((v1 : Int) <= 4194303)) (q2 : Hid ((v2 : Int) = 64 * (v1 : Int) + (x2 : Int) % 64)) (g2 : Hid ((v2 : Int) <= 4194303)) (q3 : Hid ((v3 : Int) = 64 * (v2 : Int) + (x3 : Int) % 64)) (g3 : Hid ((v3 : Int) <= 4194303)) (hi0 : (p : Int) < s.size) (hi1 : Hid ((p : Int) + 1 < s.size)) (hi2 : Hid ((p : Int) + 2 < s.size)) (hi3 : Hid ((p : Int) + 3 < s.size)) (hz : (s.size : Int) <= 1000) (w0 : Hid (wrap64 (x0 : Int) = x0)) (w1 : Hid (wrap64 (x1 : Int) = x1)) (w2 : Hid (wrap64 (x2 : Int) = x2)) (w3 : Hid (wrap64 (x3 : Int) = x3)) (dl : decide ((s.size : Int) - p < 4) = false) (hg : isg (v3 : Int) = false) :
  Calls Tryz.prog 153 #[.string s, .int .i64 p] w fun e w' => e = .returned (.tuple #[.int .i64 0, .int .i64 0]) /\ Below w.heap.size w w' := by
 have K1 : Hid (∀ z : Cl w, Calls Tryz.prog 155 #[.int .i64 v3] z.w fun e w'' => e = .returned (.bool false) /\ ∃ m : Cl w, w'' = m.w) := fun z => z.call (by rw [<- hg]; exact (refSign_any _ z.w).mono fun e w' ⟨he, hw⟩ => ⟨he, by rw [hw]; exact Below.refl _ _⟩)
 clear hg
 have W0 := un w0
 have E0 := un e0
 have C0 := un b0
 go_enter Tryz.func153, Tryz.ntmps153
 go_wp2
 refine wp_loop_rounds 4 ?_
 clear W0 E0
 rw [rounds_succ]
 have W1 := un w1
 have E1 := un e1
 have C1 := un b1
 have I1 := un hi1
 go_wp2
 rw [<- un q1]
 have G1 := un g1
 clear W1 C1 I1 E1 C0
 rw [rounds_succ]
 have W2 := un w2
 have E2 := un e2
 have C2 := un b2
 have I2 := un hi2
 go_wp2
 rw [<- un q2]
 have G2 := un g2
 clear W2 C2 I2 E2 G1
 rw [rounds_succ]
 have W3 := un w3
 have E3 := un e3
 have C3 := un b3
 have I3 := un hi3
 go_wp2
 rw [<- un q3]
 have G3 := un g3
 clear W3 C3 I3 E3 G2
 rw [rounds_succ]
 go_wp2
 refine wp_region_class (by kernel_rfl) (by kernel_rfl) ?_
 have hne : Nonempty (Cl w) := ⟨⟨w, Below.refl _ _⟩⟩
 repeat (go_big_quiet_step (first | with_reducible exact (un K1) _))
 refine wpQuiet_nil ?_
 rintro w' ⟨z, rfl⟩
 go_wp2
 go_ret2
 exact ⟨rfl, z.b⟩
theorem one4y (s : ByteArray) (p : Nat) (w : World) (x0 x1 x2 x3 v1 v2 v3 : Nat) (h : p + 3 < s.size) (e0 : Hid ((s[p]'(by omega)).toNat = x0)) (b0 : Hid ((x0 : Int) <= 255)) (e1 : Hid ((s[p + 1]'(by omega)).toNat = x1)) (b1 : Hid ((x1 : Int) <= 255)) (e2 : Hid ((s[p + 2]'(by omega)).toNat = x2)) (b2 : Hid ((x2 : Int) <= 255)) (e3 : Hid ((s[p + 3]'(by omega)).toNat = x3)) (b3 : Hid ((x3 : Int) <= 255)) (d0 : decide ((240 : Int) <= (x0 : Int)) = true) (q1 : Hid ((v1 : Int) = 64 * ((x0 : Int) - 240) + (x1 : Int) % 64)) (g1 : Hid ((v1 : Int) <= 4194303)) (q2 : Hid ((v2 : Int) = 64 * (v1 : Int) + (x2 : Int) % 64)) (g2 : Hid ((v2 : Int) <= 4194303)) (q3 : Hid ((v3 : Int) = 64 * (v2 : Int) + (x3 : Int) % 64)) (g3 : Hid ((v3 : Int) <= 4194303)) (hi0 : (p : Int) < s.size) (hi1 : Hid ((p : Int) + 1 < s.size)) (hi2 : Hid ((p : Int) + 2 < s.size)) (hi3 : Hid ((p : Int) + 3 < s.size)) (hz : (s.size : Int) <= 1000) (w0 : Hid (wrap64 (x0 : Int) = x0)) (w1 : Hid (wrap64 (x1 : Int) = x1)) (w2 : Hid (wrap64 (x2 : Int) = x2)) (w3 : Hid (wrap64 (x3 : Int) = x3)) (dl : decide ((s.size : Int) - p < 4) = false) (u x : ByteArray) (hu : str (Ut.enc v3) = u) (hx : s.extract p (p + 4) = x) (hg : isg (v3 : Int) = true) (hne2 : (u.toList == x.toList) = true) :
  Calls Tryz.prog 153 #[.string s, .int .i64 p] w fun e w' => e = .returned (.tuple #[.int .i64 v3, .int .i64 4]) /\ Below w.heap.size w w' := by
 have K2 : Hid (∀ z : Cl w, Calls Tryz.prog 156 #[.int .i64 v3] z.w fun e w'' => e = .returned (.string u) /\ ∃ m : Cl w, w'' = m.w) := fun z => z.call (by rw [<- hu]; exact refBytes_any v3 z.w (isg_le hg))
 have hsl : ∀ wx, (Instr.slice 9 (.string s) (some (.int .i64 (p : Int))) (some (.int .i64 ((p : Int) + 4))) none).run Tryz.prog wx = .ok (.string x) wx := fun wx => by rw [<- hx]; exact slice_at s p 4 wx h
 clear hu hx
 have K1 : Hid (∀ z : Cl w, Calls Tryz.prog 155 #[.int .i64 v3] z.w fun e w'' => e = .returned (.bool true) /\ ∃ m : Cl w, w'' = m.w) := fun z => z.call (by rw [<- hg]; exact (refSign_any _ z.w).mono fun e w' ⟨he, hw⟩ => ⟨he, by rw [hw]; exact Below.refl _ _⟩)
 clear hg
 have W0 := un w0
 have E0 := un e0
 have C0 := un b0
 go_enter Tryz.func153, Tryz.ntmps153
 go_wp2
 refine wp_loop_rounds 4 ?_
 clear W0 E0
 rw [rounds_succ]
 have W1 := un w1
 have E1 := un e1
 have C1 := un b1
 have I1 := un hi1
 go_wp2
 rw [<- un q1]
 have G1 := un g1
 clear W1 C1 I1 E1 C0
 rw [rounds_succ]
 have W2 := un w2
 have E2 := un e2
 have C2 := un b2
 have I2 := un hi2
 go_wp2
 rw [<- un q2]
 have G2 := un g2
 clear W2 C2 I2 E2 G1
 rw [rounds_succ]
 have W3 := un w3
 have E3 := un e3
 have C3 := un b3
 have I3 := un hi3
 go_wp2
 rw [<- un q3]
 have G3 := un g3
 clear W3 C3 I3 E3 G2
 rw [rounds_succ]
 go_wp2
 refine wp_region_class (by kernel_rfl) (by kernel_rfl) ?_
 have hne : Nonempty (Cl w) := ⟨⟨w, Below.refl _ _⟩⟩
 repeat (go_big_quiet_step (first | with_reducible exact (un K1) _ | with_reducible exact (un K2) _))
 refine wpQuiet_nil ?_
 rintro w' ⟨z, rfl⟩
 go_wp2
 go_ret2
 exact ⟨rfl, z.b⟩
theorem one4x (s : ByteArray) (p : Nat) (w : World) (x0 x1 x2 x3 v1 v2 v3 : Nat) (h : p + 3 < s.size) (e0 : Hid ((s[p]'(by omega)).toNat = x0)) (b0 : Hid ((x0 : Int) <= 255)) (e1 : Hid ((s[p + 1]'(by omega)).toNat = x1)) (b1 : Hid ((x1 : Int) <= 255)) (e2 : Hid ((s[p + 2]'(by omega)).toNat = x2)) (b2 : Hid ((x2 : Int) <= 255)) (e3 : Hid ((s[p + 3]'(by omega)).toNat = x3)) (b3 : Hid ((x3 : Int) <= 255)) (d0 : decide ((240 : Int) <= (x0 : Int)) = true) (q1 : Hid ((v1 : Int) = 64 * ((x0 : Int) - 240) + (x1 : Int) % 64)) (g1 : Hid ((v1 : Int) <= 4194303)) (q2 : Hid ((v2 : Int) = 64 * (v1 : Int) + (x2 : Int) % 64)) (g2 : Hid ((v2 : Int) <= 4194303)) (q3 : Hid ((v3 : Int) = 64 * (v2 : Int) + (x3 : Int) % 64)) (g3 : Hid ((v3 : Int) <= 4194303)) (hi0 : (p : Int) < s.size) (hi1 : Hid ((p : Int) + 1 < s.size)) (hi2 : Hid ((p : Int) + 2 < s.size)) (hi3 : Hid ((p : Int) + 3 < s.size)) (hz : (s.size : Int) <= 1000) (w0 : Hid (wrap64 (x0 : Int) = x0)) (w1 : Hid (wrap64 (x1 : Int) = x1)) (w2 : Hid (wrap64 (x2 : Int) = x2)) (w3 : Hid (wrap64 (x3 : Int) = x3)) (dl : decide ((s.size : Int) - p < 4) = false) (u x : ByteArray) (hu : str (Ut.enc v3) = u) (hx : s.extract p (p + 4) = x) (hg : isg (v3 : Int) = true) (hne2 : (u.toList == x.toList) = false) :
  Calls Tryz.prog 153 #[.string s, .int .i64 p] w fun e w' => e = .returned (.tuple #[.int .i64 0, .int .i64 0]) /\ Below w.heap.size w w' := by
 have K2 : Hid (∀ z : Cl w, Calls Tryz.prog 156 #[.int .i64 v3] z.w fun e w'' => e = .returned (.string u) /\ ∃ m : Cl w, w'' = m.w) := fun z => z.call (by rw [<- hu]; exact refBytes_any v3 z.w (isg_le hg))
 have hsl : ∀ wx, (Instr.slice 9 (.string s) (some (.int .i64 (p : Int))) (some (.int .i64 ((p : Int) + 4))) none).run Tryz.prog wx = .ok (.string x) wx := fun wx => by rw [<- hx]; exact slice_at s p 4 wx h
 clear hu hx
 have K1 : Hid (∀ z : Cl w, Calls Tryz.prog 155 #[.int .i64 v3] z.w fun e w'' => e = .returned (.bool true) /\ ∃ m : Cl w, w'' = m.w) := fun z => z.call (by rw [<- hg]; exact (refSign_any _ z.w).mono fun e w' ⟨he, hw⟩ => ⟨he, by rw [hw]; exact Below.refl _ _⟩)
 clear hg
 have W0 := un w0
 have E0 := un e0
 have C0 := un b0
 go_enter Tryz.func153, Tryz.ntmps153
 go_wp2
 refine wp_loop_rounds 4 ?_
 clear W0 E0
 rw [rounds_succ]
 have W1 := un w1
 have E1 := un e1
 have C1 := un b1
 have I1 := un hi1
 go_wp2
 rw [<- un q1]
 have G1 := un g1
 clear W1 C1 I1 E1 C0
 rw [rounds_succ]
 have W2 := un w2
 have E2 := un e2
 have C2 := un b2
 have I2 := un hi2
 go_wp2
 rw [<- un q2]
 have G2 := un g2
 clear W2 C2 I2 E2 G1
 rw [rounds_succ]
 have W3 := un w3
 have E3 := un e3
 have C3 := un b3
 have I3 := un hi3
 go_wp2
 rw [<- un q3]
 have G3 := un g3
 clear W3 C3 I3 E3 G2
 rw [rounds_succ]
 go_wp2
 refine wp_region_class (by kernel_rfl) (by kernel_rfl) ?_
 have hne : Nonempty (Cl w) := ⟨⟨w, Below.refl _ _⟩⟩
 repeat (go_big_quiet_step (first | with_reducible exact (un K1) _ | with_reducible exact (un K2) _))
 refine wpQuiet_nil ?_
 rintro w' ⟨z, rfl⟩
 go_wp2
 go_ret2
 exact ⟨rfl, z.b⟩
end Go.Proofs.YtjhnblgamodekaaGreatDoor.U
/-
 What the document's 'one' answers at every place of a text. Conditions: none.
-/
namespace Go.Proofs.YtjhnblgamodekaaGreatDoor.U
open Go Go.RowKit
theorem one2s (s : ByteArray) (p : Nat) (w : World) (x0 : Nat) (h : p < s.size) (e0 : (s[p]'h).toNat = x0) (b0 : (x0 : Int) <= 255) (d0 : decide ((240 : Int) <= (x0 : Int)) = false) (d1 : decide ((224 : Int) <= (x0 : Int)) = false) (d2 : decide ((192 : Int) <= (x0 : Int)) = true) (hi0 : (p : Int) < s.size) (hz : (s.size : Int) <= 1000) (w0 : wrap64 (x0 : Int) = x0) (dl : decide ((s.size : Int) - p < 2) = true) :
  Calls Tryz.prog 153 #[.string s, .int .i64 p] w fun e w' => e = .returned (.tuple #[.int .i64 0, .int .i64 0]) /\ Below w.heap.size w w' := by
 go_enter Tryz.func153, Tryz.ntmps153
 go_wp2
 go_ret2
 exact ⟨rfl, Below.refl _ _⟩
theorem one3s (s : ByteArray) (p : Nat) (w : World) (x0 : Nat) (h : p < s.size) (e0 : (s[p]'h).toNat = x0) (b0 : (x0 : Int) <= 255) (d0 : decide ((240 : Int) <= (x0 : Int)) = false) (d1 : decide ((224 : Int) <= (x0 : Int)) = true) (hi0 : (p : Int) < s.size) (hz : (s.size : Int) <= 1000) (w0 : wrap64 (x0 : Int) = x0) (dl : decide ((s.size : Int) - p < 3) = true) :
  Calls Tryz.prog 153 #[.string s, .int .i64 p] w fun e w' => e = .returned (.tuple #[.int .i64 0, .int .i64 0]) /\ Below w.heap.size w w' := by
 go_enter Tryz.func153, Tryz.ntmps153
 go_wp2
 go_ret2
 exact ⟨rfl, Below.refl _ _⟩
theorem one4s (s : ByteArray) (p : Nat) (w : World) (x0 : Nat) (h : p < s.size) (e0 : (s[p]'h).toNat = x0) (b0 : (x0 : Int) <= 255) (d0 : decide ((240 : Int) <= (x0 : Int)) = true) (hi0 : (p : Int) < s.size) (hz : (s.size : Int) <= 1000) (w0 : wrap64 (x0 : Int) = x0) (dl : decide ((s.size : Int) - p < 4) = true) :
  Calls Tryz.prog 153 #[.string s, .int .i64 p] w fun e w' => e = .returned (.tuple #[.int .i64 0, .int .i64 0]) /\ Below w.heap.size w w' := by
 go_enter Tryz.func153, Tryz.ntmps153
 go_wp2
 go_ret2
 exact ⟨rfl, Below.refl _ _⟩
theorem lead {l : List UInt8} {c : Nat} (h : Ut.dc l = some c) : (Ut.g l 0 < 128 /\ c = Ut.g l 0 /\ (Ut.enc c).length = 1) \/ (192 <= Ut.g l 0 /\ Ut.g l 0 < 224 /\ c = 64 * (Ut.g l 0 - 192) + Ut.g l 1 % 64 /\ (Ut.enc c).length = 2) \/
  (224 <= Ut.g l 0 /\ Ut.g l 0 < 240 /\ c = 64 * (64 * (Ut.g l 0 - 224) + Ut.g l 1 % 64) + Ut.g l 2 % 64 /\ (Ut.enc c).length = 3) \/
  (240 <= Ut.g l 0 /\ c = 64 * (64 * (64 * (Ut.g l 0 - 240) + Ut.g l 1 % 64) + Ut.g l 2 % 64) + Ut.g l 3 % 64 /\ (Ut.enc c).length = 4) := by
 obtain ⟨hs, t, rfl⟩ := Ut.dc_some h
 clear h
 obtain ⟨hs, hs'⟩ := hs
 rcases Ut.enc_cases c with ⟨h1, e⟩ | ⟨h1, h2, e⟩ | ⟨h1, h2, e⟩ | ⟨h1, e⟩
 ·left
  rw [e]
  simp only [Ut.g, List.cons_append, List.nil_append, List.getD_cons_zero, Ut.bn c (by omega)]
  exact ⟨h1, trivial, rfl⟩
 ·right; left
  rw [e]
  simp only [Ut.g, List.cons_append, List.nil_append, List.getD_cons_zero, List.getD_cons_succ, Ut.bn (192 + c / 64) (by omega), Ut.bn (128 + c % 64) (by omega)]
  exact ⟨by omega, by omega, by omega, rfl⟩
 ·right; right; left
  rw [e]
  simp only [Ut.g, List.cons_append, List.nil_append, List.getD_cons_zero, List.getD_cons_succ, Ut.bn (224 + c / 4096) (by omega), Ut.bn (128 + c / 64 % 64) (by omega), Ut.bn (128 + c % 64) (by omega)]
  exact ⟨by omega, by omega, by omega, rfl⟩
 ·right; right; right
  rw [e]
  simp only [Ut.g, List.cons_append, List.nil_append, List.getD_cons_zero, List.getD_cons_succ, Ut.bn (240 + c / 262144) (by omega), Ut.bn (128 + c / 4096 % 64) (by omega), Ut.bn (128 + c / 64 % 64) (by omega), Ut.bn (128 + c % 64) (by omega)]
  exact ⟨by omega, by omega, rfl⟩
def ov (s : ByteArray) (p : Nat) : Nat × Nat := match Ut.dc (s.data.toList.drop p) with | some c => (c, (Ut.enc c).length) | none => (0, 0)
theorem ov_some {s : ByteArray} {p c : Nat} (h : Ut.dc (s.data.toList.drop p) = some c) : ov s p = (c, (Ut.enc c).length) := by unfold ov; rw [h]
theorem ov_none {s : ByteArray} {p : Nat} (h : Ut.dc (s.data.toList.drop p) = none) : ov s p = (0, 0) := by unfold ov; rw [h]
theorem g_at (s : ByteArray) (p i : Nat) (h : p + i < s.size) : Ut.g (s.data.toList.drop p) i = (s[p + i]'h).toNat := by
 have := at_getElem s (p + i) h
 unfold at_ Ut.g at this
 unfold Ut.g
 rw [<- this, List.getD_eq_getElem?_getD, List.getElem?_drop, List.getD_eq_getElem?_getD]
theorem u8w (x : Nat) (h : x <= 255) : wrap64 (x : Int) = x := by unfold wrap64; omega
theorem len_drop (s : ByteArray) (p : Nat) : (s.data.toList.drop p).length = s.size - p := by rw [List.length_drop, len_toList]
theorem hit {s : ByteArray} {p v k : Nat} (hv : isg v = true) (he : ((str (Ut.enc v)).toList == (s.extract p (p + k)).toList) = true) (hk : p + k <= s.size) : ov s p = (v, k) := by
 rw [beq_iff_eq, extract_toList, ByteArray.toList_eq, data_mk, show p + k - p = k by omega] at he
 have hpre : Ut.enc v <+: s.data.toList.drop p := by rw [he]; exact List.take_prefix _ _
 obtain ⟨t, ht⟩ := hpre
 have hd : Ut.dc (s.data.toList.drop p) = some v := by rw [<- ht]; exact Ut.dc_enc v (isg_sg.1 hv) t
 rw [ov_some hd]
 congr 1
 rw [he, List.length_take, len_drop]
 omega
theorem miss {s : ByteArray} {p v k : Nat} (hv : isg v = false \/ ((str (Ut.enc v)).toList == (s.extract p (p + k)).toList) = false) (hl : ∀ c, Ut.dc (s.data.toList.drop p) = some c -> c = v /\ (Ut.enc c).length = k) : ov s p = (0, 0) := by
 cases hd : Ut.dc (s.data.toList.drop p) with
 | none => exact ov_none hd
 | some c =>
  obtain ⟨rfl, hk⟩ := hl c hd
  obtain ⟨hs, t, ht⟩ := Ut.dc_some hd
  rcases hv with hv | hv
  ·rw [isg_sg.2 hs] at hv; cases hv
  ·rw [beq_eq_false_iff_ne] at hv
   refine absurd ?_ hv
   rw [extract_toList, ByteArray.toList_eq, data_mk, ht, show p + k - p = (Ut.enc c).length by omega]
   simp
theorem gone {s : ByteArray} {p : Nat} (hl : ∀ c, Ut.dc (s.data.toList.drop p) = some c -> (Ut.enc c).length <= s.size - p -> False) : ov s p = (0, 0) := by
 cases hd : Ut.dc (s.data.toList.drop p) with
 | none => exact ov_none hd
 | some c =>
  obtain ⟨hs, t, ht⟩ := Ut.dc_some hd
  exact (hl c hd (by rw [<- len_drop, ht, List.length_append]; omega)).elim
theorem one_any (s : ByteArray) (p : Nat) (w : World) (hp : p < s.size) (hs : s.size <= 1000) :
  Calls Tryz.prog 153 #[.string s, .int .i64 p] w fun e w' => e = .returned (.tuple #[.int .i64 ((ov s p).1 : Int), .int .i64 ((ov s p).2 : Int)]) /\ Below w.heap.size w w' := by
 have hi0 : (p : Int) < s.size := by omega
 have hz : (s.size : Int) <= 1000 := by omega
 have k0 := g_at s p 0 hp
 have c0 : (s[p]'hp).toNat <= 255 := by have := (s[p]'hp).toNat_lt; omega
 have k0' : Ut.g (s.data.toList.drop p) 0 = (s[p]'hp).toNat := k0
 generalize hx0 : (s[p]'hp).toNat = x0 at *
 clear k0
 by_cases h4 : 240 <= x0
 ·by_cases hl : s.size - p < 4
  ·rw [gone (fun c hc hle => by have := lead hc; omega)]
   exact one4s s p w x0 hp hx0 (by omega) (decide_eq_true (by omega)) hi0 hz (u8w x0 c0) (decide_eq_true (by omega))
  ·have h1i : p + 1 < s.size := by omega
   have k1 := g_at s p 1 h1i
   have c1 : (s[p + 1]'h1i).toNat <= 255 := by have := (s[p + 1]'h1i).toNat_lt; omega
   generalize hx1 : (s[p + 1]'h1i).toNat = x1 at *
   have h2i : p + 2 < s.size := by omega
   have k2 := g_at s p 2 h2i
   have c2 : (s[p + 2]'h2i).toNat <= 255 := by have := (s[p + 2]'h2i).toNat_lt; omega
   generalize hx2 : (s[p + 2]'h2i).toNat = x2 at *
   have h3i : p + 3 < s.size := by omega
   have k3 := g_at s p 3 h3i
   have c3 : (s[p + 3]'h3i).toNat <= 255 := by have := (s[p + 3]'h3i).toNat_lt; omega
   generalize hx3 : (s[p + 3]'h3i).toNat = x3 at *
   obtain ⟨v1, q1⟩ : ∃ v1, v1 = 64 * (x0 - 240) + x1 % 64 := ⟨_, rfl⟩
   obtain ⟨v2, q2⟩ : ∃ v2, v2 = 64 * v1 + x2 % 64 := ⟨_, rfl⟩
   obtain ⟨v3, q3⟩ : ∃ v3, v3 = 64 * v2 + x3 % 64 := ⟨_, rfl⟩
   have hlead : ∀ c, Ut.dc (s.data.toList.drop p) = some c -> c = v3 /\ (Ut.enc c).length = 4 := fun c hc => by have := lead hc; omega
   cases hg : isg (v3 : Int) with
   | false =>
    rw [miss (.inl hg) hlead]
    exact one4n s p w x0 x1 x2 x3 v1 v2 v3 (by omega) hx0 (show ((x0 : Nat) : Int) <= 255 by omega) hx1 (show ((x1 : Nat) : Int) <= 255 by omega) hx2 (show ((x2 : Nat) : Int) <= 255 by omega) hx3 (show ((x3 : Nat) : Int) <= 255 by omega) (decide_eq_true (by omega)) (show (v1 : Int) = 64 * ((x0 : Int) - 240) + (x1 : Int) % 64 by omega) (show (v1 : Int) <= 4194303 by omega) (show (v2 : Int) = 64 * (v1 : Int) + (x2 : Int) % 64 by omega) (show (v2 : Int) <= 4194303 by omega) (show (v3 : Int) = 64 * (v2 : Int) + (x3 : Int) % 64 by omega) (show (v3 : Int) <= 4194303 by omega) hi0 (show (p : Int) + 1 < s.size by omega) (show (p : Int) + 2 < s.size by omega) (show (p : Int) + 3 < s.size by omega) hz (u8w x0 c0) (u8w x1 c1) (u8w x2 c2) (u8w x3 c3) (decide_eq_false (by omega)) hg
   | true =>
    cases he : ((str (Ut.enc v3)).toList == (s.extract p (p + 4)).toList) with
    | true =>
     rw [hit hg he (by omega)]
     exact one4y s p w x0 x1 x2 x3 v1 v2 v3 (by omega) hx0 (show ((x0 : Nat) : Int) <= 255 by omega) hx1 (show ((x1 : Nat) : Int) <= 255 by omega) hx2 (show ((x2 : Nat) : Int) <= 255 by omega) hx3 (show ((x3 : Nat) : Int) <= 255 by omega) (decide_eq_true (by omega)) (show (v1 : Int) = 64 * ((x0 : Int) - 240) + (x1 : Int) % 64 by omega) (show (v1 : Int) <= 4194303 by omega) (show (v2 : Int) = 64 * (v1 : Int) + (x2 : Int) % 64 by omega) (show (v2 : Int) <= 4194303 by omega) (show (v3 : Int) = 64 * (v2 : Int) + (x3 : Int) % 64 by omega) (show (v3 : Int) <= 4194303 by omega) hi0 (show (p : Int) + 1 < s.size by omega) (show (p : Int) + 2 < s.size by omega) (show (p : Int) + 3 < s.size by omega) hz (u8w x0 c0) (u8w x1 c1) (u8w x2 c2) (u8w x3 c3) (decide_eq_false (by omega)) _ _ rfl rfl hg he
    | false =>
     rw [miss (.inr he) hlead]
     exact one4x s p w x0 x1 x2 x3 v1 v2 v3 (by omega) hx0 (show ((x0 : Nat) : Int) <= 255 by omega) hx1 (show ((x1 : Nat) : Int) <= 255 by omega) hx2 (show ((x2 : Nat) : Int) <= 255 by omega) hx3 (show ((x3 : Nat) : Int) <= 255 by omega) (decide_eq_true (by omega)) (show (v1 : Int) = 64 * ((x0 : Int) - 240) + (x1 : Int) % 64 by omega) (show (v1 : Int) <= 4194303 by omega) (show (v2 : Int) = 64 * (v1 : Int) + (x2 : Int) % 64 by omega) (show (v2 : Int) <= 4194303 by omega) (show (v3 : Int) = 64 * (v2 : Int) + (x3 : Int) % 64 by omega) (show (v3 : Int) <= 4194303 by omega) hi0 (show (p : Int) + 1 < s.size by omega) (show (p : Int) + 2 < s.size by omega) (show (p : Int) + 3 < s.size by omega) hz (u8w x0 c0) (u8w x1 c1) (u8w x2 c2) (u8w x3 c3) (decide_eq_false (by omega)) _ _ rfl rfl hg he
 by_cases h3 : 224 <= x0
 ·by_cases hl : s.size - p < 3
  ·rw [gone (fun c hc hle => by have := lead hc; omega)]
   exact one3s s p w x0 hp hx0 (by omega) (decide_eq_false (by omega)) (decide_eq_true (by omega)) hi0 hz (u8w x0 c0) (decide_eq_true (by omega))
  ·have h1i : p + 1 < s.size := by omega
   have k1 := g_at s p 1 h1i
   have c1 : (s[p + 1]'h1i).toNat <= 255 := by have := (s[p + 1]'h1i).toNat_lt; omega
   generalize hx1 : (s[p + 1]'h1i).toNat = x1 at *
   have h2i : p + 2 < s.size := by omega
   have k2 := g_at s p 2 h2i
   have c2 : (s[p + 2]'h2i).toNat <= 255 := by have := (s[p + 2]'h2i).toNat_lt; omega
   generalize hx2 : (s[p + 2]'h2i).toNat = x2 at *
   obtain ⟨v1, q1⟩ : ∃ v1, v1 = 64 * (x0 - 224) + x1 % 64 := ⟨_, rfl⟩
   obtain ⟨v2, q2⟩ : ∃ v2, v2 = 64 * v1 + x2 % 64 := ⟨_, rfl⟩
   have hlead : ∀ c, Ut.dc (s.data.toList.drop p) = some c -> c = v2 /\ (Ut.enc c).length = 3 := fun c hc => by have := lead hc; omega
   cases hg : isg (v2 : Int) with
   | false =>
    rw [miss (.inl hg) hlead]
    exact one3n s p w x0 x1 x2 v1 v2 (by omega) hx0 (show ((x0 : Nat) : Int) <= 255 by omega) hx1 (show ((x1 : Nat) : Int) <= 255 by omega) hx2 (show ((x2 : Nat) : Int) <= 255 by omega) (decide_eq_false (by omega)) (decide_eq_true (by omega)) (show (v1 : Int) = 64 * ((x0 : Int) - 224) + (x1 : Int) % 64 by omega) (show (v1 : Int) <= 4194303 by omega) (show (v2 : Int) = 64 * (v1 : Int) + (x2 : Int) % 64 by omega) (show (v2 : Int) <= 4194303 by omega) hi0 (show (p : Int) + 1 < s.size by omega) (show (p : Int) + 2 < s.size by omega) hz (u8w x0 c0) (u8w x1 c1) (u8w x2 c2) (decide_eq_false (by omega)) hg
   | true =>
    cases he : ((str (Ut.enc v2)).toList == (s.extract p (p + 3)).toList) with
    | true =>
     rw [hit hg he (by omega)]
     exact one3y s p w x0 x1 x2 v1 v2 (by omega) hx0 (show ((x0 : Nat) : Int) <= 255 by omega) hx1 (show ((x1 : Nat) : Int) <= 255 by omega) hx2 (show ((x2 : Nat) : Int) <= 255 by omega) (decide_eq_false (by omega)) (decide_eq_true (by omega)) (show (v1 : Int) = 64 * ((x0 : Int) - 224) + (x1 : Int) % 64 by omega) (show (v1 : Int) <= 4194303 by omega) (show (v2 : Int) = 64 * (v1 : Int) + (x2 : Int) % 64 by omega) (show (v2 : Int) <= 4194303 by omega) hi0 (show (p : Int) + 1 < s.size by omega) (show (p : Int) + 2 < s.size by omega) hz (u8w x0 c0) (u8w x1 c1) (u8w x2 c2) (decide_eq_false (by omega)) _ _ rfl rfl hg he
    | false =>
     rw [miss (.inr he) hlead]
     exact one3x s p w x0 x1 x2 v1 v2 (by omega) hx0 (show ((x0 : Nat) : Int) <= 255 by omega) hx1 (show ((x1 : Nat) : Int) <= 255 by omega) hx2 (show ((x2 : Nat) : Int) <= 255 by omega) (decide_eq_false (by omega)) (decide_eq_true (by omega)) (show (v1 : Int) = 64 * ((x0 : Int) - 224) + (x1 : Int) % 64 by omega) (show (v1 : Int) <= 4194303 by omega) (show (v2 : Int) = 64 * (v1 : Int) + (x2 : Int) % 64 by omega) (show (v2 : Int) <= 4194303 by omega) hi0 (show (p : Int) + 1 < s.size by omega) (show (p : Int) + 2 < s.size by omega) hz (u8w x0 c0) (u8w x1 c1) (u8w x2 c2) (decide_eq_false (by omega)) _ _ rfl rfl hg he
 by_cases h2 : 192 <= x0
 ·by_cases hl : s.size - p < 2
  ·rw [gone (fun c hc hle => by have := lead hc; omega)]
   exact one2s s p w x0 hp hx0 (by omega) (decide_eq_false (by omega)) (decide_eq_false (by omega)) (decide_eq_true (by omega)) hi0 hz (u8w x0 c0) (decide_eq_true (by omega))
  ·have h1i : p + 1 < s.size := by omega
   have k1 := g_at s p 1 h1i
   have c1 : (s[p + 1]'h1i).toNat <= 255 := by have := (s[p + 1]'h1i).toNat_lt; omega
   generalize hx1 : (s[p + 1]'h1i).toNat = x1 at *
   obtain ⟨v1, q1⟩ : ∃ v1, v1 = 64 * (x0 - 192) + x1 % 64 := ⟨_, rfl⟩
   have hlead : ∀ c, Ut.dc (s.data.toList.drop p) = some c -> c = v1 /\ (Ut.enc c).length = 2 := fun c hc => by have := lead hc; omega
   cases hg : isg (v1 : Int) with
   | false =>
    rw [miss (.inl hg) hlead]
    exact one2n s p w x0 x1 v1 (by omega) hx0 (show ((x0 : Nat) : Int) <= 255 by omega) hx1 (show ((x1 : Nat) : Int) <= 255 by omega) (decide_eq_false (by omega)) (decide_eq_false (by omega)) (decide_eq_true (by omega)) (show (v1 : Int) = 64 * ((x0 : Int) - 192) + (x1 : Int) % 64 by omega) (show (v1 : Int) <= 4194303 by omega) hi0 (show (p : Int) + 1 < s.size by omega) hz (u8w x0 c0) (u8w x1 c1) (decide_eq_false (by omega)) hg
   | true =>
    cases he : ((str (Ut.enc v1)).toList == (s.extract p (p + 2)).toList) with
    | true =>
     rw [hit hg he (by omega)]
     exact one2y s p w x0 x1 v1 (by omega) hx0 (show ((x0 : Nat) : Int) <= 255 by omega) hx1 (show ((x1 : Nat) : Int) <= 255 by omega) (decide_eq_false (by omega)) (decide_eq_false (by omega)) (decide_eq_true (by omega)) (show (v1 : Int) = 64 * ((x0 : Int) - 192) + (x1 : Int) % 64 by omega) (show (v1 : Int) <= 4194303 by omega) hi0 (show (p : Int) + 1 < s.size by omega) hz (u8w x0 c0) (u8w x1 c1) (decide_eq_false (by omega)) _ _ rfl rfl hg he
    | false =>
     rw [miss (.inr he) hlead]
     exact one2x s p w x0 x1 v1 (by omega) hx0 (show ((x0 : Nat) : Int) <= 255 by omega) hx1 (show ((x1 : Nat) : Int) <= 255 by omega) (decide_eq_false (by omega)) (decide_eq_false (by omega)) (decide_eq_true (by omega)) (show (v1 : Int) = 64 * ((x0 : Int) - 192) + (x1 : Int) % 64 by omega) (show (v1 : Int) <= 4194303 by omega) hi0 (show (p : Int) + 1 < s.size by omega) hz (u8w x0 c0) (u8w x1 c1) (decide_eq_false (by omega)) _ _ rfl rfl hg he
 have hlead : ∀ c, Ut.dc (s.data.toList.drop p) = some c -> c = x0 /\ (Ut.enc c).length = 1 := fun c hc => by have := lead hc; omega
 cases hg : isg (x0 : Int) with
 | false =>
  rw [miss (.inl hg) hlead]
  exact one1n s p w x0 (by omega) hx0 (show ((x0 : Nat) : Int) <= 255 by omega) (decide_eq_false (by omega)) (decide_eq_false (by omega)) (decide_eq_false (by omega)) hi0 hz (u8w x0 c0) (decide_eq_false (by omega)) hg
 | true =>
  cases he : ((str (Ut.enc x0)).toList == (s.extract p (p + 1)).toList) with
  | true =>
   rw [hit hg he (by omega)]
   exact one1y s p w x0 (by omega) hx0 (show ((x0 : Nat) : Int) <= 255 by omega) (decide_eq_false (by omega)) (decide_eq_false (by omega)) (decide_eq_false (by omega)) hi0 hz (u8w x0 c0) (decide_eq_false (by omega)) _ _ rfl rfl hg he
  | false =>
   rw [miss (.inr he) hlead]
   exact one1x s p w x0 (by omega) hx0 (show ((x0 : Nat) : Int) <= 255 by omega) (decide_eq_false (by omega)) (decide_eq_false (by omega)) (decide_eq_false (by omega)) hi0 hz (u8w x0 c0) (decide_eq_false (by omega)) _ _ rfl rfl hg he
end Go.Proofs.YtjhnblgamodekaaGreatDoor.U
/-
 What the document's own answers of layer 4 say: Bad, Right. Conditions: none.
-/
namespace Go.Proofs.YtjhnblgamodekaaGreatDoor.U
open Go Go.RowKit
theorem step {w w1 w2 : World} (h : Below w.heap.size w w1) (k : Below w1.heap.size w1 w2) : Below w.heap.size w w2 := h.trans (k.mono h.size)
def Left (s : ByteArray) (r : List UInt8) (p : Nat) (ds : List Nat) : Prop := s.data.toList.drop p = Ut.fl ds ++ r /\ (∀ c ∈ ds, Ut.sg c) /\ p <= s.size
theorem Left.next {s : ByteArray} {r : List UInt8} {p c : Nat} {ds : List Nat} (h : Left s r p (c :: ds)) : p < s.size /\ ov s p = (c, (Ut.enc c).length) /\ Left s r (p + (Ut.enc c).length) ds := by
 obtain ⟨h1, h2, h3⟩ := h
 have e : s.data.toList.drop p = Ut.enc c ++ (Ut.fl ds ++ r) := by rw [h1]; simp [Ut.fl]
 have hl : (Ut.enc c).length + (Ut.fl ds ++ r).length = s.size - p := by rw [<- List.length_append, <- e, len_drop]
 have hpos := Ut.enc_pos c
 refine ⟨by omega, ov_some (by rw [e]; exact Ut.dc_enc c (h2 c (by simp)) _), ?_, fun x hx => h2 x (by simp [hx]), by omega⟩
 rw [<- List.drop_drop, e]
 simp
theorem Left.stop {s : ByteArray} {r : List UInt8} {p : Nat} (h : Left s r p []) (hr : Ut.dc r = none) : (r = [] -> p = s.size) /\ (r ≠ [] -> p < s.size /\ ov s p = (0, 0)) := by
 obtain ⟨h1, _, h3⟩ := h
 have e : s.data.toList.drop p = r := h1
 have hl : r.length = s.size - p := by rw [<- e, len_drop]
 refine ⟨fun h => by rw [h] at hl; simp at hl; omega, fun h => ⟨?_, ov_none (by rw [e]; exact hr)⟩⟩
 have := List.length_pos_iff.2 h
 omega
theorem Left.start {s : ByteArray} {cs : List Nat} {r : List UInt8} (h : Ut.Is s.data.toList cs r) : Left s r 0 cs := ⟨by rw [List.drop_zero]; exact h.eq, h.all, Nat.zero_le _⟩
theorem refBad_any (s : ByteArray) (w : World) (hs : s.size <= 1000) :
  Calls Tryz.prog 141 #[.string s] w fun e w' => e = .returned (.int .i64 (pv (bad s))) /\ Below w.heap.size w w' := by
 obtain ⟨cs, r, hi⟩ := Ut.is_ex s.data.toList
 have hb := bad_is hi
 have hstart := Left.start hi
 have hr := hi.none
 clear hi
 have hz : (s.size : Int) <= 1000 := by omega
 go_enter Tryz.func141, Tryz.ntmps141
 go_wp2
 go_loopw [3] (fun x wr => ∃ (p : Nat) (ds : List Nat), x = .int .i64 (p : Int) /\ Left s r p ds /\ p + (Ut.fl ds).length = (Ut.fl cs).length /\ Below w.heap.size w wr)
  (fun x _ => s.size - (intOf x).toNat)
 case atStart => exact ⟨0, cs, rfl, hstart, by omega, Below.refl _ _⟩
 case round =>
  obtain ⟨p, ds, rfl, hL, hlen, hbl⟩ := hrel
  clear hstart
  cases ds with
  | cons c ds =>
   obtain ⟨h1, h2, h3⟩ := hL.next
   have H := one_any s p wr h1 hs
   rw [h2] at H
   have H1 := H_ H
   have hpos := Ut.enc_pos c
   have hle := h3.2.2
   have h1' : (p : Int) < s.size := by omega
   have HL := H_ h3
   have Hlen := H_ hlen
   have HB := H_ hbl
   generalize hk : (Ut.enc c).length = k at *
   have hk0 : ((k : Int) == 0) = false := beq_eq_false_iff_ne.2 (by omega)
   have hk1 : (p : Int) + k <= 1000 := by omega
   have Hk := H_ hk
   have Hpos := H_ hpos
   have Hle := H_ hle
   clear H h2 h3 hL hlen hbl hk hpos hle hb hr
   go_wp2_with fail
   refine (un H1).mono ?_
   rintro e w1 ⟨rfl, hb1⟩
   have HB1 := H_ hb1
   clear hb1
   go_wp2
   go_roundw
   case rel =>
    refine ⟨p + k, ds, by simp, un HL, ?_, step (un HB) (un HB1)⟩
    have h1 := un Hlen
    have h2 := un Hk
    simp only [Ut.fl, List.length_append] at h1
    omega
   case measure =>
    have := un Hpos
    have := un Hle
    simp [intOf]
    omega
  | nil =>
   obtain ⟨s1, s2⟩ := hL.stop hr
   have hp : p = (Ut.fl cs).length := by simpa [Ut.fl] using hlen
   by_cases h0 : r = []
   ·have hps := s1 h0
    have hge : ¬ (p : Int) < s.size := by omega
    have HB := H_ hbl
    rw [if_pos h0] at hb
    have HBD := H_ hb
    clear hL s1 s2 hlen hb hr hbl h0 hp hps
    go_wp2
    go_ret
    refine ⟨?_, un HB⟩
    rw [un HBD]
    rfl
   ·obtain ⟨h1, h2⟩ := s2 h0
    have H := one_any s p wr h1 hs
    rw [h2] at H
    have H1 := H_ H
    have h1' : (p : Int) < s.size := by omega
    have HB := H_ hbl
    rw [if_neg h0, <- hp] at hb
    have HBD := H_ hb
    clear hL s1 s2 hlen hb hr hbl h0 hp H h2
    go_wp2_with fail
    refine (un H1).mono ?_
    rintro e w1 ⟨rfl, hb1⟩
    have HB1 := H_ hb1
    clear hb1
    go_wp2
    go_ret
    refine ⟨?_, step (un HB) (un HB1)⟩
    rw [un HBD]
    rfl
theorem refRight_any (s : ByteArray) (w : World) (hs : s.size <= 1000) :
  Calls Tryz.prog 116 #[.string s] w fun e w' => e = .returned (.bool (bad s).isNone) /\ Below w.heap.size w w' := by
 have H := H_ (refBad_any s w hs)
 generalize bad s = o at *
 cases o with
 | none =>
  have H' : Hid (Calls Tryz.prog 141 #[.string s] w fun e w' => e = .returned (.int .i64 (-1)) /\ Below w.heap.size w w') := H
  clear H
  go_enter Tryz.func116, Tryz.ntmps116
  go_wp2_with fail
  refine (un H').mono ?_
  rintro e w1 ⟨rfl, hb1⟩
  have HB1 := H_ hb1
  clear hb1
  go_wp2
  go_ret
  exact ⟨rfl, un HB1⟩
 | some p =>
  have H' : Hid (Calls Tryz.prog 141 #[.string s] w fun e w' => e = .returned (.int .i64 (p : Int)) /\ Below w.heap.size w w') := H
  have hn : ¬ (p : Int) < 0 := by omega
  clear H
  go_enter Tryz.func116, Tryz.ntmps116
  go_wp2_with fail
  refine (un H').mono ?_
  rintro e w1 ⟨rfl, hb1⟩
  have HB1 := H_ hb1
  clear hb1
  go_wp2
  go_ret
  exact ⟨rfl, un HB1⟩
end Go.Proofs.YtjhnblgamodekaaGreatDoor.U
/-
 What the document's own value, Digit and group answer. Conditions: none.
-/
namespace Go.Proofs.YtjhnblgamodekaaGreatDoor.C
open Go Go.RowKit Cd
def dg (c : UInt8) : Int := match nh c with | some n => (n : Int) | none => -1
theorem digit_any (c : UInt8) (w : World) :
  Calls Tryz.prog 142 #[.int .u8 c.toNat] w fun e w' => e = .returned (.int .i64 (dg c)) /\ w' = w := by
 have hc := c.toNat_lt
 unfold dg nh
 by_cases h1 : 48 <= c.toNat /\ c.toNat <= 57
 ·rw [if_pos h1]
  have a1 : (48 : Int) <= c.toNat := by omega
  have a2 : (c.toNat : Int) <= 57 := by omega
  dsimp only
  rw [show ((c.toNat - 48 : Nat) : Int) = (c.toNat : Int) - 48 by omega]
  clear h1
  go_enter Tryz.func142, Tryz.ntmps142
  go_wp2
  go_ret
  exact ⟨rfl, rfl⟩
 rw [if_neg h1]
 by_cases h2 : 97 <= c.toNat /\ c.toNat <= 102
 ·rw [if_pos h2]
  have a0 : (48 : Int) <= c.toNat := by omega
  have a1 : ¬ (c.toNat : Int) <= 57 := by omega
  have a2 : (97 : Int) <= c.toNat := by omega
  have a3 : (c.toNat : Int) <= 102 := by omega
  dsimp only
  rw [show ((c.toNat - 87 : Nat) : Int) = (c.toNat : Int) - 97 + 10 by omega]
  clear h1 h2
  go_enter Tryz.func142, Tryz.ntmps142
  go_wp2
  go_ret
  exact ⟨rfl, rfl⟩
 rw [if_neg h2]
 by_cases h3 : 65 <= c.toNat /\ c.toNat <= 70
 ·rw [if_pos h3]
  have a0 : (48 : Int) <= c.toNat := by omega
  have a1 : ¬ (c.toNat : Int) <= 57 := by omega
  have a2 : ¬ (97 : Int) <= c.toNat := by omega
  have a3 : (65 : Int) <= c.toNat := by omega
  have a4 : (c.toNat : Int) <= 70 := by omega
  dsimp only
  rw [show ((c.toNat - 55 : Nat) : Int) = (c.toNat : Int) - 65 + 10 by omega]
  clear h1 h2 h3
  go_enter Tryz.func142, Tryz.ntmps142
  go_wp2
  go_ret
  exact ⟨rfl, rfl⟩
 rw [if_neg h3]
 dsimp only
 by_cases b1 : 48 <= c.toNat
 ·have a0 : (48 : Int) <= c.toNat := by omega
  have a1 : ¬ (c.toNat : Int) <= 57 := by omega
  by_cases b2 : 97 <= c.toNat
  ·have a2 : (97 : Int) <= c.toNat := by omega
   have a3 : ¬ (c.toNat : Int) <= 102 := by omega
   have a4 : (65 : Int) <= c.toNat := by omega
   have a5 : ¬ (c.toNat : Int) <= 70 := by omega
   clear h1 h2 h3 b1 b2
   go_enter Tryz.func142, Tryz.ntmps142
   go_wp2
   go_ret
   exact ⟨rfl, rfl⟩
  ·have a2 : ¬ (97 : Int) <= c.toNat := by omega
   by_cases b3 : 65 <= c.toNat
   ·have a4 : (65 : Int) <= c.toNat := by omega
    have a5 : ¬ (c.toNat : Int) <= 70 := by omega
    clear h1 h2 h3 b1 b2 b3
    go_enter Tryz.func142, Tryz.ntmps142
    go_wp2
    go_ret
    exact ⟨rfl, rfl⟩
   ·have a4 : ¬ (65 : Int) <= c.toNat := by omega
    clear h1 h2 h3 b1 b2 b3
    go_enter Tryz.func142, Tryz.ntmps142
    go_wp2
    go_ret
    exact ⟨rfl, rfl⟩
 ·have a0 : ¬ (48 : Int) <= c.toNat := by omega
  have a2 : ¬ (97 : Int) <= c.toNat := by omega
  have a4 : ¬ (65 : Int) <= c.toNat := by omega
  clear h1 h2 h3 b1
  go_enter Tryz.func142, Tryz.ntmps142
  go_wp2
  go_ret
  exact ⟨rfl, rfl⟩
end Go.Proofs.YtjhnblgamodekaaGreatDoor.C
/-
 What the document's own Base and Hex answer. Conditions: none.
-/
namespace Go.Proofs.YtjhnblgamodekaaGreatDoor.C
open Go Go.RowKit Cd
attribute [local go_sem] Oper.semAt_some
theorem data_app (a b : ByteArray) : (a ++ b).data.toList = a.data.toList ++ b.data.toList := by simp [ByteArray.data_append]
theorem eq_of_data {a : ByteArray} {l : List UInt8} (h : a.data.toList = l) : a = ⟨l.toArray⟩ := ByteArray.ext (Array.ext' h)
theorem i64w (n : Int) (h0 : 0 <= n) (h : n < 1000000000000) : IntKind.i64.wrap n = n := by
 obtain ⟨m, rfl⟩ := Int.eq_ofNat_of_zero_le h0
 exact wrap_i64 m (by omega)
theorem slice_dig (k : Nat) (hk : k < 16) (wx : World) : (Instr.slice 9 (.string digitsS) (some (.int .i64 (k : Int))) (some (.int .i64 ((k : Int) + 1))) none).run Tryz.prog wx = .ok (.string ⟨#[dx k]⟩) wx := by
 have := run_slice_string (P := Tryz.prog) (w := wx) 9 digitsS .i64 .i64 (k : Int) ((k : Int) + 1) Tryz.underlying9 (by omega) (by omega) (by show (k : Int) + 1 <= 16; omega)
 rw [show ((k : Int)).toNat = k by omega, show ((k : Int) + 1).toNat = k + 1 by omega] at this
 have e : ∀ i : Fin 16, (digitsS.extract i.val (i.val + 1)).data.toList = [dx i.val] := by decide +kernel
 rw [this, show digitsS.extract k (k + 1) = ⟨#[dx k]⟩ from ByteArray.ext (Array.ext' (e ⟨k, hk⟩))]
theorem at_drop {s : ByteArray} {p : Nat} (h : p < s.size) : s.data.toList.drop p = s[p] :: s.data.toList.drop (p + 1) := by
 have hl : p < s.data.toList.length := by simpa using h
 rw [List.drop_eq_getElem_cons hl]
 rfl
theorem refHex_any (s : ByteArray) (w : World) (hs : s.size <= 1000) :
  Calls Tryz.prog 72 #[.string s] w fun e w' => e = .returned (.string (pri kH s)) /\ Below w.heap.size w w' := by
 have hmx : Tryz.prog.follows .mixedOrders = true := by kernel_rfl
 go_enter Tryz.func72, Tryz.ntmps72
 go_wp2
 go_loopw [4, 5] (fun sl ix wr => ∃ (p : Nat) (o : ByteArray), p <= s.size /\ sl = .string o /\ ix = .int .i64 (p : Int) /\ o.size = 2 * p /\ o.data.toList ++ enc kH (s.data.toList.drop p) = enc kH s.data.toList /\ Below w.heap.size w wr)
  (fun _ ix _ => s.size - (intOf ix).toNat)
 case atStart => exact ⟨0, ⟨#[]⟩, by omega, rfl, rfl, by decide, rfl, Below.refl _ _⟩
 case round =>
  obtain ⟨p, o, hp, rfl, rfl, ho, hE, hB⟩ := hrel
  have HB := H_ hB
  clear hB
  by_cases hlt : p < s.size
  ·obtain ⟨c, hc⟩ : ∃ c, s[p] = c := ⟨_, rfl⟩
   have hcl := c.toNat_lt
   rw [at_drop hlt, hc, enc_H1, gr_H1, <- List.append_assoc] at hE
   have s1 := fun wx => slice_dig (c.toNat / 16) (by omega) wx
   have s2 := fun wx => slice_dig (c.toNat % 16) (by omega) wx
   rw [show ((c.toNat / 16 : Nat) : Int) = (c.toNat : Int) / 16 by omega] at s1
   rw [show ((c.toNat % 16 : Nat) : Int) = (c.toNat : Int) % 16 by omega] at s2
   have hE2 : (o ++ ⟨#[dx (c.toNat / 16)]⟩ ++ ⟨#[dx (c.toNat % 16)]⟩).data.toList ++ enc kH (s.data.toList.drop (p + 1)) = enc kH s.data.toList := by
    rw [data_app, data_app, List.append_assoc o.data.toList]
    exact hE
   have hsz : (o ++ ⟨#[dx (c.toNat / 16)]⟩ ++ ⟨#[dx (c.toNat % 16)]⟩).size = o.size + 1 + 1 := by rw [ByteArray.size_append, ByteArray.size_append]; rfl
   have HE := H_ hE2
   have z1 : ((⟨#[dx (c.toNat / 16)]⟩ : ByteArray).size : Int) = 1 := rfl
   have z2 : ((⟨#[dx (c.toNat % 16)]⟩ : ByteArray).size : Int) = 1 := rfl
   generalize (⟨#[dx (c.toNat / 16)]⟩ : ByteArray) = x at *
   generalize (⟨#[dx (c.toNat % 16)]⟩ : ByteArray) = y at *
   have ho' : (o.size : Int) <= 2000 := by omega
   have hp' : (p : Int) <= 1000 := by omega
   have hlt' : (p : Int) < s.size := by omega
   have zz : ((o ++ x).size : Int) <= 2001 := by rw [ByteArray.size_append]; omega
   have v1 : IntKind.i64.wrap ((c.toNat : Int) / 16 + 1) = (c.toNat : Int) / 16 + 1 := i64w _ (by omega) (by omega)
   have v2 : IntKind.i64.wrap ((c.toNat : Int) % 16 + 1) = (c.toNat : Int) % 16 + 1 := i64w _ (by omega) (by omega)
   have Hsz := H_ hsz
   have Ho := H_ ho
   clear hE hE2 hsz ho
   go_wp2
   have k1 : ¬ 9223372036854775807 < o.size + x.size := by omega
   have k2 : ¬ 9223372036854775807 < o.size + x.size + y.size := by omega
   refine region_tail_n 13 hmx (by kernel_rfl) ?_
   simp only [List.take_succ_cons, List.take_zero, List.drop_succ_cons, List.drop_zero]
   refine wst_do (by kernel_rfl) (fun K hK => ?_)
   go_simp
   refine hK.out _ ?_
   clear hK K
   refine wst_do (by kernel_rfl) (fun K hK => ?_)
   go_simp
   refine hK.out _ ?_
   clear hK K
   refine wst_do (by kernel_rfl) (fun K hK => ?_)
   go_simp
   refine hK.out _ ?_
   clear hK K
   refine wst_do (by kernel_rfl) (fun K hK => ?_)
   go_simp
   refine hK.out _ ?_
   clear hK K
   refine wst_do (by kernel_rfl) (fun K hK => ?_)
   go_simp
   refine hK.out _ ?_
   clear hK K
   refine wst_do (by kernel_rfl) (fun K hK => ?_)
   go_simp
   refine hK.out _ ?_
   clear hK K
   refine wst_do (by kernel_rfl) (fun K hK => ?_)
   go_simp
   refine hK.out _ ?_
   clear hK K
   refine wst_do (by kernel_rfl) (fun K hK => ?_)
   go_simp
   refine hK.out _ ?_
   clear hK K
   refine wst_do (by kernel_rfl) (fun K hK => ?_)
   go_simp
   refine hK.out _ ?_
   clear hK K
   refine wst_do (by kernel_rfl) (fun K hK => ?_)
   go_simp
   refine hK.out _ ?_
   clear hK K
   refine wst_do (by kernel_rfl) (fun K hK => ?_)
   go_simp
   refine hK.out _ ?_
   clear hK K
   refine wst_do (by kernel_rfl) (fun K hK => ?_)
   go_simp
   refine hK.out _ ?_
   clear hK K
   refine wst_do (by kernel_rfl) (fun K hK => ?_)
   go_simp
   refine hK.out _ ?_
   clear hK K
   clear k1 k2
   refine wst_nil ?_
   go_wp2
   simp only [only]
   go_wp2
   go_roundw
   case rel =>
    exact ⟨p + 1, _, by omega, rfl, by simp, by have := un Hsz; have := un Ho; omega, un HE, (un HB).drew⟩
   case measure => simp [intOf]; omega
  ·have hge : ¬ (p : Int) < s.size := by omega
   rw [drop_ne.2 hlt, enc_nil, List.append_nil] at hE
   have HE := H_ (eq_of_data hE)
   clear hE
   go_wp2
   go_ret
   exact ⟨by rw [un HE]; rfl, un HB⟩
end Go.Proofs.YtjhnblgamodekaaGreatDoor.C
