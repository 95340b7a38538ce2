/-
  latinerlaw01.SizeOrder returns true at every two numbers: a greater length has no fewer bytes. Conditions: the package-level variables hold what the program's text lays (the card ties them).
-/
import Derived.Test.YtahpaoajhmhgjaaDoorShown
import Derived.Test.YtahpaoajhmhgjaaDoorLaid
namespace Go.Proofs.YtahpaoajhmhgjaaDoor.order
open Go.ChangeShapes Go.WideShapes Go.ChangeAt Go.ChangeMaps Go.RowKit

theorem sz_pos (n : Nat) (h : n ≤ 16777215) : 1 ≤ sz n ∧ sz n ≤ 4 := by
  unfold sz Sz.wd
  repeat (split <;> try omega)
theorem sz_mono (n m : Nat) (h : n ≤ m) (hm : m ≤ 16777215) : sz n ≤ sz m := by
  unfold sz Sz.wd
  repeat (split <;> try omega)

set_option maxRecDepth 100000 in
set_option maxHeartbeats 1000000 in
/-- both are lengths. -/
theorem walk_both (n m : Int) (aS aF : Addr) (w : World) (g : Glob aS aF w) (hn : 0 ≤ n ∧ n ≤ 16777215) (hm : 0 ≤ m ∧ m ≤ 16777215) :
    Calls Tryd.prog 6 #[.int .i64 n, .int .i64 m] w fun e w' => e = .returned (.bool true) ∧ Below w.heap.size w w' := by
  have e1 := shown_true aS aF w g
  have e2 : Hid (∀ w1, Below w.heap.size w w1 → Calls Tryd.prog 15 #[.int .i64 n] w1 fun e w' => e = .returned (.tuple #[.int .i64 (sz n.toNat), .int .i64 0]) ∧ Below w.heap.size w w') := fun w1 hb =>
    (size_ok n w1 hn.1 hn.2).mono fun e w' ⟨he, hb'⟩ => ⟨he, hb.trans (hb'.mono hb.size)⟩
  have e3 : Hid (∀ w1, Below w.heap.size w w1 → Calls Tryd.prog 15 #[.int .i64 m] w1 fun e w' => e = .returned (.tuple #[.int .i64 (sz m.toNat), .int .i64 0]) ∧ Below w.heap.size w w') := fun w1 hb =>
    (size_ok m w1 hm.1 hm.2).mono fun e w' ⟨he, hb'⟩ => ⟨he, hb.trans (hb'.mono hb.size)⟩
  obtain ⟨p1, p2⟩ := sz_pos n.toNat (by omega)
  have hmo : n ≤ m → sz n.toNat ≤ sz m.toNat := fun h => sz_mono _ _ (by omega) (by omega)
  generalize sz n.toNat = x at *
  generalize sz m.toNat = y at *
  clear g hn hm
  by_cases h : n ≤ m
  · have h2 := hmo h
    clear hmo
    go_enter Tryd.func6, Tryd.ntmps6
    go_wp2_with fail
    refine e1.mono ?_
    rintro e w1 ⟨rfl, hb1⟩
    go_wp2_with fail
    refine (e2.out _ hb1).mono ?_
    rintro e w2 ⟨rfl, hb2⟩
    go_wp2_with fail
    refine (e3.out _ hb2).mono ?_
    rintro e w3 ⟨rfl, hb3⟩
    go_wp2
    go_ret
    exact ⟨by simp, hb3⟩
  · clear hmo
    go_enter Tryd.func6, Tryd.ntmps6
    go_wp2_with fail
    refine e1.mono ?_
    rintro e w1 ⟨rfl, hb1⟩
    go_wp2_with fail
    refine (e2.out _ hb1).mono ?_
    rintro e w2 ⟨rfl, hb2⟩
    go_wp2_with fail
    refine (e3.out _ hb2).mono ?_
    rintro e w3 ⟨rfl, hb3⟩
    go_wp2
    go_ret
    exact ⟨by simp, hb3⟩

/-- what Size answers, whatever the number. -/
def ans (n : Int) : Int × Int := if 0 ≤ n ∧ n ≤ 16777215 then (sz n.toNat, 0) else (0, 12)
theorem size_any (n : Int) (aS aF : Addr) (w : World) (g : Glob aS aF w) :
    Calls Tryd.prog 15 #[.int .i64 n] w fun e w' => e = .returned (.tuple #[.int .i64 (ans n).1, .int .i64 (ans n).2]) ∧ Below w.heap.size w w' := by
  unfold ans
  by_cases h : 0 ≤ n ∧ n ≤ 16777215
  · rw [if_pos h]; exact size_ok n w h.1 h.2
  · rw [if_neg h]; exact size_no n aS aF w g h

set_option maxRecDepth 100000 in
set_option maxHeartbeats 1000000 in
/-- one of them is none. -/
theorem walk_none (n m x y E1 E2 : Int) (aS aF : Addr) (w : World) (g : Glob aS aF w) (hn : ans n = (x, E1)) (hm : ans m = (y, E2)) (h : E1 ≠ 0 ∨ E2 ≠ 0) (hx : E1 ≠ 0 → x = 0) (hy : E2 ≠ 0 → y = 0) :
    Calls Tryd.prog 6 #[.int .i64 n, .int .i64 m] w fun e w' => e = .returned (.bool true) ∧ Below w.heap.size w w' := by
  have e1 := shown_true aS aF w g
  have e2 : Hid (∀ w1, Below w.heap.size w w1 → Calls Tryd.prog 15 #[.int .i64 n] w1 fun e w' => e = .returned (.tuple #[.int .i64 x, .int .i64 E1]) ∧ Below w.heap.size w w') := fun w1 hb => by
    have := size_any n aS aF w1 (g.below (Nat.le_refl _) hb)
    rw [hn] at this
    exact this.mono fun e w' ⟨he, hb'⟩ => ⟨he, hb.trans (hb'.mono hb.size)⟩
  have e3 : Hid (∀ w1, Below w.heap.size w w1 → Calls Tryd.prog 15 #[.int .i64 m] w1 fun e w' => e = .returned (.tuple #[.int .i64 y, .int .i64 E2]) ∧ Below w.heap.size w w') := fun w1 hb => by
    have := size_any m aS aF w1 (g.below (Nat.le_refl _) hb)
    rw [hm] at this
    exact this.mono fun e w' ⟨he, hb'⟩ => ⟨he, hb.trans (hb'.mono hb.size)⟩
  clear g hn hm
  by_cases h1 : E1 = 0
  · subst h1
    have h2 : E2 ≠ 0 := by rcases h with h | h; exact absurd rfl h; exact h
    obtain rfl := hy h2
    have t1 : (E2 == 0) = false := beq_eq_false_iff_ne.2 h2
    have t2 : (E2 != 0) = true := by simpa using h2
    clear h hx hy h2
    go_enter Tryd.func6, Tryd.ntmps6
    go_wp2_with fail
    refine e1.mono ?_
    rintro e w1 ⟨rfl, hb1⟩
    go_wp2_with fail
    refine (e2.out _ hb1).mono ?_
    rintro e w2 ⟨rfl, hb2⟩
    go_wp2_with fail
    refine (e3.out _ hb2).mono ?_
    rintro e w3 ⟨rfl, hb3⟩
    go_wp2
    go_ret
    exact ⟨rfl, hb3⟩
  · obtain rfl := hx h1
    have t1 : (E1 == 0) = false := beq_eq_false_iff_ne.2 h1
    have t2 : (E1 != 0) = true := by simpa using h1
    clear h hx h1
    by_cases h2 : E2 = 0
    · subst h2
      clear hy
      go_enter Tryd.func6, Tryd.ntmps6
      go_wp2_with fail
      refine e1.mono ?_
      rintro e w1 ⟨rfl, hb1⟩
      go_wp2_with fail
      refine (e2.out _ hb1).mono ?_
      rintro e w2 ⟨rfl, hb2⟩
      go_wp2_with fail
      refine (e3.out _ hb2).mono ?_
      rintro e w3 ⟨rfl, hb3⟩
      go_wp2
      go_ret
      exact ⟨rfl, hb3⟩
    · obtain rfl := hy h2
      have t3 : (E2 == 0) = false := beq_eq_false_iff_ne.2 h2
      clear hy h2
      go_enter Tryd.func6, Tryd.ntmps6
      go_wp2_with fail
      refine e1.mono ?_
      rintro e w1 ⟨rfl, hb1⟩
      go_wp2_with fail
      refine (e2.out _ hb1).mono ?_
      rintro e w2 ⟨rfl, hb2⟩
      go_wp2_with fail
      refine (e3.out _ hb2).mono ?_
      rintro e w3 ⟨rfl, hb3⟩
      go_wp2
      go_ret
      exact ⟨rfl, hb3⟩

theorem ans_no (n : Int) (h : ¬ (0 ≤ n ∧ n ≤ 16777215)) : (ans n).2 ≠ 0 := by unfold ans; rw [if_neg h]; decide
theorem walk (n m : Int) (aS aF : Addr) (w : World) (g : Glob aS aF w) :
    Calls Tryd.prog 6 #[.int .i64 n, .int .i64 m] w fun e w' => e = .returned (.bool true) ∧ Below w.heap.size w w' := by
  have zero : ∀ k, (ans k).2 ≠ 0 → (ans k).1 = 0 := fun k => by
    unfold ans; split <;> simp
  by_cases hn : 0 ≤ n ∧ n ≤ 16777215
  · by_cases hm : 0 ≤ m ∧ m ≤ 16777215
    · exact walk_both n m aS aF w g hn hm
    · exact walk_none n m _ _ _ _ aS aF w g rfl rfl (.inr (ans_no m hm)) (zero n) (zero m)
  · exact walk_none n m _ _ _ _ aS aF w g rfl rfl (.inl (ans_no n hn)) (zero n) (zero m)

set_option maxRecDepth 100000 in
/-- What the walk gives, for every argument. -/
theorem contract (H : Type) (enc : TypeId × Value → H) (W : World) (base : Nat) (args : Array Value) (ds gs : List (DataW H)) (before : List MemPlace)
    (hval : ∀ (j : Nat) t v, Tryd.f6.params[j]? = some t → args[j]? = some v → Value.okWide Tryd.prog W .any base t v)
    (hW : DataW.Whole enc Tryd.prog Tryd.f6.params.toList Rows.sizeOrderSpec.vars false W args.toList ds gs before) (hL : laidMetH Tryd.prog Rows.sizeOrderRow.laid W) :
    Calls Tryd.prog 6 args W fun e W' => ∃ v, e = .returned v ∧ Rows.sizeOrderSpec.post enc Tryd.prog Tryd.f6 false true false false W args v W' := by
  obtain ⟨aS, aF, g⟩ := glob_of_laid hL
  have hW' := hW
  obtain ⟨p, q, hA0, hV, rfl, hfz, hnd⟩ := hW
  have hA : DataW.TrodAll enc Tryd.prog W 0 (fun _ => true) true Tryd.f6.params.toList args.toList ds p := hA0
  rw [Tryd.params6] at hA hval
  obtain ⟨v0, vs0, d0, ds0, p0, q0, hargs0, rfl, rfl, h0, r0⟩ := trodAll_cons hA
  obtain ⟨v1, vs1, d1, ds1, p1, q1, hargs1, rfl, rfl, h1, r1⟩ := trodAll_cons r0
  obtain ⟨rfl, rfl, rfl⟩ := trodAll_nil r1
  obtain rfl : args = #[v0, v1] := by cases args; simp_all
  obtain ⟨rfl, rfl⟩ := trodVars_none hV
  obtain ⟨x0, rfl, rfl, rfl, wf0⟩ := open_int Tryd.underlying3 (hval 0 3 v0 rfl rfl) h0
  obtain ⟨x1, rfl, rfl, rfl, wf1⟩ := open_int Tryd.underlying3 (hval 1 3 v1 rfl rfl) h1
  clear hA0
  simp only [List.append_nil] at hW'
  refine (walk x0 x1 aS aF W g).mono fun e W' ⟨he, hg⟩ => ?_
  subst he
  refine ⟨_, rfl, _, _, _, [], [], [], hW', ?_, ?_, ?_, hg.frame _, fun h => by cases h⟩
  · exact trodAll_cons_mk (shut_bool Tryd.underlying4 _) trodAll_mk0
  · exact trodAll_cons_mk (shut_int Tryd.underlying3 wf0) (trodAll_cons_mk (shut_int Tryd.underlying3 wf1) (trodAll_mk0))
  · rfl

theorem reads (os : Os) {H : Type} (enc : TypeId × Value → H) : ∃ places, DataW.whole enc Tryd.prog (({ World.holding Tryd.prog os ⟨#[.cells #[.string shortS] 117, .cells #[.string formS] 117], #[], []⟩ with heap := (((World.holding Tryd.prog os ⟨#[.cells #[.string shortS] 117, .cells #[.string formS] 117], #[], []⟩).heap.modify 1 fun | .cells _ t frozen => .cells #[.iface 96 (.pointer (some ⟨(World.holding Tryd.prog default ⟨#[], #[], []⟩).heap.size, 0, none⟩))] t frozen | o => o).modify 0 fun | .cells _ t frozen => .cells #[.iface 96 (.pointer (some ⟨(World.holding Tryd.prog default ⟨#[], #[], []⟩).heap.size + 1, 0, none⟩))] t frozen | o => o).modify 2 fun | .cells _ t frozen => .cells #[.iface 81 (.agg #[.pointer (some ⟨3, 38, none⟩)])] t frozen | o => o } : World).forCall (fun _ _ => 0) ⟨#[], #[.int .i64 0, .int .i64 0], []⟩).memory Tryd.f6.params.toList Rows.sizeOrderSpec.vars false #[Value.int .i64 0, Value.int .i64 0].toList 8 = some ([.lit (.int .i64 0), .lit (.int .i64 0)], [], places) :=
  ⟨[], by kernel_rfl⟩

set_option maxRecDepth 100000 in
theorem lifted (os : Os) (started : os.Started) (H : Type) (enc : TypeId × Value → H) (F : Stop.Interp) :
    ReturnsInHanded {} Tryd.checked os 6 .any ((OpenSpec.ofChange Rows.sizeOrderSpec).preRow enc Tryd.prog Tryd.f6 Rows.sizeOrderRow.domain false Rows.sizeOrderRow.laid) (((OpenSpec.ofChange Rows.sizeOrderSpec).at F).post enc Tryd.prog Tryd.f6 false true false false) := by
  obtain ⟨places, hx⟩ := reads os enc
  refine returnsInHanded_of_row (C := Tryd.checked) (s := OpenSpec.ofChange Rows.sizeOrderSpec) own started (by kernel_rfl) Tryd.func6
    (witness_row_at (enc := enc) (C := Tryd.checked) false ({ World.holding Tryd.prog os ⟨#[.cells #[.string shortS] 117, .cells #[.string formS] 117], #[], []⟩ with heap := (((World.holding Tryd.prog os ⟨#[.cells #[.string shortS] 117, .cells #[.string formS] 117], #[], []⟩).heap.modify 1 fun | .cells _ t frozen => .cells #[.iface 96 (.pointer (some ⟨(World.holding Tryd.prog default ⟨#[], #[], []⟩).heap.size, 0, none⟩))] t frozen | o => o).modify 0 fun | .cells _ t frozen => .cells #[.iface 96 (.pointer (some ⟨(World.holding Tryd.prog default ⟨#[], #[], []⟩).heap.size + 1, 0, none⟩))] t frozen | o => o).modify 2 fun | .cells _ t frozen => .cells #[.iface 81 (.agg #[.pointer (some ⟨3, 38, none⟩)])] t frozen | o => o } : World) #[.int .i64 0, .int .i64 0] rfl (by kernel_rfl) (by kernel_rfl) (by kernel_rfl)
      (OpenSpec.preRow_of_cond 8 hx (by kernel_rfl) (fun k hk => by cases hk) (by kernel_rfl) (laid_met os _))) ?_
  intro W base args ds gs before hval hW _ _ _ hL _ _
  exact contract H enc W base args ds gs before hval hW hL

theorem said : Rows.SizeOrderSaid :=
  OpenClaim.holds_of_cond 6 Tryd.f6 rfl rfl rfl rfl rfl rfl rfl ⟨rfl, rfl, rfl, rfl, rfl⟩ rfl rfl rfl rfl rfl (by kernel_rfl) Tryd.func6 (by kernel_rfl)
    (of_decide_eq_true (by kernel_rfl)) (by unfold Func.isWrapper; first | (rw [if_pos (by decide +kernel)]; kernel_rfl) | (rw [if_neg (by decide +kernel)]; exact ⟨rfl, rfl⟩))
    (fun os started H enc _ F => by rw [OpenClaim.pre_eq_preRow]; exact lifted os started H enc F)

theorem plain (f : FuncId) (fn : Func) (hf : Tryd.pinned.checked.prog.funcNamed "latiner/latinerlaw01.SizeOrder" = some f) (hfn : Tryd.pinned.checked.prog.funcs[f]? = some fn) :
    true = Tryd.pinned.checked.prog.looks [] ∧ ∀ (j : Nat) t, fn.params[j]? = some t → Tryd.pinned.checked.prog.wantsStandIn t = false := by
  obtain rfl : f = 6 := Option.some.inj ((show Tryd.prog.funcNamed "latiner/latinerlaw01.SizeOrder" = some 6 by kernel_rfl).symm.trans hf) |>.symm
  obtain rfl : fn = Tryd.f6 := (Option.some.inj (Tryd.func6.symm.trans hfn)).symm
  refine ⟨by kernel_rfl, fun j t ht => ?_⟩
  rw [Tryd.params6] at ht
  have hm : t = 3 := by have := Array.mem_of_getElem? ht; simp at this; first | exact this | omega | (rcases this with h | h | h <;> simp [h]) | (rcases this with h | h | h | h <;> simp [h])
  subst hm
  exact (show Tryd.prog.wantsStandIn 3 = false by kernel_rfl)

/-- The card. -/
theorem card : Rows.SizeOrderCardSaid :=
  Claim7.holds_tied_plain_at .later [] _ _ _ _ said (fun _ h => by cases h) (by kernel_rfl) (fun _ h => by cases h) sizeOrder_row_tie rfl ⟨rfl, rfl⟩ (by kernel_rfl) rfl plain (by kernel_rfl)
end Go.Proofs.YtahpaoajhmhgjaaDoor.order

namespace Go.Proofs.YtahpaoajhmhgjaaDoor
theorem sizeOrder_holds : Rows.SizeOrderCardSaid := order.card
#print axioms sizeOrder_holds
end Go.Proofs.YtahpaoajhmhgjaaDoor
