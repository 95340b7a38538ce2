/-
  latinerlaw01.SizeLeast returns true at every text and place: no bytes that tell a length are fewer than its least ones, and just those are least that are as many. Conditions: the package-level variables hold what the program's text lays (the card ties them).
-/
import Derived.Test.YtahpaoajhmhgjaaDoorUni
import Derived.Test.YtahpaoajhmhgjaaDoorLaid
namespace Go.Proofs.YtahpaoajhmhgjaaDoor.least
open Go.ChangeShapes Go.WideShapes Go.ChangeAt Go.ChangeMaps Go.RowKit

set_option maxRecDepth 100000 in
set_option maxHeartbeats 1000000 in
theorem walk_err (s : ByteArray) (a E : Int) (aS aF : Addr) (w : World) (g : Glob aS aF w) (hs : s.size ≤ maxLen) (hd : Sz.dec (s.extract 0 100).data.toList a = (0, 0, E)) (hE : E ≠ 0) :
    Calls Tryd.prog 5 #[.string s, .int .i64 a] w fun e w' => e = .returned (.bool true) ∧ Below w.heap.size w w' := by
  have e1 := K_shown g
  have e2 := K_cut (w := w) s hs
  have c1 := cut_size s
  generalize s.extract 0 100 = S at *
  have e3 := K_decode g S a (by omega)
  have e4 := K_isLeast g S a (by omega)
  have hi : isL S.data.toList a = false := by unfold isL; rw [hd]; simp [hE]
  rw [hd] at e3
  rw [hi] at e4
  have t0 : (E == 0) = false := beq_eq_false_iff_ne.2 hE
  have t1 : (E != 0) = true := by simpa using hE
  clear g hd hi hE
  have hb0 := Below.refl w.heap.size w
  go_enter Tryd.func5, Tryd.ntmps5
  go_wp2_with fail
  refine (e1 _ hb0).mono ?_
  rintro e w1 ⟨rfl, hb1⟩
  go_wp2_with fail
  refine (e2 _ hb1).mono ?_
  rintro e w2 ⟨rfl, hb2⟩
  go_wp2_with fail
  refine (e3 _ hb2).mono ?_
  rintro e w3 ⟨rfl, hb3⟩
  go_wp2_with fail
  refine (e4 _ hb3).mono ?_
  rintro e w4 ⟨rfl, hb4⟩
  go_wp2
  go_ret
  exact ⟨rfl, hb4⟩

set_option maxRecDepth 100000 in
set_option maxHeartbeats 1000000 in
theorem walk_fine (s : ByteArray) (k n p : Nat) (aS aF : Addr) (w : World) (g : Glob aS aF w) (hs : s.size ≤ maxLen) (hd : Sz.dec (s.extract 0 100).data.toList k = ((n : Int), (p : Int), 0)) (hkp : k < p) (hp : p ≤ (s.extract 0 100).size) (hn : n ≤ 16777215)
    (h1 : (Sz.least n).length ≤ p - k) (h2 : ((Sz.least n).length = p - k) ↔ ((s.extract 0 100).data.toList.drop k).take (p - k) = Sz.least n) :
    Calls Tryd.prog 5 #[.string s, .int .i64 k] w fun e w' => e = .returned (.bool true) ∧ Below w.heap.size w w' := by
  have e1 := K_shown g
  have e2 := K_cut (w := w) s hs
  have c1 := cut_size s
  generalize s.extract 0 100 = S at *
  have e3 := K_decode g S k (by omega)
  have e4 := K_size g n (by omega) (by omega)
  have e5 := K_isLeast g S k (by omega)
  rw [Int.toNat_natCast, sz_length] at e4
  have hi : isL S.data.toList k = (((Sz.least n).length : Int) == (p : Int) - k) := by
    unfold isL
    rw [hd]
    simp only [decide_true, Bool.true_and, Int.toNat_natCast]
    rw [show ((p : Int) - k).toNat = p - k by omega, Bool.eq_iff_iff, beq_iff_eq, beq_iff_eq, ← h2]
    omega
  rw [hd] at e3
  rw [hi] at e5
  have u1 : ((Sz.least n).length : Int) ≤ (p : Int) - k := by omega
  have u2 : (p : Int) ≤ S.size := by omega
  have u3 : (p : Int) ≤ 100 := by omega
  have u4 : (k : Int) ≤ p := by omega
  generalize ((Sz.least n).length : Int) = L at *
  clear g hd hi h1 h2
  have hb0 := Below.refl w.heap.size w
  go_enter Tryd.func5, Tryd.ntmps5
  go_wp2_with fail
  refine (e1 _ hb0).mono ?_
  rintro e w1 ⟨rfl, hb1⟩
  go_wp2_with fail
  refine (e2 _ hb1).mono ?_
  rintro e w2 ⟨rfl, hb2⟩
  go_wp2_with fail
  refine (e3 _ hb2).mono ?_
  rintro e w3 ⟨rfl, hb3⟩
  go_wp2_with fail
  refine (e4 _ hb3).mono ?_
  rintro e w4 ⟨rfl, hb4⟩
  go_wp2_with fail
  refine (e5 _ hb4).mono ?_
  rintro e w5 ⟨rfl, hb5⟩
  go_wp2
  go_ret
  exact ⟨by simp, hb5⟩

theorem walk (s : ByteArray) (a : Int) (aS aF : Addr) (w : World) (g : Glob aS aF w) (hs : s.size ≤ maxLen) :
    Calls Tryd.prog 5 #[.string s, .int .i64 a] w fun e w' => e = .returned (.bool true) ∧ Below w.heap.size w w' := by
  obtain ⟨n, p, E, hd⟩ : ∃ n p E, Sz.dec (s.extract 0 100).data.toList a = (n, p, E) := ⟨_, _, _, rfl⟩
  obtain ⟨h1, h2⟩ := Sz.dec_shape _ _ _ _ _ hd
  by_cases hE : E = 0
  · obtain ⟨k, n', p', rfl, rfl, rfl, hkp, hpl, hn, h3, h4⟩ := h2 hE
    subst hE
    exact walk_fine s k n' p' aS aF w g hs hd hkp (by simpa using hpl) hn h3 h4
  · obtain ⟨rfl, rfl⟩ := h1 hE
    exact walk_err s a E aS aF w g hs hd hE

set_option maxRecDepth 100000 in
/-- What the walk gives, for every argument. -/
theorem contract (H : Type) (enc : TypeId × Value → H) (W : World) (base : Nat) (args : Array Value) (ds gs : List (DataW H)) (before : List MemPlace)
    (hval : ∀ (j : Nat) t v, Tryd.f5.params[j]? = some t → args[j]? = some v → Value.okWide Tryd.prog W .any base t v)
    (hW : DataW.Whole enc Tryd.prog Tryd.f5.params.toList Rows.sizeLeastSpec.vars false W args.toList ds gs before) (hL : laidMetH Tryd.prog Rows.sizeLeastRow.laid W) :
    Calls Tryd.prog 5 args W fun e W' => ∃ v, e = .returned v ∧ Rows.sizeLeastSpec.post enc Tryd.prog Tryd.f5 false true false false W args v W' := by
  obtain ⟨aS, aF, g⟩ := glob_of_laid hL
  have hW' := hW
  obtain ⟨p, q, hA0, hV, rfl, hfz, hnd⟩ := hW
  have hA : DataW.TrodAll enc Tryd.prog W 0 (fun _ => true) true Tryd.f5.params.toList args.toList ds p := hA0
  rw [Tryd.params5] at hA hval
  obtain ⟨v0, vs0, d0, ds0, p0, q0, hargs0, rfl, rfl, h0, r0⟩ := trodAll_cons hA
  obtain ⟨v1, vs1, d1, ds1, p1, q1, hargs1, rfl, rfl, h1, r1⟩ := trodAll_cons r0
  obtain ⟨rfl, rfl, rfl⟩ := trodAll_nil r1
  obtain rfl : args = #[v0, v1] := by cases args; simp_all
  obtain ⟨rfl, rfl⟩ := trodVars_none hV
  obtain ⟨x0, rfl, rfl, rfl, wf0⟩ := open_string Tryd.underlying9 (hval 0 9 v0 rfl rfl) h0
  obtain ⟨x1, rfl, rfl, rfl, wf1⟩ := open_int Tryd.underlying3 (hval 1 3 v1 rfl rfl) h1
  clear hA0
  simp only [List.append_nil] at hW'
  refine (walk x0 x1 aS aF W g wf0).mono fun e W' ⟨he, hg⟩ => ?_
  subst he
  refine ⟨_, rfl, _, _, _, [], [], [], hW', ?_, ?_, ?_, hg.frame _, fun h => by cases h⟩
  · exact trodAll_cons_mk (shut_bool Tryd.underlying4 _) trodAll_mk0
  · exact trodAll_cons_mk (shut_string Tryd.underlying9 wf0) (trodAll_cons_mk (shut_int Tryd.underlying3 wf1) (trodAll_mk0))
  · rfl

theorem reads (os : Os) {H : Type} (enc : TypeId × Value → H) : ∃ places, DataW.whole enc Tryd.prog (({ World.holding Tryd.prog os ⟨#[.cells #[.string shortS] 117, .cells #[.string formS] 117], #[], []⟩ with heap := (((World.holding Tryd.prog os ⟨#[.cells #[.string shortS] 117, .cells #[.string formS] 117], #[], []⟩).heap.modify 1 fun | .cells _ t frozen => .cells #[.iface 96 (.pointer (some ⟨(World.holding Tryd.prog default ⟨#[], #[], []⟩).heap.size, 0, none⟩))] t frozen | o => o).modify 0 fun | .cells _ t frozen => .cells #[.iface 96 (.pointer (some ⟨(World.holding Tryd.prog default ⟨#[], #[], []⟩).heap.size + 1, 0, none⟩))] t frozen | o => o).modify 2 fun | .cells _ t frozen => .cells #[.iface 81 (.agg #[.pointer (some ⟨3, 38, none⟩)])] t frozen | o => o } : World).forCall (fun _ _ => 0) ⟨#[], #[.string ⟨#[]⟩, .int .i64 0], []⟩).memory Tryd.f5.params.toList Rows.sizeLeastSpec.vars false #[Value.string ⟨#[]⟩, Value.int .i64 0].toList 8 = some ([.lit (.string []), .lit (.int .i64 0)], [], places) :=
  ⟨[], by kernel_rfl⟩

set_option maxRecDepth 100000 in
theorem lifted (os : Os) (started : os.Started) (H : Type) (enc : TypeId × Value → H) (F : Stop.Interp) :
    ReturnsInHanded {} Tryd.checked os 5 .any ((OpenSpec.ofChange Rows.sizeLeastSpec).preRow enc Tryd.prog Tryd.f5 Rows.sizeLeastRow.domain false Rows.sizeLeastRow.laid) (((OpenSpec.ofChange Rows.sizeLeastSpec).at F).post enc Tryd.prog Tryd.f5 false true false false) := by
  obtain ⟨places, hx⟩ := reads os enc
  refine returnsInHanded_of_row (C := Tryd.checked) (s := OpenSpec.ofChange Rows.sizeLeastSpec) own started (by kernel_rfl) Tryd.func5
    (witness_row_at (enc := enc) (C := Tryd.checked) false ({ World.holding Tryd.prog os ⟨#[.cells #[.string shortS] 117, .cells #[.string formS] 117], #[], []⟩ with heap := (((World.holding Tryd.prog os ⟨#[.cells #[.string shortS] 117, .cells #[.string formS] 117], #[], []⟩).heap.modify 1 fun | .cells _ t frozen => .cells #[.iface 96 (.pointer (some ⟨(World.holding Tryd.prog default ⟨#[], #[], []⟩).heap.size, 0, none⟩))] t frozen | o => o).modify 0 fun | .cells _ t frozen => .cells #[.iface 96 (.pointer (some ⟨(World.holding Tryd.prog default ⟨#[], #[], []⟩).heap.size + 1, 0, none⟩))] t frozen | o => o).modify 2 fun | .cells _ t frozen => .cells #[.iface 81 (.agg #[.pointer (some ⟨3, 38, none⟩)])] t frozen | o => o } : World) #[.string ⟨#[]⟩, .int .i64 0] rfl (by kernel_rfl) (by kernel_rfl) (by kernel_rfl)
      (OpenSpec.preRow_of_cond 8 hx (by kernel_rfl) (fun k hk => by cases hk) (by kernel_rfl) (laid_met os _))) ?_
  intro W base args ds gs before hval hW _ _ _ hL _ _
  exact contract H enc W base args ds gs before hval hW hL

theorem said : Rows.SizeLeastSaid :=
  OpenClaim.holds_of_cond 5 Tryd.f5 rfl rfl rfl rfl rfl rfl rfl ⟨rfl, rfl, rfl, rfl, rfl⟩ rfl rfl rfl rfl rfl (by kernel_rfl) Tryd.func5 (by kernel_rfl)
    (of_decide_eq_true (by kernel_rfl)) (by unfold Func.isWrapper; first | (rw [if_pos (by decide +kernel)]; kernel_rfl) | (rw [if_neg (by decide +kernel)]; exact ⟨rfl, rfl⟩))
    (fun os started H enc _ F => by rw [OpenClaim.pre_eq_preRow]; exact lifted os started H enc F)

theorem plain (f : FuncId) (fn : Func) (hf : Tryd.pinned.checked.prog.funcNamed "latiner/latinerlaw01.SizeLeast" = some f) (hfn : Tryd.pinned.checked.prog.funcs[f]? = some fn) :
    true = Tryd.pinned.checked.prog.looks [] ∧ ∀ (j : Nat) t, fn.params[j]? = some t → Tryd.pinned.checked.prog.wantsStandIn t = false := by
  obtain rfl : f = 5 := Option.some.inj ((show Tryd.prog.funcNamed "latiner/latinerlaw01.SizeLeast" = some 5 by kernel_rfl).symm.trans hf) |>.symm
  obtain rfl : fn = Tryd.f5 := (Option.some.inj (Tryd.func5.symm.trans hfn)).symm
  refine ⟨by kernel_rfl, fun j t ht => ?_⟩
  rw [Tryd.params5] at ht
  have hm : t = 9 ∨ t = 3 := by have := Array.mem_of_getElem? ht; simp at this; first | exact this | omega | (rcases this with h | h | h <;> simp [h]) | (rcases this with h | h | h | h <;> simp [h])
  rcases hm with rfl | rfl
  · exact (show Tryd.prog.wantsStandIn 9 = false by kernel_rfl)
  · exact (show Tryd.prog.wantsStandIn 3 = false by kernel_rfl)

/-- The card. -/
theorem card : Rows.SizeLeastCardSaid :=
  Claim7.holds_tied_plain_at .later [] _ _ _ _ said (fun _ h => by cases h) (by kernel_rfl) (fun _ h => by cases h) sizeLeast_row_tie rfl ⟨rfl, rfl⟩ (by kernel_rfl) rfl plain (by kernel_rfl)
end Go.Proofs.YtahpaoajhmhgjaaDoor.least

namespace Go.Proofs.YtahpaoajhmhgjaaDoor
theorem sizeLeast_holds : Rows.SizeLeastCardSaid := least.card
#print axioms sizeLeast_holds
end Go.Proofs.YtahpaoajhmhgjaaDoor
