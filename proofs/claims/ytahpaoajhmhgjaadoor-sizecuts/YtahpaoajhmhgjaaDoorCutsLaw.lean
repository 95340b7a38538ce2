/-
  latinerlaw01.SizeCuts returns true at every number and place: a beginning of a length's bytes that is not all of them is too short. Conditions: the package-level variables hold what the program's text lays (the card ties them).
-/
import Derived.Test.YtahpaoajhmhgjaaDoorUni
import Derived.Test.YtahpaoajhmhgjaaDoorLaid
namespace Go.Proofs.YtahpaoajhmhgjaaDoor.cuts
open Go.ChangeShapes Go.WideShapes Go.ChangeAt Go.ChangeMaps Go.RowKit

set_option maxRecDepth 100000 in
set_option maxHeartbeats 1000000 in
theorem walk_none (n a : Int) (aS aF : Addr) (w : World) (g : Glob aS aF w) (hn : ¬ (0 ≤ n ∧ n ≤ 16777215)) :
    Calls Tryd.prog 7 #[.int .i64 n, .int .i64 a] w fun e w' => e = .returned (.bool true) ∧ Below w.heap.size w w' := by
  have e1 := K_shown g
  have e2 := K_encode_no g n hn
  clear g hn
  have hb0 := Below.refl w.heap.size w
  go_enter Tryd.func7, Tryd.ntmps7
  go_wp2_with fail
  refine (e1 _ hb0).mono ?_
  rintro e w1 ⟨rfl, hb1⟩
  go_wp2_with fail
  refine (e2 _ hb1).mono ?_
  rintro e w2 ⟨rfl, hb2⟩
  go_wp2
  go_ret
  exact ⟨rfl, hb2⟩

set_option maxRecDepth 100000 in
set_option maxHeartbeats 1000000 in
theorem walk_out (n a : Int) (aS aF : Addr) (w : World) (g : Glob aS aF w) (hn : 0 ≤ n ∧ n ≤ 16777215) (ha : ¬ (0 ≤ a ∧ a < (lst n.toNat).size)) :
    Calls Tryd.prog 7 #[.int .i64 n, .int .i64 a] w fun e w' => e = .returned (.bool true) ∧ Below w.heap.size w w' := by
  have e1 := K_shown g
  have e2 := K_encode g n hn.1 hn.2
  generalize lst n.toNat = L at *
  clear g hn
  by_cases h0 : a < 0
  · clear ha
    have hb0 := Below.refl w.heap.size w
    go_enter Tryd.func7, Tryd.ntmps7
    go_wp2_with fail
    refine (e1 _ hb0).mono ?_
    rintro e w1 ⟨rfl, hb1⟩
    go_wp2_with fail
    refine (e2 _ hb1).mono ?_
    rintro e w2 ⟨rfl, hb2⟩
    go_wp2
    go_ret
    exact ⟨rfl, hb2⟩
  · have h1 : (L.size : Int) ≤ a := by omega
    clear ha
    have hb0 := Below.refl w.heap.size w
    go_enter Tryd.func7, Tryd.ntmps7
    go_wp2_with fail
    refine (e1 _ hb0).mono ?_
    rintro e w1 ⟨rfl, hb1⟩
    go_wp2_with fail
    refine (e2 _ hb1).mono ?_
    rintro e w2 ⟨rfl, hb2⟩
    go_wp2
    go_ret
    exact ⟨rfl, hb2⟩

set_option maxRecDepth 100000 in
set_option maxHeartbeats 1000000 in
theorem walk_in (n : Int) (k : Nat) (aS aF : Addr) (w : World) (g : Glob aS aF w) (hn : 0 ≤ n ∧ n ≤ 16777215) (hk : k < (lst n.toNat).size) :
    Calls Tryd.prog 7 #[.int .i64 n, .int .i64 k] w fun e w' => e = .returned (.bool true) ∧ Below w.heap.size w w' := by
  have hl : ((lst n.toNat).extract 0 k).data.toList = (Sz.least n.toNat).take k := by rw [← lst_list]; simp [ByteArray.data_extract]
  have hd : Sz.dec ((lst n.toNat).extract 0 k).data.toList 0 = (0, 0, 10) := by
    rw [hl]; exact Sz.dec_cut n.toNat (by omega) k (by rw [← lst_size]; exact hk)
  have hsz : ((lst n.toNat).extract 0 k).size ≤ 1000 := by
    rw [ByteArray.size_extract]; have := lst_le n.toNat (by omega); omega
  have e1 := K_shown g
  have e2 := K_encode g n hn.1 hn.2
  have e3 := K_decode g ((lst n.toNat).extract 0 k) 0 hsz
  have e4 := K_isLeast g ((lst n.toNat).extract 0 k) 0 hsz
  have hi : isL ((lst n.toNat).extract 0 k).data.toList 0 = false := by unfold isL; rw [hd]; simp
  rw [hd] at e3
  rw [hi] at e4
  clear hd hi hl hsz
  have hk' : (k : Int) < (lst n.toNat).size := by omega
  have hs4 := lst_le n.toNat (by omega)
  generalize lst n.toNat = L at *
  clear g hn
  have hb0 := Below.refl w.heap.size w
  go_enter Tryd.func7, Tryd.ntmps7
  go_wp2_with fail
  refine (e1 _ hb0).mono ?_
  rintro e w1 ⟨rfl, hb1⟩
  go_wp2_with fail
  refine (e2 _ hb1).mono ?_
  rintro e w2 ⟨rfl, hb2⟩
  go_wp2_with fail
  refine (e3 _ hb2).mono ?_
  rintro e w3 ⟨rfl, hb3⟩
  go_wp2_with fail
  refine (e4 _ hb3).mono ?_
  rintro e w4 ⟨rfl, hb4⟩
  go_wp2
  go_ret
  exact ⟨rfl, hb4⟩

theorem walk (n a : Int) (aS aF : Addr) (w : World) (g : Glob aS aF w) :
    Calls Tryd.prog 7 #[.int .i64 n, .int .i64 a] w fun e w' => e = .returned (.bool true) ∧ Below w.heap.size w w' := by
  by_cases hn : 0 ≤ n ∧ n ≤ 16777215
  · by_cases ha : 0 ≤ a ∧ a < (lst n.toNat).size
    · obtain ⟨k, rfl⟩ := Int.eq_ofNat_of_zero_le ha.1
      exact walk_in n k aS aF w g hn (by omega)
    · exact walk_out n a aS aF w g hn ha
  · exact walk_none n a aS aF w g hn

set_option maxRecDepth 100000 in
/-- What the walk gives, for every argument. -/
theorem contract (H : Type) (enc : TypeId × Value → H) (W : World) (base : Nat) (args : Array Value) (ds gs : List (DataW H)) (before : List MemPlace)
    (hval : ∀ (j : Nat) t v, Tryd.f7.params[j]? = some t → args[j]? = some v → Value.okWide Tryd.prog W .any base t v)
    (hW : DataW.Whole enc Tryd.prog Tryd.f7.params.toList Rows.sizeCutsSpec.vars false W args.toList ds gs before) (hL : laidMetH Tryd.prog Rows.sizeCutsRow.laid W) :
    Calls Tryd.prog 7 args W fun e W' => ∃ v, e = .returned v ∧ Rows.sizeCutsSpec.post enc Tryd.prog Tryd.f7 false true false false W args v W' := by
  obtain ⟨aS, aF, g⟩ := glob_of_laid hL
  have hW' := hW
  obtain ⟨p, q, hA0, hV, rfl, hfz, hnd⟩ := hW
  have hA : DataW.TrodAll enc Tryd.prog W 0 (fun _ => true) true Tryd.f7.params.toList args.toList ds p := hA0
  rw [Tryd.params7] at hA hval
  obtain ⟨v0, vs0, d0, ds0, p0, q0, hargs0, rfl, rfl, h0, r0⟩ := trodAll_cons hA
  obtain ⟨v1, vs1, d1, ds1, p1, q1, hargs1, rfl, rfl, h1, r1⟩ := trodAll_cons r0
  obtain ⟨rfl, rfl, rfl⟩ := trodAll_nil r1
  obtain rfl : args = #[v0, v1] := by cases args; simp_all
  obtain ⟨rfl, rfl⟩ := trodVars_none hV
  obtain ⟨x0, rfl, rfl, rfl, wf0⟩ := open_int Tryd.underlying3 (hval 0 3 v0 rfl rfl) h0
  obtain ⟨x1, rfl, rfl, rfl, wf1⟩ := open_int Tryd.underlying3 (hval 1 3 v1 rfl rfl) h1
  clear hA0
  simp only [List.append_nil] at hW'
  refine (walk x0 x1 aS aF W g).mono fun e W' ⟨he, hg⟩ => ?_
  subst he
  refine ⟨_, rfl, _, _, _, [], [], [], hW', ?_, ?_, ?_, hg.frame _, fun h => by cases h⟩
  · exact trodAll_cons_mk (shut_bool Tryd.underlying4 _) trodAll_mk0
  · exact trodAll_cons_mk (shut_int Tryd.underlying3 wf0) (trodAll_cons_mk (shut_int Tryd.underlying3 wf1) (trodAll_mk0))
  · rfl

theorem reads (os : Os) {H : Type} (enc : TypeId × Value → H) : ∃ places, DataW.whole enc Tryd.prog (({ World.holding Tryd.prog os ⟨#[.cells #[.string shortS] 117, .cells #[.string formS] 117], #[], []⟩ with heap := (((World.holding Tryd.prog os ⟨#[.cells #[.string shortS] 117, .cells #[.string formS] 117], #[], []⟩).heap.modify 1 fun | .cells _ t frozen => .cells #[.iface 96 (.pointer (some ⟨(World.holding Tryd.prog default ⟨#[], #[], []⟩).heap.size, 0, none⟩))] t frozen | o => o).modify 0 fun | .cells _ t frozen => .cells #[.iface 96 (.pointer (some ⟨(World.holding Tryd.prog default ⟨#[], #[], []⟩).heap.size + 1, 0, none⟩))] t frozen | o => o).modify 2 fun | .cells _ t frozen => .cells #[.iface 81 (.agg #[.pointer (some ⟨3, 38, none⟩)])] t frozen | o => o } : World).forCall (fun _ _ => 0) ⟨#[], #[.int .i64 0, .int .i64 0], []⟩).memory Tryd.f7.params.toList Rows.sizeCutsSpec.vars false #[Value.int .i64 0, Value.int .i64 0].toList 8 = some ([.lit (.int .i64 0), .lit (.int .i64 0)], [], places) :=
  ⟨[], by kernel_rfl⟩

set_option maxRecDepth 100000 in
theorem lifted (os : Os) (started : os.Started) (H : Type) (enc : TypeId × Value → H) (F : Stop.Interp) :
    ReturnsInHanded {} Tryd.checked os 7 .any ((OpenSpec.ofChange Rows.sizeCutsSpec).preRow enc Tryd.prog Tryd.f7 Rows.sizeCutsRow.domain false Rows.sizeCutsRow.laid) (((OpenSpec.ofChange Rows.sizeCutsSpec).at F).post enc Tryd.prog Tryd.f7 false true false false) := by
  obtain ⟨places, hx⟩ := reads os enc
  refine returnsInHanded_of_row (C := Tryd.checked) (s := OpenSpec.ofChange Rows.sizeCutsSpec) own started (by kernel_rfl) Tryd.func7
    (witness_row_at (enc := enc) (C := Tryd.checked) false ({ World.holding Tryd.prog os ⟨#[.cells #[.string shortS] 117, .cells #[.string formS] 117], #[], []⟩ with heap := (((World.holding Tryd.prog os ⟨#[.cells #[.string shortS] 117, .cells #[.string formS] 117], #[], []⟩).heap.modify 1 fun | .cells _ t frozen => .cells #[.iface 96 (.pointer (some ⟨(World.holding Tryd.prog default ⟨#[], #[], []⟩).heap.size, 0, none⟩))] t frozen | o => o).modify 0 fun | .cells _ t frozen => .cells #[.iface 96 (.pointer (some ⟨(World.holding Tryd.prog default ⟨#[], #[], []⟩).heap.size + 1, 0, none⟩))] t frozen | o => o).modify 2 fun | .cells _ t frozen => .cells #[.iface 81 (.agg #[.pointer (some ⟨3, 38, none⟩)])] t frozen | o => o } : World) #[.int .i64 0, .int .i64 0] rfl (by kernel_rfl) (by kernel_rfl) (by kernel_rfl)
      (OpenSpec.preRow_of_cond 8 hx (by kernel_rfl) (fun k hk => by cases hk) (by kernel_rfl) (laid_met os _))) ?_
  intro W base args ds gs before hval hW _ _ _ hL _ _
  exact contract H enc W base args ds gs before hval hW hL

theorem said : Rows.SizeCutsSaid :=
  OpenClaim.holds_of_cond 7 Tryd.f7 rfl rfl rfl rfl rfl rfl rfl ⟨rfl, rfl, rfl, rfl, rfl⟩ rfl rfl rfl rfl rfl (by kernel_rfl) Tryd.func7 (by kernel_rfl)
    (of_decide_eq_true (by kernel_rfl)) (by unfold Func.isWrapper; first | (rw [if_pos (by decide +kernel)]; kernel_rfl) | (rw [if_neg (by decide +kernel)]; exact ⟨rfl, rfl⟩))
    (fun os started H enc _ F => by rw [OpenClaim.pre_eq_preRow]; exact lifted os started H enc F)

theorem plain (f : FuncId) (fn : Func) (hf : Tryd.pinned.checked.prog.funcNamed "latiner/latinerlaw01.SizeCuts" = some f) (hfn : Tryd.pinned.checked.prog.funcs[f]? = some fn) :
    true = Tryd.pinned.checked.prog.looks [] ∧ ∀ (j : Nat) t, fn.params[j]? = some t → Tryd.pinned.checked.prog.wantsStandIn t = false := by
  obtain rfl : f = 7 := Option.some.inj ((show Tryd.prog.funcNamed "latiner/latinerlaw01.SizeCuts" = some 7 by kernel_rfl).symm.trans hf) |>.symm
  obtain rfl : fn = Tryd.f7 := (Option.some.inj (Tryd.func7.symm.trans hfn)).symm
  refine ⟨by kernel_rfl, fun j t ht => ?_⟩
  rw [Tryd.params7] at ht
  have hm : t = 3 := by have := Array.mem_of_getElem? ht; simp at this; first | exact this | omega | (rcases this with h | h | h <;> simp [h]) | (rcases this with h | h | h | h <;> simp [h])
  subst hm
  exact (show Tryd.prog.wantsStandIn 3 = false by kernel_rfl)

/-- The card. -/
theorem card : Rows.SizeCutsCardSaid :=
  Claim7.holds_tied_plain_at .later [] _ _ _ _ said (fun _ h => by cases h) (by kernel_rfl) (fun _ h => by cases h) sizeCuts_row_tie rfl ⟨rfl, rfl⟩ (by kernel_rfl) rfl plain (by kernel_rfl)
end Go.Proofs.YtahpaoajhmhgjaaDoor.cuts

namespace Go.Proofs.YtahpaoajhmhgjaaDoor
theorem sizeCuts_holds : Rows.SizeCutsCardSaid := cuts.card
#print axioms sizeCuts_holds
end Go.Proofs.YtahpaoajhmhgjaaDoor
