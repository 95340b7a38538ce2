/-
  latinerlaw01.SizeLong returns true at every number: a length is told by four bytes behind 84, noughts ahead of it, just as by its least bytes. Conditions: the package-level variables hold what the program's text lays (the card ties them).
-/
import Derived.Test.YtahpaoajhmhgjaaDoorUni
import Derived.Test.YtahpaoajhmhgjaaDoorLaid
namespace Go.Proofs.YtahpaoajhmhgjaaDoor.long
open Go.ChangeShapes Go.WideShapes Go.ChangeAt Go.ChangeMaps Go.RowKit

theorem convFour (W : World) (a b c d : Int) : (convert 35 9 (.slice (some ⟨W.heap.size, 0, none⟩) 4 4)).run Tryd.prog (W.alloc (.cells #[.int .u8 a, .int .u8 b, .int .u8 c, .int .u8 d] 5)) = .ok (.string (strOfNums [a, b, c, d])) (W.alloc (.cells #[.int .u8 a, .int .u8 b, .int .u8 c, .int .u8 d] 5)) :=
  run_convert_bytes_arg _ _ _ Tryd.underlying35 Tryd.underlying5 _ 0 _ _ [a, b, c, d] rfl (fun i hi => by
    have hi' : i < 4 := hi
    rw [Nat.zero_add, World.cell?_alloc_at _ _ _ _ rfl]
    rcases i with _ | _ | _ | _ | i <;> first | rfl | omega) _ Tryd.underlying9

set_option maxRecDepth 100000 in
set_option maxHeartbeats 2000000 in
theorem walk_none (n : Int) (aS aF : Addr) (w : World) (g : Glob aS aF w) (hn : ¬ (0 ≤ n ∧ n ≤ 16777215)) :
    Calls Tryd.prog 8 #[.int .i64 n] w fun e w' => e = .returned (.bool true) ∧ Below w.heap.size w w' := by
  have e1 := K_shown g
  have e2 := K_encode_no g n hn
  clear g hn
  have hb0 := Below.refl w.heap.size w
  go_enter Tryd.func8, Tryd.ntmps8
  go_wp2_with fail
  refine (e1 _ hb0).mono ?_
  rintro e w1 ⟨rfl, hb1⟩
  go_wp2_with fail
  refine (e2 _ hb1).mono ?_
  rintro e w2 ⟨rfl, hb2⟩
  go_wp2
  go_ret
  exact ⟨rfl, hb2⟩

set_option maxRecDepth 100000 in
set_option maxHeartbeats 2000000 in
theorem walk_yes (n : Int) (aS aF : Addr) (w : World) (g : Glob aS aF w) (h0 : 0 ≤ n) (h1 : n ≤ 16777215) :
    Calls Tryd.prog 8 #[.int .i64 n] w fun e w' => e = .returned (.bool true) ∧ Below w.heap.size w w' := by
  have e1 := K_shown g
  have e2 := K_encode g n h0 h1
  have hcv := convFour
  obtain ⟨t, ht⟩ : ∃ t, t = (⟨#[132]⟩ : ByteArray) ++ strOfNums [n / 16777216, n / 65536 % 256, n / 256 % 256, n % 256] := ⟨_, rfl⟩
  have hl : t.data.toList = [132, UInt8.ofNat (n / 16777216).toNat, UInt8.ofNat (n / 65536 % 256).toNat, UInt8.ofNat (n / 256 % 256).toNat, UInt8.ofNat (n % 256).toNat] := by rw [ht]; simp [strOfNums]
  have hd : Sz.dec t.data.toList 0 = (n, 5, 0) := by
    rw [hl]
    have := Sz.dec_long n.toNat (by omega) (UInt8.ofNat (n / 16777216).toNat) (UInt8.ofNat (n / 65536 % 256).toNat) (UInt8.ofNat (n / 256 % 256).toNat) (UInt8.ofNat (n % 256).toNat) (by simp; omega) (by simp; omega) (by simp; omega) (by simp; omega)
    rw [this, Int.toNat_of_nonneg h0]
  have hsz : t.size ≤ 1000 := by
    have : t.size = t.data.toList.length := by simp
    rw [this, hl]; simp
  have e3 := K_decode g t 0 hsz
  have e4 := K_isLeast g t 0 hsz
  have hi : isL t.data.toList 0 = false := by
    unfold isL
    rw [hd]
    simp only [decide_true, Bool.true_and]
    refine beq_eq_false_iff_ne.2 (Sz.least_not_long _ (by omega) _ ?_)
    rw [hl]; rfl
  rw [hd] at e3
  rw [hi] at e4
  rw [ht] at e3 e4
  clear ht hl hd hsz hi g
  generalize lst n.toNat = L at *
  have hb0 := Below.refl w.heap.size w
  go_enter Tryd.func8, Tryd.ntmps8
  go_wp2_with fail
  refine (e1 _ hb0).mono ?_
  rintro e w1 ⟨rfl, hb1⟩
  go_wp2_with fail
  refine (e2 _ hb1).mono ?_
  rintro e w2 ⟨rfl, hb2⟩
  have hb2' := fun o => hb2.alloc hb2.size o
  go_wp2_with fail
  refine (e3 _ (hb2' _)).mono ?_
  rintro e w3 ⟨rfl, hb3⟩
  go_wp2_with fail
  refine (e4 _ hb3).mono ?_
  rintro e w4 ⟨rfl, hb4⟩
  go_wp2
  go_ret
  exact ⟨by simp, hb4⟩

theorem walk (n : Int) (aS aF : Addr) (w : World) (g : Glob aS aF w) :
    Calls Tryd.prog 8 #[.int .i64 n] w fun e w' => e = .returned (.bool true) ∧ Below w.heap.size w w' := by
  by_cases hn : 0 ≤ n ∧ n ≤ 16777215
  · exact walk_yes n aS aF w g hn.1 hn.2
  · exact walk_none n aS aF w g hn

set_option maxRecDepth 100000 in
/-- What the walk gives, for every argument. -/
theorem contract (H : Type) (enc : TypeId × Value → H) (W : World) (base : Nat) (args : Array Value) (ds gs : List (DataW H)) (before : List MemPlace)
    (hval : ∀ (j : Nat) t v, Tryd.f8.params[j]? = some t → args[j]? = some v → Value.okWide Tryd.prog W .any base t v)
    (hW : DataW.Whole enc Tryd.prog Tryd.f8.params.toList Rows.sizeLongSpec.vars false W args.toList ds gs before) (hL : laidMetH Tryd.prog Rows.sizeLongRow.laid W) :
    Calls Tryd.prog 8 args W fun e W' => ∃ v, e = .returned v ∧ Rows.sizeLongSpec.post enc Tryd.prog Tryd.f8 false true false false W args v W' := by
  obtain ⟨aS, aF, g⟩ := glob_of_laid hL
  have hW' := hW
  obtain ⟨p, q, hA0, hV, rfl, hfz, hnd⟩ := hW
  have hA : DataW.TrodAll enc Tryd.prog W 0 (fun _ => true) true Tryd.f8.params.toList args.toList ds p := hA0
  rw [Tryd.params8] at hA hval
  obtain ⟨v0, vs0, d0, ds0, p0, q0, hargs0, rfl, rfl, h0, r0⟩ := trodAll_cons hA
  obtain ⟨rfl, rfl, rfl⟩ := trodAll_nil r0
  obtain rfl : args = #[v0] := by cases args; simp_all
  obtain ⟨rfl, rfl⟩ := trodVars_none hV
  obtain ⟨x0, rfl, rfl, rfl, wf0⟩ := open_int Tryd.underlying3 (hval 0 3 v0 rfl rfl) h0
  clear hA0
  simp only [List.append_nil] at hW'
  refine (walk x0 aS aF W g).mono fun e W' ⟨he, hg⟩ => ?_
  subst he
  refine ⟨_, rfl, _, _, _, [], [], [], hW', ?_, ?_, ?_, hg.frame _, fun h => by cases h⟩
  · exact trodAll_cons_mk (shut_bool Tryd.underlying4 _) trodAll_mk0
  · exact trodAll_cons_mk (shut_int Tryd.underlying3 wf0) (trodAll_mk0)
  · rfl

theorem reads (os : Os) {H : Type} (enc : TypeId × Value → H) : ∃ places, DataW.whole enc Tryd.prog (({ World.holding Tryd.prog os ⟨#[.cells #[.string shortS] 117, .cells #[.string formS] 117], #[], []⟩ with heap := (((World.holding Tryd.prog os ⟨#[.cells #[.string shortS] 117, .cells #[.string formS] 117], #[], []⟩).heap.modify 1 fun | .cells _ t frozen => .cells #[.iface 96 (.pointer (some ⟨(World.holding Tryd.prog default ⟨#[], #[], []⟩).heap.size, 0, none⟩))] t frozen | o => o).modify 0 fun | .cells _ t frozen => .cells #[.iface 96 (.pointer (some ⟨(World.holding Tryd.prog default ⟨#[], #[], []⟩).heap.size + 1, 0, none⟩))] t frozen | o => o).modify 2 fun | .cells _ t frozen => .cells #[.iface 81 (.agg #[.pointer (some ⟨3, 38, none⟩)])] t frozen | o => o } : World).forCall (fun _ _ => 0) ⟨#[], #[.int .i64 0], []⟩).memory Tryd.f8.params.toList Rows.sizeLongSpec.vars false #[Value.int .i64 0].toList 8 = some ([.lit (.int .i64 0)], [], places) :=
  ⟨[], by kernel_rfl⟩

set_option maxRecDepth 100000 in
theorem lifted (os : Os) (started : os.Started) (H : Type) (enc : TypeId × Value → H) (F : Stop.Interp) :
    ReturnsInHanded {} Tryd.checked os 8 .any ((OpenSpec.ofChange Rows.sizeLongSpec).preRow enc Tryd.prog Tryd.f8 Rows.sizeLongRow.domain false Rows.sizeLongRow.laid) (((OpenSpec.ofChange Rows.sizeLongSpec).at F).post enc Tryd.prog Tryd.f8 false true false false) := by
  obtain ⟨places, hx⟩ := reads os enc
  refine returnsInHanded_of_row (C := Tryd.checked) (s := OpenSpec.ofChange Rows.sizeLongSpec) own started (by kernel_rfl) Tryd.func8
    (witness_row_at (enc := enc) (C := Tryd.checked) false ({ World.holding Tryd.prog os ⟨#[.cells #[.string shortS] 117, .cells #[.string formS] 117], #[], []⟩ with heap := (((World.holding Tryd.prog os ⟨#[.cells #[.string shortS] 117, .cells #[.string formS] 117], #[], []⟩).heap.modify 1 fun | .cells _ t frozen => .cells #[.iface 96 (.pointer (some ⟨(World.holding Tryd.prog default ⟨#[], #[], []⟩).heap.size, 0, none⟩))] t frozen | o => o).modify 0 fun | .cells _ t frozen => .cells #[.iface 96 (.pointer (some ⟨(World.holding Tryd.prog default ⟨#[], #[], []⟩).heap.size + 1, 0, none⟩))] t frozen | o => o).modify 2 fun | .cells _ t frozen => .cells #[.iface 81 (.agg #[.pointer (some ⟨3, 38, none⟩)])] t frozen | o => o } : World) #[.int .i64 0] rfl (by kernel_rfl) (by kernel_rfl) (by kernel_rfl)
      (OpenSpec.preRow_of_cond 8 hx (by kernel_rfl) (fun k hk => by cases hk) (by kernel_rfl) (laid_met os _))) ?_
  intro W base args ds gs before hval hW _ _ _ hL _ _
  exact contract H enc W base args ds gs before hval hW hL

theorem said : Rows.SizeLongSaid :=
  OpenClaim.holds_of_cond 8 Tryd.f8 rfl rfl rfl rfl rfl rfl rfl ⟨rfl, rfl, rfl, rfl, rfl⟩ rfl rfl rfl rfl rfl (by kernel_rfl) Tryd.func8 (by kernel_rfl)
    (of_decide_eq_true (by kernel_rfl)) (by unfold Func.isWrapper; first | (rw [if_pos (by decide +kernel)]; kernel_rfl) | (rw [if_neg (by decide +kernel)]; exact ⟨rfl, rfl⟩))
    (fun os started H enc _ F => by rw [OpenClaim.pre_eq_preRow]; exact lifted os started H enc F)

theorem plain (f : FuncId) (fn : Func) (hf : Tryd.pinned.checked.prog.funcNamed "latiner/latinerlaw01.SizeLong" = some f) (hfn : Tryd.pinned.checked.prog.funcs[f]? = some fn) :
    true = Tryd.pinned.checked.prog.looks [] ∧ ∀ (j : Nat) t, fn.params[j]? = some t → Tryd.pinned.checked.prog.wantsStandIn t = false := by
  obtain rfl : f = 8 := Option.some.inj ((show Tryd.prog.funcNamed "latiner/latinerlaw01.SizeLong" = some 8 by kernel_rfl).symm.trans hf) |>.symm
  obtain rfl : fn = Tryd.f8 := (Option.some.inj (Tryd.func8.symm.trans hfn)).symm
  refine ⟨by kernel_rfl, fun j t ht => ?_⟩
  rw [Tryd.params8] at ht
  have hm : t = 3 := by have := Array.mem_of_getElem? ht; simp at this; first | exact this | omega | (rcases this with h | h | h <;> simp [h]) | (rcases this with h | h | h | h <;> simp [h])
  subst hm
  exact (show Tryd.prog.wantsStandIn 3 = false by kernel_rfl)

/-- The card. -/
theorem card : Rows.SizeLongCardSaid :=
  Claim7.holds_tied_plain_at .later [] _ _ _ _ said (fun _ h => by cases h) (by kernel_rfl) (fun _ h => by cases h) sizeLong_row_tie rfl ⟨rfl, rfl⟩ (by kernel_rfl) rfl plain (by kernel_rfl)
end Go.Proofs.YtahpaoajhmhgjaaDoor.long

namespace Go.Proofs.YtahpaoajhmhgjaaDoor
theorem sizeLong_holds : Rows.SizeLongCardSaid := long.card
#print axioms sizeLong_holds
end Go.Proofs.YtahpaoajhmhgjaaDoor
