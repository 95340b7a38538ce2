/-
  latinerlaw02.TlvLeast returns true at every text: what is read is written with no more bytes, and is read back as the same. Conditions: the package-level variables hold what the program's text lays (the card ties them).
-/
import Derived.Test.YtgblpepopfaljaaDoorTvBack
import Derived.Test.YtgblpepopfaljaaDoorTShown
import Derived.Test.YtgblpepopfaljaaDoorTLaid
namespace Go.Proofs.YtgblpepopfaljaaDoor.tleast
open Go.ChangeShapes Go.WideShapes Go.ChangeAt Go.ChangeMaps Go.RowKit Tv T Go.Shelf

theorem cut_any (s : ByteArray) (w : World) (hs : s.size ≤ maxLen) :
    Calls Tryd.prog 14 #[.string s] w fun e w' => (∃ d : ByteArray, e = .returned (.string d) ∧ d.size ≤ 4100) ∧ w' = w := by
  unfold maxLen at hs
  go_enter Tryd.func14, Tryd.ntmps14
  go_wp2
  go_ret
  exact ⟨⟨_, rfl, by rw [ByteArray.size_extract]; omega⟩, rfl⟩

set_option maxRecDepth 100000 in
set_option maxHeartbeats 2000000 in
theorem walk (s : ByteArray) (A : Ads) (aS aF : Addr) (w : World) (g : Gl A aS aF w) (hs : s.size ≤ maxLen) :
    Calls Tryd.prog 5 #[.string s] w fun e w' => e = .returned (.bool true) ∧ Below w.heap.size w w' := by
  have G := hide fun w' (h : Below w.heap.size w w') => g.below h
  have HS := shown_any A aS aF w g
  have HC := hide fun W => cut_any s W hs
  clear g hs
  go_enter Tryd.func5, Tryd.ntmps5
  go_wp2_with fail
  refine HS.mono ?_
  rintro e w1 ⟨rfl, hb1⟩
  clear HS
  go_wp2_with fail
  refine ((unhide HC) _).mono ?_
  rintro e w1' ⟨⟨d, rfl, hd⟩, rfl⟩
  clear HC
  go_wp2_with fail
  have hD := decodeT_any d 0 A aS aF _ ((unhide G) _ hb1) (by omega)
  refine hD.mono ?_
  rintro e w2 ⟨hb2, h2⟩
  have hb3 := hb1.trans (hb2.mono hb1.size)
  clear hD
  cases hdc : decT d.data.toList 0 with
  | error E =>
    rw [hdc] at h2
    obtain rfl := h2
    have hE : (E != 0) = true := by rw [bne_iff_ne]; exact dec_err hdc
    have Hb := hide (hb3.alloc (o := .cells #[.int .i64 0, .string ⟨#[]⟩, .slice none 0 0] 24) hb3.size)
    clear hdc hb1 hb2 hb3
    go_wp2
    go_ret
    exact ⟨rfl, unhide Hb⟩
  | ok r =>
    obtain ⟨T, nx⟩ := r
    rw [hdc] at h2
    obtain ⟨v, rfl, hN⟩ := h2
    obtain ⟨vt, vd, va, vl, vc, rfl⟩ := hN.agg
    obtain ⟨hrt, _, hle, _⟩ := dec_right hdc
    have hle' : (((enc 13 T).length : Nat) : Int) ≤ nx := by omega
    have hb4 := hb3.alloc (o := .cells #[.int .i64 vt, .string vd, .slice va vl vc] 24) hb3.size
    have hN4 := hN.below ((Below.refl w2.heap.size w2).alloc (Nat.le_refl _) (.cells #[.int .i64 vt, .string vd, .slice va vl vc] 24))
    have hq4 := World.alloc_heap_new w2 (.cells #[.int .i64 vt, .string vd, .slice va vl vc] 24)
    have hlt4 : w2.heap.size < (w2.alloc (.cells #[.int .i64 vt, .string vd, .slice va vl vc] 24)).heap.size := by simp
    have HN := hide hN4
    have HB := hide hb4
    have HQ := hide hq4
    have HR := hide hrt
    have HL := hide hle
    clear hdc hb1 hb2 hb3 hN hrt hN4 hb4 hq4 hle
    go_wp2_with fail
    have hEn := encode_any 13 T A aS aF _ _ _ ((unhide G) _ (unhide HB)) (unhide HN) (by omega)
    rw [show encT T = .tuple #[txt (enc 13 T), .int .i64 0] by unfold encT; rw [if_pos (unhide HR)]] at hEn
    refine hEn.mono ?_
    rintro e w5 ⟨rfl, hb5⟩
    have hN5 := hide ((unhide HN).below hb5)
    have hB5 := hide ((unhide HB).trans (hb5.mono (unhide HB).size))
    have hQ5 := hide ((hb5.block _ hlt4).trans (unhide HQ))
    have hlt5 : w2.heap.size < w5.heap.size := Nat.lt_of_lt_of_le hlt4 hb5.size
    clear HN HB HQ hb5 hEn hlt4
    go_wp2_with fail
    have hWh := whole_any ⟨(enc 13 T).toArray⟩ A aS aF _ ((unhide G) _ (unhide hB5)) (by have := (right_iff.1 (unhide HR)).2.2; show (enc 13 T).toArray.size ≤ _; rw [List.size_toArray]; omega)
    rw [show (ByteArray.data ⟨(enc 13 T).toArray⟩).toList = enc 13 T from rfl, whole_enc T (unhide HR)] at hWh
    refine hWh.mono ?_
    rintro e w6 ⟨hb6, v6, rfl, hN6⟩
    obtain ⟨xt, xd, xa, xl, xc, rfl⟩ := hN6.agg
    have hb7 := hb6.alloc (o := .cells #[.int .i64 xt, .string xd, .slice xa xl xc] 24) hb6.size
    have hN7 := (unhide hN5).below hb7
    have hN8 := hN6.below ((Below.refl w6.heap.size w6).alloc (Nat.le_refl _) (.cells #[.int .i64 xt, .string xd, .slice xa xl xc] 24))
    have hB7 := hide ((unhide hB5).trans (hb7.mono (unhide hB5).size))
    obtain ⟨k0, k1, k2⟩ := (cells3 ((hb7.block _ hlt5).trans (unhide hQ5))).1
    have hSm := same_any 13 T T _ _ _ _ _ hN7 hN8
    rw [(same_iff 13 T T).2 rfl] at hSm
    have HSm := hide hSm
    clear hSm hN7 hN8 hb7 hN6 hb6 hN5 hB5 hQ5 hlt5 hWh
    go_wp2_with fail
    refine (unhide HSm).mono ?_
    rintro e w9 ⟨rfl, hb9⟩
    have HB9 := hide ((unhide hB7).trans (hb9.mono (unhide hB7).size))
    clear hb9 HSm hB7 k0 k1 k2
    go_wp2
    go_ret
    exact ⟨rfl, unhide HB9⟩

set_option maxRecDepth 100000 in
/-- What the walk gives, for every argument. -/
theorem contract (H : Type) (enc : TypeId × Value → H) (W : World) (base : Nat) (args : Array Value) (ds gs : List (DataW H)) (before : List MemPlace)
    (hval : ∀ (j : Nat) t v, Tryd.f5.params[j]? = some t → args[j]? = some v → Value.okWide Tryd.prog W .any base t v)
    (hW : DataW.Whole enc Tryd.prog Tryd.f5.params.toList Rows.tlvLeastSpec.vars false W args.toList ds gs before) (hL : laidMetH Tryd.prog Rows.tlvLeastRow.laid W) :
    Calls Tryd.prog 5 args W fun e W' => ∃ v, e = .returned v ∧ Rows.tlvLeastSpec.post enc Tryd.prog Tryd.f5 false true false false W args v W' := by
  obtain ⟨A, aS, aF, g⟩ := glob_of_laid hL
  have hW' := hW
  obtain ⟨p, q, hA0, hV, rfl, hfz, hnd⟩ := hW
  have hA : DataW.TrodAll enc Tryd.prog W 0 (fun _ => true) true Tryd.f5.params.toList args.toList ds p := hA0
  rw [Tryd.params5] at hA hval
  obtain ⟨v0, vs0, d0, ds0, p0, q0, hargs0, rfl, rfl, h0, r0⟩ := trodAll_cons hA
  obtain ⟨rfl, rfl, rfl⟩ := trodAll_nil r0
  obtain rfl : args = #[v0] := by cases args; simp_all
  obtain ⟨rfl, rfl⟩ := trodVars_none hV
  obtain ⟨x0, rfl, rfl, rfl, wf0⟩ := open_string Tryd.underlying9 (hval 0 9 v0 rfl rfl) h0
  clear hA0
  simp only [List.append_nil] at hW'
  refine (walk x0 A aS aF W g wf0).mono fun e W' ⟨he, hg⟩ => ?_
  subst he
  refine ⟨_, rfl, _, _, _, [], [], [], hW', ?_, ?_, ?_, hg.frame _, fun h => by cases h⟩
  · exact trodAll_cons_mk (shut_bool Tryd.underlying4 _) trodAll_mk0
  · exact trodAll_cons_mk (shut_string Tryd.underlying9 wf0) (trodAll_mk0)
  · rfl

theorem reads (os : Os) {H : Type} (enc : TypeId × Value → H) : ∃ places, DataW.whole enc Tryd.prog (({ World.holding Tryd.prog os ⟨#[.cells #[.string sentS0] 177, .cells #[.string sentS1] 177, .cells #[.string sentS2] 177, .cells #[.string sentS3] 177, .cells #[.string sentS4] 177, .cells #[.string sentS5] 177, .cells #[.string sentS6] 177, .cells #[.string sentS7] 177], #[], []⟩ with heap := (((((((((World.holding Tryd.prog os ⟨#[.cells #[.string sentS0] 177, .cells #[.string sentS1] 177, .cells #[.string sentS2] 177, .cells #[.string sentS3] 177, .cells #[.string sentS4] 177, .cells #[.string sentS5] 177, .cells #[.string sentS6] 177, .cells #[.string sentS7] 177], #[], []⟩).heap.modify 9 fun | .cells _ t frozen => .cells #[.iface 158 (.pointer (some ⟨(World.holding Tryd.prog default ⟨#[], #[], []⟩).heap.size + 0, 0, none⟩))] t frozen | o => o).modify 6 fun | .cells _ t frozen => .cells #[.iface 158 (.pointer (some ⟨(World.holding Tryd.prog default ⟨#[], #[], []⟩).heap.size + 1, 0, none⟩))] t frozen | o => o).modify 4 fun | .cells _ t frozen => .cells #[.iface 158 (.pointer (some ⟨(World.holding Tryd.prog default ⟨#[], #[], []⟩).heap.size + 2, 0, none⟩))] t frozen | o => o).modify 5 fun | .cells _ t frozen => .cells #[.iface 158 (.pointer (some ⟨(World.holding Tryd.prog default ⟨#[], #[], []⟩).heap.size + 3, 0, none⟩))] t frozen | o => o).modify 0 fun | .cells _ t frozen => .cells #[.iface 158 (.pointer (some ⟨(World.holding Tryd.prog default ⟨#[], #[], []⟩).heap.size + 4, 0, none⟩))] t frozen | o => o).modify 1 fun | .cells _ t frozen => .cells #[.iface 158 (.pointer (some ⟨(World.holding Tryd.prog default ⟨#[], #[], []⟩).heap.size + 5, 0, none⟩))] t frozen | o => o).modify 2 fun | .cells _ t frozen => .cells #[.iface 158 (.pointer (some ⟨(World.holding Tryd.prog default ⟨#[], #[], []⟩).heap.size + 6, 0, none⟩))] t frozen | o => o).modify 3 fun | .cells _ t frozen => .cells #[.iface 158 (.pointer (some ⟨(World.holding Tryd.prog default ⟨#[], #[], []⟩).heap.size + 7, 0, none⟩))] t frozen | o => o).modify 7 fun | .cells _ t frozen => .cells #[.iface 115 (.agg #[.pointer (some ⟨10, 48, none⟩)])] t frozen | o => o } : World).forCall (fun _ _ => 0) ⟨#[], #[.string ⟨#[]⟩], []⟩).memory Tryd.f5.params.toList Rows.tlvLeastSpec.vars false #[Value.string ⟨#[]⟩].toList 8 = some ([.lit (.string [])], [], places) :=
  ⟨[], by kernel_rfl⟩

set_option maxRecDepth 100000 in
theorem lifted (os : Os) (started : os.Started) (H : Type) (enc : TypeId × Value → H) (F : Stop.Interp) :
    ReturnsInHanded {} Tryd.checked os 5 .any ((OpenSpec.ofChange Rows.tlvLeastSpec).preRow enc Tryd.prog Tryd.f5 Rows.tlvLeastRow.domain false Rows.tlvLeastRow.laid) (((OpenSpec.ofChange Rows.tlvLeastSpec).at F).post enc Tryd.prog Tryd.f5 false true false false) := by
  obtain ⟨places, hx⟩ := reads os enc
  refine returnsInHanded_of_row (C := Tryd.checked) (s := OpenSpec.ofChange Rows.tlvLeastSpec) own started (by kernel_rfl) Tryd.func5
    (witness_row_at (enc := enc) (C := Tryd.checked) false ({ World.holding Tryd.prog os ⟨#[.cells #[.string sentS0] 177, .cells #[.string sentS1] 177, .cells #[.string sentS2] 177, .cells #[.string sentS3] 177, .cells #[.string sentS4] 177, .cells #[.string sentS5] 177, .cells #[.string sentS6] 177, .cells #[.string sentS7] 177], #[], []⟩ with heap := (((((((((World.holding Tryd.prog os ⟨#[.cells #[.string sentS0] 177, .cells #[.string sentS1] 177, .cells #[.string sentS2] 177, .cells #[.string sentS3] 177, .cells #[.string sentS4] 177, .cells #[.string sentS5] 177, .cells #[.string sentS6] 177, .cells #[.string sentS7] 177], #[], []⟩).heap.modify 9 fun | .cells _ t frozen => .cells #[.iface 158 (.pointer (some ⟨(World.holding Tryd.prog default ⟨#[], #[], []⟩).heap.size + 0, 0, none⟩))] t frozen | o => o).modify 6 fun | .cells _ t frozen => .cells #[.iface 158 (.pointer (some ⟨(World.holding Tryd.prog default ⟨#[], #[], []⟩).heap.size + 1, 0, none⟩))] t frozen | o => o).modify 4 fun | .cells _ t frozen => .cells #[.iface 158 (.pointer (some ⟨(World.holding Tryd.prog default ⟨#[], #[], []⟩).heap.size + 2, 0, none⟩))] t frozen | o => o).modify 5 fun | .cells _ t frozen => .cells #[.iface 158 (.pointer (some ⟨(World.holding Tryd.prog default ⟨#[], #[], []⟩).heap.size + 3, 0, none⟩))] t frozen | o => o).modify 0 fun | .cells _ t frozen => .cells #[.iface 158 (.pointer (some ⟨(World.holding Tryd.prog default ⟨#[], #[], []⟩).heap.size + 4, 0, none⟩))] t frozen | o => o).modify 1 fun | .cells _ t frozen => .cells #[.iface 158 (.pointer (some ⟨(World.holding Tryd.prog default ⟨#[], #[], []⟩).heap.size + 5, 0, none⟩))] t frozen | o => o).modify 2 fun | .cells _ t frozen => .cells #[.iface 158 (.pointer (some ⟨(World.holding Tryd.prog default ⟨#[], #[], []⟩).heap.size + 6, 0, none⟩))] t frozen | o => o).modify 3 fun | .cells _ t frozen => .cells #[.iface 158 (.pointer (some ⟨(World.holding Tryd.prog default ⟨#[], #[], []⟩).heap.size + 7, 0, none⟩))] t frozen | o => o).modify 7 fun | .cells _ t frozen => .cells #[.iface 115 (.agg #[.pointer (some ⟨10, 48, none⟩)])] t frozen | o => o } : World) #[.string ⟨#[]⟩] rfl (by kernel_rfl) (by kernel_rfl) (by kernel_rfl)
      (OpenSpec.preRow_of_cond 8 hx (by kernel_rfl) (fun k hk => by cases hk) (by kernel_rfl) (laid_met os _))) ?_
  intro W base args ds gs before hval hW _ _ _ hL _ _
  exact contract H enc W base args ds gs before hval hW hL

theorem said : Rows.TlvLeastSaid :=
  OpenClaim.holds_of_cond 5 Tryd.f5 rfl rfl rfl rfl rfl rfl rfl ⟨rfl, rfl, rfl, rfl, rfl⟩ rfl rfl rfl rfl rfl (by kernel_rfl) Tryd.func5 (by kernel_rfl)
    (of_decide_eq_true (by kernel_rfl)) (by unfold Func.isWrapper; first | (rw [if_pos (by decide +kernel)]; kernel_rfl) | (rw [if_neg (by decide +kernel)]; exact ⟨rfl, rfl⟩))
    (fun os started H enc _ F => by rw [OpenClaim.pre_eq_preRow]; exact lifted os started H enc F)

theorem plain (f : FuncId) (fn : Func) (hf : Tryd.pinned.checked.prog.funcNamed "latiner/latinerlaw02.TlvLeast" = some f) (hfn : Tryd.pinned.checked.prog.funcs[f]? = some fn) :
    true = Tryd.pinned.checked.prog.looks [] ∧ ∀ (j : Nat) t, fn.params[j]? = some t → Tryd.pinned.checked.prog.wantsStandIn t = false := by
  obtain rfl : f = 5 := Option.some.inj ((show Tryd.prog.funcNamed "latiner/latinerlaw02.TlvLeast" = some 5 by kernel_rfl).symm.trans hf) |>.symm
  obtain rfl : fn = Tryd.f5 := (Option.some.inj (Tryd.func5.symm.trans hfn)).symm
  refine ⟨by kernel_rfl, fun j t ht => ?_⟩
  rw [Tryd.params5] at ht
  have hm : t = 9 := by have := Array.mem_of_getElem? ht; simp at this; first | exact this | omega | (rcases this with h | h | h <;> simp [h]) | (rcases this with h | h | h | h <;> simp [h])
  subst hm
  exact (show Tryd.prog.wantsStandIn 9 = false by kernel_rfl)

/-- The card. -/
theorem card : Rows.TlvLeastCardSaid :=
  Claim7.holds_tied_plain_at .later [] _ _ _ _ said (fun _ h => by cases h) (by kernel_rfl) (fun _ h => by cases h) tlvLeast_row_tie rfl ⟨rfl, rfl⟩ (by kernel_rfl) rfl plain (by kernel_rfl)
end Go.Proofs.YtgblpepopfaljaaDoor.tleast

namespace Go.Proofs.YtgblpepopfaljaaDoor
theorem tlvLeast_holds : Rows.TlvLeastCardSaid := tleast.card
#print axioms tlvLeast_holds
end Go.Proofs.YtgblpepopfaljaaDoor
