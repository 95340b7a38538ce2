/-
  What the rows' list of variables gives a walk ('Gl'), and a world that holds it. Conditions: none.
-/
import Derived.Test.YthibodkemnkjeaaDoorCards
import Derived.Test.YthibodkemnkjeaaDoorTie
import Derived.Test.YthibodkemnkjeaaDoorTHead
import Derived.WalkKit
import Derived.ProofKit
import Derived.OpenShut
import Derived.Deep.DeepHandedRow
import Derived.LaidLaws
import Derived.LaidHandle
import Derived.Stop.LaidTwo
namespace Go.Proofs.YthibodkemnkjeaaDoor
open Go.ChangeShapes Go.WideShapes Go.ChangeAt Go.RowKit T

/-- THE FIRST OF THE LIST, A SENTINEL: what it holds, and what is left of the list. -/
theorem laid_first {P : Program} {n0 nm : String} {text0 : List UInt8} {r : List (String × DataW Unit)} {W : World} {ps : List MemPlace} {g0 : Nat} {ti tp te ts : TypeId} {ms : Array (String × TypeId)} {f : Field}
    (h : DataW.LaidVars P W ((n0, .iface nm (.ptr (.agg [.lit (.string text0)]))) :: r) ps)
    (hrows : ∀ b off, MemPlace.cell b off ∈ ps → (∃ c t, W.heap[b]? = some (.cells c t (0, 0))) ∧ ∀ u v, W.cell? ⟨b, off, none⟩ = some (.iface u v) → Value.okWide P W .any 0 u v)
    (hg0 : P.globalNamed n0 = some g0) (ht0 : (P.globals[g0]?).map (·.type) = some ti)
    (hi : P.underlying ti = some (.interface ms)) (hrow : ∀ u, P.typeName? 3 u = some nm → u = tp)
    (hp : P.underlying tp = some (.pointer te)) (he : P.underlying te = some (.struct #[f])) (hft : f.type = ts) (hfo : f.offset = 0) (hs : P.underlying ts = some .string) (hc : P.cellsOf te = 1) (hcs : P.cellsOf ts = 1) :
    ∃ (a : Addr) (c : Array Value) (t : TypeId) (ps' : List MemPlace), W.var? P n0 = some #[.iface tp (.pointer (some a))] ∧ W.heap[a.block]? = some (.cells c t (0, 0)) ∧ ps = .cell g0 0 :: .cell a.block a.off :: ps' ∧ DataW.LaidVars P W r ps' := by
  obtain ⟨g0', t0', cs0, f0, p0, q0, hg0', ht0', hv0, hd0, hrest, e0⟩ := h
  obtain rfl := Option.some.inj (hg0.symm.trans hg0')
  obtain rfl := Option.some.inj (ht0.symm.trans ht0')
  subst e0
  obtain ⟨l0⟩ := cs0
  have ok0 : ∀ u v, l0 = [.iface u v] → Value.okWide P W .any 0 u v := fun u v e => by
    subst e
    exact (hrows g0 0 (by simp [MemPlace.row])).2 u v (by simpa using World.var?_cell hg0' hv0 0)
  obtain ⟨a0, s0, rfl, hc0, hs0, hz0, rfl⟩ := errorString_of_trod hi hrow hp he hft hfo hs hc hcs hd0 ok0
  obtain ⟨c0, t0, hb0⟩ := (hrows a0.block a0.off (by simp [MemPlace.row])).1
  exact ⟨a0, c0, t0, q0, hv0, hb0, by simp [MemPlace.row], hrest⟩

theorem own : ownKnob Tryd.prog.godebug = none := by kernel_rfl
theorem gTy : Tryd.prog.globalNamed "errors.errorType" = some 7 := by kernel_rfl
theorem g0N : Tryd.prog.globalNamed "latiner/size.errShort" = some 9 := by kernel_rfl
theorem g0T : (Tryd.prog.globals[9]?).map (·.type) = some 48 := by kernel_rfl
theorem g1N : Tryd.prog.globalNamed "latiner/size.errForm" = some 6 := by kernel_rfl
theorem g1T : (Tryd.prog.globals[6]?).map (·.type) = some 48 := by kernel_rfl
theorem g2N : Tryd.prog.globalNamed "latiner/tlv.errShort" = some 4 := by kernel_rfl
theorem g2T : (Tryd.prog.globals[4]?).map (·.type) = some 48 := by kernel_rfl
theorem g3N : Tryd.prog.globalNamed "latiner/tlv.errTag" = some 5 := by kernel_rfl
theorem g3T : (Tryd.prog.globals[5]?).map (·.type) = some 48 := by kernel_rfl
theorem g4N : Tryd.prog.globalNamed "latiner/tlv.errMore" = some 0 := by kernel_rfl
theorem g4T : (Tryd.prog.globals[0]?).map (·.type) = some 48 := by kernel_rfl
theorem g5N : Tryd.prog.globalNamed "latiner/tlv.errNode" = some 1 := by kernel_rfl
theorem g5T : (Tryd.prog.globals[1]?).map (·.type) = some 48 := by kernel_rfl
theorem g6N : Tryd.prog.globalNamed "latiner/tlv.errKind" = some 2 := by kernel_rfl
theorem g6T : (Tryd.prog.globals[2]?).map (·.type) = some 48 := by kernel_rfl
theorem g7N : Tryd.prog.globalNamed "latiner/tlv.errLarge" = some 3 := by kernel_rfl
theorem g7T : (Tryd.prog.globals[3]?).map (·.type) = some 48 := by kernel_rfl
theorem rtRow : (Tryd.prog.cutTypes.find? (·.1 == "internal/reflectlite.rtype")).map (·.2) = some 115 := by kernel_rfl
theorem oneRow : ((List.range 189).filter fun t => Tryd.prog.rowNamed t [101, 114, 114, 111, 114]) = [48] := by kernel_rfl
theorem nTypes : Tryd.prog.types.size = 189 := by kernel_rfl
theorem handleError : typeHandle Tryd.prog 48 = .pointer (some ⟨10, 48, none⟩) := by kernel_rfl
theorem cellsES : Tryd.prog.cellsOf 177 = 1 := by kernel_rfl
theorem cellsStr : Tryd.prog.cellsOf 9 = 1 := by kernel_rfl

/-- the rows' list. -/
abbrev Ls : List (String × DataW Unit) := [("errors.errorType", Rows.laid_errors_errorType), ("latiner/size.errShort", Rows.laid_latiner_size_errShort), ("latiner/size.errForm", Rows.laid_latiner_size_errForm), ("latiner/tlv.errShort", Rows.laid_latiner_tlv_errShort), ("latiner/tlv.errTag", Rows.laid_latiner_tlv_errTag), ("latiner/tlv.errMore", Rows.laid_latiner_tlv_errMore), ("latiner/tlv.errNode", Rows.laid_latiner_tlv_errNode), ("latiner/tlv.errKind", Rows.laid_latiner_tlv_errKind), ("latiner/tlv.errLarge", Rows.laid_latiner_tlv_errLarge)]

theorem star : "*" ++ "errors.errorString" = "*errors.errorString" := by decide
theorem rowES (u : TypeId) (h : Tryd.prog.typeName? 3 u = some "*errors.errorString") : u = 158 :=
  typeName_ptr_named (P := Tryd.prog) (nm := "errors.errorString") (by rw [star]; kernel_rfl) (by kernel_rfl) (by decide) u (by rw [star]; exact h)

theorem glob_of_laid {W : World} (h : laidMetH Tryd.prog Ls W) : ∃ A aS aF, Gl A aS aF W := by
  have h' : laidMet Tryd.prog [("latiner/size.errShort", Rows.laid_latiner_size_errShort), ("latiner/size.errForm", Rows.laid_latiner_size_errForm), ("latiner/tlv.errShort", Rows.laid_latiner_tlv_errShort), ("latiner/tlv.errTag", Rows.laid_latiner_tlv_errTag), ("latiner/tlv.errMore", Rows.laid_latiner_tlv_errMore), ("latiner/tlv.errNode", Rows.laid_latiner_tlv_errNode), ("latiner/tlv.errKind", Rows.laid_latiner_tlv_errKind), ("latiner/tlv.errLarge", Rows.laid_latiner_tlv_errLarge)] W ∧ handlesMet Tryd.prog [("errors.errorType", Rows.laid_errors_errorType)] W := h
  obtain ⟨hd, hh⟩ := h'
  obtain ⟨name, u, ty, x1, x2, x3, x4, e5h⟩ := hh _ (List.mem_singleton.2 rfl)
  have en : name = [101, 114, 114, 111, 114] := (Option.some.inj x1).symm
  subst en
  obtain rfl := Option.some.inj (rtRow.symm.trans x2)
  have hm : ty ∈ (List.range 189).filter fun t => Tryd.prog.rowNamed t [101, 114, 114, 111, 114] := List.mem_filter.2 ⟨List.mem_range.2 (by rw [← nTypes]; exact x3), x4⟩
  rw [oneRow] at hm
  obtain rfl := List.mem_singleton.1 hm
  rw [handleError] at e5h
  obtain ⟨ps0, h0, hnd, hrows⟩ := hd
  obtain ⟨a0, c0, t0, ps1, v0, b0, rfl, h1⟩ := laid_first h0 (fun b off hm => hrows b off (by simp [hm])) g0N g0T Tryd.underlying48 rowES Tryd.underlying158 Tryd.underlying177 rfl rfl Tryd.underlying9 cellsES cellsStr
  obtain ⟨a1, c1, t1, ps2, v1, b1, rfl, h2⟩ := laid_first h1 (fun b off hm => hrows b off (by simp [hm])) g1N g1T Tryd.underlying48 rowES Tryd.underlying158 Tryd.underlying177 rfl rfl Tryd.underlying9 cellsES cellsStr
  obtain ⟨a2, c2, t2, ps3, v2, b2, rfl, h3⟩ := laid_first h2 (fun b off hm => hrows b off (by simp [hm])) g2N g2T Tryd.underlying48 rowES Tryd.underlying158 Tryd.underlying177 rfl rfl Tryd.underlying9 cellsES cellsStr
  obtain ⟨a3, c3, t3, ps4, v3, b3, rfl, h4⟩ := laid_first h3 (fun b off hm => hrows b off (by simp [hm])) g3N g3T Tryd.underlying48 rowES Tryd.underlying158 Tryd.underlying177 rfl rfl Tryd.underlying9 cellsES cellsStr
  obtain ⟨a4, c4, t4, ps5, v4, b4, rfl, h5⟩ := laid_first h4 (fun b off hm => hrows b off (by simp [hm])) g4N g4T Tryd.underlying48 rowES Tryd.underlying158 Tryd.underlying177 rfl rfl Tryd.underlying9 cellsES cellsStr
  obtain ⟨a5, c5, t5, ps6, v5, b5, rfl, h6⟩ := laid_first h5 (fun b off hm => hrows b off (by simp [hm])) g5N g5T Tryd.underlying48 rowES Tryd.underlying158 Tryd.underlying177 rfl rfl Tryd.underlying9 cellsES cellsStr
  obtain ⟨a6, c6, t6, ps7, v6, b6, rfl, h7⟩ := laid_first h6 (fun b off hm => hrows b off (by simp [hm])) g6N g6T Tryd.underlying48 rowES Tryd.underlying158 Tryd.underlying177 rfl rfl Tryd.underlying9 cellsES cellsStr
  obtain ⟨a7, c7, t7, ps8, v7, b7, rfl, h8⟩ := laid_first h7 (fun b off hm => hrows b off (by simp [hm])) g7N g7T Tryd.underlying48 rowES Tryd.underlying158 Tryd.underlying177 rfl rfl Tryd.underlying9 cellsES cellsStr
  clear hrows h8
  have ety := by simpa using World.var?_cell gTy e5h 0
  have e0 := by simpa using World.var?_cell g0N v0 0
  have e1 := by simpa using World.var?_cell g1N v1 0
  have e2 := by simpa using World.var?_cell g2N v2 0
  have e3 := by simpa using World.var?_cell g3N v3 0
  have e4 := by simpa using World.var?_cell g4N v4 0
  have e5 := by simpa using World.var?_cell g5N v5 0
  have e6 := by simpa using World.var?_cell g6N v6 0
  have e7 := by simpa using World.var?_cell g7N v7 0
  have n01 : a0 ≠ a1 := fun e => by rw [e] at hnd; simp at hnd
  have n32 : a3 ≠ a2 := fun e => by rw [e] at hnd; simp at hnd
  have n42 : a4 ≠ a2 := fun e => by rw [e] at hnd; simp at hnd
  have n52 : a5 ≠ a2 := fun e => by rw [e] at hnd; simp at hnd
  have n62 : a6 ≠ a2 := fun e => by rw [e] at hnd; simp at hnd
  have n72 : a7 ≠ a2 := fun e => by rw [e] at hnd; simp at hnd
  have n43 : a4 ≠ a3 := fun e => by rw [e] at hnd; simp at hnd
  have n53 : a5 ≠ a3 := fun e => by rw [e] at hnd; simp at hnd
  have n63 : a6 ≠ a3 := fun e => by rw [e] at hnd; simp at hnd
  have n73 : a7 ≠ a3 := fun e => by rw [e] at hnd; simp at hnd
  have n54 : a5 ≠ a4 := fun e => by rw [e] at hnd; simp at hnd
  have n64 : a6 ≠ a4 := fun e => by rw [e] at hnd; simp at hnd
  have n74 : a7 ≠ a4 := fun e => by rw [e] at hnd; simp at hnd
  exact ⟨⟨a2, a3, a4, a5, a6, a7⟩, a0, a1, ⟨ety, e0, e1, n01, ⟨_, _, b0⟩, ⟨_, _, b1⟩⟩, ⟨ety, e2, e3, e4, e5, e6, e7, ⟨_, _, b2⟩, ⟨_, _, b3⟩, ⟨_, _, b4⟩, ⟨_, _, b5⟩, ⟨_, _, b6⟩, ⟨_, _, b7⟩, n32, n42, n52, n62, n72, n43, n53, n63, n73, n54, n64, n74⟩⟩
abbrev sentS0 : ByteArray := ⟨#[98, 121, 116, 101, 115, 32, 97, 114, 101, 32, 109, 105, 115, 115, 105, 110, 103]⟩
abbrev sentS1 : ByteArray := ⟨#[110, 111, 32, 108, 101, 110, 103, 116, 104, 32, 98, 101, 103, 105, 110, 115, 32, 115, 111]⟩
abbrev sentS2 : ByteArray := ⟨#[98, 121, 116, 101, 115, 32, 97, 114, 101, 32, 109, 105, 115, 115, 105, 110, 103]⟩
abbrev sentS3 : ByteArray := ⟨#[116, 104, 101, 32, 116, 97, 103, 32, 103, 111, 101, 115, 32, 111, 110]⟩
abbrev sentS4 : ByteArray := ⟨#[109, 111, 114, 101, 32, 115, 116, 97, 110, 100, 115, 32, 98, 101, 104, 105, 110, 100, 32, 116, 104, 101, 32, 116, 114, 101, 101]⟩
abbrev sentS5 : ByteArray := ⟨#[116, 111, 111, 32, 109, 97, 110, 121, 32, 116, 114, 101, 101, 115, 44, 32, 111, 114, 32, 116, 111, 111, 32, 100, 101, 101, 112]⟩
abbrev sentS6 : ByteArray := ⟨#[110, 111, 32, 116, 97, 103, 44, 32, 111, 114, 32, 110, 111, 116, 32, 119, 104, 97, 116, 32, 105, 116, 32, 97, 108, 108, 111, 119, 115]⟩
abbrev sentS7 : ByteArray := ⟨#[116, 111, 111, 32, 109, 97, 110, 121, 32, 98, 121, 116, 101, 115]⟩
/-! The world of the witness is written out where it stands: the settled one, the nine variables laid, the errors' own blocks behind. -/
theorem laid_met (os : Os) (args : Array Value) : laidMetH Tryd.prog Ls (({ World.holding Tryd.prog os ⟨#[.cells #[.string sentS0] 177, .cells #[.string sentS1] 177, .cells #[.string sentS2] 177, .cells #[.string sentS3] 177, .cells #[.string sentS4] 177, .cells #[.string sentS5] 177, .cells #[.string sentS6] 177, .cells #[.string sentS7] 177], #[], []⟩ with heap := (((((((((World.holding Tryd.prog os ⟨#[.cells #[.string sentS0] 177, .cells #[.string sentS1] 177, .cells #[.string sentS2] 177, .cells #[.string sentS3] 177, .cells #[.string sentS4] 177, .cells #[.string sentS5] 177, .cells #[.string sentS6] 177, .cells #[.string sentS7] 177], #[], []⟩).heap.modify 9 fun | .cells _ t frozen => .cells #[.iface 158 (.pointer (some ⟨(World.holding Tryd.prog default ⟨#[], #[], []⟩).heap.size + 0, 0, none⟩))] t frozen | o => o).modify 6 fun | .cells _ t frozen => .cells #[.iface 158 (.pointer (some ⟨(World.holding Tryd.prog default ⟨#[], #[], []⟩).heap.size + 1, 0, none⟩))] t frozen | o => o).modify 4 fun | .cells _ t frozen => .cells #[.iface 158 (.pointer (some ⟨(World.holding Tryd.prog default ⟨#[], #[], []⟩).heap.size + 2, 0, none⟩))] t frozen | o => o).modify 5 fun | .cells _ t frozen => .cells #[.iface 158 (.pointer (some ⟨(World.holding Tryd.prog default ⟨#[], #[], []⟩).heap.size + 3, 0, none⟩))] t frozen | o => o).modify 0 fun | .cells _ t frozen => .cells #[.iface 158 (.pointer (some ⟨(World.holding Tryd.prog default ⟨#[], #[], []⟩).heap.size + 4, 0, none⟩))] t frozen | o => o).modify 1 fun | .cells _ t frozen => .cells #[.iface 158 (.pointer (some ⟨(World.holding Tryd.prog default ⟨#[], #[], []⟩).heap.size + 5, 0, none⟩))] t frozen | o => o).modify 2 fun | .cells _ t frozen => .cells #[.iface 158 (.pointer (some ⟨(World.holding Tryd.prog default ⟨#[], #[], []⟩).heap.size + 6, 0, none⟩))] t frozen | o => o).modify 3 fun | .cells _ t frozen => .cells #[.iface 158 (.pointer (some ⟨(World.holding Tryd.prog default ⟨#[], #[], []⟩).heap.size + 7, 0, none⟩))] t frozen | o => o).modify 7 fun | .cells _ t frozen => .cells #[.iface 115 (.agg #[.pointer (some ⟨10, 48, none⟩)])] t frozen | o => o } : World).forCall (fun _ _ => 0) ⟨#[], args, []⟩).memory :=
  laidMetH_of_parts (laidMet_of_run (ps := [.cell 9 0, .cell ((World.holding Tryd.prog default ⟨#[], #[], []⟩).heap.size + 0) 0, .cell 6 0, .cell ((World.holding Tryd.prog default ⟨#[], #[], []⟩).heap.size + 1) 0, .cell 4 0, .cell ((World.holding Tryd.prog default ⟨#[], #[], []⟩).heap.size + 2) 0, .cell 5 0, .cell ((World.holding Tryd.prog default ⟨#[], #[], []⟩).heap.size + 3) 0, .cell 0 0, .cell ((World.holding Tryd.prog default ⟨#[], #[], []⟩).heap.size + 4) 0, .cell 1 0, .cell ((World.holding Tryd.prog default ⟨#[], #[], []⟩).heap.size + 5) 0, .cell 2 0, .cell ((World.holding Tryd.prog default ⟨#[], #[], []⟩).heap.size + 6) 0, .cell 3 0, .cell ((World.holding Tryd.prog default ⟨#[], #[], []⟩).heap.size + 7) 0]) 20 (by kernel_rfl) (by kernel_rfl) (by kernel_rfl)) (by kernel_rfl)
end Go.Proofs.YthibodkemnkjeaaDoor
