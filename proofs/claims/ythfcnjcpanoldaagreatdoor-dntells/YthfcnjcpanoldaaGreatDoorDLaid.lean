/-
  What the rows' list of variables gives a walk ('Glob'), and a world that holds it. Conditions: none.
-/
import Derived.Test.YthfcnjcpanoldaaGreatDoorCards
import Derived.Test.YthfcnjcpanoldaaGreatDoorTie
import Derived.Test.YthfcnjcpanoldaaGreatDoorDShown
import Derived.WalkKit
import Derived.ProofKit
import Derived.OpenShut
import Derived.Deep.DeepHandedRow
import Derived.LaidLaws
import Derived.LaidHandle
import Derived.Stop.LaidTwo
namespace Go.Proofs.YthfcnjcpanoldaaGreatDoor.D
open Go.ChangeShapes Go.WideShapes Go.ChangeAt Go.RowKit

/-- THE FIRST OF THE LIST, A SENTINEL: what it holds, and what is left of the list. -/
theorem laid_first {P : Program} {n0 nm : String} {text0 : List UInt8} {r : List (String × DataW Unit)} {W : World} {ps : List MemPlace} {g0 : Nat} {ti tp te ts : TypeId} {ms : Array (String × TypeId)} {f : Field}
    (h : DataW.LaidVars P W ((n0, .iface nm (.ptr (.agg [.lit (.string text0)]))) :: r) ps)
    (hrows : ∀ b off, MemPlace.cell b off ∈ ps → (∃ c t, W.heap[b]? = some (.cells c t (0, 0))) ∧ ∀ u v, W.cell? ⟨b, off, none⟩ = some (.iface u v) → Value.okWide P W .any 0 u v)
    (hg0 : P.globalNamed n0 = some g0) (ht0 : (P.globals[g0]?).map (·.type) = some ti)
    (hi : P.underlying ti = some (.interface ms)) (hrow : ∀ u, P.typeName? 3 u = some nm → u = tp)
    (hp : P.underlying tp = some (.pointer te)) (he : P.underlying te = some (.struct #[f])) (hft : f.type = ts) (hfo : f.offset = 0) (hs : P.underlying ts = some .string) (hc : P.cellsOf te = 1) (hcs : P.cellsOf ts = 1) :
    ∃ (a : Addr) (c : Array Value) (t : TypeId) (ps' : List MemPlace), W.var? P n0 = some #[.iface tp (.pointer (some a))] ∧ W.heap[a.block]? = some (.cells c t (0, 0)) ∧ ps = .cell g0 0 :: .cell a.block a.off :: ps' ∧ DataW.LaidVars P W r ps' := by
  obtain ⟨g0', t0', cs0, f0, p0, q0, hg0', ht0', hv0, hd0, hrest, e0⟩ := h
  obtain rfl := Option.some.inj (hg0.symm.trans hg0')
  obtain rfl := Option.some.inj (ht0.symm.trans ht0')
  subst e0
  obtain ⟨l0⟩ := cs0
  have ok0 : ∀ u v, l0 = [.iface u v] → Value.okWide P W .any 0 u v := fun u v e => by
    subst e
    exact (hrows g0 0 (by simp [MemPlace.row])).2 u v (by simpa using World.var?_cell hg0' hv0 0)
  obtain ⟨a0, s0, rfl, hc0, hs0, hz0, rfl⟩ := errorString_of_trod hi hrow hp he hft hfo hs hc hcs hd0 ok0
  obtain ⟨c0, t0, hb0⟩ := (hrows a0.block a0.off (by simp [MemPlace.row])).1
  exact ⟨a0, c0, t0, q0, hv0, hb0, by simp [MemPlace.row], hrest⟩

theorem own : ownKnob Tryz.prog.godebug = none := by kernel_rfl
theorem gTy : Tryz.prog.globalNamed "errors.errorType" = some 4 := by kernel_rfl
theorem g0N : Tryz.prog.globalNamed "latiner/code.errCut" = some 10 := by kernel_rfl
theorem g0T : (Tryz.prog.globals[10]?).map (·.type) = some 45 := by kernel_rfl
theorem g1N : Tryz.prog.globalNamed "latiner/code.errEnd" = some 9 := by kernel_rfl
theorem g1T : (Tryz.prog.globals[9]?).map (·.type) = some 45 := by kernel_rfl
theorem g2N : Tryz.prog.globalNamed "latiner/code.errBits" = some 11 := by kernel_rfl
theorem g2T : (Tryz.prog.globals[11]?).map (·.type) = some 45 := by kernel_rfl
theorem g3N : Tryz.prog.globalNamed "latiner/utf.errUtf" = some 8 := by kernel_rfl
theorem g3T : (Tryz.prog.globals[8]?).map (·.type) = some 45 := by kernel_rfl
theorem g4N : Tryz.prog.globalNamed "latiner/esc.errText" = some 6 := by kernel_rfl
theorem g4T : (Tryz.prog.globals[6]?).map (·.type) = some 45 := by kernel_rfl
theorem g5N : Tryz.prog.globalNamed "latiner/esc.errMark" = some 7 := by kernel_rfl
theorem g5T : (Tryz.prog.globals[7]?).map (·.type) = some 45 := by kernel_rfl
theorem g6N : Tryz.prog.globalNamed "latiner/dn.errCount" = some 0 := by kernel_rfl
theorem g6T : (Tryz.prog.globals[0]?).map (·.type) = some 45 := by kernel_rfl
theorem g7N : Tryz.prog.globalNamed "latiner/dn.errType" = some 1 := by kernel_rfl
theorem g7T : (Tryz.prog.globals[1]?).map (·.type) = some 45 := by kernel_rfl
theorem g8N : Tryz.prog.globalNamed "latiner/dn.errLong" = some 2 := by kernel_rfl
theorem g8T : (Tryz.prog.globals[2]?).map (·.type) = some 45 := by kernel_rfl
theorem g9N : Tryz.prog.globalNamed "latiner/dn.errPiece" = some 3 := by kernel_rfl
theorem g9T : (Tryz.prog.globals[3]?).map (·.type) = some 45 := by kernel_rfl
theorem rtRow : (Tryz.prog.cutTypes.find? (·.1 == "internal/reflectlite.rtype")).map (·.2) = some 135 := by kernel_rfl
theorem oneRow : ((List.range 248).filter fun t => Tryz.prog.rowNamed t [101, 114, 114, 111, 114]) = [45] := by kernel_rfl
theorem nTypes : Tryz.prog.types.size = 248 := by kernel_rfl
theorem handleError : typeHandle Tryz.prog 45 = .pointer (some ⟨12, 45, none⟩) := by kernel_rfl
theorem cellsES : Tryz.prog.cellsOf 237 = 1 := by kernel_rfl
theorem cellsStr : Tryz.prog.cellsOf 9 = 1 := by kernel_rfl

/-- the rows' list. -/
abbrev Ls : List (String × DataW Unit) := [("errors.errorType", Rows.laid_errors_errorType), ("latiner/code.errCut", Rows.laid_latiner_code_errCut), ("latiner/code.errEnd", Rows.laid_latiner_code_errEnd), ("latiner/code.errBits", Rows.laid_latiner_code_errBits), ("latiner/utf.errUtf", Rows.laid_latiner_utf_errUtf), ("latiner/esc.errText", Rows.laid_latiner_esc_errText), ("latiner/esc.errMark", Rows.laid_latiner_esc_errMark), ("latiner/dn.errCount", Rows.laid_latiner_dn_errCount), ("latiner/dn.errType", Rows.laid_latiner_dn_errType), ("latiner/dn.errLong", Rows.laid_latiner_dn_errLong), ("latiner/dn.errPiece", Rows.laid_latiner_dn_errPiece)]

theorem star : "*" ++ "errors.errorString" = "*errors.errorString" := by decide
theorem rowES (u : TypeId) (h : Tryz.prog.typeName? 3 u = some "*errors.errorString") : u = 219 :=
  typeName_ptr_named (P := Tryz.prog) (nm := "errors.errorString") (by rw [star]; kernel_rfl) (by kernel_rfl) (by decide) u (by rw [star]; exact h)

theorem glob_of_laid {W : World} (h : laidMetH Tryz.prog Ls W) : ∃ a, Glob a W := by
  have h' : laidMet Tryz.prog [("latiner/code.errCut", Rows.laid_latiner_code_errCut), ("latiner/code.errEnd", Rows.laid_latiner_code_errEnd), ("latiner/code.errBits", Rows.laid_latiner_code_errBits), ("latiner/utf.errUtf", Rows.laid_latiner_utf_errUtf), ("latiner/esc.errText", Rows.laid_latiner_esc_errText), ("latiner/esc.errMark", Rows.laid_latiner_esc_errMark), ("latiner/dn.errCount", Rows.laid_latiner_dn_errCount), ("latiner/dn.errType", Rows.laid_latiner_dn_errType), ("latiner/dn.errLong", Rows.laid_latiner_dn_errLong), ("latiner/dn.errPiece", Rows.laid_latiner_dn_errPiece)] W ∧ handlesMet Tryz.prog [("errors.errorType", Rows.laid_errors_errorType)] W := h
  obtain ⟨hd, hh⟩ := h'
  obtain ⟨name, u, ty, x1, x2, x3, x4, e5h⟩ := hh _ (List.mem_singleton.2 rfl)
  have en : name = [101, 114, 114, 111, 114] := (Option.some.inj x1).symm
  subst en
  obtain rfl := Option.some.inj (rtRow.symm.trans x2)
  have hm : ty ∈ (List.range 248).filter fun t => Tryz.prog.rowNamed t [101, 114, 114, 111, 114] := List.mem_filter.2 ⟨List.mem_range.2 (by rw [← nTypes]; exact x3), x4⟩
  rw [oneRow] at hm
  obtain rfl := List.mem_singleton.1 hm
  rw [handleError] at e5h
  obtain ⟨ps0, h0, hnd, hrows⟩ := hd
  obtain ⟨a0, c0, t0, ps1, v0, b0, rfl, h1⟩ := laid_first h0 (fun b off hm => hrows b off (by simp [hm])) g0N g0T Tryz.underlying45 rowES Tryz.underlying219 Tryz.underlying237 rfl rfl Tryz.underlying9 cellsES cellsStr
  obtain ⟨a1, c1, t1, ps2, v1, b1, rfl, h2⟩ := laid_first h1 (fun b off hm => hrows b off (by simp [hm])) g1N g1T Tryz.underlying45 rowES Tryz.underlying219 Tryz.underlying237 rfl rfl Tryz.underlying9 cellsES cellsStr
  obtain ⟨a2, c2, t2, ps3, v2, b2, rfl, h3⟩ := laid_first h2 (fun b off hm => hrows b off (by simp [hm])) g2N g2T Tryz.underlying45 rowES Tryz.underlying219 Tryz.underlying237 rfl rfl Tryz.underlying9 cellsES cellsStr
  obtain ⟨a3, c3, t3, ps4, v3, b3, rfl, h4⟩ := laid_first h3 (fun b off hm => hrows b off (by simp [hm])) g3N g3T Tryz.underlying45 rowES Tryz.underlying219 Tryz.underlying237 rfl rfl Tryz.underlying9 cellsES cellsStr
  obtain ⟨a4, c4, t4, ps5, v4, b4, rfl, h5⟩ := laid_first h4 (fun b off hm => hrows b off (by simp [hm])) g4N g4T Tryz.underlying45 rowES Tryz.underlying219 Tryz.underlying237 rfl rfl Tryz.underlying9 cellsES cellsStr
  obtain ⟨a5, c5, t5, ps6, v5, b5, rfl, h6⟩ := laid_first h5 (fun b off hm => hrows b off (by simp [hm])) g5N g5T Tryz.underlying45 rowES Tryz.underlying219 Tryz.underlying237 rfl rfl Tryz.underlying9 cellsES cellsStr
  obtain ⟨a6, c6, t6, ps7, v6, b6, rfl, h7⟩ := laid_first h6 (fun b off hm => hrows b off (by simp [hm])) g6N g6T Tryz.underlying45 rowES Tryz.underlying219 Tryz.underlying237 rfl rfl Tryz.underlying9 cellsES cellsStr
  obtain ⟨a7, c7, t7, ps8, v7, b7, rfl, h8⟩ := laid_first h7 (fun b off hm => hrows b off (by simp [hm])) g7N g7T Tryz.underlying45 rowES Tryz.underlying219 Tryz.underlying237 rfl rfl Tryz.underlying9 cellsES cellsStr
  obtain ⟨a8, c8, t8, ps9, v8, b8, rfl, h9⟩ := laid_first h8 (fun b off hm => hrows b off (by simp [hm])) g8N g8T Tryz.underlying45 rowES Tryz.underlying219 Tryz.underlying237 rfl rfl Tryz.underlying9 cellsES cellsStr
  obtain ⟨a9, c9, t9, ps10, v9, b9, rfl, h10⟩ := laid_first h9 (fun b off hm => hrows b off (by simp [hm])) g9N g9T Tryz.underlying45 rowES Tryz.underlying219 Tryz.underlying237 rfl rfl Tryz.underlying9 cellsES cellsStr
  clear hrows h10
  have eT := World.var?_cell gTy e5h 0
  have n1_0 : a1 ≠ a0 := fun e => by rw [e] at hnd; simp at hnd
  have n2_0 : a2 ≠ a0 := fun e => by rw [e] at hnd; simp at hnd
  have n2_1 : a2 ≠ a1 := fun e => by rw [e] at hnd; simp at hnd
  have n5_4 : a5 ≠ a4 := fun e => by rw [e] at hnd; simp at hnd
  have n7_6 : a7 ≠ a6 := fun e => by rw [e] at hnd; simp at hnd
  have n8_6 : a8 ≠ a6 := fun e => by rw [e] at hnd; simp at hnd
  have n8_7 : a8 ≠ a7 := fun e => by rw [e] at hnd; simp at hnd
  have n9_6 : a9 ≠ a6 := fun e => by rw [e] at hnd; simp at hnd
  have n9_7 : a9 ≠ a7 := fun e => by rw [e] at hnd; simp at hnd
  have n9_8 : a9 ≠ a8 := fun e => by rw [e] at hnd; simp at hnd
  exact ⟨⟨⟨⟨a0, a1, a2⟩, a3, a3, a4, a5⟩, a6, a7, a8, a9⟩, ⟨⟨by simpa using eT, by simpa using World.var?_cell g0N v0 0, by simpa using World.var?_cell g1N v1 0, by simpa using World.var?_cell g2N v2 0, n1_0, n2_0, n2_1, ⟨_, _, b0⟩, ⟨_, _, b1⟩, ⟨_, _, b2⟩⟩, ⟨by simpa using eT, by simpa using World.var?_cell g3N v3 0⟩, by simpa using World.var?_cell g4N v4 0, by simpa using World.var?_cell g5N v5 0, n5_4, ⟨_, _, b4⟩, ⟨_, _, b5⟩⟩, by simpa using World.var?_cell g6N v6 0, by simpa using World.var?_cell g7N v7 0, by simpa using World.var?_cell g8N v8 0, by simpa using World.var?_cell g9N v9 0, n7_6, n8_6, n8_7, n9_6, n9_7, n9_8, ⟨_, _, b6⟩, ⟨_, _, b7⟩, ⟨_, _, b8⟩, ⟨_, _, b9⟩⟩
abbrev sentS0 : ByteArray := ⟨#[97, 32, 103, 114, 111, 117, 112, 39, 115, 32, 115, 105, 103, 110, 115, 32, 109, 105, 115, 115]⟩
abbrev sentS1 : ByteArray := ⟨#[115, 105, 103, 110, 115, 32, 98, 101, 104, 105, 110, 100, 32, 116, 104, 101, 32, 101, 110, 100]⟩
abbrev sentS2 : ByteArray := ⟨#[98, 105, 116, 115, 32, 116, 104, 97, 116, 32, 116, 101, 108, 108, 32, 110, 111, 116, 104, 105, 110, 103, 32, 97, 114, 101, 32, 110, 111, 116, 32, 48]⟩
abbrev sentS3 : ByteArray := ⟨#[110, 111, 32, 115, 105, 103, 110, 39, 115, 32, 98, 121, 116, 101, 115, 32, 98, 101, 103, 105, 110, 32, 115, 111]⟩
abbrev sentS4 : ByteArray := ⟨#[110, 111, 32, 115, 105, 103, 110, 39, 115, 32, 98, 121, 116, 101, 115, 32, 98, 101, 103, 105, 110, 32, 115, 111]⟩
abbrev sentS5 : ByteArray := ⟨#[97, 32, 98, 97, 99, 107, 115, 108, 97, 115, 104, 32, 115, 116, 97, 110, 100, 115, 32, 97, 104, 101, 97, 100, 32, 111, 102, 32, 110, 111, 116, 104, 105, 110, 103, 32, 116, 104, 97, 116, 32, 105, 116, 32, 109, 97, 121]⟩
abbrev sentS6 : ByteArray := ⟨#[116, 111, 111, 32, 109, 97, 110, 121, 32, 112, 97, 114, 116, 115, 44, 32, 111, 114, 32, 110, 111, 110, 101]⟩
abbrev sentS7 : ByteArray := ⟨#[110, 111, 32, 116, 121, 112, 101]⟩
abbrev sentS8 : ByteArray := ⟨#[116, 104, 101, 32, 118, 97, 108, 117, 101, 32, 105, 115, 32, 116, 111, 111, 32, 108, 111, 110, 103]⟩
abbrev sentS9 : ByteArray := ⟨#[110, 111, 32, 115, 105, 103, 110, 32, 98, 101, 116, 119, 101, 101, 110, 32, 97, 32, 116, 121, 112, 101, 32, 97, 110, 100, 32, 97, 32, 118, 97, 108, 117, 101]⟩
/-! The world of the witness is written out where it stands: the settled one, the variables laid, the errors' own blocks behind. -/
theorem laid_met (os : Os) (args : Array Value) : laidMetH Tryz.prog Ls (({ World.holding Tryz.prog os ⟨#[.cells #[.string sentS0] 237, .cells #[.string sentS1] 237, .cells #[.string sentS2] 237, .cells #[.string sentS3] 237, .cells #[.string sentS4] 237, .cells #[.string sentS5] 237, .cells #[.string sentS6] 237, .cells #[.string sentS7] 237, .cells #[.string sentS8] 237, .cells #[.string sentS9] 237], #[], []⟩ with heap := (((((((((((World.holding Tryz.prog os ⟨#[.cells #[.string sentS0] 237, .cells #[.string sentS1] 237, .cells #[.string sentS2] 237, .cells #[.string sentS3] 237, .cells #[.string sentS4] 237, .cells #[.string sentS5] 237, .cells #[.string sentS6] 237, .cells #[.string sentS7] 237, .cells #[.string sentS8] 237, .cells #[.string sentS9] 237], #[], []⟩).heap.modify 10 fun | .cells _ t frozen => .cells #[.iface 219 (.pointer (some ⟨(World.holding Tryz.prog default ⟨#[], #[], []⟩).heap.size + 0, 0, none⟩))] t frozen | o => o).modify 9 fun | .cells _ t frozen => .cells #[.iface 219 (.pointer (some ⟨(World.holding Tryz.prog default ⟨#[], #[], []⟩).heap.size + 1, 0, none⟩))] t frozen | o => o).modify 11 fun | .cells _ t frozen => .cells #[.iface 219 (.pointer (some ⟨(World.holding Tryz.prog default ⟨#[], #[], []⟩).heap.size + 2, 0, none⟩))] t frozen | o => o).modify 8 fun | .cells _ t frozen => .cells #[.iface 219 (.pointer (some ⟨(World.holding Tryz.prog default ⟨#[], #[], []⟩).heap.size + 3, 0, none⟩))] t frozen | o => o).modify 6 fun | .cells _ t frozen => .cells #[.iface 219 (.pointer (some ⟨(World.holding Tryz.prog default ⟨#[], #[], []⟩).heap.size + 4, 0, none⟩))] t frozen | o => o).modify 7 fun | .cells _ t frozen => .cells #[.iface 219 (.pointer (some ⟨(World.holding Tryz.prog default ⟨#[], #[], []⟩).heap.size + 5, 0, none⟩))] t frozen | o => o).modify 0 fun | .cells _ t frozen => .cells #[.iface 219 (.pointer (some ⟨(World.holding Tryz.prog default ⟨#[], #[], []⟩).heap.size + 6, 0, none⟩))] t frozen | o => o).modify 1 fun | .cells _ t frozen => .cells #[.iface 219 (.pointer (some ⟨(World.holding Tryz.prog default ⟨#[], #[], []⟩).heap.size + 7, 0, none⟩))] t frozen | o => o).modify 2 fun | .cells _ t frozen => .cells #[.iface 219 (.pointer (some ⟨(World.holding Tryz.prog default ⟨#[], #[], []⟩).heap.size + 8, 0, none⟩))] t frozen | o => o).modify 3 fun | .cells _ t frozen => .cells #[.iface 219 (.pointer (some ⟨(World.holding Tryz.prog default ⟨#[], #[], []⟩).heap.size + 9, 0, none⟩))] t frozen | o => o).modify 4 fun | .cells _ t frozen => .cells #[.iface 135 (.agg #[.pointer (some ⟨12, 45, none⟩)])] t frozen | o => o } : World).forCall (fun _ _ => 0) ⟨#[], args, []⟩).memory :=
  laidMetH_of_parts (laidMet_of_run (ps := [.cell 10 0, .cell ((World.holding Tryz.prog default ⟨#[], #[], []⟩).heap.size + 0) 0, .cell 9 0, .cell ((World.holding Tryz.prog default ⟨#[], #[], []⟩).heap.size + 1) 0, .cell 11 0, .cell ((World.holding Tryz.prog default ⟨#[], #[], []⟩).heap.size + 2) 0, .cell 8 0, .cell ((World.holding Tryz.prog default ⟨#[], #[], []⟩).heap.size + 3) 0, .cell 6 0, .cell ((World.holding Tryz.prog default ⟨#[], #[], []⟩).heap.size + 4) 0, .cell 7 0, .cell ((World.holding Tryz.prog default ⟨#[], #[], []⟩).heap.size + 5) 0, .cell 0 0, .cell ((World.holding Tryz.prog default ⟨#[], #[], []⟩).heap.size + 6) 0, .cell 1 0, .cell ((World.holding Tryz.prog default ⟨#[], #[], []⟩).heap.size + 7) 0, .cell 2 0, .cell ((World.holding Tryz.prog default ⟨#[], #[], []⟩).heap.size + 8) 0, .cell 3 0, .cell ((World.holding Tryz.prog default ⟨#[], #[], []⟩).heap.size + 9) 0]) 8 (by kernel_rfl) (by kernel_rfl) (by kernel_rfl)) (by kernel_rfl)
end Go.Proofs.YthfcnjcpanoldaaGreatDoor.D
