/-
  What the rows' list of variables gives a walk ('Glob'), and a world that holds it. Conditions: none.
-/
import Derived.Test.YtgapoofalnakmaaDoorCards
import Derived.Test.YtgapoofalnakmaaDoorTie
import Derived.Test.YtgapoofalnakmaaDoorEFacts
import Derived.WalkKit
import Derived.ProofKit
import Derived.OpenShut
import Derived.Deep.DeepHandedRow
import Derived.LaidLaws
import Derived.LaidHandle
import Derived.Stop.LaidTwo
namespace Go.Proofs.YtgapoofalnakmaaDoor.E
open Go.ChangeShapes Go.WideShapes Go.ChangeAt Go.RowKit

/-- THE FIRST OF THE LIST, A SENTINEL: what it holds, and what is left of the list. -/
theorem laid_first {P : Program} {n0 nm : String} {text0 : List UInt8} {r : List (String × DataW Unit)} {W : World} {ps : List MemPlace} {g0 : Nat} {ti tp te ts : TypeId} {ms : Array (String × TypeId)} {f : Field}
    (h : DataW.LaidVars P W ((n0, .iface nm (.ptr (.agg [.lit (.string text0)]))) :: r) ps)
    (hrows : ∀ b off, MemPlace.cell b off ∈ ps → (∃ c t, W.heap[b]? = some (.cells c t (0, 0))) ∧ ∀ u v, W.cell? ⟨b, off, none⟩ = some (.iface u v) → Value.okWide P W .any 0 u v)
    (hg0 : P.globalNamed n0 = some g0) (ht0 : (P.globals[g0]?).map (·.type) = some ti)
    (hi : P.underlying ti = some (.interface ms)) (hrow : ∀ u, P.typeName? 3 u = some nm → u = tp)
    (hp : P.underlying tp = some (.pointer te)) (he : P.underlying te = some (.struct #[f])) (hft : f.type = ts) (hfo : f.offset = 0) (hs : P.underlying ts = some .string) (hc : P.cellsOf te = 1) (hcs : P.cellsOf ts = 1) :
    ∃ (a : Addr) (c : Array Value) (t : TypeId) (ps' : List MemPlace), W.var? P n0 = some #[.iface tp (.pointer (some a))] ∧ W.heap[a.block]? = some (.cells c t (0, 0)) ∧ ps = .cell g0 0 :: .cell a.block a.off :: ps' ∧ DataW.LaidVars P W r ps' := by
  obtain ⟨g0', t0', cs0, f0, p0, q0, hg0', ht0', hv0, hd0, hrest, e0⟩ := h
  obtain rfl := Option.some.inj (hg0.symm.trans hg0')
  obtain rfl := Option.some.inj (ht0.symm.trans ht0')
  subst e0
  obtain ⟨l0⟩ := cs0
  have ok0 : ∀ u v, l0 = [.iface u v] → Value.okWide P W .any 0 u v := fun u v e => by
    subst e
    exact (hrows g0 0 (by simp [MemPlace.row])).2 u v (by simpa using World.var?_cell hg0' hv0 0)
  obtain ⟨a0, s0, rfl, hc0, hs0, hz0, rfl⟩ := errorString_of_trod hi hrow hp he hft hfo hs hc hcs hd0 ok0
  obtain ⟨c0, t0, hb0⟩ := (hrows a0.block a0.off (by simp [MemPlace.row])).1
  exact ⟨a0, c0, t0, q0, hv0, hb0, by simp [MemPlace.row], hrest⟩

theorem own : ownKnob Tryd.prog.godebug = none := by kernel_rfl
theorem gTy : Tryd.prog.globalNamed "errors.errorType" = some 2 := by kernel_rfl
theorem g0N : Tryd.prog.globalNamed "latiner/code.errCut" = some 5 := by kernel_rfl
theorem g0T : (Tryd.prog.globals[5]?).map (·.type) = some 36 := by kernel_rfl
theorem g1N : Tryd.prog.globalNamed "latiner/code.errEnd" = some 4 := by kernel_rfl
theorem g1T : (Tryd.prog.globals[4]?).map (·.type) = some 36 := by kernel_rfl
theorem g2N : Tryd.prog.globalNamed "latiner/code.errBits" = some 6 := by kernel_rfl
theorem g2T : (Tryd.prog.globals[6]?).map (·.type) = some 36 := by kernel_rfl
theorem g3N : Tryd.prog.globalNamed "latiner/utf.errUtf" = some 3 := by kernel_rfl
theorem g3T : (Tryd.prog.globals[3]?).map (·.type) = some 36 := by kernel_rfl
theorem g4N : Tryd.prog.globalNamed "latiner/esc.errText" = some 0 := by kernel_rfl
theorem g4T : (Tryd.prog.globals[0]?).map (·.type) = some 36 := by kernel_rfl
theorem g5N : Tryd.prog.globalNamed "latiner/esc.errMark" = some 1 := by kernel_rfl
theorem g5T : (Tryd.prog.globals[1]?).map (·.type) = some 36 := by kernel_rfl
theorem rtRow : (Tryd.prog.cutTypes.find? (·.1 == "internal/reflectlite.rtype")).map (·.2) = some 104 := by kernel_rfl
theorem oneRow : ((List.range 184).filter fun t => Tryd.prog.rowNamed t [101, 114, 114, 111, 114]) = [36] := by kernel_rfl
theorem nTypes : Tryd.prog.types.size = 184 := by kernel_rfl
theorem handleError : typeHandle Tryd.prog 36 = .pointer (some ⟨7, 36, none⟩) := by kernel_rfl
theorem cellsES : Tryd.prog.cellsOf 173 = 1 := by kernel_rfl
theorem cellsStr : Tryd.prog.cellsOf 9 = 1 := by kernel_rfl

/-- the rows' list. -/
abbrev Ls : List (String × DataW Unit) := [("errors.errorType", Rows.laid_errors_errorType), ("latiner/code.errCut", Rows.laid_latiner_code_errCut), ("latiner/code.errEnd", Rows.laid_latiner_code_errEnd), ("latiner/code.errBits", Rows.laid_latiner_code_errBits), ("latiner/utf.errUtf", Rows.laid_latiner_utf_errUtf), ("latiner/esc.errText", Rows.laid_latiner_esc_errText), ("latiner/esc.errMark", Rows.laid_latiner_esc_errMark)]

theorem star : "*" ++ "errors.errorString" = "*errors.errorString" := by decide
theorem rowES (u : TypeId) (h : Tryd.prog.typeName? 3 u = some "*errors.errorString") : u = 151 :=
  typeName_ptr_named (P := Tryd.prog) (nm := "errors.errorString") (by rw [star]; kernel_rfl) (by kernel_rfl) (by decide) u (by rw [star]; exact h)

theorem glob_of_laid {W : World} (h : laidMetH Tryd.prog Ls W) : ∃ a, Glob a W := by
  have h' : laidMet Tryd.prog [("latiner/code.errCut", Rows.laid_latiner_code_errCut), ("latiner/code.errEnd", Rows.laid_latiner_code_errEnd), ("latiner/code.errBits", Rows.laid_latiner_code_errBits), ("latiner/utf.errUtf", Rows.laid_latiner_utf_errUtf), ("latiner/esc.errText", Rows.laid_latiner_esc_errText), ("latiner/esc.errMark", Rows.laid_latiner_esc_errMark)] W ∧ handlesMet Tryd.prog [("errors.errorType", Rows.laid_errors_errorType)] W := h
  obtain ⟨hd, hh⟩ := h'
  obtain ⟨name, u, ty, x1, x2, x3, x4, e5h⟩ := hh _ (List.mem_singleton.2 rfl)
  have en : name = [101, 114, 114, 111, 114] := (Option.some.inj x1).symm
  subst en
  obtain rfl := Option.some.inj (rtRow.symm.trans x2)
  have hm : ty ∈ (List.range 184).filter fun t => Tryd.prog.rowNamed t [101, 114, 114, 111, 114] := List.mem_filter.2 ⟨List.mem_range.2 (by rw [← nTypes]; exact x3), x4⟩
  rw [oneRow] at hm
  obtain rfl := List.mem_singleton.1 hm
  rw [handleError] at e5h
  obtain ⟨ps0, h0, hnd, hrows⟩ := hd
  obtain ⟨a0, c0, t0, ps1, v0, b0, rfl, h1⟩ := laid_first h0 (fun b off hm => hrows b off (by simp [hm])) g0N g0T Tryd.underlying36 rowES Tryd.underlying151 Tryd.underlying173 rfl rfl Tryd.underlying9 cellsES cellsStr
  obtain ⟨a1, c1, t1, ps2, v1, b1, rfl, h2⟩ := laid_first h1 (fun b off hm => hrows b off (by simp [hm])) g1N g1T Tryd.underlying36 rowES Tryd.underlying151 Tryd.underlying173 rfl rfl Tryd.underlying9 cellsES cellsStr
  obtain ⟨a2, c2, t2, ps3, v2, b2, rfl, h3⟩ := laid_first h2 (fun b off hm => hrows b off (by simp [hm])) g2N g2T Tryd.underlying36 rowES Tryd.underlying151 Tryd.underlying173 rfl rfl Tryd.underlying9 cellsES cellsStr
  obtain ⟨a3, c3, t3, ps4, v3, b3, rfl, h4⟩ := laid_first h3 (fun b off hm => hrows b off (by simp [hm])) g3N g3T Tryd.underlying36 rowES Tryd.underlying151 Tryd.underlying173 rfl rfl Tryd.underlying9 cellsES cellsStr
  obtain ⟨a4, c4, t4, ps5, v4, b4, rfl, h5⟩ := laid_first h4 (fun b off hm => hrows b off (by simp [hm])) g4N g4T Tryd.underlying36 rowES Tryd.underlying151 Tryd.underlying173 rfl rfl Tryd.underlying9 cellsES cellsStr
  obtain ⟨a5, c5, t5, ps6, v5, b5, rfl, h6⟩ := laid_first h5 (fun b off hm => hrows b off (by simp [hm])) g5N g5T Tryd.underlying36 rowES Tryd.underlying151 Tryd.underlying173 rfl rfl Tryd.underlying9 cellsES cellsStr
  clear hrows h6
  have eT := World.var?_cell gTy e5h 0
  have n10 : a1 ≠ a0 := fun e => by rw [e] at hnd; simp at hnd
  have n20 : a2 ≠ a0 := fun e => by rw [e] at hnd; simp at hnd
  have n21 : a2 ≠ a1 := fun e => by rw [e] at hnd; simp at hnd
  have n54 : a5 ≠ a4 := fun e => by rw [e] at hnd; simp at hnd
  exact ⟨⟨⟨a0, a1, a2⟩, a3, a3, a4, a5⟩, ⟨by simpa using eT, by simpa using World.var?_cell g0N v0 0, by simpa using World.var?_cell g1N v1 0, by simpa using World.var?_cell g2N v2 0, n10, n20, n21, ⟨_, _, b0⟩, ⟨_, _, b1⟩, ⟨_, _, b2⟩⟩, ⟨by simpa using eT, by simpa using World.var?_cell g3N v3 0⟩, by simpa using World.var?_cell g4N v4 0, by simpa using World.var?_cell g5N v5 0, n54, ⟨_, _, b4⟩, ⟨_, _, b5⟩⟩
abbrev sentS0 : ByteArray := ⟨#[97, 32, 103, 114, 111, 117, 112, 39, 115, 32, 115, 105, 103, 110, 115, 32, 109, 105, 115, 115]⟩
abbrev sentS1 : ByteArray := ⟨#[115, 105, 103, 110, 115, 32, 98, 101, 104, 105, 110, 100, 32, 116, 104, 101, 32, 101, 110, 100]⟩
abbrev sentS2 : ByteArray := ⟨#[98, 105, 116, 115, 32, 116, 104, 97, 116, 32, 116, 101, 108, 108, 32, 110, 111, 116, 104, 105, 110, 103, 32, 97, 114, 101, 32, 110, 111, 116, 32, 48]⟩
abbrev sentS3 : ByteArray := ⟨#[110, 111, 32, 115, 105, 103, 110, 39, 115, 32, 98, 121, 116, 101, 115, 32, 98, 101, 103, 105, 110, 32, 115, 111]⟩
abbrev sentS4 : ByteArray := ⟨#[110, 111, 32, 115, 105, 103, 110, 39, 115, 32, 98, 121, 116, 101, 115, 32, 98, 101, 103, 105, 110, 32, 115, 111]⟩
abbrev sentS5 : ByteArray := ⟨#[97, 32, 98, 97, 99, 107, 115, 108, 97, 115, 104, 32, 115, 116, 97, 110, 100, 115, 32, 97, 104, 101, 97, 100, 32, 111, 102, 32, 110, 111, 116, 104, 105, 110, 103, 32, 116, 104, 97, 116, 32, 105, 116, 32, 109, 97, 121]⟩
/-! The world of the witness is written out where it stands: the settled one, the variables laid, the errors' own blocks behind. -/
theorem laid_met (os : Os) (args : Array Value) : laidMetH Tryd.prog Ls (({ World.holding Tryd.prog os ⟨#[.cells #[.string sentS0] 173, .cells #[.string sentS1] 173, .cells #[.string sentS2] 173, .cells #[.string sentS3] 173, .cells #[.string sentS4] 173, .cells #[.string sentS5] 173], #[], []⟩ with heap := (((((((World.holding Tryd.prog os ⟨#[.cells #[.string sentS0] 173, .cells #[.string sentS1] 173, .cells #[.string sentS2] 173, .cells #[.string sentS3] 173, .cells #[.string sentS4] 173, .cells #[.string sentS5] 173], #[], []⟩).heap.modify 5 fun | .cells _ t frozen => .cells #[.iface 151 (.pointer (some ⟨(World.holding Tryd.prog default ⟨#[], #[], []⟩).heap.size + 0, 0, none⟩))] t frozen | o => o).modify 4 fun | .cells _ t frozen => .cells #[.iface 151 (.pointer (some ⟨(World.holding Tryd.prog default ⟨#[], #[], []⟩).heap.size + 1, 0, none⟩))] t frozen | o => o).modify 6 fun | .cells _ t frozen => .cells #[.iface 151 (.pointer (some ⟨(World.holding Tryd.prog default ⟨#[], #[], []⟩).heap.size + 2, 0, none⟩))] t frozen | o => o).modify 3 fun | .cells _ t frozen => .cells #[.iface 151 (.pointer (some ⟨(World.holding Tryd.prog default ⟨#[], #[], []⟩).heap.size + 3, 0, none⟩))] t frozen | o => o).modify 0 fun | .cells _ t frozen => .cells #[.iface 151 (.pointer (some ⟨(World.holding Tryd.prog default ⟨#[], #[], []⟩).heap.size + 4, 0, none⟩))] t frozen | o => o).modify 1 fun | .cells _ t frozen => .cells #[.iface 151 (.pointer (some ⟨(World.holding Tryd.prog default ⟨#[], #[], []⟩).heap.size + 5, 0, none⟩))] t frozen | o => o).modify 2 fun | .cells _ t frozen => .cells #[.iface 104 (.agg #[.pointer (some ⟨7, 36, none⟩)])] t frozen | o => o } : World).forCall (fun _ _ => 0) ⟨#[], args, []⟩).memory :=
  laidMetH_of_parts (laidMet_of_run (ps := [.cell 5 0, .cell ((World.holding Tryd.prog default ⟨#[], #[], []⟩).heap.size + 0) 0, .cell 4 0, .cell ((World.holding Tryd.prog default ⟨#[], #[], []⟩).heap.size + 1) 0, .cell 6 0, .cell ((World.holding Tryd.prog default ⟨#[], #[], []⟩).heap.size + 2) 0, .cell 3 0, .cell ((World.holding Tryd.prog default ⟨#[], #[], []⟩).heap.size + 3) 0, .cell 0 0, .cell ((World.holding Tryd.prog default ⟨#[], #[], []⟩).heap.size + 4) 0, .cell 1 0, .cell ((World.holding Tryd.prog default ⟨#[], #[], []⟩).heap.size + 5) 0]) 8 (by kernel_rfl) (by kernel_rfl) (by kernel_rfl)) (by kernel_rfl)
end Go.Proofs.YtgapoofalnakmaaDoor.E
