/-
  What the rows' list of variables gives a walk ('Glob'), and a world that holds it. Conditions: none.
-/
import Derived.Test.YthpcglagjbhglaaDoorCards
import Derived.Test.YthpcglagjbhglaaDoorTie
import Derived.Test.YthpcglagjbhglaaDoorCShown
import Derived.WalkKit
import Derived.ProofKit
import Derived.OpenShut
import Derived.Deep.DeepHandedRow
import Derived.LaidLaws
import Derived.LaidHandle
import Derived.Stop.LaidTwo
namespace Go.Proofs.YthpcglagjbhglaaDoor.C
open Go.ChangeShapes Go.WideShapes Go.ChangeAt Go.RowKit

/-- THE FIRST OF THE LIST, A SENTINEL: what it holds, and what is left of the list. -/
theorem laid_first {P : Program} {n0 nm : String} {text0 : List UInt8} {r : List (String × DataW Unit)} {W : World} {ps : List MemPlace} {g0 : Nat} {ti tp te ts : TypeId} {ms : Array (String × TypeId)} {f : Field}
    (h : DataW.LaidVars P W ((n0, .iface nm (.ptr (.agg [.lit (.string text0)]))) :: r) ps)
    (hrows : ∀ b off, MemPlace.cell b off ∈ ps → (∃ c t, W.heap[b]? = some (.cells c t (0, 0))) ∧ ∀ u v, W.cell? ⟨b, off, none⟩ = some (.iface u v) → Value.okWide P W .any 0 u v)
    (hg0 : P.globalNamed n0 = some g0) (ht0 : (P.globals[g0]?).map (·.type) = some ti)
    (hi : P.underlying ti = some (.interface ms)) (hrow : ∀ u, P.typeName? 3 u = some nm → u = tp)
    (hp : P.underlying tp = some (.pointer te)) (he : P.underlying te = some (.struct #[f])) (hft : f.type = ts) (hfo : f.offset = 0) (hs : P.underlying ts = some .string) (hc : P.cellsOf te = 1) (hcs : P.cellsOf ts = 1) :
    ∃ (a : Addr) (c : Array Value) (t : TypeId) (ps' : List MemPlace), W.var? P n0 = some #[.iface tp (.pointer (some a))] ∧ W.heap[a.block]? = some (.cells c t (0, 0)) ∧ ps = .cell g0 0 :: .cell a.block a.off :: ps' ∧ DataW.LaidVars P W r ps' := by
  obtain ⟨g0', t0', cs0, f0, p0, q0, hg0', ht0', hv0, hd0, hrest, e0⟩ := h
  obtain rfl := Option.some.inj (hg0.symm.trans hg0')
  obtain rfl := Option.some.inj (ht0.symm.trans ht0')
  subst e0
  obtain ⟨l0⟩ := cs0
  have ok0 : ∀ u v, l0 = [.iface u v] → Value.okWide P W .any 0 u v := fun u v e => by
    subst e
    exact (hrows g0 0 (by simp [MemPlace.row])).2 u v (by simpa using World.var?_cell hg0' hv0 0)
  obtain ⟨a0, s0, rfl, hc0, hs0, hz0, rfl⟩ := errorString_of_trod hi hrow hp he hft hfo hs hc hcs hd0 ok0
  obtain ⟨c0, t0, hb0⟩ := (hrows a0.block a0.off (by simp [MemPlace.row])).1
  exact ⟨a0, c0, t0, q0, hv0, hb0, by simp [MemPlace.row], hrest⟩

theorem own : ownKnob Tryd.prog.godebug = none := by kernel_rfl
theorem gTy : Tryd.prog.globalNamed "errors.errorType" = some 3 := by kernel_rfl
theorem g0N : Tryd.prog.globalNamed "latiner/code.errCut" = some 1 := by kernel_rfl
theorem g0T : (Tryd.prog.globals[1]?).map (·.type) = some 35 := by kernel_rfl
theorem g1N : Tryd.prog.globalNamed "latiner/code.errEnd" = some 0 := by kernel_rfl
theorem g1T : (Tryd.prog.globals[0]?).map (·.type) = some 35 := by kernel_rfl
theorem g2N : Tryd.prog.globalNamed "latiner/code.errBits" = some 2 := by kernel_rfl
theorem g2T : (Tryd.prog.globals[2]?).map (·.type) = some 35 := by kernel_rfl
theorem rtRow : (Tryd.prog.cutTypes.find? (·.1 == "internal/reflectlite.rtype")).map (·.2) = some 84 := by kernel_rfl
theorem oneRow : ((List.range 133).filter fun t => Tryd.prog.rowNamed t [101, 114, 114, 111, 114]) = [35] := by kernel_rfl
theorem nTypes : Tryd.prog.types.size = 133 := by kernel_rfl
theorem handleError : typeHandle Tryd.prog 35 = .pointer (some ⟨4, 35, none⟩) := by kernel_rfl
theorem cellsES : Tryd.prog.cellsOf 121 = 1 := by kernel_rfl
theorem cellsStr : Tryd.prog.cellsOf 9 = 1 := by kernel_rfl

/-- the rows' list. -/
abbrev Ls : List (String × DataW Unit) := [("errors.errorType", Rows.laid_errors_errorType), ("latiner/code.errCut", Rows.laid_latiner_code_errCut), ("latiner/code.errEnd", Rows.laid_latiner_code_errEnd), ("latiner/code.errBits", Rows.laid_latiner_code_errBits)]

theorem star : "*" ++ "errors.errorString" = "*errors.errorString" := by decide
theorem rowES (u : TypeId) (h : Tryd.prog.typeName? 3 u = some "*errors.errorString") : u = 99 :=
  typeName_ptr_named (P := Tryd.prog) (nm := "errors.errorString") (by rw [star]; kernel_rfl) (by kernel_rfl) (by decide) u (by rw [star]; exact h)

theorem glob_of_laid {W : World} (h : laidMetH Tryd.prog Ls W) : ∃ a, Glob a W := by
  have h' : laidMet Tryd.prog [("latiner/code.errCut", Rows.laid_latiner_code_errCut), ("latiner/code.errEnd", Rows.laid_latiner_code_errEnd), ("latiner/code.errBits", Rows.laid_latiner_code_errBits)] W ∧ handlesMet Tryd.prog [("errors.errorType", Rows.laid_errors_errorType)] W := h
  obtain ⟨hd, hh⟩ := h'
  obtain ⟨name, u, ty, x1, x2, x3, x4, e5h⟩ := hh _ (List.mem_singleton.2 rfl)
  have en : name = [101, 114, 114, 111, 114] := (Option.some.inj x1).symm
  subst en
  obtain rfl := Option.some.inj (rtRow.symm.trans x2)
  have hm : ty ∈ (List.range 133).filter fun t => Tryd.prog.rowNamed t [101, 114, 114, 111, 114] := List.mem_filter.2 ⟨List.mem_range.2 (by rw [← nTypes]; exact x3), x4⟩
  rw [oneRow] at hm
  obtain rfl := List.mem_singleton.1 hm
  rw [handleError] at e5h
  obtain ⟨ps0, h0, hnd, hrows⟩ := hd
  obtain ⟨a0, c0, t0, ps1, v0, b0, rfl, h1⟩ := laid_first h0 (fun b off hm => hrows b off (by simp [hm])) g0N g0T Tryd.underlying35 rowES Tryd.underlying99 Tryd.underlying121 rfl rfl Tryd.underlying9 cellsES cellsStr
  obtain ⟨a1, c1, t1, ps2, v1, b1, rfl, h2⟩ := laid_first h1 (fun b off hm => hrows b off (by simp [hm])) g1N g1T Tryd.underlying35 rowES Tryd.underlying99 Tryd.underlying121 rfl rfl Tryd.underlying9 cellsES cellsStr
  obtain ⟨a2, c2, t2, ps3, v2, b2, rfl, h3⟩ := laid_first h2 (fun b off hm => hrows b off (by simp [hm])) g2N g2T Tryd.underlying35 rowES Tryd.underlying99 Tryd.underlying121 rfl rfl Tryd.underlying9 cellsES cellsStr
  clear hrows h3
  have n10 : a1 ≠ a0 := fun e => by rw [e] at hnd; simp at hnd
  have n20 : a2 ≠ a0 := fun e => by rw [e] at hnd; simp at hnd
  have n21 : a2 ≠ a1 := fun e => by rw [e] at hnd; simp at hnd
  exact ⟨⟨a0, a1, a2⟩, by simpa using World.var?_cell gTy e5h 0, by simpa using World.var?_cell g0N v0 0, by simpa using World.var?_cell g1N v1 0, by simpa using World.var?_cell g2N v2 0, n10, n20, n21, ⟨_, _, b0⟩, ⟨_, _, b1⟩, ⟨_, _, b2⟩⟩
abbrev sentS0 : ByteArray := ⟨#[97, 32, 103, 114, 111, 117, 112, 39, 115, 32, 115, 105, 103, 110, 115, 32, 109, 105, 115, 115]⟩
abbrev sentS1 : ByteArray := ⟨#[115, 105, 103, 110, 115, 32, 98, 101, 104, 105, 110, 100, 32, 116, 104, 101, 32, 101, 110, 100]⟩
abbrev sentS2 : ByteArray := ⟨#[98, 105, 116, 115, 32, 116, 104, 97, 116, 32, 116, 101, 108, 108, 32, 110, 111, 116, 104, 105, 110, 103, 32, 97, 114, 101, 32, 110, 111, 116, 32, 48]⟩
/-! The world of the witness is written out where it stands: the settled one, the variables laid, the errors' own blocks behind. -/
theorem laid_met (os : Os) (args : Array Value) : laidMetH Tryd.prog Ls (({ World.holding Tryd.prog os ⟨#[.cells #[.string sentS0] 121, .cells #[.string sentS1] 121, .cells #[.string sentS2] 121], #[], []⟩ with heap := ((((World.holding Tryd.prog os ⟨#[.cells #[.string sentS0] 121, .cells #[.string sentS1] 121, .cells #[.string sentS2] 121], #[], []⟩).heap.modify 1 fun | .cells _ t frozen => .cells #[.iface 99 (.pointer (some ⟨(World.holding Tryd.prog default ⟨#[], #[], []⟩).heap.size + 0, 0, none⟩))] t frozen | o => o).modify 0 fun | .cells _ t frozen => .cells #[.iface 99 (.pointer (some ⟨(World.holding Tryd.prog default ⟨#[], #[], []⟩).heap.size + 1, 0, none⟩))] t frozen | o => o).modify 2 fun | .cells _ t frozen => .cells #[.iface 99 (.pointer (some ⟨(World.holding Tryd.prog default ⟨#[], #[], []⟩).heap.size + 2, 0, none⟩))] t frozen | o => o).modify 3 fun | .cells _ t frozen => .cells #[.iface 84 (.agg #[.pointer (some ⟨4, 35, none⟩)])] t frozen | o => o } : World).forCall (fun _ _ => 0) ⟨#[], args, []⟩).memory :=
  laidMetH_of_parts (laidMet_of_run (ps := [.cell 1 0, .cell ((World.holding Tryd.prog default ⟨#[], #[], []⟩).heap.size + 0) 0, .cell 0 0, .cell ((World.holding Tryd.prog default ⟨#[], #[], []⟩).heap.size + 1) 0, .cell 2 0, .cell ((World.holding Tryd.prog default ⟨#[], #[], []⟩).heap.size + 2) 0]) 8 (by kernel_rfl) (by kernel_rfl) (by kernel_rfl)) (by kernel_rfl)
end Go.Proofs.YthpcglagjbhglaaDoor.C
