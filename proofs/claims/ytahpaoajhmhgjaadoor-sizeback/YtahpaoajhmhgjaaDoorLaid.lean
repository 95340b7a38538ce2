/-
  What the rows' list of variables gives a walk ('Glob'), and a world that holds it. Conditions: none.
-/
import Derived.Test.YtahpaoajhmhgjaaDoorCards
import Derived.Test.YtahpaoajhmhgjaaDoorTie
import Derived.Test.YtahpaoajhmhgjaaDoorErrno
import Derived.WalkKit
import Derived.ProofKit
import Derived.OpenShut
import Derived.Deep.DeepHandedRow
import Derived.LaidLaws
import Derived.LaidHandle
import Derived.Stop.LaidTwo
namespace Go.Proofs.YtahpaoajhmhgjaaDoor
open Go.ChangeShapes Go.WideShapes Go.ChangeAt Go.RowKit

theorem own : ownKnob Tryd.prog.godebug = none := by kernel_rfl
theorem gTy : Tryd.prog.globalNamed "errors.errorType" = some 2 := by kernel_rfl
theorem gSh : Tryd.prog.globalNamed "latiner/size.errShort" = some 1 := by kernel_rfl
theorem gFo : Tryd.prog.globalNamed "latiner/size.errForm" = some 0 := by kernel_rfl
theorem gShType : (Tryd.prog.globals[1]?).map (·.type) = some 38 := by kernel_rfl
theorem gFoType : (Tryd.prog.globals[0]?).map (·.type) = some 38 := by kernel_rfl
theorem rtRow : (Tryd.prog.cutTypes.find? (·.1 == "internal/reflectlite.rtype")).map (·.2) = some 81 := by kernel_rfl
theorem oneRow : ((List.range 129).filter fun t => Tryd.prog.rowNamed t [101, 114, 114, 111, 114]) = [38] := by kernel_rfl
theorem nTypes : Tryd.prog.types.size = 129 := by kernel_rfl
theorem handleError : typeHandle Tryd.prog 38 = .pointer (some ⟨3, 38, none⟩) := by kernel_rfl
theorem cellsES : Tryd.prog.cellsOf 117 = 1 := by kernel_rfl
theorem cellsStr : Tryd.prog.cellsOf 9 = 1 := by kernel_rfl

/-- the rows' list. -/
abbrev Ls : List (String × DataW Unit) := [("errors.errorType", Rows.laid_errors_errorType), ("latiner/size.errShort", Rows.laid_latiner_size_errShort), ("latiner/size.errForm", Rows.laid_latiner_size_errForm)]

theorem star : "*" ++ "errors.errorString" = "*errors.errorString" := by decide
theorem rowES (u : TypeId) (h : Tryd.prog.typeName? 3 u = some "*errors.errorString") : u = 96 :=
  typeName_ptr_named (P := Tryd.prog) (nm := "errors.errorString") (by rw [star]; kernel_rfl) (by kernel_rfl) (by decide) u (by rw [star]; exact h)

theorem glob_of_laid {W : World} (h : laidMetH Tryd.prog Ls W) : ∃ aS aF, Glob aS aF W := by
  have h' : laidMet Tryd.prog [("latiner/size.errShort", Rows.laid_latiner_size_errShort), ("latiner/size.errForm", Rows.laid_latiner_size_errForm)] W ∧ handlesMet Tryd.prog [("errors.errorType", Rows.laid_errors_errorType)] W := h
  obtain ⟨hd, hh⟩ := h'
  obtain ⟨name, u, ty, e1, e2, e3, e4, e5⟩ := hh _ (List.mem_singleton.2 rfl)
  have en : name = [101, 114, 114, 111, 114] := (Option.some.inj e1).symm
  subst en
  obtain rfl := Option.some.inj (rtRow.symm.trans e2)
  have hm : ty ∈ (List.range 129).filter fun t => Tryd.prog.rowNamed t [101, 114, 114, 111, 114] := List.mem_filter.2 ⟨List.mem_range.2 (by rw [← nTypes]; exact e3), e4⟩
  rw [oneRow] at hm
  obtain rfl := List.mem_singleton.1 hm
  rw [handleError] at e5
  obtain ⟨a0, a1, s0, s1, c0, c1, t0, t1, hv0, hv1, _, _, _, _, _, _, hne, hb0, hb1⟩ := laid_sentinels2 hd gSh gShType gFo gFoType Tryd.underlying38 rowES Tryd.underlying96 Tryd.underlying117 rfl rfl Tryd.underlying9 cellsES cellsStr
  exact ⟨a0, a1, by simpa using World.var?_cell gTy e5 0, by simpa using World.var?_cell gSh hv0 0, by simpa using World.var?_cell gFo hv1 0, hne, ⟨_, _, hb0⟩, ⟨_, _, hb1⟩⟩

abbrev shortS : ByteArray := ⟨#[98, 121, 116, 101, 115, 32, 97, 114, 101, 32, 109, 105, 115, 115, 105, 110, 103]⟩
abbrev formS : ByteArray := ⟨#[110, 111, 32, 108, 101, 110, 103, 116, 104, 32, 98, 101, 103, 105, 110, 115, 32, 115, 111]⟩
/-! The world of the witness is written out where it stands: the settled one, the three variables laid, the two errors' own blocks behind. -/
theorem laid_met (os : Os) (args : Array Value) : laidMetH Tryd.prog Ls (({ World.holding Tryd.prog os ⟨#[.cells #[.string shortS] 117, .cells #[.string formS] 117], #[], []⟩ with heap := (((World.holding Tryd.prog os ⟨#[.cells #[.string shortS] 117, .cells #[.string formS] 117], #[], []⟩).heap.modify 1 fun | .cells _ t frozen => .cells #[.iface 96 (.pointer (some ⟨(World.holding Tryd.prog default ⟨#[], #[], []⟩).heap.size, 0, none⟩))] t frozen | o => o).modify 0 fun | .cells _ t frozen => .cells #[.iface 96 (.pointer (some ⟨(World.holding Tryd.prog default ⟨#[], #[], []⟩).heap.size + 1, 0, none⟩))] t frozen | o => o).modify 2 fun | .cells _ t frozen => .cells #[.iface 81 (.agg #[.pointer (some ⟨3, 38, none⟩)])] t frozen | o => o } : World).forCall (fun _ _ => 0) ⟨#[], args, []⟩).memory :=
  laidMetH_of_parts (laidMet_of_run (ps := [.cell 1 0, .cell (World.holding Tryd.prog default ⟨#[], #[], []⟩).heap.size 0, .cell 0 0, .cell ((World.holding Tryd.prog default ⟨#[], #[], []⟩).heap.size + 1) 0]) 8 (by kernel_rfl) (by kernel_rfl) (by kernel_rfl)) (by kernel_rfl)
end Go.Proofs.YtahpaoajhmhgjaaDoor
