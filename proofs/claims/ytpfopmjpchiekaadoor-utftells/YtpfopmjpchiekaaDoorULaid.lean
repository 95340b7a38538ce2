/-
  What the rows' list of variables gives a walk ('Glob'), and a world that holds it. Conditions: none.
-/
import Derived.Test.YtpfopmjpchiekaaDoorCards
import Derived.Test.YtpfopmjpchiekaaDoorTie
import Derived.Test.YtpfopmjpchiekaaDoorUShown
import Derived.WalkKit
import Derived.ProofKit
import Derived.OpenShut
import Derived.Deep.DeepHandedRow
import Derived.LaidLaws
import Derived.LaidHandle
import Derived.Stop.LaidTwo
namespace Go.Proofs.YtpfopmjpchiekaaDoor.U
open Go.ChangeShapes Go.WideShapes Go.ChangeAt Go.RowKit

/-- THE FIRST OF THE LIST, A SENTINEL: what it holds, and what is left of the list. -/
theorem laid_first {P : Program} {n0 nm : String} {text0 : List UInt8} {r : List (String × DataW Unit)} {W : World} {ps : List MemPlace} {g0 : Nat} {ti tp te ts : TypeId} {ms : Array (String × TypeId)} {f : Field}
    (h : DataW.LaidVars P W ((n0, .iface nm (.ptr (.agg [.lit (.string text0)]))) :: r) ps)
    (hrows : ∀ b off, MemPlace.cell b off ∈ ps → (∃ c t, W.heap[b]? = some (.cells c t (0, 0))) ∧ ∀ u v, W.cell? ⟨b, off, none⟩ = some (.iface u v) → Value.okWide P W .any 0 u v)
    (hg0 : P.globalNamed n0 = some g0) (ht0 : (P.globals[g0]?).map (·.type) = some ti)
    (hi : P.underlying ti = some (.interface ms)) (hrow : ∀ u, P.typeName? 3 u = some nm → u = tp)
    (hp : P.underlying tp = some (.pointer te)) (he : P.underlying te = some (.struct #[f])) (hft : f.type = ts) (hfo : f.offset = 0) (hs : P.underlying ts = some .string) (hc : P.cellsOf te = 1) (hcs : P.cellsOf ts = 1) :
    ∃ (a : Addr) (c : Array Value) (t : TypeId) (ps' : List MemPlace), W.var? P n0 = some #[.iface tp (.pointer (some a))] ∧ W.heap[a.block]? = some (.cells c t (0, 0)) ∧ ps = .cell g0 0 :: .cell a.block a.off :: ps' ∧ DataW.LaidVars P W r ps' := by
  obtain ⟨g0', t0', cs0, f0, p0, q0, hg0', ht0', hv0, hd0, hrest, e0⟩ := h
  obtain rfl := Option.some.inj (hg0.symm.trans hg0')
  obtain rfl := Option.some.inj (ht0.symm.trans ht0')
  subst e0
  obtain ⟨l0⟩ := cs0
  have ok0 : ∀ u v, l0 = [.iface u v] → Value.okWide P W .any 0 u v := fun u v e => by
    subst e
    exact (hrows g0 0 (by simp [MemPlace.row])).2 u v (by simpa using World.var?_cell hg0' hv0 0)
  obtain ⟨a0, s0, rfl, hc0, hs0, hz0, rfl⟩ := errorString_of_trod hi hrow hp he hft hfo hs hc hcs hd0 ok0
  obtain ⟨c0, t0, hb0⟩ := (hrows a0.block a0.off (by simp [MemPlace.row])).1
  exact ⟨a0, c0, t0, q0, hv0, hb0, by simp [MemPlace.row], hrest⟩

theorem own : ownKnob Tryd.prog.godebug = none := by kernel_rfl
theorem gTy : Tryd.prog.globalNamed "errors.errorType" = some 2 := by kernel_rfl
theorem g0N : Tryd.prog.globalNamed "latiner/utf.errUtf" = some 0 := by kernel_rfl
theorem g1N : Tryd.prog.globalNamed "latiner/utf.errSafe" = some 1 := by kernel_rfl
theorem g0T : (Tryd.prog.globals[0]?).map (·.type) = some 39 := by kernel_rfl
theorem g1T : (Tryd.prog.globals[1]?).map (·.type) = some 39 := by kernel_rfl
theorem rtRow : (Tryd.prog.cutTypes.find? (·.1 == "internal/reflectlite.rtype")).map (·.2) = some 90 := by kernel_rfl
theorem oneRow : ((List.range 137).filter fun t => Tryd.prog.rowNamed t [101, 114, 114, 111, 114]) = [39] := by kernel_rfl
theorem nTypes : Tryd.prog.types.size = 137 := by kernel_rfl
theorem handleError : typeHandle Tryd.prog 39 = .pointer (some ⟨3, 39, none⟩) := by kernel_rfl
theorem cellsES : Tryd.prog.cellsOf 126 = 1 := by kernel_rfl
theorem cellsStr : Tryd.prog.cellsOf 9 = 1 := by kernel_rfl

/-- the rows' list. -/
abbrev Ls : List (String × DataW Unit) := [("errors.errorType", Rows.laid_errors_errorType), ("latiner/utf.errUtf", Rows.laid_latiner_utf_errUtf), ("latiner/utf.errSafe", Rows.laid_latiner_utf_errSafe)]

theorem star : "*" ++ "errors.errorString" = "*errors.errorString" := by decide
theorem rowES (u : TypeId) (h : Tryd.prog.typeName? 3 u = some "*errors.errorString") : u = 104 :=
  typeName_ptr_named (P := Tryd.prog) (nm := "errors.errorString") (by rw [star]; kernel_rfl) (by kernel_rfl) (by decide) u (by rw [star]; exact h)

theorem glob_of_laid {W : World} (h : laidMetH Tryd.prog Ls W) : ∃ aU aS, Glob aU aS W := by
  have h' : laidMet Tryd.prog [("latiner/utf.errUtf", Rows.laid_latiner_utf_errUtf), ("latiner/utf.errSafe", Rows.laid_latiner_utf_errSafe)] W ∧ handlesMet Tryd.prog [("errors.errorType", Rows.laid_errors_errorType)] W := h
  obtain ⟨hd, hh⟩ := h'
  obtain ⟨name, u, ty, x1, x2, x3, x4, e5h⟩ := hh _ (List.mem_singleton.2 rfl)
  have en : name = [101, 114, 114, 111, 114] := (Option.some.inj x1).symm
  subst en
  obtain rfl := Option.some.inj (rtRow.symm.trans x2)
  have hm : ty ∈ (List.range 137).filter fun t => Tryd.prog.rowNamed t [101, 114, 114, 111, 114] := List.mem_filter.2 ⟨List.mem_range.2 (by rw [← nTypes]; exact x3), x4⟩
  rw [oneRow] at hm
  obtain rfl := List.mem_singleton.1 hm
  rw [handleError] at e5h
  obtain ⟨ps0, h0, hnd, hrows⟩ := hd
  obtain ⟨a0, c0, t0, ps1, v0, b0, rfl, h1⟩ := laid_first h0 (fun b off hm => hrows b off (by simp [hm])) g0N g0T Tryd.underlying39 rowES Tryd.underlying104 Tryd.underlying126 rfl rfl Tryd.underlying9 cellsES cellsStr
  obtain ⟨a1, c1, t1, ps2, v1, b1, rfl, h2⟩ := laid_first h1 (fun b off hm => hrows b off (by simp [hm])) g1N g1T Tryd.underlying39 rowES Tryd.underlying104 Tryd.underlying126 rfl rfl Tryd.underlying9 cellsES cellsStr
  exact ⟨a0, a1, by simpa using World.var?_cell gTy e5h 0, by simpa using World.var?_cell g0N v0 0, by simpa using World.var?_cell g1N v1 0⟩
abbrev sentS0 : ByteArray := ⟨#[110, 111, 32, 115, 105, 103, 110, 39, 115, 32, 98, 121, 116, 101, 115, 32, 98, 101, 103, 105, 110, 32, 115, 111]⟩
abbrev sentS1 : ByteArray := ⟨#[97, 32, 108, 105, 110, 101, 32, 99, 97, 110, 39, 116, 32, 104, 111, 108, 100, 32, 116, 104, 105, 115, 32, 104, 101, 114, 101]⟩
/-! The world of the witness is written out where it stands: the settled one, the variables laid, the error's own block behind. -/
theorem laid_met (os : Os) (args : Array Value) : laidMetH Tryd.prog Ls (({ World.holding Tryd.prog os ⟨#[.cells #[.string sentS0] 126, .cells #[.string sentS1] 126], #[], []⟩ with heap := (((World.holding Tryd.prog os ⟨#[.cells #[.string sentS0] 126, .cells #[.string sentS1] 126], #[], []⟩).heap.modify 0 fun | .cells _ t frozen => .cells #[.iface 104 (.pointer (some ⟨(World.holding Tryd.prog default ⟨#[], #[], []⟩).heap.size + 0, 0, none⟩))] t frozen | o => o).modify 1 fun | .cells _ t frozen => .cells #[.iface 104 (.pointer (some ⟨(World.holding Tryd.prog default ⟨#[], #[], []⟩).heap.size + 1, 0, none⟩))] t frozen | o => o).modify 2 fun | .cells _ t frozen => .cells #[.iface 90 (.agg #[.pointer (some ⟨3, 39, none⟩)])] t frozen | o => o } : World).forCall (fun _ _ => 0) ⟨#[], args, []⟩).memory :=
  laidMetH_of_parts (laidMet_of_run (ps := [.cell 0 0, .cell ((World.holding Tryd.prog default ⟨#[], #[], []⟩).heap.size + 0) 0, .cell 1 0, .cell ((World.holding Tryd.prog default ⟨#[], #[], []⟩).heap.size + 1) 0]) 8 (by kernel_rfl) (by kernel_rfl) (by kernel_rfl)) (by kernel_rfl)

theorem cellsI : Tryd.prog.cellsOf 3 = 1 := by kernel_rfl
/-- A SLICE OF NUMBERS THAT CAME IN. -/
theorem open_list {H : Type} {enc : TypeId × Value → H} {W : World} {sp : Nat → Bool} {held : Bool} {fuel : Nat} {a : Option Addr} {len cap : Nat} {x : DataW H × List MemPlace}
    (h : DataW.trod enc Tryd.prog W 0 sp held fuel 22 [.slice a len cap] = some x) : ∃ l : List Int, Arg W (.slice a len cap) l := by
  rcases open_ints Tryd.underlying22 Tryd.underlying3 cellsI h with ⟨hcs, _⟩ | ⟨a', len', cap', zs, hcs, _, hl, hm, hz, _, hcell, _⟩
  · cases hcs
    exact ⟨[], none, 0, rfl, Nat.le_refl _, Nat.zero_le _, fun _ => rfl, .inl rfl⟩
  · cases hcs
    have hlz : len ≤ zs.length := by rw [hz]; split <;> omega
    refine ⟨zs.take len, some a', cap, by rw [List.length_take, Nat.min_eq_left hlz], by rw [List.length_take]; omega, hm, (fun e => by cases e), ?_⟩
    by_cases h0 : len = 0
    · exact .inl (by rw [h0]; rfl)
    · obtain ⟨b, off, spot⟩ := a'
      have hspot : spot = none := by simpa [Addr.add] using World.cell?_spot (hcell 0 (by omega))
      subst hspot
      refine .inr ⟨b, off, rfl, fun i n hn => ?_⟩
      rw [List.getElem?_take] at hn
      split at hn
      · have hi := (List.getElem?_eq_some_iff.1 hn).1
        have := hcell i hi
        rw [Addr.add_lit] at this
        rw [this, List.getD_eq_getElem?_getD, hn]
        rfl
      · cases hn
end Go.Proofs.YtpfopmjpchiekaaDoor.U
