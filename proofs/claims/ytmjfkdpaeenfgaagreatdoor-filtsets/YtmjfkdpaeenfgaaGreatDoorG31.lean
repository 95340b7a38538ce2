/-
  Several texts in one: FLaid, FOne. Each says what it proves, and its conditions.
-/
import Derived.Test.YtmjfkdpaeenfgaaGreatDoorCards
import Derived.Test.YtmjfkdpaeenfgaaGreatDoorTie
import Derived.Test.YtmjfkdpaeenfgaaGreatDoorG30
import Derived.WalkKit
import Derived.ProofKit
import Derived.OpenShut
import Derived.Deep.DeepHandedRow
import Derived.LaidLaws
import Derived.LaidHandle
import Derived.LaidSub
import Derived.Stop.LaidTwo
/-
  What the rows' list of variables gives a walk ('Glob'), and a world that holds it. Conditions: none.
-/
namespace Go.Proofs.YtmjfkdpaeenfgaaGreatDoor.F
open Go Go.ChangeShapes Go.WideShapes Go.ChangeAt Go.RowKit

/-- THE FIRST OF THE LIST, A SENTINEL: what it holds, and what is left of the list. -/
theorem laid_first {P : Program} {n0 nm : String} {text0 : List UInt8} {r : List (String × DataW Unit)} {W : World} {ps : List MemPlace} {g0 : Nat} {ti tp te ts : TypeId} {ms : Array (String × TypeId)} {f : Field}
    (h : DataW.LaidVars P W ((n0, .iface nm (.ptr (.agg [.lit (.string text0)]))) :: r) ps)
    (hrows : ∀ b off, MemPlace.cell b off ∈ ps → (∃ c t, W.heap[b]? = some (.cells c t (0, 0))) ∧ ∀ u v, W.cell? ⟨b, off, none⟩ = some (.iface u v) → Value.okWide P W .any 0 u v)
    (hg0 : P.globalNamed n0 = some g0) (ht0 : (P.globals[g0]?).map (·.type) = some ti)
    (hi : P.underlying ti = some (.interface ms)) (hrow : ∀ u, P.typeName? 3 u = some nm → u = tp)
    (hp : P.underlying tp = some (.pointer te)) (he : P.underlying te = some (.struct #[f])) (hft : f.type = ts) (hfo : f.offset = 0) (hs : P.underlying ts = some .string) (hc : P.cellsOf te = 1) (hcs : P.cellsOf ts = 1) :
    ∃ (a : Addr) (c : Array Value) (t : TypeId) (ps' : List MemPlace), W.var? P n0 = some #[.iface tp (.pointer (some a))] ∧ W.heap[a.block]? = some (.cells c t (0, 0)) ∧ ps = .cell g0 0 :: .cell a.block a.off :: ps' ∧ DataW.LaidVars P W r ps' := by
  obtain ⟨g0', t0', cs0, f0, p0, q0, hg0', ht0', hv0, hd0, hrest, e0⟩ := h
  obtain rfl := Option.some.inj (hg0.symm.trans hg0')
  obtain rfl := Option.some.inj (ht0.symm.trans ht0')
  subst e0
  obtain ⟨l0⟩ := cs0
  have ok0 : ∀ u v, l0 = [.iface u v] → Value.okWide P W .any 0 u v := fun u v e => by
    subst e
    exact (hrows g0 0 (by simp [MemPlace.row])).2 u v (by simpa using World.var?_cell hg0' hv0 0)
  obtain ⟨a0, s0, rfl, hc0, hs0, hz0, rfl⟩ := errorString_of_trod hi hrow hp he hft hfo hs hc hcs hd0 ok0
  obtain ⟨c0, t0, hb0⟩ := (hrows a0.block a0.off (by simp [MemPlace.row])).1
  exact ⟨a0, c0, t0, q0, hv0, hb0, by simp [MemPlace.row], hrest⟩

theorem own : ownKnob Tryz.prog.godebug = none := by kernel_rfl
theorem gTy : Tryz.prog.globalNamed "errors.errorType" = some 7 := by kernel_rfl
theorem g0N : Tryz.prog.globalNamed "latiner/code.errCut" = some 15 := by kernel_rfl
theorem g0T : (Tryz.prog.globals[15]?).map (·.type) = some 47 := by kernel_rfl
theorem g1N : Tryz.prog.globalNamed "latiner/code.errEnd" = some 14 := by kernel_rfl
theorem g1T : (Tryz.prog.globals[14]?).map (·.type) = some 47 := by kernel_rfl
theorem g2N : Tryz.prog.globalNamed "latiner/code.errBits" = some 16 := by kernel_rfl
theorem g2T : (Tryz.prog.globals[16]?).map (·.type) = some 47 := by kernel_rfl
theorem g3N : Tryz.prog.globalNamed "latiner/utf.errUtf" = some 13 := by kernel_rfl
theorem g3T : (Tryz.prog.globals[13]?).map (·.type) = some 47 := by kernel_rfl
theorem g4N : Tryz.prog.globalNamed "latiner/esc.errText" = some 11 := by kernel_rfl
theorem g4T : (Tryz.prog.globals[11]?).map (·.type) = some 47 := by kernel_rfl
theorem g5N : Tryz.prog.globalNamed "latiner/esc.errMark" = some 12 := by kernel_rfl
theorem g5T : (Tryz.prog.globals[12]?).map (·.type) = some 47 := by kernel_rfl
theorem g6N : Tryz.prog.globalNamed "latiner/filt.errDeep" = some 0 := by kernel_rfl
theorem g6T : (Tryz.prog.globals[0]?).map (·.type) = some 47 := by kernel_rfl
theorem g7N : Tryz.prog.globalNamed "latiner/filt.errCount" = some 1 := by kernel_rfl
theorem g7T : (Tryz.prog.globals[1]?).map (·.type) = some 47 := by kernel_rfl
theorem g8N : Tryz.prog.globalNamed "latiner/filt.errName" = some 2 := by kernel_rfl
theorem g8T : (Tryz.prog.globals[2]?).map (·.type) = some 47 := by kernel_rfl
theorem g9N : Tryz.prog.globalNamed "latiner/filt.errLong" = some 3 := by kernel_rfl
theorem g9T : (Tryz.prog.globals[3]?).map (·.type) = some 47 := by kernel_rfl
theorem g10N : Tryz.prog.globalNamed "latiner/filt.errField" = some 4 := by kernel_rfl
theorem g10T : (Tryz.prog.globals[4]?).map (·.type) = some 47 := by kernel_rfl
theorem g11N : Tryz.prog.globalNamed "latiner/filt.errSign" = some 5 := by kernel_rfl
theorem g11T : (Tryz.prog.globals[5]?).map (·.type) = some 47 := by kernel_rfl
theorem g12N : Tryz.prog.globalNamed "latiner/filt.errMore" = some 6 := by kernel_rfl
theorem g12T : (Tryz.prog.globals[6]?).map (·.type) = some 47 := by kernel_rfl
theorem rtRow : (Tryz.prog.cutTypes.find? (·.1 == "internal/reflectlite.rtype")).map (·.2) = some 153 := by kernel_rfl
theorem oneRow : ((List.range 287).filter fun t => Tryz.prog.rowNamed t [101, 114, 114, 111, 114]) = [47] := by kernel_rfl
theorem nTypes : Tryz.prog.types.size = 287 := by kernel_rfl
theorem handleError : typeHandle Tryz.prog 47 = .pointer (some ⟨17, 47, none⟩) := by kernel_rfl
theorem cellsES : Tryz.prog.cellsOf 276 = 1 := by kernel_rfl
theorem cellsStr : Tryz.prog.cellsOf 9 = 1 := by kernel_rfl

/-- the rows' list. -/
abbrev Ls : List (String × DataW Unit) := [("errors.errorType", Rows.laid_errors_errorType), ("latiner/code.errCut", Rows.laid_latiner_code_errCut), ("latiner/code.errEnd", Rows.laid_latiner_code_errEnd), ("latiner/code.errBits", Rows.laid_latiner_code_errBits), ("latiner/utf.errUtf", Rows.laid_latiner_utf_errUtf), ("latiner/esc.errText", Rows.laid_latiner_esc_errText), ("latiner/esc.errMark", Rows.laid_latiner_esc_errMark), ("latiner/filt.errDeep", Rows.laid_latiner_filt_errDeep), ("latiner/filt.errCount", Rows.laid_latiner_filt_errCount), ("latiner/filt.errName", Rows.laid_latiner_filt_errName), ("latiner/filt.errLong", Rows.laid_latiner_filt_errLong), ("latiner/filt.errField", Rows.laid_latiner_filt_errField), ("latiner/filt.errSign", Rows.laid_latiner_filt_errSign), ("latiner/filt.errMore", Rows.laid_latiner_filt_errMore)]

theorem star : "*" ++ "errors.errorString" = "*errors.errorString" := by decide
theorem rowES (u : TypeId) (h : Tryz.prog.typeName? 3 u = some "*errors.errorString") : u = 258 :=
  typeName_ptr_named (P := Tryz.prog) (nm := "errors.errorString") (by rw [star]; kernel_rfl) (by kernel_rfl) (by decide) u (by rw [star]; exact h)

/-- all of the rows' list. -/
abbrev LsAll : List (String × DataW Unit) := [("unicode/utf8.acceptRanges", Rows.laid_unicode_utf8_acceptRanges), ("errors.errorType", Rows.laid_errors_errorType), ("latiner/code.errCut", Rows.laid_latiner_code_errCut), ("latiner/code.errEnd", Rows.laid_latiner_code_errEnd), ("latiner/code.errBits", Rows.laid_latiner_code_errBits), ("latiner/utf.errUtf", Rows.laid_latiner_utf_errUtf), ("latiner/esc.errText", Rows.laid_latiner_esc_errText), ("latiner/esc.errMark", Rows.laid_latiner_esc_errMark), ("latiner/filt.errDeep", Rows.laid_latiner_filt_errDeep), ("latiner/filt.errCount", Rows.laid_latiner_filt_errCount), ("latiner/filt.errName", Rows.laid_latiner_filt_errName), ("latiner/filt.errLong", Rows.laid_latiner_filt_errLong), ("latiner/filt.errField", Rows.laid_latiner_filt_errField), ("latiner/filt.errSign", Rows.laid_latiner_filt_errSign), ("latiner/filt.errMore", Rows.laid_latiner_filt_errMore), ("unicode/utf8.first", Rows.laid_unicode_utf8_first)]
theorem keep_eq : (LsAll.filter fun x => !(x.1 == "unicode/utf8.acceptRanges" || x.1 == "unicode/utf8.first")) = Ls := by kernel_rfl
theorem glob_of_laid {W : World} (hall : laidMetH Tryz.prog LsAll W) : ∃ a, Glob a W := by
  have h : laidMetH Tryz.prog Ls W := by rw [← keep_eq]; exact hall.filter _
  have h' : laidMet Tryz.prog [("latiner/code.errCut", Rows.laid_latiner_code_errCut), ("latiner/code.errEnd", Rows.laid_latiner_code_errEnd), ("latiner/code.errBits", Rows.laid_latiner_code_errBits), ("latiner/utf.errUtf", Rows.laid_latiner_utf_errUtf), ("latiner/esc.errText", Rows.laid_latiner_esc_errText), ("latiner/esc.errMark", Rows.laid_latiner_esc_errMark), ("latiner/filt.errDeep", Rows.laid_latiner_filt_errDeep), ("latiner/filt.errCount", Rows.laid_latiner_filt_errCount), ("latiner/filt.errName", Rows.laid_latiner_filt_errName), ("latiner/filt.errLong", Rows.laid_latiner_filt_errLong), ("latiner/filt.errField", Rows.laid_latiner_filt_errField), ("latiner/filt.errSign", Rows.laid_latiner_filt_errSign), ("latiner/filt.errMore", Rows.laid_latiner_filt_errMore)] W ∧ handlesMet Tryz.prog [("errors.errorType", Rows.laid_errors_errorType)] W := h
  obtain ⟨hd, hh⟩ := h'
  obtain ⟨name, u, ty, x1, x2, x3, x4, e5h⟩ := hh _ (List.mem_singleton.2 rfl)
  have en : name = [101, 114, 114, 111, 114] := (Option.some.inj x1).symm
  subst en
  obtain rfl := Option.some.inj (rtRow.symm.trans x2)
  have hm : ty ∈ (List.range 287).filter fun t => Tryz.prog.rowNamed t [101, 114, 114, 111, 114] := List.mem_filter.2 ⟨List.mem_range.2 (by rw [← nTypes]; exact x3), x4⟩
  rw [oneRow] at hm
  obtain rfl := List.mem_singleton.1 hm
  rw [handleError] at e5h
  obtain ⟨ps0, h0, hnd, hrows⟩ := hd
  obtain ⟨a0, c0, t0, ps1, v0, b0, rfl, h1⟩ := laid_first h0 (fun b off hm => hrows b off (by simp [hm])) g0N g0T Tryz.underlying47 rowES Tryz.underlying258 Tryz.underlying276 rfl rfl Tryz.underlying9 cellsES cellsStr
  obtain ⟨a1, c1, t1, ps2, v1, b1, rfl, h2⟩ := laid_first h1 (fun b off hm => hrows b off (by simp [hm])) g1N g1T Tryz.underlying47 rowES Tryz.underlying258 Tryz.underlying276 rfl rfl Tryz.underlying9 cellsES cellsStr
  obtain ⟨a2, c2, t2, ps3, v2, b2, rfl, h3⟩ := laid_first h2 (fun b off hm => hrows b off (by simp [hm])) g2N g2T Tryz.underlying47 rowES Tryz.underlying258 Tryz.underlying276 rfl rfl Tryz.underlying9 cellsES cellsStr
  obtain ⟨a3, c3, t3, ps4, v3, b3, rfl, h4⟩ := laid_first h3 (fun b off hm => hrows b off (by simp [hm])) g3N g3T Tryz.underlying47 rowES Tryz.underlying258 Tryz.underlying276 rfl rfl Tryz.underlying9 cellsES cellsStr
  obtain ⟨a4, c4, t4, ps5, v4, b4, rfl, h5⟩ := laid_first h4 (fun b off hm => hrows b off (by simp [hm])) g4N g4T Tryz.underlying47 rowES Tryz.underlying258 Tryz.underlying276 rfl rfl Tryz.underlying9 cellsES cellsStr
  obtain ⟨a5, c5, t5, ps6, v5, b5, rfl, h6⟩ := laid_first h5 (fun b off hm => hrows b off (by simp [hm])) g5N g5T Tryz.underlying47 rowES Tryz.underlying258 Tryz.underlying276 rfl rfl Tryz.underlying9 cellsES cellsStr
  obtain ⟨a6, c6, t6, ps7, v6, b6, rfl, h7⟩ := laid_first h6 (fun b off hm => hrows b off (by simp [hm])) g6N g6T Tryz.underlying47 rowES Tryz.underlying258 Tryz.underlying276 rfl rfl Tryz.underlying9 cellsES cellsStr
  obtain ⟨a7, c7, t7, ps8, v7, b7, rfl, h8⟩ := laid_first h7 (fun b off hm => hrows b off (by simp [hm])) g7N g7T Tryz.underlying47 rowES Tryz.underlying258 Tryz.underlying276 rfl rfl Tryz.underlying9 cellsES cellsStr
  obtain ⟨a8, c8, t8, ps9, v8, b8, rfl, h9⟩ := laid_first h8 (fun b off hm => hrows b off (by simp [hm])) g8N g8T Tryz.underlying47 rowES Tryz.underlying258 Tryz.underlying276 rfl rfl Tryz.underlying9 cellsES cellsStr
  obtain ⟨a9, c9, t9, ps10, v9, b9, rfl, h10⟩ := laid_first h9 (fun b off hm => hrows b off (by simp [hm])) g9N g9T Tryz.underlying47 rowES Tryz.underlying258 Tryz.underlying276 rfl rfl Tryz.underlying9 cellsES cellsStr
  obtain ⟨a10, c10, t10, ps11, v10, b10, rfl, h11⟩ := laid_first h10 (fun b off hm => hrows b off (by simp [hm])) g10N g10T Tryz.underlying47 rowES Tryz.underlying258 Tryz.underlying276 rfl rfl Tryz.underlying9 cellsES cellsStr
  obtain ⟨a11, c11, t11, ps12, v11, b11, rfl, h12⟩ := laid_first h11 (fun b off hm => hrows b off (by simp [hm])) g11N g11T Tryz.underlying47 rowES Tryz.underlying258 Tryz.underlying276 rfl rfl Tryz.underlying9 cellsES cellsStr
  obtain ⟨a12, c12, t12, ps13, v12, b12, rfl, h13⟩ := laid_first h12 (fun b off hm => hrows b off (by simp [hm])) g12N g12T Tryz.underlying47 rowES Tryz.underlying258 Tryz.underlying276 rfl rfl Tryz.underlying9 cellsES cellsStr
  clear hrows h13
  have eT := World.var?_cell gTy e5h 0
  have n1_0 : a1 ≠ a0 := fun e => by rw [e] at hnd; simp at hnd
  have n2_0 : a2 ≠ a0 := fun e => by rw [e] at hnd; simp at hnd
  have n2_1 : a2 ≠ a1 := fun e => by rw [e] at hnd; simp at hnd
  have n5_4 : a5 ≠ a4 := fun e => by rw [e] at hnd; simp at hnd
  exact ⟨⟨⟨⟨a0, a1, a2⟩, a3, a3, a4, a5⟩, a6, a7, a8, a9, a10, a11, a12⟩, ⟨⟨by simpa using eT, by simpa using World.var?_cell g0N v0 0, by simpa using World.var?_cell g1N v1 0, by simpa using World.var?_cell g2N v2 0, n1_0, n2_0, n2_1, ⟨_, _, b0⟩, ⟨_, _, b1⟩, ⟨_, _, b2⟩⟩, ⟨by simpa using eT, by simpa using World.var?_cell g3N v3 0⟩, by simpa using World.var?_cell g4N v4 0, by simpa using World.var?_cell g5N v5 0, n5_4, ⟨_, _, b4⟩, ⟨_, _, b5⟩⟩, by simpa using World.var?_cell g6N v6 0, by simpa using World.var?_cell g7N v7 0, by simpa using World.var?_cell g8N v8 0, by simpa using World.var?_cell g9N v9 0, by simpa using World.var?_cell g10N v10 0, by simpa using World.var?_cell g11N v11 0, by simpa using World.var?_cell g12N v12 0, ⟨_, _, b6⟩, ⟨_, _, b7⟩, ⟨_, _, b8⟩, ⟨_, _, b9⟩, ⟨_, _, b10⟩, ⟨_, _, b11⟩, ⟨_, _, b12⟩⟩
abbrev sentS0 : ByteArray := ⟨#[97, 32, 103, 114, 111, 117, 112, 39, 115, 32, 115, 105, 103, 110, 115, 32, 109, 105, 115, 115]⟩
abbrev sentS1 : ByteArray := ⟨#[115, 105, 103, 110, 115, 32, 98, 101, 104, 105, 110, 100, 32, 116, 104, 101, 32, 101, 110, 100]⟩
abbrev sentS2 : ByteArray := ⟨#[98, 105, 116, 115, 32, 116, 104, 97, 116, 32, 116, 101, 108, 108, 32, 110, 111, 116, 104, 105, 110, 103, 32, 97, 114, 101, 32, 110, 111, 116, 32, 48]⟩
abbrev sentS3 : ByteArray := ⟨#[110, 111, 32, 115, 105, 103, 110, 39, 115, 32, 98, 121, 116, 101, 115, 32, 98, 101, 103, 105, 110, 32, 115, 111]⟩
abbrev sentS4 : ByteArray := ⟨#[110, 111, 32, 115, 105, 103, 110, 39, 115, 32, 98, 121, 116, 101, 115, 32, 98, 101, 103, 105, 110, 32, 115, 111]⟩
abbrev sentS5 : ByteArray := ⟨#[97, 32, 98, 97, 99, 107, 115, 108, 97, 115, 104, 32, 115, 116, 97, 110, 100, 115, 32, 97, 104, 101, 97, 100, 32, 111, 102, 32, 110, 111, 116, 104, 105, 110, 103, 32, 116, 104, 97, 116, 32, 105, 116, 32, 109, 97, 121]⟩
abbrev sentS6 : ByteArray := ⟨#[116, 111, 111, 32, 100, 101, 101, 112]⟩
abbrev sentS7 : ByteArray := ⟨#[116, 111, 111, 32, 109, 97, 110, 121, 44, 32, 111, 114, 32, 110, 111, 110, 101]⟩
abbrev sentS8 : ByteArray := ⟨#[110, 111, 32, 97, 116, 116, 114, 105, 98, 117, 116, 101, 39, 115, 32, 110, 97, 109, 101]⟩
abbrev sentS9 : ByteArray := ⟨#[116, 111, 111, 32, 108, 111, 110, 103, 44, 32, 111, 114, 32, 101, 109, 112, 116, 121, 32, 119, 104, 101, 114, 101, 32, 105, 116, 32, 109, 97, 121, 32, 110, 111, 116, 32, 98, 101]⟩
abbrev sentS10 : ByteArray := ⟨#[115, 111, 109, 101, 116, 104, 105, 110, 103, 32, 116, 104, 97, 116, 32, 116, 104, 105, 115, 32, 107, 105, 110, 100, 32, 104, 97, 115, 32, 110, 111, 116]⟩
abbrev sentS11 : ByteArray := ⟨#[97, 32, 115, 105, 103, 110, 32, 105, 115, 32, 109, 105, 115, 115, 105, 110, 103]⟩
abbrev sentS12 : ByteArray := ⟨#[109, 111, 114, 101, 32, 115, 116, 97, 110, 100, 115, 32, 98, 101, 104, 105, 110, 100, 32, 116, 104, 101, 32, 102, 105, 108, 116, 101, 114]⟩
/-! The world of the witness is written out where it stands: the settled one, the variables laid, the errors' own blocks behind. -/
theorem laid_met (os : Os) (args : Array Value) : laidMetH Tryz.prog LsAll (({ World.holding Tryz.prog os ⟨#[.cells #[.string sentS0] 276, .cells #[.string sentS1] 276, .cells #[.string sentS2] 276, .cells #[.string sentS3] 276, .cells #[.string sentS4] 276, .cells #[.string sentS5] 276, .cells #[.string sentS6] 276, .cells #[.string sentS7] 276, .cells #[.string sentS8] 276, .cells #[.string sentS9] 276, .cells #[.string sentS10] 276, .cells #[.string sentS11] 276, .cells #[.string sentS12] 276], #[], []⟩ with heap := ((((((((((((((((World.holding Tryz.prog os ⟨#[.cells #[.string sentS0] 276, .cells #[.string sentS1] 276, .cells #[.string sentS2] 276, .cells #[.string sentS3] 276, .cells #[.string sentS4] 276, .cells #[.string sentS5] 276, .cells #[.string sentS6] 276, .cells #[.string sentS7] 276, .cells #[.string sentS8] 276, .cells #[.string sentS9] 276, .cells #[.string sentS10] 276, .cells #[.string sentS11] 276, .cells #[.string sentS12] 276], #[], []⟩).heap.modify 15 fun | .cells _ t frozen => .cells #[.iface 258 (.pointer (some ⟨(World.holding Tryz.prog default ⟨#[], #[], []⟩).heap.size + 0, 0, none⟩))] t frozen | o => o).modify 14 fun | .cells _ t frozen => .cells #[.iface 258 (.pointer (some ⟨(World.holding Tryz.prog default ⟨#[], #[], []⟩).heap.size + 1, 0, none⟩))] t frozen | o => o).modify 16 fun | .cells _ t frozen => .cells #[.iface 258 (.pointer (some ⟨(World.holding Tryz.prog default ⟨#[], #[], []⟩).heap.size + 2, 0, none⟩))] t frozen | o => o).modify 13 fun | .cells _ t frozen => .cells #[.iface 258 (.pointer (some ⟨(World.holding Tryz.prog default ⟨#[], #[], []⟩).heap.size + 3, 0, none⟩))] t frozen | o => o).modify 11 fun | .cells _ t frozen => .cells #[.iface 258 (.pointer (some ⟨(World.holding Tryz.prog default ⟨#[], #[], []⟩).heap.size + 4, 0, none⟩))] t frozen | o => o).modify 12 fun | .cells _ t frozen => .cells #[.iface 258 (.pointer (some ⟨(World.holding Tryz.prog default ⟨#[], #[], []⟩).heap.size + 5, 0, none⟩))] t frozen | o => o).modify 0 fun | .cells _ t frozen => .cells #[.iface 258 (.pointer (some ⟨(World.holding Tryz.prog default ⟨#[], #[], []⟩).heap.size + 6, 0, none⟩))] t frozen | o => o).modify 1 fun | .cells _ t frozen => .cells #[.iface 258 (.pointer (some ⟨(World.holding Tryz.prog default ⟨#[], #[], []⟩).heap.size + 7, 0, none⟩))] t frozen | o => o).modify 2 fun | .cells _ t frozen => .cells #[.iface 258 (.pointer (some ⟨(World.holding Tryz.prog default ⟨#[], #[], []⟩).heap.size + 8, 0, none⟩))] t frozen | o => o).modify 3 fun | .cells _ t frozen => .cells #[.iface 258 (.pointer (some ⟨(World.holding Tryz.prog default ⟨#[], #[], []⟩).heap.size + 9, 0, none⟩))] t frozen | o => o).modify 4 fun | .cells _ t frozen => .cells #[.iface 258 (.pointer (some ⟨(World.holding Tryz.prog default ⟨#[], #[], []⟩).heap.size + 10, 0, none⟩))] t frozen | o => o).modify 5 fun | .cells _ t frozen => .cells #[.iface 258 (.pointer (some ⟨(World.holding Tryz.prog default ⟨#[], #[], []⟩).heap.size + 11, 0, none⟩))] t frozen | o => o).modify 6 fun | .cells _ t frozen => .cells #[.iface 258 (.pointer (some ⟨(World.holding Tryz.prog default ⟨#[], #[], []⟩).heap.size + 12, 0, none⟩))] t frozen | o => o).modify 10 fun | .cells _ t frozen => .cells (([128,191,160,191,128,159,144,191,128,143,0,0,0,0,0,0,0,0,0,0,0,0,0,0,0,0,0,0,0,0,0,0] : List Nat).map fun (n : Nat) => Value.int .u8 (n : Int)).toArray t frozen | o => o).modify 9 fun | .cells _ t frozen => .cells ((Go.Pinned.utf8FirstZ : List Nat).map fun (n : Nat) => Value.int .u8 (n : Int)).toArray t frozen | o => o).modify 7 fun | .cells _ t frozen => .cells #[.iface 153 (.agg #[.pointer (some ⟨17, 47, none⟩)])] t frozen | o => o } : World).forCall (fun _ _ => 0) ⟨#[], args, []⟩).memory :=
  laidMetH_of_parts (laidMet_of_run' 8 (by kernel_rfl) (by kernel_rfl)) (by kernel_rfl)
end Go.Proofs.YtmjfkdpaeenfgaaGreatDoor.F

/-
  Filters of one condition, plainly. Conditions: none.
-/
namespace Go.Proofs.YtmjfkdpaeenfgaaGreatDoor.F
open Go Go.RowKit Go.Shelf Fp
open Go.Proofs.YtmjfkdpaeenfgaaGreatDoor.D (hide unhide ext_list)

theorem ext_min (s : ByteArray) (n : Nat) : s.extract 0 (min (s.size : Int) n).toNat = s.extract 0 n := by
  rcases Nat.le_total s.size n with h | h
  · rw [show (min (s.size : Int) n).toNat = s.size by omega]
    refine ByteArray.ext (Array.ext' ?_)
    rw [ext_list, ext_list, List.take_of_length_le (by rw [Array.length_toList]; exact Nat.le_refl _), List.take_of_length_le (by rw [Array.length_toList]; exact h)]
  · rw [show (min (s.size : Int) n).toNat = n by omega]
theorem ext_size (s : ByteArray) (n : Nat) : (s.extract 0 n).size ≤ n := by rw [ByteArray.size_extract]; omega
/-- a condition with one value. -/
abbrev itF (k : Int) (n v : ByteArray) : Fl 8 := mk k n v [] ⟨#[]⟩ []
abbrev itD (k : Int) (n v : ByteArray) : Fd := ⟨k, n, v, none, 0, 0, ⟨#[]⟩, none, 0, 0⟩
theorem itF_node {k : Int} {n v : ByteArray} (W : World) (hn : n.size ≤ 61) (hv : v.size ≤ 61) : FNode 8 W (fun _ => True) (itD k n v) (itF k n v) :=
  ⟨⟨rfl, rfl, rfl, rfl, rfl, rfl⟩, ⟨by rw [nm_mk]; omega, by rw [va_mk]; omega, by rw [fi_mk]; simp [ByteArray.size], by simp, (fun x hx => by cases hx), by simp⟩, .inl rfl, .inl rfl⟩
theorem itF_right {k : Int} {n v : ByteArray} (hk : k = 3 ∨ k = 5 ∨ k = 6 ∨ k = 8) : right 8 6 (itF k n v) = (okName n && decide (v.size ≤ 60)) := by
  have h1 : isSet k = false := by rcases hk with rfl | rfl | rfl | rfl <;> rfl
  have h4 : ¬ k = 4 := by omega
  have h7 : ¬ k = 7 := by omega
  have h5 : k = 3 ∨ k = 5 ∨ k = 6 ∨ k = 7 ∨ k = 8 := by omega
  have e : fitB k n v [] ⟨#[]⟩ 0 = (okName n && decide (v.size ≤ 60)) := by
    unfold fitB
    rw [if_neg (by rw [h1]; simp), if_neg h4, if_pos h5]
    unfold fitV
    rw [if_neg h7]
    generalize okName n = b
    generalize decide (v.size ≤ 60) = c
    cases b <;> cases c <;> rfl
  show (decide (0 < 6) && fitB k n v [] ⟨#[]⟩ 0 && ([] : List (Fl 7)).all (right 7 5)) = _
  rw [e]
  generalize (okName n && decide (v.size ≤ 60)) = b
  cases b <;> rfl
/-- the text of one. -/
theorem itF_text {k : Int} {n v sg : ByteArray} (hk : k = 3 ∧ sg = ⟨#[61]⟩ ∨ k = 5 ∧ sg = ⟨#[62, 61]⟩ ∨ k = 6 ∧ sg = ⟨#[60, 61]⟩ ∨ k = 8 ∧ sg = ⟨#[126, 61]⟩) :
    (⟨(text 8 (itF k n v)).toArray⟩ : ByteArray) = ⟨#[40]⟩ ++ n ++ sg ++ E.pri false v ++ ⟨#[41]⟩ := by
  have h1 : isSet k = false := by rcases hk with ⟨rfl, _⟩ | ⟨rfl, _⟩ | ⟨rfl, _⟩ | ⟨rfl, _⟩ <;> rfl
  have h4 : ¬ k = 4 := by omega
  have hs : sgn k = sg.data.toList := by rcases hk with ⟨rfl, rfl⟩ | ⟨rfl, rfl⟩ | ⟨rfl, rfl⟩ | ⟨rfl, rfl⟩ <;> rfl
  refine ByteArray.ext (Array.ext' ?_)
  show (40 :: ((if isSet k = true then sgn k ++ (([] : List (Fl 7)).map (text 7)).flatten else if k = 4 then n.data.toList ++ 61 :: pieces v [] ⟨#[]⟩ else n.data.toList ++ (sgn k ++ pv v)) ++ [41])) = _
  rw [if_neg (by rw [h1]; simp), if_neg h4, hs, E.data_app, E.data_app, E.data_app, E.data_app]
  simp
theorem itF_prt {k : Int} {n v sg : ByteArray} (hk : k = 3 ∧ sg = ⟨#[61]⟩ ∨ k = 5 ∧ sg = ⟨#[62, 61]⟩ ∨ k = 6 ∧ sg = ⟨#[60, 61]⟩ ∨ k = 8 ∧ sg = ⟨#[126, 61]⟩) :
    prtF (itF k n v) = if (okName n && decide (v.size ≤ 60)) = true then .tuple #[.string (⟨#[40]⟩ ++ n ++ sg ++ E.pri false v ++ ⟨#[41]⟩), .int .i64 0] else .tuple #[.string ⟨#[]⟩, .int .i64 80] := by
  unfold prtF
  rw [itF_right (by omega), itF_text hk]
/-- two pieces about a star; whatever there is. -/
abbrev subF (n a b : ByteArray) : Fl 8 := mk 4 n a [] b []
abbrev preF (n : ByteArray) : Fl 8 := mk 7 n ⟨#[]⟩ [] ⟨#[]⟩ []
abbrev starS (n a b : ByteArray) : ByteArray := ⟨#[40]⟩ ++ n ++ ⟨#[61]⟩ ++ E.pri false a ++ ⟨#[42]⟩ ++ E.pri false b ++ ⟨#[41]⟩
theorem subF_right {n a b : ByteArray} (hn : okName n = true) (ha : a.size ≤ 60) (hb : b.size ≤ 60) (h : a.size ≠ 0 ∨ b.size ≠ 0) : right 8 6 (subF n a b) = true := by
  have e : fitB 4 n a [] b 0 = true := by
    unfold fitB
    rw [if_neg (by decide), if_pos rfl]
    unfold fitU
    have h2 : (decide (a.size ≠ 0) || decide (0 < ([] : List ByteArray).length) || decide (b.size ≠ 0)) = true := by
      rcases h with h | h
      · rw [decide_eq_true h]; rfl
      · rw [decide_eq_true h, Bool.or_true]
    rw [h2, hn, decide_eq_true ha, decide_eq_true hb]
    rfl
  show (decide (0 < 6) && fitB 4 n a [] b 0 && ([] : List (Fl 7)).all (right 7 5)) = _
  rw [e]
  rfl
theorem preF_right {n : ByteArray} (hn : okName n = true) : right 8 6 (preF n) = true := by
  have e : fitB 7 n ⟨#[]⟩ [] ⟨#[]⟩ 0 = true := by
    unfold fitB
    rw [if_neg (by decide), if_neg (by decide), if_pos (by decide)]
    unfold fitV
    rw [hn]
    rfl
  show (decide (0 < 6) && fitB 7 n ⟨#[]⟩ [] ⟨#[]⟩ 0 && ([] : List (Fl 7)).all (right 7 5)) = _
  rw [e]
  rfl
theorem subF_text (n a b : ByteArray) : text 8 (subF n a b) = (starS n a b).data.toList := by
  show (40 :: (n.data.toList ++ 61 :: Dp.jn 42 [pv a, pv b] ++ [41])) = _
  rw [E.data_app, E.data_app, E.data_app, E.data_app, E.data_app, E.data_app, Dp.jn_cons, Dp.jn_one]
  simp
theorem preF_text (n : ByteArray) : text 8 (preF n) = (starS n ⟨#[]⟩ ⟨#[]⟩).data.toList := by
  have h : pv ⟨#[]⟩ = [] := by decide +kernel
  show (40 :: (n.data.toList ++ ([61, 42] ++ pv ⟨#[]⟩) ++ [41])) = _
  rw [E.data_app, E.data_app, E.data_app, E.data_app, E.data_app, E.data_app, show (E.pri false ⟨#[]⟩).data.toList = [] from h, h]
  simp
theorem star_rd {n a b : ByteArray} (hn : okName n = true) (ha : a.size ≤ 60) (hb : b.size ≤ 60) : rdT (starS n a b).data.toList = some (if a.size = 0 ∧ b.size = 0 then preF n else subF n a b) := by
  by_cases h : a.size = 0 ∧ b.size = 0
  · rw [if_pos h, size_nil h.1, size_nil h.2, ← preF_text, rdT_text _ (preF_right hn)]
  · rw [if_neg h, ← subF_text, rdT_text _ (subF_right hn ha hb (by omega))]
theorem starS_size (n a b : ByteArray) : (starS n a b).size = n.size + (E.pri false a).size + (E.pri false b).size + 4 := by
  simp only [ByteArray.size_append]
  show 1 + n.size + 1 + _ + 1 + _ + 1 = _
  omega
end Go.Proofs.YtmjfkdpaeenfgaaGreatDoor.F
