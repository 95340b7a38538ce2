/- Several texts in one: FLaid, FOpen, FRd1. Each says what it proves, and its conditions. -/
import Derived.Test.YtjhnblgamodekaaGreatDoorCards
import Derived.Test.YtjhnblgamodekaaGreatDoorTie
import Derived.Test.YtjhnblgamodekaaGreatDoorG31
import Derived.ProofKit
import Derived.OpenShut
import Derived.Deep.DeepHandedRow
import Derived.Stop.LaidTwo
import Derived.Deep.Strs
set_option linter.unusedSimpArgs false
set_option maxHeartbeats 1000000
set_option maxRecDepth 100000
/-
 What the rows' list of variables gives a walk ('Glob'), and a world that holds it. Conditions: none.
-/
namespace Go.Proofs.YtjhnblgamodekaaGreatDoor.F
open Go Go.ChangeShapes Go.WideShapes Go.ChangeAt Go.RowKit
theorem laid_first {P : Program} {n0 nm : String} {text0 : List UInt8} {r : List (String × DataW Unit)} {W : World} {ps : List MemPlace} {g0 : Nat} {ti tp te ts : TypeId} {ms : Array (String × TypeId)} {f : Field}
  (h : DataW.LaidVars P W ((n0, .iface nm (.ptr (.agg [.lit (.string text0)]))) :: r) ps)
  (hrows : ∀ b off, MemPlace.cell b off ∈ ps -> (∃ c t, W.heap[b]? = some (.cells c t (0, 0))) /\ ∀ u v, W.cell? ⟨b, off, none⟩ = some (.iface u v) -> Value.okWide P W .any 0 u v)
  (hg0 : P.globalNamed n0 = some g0) (ht0 : (P.globals[g0]?).map (·.type) = some ti)
  (hi : P.underlying ti = some (.interface ms)) (hrow : ∀ u, P.typeName? 3 u = some nm -> u = tp)
  (hp : P.underlying tp = some (.pointer te)) (he : P.underlying te = some (.struct #[f])) (hft : f.type = ts) (hfo : f.offset = 0) (hs : P.underlying ts = some .string) (hc : P.cellsOf te = 1) (hcs : P.cellsOf ts = 1) :
  ∃ (a : Addr) (c : Array Value) (t : TypeId) (ps' : List MemPlace), W.var? P n0 = some #[.iface tp (.pointer (some a))] /\ W.heap[a.block]? = some (.cells c t (0, 0)) /\ ps = .cell g0 0 :: .cell a.block a.off :: ps' /\ DataW.LaidVars P W r ps' := by
 obtain ⟨g0', t0', cs0, f0, p0, q0, hg0', ht0', hv0, hd0, hrest, e0⟩ := h
 obtain rfl := Option.some.inj (hg0.symm.trans hg0')
 obtain rfl := Option.some.inj (ht0.symm.trans ht0')
 subst e0
 obtain ⟨l0⟩ := cs0
 have ok0 : ∀ u v, l0 = [.iface u v] -> Value.okWide P W .any 0 u v := fun u v e => by
  subst e
  exact (hrows g0 0 (by simp [MemPlace.row])).2 u v (by simpa using World.var?_cell hg0' hv0 0)
 obtain ⟨a0, s0, rfl, hc0, hs0, hz0, rfl⟩ := errorString_of_trod hi hrow hp he hft hfo hs hc hcs hd0 ok0
 obtain ⟨c0, t0, hb0⟩ := (hrows a0.block a0.off (by simp [MemPlace.row])).1
 exact ⟨a0, c0, t0, q0, hv0, hb0, by simp [MemPlace.row], hrest⟩
theorem own : ownKnob Tryz.prog.godebug = none := by kernel_rfl
theorem gTy : Tryz.prog.globalNamed "errors.errorType" = some 7 := by kernel_rfl
theorem g0N : Tryz.prog.globalNamed "latiner/code.errCut" = some 15 := by kernel_rfl
theorem g0T : (Tryz.prog.globals[15]?).map (·.type) = some 42 := by kernel_rfl
theorem g1N : Tryz.prog.globalNamed "latiner/code.errEnd" = some 14 := by kernel_rfl
theorem g1T : (Tryz.prog.globals[14]?).map (·.type) = some 42 := by kernel_rfl
theorem g2N : Tryz.prog.globalNamed "latiner/code.errBits" = some 16 := by kernel_rfl
theorem g2T : (Tryz.prog.globals[16]?).map (·.type) = some 42 := by kernel_rfl
theorem g3N : Tryz.prog.globalNamed "latiner/utf.errUtf" = some 13 := by kernel_rfl
theorem g3T : (Tryz.prog.globals[13]?).map (·.type) = some 42 := by kernel_rfl
theorem g4N : Tryz.prog.globalNamed "latiner/esc.errText" = some 11 := by kernel_rfl
theorem g4T : (Tryz.prog.globals[11]?).map (·.type) = some 42 := by kernel_rfl
theorem g5N : Tryz.prog.globalNamed "latiner/esc.errMark" = some 12 := by kernel_rfl
theorem g5T : (Tryz.prog.globals[12]?).map (·.type) = some 42 := by kernel_rfl
theorem g6N : Tryz.prog.globalNamed "latiner/filt.errDeep" = some 0 := by kernel_rfl
theorem g6T : (Tryz.prog.globals[0]?).map (·.type) = some 42 := by kernel_rfl
theorem g7N : Tryz.prog.globalNamed "latiner/filt.errCount" = some 1 := by kernel_rfl
theorem g7T : (Tryz.prog.globals[1]?).map (·.type) = some 42 := by kernel_rfl
theorem g8N : Tryz.prog.globalNamed "latiner/filt.errName" = some 2 := by kernel_rfl
theorem g8T : (Tryz.prog.globals[2]?).map (·.type) = some 42 := by kernel_rfl
theorem g9N : Tryz.prog.globalNamed "latiner/filt.errLong" = some 3 := by kernel_rfl
theorem g9T : (Tryz.prog.globals[3]?).map (·.type) = some 42 := by kernel_rfl
theorem g10N : Tryz.prog.globalNamed "latiner/filt.errField" = some 4 := by kernel_rfl
theorem g10T : (Tryz.prog.globals[4]?).map (·.type) = some 42 := by kernel_rfl
theorem g11N : Tryz.prog.globalNamed "latiner/filt.errSign" = some 5 := by kernel_rfl
theorem g11T : (Tryz.prog.globals[5]?).map (·.type) = some 42 := by kernel_rfl
theorem g12N : Tryz.prog.globalNamed "latiner/filt.errMore" = some 6 := by kernel_rfl
theorem g12T : (Tryz.prog.globals[6]?).map (·.type) = some 42 := by kernel_rfl
theorem rtRow : (Tryz.prog.cutTypes.find? (·.1 == "internal/reflectlite.rtype")).map (·.2) = some 121 := by kernel_rfl
theorem oneRow : ((List.range 283).filter fun t => Tryz.prog.rowNamed t [101, 114, 114, 111, 114]) = [42] := by kernel_rfl
theorem nTypes : Tryz.prog.types.size = 283 := by kernel_rfl
theorem handleError : typeHandle Tryz.prog 42 = .pointer (some ⟨17, 42, none⟩) := by kernel_rfl
theorem cellsES : Tryz.prog.cellsOf 272 = 1 := by kernel_rfl
theorem cellsStr : Tryz.prog.cellsOf 9 = 1 := by kernel_rfl
abbrev Ls : List (String × DataW Unit) := [("errors.errorType", Rows.laid_errors_errorType), ("latiner/code.errCut", Rows.laid_latiner_code_errCut), ("latiner/code.errEnd", Rows.laid_latiner_code_errEnd), ("latiner/code.errBits", Rows.laid_latiner_code_errBits), ("latiner/utf.errUtf", Rows.laid_latiner_utf_errUtf), ("latiner/esc.errText", Rows.laid_latiner_esc_errText), ("latiner/esc.errMark", Rows.laid_latiner_esc_errMark), ("latiner/filt.errDeep", Rows.laid_latiner_filt_errDeep), ("latiner/filt.errCount", Rows.laid_latiner_filt_errCount), ("latiner/filt.errName", Rows.laid_latiner_filt_errName), ("latiner/filt.errLong", Rows.laid_latiner_filt_errLong), ("latiner/filt.errField", Rows.laid_latiner_filt_errField), ("latiner/filt.errSign", Rows.laid_latiner_filt_errSign), ("latiner/filt.errMore", Rows.laid_latiner_filt_errMore)]
theorem star : "*" ++ "errors.errorString" = "*errors.errorString" := by decide
theorem rowES (u : TypeId) (h : Tryz.prog.typeName? 3 u = some "*errors.errorString") : u = 254 :=
 typeName_ptr_named (P := Tryz.prog) (nm := "errors.errorString") (by rw [star]; kernel_rfl) (by kernel_rfl) (by decide) u (by rw [star]; exact h)
abbrev LsAll : List (String × DataW Unit) := [("unicode/utf8.acceptRanges", Rows.laid_unicode_utf8_acceptRanges), ("errors.errorType", Rows.laid_errors_errorType), ("latiner/code.errCut", Rows.laid_latiner_code_errCut), ("latiner/code.errEnd", Rows.laid_latiner_code_errEnd), ("latiner/code.errBits", Rows.laid_latiner_code_errBits), ("latiner/utf.errUtf", Rows.laid_latiner_utf_errUtf), ("latiner/esc.errText", Rows.laid_latiner_esc_errText), ("latiner/esc.errMark", Rows.laid_latiner_esc_errMark), ("latiner/filt.errDeep", Rows.laid_latiner_filt_errDeep), ("latiner/filt.errCount", Rows.laid_latiner_filt_errCount), ("latiner/filt.errName", Rows.laid_latiner_filt_errName), ("latiner/filt.errLong", Rows.laid_latiner_filt_errLong), ("latiner/filt.errField", Rows.laid_latiner_filt_errField), ("latiner/filt.errSign", Rows.laid_latiner_filt_errSign), ("latiner/filt.errMore", Rows.laid_latiner_filt_errMore), ("unicode/utf8.first", Rows.laid_unicode_utf8_first)]
theorem keep_eq : (LsAll.filter fun x => !(x.1 == "unicode/utf8.acceptRanges" || x.1 == "unicode/utf8.first")) = Ls := by kernel_rfl
theorem glob_of_laid {W : World} (hall : laidMetH Tryz.prog LsAll W) : ∃ a, Glob a W := by
 have h : laidMetH Tryz.prog Ls W := by rw [<- keep_eq]; exact hall.filter _
 have h' : laidMet Tryz.prog [("latiner/code.errCut", Rows.laid_latiner_code_errCut), ("latiner/code.errEnd", Rows.laid_latiner_code_errEnd), ("latiner/code.errBits", Rows.laid_latiner_code_errBits), ("latiner/utf.errUtf", Rows.laid_latiner_utf_errUtf), ("latiner/esc.errText", Rows.laid_latiner_esc_errText), ("latiner/esc.errMark", Rows.laid_latiner_esc_errMark), ("latiner/filt.errDeep", Rows.laid_latiner_filt_errDeep), ("latiner/filt.errCount", Rows.laid_latiner_filt_errCount), ("latiner/filt.errName", Rows.laid_latiner_filt_errName), ("latiner/filt.errLong", Rows.laid_latiner_filt_errLong), ("latiner/filt.errField", Rows.laid_latiner_filt_errField), ("latiner/filt.errSign", Rows.laid_latiner_filt_errSign), ("latiner/filt.errMore", Rows.laid_latiner_filt_errMore)] W /\ handlesMet Tryz.prog [("errors.errorType", Rows.laid_errors_errorType)] W := h
 obtain ⟨hd, hh⟩ := h'
 obtain ⟨name, u, ty, x1, x2, x3, x4, e5h⟩ := hh _ (List.mem_singleton.2 rfl)
 have en : name = [101, 114, 114, 111, 114] := (Option.some.inj x1).symm
 subst en
 obtain rfl := Option.some.inj (rtRow.symm.trans x2)
 have hm : ty ∈ (List.range 283).filter fun t => Tryz.prog.rowNamed t [101, 114, 114, 111, 114] := List.mem_filter.2 ⟨List.mem_range.2 (by rw [<- nTypes]; exact x3), x4⟩
 rw [oneRow] at hm
 obtain rfl := List.mem_singleton.1 hm
 rw [handleError] at e5h
 obtain ⟨ps0, h0, hnd, hrows⟩ := hd
 obtain ⟨a0, c0, t0, ps1, v0, b0, rfl, h1⟩ := laid_first h0 (fun b off hm => hrows b off (by simp [hm])) g0N g0T Tryz.underlying42 rowES Tryz.underlying254 Tryz.underlying272 rfl rfl Tryz.underlying9 cellsES cellsStr
 obtain ⟨a1, c1, t1, ps2, v1, b1, rfl, h2⟩ := laid_first h1 (fun b off hm => hrows b off (by simp [hm])) g1N g1T Tryz.underlying42 rowES Tryz.underlying254 Tryz.underlying272 rfl rfl Tryz.underlying9 cellsES cellsStr
 obtain ⟨a2, c2, t2, ps3, v2, b2, rfl, h3⟩ := laid_first h2 (fun b off hm => hrows b off (by simp [hm])) g2N g2T Tryz.underlying42 rowES Tryz.underlying254 Tryz.underlying272 rfl rfl Tryz.underlying9 cellsES cellsStr
 obtain ⟨a3, c3, t3, ps4, v3, b3, rfl, h4⟩ := laid_first h3 (fun b off hm => hrows b off (by simp [hm])) g3N g3T Tryz.underlying42 rowES Tryz.underlying254 Tryz.underlying272 rfl rfl Tryz.underlying9 cellsES cellsStr
 obtain ⟨a4, c4, t4, ps5, v4, b4, rfl, h5⟩ := laid_first h4 (fun b off hm => hrows b off (by simp [hm])) g4N g4T Tryz.underlying42 rowES Tryz.underlying254 Tryz.underlying272 rfl rfl Tryz.underlying9 cellsES cellsStr
 obtain ⟨a5, c5, t5, ps6, v5, b5, rfl, h6⟩ := laid_first h5 (fun b off hm => hrows b off (by simp [hm])) g5N g5T Tryz.underlying42 rowES Tryz.underlying254 Tryz.underlying272 rfl rfl Tryz.underlying9 cellsES cellsStr
 obtain ⟨a6, c6, t6, ps7, v6, b6, rfl, h7⟩ := laid_first h6 (fun b off hm => hrows b off (by simp [hm])) g6N g6T Tryz.underlying42 rowES Tryz.underlying254 Tryz.underlying272 rfl rfl Tryz.underlying9 cellsES cellsStr
 obtain ⟨a7, c7, t7, ps8, v7, b7, rfl, h8⟩ := laid_first h7 (fun b off hm => hrows b off (by simp [hm])) g7N g7T Tryz.underlying42 rowES Tryz.underlying254 Tryz.underlying272 rfl rfl Tryz.underlying9 cellsES cellsStr
 obtain ⟨a8, c8, t8, ps9, v8, b8, rfl, h9⟩ := laid_first h8 (fun b off hm => hrows b off (by simp [hm])) g8N g8T Tryz.underlying42 rowES Tryz.underlying254 Tryz.underlying272 rfl rfl Tryz.underlying9 cellsES cellsStr
 obtain ⟨a9, c9, t9, ps10, v9, b9, rfl, h10⟩ := laid_first h9 (fun b off hm => hrows b off (by simp [hm])) g9N g9T Tryz.underlying42 rowES Tryz.underlying254 Tryz.underlying272 rfl rfl Tryz.underlying9 cellsES cellsStr
 obtain ⟨a10, c10, t10, ps11, v10, b10, rfl, h11⟩ := laid_first h10 (fun b off hm => hrows b off (by simp [hm])) g10N g10T Tryz.underlying42 rowES Tryz.underlying254 Tryz.underlying272 rfl rfl Tryz.underlying9 cellsES cellsStr
 obtain ⟨a11, c11, t11, ps12, v11, b11, rfl, h12⟩ := laid_first h11 (fun b off hm => hrows b off (by simp [hm])) g11N g11T Tryz.underlying42 rowES Tryz.underlying254 Tryz.underlying272 rfl rfl Tryz.underlying9 cellsES cellsStr
 obtain ⟨a12, c12, t12, ps13, v12, b12, rfl, h13⟩ := laid_first h12 (fun b off hm => hrows b off (by simp [hm])) g12N g12T Tryz.underlying42 rowES Tryz.underlying254 Tryz.underlying272 rfl rfl Tryz.underlying9 cellsES cellsStr
 clear hrows h13
 have eT := World.var?_cell gTy e5h 0
 have n1_0 : a1 ≠ a0 := fun e => by rw [e] at hnd; simp at hnd
 have n2_0 : a2 ≠ a0 := fun e => by rw [e] at hnd; simp at hnd
 have n2_1 : a2 ≠ a1 := fun e => by rw [e] at hnd; simp at hnd
 have n5_4 : a5 ≠ a4 := fun e => by rw [e] at hnd; simp at hnd
 exact ⟨⟨⟨⟨a0, a1, a2⟩, a3, a3, a4, a5⟩, a6, a7, a8, a9, a10, a11, a12⟩, ⟨⟨by simpa using eT, by simpa using World.var?_cell g0N v0 0, by simpa using World.var?_cell g1N v1 0, by simpa using World.var?_cell g2N v2 0, n1_0, n2_0, n2_1, ⟨_, _, b0⟩, ⟨_, _, b1⟩, ⟨_, _, b2⟩⟩, ⟨by simpa using eT, by simpa using World.var?_cell g3N v3 0⟩, by simpa using World.var?_cell g4N v4 0, by simpa using World.var?_cell g5N v5 0, n5_4, ⟨_, _, b4⟩, ⟨_, _, b5⟩⟩, by simpa using World.var?_cell g6N v6 0, by simpa using World.var?_cell g7N v7 0, by simpa using World.var?_cell g8N v8 0, by simpa using World.var?_cell g9N v9 0, by simpa using World.var?_cell g10N v10 0, by simpa using World.var?_cell g11N v11 0, by simpa using World.var?_cell g12N v12 0, ⟨_, _, b6⟩, ⟨_, _, b7⟩, ⟨_, _, b8⟩, ⟨_, _, b9⟩, ⟨_, _, b10⟩, ⟨_, _, b11⟩, ⟨_, _, b12⟩⟩
abbrev sentS0 : ByteArray := ⟨#[97, 32, 103, 114, 111, 117, 112, 39, 115, 32, 115, 105, 103, 110, 115, 32, 109, 105, 115, 115]⟩
abbrev sentS1 : ByteArray := ⟨#[115, 105, 103, 110, 115, 32, 98, 101, 104, 105, 110, 100, 32, 116, 104, 101, 32, 101, 110, 100]⟩
abbrev sentS2 : ByteArray := ⟨#[98, 105, 116, 115, 32, 116, 104, 97, 116, 32, 116, 101, 108, 108, 32, 110, 111, 116, 104, 105, 110, 103, 32, 97, 114, 101, 32, 110, 111, 116, 32, 48]⟩
abbrev sentS3 : ByteArray := ⟨#[110, 111, 32, 115, 105, 103, 110, 39, 115, 32, 98, 121, 116, 101, 115, 32, 98, 101, 103, 105, 110, 32, 115, 111]⟩
abbrev sentS4 : ByteArray := ⟨#[110, 111, 32, 115, 105, 103, 110, 39, 115, 32, 98, 121, 116, 101, 115, 32, 98, 101, 103, 105, 110, 32, 115, 111]⟩
abbrev sentS5 : ByteArray := ⟨#[97, 32, 98, 97, 99, 107, 115, 108, 97, 115, 104, 32, 115, 116, 97, 110, 100, 115, 32, 97, 104, 101, 97, 100, 32, 111, 102, 32, 110, 111, 116, 104, 105, 110, 103, 32, 116, 104, 97, 116, 32, 105, 116, 32, 109, 97, 121]⟩
abbrev sentS6 : ByteArray := ⟨#[116, 111, 111, 32, 100, 101, 101, 112]⟩
abbrev sentS7 : ByteArray := ⟨#[116, 111, 111, 32, 109, 97, 110, 121, 44, 32, 111, 114, 32, 110, 111, 110, 101]⟩
abbrev sentS8 : ByteArray := ⟨#[110, 111, 32, 97, 116, 116, 114, 105, 98, 117, 116, 101, 39, 115, 32, 110, 97, 109, 101]⟩
abbrev sentS9 : ByteArray := ⟨#[116, 111, 111, 32, 108, 111, 110, 103, 44, 32, 111, 114, 32, 101, 109, 112, 116, 121, 32, 119, 104, 101, 114, 101, 32, 105, 116, 32, 109, 97, 121, 32, 110, 111, 116, 32, 98, 101]⟩
abbrev sentS10 : ByteArray := ⟨#[115, 111, 109, 101, 116, 104, 105, 110, 103, 32, 116, 104, 97, 116, 32, 116, 104, 105, 115, 32, 107, 105, 110, 100, 32, 104, 97, 115, 32, 110, 111, 116]⟩
abbrev sentS11 : ByteArray := ⟨#[97, 32, 115, 105, 103, 110, 32, 105, 115, 32, 109, 105, 115, 115, 105, 110, 103]⟩
abbrev sentS12 : ByteArray := ⟨#[109, 111, 114, 101, 32, 115, 116, 97, 110, 100, 115, 32, 98, 101, 104, 105, 110, 100, 32, 116, 104, 101, 32, 102, 105, 108, 116, 101, 114]⟩
theorem laid_met (os : Os) (args : Array Value) : laidMetH Tryz.prog LsAll (({ World.holding Tryz.prog os ⟨#[.cells #[.string sentS0] 272, .cells #[.string sentS1] 272, .cells #[.string sentS2] 272, .cells #[.string sentS3] 272, .cells #[.string sentS4] 272, .cells #[.string sentS5] 272, .cells #[.string sentS6] 272, .cells #[.string sentS7] 272, .cells #[.string sentS8] 272, .cells #[.string sentS9] 272, .cells #[.string sentS10] 272, .cells #[.string sentS11] 272, .cells #[.string sentS12] 272], #[], []⟩ with heap := ((((((((((((((((World.holding Tryz.prog os ⟨#[.cells #[.string sentS0] 272, .cells #[.string sentS1] 272, .cells #[.string sentS2] 272, .cells #[.string sentS3] 272, .cells #[.string sentS4] 272, .cells #[.string sentS5] 272, .cells #[.string sentS6] 272, .cells #[.string sentS7] 272, .cells #[.string sentS8] 272, .cells #[.string sentS9] 272, .cells #[.string sentS10] 272, .cells #[.string sentS11] 272, .cells #[.string sentS12] 272], #[], []⟩).heap.modify 15 fun | .cells _ t frozen => .cells #[.iface 254 (.pointer (some ⟨(World.holding Tryz.prog default ⟨#[], #[], []⟩).heap.size + 0, 0, none⟩))] t frozen | o => o).modify 14 fun | .cells _ t frozen => .cells #[.iface 254 (.pointer (some ⟨(World.holding Tryz.prog default ⟨#[], #[], []⟩).heap.size + 1, 0, none⟩))] t frozen | o => o).modify 16 fun | .cells _ t frozen => .cells #[.iface 254 (.pointer (some ⟨(World.holding Tryz.prog default ⟨#[], #[], []⟩).heap.size + 2, 0, none⟩))] t frozen | o => o).modify 13 fun | .cells _ t frozen => .cells #[.iface 254 (.pointer (some ⟨(World.holding Tryz.prog default ⟨#[], #[], []⟩).heap.size + 3, 0, none⟩))] t frozen | o => o).modify 11 fun | .cells _ t frozen => .cells #[.iface 254 (.pointer (some ⟨(World.holding Tryz.prog default ⟨#[], #[], []⟩).heap.size + 4, 0, none⟩))] t frozen | o => o).modify 12 fun | .cells _ t frozen => .cells #[.iface 254 (.pointer (some ⟨(World.holding Tryz.prog default ⟨#[], #[], []⟩).heap.size + 5, 0, none⟩))] t frozen | o => o).modify 0 fun | .cells _ t frozen => .cells #[.iface 254 (.pointer (some ⟨(World.holding Tryz.prog default ⟨#[], #[], []⟩).heap.size + 6, 0, none⟩))] t frozen | o => o).modify 1 fun | .cells _ t frozen => .cells #[.iface 254 (.pointer (some ⟨(World.holding Tryz.prog default ⟨#[], #[], []⟩).heap.size + 7, 0, none⟩))] t frozen | o => o).modify 2 fun | .cells _ t frozen => .cells #[.iface 254 (.pointer (some ⟨(World.holding Tryz.prog default ⟨#[], #[], []⟩).heap.size + 8, 0, none⟩))] t frozen | o => o).modify 3 fun | .cells _ t frozen => .cells #[.iface 254 (.pointer (some ⟨(World.holding Tryz.prog default ⟨#[], #[], []⟩).heap.size + 9, 0, none⟩))] t frozen | o => o).modify 4 fun | .cells _ t frozen => .cells #[.iface 254 (.pointer (some ⟨(World.holding Tryz.prog default ⟨#[], #[], []⟩).heap.size + 10, 0, none⟩))] t frozen | o => o).modify 5 fun | .cells _ t frozen => .cells #[.iface 254 (.pointer (some ⟨(World.holding Tryz.prog default ⟨#[], #[], []⟩).heap.size + 11, 0, none⟩))] t frozen | o => o).modify 6 fun | .cells _ t frozen => .cells #[.iface 254 (.pointer (some ⟨(World.holding Tryz.prog default ⟨#[], #[], []⟩).heap.size + 12, 0, none⟩))] t frozen | o => o).modify 10 fun | .cells _ t frozen => .cells (([128,191,160,191,128,159,144,191,128,143,0,0,0,0,0,0,0,0,0,0,0,0,0,0,0,0,0,0,0,0,0,0] : List Nat).map fun (n : Nat) => Value.int .u8 (n : Int)).toArray t frozen | o => o).modify 9 fun | .cells _ t frozen => .cells ((Go.Pinned.utf8FirstZ : List Nat).map fun (n : Nat) => Value.int .u8 (n : Int)).toArray t frozen | o => o).modify 7 fun | .cells _ t frozen => .cells #[.iface 121 (.agg #[.pointer (some ⟨17, 42, none⟩)])] t frozen | o => o } : World).forCall (fun _ _ => 0) ⟨#[], args, []⟩).memory :=
 laidMetH_of_parts (laidMet_of_run' 8 (by kernel_rfl) (by kernel_rfl)) (by kernel_rfl)
end Go.Proofs.YtjhnblgamodekaaGreatDoor.F
/-
 What the law file's Cut leaves of a filter that lies in memory, and a filter among the arguments of a law, opened. Conditions: none.
-/
namespace Go.Proofs.YtjhnblgamodekaaGreatDoor.F
open Go Go.RowKit Go.Shelf Go.Deep Go.ChangeShapes Fp
theorem list_of {α : Type} (P : Nat -> α -> Prop) : ∀ m : Nat, (∀ i, i < m -> ∃ x, P i x) -> ∃ ks : List α, ks.length = m /\ ∀ (i : Nat) x, ks[i]? = some x -> P i x
 | 0, _ => ⟨[], rfl, fun i x h => by simp at h⟩
 | m + 1, h => by
  obtain ⟨ks, hl, hk⟩ := list_of P m fun i hi => h i (by omega)
  obtain ⟨x, hx⟩ := h m (by omega)
  refine ⟨ks ++ [x], by simp [hl], fun i y hy => ?_⟩
  by_cases hi : i < ks.length
  ·rw [List.getElem?_append_left hi] at hy; exact hk i y hy
  ·have hlt := (List.getElem?_eq_some_iff.1 hy).1
   have e : i = ks.length := by simp at hlt; omega
   subst e
   simp at hy
   subst hy
   rw [hl]; exact hx
theorem cFil : Tryz.prog.cellsOf 25 = 6 := by kernel_rfl
theorem cStr : Tryz.prog.cellsOf 9 = 1 := by kernel_rfl
theorem cInt : Tryz.prog.cellsOf 3 = 1 := by kernel_rfl
theorem cStrs : Tryz.prog.cellsOf 22 = 1 := by kernel_rfl
theorem cFils : Tryz.prog.cellsOf 23 = 1 := by kernel_rfl
abbrev cutS (d : ByteArray) : ByteArray := d.extract 0 (min (d.size : Int) 61).toNat
theorem cutS_size (d : ByteArray) : (cutS d).size <= 61 := by rw [ByteArray.size_extract]; omega
def CutF : (k : Nat) -> World -> Fd -> Fl k -> Prop
 | 0, _, _, t => Empty.elim t
 | k + 1, W, d, F => (d.a.size <= maxLen /\ d.v.size <= maxLen /\ d.f.size <= maxLen /\ d.sn <= maxLen /\ d.ln <= maxLen) /\ (kd F = d.k /\ nm F = cutS d.a /\ va F = cutS d.v /\ fi F = cutS d.f) /\
   (an F).length = min d.sn 10 /\ (an F = [] \/ ∃ g off, d.sa = some ⟨g, off, none⟩ /\ ∀ (i : Nat) x, (an F)[i]? = some x -> ∃ s : ByteArray, s.size <= maxLen /\ W.cell? ⟨g, off + i, none⟩ = some (.string s) /\ x = cutS s) /\
   (ls F).length = (if k = 0 then 0 else min d.ln 10) /\ (ls F = [] \/ ∃ g off, d.la = some ⟨g, off, none⟩ /\ ∀ (i : Nat) x, (ls F)[i]? = some x -> ∃ e : Fd, At W g (off + i * 6) e /\ CutF k W e x)
theorem CutF.below : ∀ {k : Nat} {W W' : World} {d : Fd} {F : Fl k}, CutF k W d F -> Below W.heap.size W W' -> CutF k W' d F
 | 0, _, _, _, t, _, _ => Empty.elim t
 | k + 1, W, W', d, F, ⟨h1, h2, h3, h4, h5, h6⟩, hb => by
  refine ⟨h1, h2, h3, ?_, h5, ?_⟩
  ·rcases h4 with h | ⟨g, off, ha, hx⟩
   ·exact .inl h
   ·refine .inr ⟨g, off, ha, fun i x hi => ?_⟩
    obtain ⟨s, hs, hc, e⟩ := hx i x hi
    exact ⟨s, hs, (hb.cell (D.lt_cell hc)).trans hc, e⟩
  ·rcases h6 with h | ⟨g, off, ha, hx⟩
   ·exact .inl h
   ·refine .inr ⟨g, off, ha, fun i x hi => ?_⟩
    obtain ⟨e, he, hN⟩ := hx i x hi
    exact ⟨e, he.of (hb.block _ he.lt), hN.below hb⟩
section
variable {H : Type} {enc : TypeId × Value -> H} {P : Program} {w : World} {base : Nat} {spare : Nat -> Bool} {held : Bool}
theorem trod_struct6 {t : TypeId} {f0 f1 f2 f3 f4 f5 : Field} {fuel : Nat} {cs : List Value} {x : DataW H × List MemPlace} (ht : P.underlying t = some (.struct #[f0, f1, f2, f3, f4, f5])) (h : DataW.trod enc P w base spare held fuel t cs = some x) :
  ∃ y0 y1 y2 y3 y4 y5 n, cs.length = P.cellsOf t /\ DataW.trod enc P w base spare held n f0.type ((cs.drop f0.offset).take (P.cellsOf f0.type)) = some y0 /\
   DataW.trod enc P w base spare held n f1.type ((cs.drop f1.offset).take (P.cellsOf f1.type)) = some y1 /\ DataW.trod enc P w base spare held n f2.type ((cs.drop f2.offset).take (P.cellsOf f2.type)) = some y2 /\
   DataW.trod enc P w base spare held n f3.type ((cs.drop f3.offset).take (P.cellsOf f3.type)) = some y3 /\ DataW.trod enc P w base spare held n f4.type ((cs.drop f4.offset).take (P.cellsOf f4.type)) = some y4 /\
   DataW.trod enc P w base spare held n f5.type ((cs.drop f5.offset).take (P.cellsOf f5.type)) = some y5 := by
 obtain ⟨xs, n, _, _, hl, hlen, hf⟩ := DataW.trod_struct ht h
 match xs, hlen with
 | [y0, y1, y2, y3, y4, y5], _ => exact ⟨y0, y1, y2, y3, y4, y5, n, hl, by simpa using hf 0 f0 rfl, by simpa using hf 1 f1 rfl, by simpa using hf 2 f2 rfl, by simpa using hf 3 f3 rfl, by simpa using hf 4 f4 rfl, by simpa using hf 5 f5 rfl⟩
end
theorem six_of {cs : List Value} (h : cs.length = 6) : ∃ c0 c1 c2 c3 c4 c5, cs = [c0, c1, c2, c3, c4, c5] := by
 rcases cs with _ | ⟨c0, _ | ⟨c1, _ | ⟨c2, _ | ⟨c3, _ | ⟨c4, _ | ⟨c5, _ | ⟨c6, r⟩⟩⟩⟩⟩⟩⟩
 all_goals first | exact ⟨_, _, _, _, _, _, rfl⟩ | (exfalso; simp at h)
theorem cells?_six {w : World} {base : Nat} {a : Addr} {cs : List Value} (h : w.cells? base a 6 = some cs) : ∃ c0 c1 c2 c3 c4 c5, cs = [c0, c1, c2, c3, c4, c5] /\ w.cell? a = some c0 /\ w.cell? (a.add 1) = some c1 /\ w.cell? (a.add 2) = some c2 /\ w.cell? (a.add 3) = some c3 /\ w.cell? (a.add 4) = some c4 /\ w.cell? (a.add 5) = some c5 := by
 unfold World.cells? at h
 split at h
 ·rw [show List.range 6 = [0, 1, 2, 3, 4, 5] from rfl] at h
  simp only [List.mapM_cons, List.mapM_nil, Option.pure_def, Option.bind_eq_bind, Option.bind_eq_some_iff] at h
  obtain ⟨c0, h0, r0, ⟨c1, h1, r1, ⟨c2, h2, r2, ⟨c3, h3, r3, ⟨c4, h4, r4, ⟨c5, h5, r5, e5, e4⟩, e3⟩, e2⟩, e1⟩, e0⟩, e⟩ := h
  cases e5; cases e4; cases e3; cases e2; cases e1; cases e0; cases e
  exact ⟨c0, c1, c2, c3, c4, c5, rfl, by simpa [Addr.add] using h0, h1, h2, h3, h4, h5⟩
 ·cases h
theorem spot_none {w : World} {a : Addr} {v : Value} (h : w.cell? a = some v) : a.spot = none := World.cell?_spot h
theorem open_any {H : Type} {enc : TypeId × Value -> H} {W : World} {base : Nat} {sp : Nat -> Bool} {hd : Bool} {fuel : Nat} {v : Value} {x : DataW H × List MemPlace} (h : DataW.trod enc Tryz.prog W base sp hd fuel 22 [v] = some x) :
  ∃ sa sn sc, v = .slice sa sn sc /\ sn <= maxLen /\ ∃ xs : List ByteArray, xs.length = min sn 10 /\ (xs = [] \/ ∃ g off, sa = some ⟨g, off, none⟩ /\ ∀ (i : Nat) x, xs[i]? = some x -> ∃ s : ByteArray, s.size <= maxLen /\ W.cell? ⟨g, off + i, none⟩ = some (.string s) /\ x = cutS s) := by
 rcases open_strs Tryz.underlying22 Tryz.underlying9 cStr h with ⟨e, _⟩ | ⟨a, len, cap, m, Sx, e, hb, hlc, hcm, hm, _, hel⟩
 ·cases e
  exact ⟨none, 0, 0, rfl, Nat.zero_le _, [], rfl, .inl rfl⟩
 ·cases e
  have hlm : len <= m := by rw [hm]; split <;> omega
  by_cases hz : len = 0
  ·cases hz
   exact ⟨some a, 0, cap, rfl, Nat.zero_le _, [], rfl, .inl rfl⟩
  ·have hs : a.spot = none := by
    have := spot_none (hel 0 (by omega)).1
    simpa [Addr.add] using this
   obtain ⟨g, off, sp'⟩ := a
   have hs' : sp' = none := hs
   rw [hs'] at hel ⊢
   refine ⟨_, len, cap, rfl, by omega, (List.range (min len 10)).map fun i => cutS (Sx i), by simp, .inr ⟨g, off, rfl, fun i y hy => ?_⟩⟩
   have hlt := (List.getElem?_eq_some_iff.1 hy).1
   simp at hlt
   obtain ⟨h1, h2⟩ := hel i (by omega)
   rw [Addr.add_lit] at h1
   refine ⟨Sx i, h2, h1, ?_⟩
   simp [List.getElem?_map, List.getElem?_range, hlt] at hy
   have : i < min len 10 := by omega
   simp_all
theorem open_fil {H : Type} {enc : TypeId × Value -> H} {W : World} {base : Nat} {sp : Nat -> Bool} {hd : Bool} : ∀ (k fuel : Nat) (cs : List Value) (x : DataW H × List MemPlace), DataW.trod enc Tryz.prog W base sp hd fuel 25 cs = some x ->
  ∃ d : Fd, cs = d.cs.toList /\ ∃ F : Fl (k + 1), CutF (k + 1) W d F := by
 have key : ∀ (m : Nat) (Kid : List Value -> Prop), (∀ fuel cs (x : DataW H × List MemPlace), DataW.trod enc Tryz.prog W base sp hd fuel 25 cs = some x -> Kid cs) ->
   ∀ fuel cs (x : DataW H × List MemPlace), DataW.trod enc Tryz.prog W base sp hd fuel 25 cs = some x ->
   ∃ d : Fd, cs = d.cs.toList /\ (d.a.size <= maxLen /\ d.v.size <= maxLen /\ d.f.size <= maxLen /\ d.sn <= maxLen /\ d.ln <= maxLen) /\
    (∃ xs : List ByteArray, xs.length = min d.sn 10 /\ (xs = [] \/ ∃ g off, d.sa = some ⟨g, off, none⟩ /\ ∀ (i : Nat) x, xs[i]? = some x -> ∃ s : ByteArray, s.size <= maxLen /\ W.cell? ⟨g, off + i, none⟩ = some (.string s) /\ x = cutS s)) /\
    (d.ln = 0 \/ ∃ g off, d.la = some ⟨g, off, none⟩ /\ ∀ i, i < d.ln -> ∃ c0 c1 c2 c3 c4 c5, Kid [c0, c1, c2, c3, c4, c5] /\ W.cell? ⟨g, off + i * 6, none⟩ = some c0 /\ W.cell? ⟨g, off + i * 6 + 1, none⟩ = some c1 /\ W.cell? ⟨g, off + i * 6 + 2, none⟩ = some c2 /\ W.cell? ⟨g, off + i * 6 + 3, none⟩ = some c3 /\ W.cell? ⟨g, off + i * 6 + 4, none⟩ = some c4 /\ W.cell? ⟨g, off + i * 6 + 5, none⟩ = some c5) := by
  intro m Kid hK fuel cs x h
  obtain ⟨y0, y1, y2, y3, y4, y5, n, hl, h0, h1, h2, h3, h4, h5⟩ := trod_struct6 Tryz.underlying25 h
  rw [cFil] at hl
  obtain ⟨c0, c1, c2, c3, c4, c5, rfl⟩ := six_of hl
  have e0 : (([c0, c1, c2, c3, c4, c5] : List Value).drop 0).take (Tryz.prog.cellsOf 3) = [c0] := by rw [cInt]; rfl
  have e1 : (([c0, c1, c2, c3, c4, c5] : List Value).drop 1).take (Tryz.prog.cellsOf 9) = [c1] := by rw [cStr]; rfl
  have e2 : (([c0, c1, c2, c3, c4, c5] : List Value).drop 2).take (Tryz.prog.cellsOf 9) = [c2] := by rw [cStr]; rfl
  have e3 : (([c0, c1, c2, c3, c4, c5] : List Value).drop 3).take (Tryz.prog.cellsOf 22) = [c3] := by rw [cStrs]; rfl
  have e4 : (([c0, c1, c2, c3, c4, c5] : List Value).drop 4).take (Tryz.prog.cellsOf 9) = [c4] := by rw [cStr]; rfl
  have e5 : (([c0, c1, c2, c3, c4, c5] : List Value).drop 5).take (Tryz.prog.cellsOf 23) = [c5] := by rw [cFils]; rfl
  rw [e0] at h0
  rw [e1] at h1
  rw [e2] at h2
  rw [e3] at h3
  rw [e4] at h4
  rw [e5] at h5
  obtain ⟨t, q0, _, _⟩ := DataW.trod_int Tryz.underlying3 h0
  obtain ⟨a, q1, _, ha⟩ := DataW.trod_string Tryz.underlying9 h1
  obtain ⟨v, q2, _, hv⟩ := DataW.trod_string Tryz.underlying9 h2
  obtain ⟨sa, sn, sc, rfl, hsn, hxs⟩ := open_any h3
  obtain ⟨f, q4, _, hf⟩ := DataW.trod_string Tryz.underlying9 h4
  cases q0; cases q1; cases q2; cases q4
  rcases open_slice Tryz.underlying23 h5 with ⟨q5, _⟩ | ⟨ad, len, cap, m, n2, D, Pl, q5, hb, hlc, hcm, hm, _, hel⟩
  ·cases q5
   exact ⟨⟨t, a, v, sa, sn, sc, f, none, 0, 0⟩, rfl, ⟨ha, hv, hf, hsn, Nat.zero_le _⟩, hxs, .inl rfl⟩
  ·cases q5
   have hlm : len <= m := by rw [hm]; split <;> omega
   by_cases hz : len = 0
   ·exact ⟨⟨t, a, v, sa, sn, sc, f, some ad, len, cap⟩, rfl, ⟨ha, hv, hf, hsn, by show len <= maxLen; omega⟩, hxs, .inl hz⟩
   ·have hs : ad.spot = none := by
     obtain ⟨cs', hc, _⟩ := hel 0 (by omega)
     simp only [cFil] at hc
     obtain ⟨q0, q1, q2, q3, q4, q5, _, hc0, _⟩ := cells?_six hc
     have := spot_none hc0
     simpa [Addr.add] using this
    obtain ⟨g, off, sp'⟩ := ad
    have hs' : sp' = none := hs
    rw [hs'] at hel
    rw [hs']
    refine ⟨⟨t, a, v, sa, sn, sc, f, some ⟨g, off, none⟩, len, cap⟩, rfl, ⟨ha, hv, hf, hsn, by show len <= maxLen; omega⟩, hxs, .inr ⟨g, off, rfl, fun i hi => ?_⟩⟩
    obtain ⟨cs', hc, ht⟩ := hel i (by show i < m; have : i < len := hi; omega)
    simp only [cFil, Addr.add_lit] at hc
    obtain ⟨c0, c1, c2, c3, c4, c5, rfl, k0, k1, k2, k3, k4, k5⟩ := cells?_six hc
    rw [Addr.add_lit] at k1 k2 k3 k4 k5
    exact ⟨c0, c1, c2, c3, c4, c5, hK _ _ _ ht, k0, k1, k2, k3, k4, k5⟩
 intro k
 induction k with
 | zero =>
  intro fuel cs x h
  obtain ⟨d, rfl, h1, ⟨xs, hxl, hxs⟩, _⟩ := key 0 (fun _ => True) (fun _ _ _ _ => trivial) fuel cs x h
  exact ⟨d, rfl, mk d.k (cutS d.a) (cutS d.v) xs (cutS d.f) [], h1, ⟨rfl, rfl, rfl, rfl⟩, hxl, hxs, rfl, .inl rfl⟩
 | succ k ih =>
  intro fuel cs x h
  obtain ⟨d, rfl, h1, ⟨xs, hxl, hxs⟩, hks⟩ := key 0 (fun cs => ∃ d : Fd, cs = d.cs.toList /\ ∃ F : Fl (k + 1), CutF (k + 1) W d F) ih fuel cs x h
  rcases hks with hz | ⟨g, off, ha, hel⟩
  ·exact ⟨d, rfl, mk d.k (cutS d.a) (cutS d.v) xs (cutS d.f) [], h1, ⟨rfl, rfl, rfl, rfl⟩, hxl, hxs, by rw [hz]; rfl, .inl rfl⟩
  ·obtain ⟨ks, hkl, hkx⟩ := list_of (fun i (X : Fl (k + 1)) => ∃ e : Fd, At W g (off + i * 6) e /\ CutF (k + 1) W e X) (min d.ln 10) (fun i hi => by
    obtain ⟨c0, c1, c2, c3, c4, c5, ⟨e, he, X, hX⟩, k0, k1, k2, k3, k4, k5⟩ := hel i (by omega)
    cases he
    exact ⟨X, e, ⟨k0, k1, k2, k3, k4, k5⟩, hX⟩)
   exact ⟨d, rfl, mk d.k (cutS d.a) (cutS d.v) xs (cutS d.f) ks, h1, ⟨rfl, rfl, rfl, rfl⟩, hxl, hxs, by rw [if_neg (by omega)]; exact hkl, .inr ⟨g, off, ha, hkx⟩⟩
end Go.Proofs.YtjhnblgamodekaaGreatDoor.F
/-
 The small functions of filt's text: end, piece, has, upTo, and reader.take. Conditions: the bounds that each names.
-/
namespace Go.Proofs.YtjhnblgamodekaaGreatDoor.F
open Go Go.RowKit Go.Shelf Fp
open D (H_ un ext_list)
attribute [local go_sem] Oper.semAt_some
abbrev tv (s : ByteArray) : Value := .agg #[.string s]
theorem end_any (s : ByteArray) (w : World) : Calls Tryz.prog 46 #[tv s] w fun e w' => e = .returned (.int .i64 s.size) /\ Below w.heap.size w w' := by
 go_enter Tryz.func46, Tryz.ntmps46
 go_wp2
 go_ret
 exact ⟨rfl, (Below.refl _ _).alloc (Nat.le_refl _) _⟩
theorem piece_any (s : ByteArray) (p q : Nat) (w : World) (hs : s.size <= 100000000) (hp : p <= q) :
  Calls Tryz.prog 94 #[tv s, .int .i64 (p : Int), .int .i64 (q : Int)] w fun e w' => e = .returned (.string (s.extract (min (p : Int) s.size).toNat (min (q : Int) s.size).toNat)) /\ Below w.heap.size w w' := by
 obtain ⟨V, hV⟩ : ∃ V, V = w.alloc (.cells #[.string s] 72) := ⟨_, rfl⟩
 have HC := H_ fun (m : Kw V) => m.call (end_any s m.w)
 have hmx : Tryz.prog.follows .mixedOrders = true := by kernel_rfl
 have h1 : (0 : Int) <= min (p : Int) s.size := by omega
 have h2 : min (p : Int) s.size <= min (q : Int) s.size := by omega
 have h3 : min (q : Int) s.size <= s.size := by omega
 have h4 : (s.size : Int) <= 100000000 := by omega
 have c0 : V.cell? ⟨w.heap.size, 0, none⟩ = some (.string s) := by rw [hV, World.cell?_alloc_at _ _ _ _ rfl]; rfl
 have q0 := fun z : Kw V => Kw.cell z c0 (D.lt_cell c0)
 have hne : Nonempty (Kw V) := kwNonempty V
 have HB0 : Hid (Below w.heap.size w V) := by rw [hV]; exact (Below.refl _ _).alloc (Nat.le_refl _) _
 have HVw := H_ hV
 clear hV c0 hs hp
 go_enter Tryz.func94, Tryz.ntmps94
 go_wp2_with fail
 rw [<- un HVw]
 refine wp_region_kw 11 (by kernel_rfl) (by kernel_rfl) ?_
 simp only [List.take_succ_cons, List.take_zero, List.drop_succ_cons, List.drop_zero]
 repeat (go_big_quiet_step (first | with_reducible exact (un HC) _))
 refine wpQuiet_nil ?_
 rintro w' ⟨z, rfl⟩
 go_wp2
 simp only [onlyN]
 go_wp2
 go_ret
 exact ⟨rfl, (un HB0).trans (z.b.mono (un HB0).size)⟩
def at1 (s : ByteArray) (p : Nat) (c : UInt8) : Bool := decide ((s.data.toList.drop p).head? = some c)
theorem ext_one (s : ByteArray) (p : Nat) (c : UInt8) : ((s.extract (min (p : Int) s.size).toNat (min ((p : Int) + 1) s.size).toNat).toList == [c]) = at1 s p c := by
 have hz : s.size = s.data.toList.length := (Array.length_toList).symm
 rw [ByteArray.toList_eq, ext_list, hz]
 unfold at1
 generalize s.data.toList = l
 by_cases h : p < l.length
 ·rw [show (min (p : Int) l.length).toNat = p by omega, show (min ((p : Int) + 1) l.length).toNat = p + 1 by omega]
  have e : (l.take (p + 1)).drop p = [l[p]] := by
   rw [List.take_succ_eq_append_getElem h, List.drop_append]
   simp [Nat.min_eq_left (Nat.le_of_lt h)]
  rw [e, List.drop_eq_getElem_cons h, List.head?_cons]
  by_cases hc : l[p] = c
  ·rw [hc]; simp
  ·simp [hc]
 ·rw [show (min (p : Int) l.length).toNat = l.length by omega, show (min ((p : Int) + 1) l.length).toNat = l.length by omega, List.drop_eq_nil_of_le (Nat.le_of_not_lt h)]
  simp
theorem has_any (s : ByteArray) (p : Nat) (c : UInt8) (w : World) (hs : s.size <= 100000000) (hp : p <= 100000000) :
  Calls Tryz.prog 93 #[tv s, .int .i64 (p : Int), .string ⟨#[c]⟩] w fun e w' => e = .returned (.bool (at1 s p c)) /\ Below w.heap.size w w' := by
 have HP := H_ fun W => piece_any s p (p + 1) W hs (by omega)
 have hx := ext_one s p c
 have hc1 : ((⟨#[c]⟩ : ByteArray).size : Int) = 1 := rfl
 have hl : (⟨#[c]⟩ : ByteArray).toList = [c] := by rw [ByteArray.toList_eq]
 rw [show ((p + 1 : Nat) : Int) = (p : Int) + 1 by omega] at HP
 have hp2 : (p : Int) <= 100000000 := by omega
 generalize s.extract (min (p : Int) s.size).toNat (min ((p : Int) + 1) s.size).toNat = u at *
 generalize at1 s p c = b at *
 clear hs hp
 go_enter Tryz.func93, Tryz.ntmps93
 go_wp2_with fail
 refine ((un HP) _).mono ?_
 rintro e w1 ⟨rfl, hb⟩
 have HB := H_ (((Below.refl w.heap.size w).alloc (Nat.le_refl _) (.cells #[.string s] 72)).trans (hb.mono (by simp)))
 clear hb HP
 go_wp2
 go_ret
 exact ⟨rfl, un HB⟩
theorem upTo_any (s : ByteArray) (p : Nat) (c : UInt8) (w : World) (hs : s.size <= 100000000) (hp : p <= s.size) :
  Calls Tryz.prog 113 #[tv s, .int .i64 (p : Int), .string ⟨#[c]⟩] w fun e w' => (match cutB c (s.data.toList.drop p) with
   | none => e = .returned (.tuple #[.string (s.extract p s.size), .bool false])
   | some (a, _) => e = .returned (.tuple #[.string ⟨a.toArray⟩, .bool true])) /\ Below w.heap.size w w' := by
 have hz : (s.extract p s.size).data.toList = s.data.toList.drop p := by
  rw [ext_list, show s.size = s.data.toList.length from (Array.length_toList).symm, List.take_length]
 have hz2 : (s.extract p s.size).size <= 100000000 := by rw [ByteArray.size_extract]; omega
 have hp2 : (p : Int) <= s.size := by omega
 have hs2 : (s.size : Int) <= 100000000 := by omega
 cases h : cutB c (s.data.toList.drop p) with
 | none =>
  have H := H_ fun W => cut_none c (s.extract p s.size) W (by rw [hz]; exact h)
  generalize hu : s.extract p s.size = u at *
  clear hz hz2 h hs hp
  simp only
  go_enter Tryz.func113, Tryz.ntmps113
  go_wp2_with fail
  refine ((un H) _).mono ?_
  rintro e w1 ⟨rfl, hb⟩
  have HB := H_ (((Below.refl w.heap.size w).alloc (Nat.le_refl _) (.cells #[.string s] 72)).trans (hb.mono (by simp)))
  clear hb H
  go_wp2
  go_ret2
  exact ⟨rfl, un HB⟩
 | some q =>
  obtain ⟨a, t⟩ := q
  have H := H_ fun W => cut_some c (s.extract p s.size) a t W hz2 (by rw [hz]; exact h)
  generalize hu : s.extract p s.size = u at *
  clear hz hz2 h hs hp
  simp only
  generalize (⟨a.toArray⟩ : ByteArray) = ka at *
  generalize (⟨t.toArray⟩ : ByteArray) = kt at *
  go_enter Tryz.func113, Tryz.ntmps113
  go_wp2_with fail
  refine ((un H) _).mono ?_
  rintro e w1 ⟨rfl, hb⟩
  have HB := H_ (((Below.refl w.heap.size w).alloc (Nat.le_refl _) (.cells #[.string s] 72)).trans (hb.mono (by simp)))
  clear hb H
  go_wp2
  go_ret2
  exact ⟨rfl, un HB⟩
structure RAt (W : World) (R : Nat) (s : ByteArray) (kb p : Nat) : Prop where
 blk : W.heap[R]? = some (.cells #[.string s, .int .i64 (p : Int), .map (some kb)] 76 (0, 0))
theorem RAt.cells {W : World} {R kb p : Nat} {s : ByteArray} (h : RAt W R s kb p) : (W.cell? ⟨R, 0, none⟩ = some (.string s) /\ W.cell? ⟨R, 1, none⟩ = some (.int .i64 (p : Int)) /\ W.cell? ⟨R, 2, none⟩ = some (.map (some kb))) /\ W.frozen? ⟨R, 1, none⟩ = false := by
 obtain ⟨h⟩ := h
 refine ⟨⟨?_, ?_, ?_⟩, ?_⟩ <;> simp [World.cell?, World.frozen?, h]
theorem RAt.lt {W : World} {R kb p : Nat} {s : ByteArray} (h : RAt W R s kb p) : R < W.heap.size := (Array.getElem?_eq_some_iff.1 h.blk).1
theorem RAt.below {W W' : World} {R kb p : Nat} {s : ByteArray} (h : RAt W R s kb p) (hb : Below W.heap.size W W') : RAt W' R s kb p := ⟨(hb.block _ h.lt).trans h.blk⟩
theorem RAt.but {W W' : World} {R kb p b : Nat} {s : ByteArray} (h : RAt W R s kb p) (hb : But b W W') (hne : b ≠ R) : RAt W' R s kb p := ⟨(hb.block _ h.lt (Ne.symm hne)).trans h.blk⟩
theorem RAt.set {W : World} {R kb p : Nat} {s : ByteArray} (h : RAt W R s kb p) (q : Nat) : RAt (W.setCell ⟨R, 1, none⟩ (.int .i64 (q : Int))) R s kb q := ⟨heap_set W R 1 _ _ _ h.blk⟩
theorem take_any (s : ByteArray) (R kb p : Nat) (c : UInt8) (w : World) (hs : s.size <= 100000000) (hp : p <= s.size) (hR : RAt w R s kb p) :
  Calls Tryz.prog 74 #[.pointer (some ⟨R, 0, none⟩), .string ⟨#[c]⟩] w fun e w' => e = .returned (.bool (at1 s p c)) /\ But R w w' /\ RAt w' R s kb (if at1 s p c = true then p + 1 else p) := by
 have HC := H_ fun (m : Kw w) => m.call (has_any s p c m.w hs (by omega))
 obtain ⟨⟨c0, c1, c2⟩, _⟩ := hR.cells
 have q0 := fun z : Kw w => Kw.cell z c0 (D.lt_cell c0)
 have q1 := fun z : Kw w => Kw.cell z c1 (D.lt_cell c1)
 have hne : Nonempty (Kw w) := kwNonempty w
 have hmx : Tryz.prog.follows .mixedOrders = true := by kernel_rfl
 have hc1 : ((⟨#[c]⟩ : ByteArray).size : Int) = 1 := rfl
 have HR := H_ hR
 have h4 : (p : Int) <= 100000000 := by omega
 cases hb : at1 s p c with
 | false =>
  rw [hb] at HC
  clear hs hp hR c0 c1 c2 hb
  go_enter Tryz.func74, Tryz.ntmps74
  go_wp2_with fail
  refine wp_region_kw0 (by kernel_rfl) (by kernel_rfl) ?_
  repeat (go_big_quiet_step (first | with_reducible exact (un HC) _))
  refine wpQuiet_nil ?_
  rintro w' ⟨z, rfl⟩
  clear q0 q1
  go_wp2
  go_ret
  exact ⟨rfl, But.of_below z.b, (un HR).below z.b⟩
 | true =>
  rw [hb] at HC
  clear hs hp hR c0 c1 c2 hb
  go_enter Tryz.func74, Tryz.ntmps74
  go_wp2_with fail
  refine wp_region_kw0 (by kernel_rfl) (by kernel_rfl) ?_
  repeat (go_big_quiet_step (first | with_reducible exact (un HC) _))
  refine wpQuiet_nil ?_
  rintro w' ⟨z, rfl⟩
  have hR2 := (un HR).below z.b
  obtain ⟨⟨c0, c1, c2⟩, f1⟩ := hR2.cells
  have HR2 := H_ hR2
  clear q0 q1 hR2
  go_wp2
  go_ret
  refine ⟨rfl, (But.of_below z.b).setCell _ _, ?_⟩
  exact (un HR2).set (p + 1)
end Go.Proofs.YtjhnblgamodekaaGreatDoor.F
