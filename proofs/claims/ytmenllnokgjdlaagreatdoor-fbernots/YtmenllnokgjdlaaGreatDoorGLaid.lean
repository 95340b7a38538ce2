/- What the rows' list of variables gives a walk ('Glob'), and a world that holds it. Conditions: none. -/
import Derived.Test.YtmenllnokgjdlaaGreatDoorCards
import Derived.Test.YtmenllnokgjdlaaGreatDoorTie
import Derived.Test.YtmenllnokgjdlaaGreatDoorG47
import Derived.ProofKit
import Derived.OpenShut
import Derived.Deep.DeepHandedRow
import Derived.Stop.LaidTwo
set_option maxHeartbeats 4000000
namespace Go.Proofs.YtmenllnokgjdlaaGreatDoor.G
open Go Go.ChangeShapes Go.WideShapes Go.ChangeAt Go.RowKit
theorem laid_first {P : Program} {n0 nm : String} {text0 : List UInt8} {r : List (String × DataW Unit)} {W : World} {ps : List MemPlace} {g0 : Nat} {ti tp te ts : TypeId} {ms : Array (String × TypeId)} {f : Field}
  (h : DataW.LaidVars P W ((n0, .iface nm (.ptr (.agg [.lit (.string text0)]))) :: r) ps)
  (hrows : ∀ b off, MemPlace.cell b off ∈ ps -> (∃ c t, W.heap[b]? = some (.cells c t (0, 0))) /\ ∀ u v, W.cell? ⟨b, off, none⟩ = some (.iface u v) -> Value.okWide P W .any 0 u v)
  (hg0 : P.globalNamed n0 = some g0) (ht0 : (P.globals[g0]?).map (·.type) = some ti)
  (hi : P.underlying ti = some (.interface ms)) (hrow : ∀ u, P.typeName? 3 u = some nm -> u = tp)
  (hp : P.underlying tp = some (.pointer te)) (he : P.underlying te = some (.struct #[f])) (hft : f.type = ts) (hfo : f.offset = 0) (hs : P.underlying ts = some .string) (hc : P.cellsOf te = 1) (hcs : P.cellsOf ts = 1) :
  ∃ (a : Addr) (c : Array Value) (t : TypeId) (ps' : List MemPlace), W.var? P n0 = some #[.iface tp (.pointer (some a))] /\ W.heap[a.block]? = some (.cells c t (0, 0)) /\ ps = .cell g0 0 :: .cell a.block a.off :: ps' /\ DataW.LaidVars P W r ps' := by
 obtain ⟨g0', t0', cs0, f0, p0, q0, hg0', ht0', hv0, hd0, hrest, e0⟩ := h
 obtain rfl := Option.some.inj (hg0.symm.trans hg0')
 obtain rfl := Option.some.inj (ht0.symm.trans ht0')
 subst e0
 obtain ⟨l0⟩ := cs0
 have ok0 : ∀ u v, l0 = [.iface u v] -> Value.okWide P W .any 0 u v := fun u v e => by
  subst e
  exact (hrows g0 0 (by simp [MemPlace.row])).2 u v (by simpa using World.var?_cell hg0' hv0 0)
 obtain ⟨a0, s0, rfl, hc0, hs0, hz0, rfl⟩ := errorString_of_trod hi hrow hp he hft hfo hs hc hcs hd0 ok0
 obtain ⟨c0, t0, hb0⟩ := (hrows a0.block a0.off (by simp [MemPlace.row])).1
 exact ⟨a0, c0, t0, q0, hv0, hb0, by simp [MemPlace.row], hrest⟩
theorem own : ownKnob Tryz.prog.godebug = none := by kernel_rfl
theorem gTy : Tryz.prog.globalNamed "errors.errorType" = some 15 := by kernel_rfl
theorem g0N : Tryz.prog.globalNamed "latiner/size.errShort" = some 20 := by kernel_rfl
theorem g0T : (Tryz.prog.globals[20]?).map (·.type) = some 52 := by kernel_rfl
theorem g1N : Tryz.prog.globalNamed "latiner/size.errForm" = some 18 := by kernel_rfl
theorem g1T : (Tryz.prog.globals[18]?).map (·.type) = some 52 := by kernel_rfl
theorem g2N : Tryz.prog.globalNamed "latiner/filt.errDeep" = some 5 := by kernel_rfl
theorem g2T : (Tryz.prog.globals[5]?).map (·.type) = some 52 := by kernel_rfl
theorem g3N : Tryz.prog.globalNamed "latiner/filt.errCount" = some 6 := by kernel_rfl
theorem g3T : (Tryz.prog.globals[6]?).map (·.type) = some 52 := by kernel_rfl
theorem g4N : Tryz.prog.globalNamed "latiner/filt.errName" = some 7 := by kernel_rfl
theorem g4T : (Tryz.prog.globals[7]?).map (·.type) = some 52 := by kernel_rfl
theorem g5N : Tryz.prog.globalNamed "latiner/filt.errLong" = some 8 := by kernel_rfl
theorem g5T : (Tryz.prog.globals[8]?).map (·.type) = some 52 := by kernel_rfl
theorem g6N : Tryz.prog.globalNamed "latiner/filt.errField" = some 9 := by kernel_rfl
theorem g6T : (Tryz.prog.globals[9]?).map (·.type) = some 52 := by kernel_rfl
theorem g7N : Tryz.prog.globalNamed "latiner/filt.errSign" = some 10 := by kernel_rfl
theorem g7T : (Tryz.prog.globals[10]?).map (·.type) = some 52 := by kernel_rfl
theorem g8N : Tryz.prog.globalNamed "latiner/filt.errMore" = some 11 := by kernel_rfl
theorem g8T : (Tryz.prog.globals[11]?).map (·.type) = some 52 := by kernel_rfl
theorem g9N : Tryz.prog.globalNamed "latiner/tlv.errShort" = some 16 := by kernel_rfl
theorem g9T : (Tryz.prog.globals[16]?).map (·.type) = some 52 := by kernel_rfl
theorem g10N : Tryz.prog.globalNamed "latiner/tlv.errTag" = some 17 := by kernel_rfl
theorem g10T : (Tryz.prog.globals[17]?).map (·.type) = some 52 := by kernel_rfl
theorem g11N : Tryz.prog.globalNamed "latiner/tlv.errMore" = some 4 := by kernel_rfl
theorem g11T : (Tryz.prog.globals[4]?).map (·.type) = some 52 := by kernel_rfl
theorem g12N : Tryz.prog.globalNamed "latiner/tlv.errNode" = some 12 := by kernel_rfl
theorem g12T : (Tryz.prog.globals[12]?).map (·.type) = some 52 := by kernel_rfl
theorem g13N : Tryz.prog.globalNamed "latiner/tlv.errKind" = some 13 := by kernel_rfl
theorem g13T : (Tryz.prog.globals[13]?).map (·.type) = some 52 := by kernel_rfl
theorem g14N : Tryz.prog.globalNamed "latiner/tlv.errLarge" = some 14 := by kernel_rfl
theorem g14T : (Tryz.prog.globals[14]?).map (·.type) = some 52 := by kernel_rfl
theorem g15N : Tryz.prog.globalNamed "latiner/fber.errRight" = some 0 := by kernel_rfl
theorem g15T : (Tryz.prog.globals[0]?).map (·.type) = some 52 := by kernel_rfl
theorem g16N : Tryz.prog.globalNamed "latiner/fber.errDeep" = some 1 := by kernel_rfl
theorem g16T : (Tryz.prog.globals[1]?).map (·.type) = some 52 := by kernel_rfl
theorem g17N : Tryz.prog.globalNamed "latiner/fber.errCount" = some 2 := by kernel_rfl
theorem g17T : (Tryz.prog.globals[2]?).map (·.type) = some 52 := by kernel_rfl
theorem g18N : Tryz.prog.globalNamed "latiner/fber.errTree" = some 3 := by kernel_rfl
theorem g18T : (Tryz.prog.globals[3]?).map (·.type) = some 52 := by kernel_rfl
theorem rtRow : (Tryz.prog.cutTypes.find? (·.1 == "internal/reflectlite.rtype")).map (·.2) = some 180 := by kernel_rfl
theorem oneRow : ((List.range 379).filter fun t => Tryz.prog.rowNamed t [101, 114, 114, 111, 114]) = [52] := by kernel_rfl
theorem nTypes : Tryz.prog.types.size = 379 := by kernel_rfl
theorem handleError : typeHandle Tryz.prog 52 = .pointer (some ⟨29, 52, none⟩) := by kernel_rfl
theorem cellsES : Tryz.prog.cellsOf 368 = 1 := by kernel_rfl
theorem cellsStr : Tryz.prog.cellsOf 9 = 1 := by kernel_rfl
abbrev Ls : List (String × DataW Unit) := [("errors.errorType", Rows.laid_errors_errorType), ("latiner/size.errShort", Rows.laid_latiner_size_errShort), ("latiner/size.errForm", Rows.laid_latiner_size_errForm), ("latiner/filt.errDeep", Rows.laid_latiner_filt_errDeep), ("latiner/filt.errCount", Rows.laid_latiner_filt_errCount), ("latiner/filt.errName", Rows.laid_latiner_filt_errName), ("latiner/filt.errLong", Rows.laid_latiner_filt_errLong), ("latiner/filt.errField", Rows.laid_latiner_filt_errField), ("latiner/filt.errSign", Rows.laid_latiner_filt_errSign), ("latiner/filt.errMore", Rows.laid_latiner_filt_errMore), ("latiner/tlv.errShort", Rows.laid_latiner_tlv_errShort), ("latiner/tlv.errTag", Rows.laid_latiner_tlv_errTag), ("latiner/tlv.errMore", Rows.laid_latiner_tlv_errMore), ("latiner/tlv.errNode", Rows.laid_latiner_tlv_errNode), ("latiner/tlv.errKind", Rows.laid_latiner_tlv_errKind), ("latiner/tlv.errLarge", Rows.laid_latiner_tlv_errLarge), ("latiner/fber.errRight", Rows.laid_latiner_fber_errRight), ("latiner/fber.errDeep", Rows.laid_latiner_fber_errDeep), ("latiner/fber.errCount", Rows.laid_latiner_fber_errCount), ("latiner/fber.errTree", Rows.laid_latiner_fber_errTree)]
theorem star : "*" ++ "errors.errorString" = "*errors.errorString" := by decide
theorem rowES (u : TypeId) (h : Tryz.prog.typeName? 3 u = some "*errors.errorString") : u = 350 :=
 typeName_ptr_named (P := Tryz.prog) (nm := "errors.errorString") (by rw [star]; kernel_rfl) (by kernel_rfl) (by decide) u (by rw [star]; exact h)
abbrev LsAll : List (String × DataW Unit) := [("unicode/utf8.acceptRanges", Rows.laid_unicode_utf8_acceptRanges), ("errors.errorType", Rows.laid_errors_errorType), ("latiner/size.errShort", Rows.laid_latiner_size_errShort), ("latiner/size.errForm", Rows.laid_latiner_size_errForm), ("latiner/filt.errDeep", Rows.laid_latiner_filt_errDeep), ("latiner/filt.errCount", Rows.laid_latiner_filt_errCount), ("latiner/filt.errName", Rows.laid_latiner_filt_errName), ("latiner/filt.errLong", Rows.laid_latiner_filt_errLong), ("latiner/filt.errField", Rows.laid_latiner_filt_errField), ("latiner/filt.errSign", Rows.laid_latiner_filt_errSign), ("latiner/filt.errMore", Rows.laid_latiner_filt_errMore), ("latiner/tlv.errShort", Rows.laid_latiner_tlv_errShort), ("latiner/tlv.errTag", Rows.laid_latiner_tlv_errTag), ("latiner/tlv.errMore", Rows.laid_latiner_tlv_errMore), ("latiner/tlv.errNode", Rows.laid_latiner_tlv_errNode), ("latiner/tlv.errKind", Rows.laid_latiner_tlv_errKind), ("latiner/tlv.errLarge", Rows.laid_latiner_tlv_errLarge), ("latiner/fber.errRight", Rows.laid_latiner_fber_errRight), ("latiner/fber.errDeep", Rows.laid_latiner_fber_errDeep), ("latiner/fber.errCount", Rows.laid_latiner_fber_errCount), ("latiner/fber.errTree", Rows.laid_latiner_fber_errTree), ("unicode/utf8.first", Rows.laid_unicode_utf8_first)]
theorem keep_eq : (LsAll.filter fun x => !(x.1 == "unicode/utf8.acceptRanges" || x.1 == "unicode/utf8.first")) = Ls := by kernel_rfl
theorem glob_of_laid {W : World} (hall : laidMetH Tryz.prog LsAll W) : ∃ a, Glob a W := by
 have h : laidMetH Tryz.prog Ls W := by rw [<- keep_eq]; exact hall.filter _
 have h' : laidMet Tryz.prog [("latiner/size.errShort", Rows.laid_latiner_size_errShort), ("latiner/size.errForm", Rows.laid_latiner_size_errForm), ("latiner/filt.errDeep", Rows.laid_latiner_filt_errDeep), ("latiner/filt.errCount", Rows.laid_latiner_filt_errCount), ("latiner/filt.errName", Rows.laid_latiner_filt_errName), ("latiner/filt.errLong", Rows.laid_latiner_filt_errLong), ("latiner/filt.errField", Rows.laid_latiner_filt_errField), ("latiner/filt.errSign", Rows.laid_latiner_filt_errSign), ("latiner/filt.errMore", Rows.laid_latiner_filt_errMore), ("latiner/tlv.errShort", Rows.laid_latiner_tlv_errShort), ("latiner/tlv.errTag", Rows.laid_latiner_tlv_errTag), ("latiner/tlv.errMore", Rows.laid_latiner_tlv_errMore), ("latiner/tlv.errNode", Rows.laid_latiner_tlv_errNode), ("latiner/tlv.errKind", Rows.laid_latiner_tlv_errKind), ("latiner/tlv.errLarge", Rows.laid_latiner_tlv_errLarge), ("latiner/fber.errRight", Rows.laid_latiner_fber_errRight), ("latiner/fber.errDeep", Rows.laid_latiner_fber_errDeep), ("latiner/fber.errCount", Rows.laid_latiner_fber_errCount), ("latiner/fber.errTree", Rows.laid_latiner_fber_errTree)] W /\ handlesMet Tryz.prog [("errors.errorType", Rows.laid_errors_errorType)] W := h
 obtain ⟨hd, hh⟩ := h'
 obtain ⟨name, u, ty, x1, x2, x3, x4, e5h⟩ := hh _ (List.mem_singleton.2 rfl)
 have en : name = [101, 114, 114, 111, 114] := (Option.some.inj x1).symm
 subst en
 obtain rfl := Option.some.inj (rtRow.symm.trans x2)
 have hm : ty ∈ (List.range 379).filter fun t => Tryz.prog.rowNamed t [101, 114, 114, 111, 114] := List.mem_filter.2 ⟨List.mem_range.2 (by rw [<- nTypes]; exact x3), x4⟩
 rw [oneRow] at hm
 obtain rfl := List.mem_singleton.1 hm
 rw [handleError] at e5h
 obtain ⟨ps0, h0, hnd, hrows⟩ := hd
 obtain ⟨a0, c0, t0, ps1, v0, b0, rfl, h1⟩ := laid_first h0 (fun b off hm => hrows b off (by simp [hm])) g0N g0T Tryz.underlying52 rowES Tryz.underlying350 Tryz.underlying368 rfl rfl Tryz.underlying9 cellsES cellsStr
 obtain ⟨a1, c1, t1, ps2, v1, b1, rfl, h2⟩ := laid_first h1 (fun b off hm => hrows b off (by simp [hm])) g1N g1T Tryz.underlying52 rowES Tryz.underlying350 Tryz.underlying368 rfl rfl Tryz.underlying9 cellsES cellsStr
 obtain ⟨a2, c2, t2, ps3, v2, b2, rfl, h3⟩ := laid_first h2 (fun b off hm => hrows b off (by simp [hm])) g2N g2T Tryz.underlying52 rowES Tryz.underlying350 Tryz.underlying368 rfl rfl Tryz.underlying9 cellsES cellsStr
 obtain ⟨a3, c3, t3, ps4, v3, b3, rfl, h4⟩ := laid_first h3 (fun b off hm => hrows b off (by simp [hm])) g3N g3T Tryz.underlying52 rowES Tryz.underlying350 Tryz.underlying368 rfl rfl Tryz.underlying9 cellsES cellsStr
 obtain ⟨a4, c4, t4, ps5, v4, b4, rfl, h5⟩ := laid_first h4 (fun b off hm => hrows b off (by simp [hm])) g4N g4T Tryz.underlying52 rowES Tryz.underlying350 Tryz.underlying368 rfl rfl Tryz.underlying9 cellsES cellsStr
 obtain ⟨a5, c5, t5, ps6, v5, b5, rfl, h6⟩ := laid_first h5 (fun b off hm => hrows b off (by simp [hm])) g5N g5T Tryz.underlying52 rowES Tryz.underlying350 Tryz.underlying368 rfl rfl Tryz.underlying9 cellsES cellsStr
 obtain ⟨a6, c6, t6, ps7, v6, b6, rfl, h7⟩ := laid_first h6 (fun b off hm => hrows b off (by simp [hm])) g6N g6T Tryz.underlying52 rowES Tryz.underlying350 Tryz.underlying368 rfl rfl Tryz.underlying9 cellsES cellsStr
 obtain ⟨a7, c7, t7, ps8, v7, b7, rfl, h8⟩ := laid_first h7 (fun b off hm => hrows b off (by simp [hm])) g7N g7T Tryz.underlying52 rowES Tryz.underlying350 Tryz.underlying368 rfl rfl Tryz.underlying9 cellsES cellsStr
 obtain ⟨a8, c8, t8, ps9, v8, b8, rfl, h9⟩ := laid_first h8 (fun b off hm => hrows b off (by simp [hm])) g8N g8T Tryz.underlying52 rowES Tryz.underlying350 Tryz.underlying368 rfl rfl Tryz.underlying9 cellsES cellsStr
 obtain ⟨a9, c9, t9, ps10, v9, b9, rfl, h10⟩ := laid_first h9 (fun b off hm => hrows b off (by simp [hm])) g9N g9T Tryz.underlying52 rowES Tryz.underlying350 Tryz.underlying368 rfl rfl Tryz.underlying9 cellsES cellsStr
 obtain ⟨a10, c10, t10, ps11, v10, b10, rfl, h11⟩ := laid_first h10 (fun b off hm => hrows b off (by simp [hm])) g10N g10T Tryz.underlying52 rowES Tryz.underlying350 Tryz.underlying368 rfl rfl Tryz.underlying9 cellsES cellsStr
 obtain ⟨a11, c11, t11, ps12, v11, b11, rfl, h12⟩ := laid_first h11 (fun b off hm => hrows b off (by simp [hm])) g11N g11T Tryz.underlying52 rowES Tryz.underlying350 Tryz.underlying368 rfl rfl Tryz.underlying9 cellsES cellsStr
 obtain ⟨a12, c12, t12, ps13, v12, b12, rfl, h13⟩ := laid_first h12 (fun b off hm => hrows b off (by simp [hm])) g12N g12T Tryz.underlying52 rowES Tryz.underlying350 Tryz.underlying368 rfl rfl Tryz.underlying9 cellsES cellsStr
 obtain ⟨a13, c13, t13, ps14, v13, b13, rfl, h14⟩ := laid_first h13 (fun b off hm => hrows b off (by simp [hm])) g13N g13T Tryz.underlying52 rowES Tryz.underlying350 Tryz.underlying368 rfl rfl Tryz.underlying9 cellsES cellsStr
 obtain ⟨a14, c14, t14, ps15, v14, b14, rfl, h15⟩ := laid_first h14 (fun b off hm => hrows b off (by simp [hm])) g14N g14T Tryz.underlying52 rowES Tryz.underlying350 Tryz.underlying368 rfl rfl Tryz.underlying9 cellsES cellsStr
 obtain ⟨a15, c15, t15, ps16, v15, b15, rfl, h16⟩ := laid_first h15 (fun b off hm => hrows b off (by simp [hm])) g15N g15T Tryz.underlying52 rowES Tryz.underlying350 Tryz.underlying368 rfl rfl Tryz.underlying9 cellsES cellsStr
 obtain ⟨a16, c16, t16, ps17, v16, b16, rfl, h17⟩ := laid_first h16 (fun b off hm => hrows b off (by simp [hm])) g16N g16T Tryz.underlying52 rowES Tryz.underlying350 Tryz.underlying368 rfl rfl Tryz.underlying9 cellsES cellsStr
 obtain ⟨a17, c17, t17, ps18, v17, b17, rfl, h18⟩ := laid_first h17 (fun b off hm => hrows b off (by simp [hm])) g17N g17T Tryz.underlying52 rowES Tryz.underlying350 Tryz.underlying368 rfl rfl Tryz.underlying9 cellsES cellsStr
 obtain ⟨a18, c18, t18, ps19, v18, b18, rfl, h19⟩ := laid_first h18 (fun b off hm => hrows b off (by simp [hm])) g18N g18T Tryz.underlying52 rowES Tryz.underlying350 Tryz.underlying368 rfl rfl Tryz.underlying9 cellsES cellsStr
 clear hrows h19
 have eT := World.var?_cell gTy e5h 0
 have n0_1 : a0 ≠ a1 := fun e => by rw [e] at hnd; simp at hnd
 have n10_9 : a10 ≠ a9 := fun e => by rw [e] at hnd; simp at hnd
 have n11_9 : a11 ≠ a9 := fun e => by rw [e] at hnd; simp at hnd
 have n12_9 : a12 ≠ a9 := fun e => by rw [e] at hnd; simp at hnd
 have n13_9 : a13 ≠ a9 := fun e => by rw [e] at hnd; simp at hnd
 have n14_9 : a14 ≠ a9 := fun e => by rw [e] at hnd; simp at hnd
 have n11_10 : a11 ≠ a10 := fun e => by rw [e] at hnd; simp at hnd
 have n12_10 : a12 ≠ a10 := fun e => by rw [e] at hnd; simp at hnd
 have n13_10 : a13 ≠ a10 := fun e => by rw [e] at hnd; simp at hnd
 have n14_10 : a14 ≠ a10 := fun e => by rw [e] at hnd; simp at hnd
 have n12_11 : a12 ≠ a11 := fun e => by rw [e] at hnd; simp at hnd
 have n13_11 : a13 ≠ a11 := fun e => by rw [e] at hnd; simp at hnd
 have n14_11 : a14 ≠ a11 := fun e => by rw [e] at hnd; simp at hnd
 exact ⟨⟨⟨⟨⟨a0, a0, a0⟩, a0, a0, a0, a0⟩, a2, a3, a4, a5, a6, a7, a8⟩, ⟨a9, a10, a11, a12, a13, a14⟩, a0, a1, a15, a16, a17, a18⟩, ⟨⟨by simpa using eT, by simpa using World.var?_cell g2N v2 0, by simpa using World.var?_cell g3N v3 0, by simpa using World.var?_cell g4N v4 0, by simpa using World.var?_cell g5N v5 0, by simpa using World.var?_cell g6N v6 0, by simpa using World.var?_cell g7N v7 0, by simpa using World.var?_cell g8N v8 0, ⟨_, _, b2⟩, ⟨_, _, b3⟩, ⟨_, _, b4⟩, ⟨_, _, b5⟩, ⟨_, _, b6⟩, ⟨_, _, b7⟩, ⟨_, _, b8⟩⟩, ⟨⟨by simpa using eT, by simpa using World.var?_cell g0N v0 0, by simpa using World.var?_cell g1N v1 0, n0_1, ⟨_, _, b0⟩, ⟨_, _, b1⟩⟩, ⟨by simpa using eT, by simpa using World.var?_cell g9N v9 0, by simpa using World.var?_cell g10N v10 0, by simpa using World.var?_cell g11N v11 0, by simpa using World.var?_cell g12N v12 0, by simpa using World.var?_cell g13N v13 0, by simpa using World.var?_cell g14N v14 0, ⟨_, _, b9⟩, ⟨_, _, b10⟩, ⟨_, _, b11⟩, ⟨_, _, b12⟩, ⟨_, _, b13⟩, ⟨_, _, b14⟩, ⟨n10_9, n11_9, n12_9, n13_9, n14_9, n11_10, n12_10, n13_10, n14_10, n12_11, n13_11, n14_11⟩⟩⟩, by simpa using World.var?_cell g15N v15 0, by simpa using World.var?_cell g16N v16 0, by simpa using World.var?_cell g17N v17 0, by simpa using World.var?_cell g18N v18 0, ⟨_, _, b15⟩, ⟨_, _, b16⟩, ⟨_, _, b17⟩, ⟨_, _, b18⟩⟩⟩
abbrev sentS0 : ByteArray := ⟨#[98, 121, 116, 101, 115, 32, 97, 114, 101, 32, 109, 105, 115, 115, 105, 110, 103]⟩
abbrev sentS1 : ByteArray := ⟨#[110, 111, 32, 108, 101, 110, 103, 116, 104, 32, 98, 101, 103, 105, 110, 115, 32, 115, 111]⟩
abbrev sentS2 : ByteArray := ⟨#[116, 111, 111, 32, 100, 101, 101, 112]⟩
abbrev sentS3 : ByteArray := ⟨#[116, 111, 111, 32, 109, 97, 110, 121, 44, 32, 111, 114, 32, 110, 111, 110, 101]⟩
abbrev sentS4 : ByteArray := ⟨#[110, 111, 32, 97, 116, 116, 114, 105, 98, 117, 116, 101, 39, 115, 32, 110, 97, 109, 101]⟩
abbrev sentS5 : ByteArray := ⟨#[116, 111, 111, 32, 108, 111, 110, 103, 44, 32, 111, 114, 32, 101, 109, 112, 116, 121, 32, 119, 104, 101, 114, 101, 32, 105, 116, 32, 109, 97, 121, 32, 110, 111, 116, 32, 98, 101]⟩
abbrev sentS6 : ByteArray := ⟨#[115, 111, 109, 101, 116, 104, 105, 110, 103, 32, 116, 104, 97, 116, 32, 116, 104, 105, 115, 32, 107, 105, 110, 100, 32, 104, 97, 115, 32, 110, 111, 116]⟩
abbrev sentS7 : ByteArray := ⟨#[97, 32, 115, 105, 103, 110, 32, 105, 115, 32, 109, 105, 115, 115, 105, 110, 103]⟩
abbrev sentS8 : ByteArray := ⟨#[109, 111, 114, 101, 32, 115, 116, 97, 110, 100, 115, 32, 98, 101, 104, 105, 110, 100, 32, 116, 104, 101, 32, 102, 105, 108, 116, 101, 114]⟩
abbrev sentS9 : ByteArray := ⟨#[98, 121, 116, 101, 115, 32, 97, 114, 101, 32, 109, 105, 115, 115, 105, 110, 103]⟩
abbrev sentS10 : ByteArray := ⟨#[116, 104, 101, 32, 116, 97, 103, 32, 103, 111, 101, 115, 32, 111, 110]⟩
abbrev sentS11 : ByteArray := ⟨#[109, 111, 114, 101, 32, 115, 116, 97, 110, 100, 115, 32, 98, 101, 104, 105, 110, 100, 32, 116, 104, 101, 32, 116, 114, 101, 101]⟩
abbrev sentS12 : ByteArray := ⟨#[116, 111, 111, 32, 109, 97, 110, 121, 32, 116, 114, 101, 101, 115, 44, 32, 111, 114, 32, 116, 111, 111, 32, 100, 101, 101, 112]⟩
abbrev sentS13 : ByteArray := ⟨#[110, 111, 32, 116, 97, 103, 44, 32, 111, 114, 32, 110, 111, 116, 32, 119, 104, 97, 116, 32, 105, 116, 32, 97, 108, 108, 111, 119, 115]⟩
abbrev sentS14 : ByteArray := ⟨#[116, 111, 111, 32, 109, 97, 110, 121, 32, 98, 121, 116, 101, 115]⟩
abbrev sentS15 : ByteArray := ⟨#[116, 104, 101, 32, 102, 105, 108, 116, 101, 114, 32, 105, 115, 32, 110, 111, 116, 32, 114, 105, 103, 104, 116]⟩
abbrev sentS16 : ByteArray := ⟨#[116, 111, 111, 32, 100, 101, 101, 112]⟩
abbrev sentS17 : ByteArray := ⟨#[116, 111, 111, 32, 109, 97, 110, 121, 32, 116, 114, 101, 101, 115, 32, 105, 110, 32, 105, 116, 44, 32, 111, 114, 32, 116, 111, 111, 32, 102, 101, 119]⟩
abbrev sentS18 : ByteArray := ⟨#[115, 111, 109, 101, 116, 104, 105, 110, 103, 32, 105, 110, 32, 105, 116, 32, 116, 104, 97, 116, 32, 116, 104, 105, 115, 32, 107, 105, 110, 100, 32, 104, 97, 115, 32, 110, 111, 116]⟩
theorem laid_met (os : Os) (args : Array Value) : laidMetH Tryz.prog LsAll (({ World.holding Tryz.prog os ⟨#[.cells #[.string sentS0] 368, .cells #[.string sentS1] 368, .cells #[.string sentS2] 368, .cells #[.string sentS3] 368, .cells #[.string sentS4] 368, .cells #[.string sentS5] 368, .cells #[.string sentS6] 368, .cells #[.string sentS7] 368, .cells #[.string sentS8] 368, .cells #[.string sentS9] 368, .cells #[.string sentS10] 368, .cells #[.string sentS11] 368, .cells #[.string sentS12] 368, .cells #[.string sentS13] 368, .cells #[.string sentS14] 368, .cells #[.string sentS15] 368, .cells #[.string sentS16] 368, .cells #[.string sentS17] 368, .cells #[.string sentS18] 368], #[], []⟩ with heap := ((((((((((((((((((((((World.holding Tryz.prog os ⟨#[.cells #[.string sentS0] 368, .cells #[.string sentS1] 368, .cells #[.string sentS2] 368, .cells #[.string sentS3] 368, .cells #[.string sentS4] 368, .cells #[.string sentS5] 368, .cells #[.string sentS6] 368, .cells #[.string sentS7] 368, .cells #[.string sentS8] 368, .cells #[.string sentS9] 368, .cells #[.string sentS10] 368, .cells #[.string sentS11] 368, .cells #[.string sentS12] 368, .cells #[.string sentS13] 368, .cells #[.string sentS14] 368, .cells #[.string sentS15] 368, .cells #[.string sentS16] 368, .cells #[.string sentS17] 368, .cells #[.string sentS18] 368], #[], []⟩).heap.modify 20 fun | .cells _ t frozen => .cells #[.iface 350 (.pointer (some ⟨(World.holding Tryz.prog default ⟨#[], #[], []⟩).heap.size + 0, 0, none⟩))] t frozen | o => o).modify 18 fun | .cells _ t frozen => .cells #[.iface 350 (.pointer (some ⟨(World.holding Tryz.prog default ⟨#[], #[], []⟩).heap.size + 1, 0, none⟩))] t frozen | o => o).modify 5 fun | .cells _ t frozen => .cells #[.iface 350 (.pointer (some ⟨(World.holding Tryz.prog default ⟨#[], #[], []⟩).heap.size + 2, 0, none⟩))] t frozen | o => o).modify 6 fun | .cells _ t frozen => .cells #[.iface 350 (.pointer (some ⟨(World.holding Tryz.prog default ⟨#[], #[], []⟩).heap.size + 3, 0, none⟩))] t frozen | o => o).modify 7 fun | .cells _ t frozen => .cells #[.iface 350 (.pointer (some ⟨(World.holding Tryz.prog default ⟨#[], #[], []⟩).heap.size + 4, 0, none⟩))] t frozen | o => o).modify 8 fun | .cells _ t frozen => .cells #[.iface 350 (.pointer (some ⟨(World.holding Tryz.prog default ⟨#[], #[], []⟩).heap.size + 5, 0, none⟩))] t frozen | o => o).modify 9 fun | .cells _ t frozen => .cells #[.iface 350 (.pointer (some ⟨(World.holding Tryz.prog default ⟨#[], #[], []⟩).heap.size + 6, 0, none⟩))] t frozen | o => o).modify 10 fun | .cells _ t frozen => .cells #[.iface 350 (.pointer (some ⟨(World.holding Tryz.prog default ⟨#[], #[], []⟩).heap.size + 7, 0, none⟩))] t frozen | o => o).modify 11 fun | .cells _ t frozen => .cells #[.iface 350 (.pointer (some ⟨(World.holding Tryz.prog default ⟨#[], #[], []⟩).heap.size + 8, 0, none⟩))] t frozen | o => o).modify 16 fun | .cells _ t frozen => .cells #[.iface 350 (.pointer (some ⟨(World.holding Tryz.prog default ⟨#[], #[], []⟩).heap.size + 9, 0, none⟩))] t frozen | o => o).modify 17 fun | .cells _ t frozen => .cells #[.iface 350 (.pointer (some ⟨(World.holding Tryz.prog default ⟨#[], #[], []⟩).heap.size + 10, 0, none⟩))] t frozen | o => o).modify 4 fun | .cells _ t frozen => .cells #[.iface 350 (.pointer (some ⟨(World.holding Tryz.prog default ⟨#[], #[], []⟩).heap.size + 11, 0, none⟩))] t frozen | o => o).modify 12 fun | .cells _ t frozen => .cells #[.iface 350 (.pointer (some ⟨(World.holding Tryz.prog default ⟨#[], #[], []⟩).heap.size + 12, 0, none⟩))] t frozen | o => o).modify 13 fun | .cells _ t frozen => .cells #[.iface 350 (.pointer (some ⟨(World.holding Tryz.prog default ⟨#[], #[], []⟩).heap.size + 13, 0, none⟩))] t frozen | o => o).modify 14 fun | .cells _ t frozen => .cells #[.iface 350 (.pointer (some ⟨(World.holding Tryz.prog default ⟨#[], #[], []⟩).heap.size + 14, 0, none⟩))] t frozen | o => o).modify 0 fun | .cells _ t frozen => .cells #[.iface 350 (.pointer (some ⟨(World.holding Tryz.prog default ⟨#[], #[], []⟩).heap.size + 15, 0, none⟩))] t frozen | o => o).modify 1 fun | .cells _ t frozen => .cells #[.iface 350 (.pointer (some ⟨(World.holding Tryz.prog default ⟨#[], #[], []⟩).heap.size + 16, 0, none⟩))] t frozen | o => o).modify 2 fun | .cells _ t frozen => .cells #[.iface 350 (.pointer (some ⟨(World.holding Tryz.prog default ⟨#[], #[], []⟩).heap.size + 17, 0, none⟩))] t frozen | o => o).modify 3 fun | .cells _ t frozen => .cells #[.iface 350 (.pointer (some ⟨(World.holding Tryz.prog default ⟨#[], #[], []⟩).heap.size + 18, 0, none⟩))] t frozen | o => o).modify 22 fun | .cells _ t frozen => .cells (([128,191,160,191,128,159,144,191,128,143,0,0,0,0,0,0,0,0,0,0,0,0,0,0,0,0,0,0,0,0,0,0] : List Nat).map fun (n : Nat) => Value.int .u8 (n : Int)).toArray t frozen | o => o).modify 21 fun | .cells _ t frozen => .cells ((Go.Pinned.utf8FirstZ : List Nat).map fun (n : Nat) => Value.int .u8 (n : Int)).toArray t frozen | o => o).modify 15 fun | .cells _ t frozen => .cells #[.iface 180 (.agg #[.pointer (some ⟨29, 52, none⟩)])] t frozen | o => o } : World).forCall (fun _ _ => 0) ⟨#[], args, []⟩).memory :=
 laidMetH_of_parts (laidMet_of_run' 8 (by kernel_rfl) (by kernel_rfl)) (by kernel_rfl)
end Go.Proofs.YtmenllnokgjdlaaGreatDoor.G
