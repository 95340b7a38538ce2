/-
  latinerlaw02.TlvJoins returns true at every two trees: the bytes of two trees, one behind the other, are decoded one by one, and are no tree together. Conditions: the package-level variables hold what the program's text lays (the card ties them).
-/
import Derived.Test.YthibodkemnkjeaaDoorTBox
import Derived.Test.YthibodkemnkjeaaDoorTLaid
namespace Go.Proofs.YthibodkemnkjeaaDoor.tjoins
open Go.ChangeShapes Go.WideShapes Go.ChangeAt Go.ChangeMaps Go.RowKit Tv T Go.Shelf

set_option maxRecDepth 100000 in
set_option maxHeartbeats 2000000 in
theorem walk (v : Value) (X : Tr 13) (v' : Value) (Y : Tr 13) (A : Ads) (aS aF : Addr) (w : World) (g : Gl A aS aF w) (hC : CutOf 13 w v X) (hC2 : CutOf 13 w v' Y) :
    Calls Tryd.prog 9 #[v, v'] w fun e w' => e = .returned (.bool true) ∧ Below w.heap.size w w' := by
  have G := hide fun w' (h : Below w.heap.size w w') => g.below h
  have HC := hide fun w' (h : Below w.heap.size w w') => hC.below h
  have HC2 := hide fun w' (h : Below w.heap.size w w') => hC2.below h
  obtain ⟨d, a, len, cap, rfl, _, _, _, _, _⟩ := hC
  obtain ⟨d2, a2, len2, cap2, rfl, _, _, _, _, _⟩ := hC2
  clear g
  go_enter Tryd.func9, Tryd.ntmps9
  go_wp2_with fail
  have hb0 : Below w.heap.size w ((w.alloc (.cells #[.int .i64 (tag X), .string d, .slice a len cap] 24)).alloc (.cells #[.int .i64 (tag Y), .string d2, .slice a2 len2 cap2] 24)) := ((Below.refl _ _).alloc (Nat.le_refl _) _).alloc (by simp) _
  have hq0 : ((w.alloc (.cells #[.int .i64 (tag X), .string d, .slice a len cap] 24)).alloc (.cells #[.int .i64 (tag Y), .string d2, .slice a2 len2 cap2] 24)).heap[w.heap.size]? = some (.cells #[.int .i64 (tag X), .string d, .slice a len cap] 24) := (Below.heap_alloc _ _ _ (by simp)).trans (World.alloc_heap_new w _)
  have hp0 : ((w.alloc (.cells #[.int .i64 (tag X), .string d, .slice a len cap] 24)).alloc (.cells #[.int .i64 (tag Y), .string d2, .slice a2 len2 cap2] 24)).heap[w.heap.size + 1]? = some (.cells #[.int .i64 (tag Y), .string d2, .slice a2 len2 cap2] 24) := by
    have := World.alloc_heap_new (w.alloc (.cells #[.int .i64 (tag X), .string d, .slice a len cap] 24)) (.cells #[.int .i64 (tag Y), .string d2, .slice a2 len2 cap2] 24)
    rwa [World.size_alloc] at this
  refine (shown_any A aS aF _ ((unhide G) _ hb0)).mono ?_
  rintro e w1 ⟨rfl, hb1⟩
  have hB1 := hb0.trans (hb1.mono hb0.size)
  have hq1 := (hb1.block w.heap.size (by simp <;> omega)).trans hq0
  have hp1 := (hb1.block (w.heap.size + 1) (by simp)).trans hp0
  obtain ⟨⟨e0, e1, e2⟩, _⟩ := cells3 hq1
  have HB1 := hide hB1
  have HQ1 := hide hq1
  have HP1 := hide hp1
  clear hb0 hb1 hq0 hp0 hB1 hq1 hp1
  go_wp2_with fail
  refine (Cut_any X w1 _ ((unhide HC) _ (unhide HB1))).mono ?_
  rintro e w2 ⟨hb2, v2, rfl, hN2⟩
  obtain ⟨vt, vd, va, vl, vc, rfl⟩ := hN2.agg
  have hlt1 := (Array.getElem?_eq_some_iff.1 (unhide HP1)).1
  have hq2 := (hb2.block w.heap.size (by omega)).trans (unhide HQ1)
  have hp2 := (hb2.block (w.heap.size + 1) hlt1).trans (unhide HP1)
  obtain ⟨⟨f0, f1, f2⟩, r0, r1, r2⟩ := cells3 hq2
  have HB2 := hide ((unhide HB1).trans (hb2.mono (unhide HB1).size))
  have HXS := hide (BX.mk' (B := w.heap.size + 2) (A := #[.int .i64 (tag X), .string d, .slice a len cap]) hq2 hN2 (fun k hk => by omega) (by omega))
  have hpS : (((w2.setCell ⟨w.heap.size, 0, none⟩ (.int .i64 vt)).setCell ⟨w.heap.size, 1, none⟩ (.string vd)).setCell ⟨w.heap.size, 2, none⟩ (.slice va vl vc)).heap[w.heap.size + 1]? = some (.cells #[.int .i64 (tag Y), .string d2, .slice a2 len2 cap2] 24) := by
    rw [Below.heap_setCell _ _ _ _ (by show w.heap.size + 1 ≠ w.heap.size; omega), Below.heap_setCell _ _ _ _ (by show w.heap.size + 1 ≠ w.heap.size; omega), Below.heap_setCell _ _ _ _ (by show w.heap.size + 1 ≠ w.heap.size; omega)]
    exact hp2
  obtain ⟨⟨p0, p1, p2⟩, _⟩ := cells3 hpS
  have HPS := hide hpS
  clear hb2 hq2 hN2 e0 e1 e2 hp2 hpS
  go_wp2_with fail
  have hbS := set3n (unhide HB2) (Nat.le_refl w.heap.size) (.int .i64 vt) (.string vd) (.slice va vl vc)
  have hXS := unhide HXS
  have hpS := unhide HPS
  clear HXS HPS HB2 HB1 HQ1 HP1 HC f0 f1 f2 r0 r1 r2 hlt1 p0 p1 p2
  generalize ((w2.setCell ⟨w.heap.size, 0, none⟩ (.int .i64 vt)).setCell ⟨w.heap.size, 1, none⟩ (.string vd)).setCell ⟨w.heap.size, 2, none⟩ (.slice va vl vc) = wS at *
  refine (Cut_any Y wS _ ((unhide HC2) _ hbS)).mono ?_
  rintro e w3 ⟨hb3, v3, rfl, hN3⟩
  obtain ⟨ut, ud, ua, ul, uc, rfl⟩ := hN3.agg
  have hltS := (Array.getElem?_eq_some_iff.1 hpS).1
  have hp3 := (hb3.block (w.heap.size + 1) hltS).trans hpS
  have hX3 := hXS.below hb3
  obtain ⟨⟨f0, f1, f2⟩, r0, r1, r2⟩ := cells3 hp3
  have HB3 := hide (hbS.trans (hb3.mono hbS.size))
  have HYT := hide (BX.mk' (B := w.heap.size + 2) (A := #[.int .i64 (tag Y), .string d2, .slice a2 len2 cap2]) hp3 hN3 (fun k hk => by omega) (by omega))
  have hXT := hX3.other (b' := w.heap.size + 1) (by omega) (by omega) (.int .i64 ut) (.string ud) (.slice ua ul uc)
  obtain ⟨⟨x0, x1, x2⟩, _⟩ := hXT.cells
  have HXT := hide hXT
  clear hb3 hp3 hN3 hX3 hXT hXS hpS hbS hltS
  go_wp2_with fail
  have hbT := set3n (unhide HB3) (show w.heap.size ≤ w.heap.size + 1 by omega) (.int .i64 ut) (.string ud) (.slice ua ul uc)
  have hXT := unhide HXT
  have hYT := unhide HYT
  clear HXT HYT HB3 HC2 f0 f1 f2 r0 r1 r2 x0 x1 x2
  generalize ((w3.setCell ⟨w.heap.size + 1, 0, none⟩ (.int .i64 ut)).setCell ⟨w.heap.size + 1, 1, none⟩ (.string ud)).setCell ⟨w.heap.size + 1, 2, none⟩ (.slice ua ul uc) = wT at *
  refine (encode_any 13 X A aS aF wT _ _ ((unhide G) _ hbT) hXT.n (by omega)).mono ?_
  rintro e w4 ⟨rfl, hb4⟩
  have HB4 := hide (hbT.trans (hb4.mono hbT.size))
  have hX4 := hXT.below hb4
  have hY4 := hYT.below hb4
  obtain ⟨⟨x0, x1, x2⟩, _⟩ := hX4.cells
  obtain ⟨⟨y0, y1, y2⟩, _⟩ := hY4.cells
  have HX4 := hide hX4
  have HY4 := hide hY4
  clear hX4 hY4 hXT hYT hb4 hbT
  have HE := hide (encode_any 13 Y A aS aF w4 _ _ ((unhide G) _ (unhide HB4)) (unhide HY4).n (by omega))
  cases hrX : right X
  · rw [encT_no hrX]
    clear hrX
    go_wp2_with fail
    refine (unhide HE).mono ?_
    rintro e w5 ⟨rfl, hb5⟩
    have HB5 := hide ((unhide HB4).trans (hb5.mono (unhide HB4).size))
    clear hb5 HE
    cases hrY : right Y
    · rw [encT_no hrY]
      clear hrY
      go_wp2
      go_ret
      exact ⟨rfl, unhide HB5⟩
    · rw [encT_yes hrY]
      clear hrY
      go_wp2
      go_ret
      exact ⟨rfl, unhide HB5⟩
  · rw [encT_yes hrX]
    go_wp2_with fail
    refine (unhide HE).mono ?_
    rintro e w5 ⟨rfl, hb5⟩
    have HB5 := hide ((unhide HB4).trans (hb5.mono (unhide HB4).size))
    have HX5 := hide ((unhide HX4).below hb5)
    have HY5 := hide ((unhide HY4).below hb5)
    clear hb5 HE HX4 HY4 HB4 x0 x1 x2 y0 y1 y2
    cases hrY : right Y
    · rw [encT_no hrY]
      clear hrY hrX
      go_wp2
      go_ret
      exact ⟨rfl, unhide HB5⟩
    · rw [encT_yes hrY]
      have hlX := (right_iff.1 hrX).2.2
      have hlY := (right_iff.1 hrY).2.2
      have t1 := enc_two 13 Y
      have d1 := dec_enc X hrX [] (enc 13 Y)
      have d2 := dec_enc Y hrY (enc 13 X) []
      have d3 : wholeT (enc 13 X ++ enc 13 Y) = .error 11 := by
        cases he : enc 13 Y with
        | nil => rw [he] at t1; simp at t1
        | cons y r => exact whole_more X hrX y r
      simp only [List.nil_append, List.length_nil, Nat.zero_add, List.append_nil] at d1 d2
      have hE : (⟨(enc 13 X).toArray⟩ : ByteArray).data.toList = enc 13 X := by simp
      have hZ : (⟨(enc 13 X).toArray⟩ : ByteArray).size = (enc 13 X).length := by show (enc 13 X).toArray.size = _; simp
      have hE' : (⟨(enc 13 Y).toArray⟩ : ByteArray).data.toList = enc 13 Y := by simp
      have hZ' : (⟨(enc 13 Y).toArray⟩ : ByteArray).size = (enc 13 Y).length := by show (enc 13 Y).toArray.size = _; simp
      have sX : same 13 X X = true := (same_iff 13 X X).2 rfl
      have sY : same 13 Y Y = true := (same_iff 13 Y Y).2 rfl
      generalize enc 13 X = ea at *
      generalize enc 13 Y = eb at *
      generalize (⟨ea.toArray⟩ : ByteArray) = S at *
      generalize (⟨eb.toArray⟩ : ByteArray) = S' at *
      have hA : (S ++ S').data.toList = ea ++ eb := by rw [ByteArray.data_append, Array.toList_append, hE, hE']
      rw [← hZ] at d1 d2
      rw [← hZ'] at d2
      rw [← hA] at d1 d2 d3
      have z : (S ++ S').size ≤ 9000 := by rw [ByteArray.size_append]; omega
      have H1 := hide fun V (hb : Below w.heap.size w V) => decodeT_any (S ++ S') 0 A aS aF V ((unhide G) _ hb) z
      have H2 := hide fun V (hb : Below w.heap.size w V) => decodeT_any (S ++ S') (S.size : Int) A aS aF V ((unhide G) _ hb) z
      have H3 := hide fun V (hb : Below w.heap.size w V) => whole_any (S ++ S') A aS aF V ((unhide G) _ hb) z
      rw [show (0 : Int) = ((0 : Nat) : Int) from rfl, d1] at H1
      rw [d2] at H2
      rw [d3] at H3
      have k1 : (S.size : Int) ≤ 4000 := by omega
      have k2 : (S'.size : Int) ≤ 4000 := by omega
      have SX := hide sX
      have SY := hide sY
      clear d1 d2 d3 z hA hE hE' hZ hZ' hlX hlY hrX hrY t1 sX sY
      go_wp2_with fail
      refine ((unhide H1) _ (unhide HB5)).mono ?_
      rintro e w6 ⟨hb6, v6, rfl, hN6⟩
      obtain ⟨at1, ad, aa, al, ac, rfl⟩ := hN6.agg
      have HB6 := hide (((unhide HB5).trans (hb6.mono (unhide HB5).size)).alloc ((unhide HB5).trans (hb6.mono (unhide HB5).size)).size (.cells #[.int .i64 at1, .string ad, .slice aa al ac] 24))
      have HA6 := hide (BX.new hN6)
      have HX6 := hide (((unhide HX5).below hb6).alloc (.cells #[.int .i64 at1, .string ad, .slice aa al ac] 24))
      have HY6 := hide (((unhide HY5).below hb6).alloc (.cells #[.int .i64 at1, .string ad, .slice aa al ac] 24))
      clear hb6 hN6 H1 HX5 HY5
      go_wp2_with fail
      generalize w6.alloc (.cells #[.int .i64 at1, .string ad, .slice aa al ac] 24) = V6 at *
      refine ((unhide H2) _ (unhide HB6)).mono ?_
      rintro e w7 ⟨hb7, v7, rfl, hN7⟩
      obtain ⟨bt1, bd, ba, bl, bc, rfl⟩ := hN7.agg
      have HB7 := hide (((unhide HB6).trans (hb7.mono (unhide HB6).size)).alloc ((unhide HB6).trans (hb7.mono (unhide HB6).size)).size (.cells #[.int .i64 bt1, .string bd, .slice ba bl bc] 24))
      have HB7' := hide (BX.new hN7)
      have HA7 := hide (((unhide HA6).below hb7).alloc (.cells #[.int .i64 bt1, .string bd, .slice ba bl bc] 24))
      have HX7 := hide (((unhide HX6).below hb7).alloc (.cells #[.int .i64 bt1, .string bd, .slice ba bl bc] 24))
      have HY7 := hide (((unhide HY6).below hb7).alloc (.cells #[.int .i64 bt1, .string bd, .slice ba bl bc] 24))
      clear hb7 hN7 H2 HA6 HX6 HY6
      go_wp2_with fail
      generalize w7.alloc (.cells #[.int .i64 bt1, .string bd, .slice ba bl bc] 24) = V7 at *
      refine ((unhide H3) _ (unhide HB7)).mono ?_
      rintro e w8 ⟨hb8, rfl⟩
      have HB8 := hide (((unhide HB7).trans (hb8.mono (unhide HB7).size)).alloc ((unhide HB7).trans (hb8.mono (unhide HB7).size)).size (.cells #[.int .i64 0, .string ⟨#[]⟩, .slice none 0 0] 24))
      have hb' := ((unhide HB7').below hb8).alloc (.cells #[.int .i64 0, .string ⟨#[]⟩, .slice none 0 0] 24)
      have ha' := ((unhide HA7).below hb8).alloc (.cells #[.int .i64 0, .string ⟨#[]⟩, .slice none 0 0] 24)
      have hx' := ((unhide HX7).below hb8).alloc (.cells #[.int .i64 0, .string ⟨#[]⟩, .slice none 0 0] 24)
      have hy' := ((unhide HY7).below hb8).alloc (.cells #[.int .i64 0, .string ⟨#[]⟩, .slice none 0 0] 24)
      obtain ⟨⟨a0, a1, a2⟩, _⟩ := ha'.cells
      obtain ⟨⟨x0, x1, x2⟩, _⟩ := hx'.cells
      have HA8 := hide ha'
      have HX8 := hide hx'
      have HY8 := hide hy'
      have HB8' := hide hb'
      clear hb8 H3 HA7 HX7 HY7 HB7' ha' hx' hy' hb'
      go_wp2_with fail
      generalize w8.alloc (.cells #[.int .i64 0, .string ⟨#[]⟩, .slice none 0 0] 24) = V8 at *
      have H4 := same_any 13 X X V8 _ _ _ _ (unhide HA8).n (unhide HX8).n
      rw [unhide SX] at H4
      refine H4.mono ?_
      rintro e w9 ⟨rfl, hb9⟩
      have HB9 := hide ((unhide HB8).trans (hb9.mono (unhide HB8).size))
      have hb' := (unhide HB8').below hb9
      have hy' := (unhide HY8).below hb9
      obtain ⟨⟨b0, b1, b2⟩, _⟩ := hb'.cells
      obtain ⟨⟨y0, y1, y2⟩, _⟩ := hy'.cells
      have H5 := hide (same_any 13 Y Y w9 _ _ _ _ hb'.n hy'.n)
      rw [unhide SY] at H5
      clear hb9 hb' hy' H4 a0 a1 a2 x0 x1 x2 HA8 HX8 HY8 HB8'
      go_wp2_with fail
      refine (unhide H5).mono ?_
      rintro e w10 ⟨rfl, hb10⟩
      have HB10 := hide ((unhide HB9).trans (hb10.mono (unhide HB9).size))
      clear hb10
      go_wp2
      go_ret
      exact ⟨rfl, unhide HB10⟩

set_option maxRecDepth 100000 in
/-- What the walk gives, for every argument. -/
theorem contract (H : Type) (enc : TypeId × Value → H) (W : World) (base : Nat) (args : Array Value) (ds gs : List (DataW H)) (before : List MemPlace)
    (hval : ∀ (j : Nat) t v, Tryd.f9.params[j]? = some t → args[j]? = some v → Value.okWide Tryd.prog W .any base t v)
    (hW : DataW.Whole enc Tryd.prog Tryd.f9.params.toList Rows.tlvJoinsSpec.vars false W args.toList ds gs before) (hL : laidMetH Tryd.prog Rows.tlvJoinsRow.laid W) :
    Calls Tryd.prog 9 args W fun e W' => ∃ v, e = .returned v ∧ Rows.tlvJoinsSpec.post enc Tryd.prog Tryd.f9 false true false false W args v W' := by
  obtain ⟨A, aS, aF, g⟩ := glob_of_laid hL
  have hW' := hW
  obtain ⟨p, q, hA0, hV, rfl, hfz, hnd⟩ := hW
  have hA : DataW.TrodAll enc Tryd.prog W 0 (fun _ => true) true Tryd.f9.params.toList args.toList ds p := hA0
  rw [Tryd.params9] at hA hval
  obtain ⟨v0, vs0, d0, ds0, p0, q0, hargs0, rfl, rfl, h0, r0⟩ := trodAll_cons hA
  obtain ⟨v1, vs1, d1, ds1, p1, q1, hargs1, rfl, rfl, h1, r1⟩ := trodAll_cons r0
  obtain ⟨rfl, rfl, rfl⟩ := trodAll_nil r1
  obtain rfl : args = #[v0, v1] := by cases args; simp_all
  obtain ⟨rfl, rfl⟩ := trodVars_none hV
  obtain ⟨cs0, rfl, _⟩ := okWide_struct Tryd.underlying24 (hval 0 24 v0 rfl rfl)
  have hk0 := h0
  obtain ⟨fu0, hf0⟩ := h0
  obtain ⟨t0, b0, a0, l0, c0, ec0, T0, hC0⟩ := open_cut 12 fu0 _ _ hf0
  have hlt0 := DataW.trod_lt _ _ _ _ hf0
  obtain rfl : cs0 = #[.int .i64 t0, .string b0, .slice a0 l0 c0] := Array.ext' ec0
  obtain ⟨cs1, rfl, _⟩ := okWide_struct Tryd.underlying24 (hval 1 24 v1 rfl rfl)
  have hk1 := h1
  obtain ⟨fu1, hf1⟩ := h1
  obtain ⟨t1, b1, a1, l1, c1, ec1, T1, hC1⟩ := open_cut 12 fu1 _ _ hf1
  have hlt1 := DataW.trod_lt _ _ _ _ hf1
  obtain rfl : cs1 = #[.int .i64 t1, .string b1, .slice a1 l1 c1] := Array.ext' ec1
  clear hA0
  simp only [List.append_nil] at hW'
  refine (walk _ T0 _ T1 A aS aF W g hC0 hC1).mono fun e W' ⟨he, hg⟩ => ?_
  subst he
  refine ⟨_, rfl, _, _, _, [], (p0 ++ (p1 ++ [])), [], hW', ?_, ?_, ?_, hg.frame _, fun h => by cases h⟩
  · exact trodAll_cons_mk (shut_bool Tryd.underlying4 _) trodAll_mk0
  · exact trodAll_cons_mk (Below.trod (by kernel_rfl) (by kernel_rfl) (of_decide_eq_true (by kernel_rfl)) hk0 hg hlt0) (trodAll_cons_mk (Below.trod (by kernel_rfl) (by kernel_rfl) (of_decide_eq_true (by kernel_rfl)) hk1 hg hlt1) (trodAll_mk0))
  · rfl

theorem reads (os : Os) {H : Type} (enc : TypeId × Value → H) : ∃ places, DataW.whole enc Tryd.prog (({ World.holding Tryd.prog os ⟨#[.cells #[.string sentS0] 177, .cells #[.string sentS1] 177, .cells #[.string sentS2] 177, .cells #[.string sentS3] 177, .cells #[.string sentS4] 177, .cells #[.string sentS5] 177, .cells #[.string sentS6] 177, .cells #[.string sentS7] 177], #[], []⟩ with heap := (((((((((World.holding Tryd.prog os ⟨#[.cells #[.string sentS0] 177, .cells #[.string sentS1] 177, .cells #[.string sentS2] 177, .cells #[.string sentS3] 177, .cells #[.string sentS4] 177, .cells #[.string sentS5] 177, .cells #[.string sentS6] 177, .cells #[.string sentS7] 177], #[], []⟩).heap.modify 9 fun | .cells _ t frozen => .cells #[.iface 158 (.pointer (some ⟨(World.holding Tryd.prog default ⟨#[], #[], []⟩).heap.size + 0, 0, none⟩))] t frozen | o => o).modify 6 fun | .cells _ t frozen => .cells #[.iface 158 (.pointer (some ⟨(World.holding Tryd.prog default ⟨#[], #[], []⟩).heap.size + 1, 0, none⟩))] t frozen | o => o).modify 4 fun | .cells _ t frozen => .cells #[.iface 158 (.pointer (some ⟨(World.holding Tryd.prog default ⟨#[], #[], []⟩).heap.size + 2, 0, none⟩))] t frozen | o => o).modify 5 fun | .cells _ t frozen => .cells #[.iface 158 (.pointer (some ⟨(World.holding Tryd.prog default ⟨#[], #[], []⟩).heap.size + 3, 0, none⟩))] t frozen | o => o).modify 0 fun | .cells _ t frozen => .cells #[.iface 158 (.pointer (some ⟨(World.holding Tryd.prog default ⟨#[], #[], []⟩).heap.size + 4, 0, none⟩))] t frozen | o => o).modify 1 fun | .cells _ t frozen => .cells #[.iface 158 (.pointer (some ⟨(World.holding Tryd.prog default ⟨#[], #[], []⟩).heap.size + 5, 0, none⟩))] t frozen | o => o).modify 2 fun | .cells _ t frozen => .cells #[.iface 158 (.pointer (some ⟨(World.holding Tryd.prog default ⟨#[], #[], []⟩).heap.size + 6, 0, none⟩))] t frozen | o => o).modify 3 fun | .cells _ t frozen => .cells #[.iface 158 (.pointer (some ⟨(World.holding Tryd.prog default ⟨#[], #[], []⟩).heap.size + 7, 0, none⟩))] t frozen | o => o).modify 7 fun | .cells _ t frozen => .cells #[.iface 115 (.agg #[.pointer (some ⟨10, 48, none⟩)])] t frozen | o => o } : World).forCall (fun _ _ => 0) ⟨#[], #[.agg #[.int .i64 0, .string ⟨#[]⟩, .slice none 0 0], .agg #[.int .i64 0, .string ⟨#[]⟩, .slice none 0 0]], []⟩).memory Tryd.f9.params.toList Rows.tlvJoinsSpec.vars false #[Value.agg #[.int .i64 0, .string ⟨#[]⟩, .slice none 0 0], Value.agg #[.int .i64 0, .string ⟨#[]⟩, .slice none 0 0]].toList 8 = some ([.agg [.lit (.int .i64 0), .lit (.string []), .nil], .agg [.lit (.int .i64 0), .lit (.string []), .nil]], [], places) :=
  ⟨[], by kernel_rfl⟩

set_option maxRecDepth 100000 in
theorem lifted (os : Os) (started : os.Started) (H : Type) (enc : TypeId × Value → H) (F : Stop.Interp) :
    ReturnsInHanded {} Tryd.checked os 9 .any ((OpenSpec.ofChange Rows.tlvJoinsSpec).preRow enc Tryd.prog Tryd.f9 Rows.tlvJoinsRow.domain false Rows.tlvJoinsRow.laid) (((OpenSpec.ofChange Rows.tlvJoinsSpec).at F).post enc Tryd.prog Tryd.f9 false true false false) := by
  obtain ⟨places, hx⟩ := reads os enc
  refine returnsInHanded_of_row (C := Tryd.checked) (s := OpenSpec.ofChange Rows.tlvJoinsSpec) own started (by kernel_rfl) Tryd.func9
    (witness_row_at (enc := enc) (C := Tryd.checked) false ({ World.holding Tryd.prog os ⟨#[.cells #[.string sentS0] 177, .cells #[.string sentS1] 177, .cells #[.string sentS2] 177, .cells #[.string sentS3] 177, .cells #[.string sentS4] 177, .cells #[.string sentS5] 177, .cells #[.string sentS6] 177, .cells #[.string sentS7] 177], #[], []⟩ with heap := (((((((((World.holding Tryd.prog os ⟨#[.cells #[.string sentS0] 177, .cells #[.string sentS1] 177, .cells #[.string sentS2] 177, .cells #[.string sentS3] 177, .cells #[.string sentS4] 177, .cells #[.string sentS5] 177, .cells #[.string sentS6] 177, .cells #[.string sentS7] 177], #[], []⟩).heap.modify 9 fun | .cells _ t frozen => .cells #[.iface 158 (.pointer (some ⟨(World.holding Tryd.prog default ⟨#[], #[], []⟩).heap.size + 0, 0, none⟩))] t frozen | o => o).modify 6 fun | .cells _ t frozen => .cells #[.iface 158 (.pointer (some ⟨(World.holding Tryd.prog default ⟨#[], #[], []⟩).heap.size + 1, 0, none⟩))] t frozen | o => o).modify 4 fun | .cells _ t frozen => .cells #[.iface 158 (.pointer (some ⟨(World.holding Tryd.prog default ⟨#[], #[], []⟩).heap.size + 2, 0, none⟩))] t frozen | o => o).modify 5 fun | .cells _ t frozen => .cells #[.iface 158 (.pointer (some ⟨(World.holding Tryd.prog default ⟨#[], #[], []⟩).heap.size + 3, 0, none⟩))] t frozen | o => o).modify 0 fun | .cells _ t frozen => .cells #[.iface 158 (.pointer (some ⟨(World.holding Tryd.prog default ⟨#[], #[], []⟩).heap.size + 4, 0, none⟩))] t frozen | o => o).modify 1 fun | .cells _ t frozen => .cells #[.iface 158 (.pointer (some ⟨(World.holding Tryd.prog default ⟨#[], #[], []⟩).heap.size + 5, 0, none⟩))] t frozen | o => o).modify 2 fun | .cells _ t frozen => .cells #[.iface 158 (.pointer (some ⟨(World.holding Tryd.prog default ⟨#[], #[], []⟩).heap.size + 6, 0, none⟩))] t frozen | o => o).modify 3 fun | .cells _ t frozen => .cells #[.iface 158 (.pointer (some ⟨(World.holding Tryd.prog default ⟨#[], #[], []⟩).heap.size + 7, 0, none⟩))] t frozen | o => o).modify 7 fun | .cells _ t frozen => .cells #[.iface 115 (.agg #[.pointer (some ⟨10, 48, none⟩)])] t frozen | o => o } : World) #[.agg #[.int .i64 0, .string ⟨#[]⟩, .slice none 0 0], .agg #[.int .i64 0, .string ⟨#[]⟩, .slice none 0 0]] rfl (by kernel_rfl) (by kernel_rfl) (by kernel_rfl)
      (OpenSpec.preRow_of_cond 8 hx (by kernel_rfl) (fun k hk => by cases hk) (by kernel_rfl) (laid_met os _))) ?_
  intro W base args ds gs before hval hW _ _ _ hL _ _
  exact contract H enc W base args ds gs before hval hW hL

theorem said : Rows.TlvJoinsSaid :=
  OpenClaim.holds_of_cond 9 Tryd.f9 rfl rfl rfl rfl rfl rfl rfl ⟨rfl, rfl, rfl, rfl, rfl⟩ rfl rfl rfl rfl rfl (by kernel_rfl) Tryd.func9 (by kernel_rfl)
    (of_decide_eq_true (by kernel_rfl)) (by unfold Func.isWrapper; first | (rw [if_pos (by decide +kernel)]; kernel_rfl) | (rw [if_neg (by decide +kernel)]; exact ⟨rfl, rfl⟩))
    (fun os started H enc _ F => by rw [OpenClaim.pre_eq_preRow]; exact lifted os started H enc F)

theorem plain (f : FuncId) (fn : Func) (hf : Tryd.pinned.checked.prog.funcNamed "latiner/latinerlaw02.TlvJoins" = some f) (hfn : Tryd.pinned.checked.prog.funcs[f]? = some fn) :
    true = Tryd.pinned.checked.prog.looks [] ∧ ∀ (j : Nat) t, fn.params[j]? = some t → Tryd.pinned.checked.prog.wantsStandIn t = false := by
  obtain rfl : f = 9 := Option.some.inj ((show Tryd.prog.funcNamed "latiner/latinerlaw02.TlvJoins" = some 9 by kernel_rfl).symm.trans hf) |>.symm
  obtain rfl : fn = Tryd.f9 := (Option.some.inj (Tryd.func9.symm.trans hfn)).symm
  refine ⟨by kernel_rfl, fun j t ht => ?_⟩
  rw [Tryd.params9] at ht
  have hm : t = 24 := by have := Array.mem_of_getElem? ht; simp at this; first | exact this | omega | (rcases this with h | h | h <;> simp [h]) | (rcases this with h | h | h | h <;> simp [h])
  subst hm
  exact (show Tryd.prog.wantsStandIn 24 = false by kernel_rfl)

/-- The card. -/
theorem card : Rows.TlvJoinsCardSaid :=
  Claim7.holds_tied_plain_at .later [] _ _ _ _ said (fun _ h => by cases h) (by kernel_rfl) (fun _ h => by cases h) tlvJoins_row_tie rfl ⟨rfl, rfl⟩ (by kernel_rfl) rfl plain (by kernel_rfl)
end Go.Proofs.YthibodkemnkjeaaDoor.tjoins

namespace Go.Proofs.YthibodkemnkjeaaDoor
theorem tlvJoins_holds : Rows.TlvJoinsCardSaid := tjoins.card
#print axioms tlvJoins_holds
end Go.Proofs.YthibodkemnkjeaaDoor
