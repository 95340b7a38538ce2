/-
  latinerlaw02.TlvCodes returns true at every two trees, text and place: which trees are right, which are the same, their bytes, and trees of bytes are as the document says. Conditions: the package-level variables hold what the program's text lays (the card ties them).
-/
import Derived.Test.YthibodkemnkjeaaDoorTRefE
import Derived.Test.YthibodkemnkjeaaDoorTLaid
namespace Go.Proofs.YthibodkemnkjeaaDoor.tcodes
open Go.ChangeShapes Go.WideShapes Go.ChangeAt Go.ChangeMaps Go.RowKit Tv T Go.Shelf

theorem cut_any (s : ByteArray) (w : World) (hs : s.size ≤ maxLen) :
    Calls Tryd.prog 14 #[.string s] w fun e w' => (∃ d : ByteArray, e = .returned (.string d) ∧ d.size ≤ 4100) ∧ w' = w := by
  unfold maxLen at hs
  go_enter Tryd.func14, Tryd.ntmps14
  go_wp2
  go_ret
  exact ⟨⟨_, rfl, by rw [ByteArray.size_extract]; omega⟩, rfl⟩

/-- the tree that stands where none was read. -/
def zeroT : Tr 13 := mk 0 ⟨#[]⟩ []
theorem zero_node (V : World) : Node 13 V (fun _ => True) zeroN zeroT := ⟨none, 0, rfl, Nat.zero_le _, Nat.zero_le _, .inl rfl⟩
/-- what Decode answers. -/
def outD (r : Except Int (Tr 13 × Nat)) : Tr 13 × Nat × Int := match r with
  | .error E => (zeroT, 0, E)
  | .ok (T, nx) => (T, nx, 0)
theorem dec_out {w V : World} {r : Except Int (Tr 13 × Nat)} {e : Ending} (h : DecPost w r e V) : Below w.heap.size w V ∧ ∃ t d a l c, e = .returned (.tuple #[.agg #[.int .i64 t, .string d, .slice a l c], .int .i64 (outD r).2.1, .int .i64 (outD r).2.2]) ∧ Node 13 V (fun _ => True) (.agg #[.int .i64 t, .string d, .slice a l c]) (outD r).1 := by
  obtain ⟨hb, h⟩ := h
  refine ⟨hb, ?_⟩
  cases r with
  | error E => exact ⟨_, _, _, _, _, h, zero_node V⟩
  | ok r =>
    obtain ⟨T, nx⟩ := r
    obtain ⟨v, rfl, hN⟩ := h
    obtain ⟨t, d, a, l, c, rfl⟩ := hN.agg
    exact ⟨_, _, _, _, _, rfl, hN.imp fun _ _ _ => trivial⟩
/-- what Whole answers. -/
def outW (r : Except Int (Tr 13)) : Tr 13 × Int := match r with
  | .error E => (zeroT, E)
  | .ok T => (T, 0)
theorem whole_out {w V : World} {r : Except Int (Tr 13)} {e : Ending} (h : WholePost w r e V) : Below w.heap.size w V ∧ ∃ t d a l c, e = .returned (.tuple #[.agg #[.int .i64 t, .string d, .slice a l c], .int .i64 (outW r).2]) ∧ Node 13 V (fun _ => True) (.agg #[.int .i64 t, .string d, .slice a l c]) (outW r).1 := by
  obtain ⟨hb, h⟩ := h
  refine ⟨hb, ?_⟩
  cases r with
  | error E => exact ⟨_, _, _, _, _, h, zero_node V⟩
  | ok T =>
    obtain ⟨v, rfl, hN⟩ := h
    obtain ⟨t, d, a, l, c, rfl⟩ := hN.agg
    exact ⟨_, _, _, _, _, rfl, hN.imp fun _ _ _ => trivial⟩
theorem encT_form {n : Nat} (T : Tr n) : ∃ S E, encT T = .tuple #[.string S, .int .i64 E] := by
  unfold encT
  split
  · exact ⟨_, _, rfl⟩
  · exact ⟨_, _, rfl⟩

set_option maxRecDepth 100000 in
set_option maxHeartbeats 2000000 in
theorem walk (v : Value) (X : Tr 13) (v' : Value) (Y : Tr 13) (s : ByteArray) (at_ : Int) (A : Ads) (aS aF : Addr) (w : World) (g : Gl A aS aF w) (hC : CutOf 13 w v X) (hC2 : CutOf 13 w v' Y) (hs : s.size ≤ maxLen) :
    Calls Tryd.prog 3 #[v, v', .string s, .int .i64 at_] w fun e w' => e = .returned (.bool true) ∧ Below w.heap.size w w' := by
  have HT := hide fun W => cut_any s W hs
  clear hs
  have G := hide fun w' (h : Below w.heap.size w w') => g.below h
  have HC := hide fun w' (h : Below w.heap.size w w') => hC.below h
  have HC2 := hide fun w' (h : Below w.heap.size w w') => hC2.below h
  obtain ⟨d, a, len, cap, rfl, g1, g2, g3, g4, g5⟩ := hC
  clear g1 g2 g3 g4 g5
  obtain ⟨d2, a2, len2, cap2, rfl, g1, g2, g3, g4, g5⟩ := hC2
  clear g1 g2 g3 g4 g5
  clear g
  go_enter Tryd.func3, Tryd.ntmps3
  go_wp2_with fail
  have hb0 : Below w.heap.size w ((w.alloc (.cells #[.int .i64 (tag X), .string d, .slice a len cap] 24)).alloc (.cells #[.int .i64 (tag Y), .string d2, .slice a2 len2 cap2] 24)) := ((Below.refl _ _).alloc (Nat.le_refl _) _).alloc (by simp) _
  have hq0 : ((w.alloc (.cells #[.int .i64 (tag X), .string d, .slice a len cap] 24)).alloc (.cells #[.int .i64 (tag Y), .string d2, .slice a2 len2 cap2] 24)).heap[w.heap.size]? = some (.cells #[.int .i64 (tag X), .string d, .slice a len cap] 24) := (Below.heap_alloc _ _ _ (by simp)).trans (World.alloc_heap_new w _)
  have hp0 : ((w.alloc (.cells #[.int .i64 (tag X), .string d, .slice a len cap] 24)).alloc (.cells #[.int .i64 (tag Y), .string d2, .slice a2 len2 cap2] 24)).heap[w.heap.size + 1]? = some (.cells #[.int .i64 (tag Y), .string d2, .slice a2 len2 cap2] 24) := by
    have := World.alloc_heap_new (w.alloc (.cells #[.int .i64 (tag X), .string d, .slice a len cap] 24)) (.cells #[.int .i64 (tag Y), .string d2, .slice a2 len2 cap2] 24)
    rwa [World.size_alloc] at this
  refine (shown_any A aS aF _ ((unhide G) _ hb0)).mono ?_
  rintro e w1 ⟨rfl, hb1⟩
  have hB1 := hb0.trans (hb1.mono hb0.size)
  have hq1 := (hb1.block w.heap.size (by simp <;> omega)).trans hq0
  have hp1 := (hb1.block (w.heap.size + 1) (by simp)).trans hp0
  obtain ⟨⟨e0, e1, e2⟩, _⟩ := cells3 hq1
  have HB1 := hide hB1
  have HQ1 := hide hq1
  have HP1 := hide hp1
  clear hb0 hb1 hq0 hp0 hB1 hq1 hp1
  go_wp2_with fail
  refine (Cut_any X w1 _ ((unhide HC) _ (unhide HB1))).mono ?_
  rintro e w2 ⟨hb2, v2, rfl, hN2⟩
  obtain ⟨vt, vd, va, vl, vc, rfl⟩ := hN2.agg
  have hlt1 := (Array.getElem?_eq_some_iff.1 (unhide HP1)).1
  have hq2 := (hb2.block w.heap.size (by omega)).trans (unhide HQ1)
  have hp2 := (hb2.block (w.heap.size + 1) hlt1).trans (unhide HP1)
  obtain ⟨⟨f0, f1, f2⟩, r0, r1, r2⟩ := cells3 hq2
  have HB2 := hide ((unhide HB1).trans (hb2.mono (unhide HB1).size))
  have HXS := hide (BX.mk' (B := w.heap.size + 2) (A := #[.int .i64 (tag X), .string d, .slice a len cap]) hq2 hN2 (fun k hk => by omega) (by omega))
  have hpS : (((w2.setCell ⟨w.heap.size, 0, none⟩ (.int .i64 vt)).setCell ⟨w.heap.size, 1, none⟩ (.string vd)).setCell ⟨w.heap.size, 2, none⟩ (.slice va vl vc)).heap[w.heap.size + 1]? = some (.cells #[.int .i64 (tag Y), .string d2, .slice a2 len2 cap2] 24) := by
    rw [Below.heap_setCell _ _ _ _ (by show w.heap.size + 1 ≠ w.heap.size; omega), Below.heap_setCell _ _ _ _ (by show w.heap.size + 1 ≠ w.heap.size; omega), Below.heap_setCell _ _ _ _ (by show w.heap.size + 1 ≠ w.heap.size; omega)]
    exact hp2
  obtain ⟨⟨p0, p1, p2⟩, _⟩ := cells3 hpS
  have HPS := hide hpS
  clear hb2 hq2 hN2 e0 e1 e2 hp2 hpS
  go_wp2_with fail
  have hbS := set3n (unhide HB2) (Nat.le_refl w.heap.size) (.int .i64 vt) (.string vd) (.slice va vl vc)
  have hXS := unhide HXS
  have hpS := unhide HPS
  clear HXS HPS HB2 HB1 HQ1 HP1 HC f0 f1 f2 r0 r1 r2 hlt1 p0 p1 p2
  generalize ((w2.setCell ⟨w.heap.size, 0, none⟩ (.int .i64 vt)).setCell ⟨w.heap.size, 1, none⟩ (.string vd)).setCell ⟨w.heap.size, 2, none⟩ (.slice va vl vc) = wS at *
  refine (Cut_any Y wS _ ((unhide HC2) _ hbS)).mono ?_
  rintro e w3 ⟨hb3, v3, rfl, hN3⟩
  obtain ⟨ut, ud, ua, ul, uc, rfl⟩ := hN3.agg
  have hltS := (Array.getElem?_eq_some_iff.1 hpS).1
  have hp3 := (hb3.block (w.heap.size + 1) hltS).trans hpS
  have hX3 := hXS.below hb3
  obtain ⟨⟨f0, f1, f2⟩, r0, r1, r2⟩ := cells3 hp3
  have HB3 := hide (hbS.trans (hb3.mono hbS.size))
  have HYT := hide (BX.mk' (B := w.heap.size + 2) (A := #[.int .i64 (tag Y), .string d2, .slice a2 len2 cap2]) hp3 hN3 (fun k hk => by omega) (by omega))
  have hXT := hX3.other (b' := w.heap.size + 1) (by omega) (by omega) (.int .i64 ut) (.string ud) (.slice ua ul uc)
  obtain ⟨⟨x0, x1, x2⟩, _⟩ := hXT.cells
  have HXT := hide hXT
  clear hb3 hp3 hN3 hX3 hXT hXS hpS hbS hltS
  go_wp2_with fail
  have hbT := set3n (unhide HB3) (show w.heap.size ≤ w.heap.size + 1 by omega) (.int .i64 ut) (.string ud) (.slice ua ul uc)
  have hXT := unhide HXT
  have hYT := unhide HYT
  clear HXT HYT HB3 HC2 f0 f1 f2 r0 r1 r2 x0 x1 x2
  generalize ((w3.setCell ⟨w.heap.size + 1, 0, none⟩ (.int .i64 ut)).setCell ⟨w.heap.size + 1, 1, none⟩ (.string ud)).setCell ⟨w.heap.size + 1, 2, none⟩ (.slice ua ul uc) = wT at *
  refine ((unhide HT) _).mono ?_
  rintro e w4 ⟨⟨c, rfl, hc⟩, rfl⟩
  obtain ⟨⟨x0, x1, x2⟩, _⟩ := hXT.cells
  have HBT := hide hbT
  have HXT := hide hXT
  have HYT := hide hYT
  obtain ⟨S, E, hSE⟩ := encT_form X
  have H1 := hide (encode_any 13 X A aS aF _ _ _ ((unhide G) _ hbT) hXT.n (by omega))
  rw [hSE] at H1
  clear hbT hXT hYT HT
  go_wp2_with fail
  refine (unhide H1).mono ?_
  rintro e w5 ⟨rfl, hb5⟩
  have HB5 := hide ((unhide HBT).trans (hb5.mono (unhide HBT).size))
  have hX5 := (unhide HXT).below hb5
  have HY5 := hide ((unhide HYT).below hb5)
  obtain ⟨⟨x0, x1, x2⟩, _⟩ := hX5.cells
  have H2 := hide (refEnc_any 13 X _ _ _ hX5.n)
  rw [hSE] at H2
  have HX5 := hide hX5
  clear hb5 hX5 H1 HBT HXT HYT hSE
  go_wp2_with fail
  refine (unhide H2).mono ?_
  rintro e w6 ⟨rfl, hb6⟩
  have HB6 := hide ((unhide HB5).trans (hb6.mono (unhide HB5).size))
  have HX6 := hide ((unhide HX5).below hb6)
  have HY6 := hide ((unhide HY5).below hb6)
  have HD1 := hide fun V (hb : Below w.heap.size w V) => decodeT_any c at_ A aS aF V ((unhide G) _ hb) (by omega)
  have HD2 := hide fun V => refDecodeT_any c at_ V (by omega)
  have HW1 := hide fun V (hb : Below w.heap.size w V) => whole_any c A aS aF V ((unhide G) _ hb) (by omega)
  have HW2 := hide fun V => refWhole_any c V (by omega)
  clear hb6 H2 HB5 HX5 HY5 x0 x1 x2 hc
  go_wp2_with fail
  refine ((unhide HD1) _ (unhide HB6)).mono ?_
  intro e w7 h7
  obtain ⟨hb7, ct, cd, ca, cl, cc, rfl, hN7⟩ := dec_out h7
  have HB7 := hide (((unhide HB6).trans (hb7.mono (unhide HB6).size)).alloc ((unhide HB6).trans (hb7.mono (unhide HB6).size)).size (.cells #[.int .i64 ct, .string cd, .slice ca cl cc] 24))
  have HX7 := hide (((unhide HX6).below hb7).alloc (.cells #[.int .i64 ct, .string cd, .slice ca cl cc] 24))
  have HY7 := hide (((unhide HY6).below hb7).alloc (.cells #[.int .i64 ct, .string cd, .slice ca cl cc] 24))
  have HC7 := hide (BX.new hN7)
  clear h7 hb7 hN7 HB6 HX6 HY6 HD1
  go_wp2_with fail
  generalize w7.alloc (.cells #[.int .i64 ct, .string cd, .slice ca cl cc] 24) = V7 at *
  refine ((unhide HD2) V7).mono ?_
  intro e w8 h8
  obtain ⟨hb8, ht, hd, ha, hl, hcc, rfl, hN8⟩ := dec_out h8
  have HB8 := hide (((unhide HB7).trans (hb8.mono (unhide HB7).size)).alloc ((unhide HB7).trans (hb8.mono (unhide HB7).size)).size (.cells #[.int .i64 ht, .string hd, .slice ha hl hcc] 24))
  have HX8 := hide (((unhide HX7).below hb8).alloc (.cells #[.int .i64 ht, .string hd, .slice ha hl hcc] 24))
  have HY8 := hide (((unhide HY7).below hb8).alloc (.cells #[.int .i64 ht, .string hd, .slice ha hl hcc] 24))
  have HC8 := hide (((unhide HC7).below hb8).alloc (.cells #[.int .i64 ht, .string hd, .slice ha hl hcc] 24))
  have HH8 := hide (BX.new hN8)
  clear h8 hb8 hN8 HB7 HX7 HY7 HC7 HD2
  go_wp2_with fail
  generalize w8.alloc (.cells #[.int .i64 ht, .string hd, .slice ha hl hcc] 24) = V8 at *
  refine ((unhide HW1) V8 (unhide HB8)).mono ?_
  intro e w9 h9
  obtain ⟨hb9, kt, kd, ka, kl, kc, rfl, hN9⟩ := whole_out h9
  have HB9 := hide (((unhide HB8).trans (hb9.mono (unhide HB8).size)).alloc ((unhide HB8).trans (hb9.mono (unhide HB8).size)).size (.cells #[.int .i64 kt, .string kd, .slice ka kl kc] 24))
  have HX9 := hide (((unhide HX8).below hb9).alloc (.cells #[.int .i64 kt, .string kd, .slice ka kl kc] 24))
  have HY9 := hide (((unhide HY8).below hb9).alloc (.cells #[.int .i64 kt, .string kd, .slice ka kl kc] 24))
  have HC9 := hide (((unhide HC8).below hb9).alloc (.cells #[.int .i64 kt, .string kd, .slice ka kl kc] 24))
  have HH9 := hide (((unhide HH8).below hb9).alloc (.cells #[.int .i64 kt, .string kd, .slice ka kl kc] 24))
  have HK9 := hide (BX.new hN9)
  clear h9 hb9 hN9 HB8 HX8 HY8 HC8 HH8 HW1
  go_wp2_with fail
  generalize w9.alloc (.cells #[.int .i64 kt, .string kd, .slice ka kl kc] 24) = V9 at *
  refine ((unhide HW2) V9).mono ?_
  intro e w10 h10
  obtain ⟨hb10, mt, md, ma, ml, mc, rfl, hN10⟩ := whole_out h10
  have HB10 := hide (((unhide HB9).trans (hb10.mono (unhide HB9).size)).alloc ((unhide HB9).trans (hb10.mono (unhide HB9).size)).size (.cells #[.int .i64 mt, .string md, .slice ma ml mc] 24))
  have HX10 := hide (((unhide HX9).below hb10).alloc (.cells #[.int .i64 mt, .string md, .slice ma ml mc] 24))
  have HY10 := hide (((unhide HY9).below hb10).alloc (.cells #[.int .i64 mt, .string md, .slice ma ml mc] 24))
  have HC10 := hide (((unhide HC9).below hb10).alloc (.cells #[.int .i64 mt, .string md, .slice ma ml mc] 24))
  have HH10 := hide (((unhide HH9).below hb10).alloc (.cells #[.int .i64 mt, .string md, .slice ma ml mc] 24))
  have HK10 := hide (((unhide HK9).below hb10).alloc (.cells #[.int .i64 mt, .string md, .slice ma ml mc] 24))
  have HM10 := hide (BX.new hN10)
  clear h10 hb10 hN10 HB9 HX9 HY9 HC9 HH9 HK9 HW2
  go_wp2_with fail
  generalize w10.alloc (.cells #[.int .i64 mt, .string md, .slice ma ml mc] 24) = V at *
  generalize (outD (decT c.data.toList at_)).1 = T1 at *
  generalize (outD (decT c.data.toList at_)).2.1 = n1 at *
  generalize (outD (decT c.data.toList at_)).2.2 = E1 at *
  generalize (outW (wholeT c.data.toList)).1 = T2 at *
  generalize (outW (wholeT c.data.toList)).2 = E2 at *
  refine wp_region_class (by kernel_rfl) (by kernel_rfl) ?_
  obtain ⟨⟨x0, x1, x2⟩, _⟩ := (unhide HX10).cells
  have xq0 := fun z : Cl V => Cl.cell z x0 (lt_of_cell x0)
  have xq1 := fun z : Cl V => Cl.cell z x1 (lt_of_cell x1)
  have xq2 := fun z : Cl V => Cl.cell z x2 (lt_of_cell x2)
  obtain ⟨⟨y0, y1, y2⟩, _⟩ := (unhide HY10).cells
  have yq0 := fun z : Cl V => Cl.cell z y0 (lt_of_cell y0)
  have yq1 := fun z : Cl V => Cl.cell z y1 (lt_of_cell y1)
  have yq2 := fun z : Cl V => Cl.cell z y2 (lt_of_cell y2)
  obtain ⟨⟨c0, c1, c2⟩, _⟩ := (unhide HC10).cells
  have cq0 := fun z : Cl V => Cl.cell z c0 (lt_of_cell c0)
  have cq1 := fun z : Cl V => Cl.cell z c1 (lt_of_cell c1)
  have cq2 := fun z : Cl V => Cl.cell z c2 (lt_of_cell c2)
  obtain ⟨⟨h0, h1, h2⟩, _⟩ := (unhide HH10).cells
  have hq0 := fun z : Cl V => Cl.cell z h0 (lt_of_cell h0)
  have hq1 := fun z : Cl V => Cl.cell z h1 (lt_of_cell h1)
  have hq2 := fun z : Cl V => Cl.cell z h2 (lt_of_cell h2)
  obtain ⟨⟨k0, k1, k2⟩, _⟩ := (unhide HK10).cells
  have kq0 := fun z : Cl V => Cl.cell z k0 (lt_of_cell k0)
  have kq1 := fun z : Cl V => Cl.cell z k1 (lt_of_cell k1)
  have kq2 := fun z : Cl V => Cl.cell z k2 (lt_of_cell k2)
  obtain ⟨⟨m0, m1, m2⟩, _⟩ := (unhide HM10).cells
  have mq0 := fun z : Cl V => Cl.cell z m0 (lt_of_cell m0)
  have mq1 := fun z : Cl V => Cl.cell z m1 (lt_of_cell m1)
  have mq2 := fun z : Cl V => Cl.cell z m2 (lt_of_cell m2)
  have K1 := hide fun z : Cl V => Cl.call z (right_any 13 X A aS aF z.w _ _ ((unhide G) _ ((unhide HB10).trans (z.b.mono (unhide HB10).size))) ((unhide HX10).below z.b).n (by omega))
  have K2 := hide fun z : Cl V => Cl.call z (refRight_any 13 X z.w _ _ ((unhide HX10).below z.b).n)
  have K3 := hide fun z : Cl V => Cl.call z (same_any 13 X Y z.w _ _ _ _ ((unhide HX10).below z.b).n ((unhide HY10).below z.b).n)
  have K4 := hide fun z : Cl V => Cl.call z (refSame_any 13 X Y z.w _ _ _ _ ((unhide HX10).below z.b).n ((unhide HY10).below z.b).n)
  have K5 := hide fun z : Cl V => Cl.call z (same_any 13 X X z.w _ _ _ _ ((unhide HX10).below z.b).n ((unhide HX10).below z.b).n)
  have K6 := hide fun z : Cl V => Cl.call z (refSame_any 13 T1 T1 z.w _ _ _ _ ((unhide HC10).below z.b).n ((unhide HH10).below z.b).n)
  have K7 := hide fun z : Cl V => Cl.call z (refSame_any 13 T2 T2 z.w _ _ _ _ ((unhide HK10).below z.b).n ((unhide HM10).below z.b).n)
  rw [(same_iff 13 X X).2 rfl] at K5
  rw [(same_iff 13 T1 T1).2 rfl] at K6
  rw [(same_iff 13 T2 T2).2 rfl] at K7
  generalize right X = rX at *
  generalize same 13 X Y = sXY at *
  clear x0 x1 x2 y0 y1 y2 c0 c1 c2 h0 h1 h2 k0 k1 k2 m0 m1 m2 HX10 HY10 HC10 HH10 HK10 HM10
  have hne : Nonempty (Cl V) := clNonempty V
  repeat (go_big_quiet_step (first | with_reducible exact (unhide K1) _ | with_reducible exact (unhide K2) _ | with_reducible exact (unhide K3) _ | with_reducible exact (unhide K4) _ | with_reducible exact (unhide K5) _ | with_reducible exact (unhide K6) _ | with_reducible exact (unhide K7) _))
  refine wpQuiet_nil ?_
  rintro w' ⟨z, rfl⟩
  go_wp2
  go_ret
  exact ⟨rfl, (unhide HB10).trans (z.b.mono (unhide HB10).size)⟩

set_option maxRecDepth 100000 in
/-- What the walk gives, for every argument. -/
theorem contract (H : Type) (enc : TypeId × Value → H) (W : World) (base : Nat) (args : Array Value) (ds gs : List (DataW H)) (before : List MemPlace)
    (hval : ∀ (j : Nat) t v, Tryd.f3.params[j]? = some t → args[j]? = some v → Value.okWide Tryd.prog W .any base t v)
    (hW : DataW.Whole enc Tryd.prog Tryd.f3.params.toList Rows.tlvCodesSpec.vars false W args.toList ds gs before) (hL : laidMetH Tryd.prog Rows.tlvCodesRow.laid W) :
    Calls Tryd.prog 3 args W fun e W' => ∃ v, e = .returned v ∧ Rows.tlvCodesSpec.post enc Tryd.prog Tryd.f3 false true false false W args v W' := by
  obtain ⟨A, aS, aF, g⟩ := glob_of_laid hL
  have hW' := hW
  obtain ⟨p, q, hA0, hV, rfl, hfz, hnd⟩ := hW
  have hA : DataW.TrodAll enc Tryd.prog W 0 (fun _ => true) true Tryd.f3.params.toList args.toList ds p := hA0
  rw [Tryd.params3] at hA hval
  obtain ⟨v0, vs0, d0, ds0, p0, q0, hargs0, rfl, rfl, h0, r0⟩ := trodAll_cons hA
  obtain ⟨v1, vs1, d1, ds1, p1, q1, hargs1, rfl, rfl, h1, r1⟩ := trodAll_cons r0
  obtain ⟨v2, vs2, d2, ds2, p2, q2, hargs2, rfl, rfl, h2, r2⟩ := trodAll_cons r1
  obtain ⟨v3, vs3, d3, ds3, p3, q3, hargs3, rfl, rfl, h3, r3⟩ := trodAll_cons r2
  obtain ⟨rfl, rfl, rfl⟩ := trodAll_nil r3
  obtain rfl : args = #[v0, v1, v2, v3] := by cases args; simp_all
  obtain ⟨rfl, rfl⟩ := trodVars_none hV
  obtain ⟨cs0, rfl, _⟩ := okWide_struct Tryd.underlying24 (hval 0 24 v0 rfl rfl)
  have hk0 := h0
  obtain ⟨fu0, hf0⟩ := h0
  obtain ⟨t0, b0, a0, l0, c0, ec0, T0, hC0⟩ := open_cut 12 fu0 _ _ hf0
  have hlt0 := DataW.trod_lt _ _ _ _ hf0
  obtain rfl : cs0 = #[.int .i64 t0, .string b0, .slice a0 l0 c0] := Array.ext' ec0
  obtain ⟨cs1, rfl, _⟩ := okWide_struct Tryd.underlying24 (hval 1 24 v1 rfl rfl)
  have hk1 := h1
  obtain ⟨fu1, hf1⟩ := h1
  obtain ⟨t1, b1, a1, l1, c1, ec1, T1, hC1⟩ := open_cut 12 fu1 _ _ hf1
  have hlt1 := DataW.trod_lt _ _ _ _ hf1
  obtain rfl : cs1 = #[.int .i64 t1, .string b1, .slice a1 l1 c1] := Array.ext' ec1
  obtain ⟨x2, rfl, rfl, rfl, wf2⟩ := open_string Tryd.underlying9 (hval 2 9 v2 rfl rfl) h2
  obtain ⟨x3, rfl, rfl, rfl, wf3⟩ := open_int Tryd.underlying3 (hval 3 3 v3 rfl rfl) h3
  clear hA0
  simp only [List.append_nil] at hW'
  refine (walk _ T0 _ T1 x2 x3 A aS aF W g hC0 hC1 wf2).mono fun e W' ⟨he, hg⟩ => ?_
  subst he
  refine ⟨_, rfl, _, _, _, [], (p0 ++ (p1 ++ ([] ++ ([] ++ [])))), [], hW', ?_, ?_, ?_, hg.frame _, fun h => by cases h⟩
  · exact trodAll_cons_mk (shut_bool Tryd.underlying4 _) trodAll_mk0
  · exact trodAll_cons_mk (Below.trod (by kernel_rfl) (by kernel_rfl) (of_decide_eq_true (by kernel_rfl)) hk0 hg hlt0) (trodAll_cons_mk (Below.trod (by kernel_rfl) (by kernel_rfl) (of_decide_eq_true (by kernel_rfl)) hk1 hg hlt1) (trodAll_cons_mk (shut_string Tryd.underlying9 wf2) (trodAll_cons_mk (shut_int Tryd.underlying3 wf3) (trodAll_mk0))))
  · rfl

theorem reads (os : Os) {H : Type} (enc : TypeId × Value → H) : ∃ places, DataW.whole enc Tryd.prog (({ World.holding Tryd.prog os ⟨#[.cells #[.string sentS0] 177, .cells #[.string sentS1] 177, .cells #[.string sentS2] 177, .cells #[.string sentS3] 177, .cells #[.string sentS4] 177, .cells #[.string sentS5] 177, .cells #[.string sentS6] 177, .cells #[.string sentS7] 177], #[], []⟩ with heap := (((((((((World.holding Tryd.prog os ⟨#[.cells #[.string sentS0] 177, .cells #[.string sentS1] 177, .cells #[.string sentS2] 177, .cells #[.string sentS3] 177, .cells #[.string sentS4] 177, .cells #[.string sentS5] 177, .cells #[.string sentS6] 177, .cells #[.string sentS7] 177], #[], []⟩).heap.modify 9 fun | .cells _ t frozen => .cells #[.iface 158 (.pointer (some ⟨(World.holding Tryd.prog default ⟨#[], #[], []⟩).heap.size + 0, 0, none⟩))] t frozen | o => o).modify 6 fun | .cells _ t frozen => .cells #[.iface 158 (.pointer (some ⟨(World.holding Tryd.prog default ⟨#[], #[], []⟩).heap.size + 1, 0, none⟩))] t frozen | o => o).modify 4 fun | .cells _ t frozen => .cells #[.iface 158 (.pointer (some ⟨(World.holding Tryd.prog default ⟨#[], #[], []⟩).heap.size + 2, 0, none⟩))] t frozen | o => o).modify 5 fun | .cells _ t frozen => .cells #[.iface 158 (.pointer (some ⟨(World.holding Tryd.prog default ⟨#[], #[], []⟩).heap.size + 3, 0, none⟩))] t frozen | o => o).modify 0 fun | .cells _ t frozen => .cells #[.iface 158 (.pointer (some ⟨(World.holding Tryd.prog default ⟨#[], #[], []⟩).heap.size + 4, 0, none⟩))] t frozen | o => o).modify 1 fun | .cells _ t frozen => .cells #[.iface 158 (.pointer (some ⟨(World.holding Tryd.prog default ⟨#[], #[], []⟩).heap.size + 5, 0, none⟩))] t frozen | o => o).modify 2 fun | .cells _ t frozen => .cells #[.iface 158 (.pointer (some ⟨(World.holding Tryd.prog default ⟨#[], #[], []⟩).heap.size + 6, 0, none⟩))] t frozen | o => o).modify 3 fun | .cells _ t frozen => .cells #[.iface 158 (.pointer (some ⟨(World.holding Tryd.prog default ⟨#[], #[], []⟩).heap.size + 7, 0, none⟩))] t frozen | o => o).modify 7 fun | .cells _ t frozen => .cells #[.iface 115 (.agg #[.pointer (some ⟨10, 48, none⟩)])] t frozen | o => o } : World).forCall (fun _ _ => 0) ⟨#[], #[.agg #[.int .i64 0, .string ⟨#[]⟩, .slice none 0 0], .agg #[.int .i64 0, .string ⟨#[]⟩, .slice none 0 0], .string ⟨#[]⟩, .int .i64 0], []⟩).memory Tryd.f3.params.toList Rows.tlvCodesSpec.vars false #[Value.agg #[.int .i64 0, .string ⟨#[]⟩, .slice none 0 0], Value.agg #[.int .i64 0, .string ⟨#[]⟩, .slice none 0 0], Value.string ⟨#[]⟩, Value.int .i64 0].toList 8 = some ([.agg [.lit (.int .i64 0), .lit (.string []), .nil], .agg [.lit (.int .i64 0), .lit (.string []), .nil], .lit (.string []), .lit (.int .i64 0)], [], places) :=
  ⟨[], by kernel_rfl⟩

set_option maxRecDepth 100000 in
theorem lifted (os : Os) (started : os.Started) (H : Type) (enc : TypeId × Value → H) (F : Stop.Interp) :
    ReturnsInHanded {} Tryd.checked os 3 .any ((OpenSpec.ofChange Rows.tlvCodesSpec).preRow enc Tryd.prog Tryd.f3 Rows.tlvCodesRow.domain false Rows.tlvCodesRow.laid) (((OpenSpec.ofChange Rows.tlvCodesSpec).at F).post enc Tryd.prog Tryd.f3 false true false false) := by
  obtain ⟨places, hx⟩ := reads os enc
  refine returnsInHanded_of_row (C := Tryd.checked) (s := OpenSpec.ofChange Rows.tlvCodesSpec) own started (by kernel_rfl) Tryd.func3
    (witness_row_at (enc := enc) (C := Tryd.checked) false ({ World.holding Tryd.prog os ⟨#[.cells #[.string sentS0] 177, .cells #[.string sentS1] 177, .cells #[.string sentS2] 177, .cells #[.string sentS3] 177, .cells #[.string sentS4] 177, .cells #[.string sentS5] 177, .cells #[.string sentS6] 177, .cells #[.string sentS7] 177], #[], []⟩ with heap := (((((((((World.holding Tryd.prog os ⟨#[.cells #[.string sentS0] 177, .cells #[.string sentS1] 177, .cells #[.string sentS2] 177, .cells #[.string sentS3] 177, .cells #[.string sentS4] 177, .cells #[.string sentS5] 177, .cells #[.string sentS6] 177, .cells #[.string sentS7] 177], #[], []⟩).heap.modify 9 fun | .cells _ t frozen => .cells #[.iface 158 (.pointer (some ⟨(World.holding Tryd.prog default ⟨#[], #[], []⟩).heap.size + 0, 0, none⟩))] t frozen | o => o).modify 6 fun | .cells _ t frozen => .cells #[.iface 158 (.pointer (some ⟨(World.holding Tryd.prog default ⟨#[], #[], []⟩).heap.size + 1, 0, none⟩))] t frozen | o => o).modify 4 fun | .cells _ t frozen => .cells #[.iface 158 (.pointer (some ⟨(World.holding Tryd.prog default ⟨#[], #[], []⟩).heap.size + 2, 0, none⟩))] t frozen | o => o).modify 5 fun | .cells _ t frozen => .cells #[.iface 158 (.pointer (some ⟨(World.holding Tryd.prog default ⟨#[], #[], []⟩).heap.size + 3, 0, none⟩))] t frozen | o => o).modify 0 fun | .cells _ t frozen => .cells #[.iface 158 (.pointer (some ⟨(World.holding Tryd.prog default ⟨#[], #[], []⟩).heap.size + 4, 0, none⟩))] t frozen | o => o).modify 1 fun | .cells _ t frozen => .cells #[.iface 158 (.pointer (some ⟨(World.holding Tryd.prog default ⟨#[], #[], []⟩).heap.size + 5, 0, none⟩))] t frozen | o => o).modify 2 fun | .cells _ t frozen => .cells #[.iface 158 (.pointer (some ⟨(World.holding Tryd.prog default ⟨#[], #[], []⟩).heap.size + 6, 0, none⟩))] t frozen | o => o).modify 3 fun | .cells _ t frozen => .cells #[.iface 158 (.pointer (some ⟨(World.holding Tryd.prog default ⟨#[], #[], []⟩).heap.size + 7, 0, none⟩))] t frozen | o => o).modify 7 fun | .cells _ t frozen => .cells #[.iface 115 (.agg #[.pointer (some ⟨10, 48, none⟩)])] t frozen | o => o } : World) #[.agg #[.int .i64 0, .string ⟨#[]⟩, .slice none 0 0], .agg #[.int .i64 0, .string ⟨#[]⟩, .slice none 0 0], .string ⟨#[]⟩, .int .i64 0] rfl (by kernel_rfl) (by kernel_rfl) (by kernel_rfl)
      (OpenSpec.preRow_of_cond 8 hx (by kernel_rfl) (fun k hk => by cases hk) (by kernel_rfl) (laid_met os _))) ?_
  intro W base args ds gs before hval hW _ _ _ hL _ _
  exact contract H enc W base args ds gs before hval hW hL

theorem said : Rows.TlvCodesSaid :=
  OpenClaim.holds_of_cond 3 Tryd.f3 rfl rfl rfl rfl rfl rfl rfl ⟨rfl, rfl, rfl, rfl, rfl⟩ rfl rfl rfl rfl rfl (by kernel_rfl) Tryd.func3 (by kernel_rfl)
    (of_decide_eq_true (by kernel_rfl)) (by unfold Func.isWrapper; first | (rw [if_pos (by decide +kernel)]; kernel_rfl) | (rw [if_neg (by decide +kernel)]; exact ⟨rfl, rfl⟩))
    (fun os started H enc _ F => by rw [OpenClaim.pre_eq_preRow]; exact lifted os started H enc F)

theorem plain (f : FuncId) (fn : Func) (hf : Tryd.pinned.checked.prog.funcNamed "latiner/latinerlaw02.TlvCodes" = some f) (hfn : Tryd.pinned.checked.prog.funcs[f]? = some fn) :
    true = Tryd.pinned.checked.prog.looks [] ∧ ∀ (j : Nat) t, fn.params[j]? = some t → Tryd.pinned.checked.prog.wantsStandIn t = false := by
  obtain rfl : f = 3 := Option.some.inj ((show Tryd.prog.funcNamed "latiner/latinerlaw02.TlvCodes" = some 3 by kernel_rfl).symm.trans hf) |>.symm
  obtain rfl : fn = Tryd.f3 := (Option.some.inj (Tryd.func3.symm.trans hfn)).symm
  refine ⟨by kernel_rfl, fun j t ht => ?_⟩
  rw [Tryd.params3] at ht
  have hm : t = 24 ∨ t = 9 ∨ t = 3 := by have := Array.mem_of_getElem? ht; simp at this; first | exact this | omega | (rcases this with h | h | h <;> simp [h]) | (rcases this with h | h | h | h <;> simp [h])
  rcases hm with rfl | rfl | rfl
  · exact (show Tryd.prog.wantsStandIn 24 = false by kernel_rfl)
  · exact (show Tryd.prog.wantsStandIn 9 = false by kernel_rfl)
  · exact (show Tryd.prog.wantsStandIn 3 = false by kernel_rfl)

/-- The card. -/
theorem card : Rows.TlvCodesCardSaid :=
  Claim7.holds_tied_plain_at .later [] _ _ _ _ said (fun _ h => by cases h) (by kernel_rfl) (fun _ h => by cases h) tlvCodes_row_tie rfl ⟨rfl, rfl⟩ (by kernel_rfl) rfl plain (by kernel_rfl)
end Go.Proofs.YthibodkemnkjeaaDoor.tcodes

namespace Go.Proofs.YthibodkemnkjeaaDoor
theorem tlvCodes_holds : Rows.TlvCodesCardSaid := tcodes.card
#print axioms tlvCodes_holds
end Go.Proofs.YthibodkemnkjeaaDoor
