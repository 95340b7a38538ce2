/-
  latinerlaw02.TlvBack returns true at every tree and two texts: a tree is decoded from its bytes, whatever stands ahead and behind; what is decoded is right. Conditions: the package-level variables hold what the program's text lays (the card ties them).
-/
import Derived.Test.YthibodkemnkjeaaDoorTBox
import Derived.Test.YthibodkemnkjeaaDoorTLaid
namespace Go.Proofs.YthibodkemnkjeaaDoor.tback
open Go.ChangeShapes Go.WideShapes Go.ChangeAt Go.ChangeMaps Go.RowKit Tv T Go.Shelf

theorem cut_any (s : ByteArray) (w : World) (hs : s.size ≤ maxLen) :
    Calls Tryd.prog 14 #[.string s] w fun e w' => (∃ d : ByteArray, e = .returned (.string d) ∧ d.size ≤ 4100) ∧ w' = w := by
  unfold maxLen at hs
  go_enter Tryd.func14, Tryd.ntmps14
  go_wp2
  go_ret
  exact ⟨⟨_, rfl, by rw [ByteArray.size_extract]; omega⟩, rfl⟩

/-- what Decode leaves, where its answer is not asked. -/
theorem dec_some {w V : World} {r : Except Int (Tr 13 × Nat)} {e : Ending} (h : DecPost w r e V) : Below w.heap.size w V ∧ ∃ t d a l c n E, e = .returned (.tuple #[.agg #[.int .i64 t, .string d, .slice a l c], .int .i64 n, .int .i64 E]) := by
  obtain ⟨hb, h⟩ := h
  refine ⟨hb, ?_⟩
  cases r with
  | error E => exact ⟨_, _, _, _, _, _, _, h⟩
  | ok r =>
    obtain ⟨T, nx⟩ := r
    obtain ⟨v, rfl, hN⟩ := h
    obtain ⟨t, d, a, l, c, rfl⟩ := hN.agg
    exact ⟨_, _, _, _, _, _, _, rfl⟩

set_option maxRecDepth 100000 in
set_option maxHeartbeats 2000000 in
theorem walk (v : Value) (X : Tr 13) (s t : ByteArray) (A : Ads) (aS aF : Addr) (w : World) (g : Gl A aS aF w) (hC : CutOf 13 w v X) (hs : s.size ≤ maxLen) (ht : t.size ≤ maxLen) :
    Calls Tryd.prog 4 #[v, .string s, .string t] w fun e w' => e = .returned (.bool true) ∧ Below w.heap.size w w' := by
  have HT := hide fun W => cut_any t W ht
  unfold maxLen at hs
  clear ht
  have G := hide fun w' (h : Below w.heap.size w w') => g.below h
  have HC := hide fun w' (h : Below w.heap.size w w') => hC.below h
  obtain ⟨d, a, len, cap, rfl, _, _, _, _, _⟩ := hC
  clear g
  go_enter Tryd.func4, Tryd.ntmps4
  go_wp2_with fail
  have hb0 : Below w.heap.size w (w.alloc (.cells #[.int .i64 (tag X), .string d, .slice a len cap] 24)) := (Below.refl _ _).alloc (Nat.le_refl _) _
  have hq0 := World.alloc_heap_new w (.cells #[.int .i64 (tag X), .string d, .slice a len cap] 24)
  refine (shown_any A aS aF _ ((unhide G) _ hb0)).mono ?_
  rintro e w1 ⟨rfl, hb1⟩
  have hB1 := hb0.trans (hb1.mono hb0.size)
  have hq1 := (hb1.block w.heap.size (by simp)).trans hq0
  obtain ⟨⟨e0, e1, e2⟩, _⟩ := cells3 hq1
  have HB1 := hide hB1
  have HQ1 := hide hq1
  clear hb0 hb1 hq0 hB1 hq1
  go_wp2_with fail
  refine (Cut_any X w1 _ ((unhide HC) _ (unhide HB1))).mono ?_
  rintro e w2 ⟨hb2, v2, rfl, hN2⟩
  obtain ⟨vt, vd, va, vl, vc, rfl⟩ := hN2.agg
  have hlt1 := (Array.getElem?_eq_some_iff.1 (unhide HQ1)).1
  have hq2 := (hb2.block w.heap.size hlt1).trans (unhide HQ1)
  obtain ⟨⟨f0, f1, f2⟩, r0, r1, r2⟩ := cells3 hq2
  have HB2 := hide ((unhide HB1).trans (hb2.mono (unhide HB1).size))
  have hXS := BX.mk' (B := w.heap.size + 1) (A := #[.int .i64 (tag X), .string d, .slice a len cap]) hq2 hN2 (fun k hk => by omega) (by omega)
  have HXS := hide hXS
  clear hb2 hq2 hN2 e0 e1 e2 hXS
  go_wp2_with fail
  have hbS := set3n (unhide HB2) (Nat.le_refl w.heap.size) (.int .i64 vt) (.string vd) (.slice va vl vc)
  have hXS := unhide HXS
  clear HXS HB2 HB1 HQ1 HC f0 f1 f2 r0 r1 r2 hlt1
  generalize ((w2.setCell ⟨w.heap.size, 0, none⟩ (.int .i64 vt)).setCell ⟨w.heap.size, 1, none⟩ (.string vd)).setCell ⟨w.heap.size, 2, none⟩ (.slice va vl vc) = wS at *
  have hd : (s.extract 0 (min (s.size : Int) 50).toNat).size ≤ 50 := by rw [ByteArray.size_extract]; omega
  clear hs
  generalize s.extract 0 (min (s.size : Int) 50).toNat = d1 at *
  refine ((unhide HT) _).mono ?_
  rintro e w3 ⟨⟨c, rfl, hc⟩, rfl⟩
  obtain ⟨⟨x0, x1, x2⟩, _⟩ := hXS.cells
  have HXS := hide hXS
  have HBS := hide hbS
  have k1 : (d1.size : Int) ≤ 50 := by omega
  have k2 : (c.size : Int) ≤ 4100 := by omega
  clear hXS hbS HT
  go_wp2_with fail
  refine (encode_any 13 X A aS aF _ _ _ ((unhide G) _ (unhide HBS)) (unhide HXS).n (by omega)).mono ?_
  rintro e w4 ⟨rfl, hb4⟩
  have HB4 := hide ((unhide HBS).trans (hb4.mono (unhide HBS).size))
  have hX4 := (unhide HXS).below hb4
  have HX4 := hide hX4
  have HZ := hide fun V (hb : Below w.heap.size w V) => decodeT_any c 0 A aS aF V ((unhide G) _ hb) (by omega)
  clear hX4 hb4 HXS HBS x0 x1 x2
  cases hr : right X
  · rw [encT_no hr]
    have z : (d1 ++ (⟨#[]⟩ : ByteArray) ++ c).size ≤ 9000 := by rw [ByteArray.size_append, ByteArray.size_append]; show d1.size + 0 + c.size ≤ 9000; omega
    have H1 := hide fun V (hb : Below w.heap.size w V) => decodeT_any (d1 ++ (⟨#[]⟩ : ByteArray) ++ c) (d1.size : Int) A aS aF V ((unhide G) _ hb) z
    clear z hd hc
    go_wp2_with fail
    refine ((unhide H1) _ (unhide HB4)).mono ?_
    intro e w5 h5
    obtain ⟨hb5, yt, yd, ya, yl, yc, yn, yE, rfl⟩ := dec_some h5
    have HB6 := hide (((unhide HB4).trans (hb5.mono (unhide HB4).size)).alloc ((unhide HB4).trans (hb5.mono (unhide HB4).size)).size (.cells #[.int .i64 yt, .string yd, .slice ya yl yc] 24))
    have HX6 := hide (((unhide HX4).below hb5).alloc (.cells #[.int .i64 yt, .string yd, .slice ya yl yc] 24))
    clear h5 hb5 HX4 HB4 H1
    cases hz : decT c.data.toList 0 with
    | error E =>
      have hE := dec_err hz
      have tE : (E == 0) = false := beq_eq_false_iff_ne.2 hE
      have tE2 : (E != 0) = true := by simpa using hE
      rw [hz] at HZ
      clear hz hE
      go_wp2_with fail
      refine ((unhide HZ) _ (unhide HB6)).mono ?_
      rintro e w7 ⟨hb7, rfl⟩
      have HB7 := hide (((unhide HB6).trans (hb7.mono (unhide HB6).size)).alloc ((unhide HB6).trans (hb7.mono (unhide HB6).size)).size (.cells #[.int .i64 0, .string ⟨#[]⟩, .slice none 0 0] 24))
      have hX7 := ((unhide HX6).below hb7).alloc (.cells #[.int .i64 0, .string ⟨#[]⟩, .slice none 0 0] 24)
      obtain ⟨⟨x0, x1, x2⟩, _⟩ := hX7.cells
      have HR := hide (right_any 13 X A aS aF _ _ _ ((unhide G) _ (unhide HB7)) hX7.n (by omega))
      rw [hr] at HR
      clear hb7 hX7 HX6 HZ hr
      go_wp2_with fail
      refine (unhide HR).mono ?_
      rintro e w8 ⟨rfl, hb8⟩
      have HB8 := hide ((unhide HB7).trans (hb8.mono (unhide HB7).size))
      clear hb8
      go_wp2
      go_ret
      exact ⟨rfl, unhide HB8⟩
    | ok r =>
      obtain ⟨Z, nz⟩ := r
      obtain ⟨rz, _, n2, n3⟩ := dec_right hz
      have e2 := enc_two 13 Z
      have m1 : (2 : Int) ≤ (nz : Int) := by omega
      have m2 : (nz : Int) ≤ (c.size : Int) := by have : c.data.toList.length = c.size := by { simp }; omega
      rw [hz] at HZ
      clear hz n2 n3 e2
      go_wp2_with fail
      refine ((unhide HZ) _ (unhide HB6)).mono ?_
      rintro e w7 ⟨hb7, v7, rfl, hN7⟩
      obtain ⟨zt, zd, za, zl, zc, rfl⟩ := hN7.agg
      have HB7 := hide (((unhide HB6).trans (hb7.mono (unhide HB6).size)).alloc ((unhide HB6).trans (hb7.mono (unhide HB6).size)).size (.cells #[.int .i64 zt, .string zd, .slice za zl zc] 24))
      have hX7 := ((unhide HX6).below hb7).alloc (.cells #[.int .i64 zt, .string zd, .slice za zl zc] 24)
      have hZ7 := BX.new hN7
      obtain ⟨⟨x0, x1, x2⟩, _⟩ := hX7.cells
      have HR := hide (right_any 13 X A aS aF _ _ _ ((unhide G) _ (unhide HB7)) hX7.n (by omega))
      have HZ7 := hide hZ7
      rw [hr] at HR
      clear hb7 hX7 HX6 HZ hr hZ7 hN7
      go_wp2_with fail
      refine (unhide HR).mono ?_
      rintro e w8 ⟨rfl, hb8⟩
      have HB8 := hide ((unhide HB7).trans (hb8.mono (unhide HB7).size))
      have hZ8 := (unhide HZ7).below hb8
      obtain ⟨⟨z0, z1, z2⟩, _⟩ := hZ8.cells
      have HR2 := hide (right_any 13 Z A aS aF _ _ _ ((unhide G) _ (unhide HB8)) hZ8.n (by omega))
      rw [rz] at HR2
      clear hb8 hZ8 HZ7 rz x0 x1 x2 HR
      go_wp2_with fail
      refine (unhide HR2).mono ?_
      rintro e w9 ⟨rfl, hb9⟩
      have HB9 := hide ((unhide HB8).trans (hb9.mono (unhide HB8).size))
      clear hb9
      go_wp2
      go_ret
      exact ⟨rfl, unhide HB9⟩
  · rw [encT_yes hr]
    have hlX := (right_iff.1 hr).2.2
    have dd := fun pre post => dec_enc X hr pre post
    have hE : (⟨(enc 13 X).toArray⟩ : ByteArray).data.toList = enc 13 X := by simp
    have hZ : (⟨(enc 13 X).toArray⟩ : ByteArray).size = (enc 13 X).length := by show (enc 13 X).toArray.size = _; simp
    generalize enc 13 X = ea at *
    generalize (⟨ea.toArray⟩ : ByteArray) = S at *
    have k3 : (S.size : Int) ≤ 4000 := by omega
    have z : (d1 ++ S ++ c).size ≤ 9000 := by rw [ByteArray.size_append, ByteArray.size_append]; omega
    have hD : decT (d1 ++ S ++ c).data.toList (d1.size : Int) = .ok (X, d1.size + S.size) := by
      have := dd d1.data.toList c.data.toList
      rw [ByteArray.data_append, Array.toList_append, ByteArray.data_append, Array.toList_append, hE, hZ]
      have hl : d1.data.toList.length = d1.size := by simp
      rwa [hl] at this
    have H1 := hide fun V (hb : Below w.heap.size w V) => decodeT_any (d1 ++ S ++ c) (d1.size : Int) A aS aF V ((unhide G) _ hb) z
    rw [hD] at H1
    have SX := hide ((same_iff 13 X X).2 rfl)
    clear dd hE hZ hD z hd hc hlX
    go_wp2_with fail
    refine ((unhide H1) _ (unhide HB4)).mono ?_
    rintro e w5 ⟨hb5, v5, rfl, hN5⟩
    obtain ⟨yt, yd, ya, yl, yc, rfl⟩ := hN5.agg
    have HB5 := hide (((unhide HB4).trans (hb5.mono (unhide HB4).size)).alloc ((unhide HB4).trans (hb5.mono (unhide HB4).size)).size (.cells #[.int .i64 yt, .string yd, .slice ya yl yc] 24))
    have hX5 := ((unhide HX4).below hb5).alloc (.cells #[.int .i64 yt, .string yd, .slice ya yl yc] 24)
    have hY5 := BX.new hN5
    obtain ⟨⟨x0, x1, x2⟩, _⟩ := hX5.cells
    have HX5 := hide hX5
    have HY5 := hide hY5
    clear hb5 HX4 HB4 H1 hN5 hX5 hY5
    go_wp2_with fail
    have H2 := same_any 13 X X _ _ _ _ _ (unhide HX5).n (unhide HY5).n
    rw [unhide SX] at H2
    refine H2.mono ?_
    rintro e w6 ⟨rfl, hb6⟩
    have HB6 := hide ((unhide HB5).trans (hb6.mono (unhide HB5).size))
    have HX6 := hide ((unhide HX5).below hb6)
    clear hb6 H2 HX5 HY5 HB5 x0 x1 x2
    cases hz : decT c.data.toList 0 with
    | error E =>
      have hE := dec_err hz
      have tE : (E == 0) = false := beq_eq_false_iff_ne.2 hE
      have tE2 : (E != 0) = true := by simpa using hE
      rw [hz] at HZ
      clear hz hE
      go_wp2_with fail
      refine ((unhide HZ) _ (unhide HB6)).mono ?_
      rintro e w7 ⟨hb7, rfl⟩
      have HB7 := hide (((unhide HB6).trans (hb7.mono (unhide HB6).size)).alloc ((unhide HB6).trans (hb7.mono (unhide HB6).size)).size (.cells #[.int .i64 0, .string ⟨#[]⟩, .slice none 0 0] 24))
      have hX7 := ((unhide HX6).below hb7).alloc (.cells #[.int .i64 0, .string ⟨#[]⟩, .slice none 0 0] 24)
      obtain ⟨⟨x0, x1, x2⟩, _⟩ := hX7.cells
      have HR := hide (right_any 13 X A aS aF _ _ _ ((unhide G) _ (unhide HB7)) hX7.n (by omega))
      rw [hr] at HR
      clear hb7 hX7 HX6 HZ hr
      go_wp2_with fail
      refine (unhide HR).mono ?_
      rintro e w8 ⟨rfl, hb8⟩
      have HB8 := hide ((unhide HB7).trans (hb8.mono (unhide HB7).size))
      clear hb8
      go_wp2
      go_ret
      exact ⟨rfl, unhide HB8⟩
    | ok r =>
      obtain ⟨Z, nz⟩ := r
      obtain ⟨rz, _, n2, n3⟩ := dec_right hz
      have e2 := enc_two 13 Z
      have m1 : (2 : Int) ≤ (nz : Int) := by omega
      have m2 : (nz : Int) ≤ (c.size : Int) := by have : c.data.toList.length = c.size := by { simp }; omega
      rw [hz] at HZ
      clear hz n2 n3 e2
      go_wp2_with fail
      refine ((unhide HZ) _ (unhide HB6)).mono ?_
      rintro e w7 ⟨hb7, v7, rfl, hN7⟩
      obtain ⟨zt, zd, za, zl, zc, rfl⟩ := hN7.agg
      have HB7 := hide (((unhide HB6).trans (hb7.mono (unhide HB6).size)).alloc ((unhide HB6).trans (hb7.mono (unhide HB6).size)).size (.cells #[.int .i64 zt, .string zd, .slice za zl zc] 24))
      have hX7 := ((unhide HX6).below hb7).alloc (.cells #[.int .i64 zt, .string zd, .slice za zl zc] 24)
      have hZ7 := BX.new hN7
      obtain ⟨⟨x0, x1, x2⟩, _⟩ := hX7.cells
      have HR := hide (right_any 13 X A aS aF _ _ _ ((unhide G) _ (unhide HB7)) hX7.n (by omega))
      have HZ7 := hide hZ7
      rw [hr] at HR
      clear hb7 hX7 HX6 HZ hr hZ7 hN7
      go_wp2_with fail
      refine (unhide HR).mono ?_
      rintro e w8 ⟨rfl, hb8⟩
      have HB8 := hide ((unhide HB7).trans (hb8.mono (unhide HB7).size))
      have hZ8 := (unhide HZ7).below hb8
      obtain ⟨⟨z0, z1, z2⟩, _⟩ := hZ8.cells
      have HR2 := hide (right_any 13 Z A aS aF _ _ _ ((unhide G) _ (unhide HB8)) hZ8.n (by omega))
      rw [rz] at HR2
      clear hb8 hZ8 HZ7 rz x0 x1 x2 HR
      go_wp2_with fail
      refine (unhide HR2).mono ?_
      rintro e w9 ⟨rfl, hb9⟩
      have HB9 := hide ((unhide HB8).trans (hb9.mono (unhide HB8).size))
      clear hb9
      go_wp2
      go_ret
      exact ⟨rfl, unhide HB9⟩

set_option maxRecDepth 100000 in
/-- What the walk gives, for every argument. -/
theorem contract (H : Type) (enc : TypeId × Value → H) (W : World) (base : Nat) (args : Array Value) (ds gs : List (DataW H)) (before : List MemPlace)
    (hval : ∀ (j : Nat) t v, Tryd.f4.params[j]? = some t → args[j]? = some v → Value.okWide Tryd.prog W .any base t v)
    (hW : DataW.Whole enc Tryd.prog Tryd.f4.params.toList Rows.tlvBackSpec.vars false W args.toList ds gs before) (hL : laidMetH Tryd.prog Rows.tlvBackRow.laid W) :
    Calls Tryd.prog 4 args W fun e W' => ∃ v, e = .returned v ∧ Rows.tlvBackSpec.post enc Tryd.prog Tryd.f4 false true false false W args v W' := by
  obtain ⟨A, aS, aF, g⟩ := glob_of_laid hL
  have hW' := hW
  obtain ⟨p, q, hA0, hV, rfl, hfz, hnd⟩ := hW
  have hA : DataW.TrodAll enc Tryd.prog W 0 (fun _ => true) true Tryd.f4.params.toList args.toList ds p := hA0
  rw [Tryd.params4] at hA hval
  obtain ⟨v0, vs0, d0, ds0, p0, q0, hargs0, rfl, rfl, h0, r0⟩ := trodAll_cons hA
  obtain ⟨v1, vs1, d1, ds1, p1, q1, hargs1, rfl, rfl, h1, r1⟩ := trodAll_cons r0
  obtain ⟨v2, vs2, d2, ds2, p2, q2, hargs2, rfl, rfl, h2, r2⟩ := trodAll_cons r1
  obtain ⟨rfl, rfl, rfl⟩ := trodAll_nil r2
  obtain rfl : args = #[v0, v1, v2] := by cases args; simp_all
  obtain ⟨rfl, rfl⟩ := trodVars_none hV
  obtain ⟨cs0, rfl, _⟩ := okWide_struct Tryd.underlying24 (hval 0 24 v0 rfl rfl)
  have hk0 := h0
  obtain ⟨fu0, hf0⟩ := h0
  obtain ⟨t0, b0, a0, l0, c0, ec0, T0, hC0⟩ := open_cut 12 fu0 _ _ hf0
  have hlt0 := DataW.trod_lt _ _ _ _ hf0
  obtain rfl : cs0 = #[.int .i64 t0, .string b0, .slice a0 l0 c0] := Array.ext' ec0
  obtain ⟨x1, rfl, rfl, rfl, wf1⟩ := open_string Tryd.underlying9 (hval 1 9 v1 rfl rfl) h1
  obtain ⟨x2, rfl, rfl, rfl, wf2⟩ := open_string Tryd.underlying9 (hval 2 9 v2 rfl rfl) h2
  clear hA0
  simp only [List.append_nil] at hW'
  refine (walk _ T0 x1 x2 A aS aF W g hC0 wf1 wf2).mono fun e W' ⟨he, hg⟩ => ?_
  subst he
  refine ⟨_, rfl, _, _, _, [], (p0 ++ ([] ++ ([] ++ []))), [], hW', ?_, ?_, ?_, hg.frame _, fun h => by cases h⟩
  · exact trodAll_cons_mk (shut_bool Tryd.underlying4 _) trodAll_mk0
  · exact trodAll_cons_mk (Below.trod (by kernel_rfl) (by kernel_rfl) (of_decide_eq_true (by kernel_rfl)) hk0 hg hlt0) (trodAll_cons_mk (shut_string Tryd.underlying9 wf1) (trodAll_cons_mk (shut_string Tryd.underlying9 wf2) (trodAll_mk0)))
  · rfl

theorem reads (os : Os) {H : Type} (enc : TypeId × Value → H) : ∃ places, DataW.whole enc Tryd.prog (({ World.holding Tryd.prog os ⟨#[.cells #[.string sentS0] 177, .cells #[.string sentS1] 177, .cells #[.string sentS2] 177, .cells #[.string sentS3] 177, .cells #[.string sentS4] 177, .cells #[.string sentS5] 177, .cells #[.string sentS6] 177, .cells #[.string sentS7] 177], #[], []⟩ with heap := (((((((((World.holding Tryd.prog os ⟨#[.cells #[.string sentS0] 177, .cells #[.string sentS1] 177, .cells #[.string sentS2] 177, .cells #[.string sentS3] 177, .cells #[.string sentS4] 177, .cells #[.string sentS5] 177, .cells #[.string sentS6] 177, .cells #[.string sentS7] 177], #[], []⟩).heap.modify 9 fun | .cells _ t frozen => .cells #[.iface 158 (.pointer (some ⟨(World.holding Tryd.prog default ⟨#[], #[], []⟩).heap.size + 0, 0, none⟩))] t frozen | o => o).modify 6 fun | .cells _ t frozen => .cells #[.iface 158 (.pointer (some ⟨(World.holding Tryd.prog default ⟨#[], #[], []⟩).heap.size + 1, 0, none⟩))] t frozen | o => o).modify 4 fun | .cells _ t frozen => .cells #[.iface 158 (.pointer (some ⟨(World.holding Tryd.prog default ⟨#[], #[], []⟩).heap.size + 2, 0, none⟩))] t frozen | o => o).modify 5 fun | .cells _ t frozen => .cells #[.iface 158 (.pointer (some ⟨(World.holding Tryd.prog default ⟨#[], #[], []⟩).heap.size + 3, 0, none⟩))] t frozen | o => o).modify 0 fun | .cells _ t frozen => .cells #[.iface 158 (.pointer (some ⟨(World.holding Tryd.prog default ⟨#[], #[], []⟩).heap.size + 4, 0, none⟩))] t frozen | o => o).modify 1 fun | .cells _ t frozen => .cells #[.iface 158 (.pointer (some ⟨(World.holding Tryd.prog default ⟨#[], #[], []⟩).heap.size + 5, 0, none⟩))] t frozen | o => o).modify 2 fun | .cells _ t frozen => .cells #[.iface 158 (.pointer (some ⟨(World.holding Tryd.prog default ⟨#[], #[], []⟩).heap.size + 6, 0, none⟩))] t frozen | o => o).modify 3 fun | .cells _ t frozen => .cells #[.iface 158 (.pointer (some ⟨(World.holding Tryd.prog default ⟨#[], #[], []⟩).heap.size + 7, 0, none⟩))] t frozen | o => o).modify 7 fun | .cells _ t frozen => .cells #[.iface 115 (.agg #[.pointer (some ⟨10, 48, none⟩)])] t frozen | o => o } : World).forCall (fun _ _ => 0) ⟨#[], #[.agg #[.int .i64 0, .string ⟨#[]⟩, .slice none 0 0], .string ⟨#[]⟩, .string ⟨#[]⟩], []⟩).memory Tryd.f4.params.toList Rows.tlvBackSpec.vars false #[Value.agg #[.int .i64 0, .string ⟨#[]⟩, .slice none 0 0], Value.string ⟨#[]⟩, Value.string ⟨#[]⟩].toList 8 = some ([.agg [.lit (.int .i64 0), .lit (.string []), .nil], .lit (.string []), .lit (.string [])], [], places) :=
  ⟨[], by kernel_rfl⟩

set_option maxRecDepth 100000 in
theorem lifted (os : Os) (started : os.Started) (H : Type) (enc : TypeId × Value → H) (F : Stop.Interp) :
    ReturnsInHanded {} Tryd.checked os 4 .any ((OpenSpec.ofChange Rows.tlvBackSpec).preRow enc Tryd.prog Tryd.f4 Rows.tlvBackRow.domain false Rows.tlvBackRow.laid) (((OpenSpec.ofChange Rows.tlvBackSpec).at F).post enc Tryd.prog Tryd.f4 false true false false) := by
  obtain ⟨places, hx⟩ := reads os enc
  refine returnsInHanded_of_row (C := Tryd.checked) (s := OpenSpec.ofChange Rows.tlvBackSpec) own started (by kernel_rfl) Tryd.func4
    (witness_row_at (enc := enc) (C := Tryd.checked) false ({ World.holding Tryd.prog os ⟨#[.cells #[.string sentS0] 177, .cells #[.string sentS1] 177, .cells #[.string sentS2] 177, .cells #[.string sentS3] 177, .cells #[.string sentS4] 177, .cells #[.string sentS5] 177, .cells #[.string sentS6] 177, .cells #[.string sentS7] 177], #[], []⟩ with heap := (((((((((World.holding Tryd.prog os ⟨#[.cells #[.string sentS0] 177, .cells #[.string sentS1] 177, .cells #[.string sentS2] 177, .cells #[.string sentS3] 177, .cells #[.string sentS4] 177, .cells #[.string sentS5] 177, .cells #[.string sentS6] 177, .cells #[.string sentS7] 177], #[], []⟩).heap.modify 9 fun | .cells _ t frozen => .cells #[.iface 158 (.pointer (some ⟨(World.holding Tryd.prog default ⟨#[], #[], []⟩).heap.size + 0, 0, none⟩))] t frozen | o => o).modify 6 fun | .cells _ t frozen => .cells #[.iface 158 (.pointer (some ⟨(World.holding Tryd.prog default ⟨#[], #[], []⟩).heap.size + 1, 0, none⟩))] t frozen | o => o).modify 4 fun | .cells _ t frozen => .cells #[.iface 158 (.pointer (some ⟨(World.holding Tryd.prog default ⟨#[], #[], []⟩).heap.size + 2, 0, none⟩))] t frozen | o => o).modify 5 fun | .cells _ t frozen => .cells #[.iface 158 (.pointer (some ⟨(World.holding Tryd.prog default ⟨#[], #[], []⟩).heap.size + 3, 0, none⟩))] t frozen | o => o).modify 0 fun | .cells _ t frozen => .cells #[.iface 158 (.pointer (some ⟨(World.holding Tryd.prog default ⟨#[], #[], []⟩).heap.size + 4, 0, none⟩))] t frozen | o => o).modify 1 fun | .cells _ t frozen => .cells #[.iface 158 (.pointer (some ⟨(World.holding Tryd.prog default ⟨#[], #[], []⟩).heap.size + 5, 0, none⟩))] t frozen | o => o).modify 2 fun | .cells _ t frozen => .cells #[.iface 158 (.pointer (some ⟨(World.holding Tryd.prog default ⟨#[], #[], []⟩).heap.size + 6, 0, none⟩))] t frozen | o => o).modify 3 fun | .cells _ t frozen => .cells #[.iface 158 (.pointer (some ⟨(World.holding Tryd.prog default ⟨#[], #[], []⟩).heap.size + 7, 0, none⟩))] t frozen | o => o).modify 7 fun | .cells _ t frozen => .cells #[.iface 115 (.agg #[.pointer (some ⟨10, 48, none⟩)])] t frozen | o => o } : World) #[.agg #[.int .i64 0, .string ⟨#[]⟩, .slice none 0 0], .string ⟨#[]⟩, .string ⟨#[]⟩] rfl (by kernel_rfl) (by kernel_rfl) (by kernel_rfl)
      (OpenSpec.preRow_of_cond 8 hx (by kernel_rfl) (fun k hk => by cases hk) (by kernel_rfl) (laid_met os _))) ?_
  intro W base args ds gs before hval hW _ _ _ hL _ _
  exact contract H enc W base args ds gs before hval hW hL

theorem said : Rows.TlvBackSaid :=
  OpenClaim.holds_of_cond 4 Tryd.f4 rfl rfl rfl rfl rfl rfl rfl ⟨rfl, rfl, rfl, rfl, rfl⟩ rfl rfl rfl rfl rfl (by kernel_rfl) Tryd.func4 (by kernel_rfl)
    (of_decide_eq_true (by kernel_rfl)) (by unfold Func.isWrapper; first | (rw [if_pos (by decide +kernel)]; kernel_rfl) | (rw [if_neg (by decide +kernel)]; exact ⟨rfl, rfl⟩))
    (fun os started H enc _ F => by rw [OpenClaim.pre_eq_preRow]; exact lifted os started H enc F)

theorem plain (f : FuncId) (fn : Func) (hf : Tryd.pinned.checked.prog.funcNamed "latiner/latinerlaw02.TlvBack" = some f) (hfn : Tryd.pinned.checked.prog.funcs[f]? = some fn) :
    true = Tryd.pinned.checked.prog.looks [] ∧ ∀ (j : Nat) t, fn.params[j]? = some t → Tryd.pinned.checked.prog.wantsStandIn t = false := by
  obtain rfl : f = 4 := Option.some.inj ((show Tryd.prog.funcNamed "latiner/latinerlaw02.TlvBack" = some 4 by kernel_rfl).symm.trans hf) |>.symm
  obtain rfl : fn = Tryd.f4 := (Option.some.inj (Tryd.func4.symm.trans hfn)).symm
  refine ⟨by kernel_rfl, fun j t ht => ?_⟩
  rw [Tryd.params4] at ht
  have hm : t = 24 ∨ t = 9 := by have := Array.mem_of_getElem? ht; simp at this; first | exact this | omega | (rcases this with h | h | h <;> simp [h]) | (rcases this with h | h | h | h <;> simp [h])
  rcases hm with rfl | rfl
  · exact (show Tryd.prog.wantsStandIn 24 = false by kernel_rfl)
  · exact (show Tryd.prog.wantsStandIn 9 = false by kernel_rfl)

/-- The card. -/
theorem card : Rows.TlvBackCardSaid :=
  Claim7.holds_tied_plain_at .later [] _ _ _ _ said (fun _ h => by cases h) (by kernel_rfl) (fun _ h => by cases h) tlvBack_row_tie rfl ⟨rfl, rfl⟩ (by kernel_rfl) rfl plain (by kernel_rfl)
end Go.Proofs.YthibodkemnkjeaaDoor.tback

namespace Go.Proofs.YthibodkemnkjeaaDoor
theorem tlvBack_holds : Rows.TlvBackCardSaid := tback.card
#print axioms tlvBack_holds
end Go.Proofs.YthibodkemnkjeaaDoor
