/-
  latinerlaw02.TlvParts returns true at every tree: the bytes of a tree are its tag, the length of its body, and that; what is in it is right. Conditions: the package-level variables hold what the program's text lays (the card ties them).
-/
import Derived.Test.YthibodkemnkjeaaDoorTBox
import Derived.Test.YthibodkemnkjeaaDoorTLaid
namespace Tv
theorem shape_more : ∀ (n k : Nat) (X : Tr n), shape n k X = true → shape n (k + 1) X = true
  | 0, _, X, _ => Empty.elim X
  | n + 1, k, X, h => by
    obtain ⟨h1, h2, h3⟩ := shape_succ h
    unfold shape
    simp only [Bool.and_eq_true, decide_eq_true_eq, List.all_eq_true]
    refine ⟨⟨by omega, h2⟩, fun x hx => ?_⟩
    have := shape_more n (k - 1) x (h3 x hx)
    rwa [show k - 1 + 1 = k + 1 - 1 by omega] at this
theorem sum_ge {α : Type} (f : α → Nat) : ∀ (xs : List α) (x : α), x ∈ xs → f x ≤ (xs.map f).sum
  | [], x, h => by cases h
  | y :: xs, x, h => by
    rcases List.mem_cons.1 h with rfl | h
    · simp
    · have := sum_ge f xs x h; simp; omega
theorem kid_right {X : Tr 13} (h : right X = true) (x : Tr 12) (hx : x ∈ kids X) : right x = true := by
  obtain ⟨h1, h2, h3⟩ := right_iff.1 h
  have hs : shape 12 11 x = true := (shape_succ h1).2.2 x hx
  have hc : count 13 X = 1 + ((kids X).map (count 12)).sum := rfl
  have hc2 := sum_ge (count 12) (kids X) x hx
  have hl : (enc 13 X).length = 1 + (Sz.least (body X).length).length + (body X).length := enc_len X
  have hk := kid_body X x hx
  exact right_iff.2 ⟨shape_more 12 11 x hs, by omega, by omega⟩
/-- the body's bytes, so many of its trees. -/
def bod (X : Tr 13) (i : Nat) : List UInt8 := (dat X).data.toList ++ (((kids X).take i).map (enc 12)).flatten
theorem bod_zero (X : Tr 13) : bod X 0 = (dat X).data.toList := by simp [bod]
theorem bod_succ (X : Tr 13) (i : Nat) (h : i < (kids X).length) : bod X (i + 1) = bod X i ++ enc 12 (kids X)[i] := by
  unfold bod
  rw [List.take_succ_eq_append_getElem h, List.map_append, List.flatten_append, List.append_assoc]
  congr 2
  exact List.append_nil _
theorem bod_all (X : Tr 13) (i : Nat) (h : (kids X).length ≤ i) : bod X i = body X := by
  unfold bod body
  rw [List.take_of_length_le h]
theorem bod_le (X : Tr 13) (i : Nat) : (bod X i).length ≤ (body X).length := by
  by_cases h : (kids X).length ≤ i
  · rw [bod_all X i h]; exact Nat.le_refl _
  · unfold bod body
    simp only [List.length_append]
    have e : (kids X).take i ++ (kids X).drop i = kids X := List.take_append_drop i _
    have : ((kids X).map (enc 12)).flatten.length = (((kids X).take i).map (enc 12)).flatten.length + (((kids X).drop i).map (enc 12)).flatten.length := by
      rw [← List.length_append, ← List.flatten_append, ← List.map_append, e]
    omega
end Tv
namespace Go.Proofs.YthibodkemnkjeaaDoor.tparts
open Go.ChangeShapes Go.WideShapes Go.ChangeAt Go.ChangeMaps Go.RowKit Tv T Go.Shelf

theorem conv1 (W : World) (x : Int) : (convert 41 9 (.slice (some ⟨W.heap.size, 0, none⟩) 1 1)).run Tryd.prog (W.alloc (.cells #[.int .u8 x] 5)) = .ok (.string ⟨#[UInt8.ofNat x.toNat]⟩) (W.alloc (.cells #[.int .u8 x] 5)) :=
  run_convert_bytes_arg (W.alloc (.cells #[.int .u8 x] 5)) 41 _ Tryd.underlying41 Tryd.underlying5 W.heap.size 0 1 1 [x] rfl (fun i hi => by
    obtain rfl : i = 0 := by omega
    simp) 9 Tryd.underlying9

set_option maxRecDepth 100000 in
set_option maxHeartbeats 2000000 in
theorem walk (v : Value) (X : Tr 13) (A : Ads) (aS aF : Addr) (w : World) (g : Gl A aS aF w) (hC : CutOf 13 w v X) :
    Calls Tryd.prog 6 #[v] w fun e w' => e = .returned (.bool true) ∧ Below w.heap.size w w' := by
  have G := hide fun w' (h : Below w.heap.size w w') => g.below h
  have HC := hide fun w' (h : Below w.heap.size w w') => hC.below h
  obtain ⟨d, a, len, cap, rfl, g1, g2, g3, g4, g5⟩ := hC
  clear g1 g2 g3 g4 g5
  clear g
  go_enter Tryd.func6, Tryd.ntmps6
  go_wp2_with fail
  have hb0 : Below w.heap.size w (w.alloc (.cells #[.int .i64 (tag X), .string d, .slice a len cap] 24)) := (Below.refl _ _).alloc (Nat.le_refl _) _
  have hq0 := World.alloc_heap_new w (.cells #[.int .i64 (tag X), .string d, .slice a len cap] 24)
  refine (shown_any A aS aF _ ((unhide G) _ hb0)).mono ?_
  rintro e w1 ⟨rfl, hb1⟩
  have hB1 := hb0.trans (hb1.mono hb0.size)
  have hq1 := (hb1.block w.heap.size (by simp)).trans hq0
  obtain ⟨⟨e0, e1, e2⟩, _⟩ := cells3 hq1
  have HB1 := hide hB1
  have HQ1 := hide hq1
  clear hb0 hb1 hq0 hB1 hq1
  go_wp2_with fail
  refine (Cut_any X w1 _ ((unhide HC) _ (unhide HB1))).mono ?_
  rintro e w2 ⟨hb2, v2, rfl, hN2⟩
  obtain ⟨vt, vd, va, vl, vc, rfl⟩ := hN2.agg
  have hlt1 := (Array.getElem?_eq_some_iff.1 (unhide HQ1)).1
  have hq2 := (hb2.block w.heap.size hlt1).trans (unhide HQ1)
  obtain ⟨⟨f0, f1, f2⟩, r0, r1, r2⟩ := cells3 hq2
  have HB2 := hide ((unhide HB1).trans (hb2.mono (unhide HB1).size))
  have hXS := BX.mk' (B := w.heap.size + 1) (A := #[.int .i64 (tag X), .string d, .slice a len cap]) hq2 hN2 (fun k hk => by omega) (by omega)
  have HXS := hide hXS
  clear hb2 hq2 hN2 e0 e1 e2 hXS
  go_wp2_with fail
  have hbS := set3n (unhide HB2) (Nat.le_refl w.heap.size) (.int .i64 vt) (.string vd) (.slice va vl vc)
  have hXS := unhide HXS
  clear HXS HB2 HB1 HQ1 HC f0 f1 f2 r0 r1 r2 hlt1
  generalize ((w2.setCell ⟨w.heap.size, 0, none⟩ (.int .i64 vt)).setCell ⟨w.heap.size, 1, none⟩ (.string vd)).setCell ⟨w.heap.size, 2, none⟩ (.slice va vl vc) = wS at *
  refine (encode_any 13 X A aS aF wS _ _ ((unhide G) _ hbS) hXS.n (by omega)).mono ?_
  rintro e w3 ⟨rfl, hb3⟩
  have HB3 := hide (hbS.trans (hb3.mono hbS.size))
  have hX3 := hXS.below hb3
  clear hXS hb3 hbS
  cases hr : right X
  · rw [encT_no hr]
    clear hr hX3
    go_wp2
    go_ret
    exact ⟨rfl, unhide HB3⟩
  · rw [encT_yes hr]
    have hl4 := (right_iff.1 hr).2.2
    have hl : (enc 13 X).length = 1 + (Sz.least (body X).length).length + (body X).length := enc_len X
    have hf := (fit_iff _ _ _).1 (shape_succ (right_iff.1 hr).1).2.1
    have hKR := hide fun x hx => kid_right hr x hx
    obtain ⟨gg, off, cap', a', hv, hd, hk, hks⟩ := kidsAt hX3.n
    injection hv with hv
    have hv' := congrArg Array.toList hv
    simp only [List.cons.injEq, Value.int.injEq, Value.string.injEq, Value.slice.injEq, true_and, and_true] at hv'
    obtain ⟨rfl, rfl, rfl, rfl, rfl⟩ := hv'
    have HX3 := hide hX3
    have hle := fun i => bod_le X i
    have hk' : ((kids X).length : Int) ≤ 4000 := by omega
    obtain ⟨⟨x0, x1, x2⟩, _⟩ := hX3.cells
    clear hX3 hv
    have hb0 : (⟨(bod X 0).toArray⟩ : ByteArray) = dat X := bytes_inj (by rw [bod_zero])
    have hsz : ∀ i, (⟨(bod X i).toArray⟩ : ByteArray).size = (bod X i).length := fun i => by show (bod X i).toArray.size = _; simp
    have HSZ := hide hsz
    have hE : (⟨(enc 13 X).toArray⟩ : ByteArray).size = (enc 13 X).length := by show (enc 13 X).toArray.size = _; simp
    have HE := hide (show (⟨(enc 13 X).toArray⟩ : ByteArray).toList = UInt8.ofNat (tag X).toNat :: (Sz.least (body X).length ++ body X) by rw [ByteArray.toList_eq]; simp only [enc_succ (n := 12) X])
    have k4 : ((⟨(enc 13 X).toArray⟩ : ByteArray).size : Int) ≤ 4000 := by omega
    have hbl : (body X).length ≤ 4000 := by omega
    have HLE := hide hle
    have Hl := hide hl
    have HF := hide hf
    generalize (⟨(enc 13 X).toArray⟩ : ByteArray) = S at *
    clear hl4 hl hsz hle hE hf hr
    go_wp2
    go_loopw [6, 7] (fun x y wr => ∃ i : Nat, i ≤ (kids X).length ∧ x = .string ⟨(bod X i).toArray⟩ ∧ y = .int .i64 i ∧ Below w.heap.size w wr ∧ BX (w.heap.size + 1) wr w.heap.size (tag X) (dat X) va (kids X).length vc X) (fun _ y _ => (kids X).length - (intOf y).toNat)
    case atStart => exact ⟨0, Nat.zero_le _, by rw [hb0], rfl, unhide HB3, unhide HX3⟩
    case round =>
      obtain ⟨i, hi, rfl, rfl, hb, hX⟩ := hrel
      have s1 := (unhide HSZ) i
      have s1' := (unhide HLE) i
      obtain ⟨⟨q0, q1, q2⟩, _⟩ := hX.cells
      have HX := hide hX
      by_cases hlt : i < (kids X).length
      · have ha : va = some ⟨gg, off, none⟩ := hks.resolve_right (fun e => by rw [e] at hlt; cases hlt)
        obtain ⟨t, d', a', len', cap', c0, c1, c2, hNi⟩ := kidAt hX.n (Below.refl _ _) hlt rfl ha
        have hkr := (unhide hKR) (kids X)[i] (List.getElem_mem hlt)
        have H := encode_any 12 (kids X)[i] A aS aF wr _ _ ((unhide G) _ hb) hNi (by omega)
        rw [encT_yes hkr] at H
        have s2 : (⟨(enc 12 (kids X)[i]).toArray⟩ : ByteArray).size = (enc 12 (kids X)[i]).length := by show (enc 12 (kids X)[i]).toArray.size = _; simp
        have s3 := bod_succ X i hlt
        have s4 := (unhide HLE) (i + 1)
        have s5 : (⟨(bod X i).toArray⟩ : ByteArray) ++ ⟨(enc 12 (kids X)[i]).toArray⟩ = ⟨(bod X (i + 1)).toArray⟩ := bytes_inj (by rw [ByteArray.data_append, Array.toList_append, s3])
        have s6 : (bod X (i + 1)).length = (bod X i).length + (enc 12 (kids X)[i]).length := by rw [s3, List.length_append]
        have z1 : ((⟨(bod X i).toArray⟩ : ByteArray).size : Int) ≤ 4000 := by omega
        have z2 : ((⟨(enc 12 (kids X)[i]).toArray⟩ : ByteArray).size : Int) ≤ 4000 := by omega
        have H5 := hide s5
        have HBl := hide hb
        have hlt' : (i : Int) < (kids X).length := by omega
        generalize (⟨(bod X i).toArray⟩ : ByteArray) = P at *
        generalize (⟨(enc 12 (kids X)[i]).toArray⟩ : ByteArray) = Q at *
        subst ha
        clear s1 s1' s2 s3 s4 s5 s6 hNi hkr hX hb hks
        go_wp2_with fail
        refine H.mono ?_
        rintro e w4 ⟨rfl, hb4⟩
        have HB4 := hide hb4
        clear hb4 H
        go_wp2
        go_roundw
        case rel => exact ⟨i + 1, by omega, by rw [unhide H5], by simp, (unhide HBl).trans ((unhide HB4).mono (unhide HBl).size), (unhide HX).below (unhide HB4)⟩
        case measure => simp [intOf]; omega
      · have hge : ¬ (i : Int) < (kids X).length := by omega
        have hall := bod_all X i (by omega)
        rw [hall] at s1 s1'
        rw [hall]
        have H := encode_ok ((⟨(body X).toArray⟩ : ByteArray).size : Int) wr (by omega) (by omega)
        have hP : (⟨(body X).toArray⟩ : ByteArray).data.toList = body X := by simp
        have hL : (lst (((⟨(body X).toArray⟩ : ByteArray).size : Int)).toNat).data.toList = Sz.least (body X).length := by rw [Int.toNat_natCast, s1]; simp [lst]
        have hLz : (lst (((⟨(body X).toArray⟩ : ByteArray).size : Int)).toNat).size ≤ 5 := by
          have := congrArg List.length hL
          have h5 := least_len (body X).length
          simp only [Array.length_toList] at this
          show (lst _).data.size ≤ 5
          omega
        have hPz : ((⟨(body X).toArray⟩ : ByteArray).size : Int) ≤ 4000 := by omega
        generalize (lst (((⟨(body X).toArray⟩ : ByteArray).size : Int)).toNat) = L at *
        generalize (⟨(body X).toArray⟩ : ByteArray) = P at *
        have heq : (S.toList == ((⟨#[UInt8.ofNat (tag X).toNat]⟩ : ByteArray) ++ L ++ P).toList) = true := by
          rw [unhide HE, ByteArray.toList_eq, ByteArray.data_append, Array.toList_append, ByteArray.data_append, Array.toList_append, hL, hP]
          simp
        have t0 : 0 ≤ tag X := (unhide HF).1
        have t1 : tag X ≤ 255 := (unhide HF).2.1
        have hLz' : (L.size : Int) ≤ 5 := by omega
        have hcv := conv1
        have HBl := hide hb
        clear hP hL hLz s1 s1' hX hb hks hall
        go_wp2_with fail
        refine H.mono ?_
        rintro e w4 ⟨rfl, hb4⟩
        obtain ⟨⟨q0, q1, q2⟩, _⟩ := ((unhide HX).below hb4).cells
        have HB4 := hide ((unhide HBl).trans (hb4.mono (unhide HBl).size))
        clear hb4 H
        go_wp2
        go_ret
        exact ⟨rfl, (unhide HB4).alloc (unhide HB4).size _⟩

set_option maxRecDepth 100000 in
/-- What the walk gives, for every argument. -/
theorem contract (H : Type) (enc : TypeId × Value → H) (W : World) (base : Nat) (args : Array Value) (ds gs : List (DataW H)) (before : List MemPlace)
    (hval : ∀ (j : Nat) t v, Tryd.f6.params[j]? = some t → args[j]? = some v → Value.okWide Tryd.prog W .any base t v)
    (hW : DataW.Whole enc Tryd.prog Tryd.f6.params.toList Rows.tlvPartsSpec.vars false W args.toList ds gs before) (hL : laidMetH Tryd.prog Rows.tlvPartsRow.laid W) :
    Calls Tryd.prog 6 args W fun e W' => ∃ v, e = .returned v ∧ Rows.tlvPartsSpec.post enc Tryd.prog Tryd.f6 false true false false W args v W' := by
  obtain ⟨A, aS, aF, g⟩ := glob_of_laid hL
  have hW' := hW
  obtain ⟨p, q, hA0, hV, rfl, hfz, hnd⟩ := hW
  have hA : DataW.TrodAll enc Tryd.prog W 0 (fun _ => true) true Tryd.f6.params.toList args.toList ds p := hA0
  rw [Tryd.params6] at hA hval
  obtain ⟨v0, vs0, d0, ds0, p0, q0, hargs0, rfl, rfl, h0, r0⟩ := trodAll_cons hA
  obtain ⟨rfl, rfl, rfl⟩ := trodAll_nil r0
  obtain rfl : args = #[v0] := by cases args; simp_all
  obtain ⟨rfl, rfl⟩ := trodVars_none hV
  obtain ⟨cs0, rfl, _⟩ := okWide_struct Tryd.underlying24 (hval 0 24 v0 rfl rfl)
  have hk0 := h0
  obtain ⟨fu0, hf0⟩ := h0
  obtain ⟨t0, b0, a0, l0, c0, ec0, T0, hC0⟩ := open_cut 12 fu0 _ _ hf0
  have hlt0 := DataW.trod_lt _ _ _ _ hf0
  obtain rfl : cs0 = #[.int .i64 t0, .string b0, .slice a0 l0 c0] := Array.ext' ec0
  clear hA0
  simp only [List.append_nil] at hW'
  refine (walk _ T0 A aS aF W g hC0).mono fun e W' ⟨he, hg⟩ => ?_
  subst he
  refine ⟨_, rfl, _, _, _, [], (p0 ++ []), [], hW', ?_, ?_, ?_, hg.frame _, fun h => by cases h⟩
  · exact trodAll_cons_mk (shut_bool Tryd.underlying4 _) trodAll_mk0
  · exact trodAll_cons_mk (Below.trod (by kernel_rfl) (by kernel_rfl) (of_decide_eq_true (by kernel_rfl)) hk0 hg hlt0) (trodAll_mk0)
  · rfl

theorem reads (os : Os) {H : Type} (enc : TypeId × Value → H) : ∃ places, DataW.whole enc Tryd.prog (({ World.holding Tryd.prog os ⟨#[.cells #[.string sentS0] 177, .cells #[.string sentS1] 177, .cells #[.string sentS2] 177, .cells #[.string sentS3] 177, .cells #[.string sentS4] 177, .cells #[.string sentS5] 177, .cells #[.string sentS6] 177, .cells #[.string sentS7] 177], #[], []⟩ with heap := (((((((((World.holding Tryd.prog os ⟨#[.cells #[.string sentS0] 177, .cells #[.string sentS1] 177, .cells #[.string sentS2] 177, .cells #[.string sentS3] 177, .cells #[.string sentS4] 177, .cells #[.string sentS5] 177, .cells #[.string sentS6] 177, .cells #[.string sentS7] 177], #[], []⟩).heap.modify 9 fun | .cells _ t frozen => .cells #[.iface 158 (.pointer (some ⟨(World.holding Tryd.prog default ⟨#[], #[], []⟩).heap.size + 0, 0, none⟩))] t frozen | o => o).modify 6 fun | .cells _ t frozen => .cells #[.iface 158 (.pointer (some ⟨(World.holding Tryd.prog default ⟨#[], #[], []⟩).heap.size + 1, 0, none⟩))] t frozen | o => o).modify 4 fun | .cells _ t frozen => .cells #[.iface 158 (.pointer (some ⟨(World.holding Tryd.prog default ⟨#[], #[], []⟩).heap.size + 2, 0, none⟩))] t frozen | o => o).modify 5 fun | .cells _ t frozen => .cells #[.iface 158 (.pointer (some ⟨(World.holding Tryd.prog default ⟨#[], #[], []⟩).heap.size + 3, 0, none⟩))] t frozen | o => o).modify 0 fun | .cells _ t frozen => .cells #[.iface 158 (.pointer (some ⟨(World.holding Tryd.prog default ⟨#[], #[], []⟩).heap.size + 4, 0, none⟩))] t frozen | o => o).modify 1 fun | .cells _ t frozen => .cells #[.iface 158 (.pointer (some ⟨(World.holding Tryd.prog default ⟨#[], #[], []⟩).heap.size + 5, 0, none⟩))] t frozen | o => o).modify 2 fun | .cells _ t frozen => .cells #[.iface 158 (.pointer (some ⟨(World.holding Tryd.prog default ⟨#[], #[], []⟩).heap.size + 6, 0, none⟩))] t frozen | o => o).modify 3 fun | .cells _ t frozen => .cells #[.iface 158 (.pointer (some ⟨(World.holding Tryd.prog default ⟨#[], #[], []⟩).heap.size + 7, 0, none⟩))] t frozen | o => o).modify 7 fun | .cells _ t frozen => .cells #[.iface 115 (.agg #[.pointer (some ⟨10, 48, none⟩)])] t frozen | o => o } : World).forCall (fun _ _ => 0) ⟨#[], #[.agg #[.int .i64 0, .string ⟨#[]⟩, .slice none 0 0]], []⟩).memory Tryd.f6.params.toList Rows.tlvPartsSpec.vars false #[Value.agg #[.int .i64 0, .string ⟨#[]⟩, .slice none 0 0]].toList 8 = some ([.agg [.lit (.int .i64 0), .lit (.string []), .nil]], [], places) :=
  ⟨[], by kernel_rfl⟩

set_option maxRecDepth 100000 in
theorem lifted (os : Os) (started : os.Started) (H : Type) (enc : TypeId × Value → H) (F : Stop.Interp) :
    ReturnsInHanded {} Tryd.checked os 6 .any ((OpenSpec.ofChange Rows.tlvPartsSpec).preRow enc Tryd.prog Tryd.f6 Rows.tlvPartsRow.domain false Rows.tlvPartsRow.laid) (((OpenSpec.ofChange Rows.tlvPartsSpec).at F).post enc Tryd.prog Tryd.f6 false true false false) := by
  obtain ⟨places, hx⟩ := reads os enc
  refine returnsInHanded_of_row (C := Tryd.checked) (s := OpenSpec.ofChange Rows.tlvPartsSpec) own started (by kernel_rfl) Tryd.func6
    (witness_row_at (enc := enc) (C := Tryd.checked) false ({ World.holding Tryd.prog os ⟨#[.cells #[.string sentS0] 177, .cells #[.string sentS1] 177, .cells #[.string sentS2] 177, .cells #[.string sentS3] 177, .cells #[.string sentS4] 177, .cells #[.string sentS5] 177, .cells #[.string sentS6] 177, .cells #[.string sentS7] 177], #[], []⟩ with heap := (((((((((World.holding Tryd.prog os ⟨#[.cells #[.string sentS0] 177, .cells #[.string sentS1] 177, .cells #[.string sentS2] 177, .cells #[.string sentS3] 177, .cells #[.string sentS4] 177, .cells #[.string sentS5] 177, .cells #[.string sentS6] 177, .cells #[.string sentS7] 177], #[], []⟩).heap.modify 9 fun | .cells _ t frozen => .cells #[.iface 158 (.pointer (some ⟨(World.holding Tryd.prog default ⟨#[], #[], []⟩).heap.size + 0, 0, none⟩))] t frozen | o => o).modify 6 fun | .cells _ t frozen => .cells #[.iface 158 (.pointer (some ⟨(World.holding Tryd.prog default ⟨#[], #[], []⟩).heap.size + 1, 0, none⟩))] t frozen | o => o).modify 4 fun | .cells _ t frozen => .cells #[.iface 158 (.pointer (some ⟨(World.holding Tryd.prog default ⟨#[], #[], []⟩).heap.size + 2, 0, none⟩))] t frozen | o => o).modify 5 fun | .cells _ t frozen => .cells #[.iface 158 (.pointer (some ⟨(World.holding Tryd.prog default ⟨#[], #[], []⟩).heap.size + 3, 0, none⟩))] t frozen | o => o).modify 0 fun | .cells _ t frozen => .cells #[.iface 158 (.pointer (some ⟨(World.holding Tryd.prog default ⟨#[], #[], []⟩).heap.size + 4, 0, none⟩))] t frozen | o => o).modify 1 fun | .cells _ t frozen => .cells #[.iface 158 (.pointer (some ⟨(World.holding Tryd.prog default ⟨#[], #[], []⟩).heap.size + 5, 0, none⟩))] t frozen | o => o).modify 2 fun | .cells _ t frozen => .cells #[.iface 158 (.pointer (some ⟨(World.holding Tryd.prog default ⟨#[], #[], []⟩).heap.size + 6, 0, none⟩))] t frozen | o => o).modify 3 fun | .cells _ t frozen => .cells #[.iface 158 (.pointer (some ⟨(World.holding Tryd.prog default ⟨#[], #[], []⟩).heap.size + 7, 0, none⟩))] t frozen | o => o).modify 7 fun | .cells _ t frozen => .cells #[.iface 115 (.agg #[.pointer (some ⟨10, 48, none⟩)])] t frozen | o => o } : World) #[.agg #[.int .i64 0, .string ⟨#[]⟩, .slice none 0 0]] rfl (by kernel_rfl) (by kernel_rfl) (by kernel_rfl)
      (OpenSpec.preRow_of_cond 8 hx (by kernel_rfl) (fun k hk => by cases hk) (by kernel_rfl) (laid_met os _))) ?_
  intro W base args ds gs before hval hW _ _ _ hL _ _
  exact contract H enc W base args ds gs before hval hW hL

theorem said : Rows.TlvPartsSaid :=
  OpenClaim.holds_of_cond 6 Tryd.f6 rfl rfl rfl rfl rfl rfl rfl ⟨rfl, rfl, rfl, rfl, rfl⟩ rfl rfl rfl rfl rfl (by kernel_rfl) Tryd.func6 (by kernel_rfl)
    (of_decide_eq_true (by kernel_rfl)) (by unfold Func.isWrapper; first | (rw [if_pos (by decide +kernel)]; kernel_rfl) | (rw [if_neg (by decide +kernel)]; exact ⟨rfl, rfl⟩))
    (fun os started H enc _ F => by rw [OpenClaim.pre_eq_preRow]; exact lifted os started H enc F)

theorem plain (f : FuncId) (fn : Func) (hf : Tryd.pinned.checked.prog.funcNamed "latiner/latinerlaw02.TlvParts" = some f) (hfn : Tryd.pinned.checked.prog.funcs[f]? = some fn) :
    true = Tryd.pinned.checked.prog.looks [] ∧ ∀ (j : Nat) t, fn.params[j]? = some t → Tryd.pinned.checked.prog.wantsStandIn t = false := by
  obtain rfl : f = 6 := Option.some.inj ((show Tryd.prog.funcNamed "latiner/latinerlaw02.TlvParts" = some 6 by kernel_rfl).symm.trans hf) |>.symm
  obtain rfl : fn = Tryd.f6 := (Option.some.inj (Tryd.func6.symm.trans hfn)).symm
  refine ⟨by kernel_rfl, fun j t ht => ?_⟩
  rw [Tryd.params6] at ht
  have hm : t = 24 := by have := Array.mem_of_getElem? ht; simp at this; first | exact this | omega | (rcases this with h | h | h <;> simp [h]) | (rcases this with h | h | h | h <;> simp [h])
  subst hm
  exact (show Tryd.prog.wantsStandIn 24 = false by kernel_rfl)

/-- The card. -/
theorem card : Rows.TlvPartsCardSaid :=
  Claim7.holds_tied_plain_at .later [] _ _ _ _ said (fun _ h => by cases h) (by kernel_rfl) (fun _ h => by cases h) tlvParts_row_tie rfl ⟨rfl, rfl⟩ (by kernel_rfl) rfl plain (by kernel_rfl)
end Go.Proofs.YthibodkemnkjeaaDoor.tparts

namespace Go.Proofs.YthibodkemnkjeaaDoor
theorem tlvParts_holds : Rows.TlvPartsCardSaid := tparts.card
#print axioms tlvParts_holds
end Go.Proofs.YthibodkemnkjeaaDoor
