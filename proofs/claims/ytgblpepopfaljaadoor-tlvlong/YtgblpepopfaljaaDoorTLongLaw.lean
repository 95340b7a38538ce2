/-
  latinerlaw02.TlvLong returns true at every text and tag: a tree whose length is told by more bytes than it needs reads as the same. Conditions: the package-level variables hold what the program's text lays (the card ties them).
-/
import Derived.Test.YtgblpepopfaljaaDoorTvLong
import Derived.Test.YtgblpepopfaljaaDoorTShown
import Derived.Test.YtgblpepopfaljaaDoorTLaid
namespace Go.Proofs.YtgblpepopfaljaaDoor.tlong
open Go.ChangeShapes Go.WideShapes Go.ChangeAt Go.ChangeMaps Go.RowKit Tv T Go.Shelf

theorem convTwo (W : World) (a b : Int) : (convert 41 9 (.slice (some ⟨W.heap.size, 0, none⟩) 2 2)).run Tryd.prog (W.alloc (.cells #[.int .u8 a, .int .u8 b] 5)) = .ok (.string (strOfNums [a, b])) (W.alloc (.cells #[.int .u8 a, .int .u8 b] 5)) :=
  run_convert_bytes_arg _ _ _ Tryd.underlying41 Tryd.underlying5 _ 0 _ _ [a, b] rfl (fun i hi => by
    have hi' : i < 2 := hi
    rw [Nat.zero_add, World.cell?_alloc_at _ _ _ _ rfl]
    rcases i with _ | _ | i <;> first | rfl | omega) _ Tryd.underlying9

/-- the same behind a draw. -/
theorem convTwoD (W : World) (a b : Int) : (convert 41 9 (.slice (some ⟨W.heap.size, 0, none⟩) 2 2)).run Tryd.prog (W.alloc (.cells #[.int .u8 a, .int .u8 b] 5)).drew = .ok (.string (strOfNums [a, b])) (W.alloc (.cells #[.int .u8 a, .int .u8 b] 5)).drew := convTwo W.drew a b
theorem convTwoE (W : World) (o : Obj) (a b : Int) : (convert 41 9 (.slice (some ⟨W.heap.size + 1, 0, none⟩) 2 2)).run Tryd.prog ((W.alloc o).alloc (.cells #[.int .u8 a, .int .u8 b] 5)).drew = .ok (.string (strOfNums [a, b])) ((W.alloc o).alloc (.cells #[.int .u8 a, .int .u8 b] 5)).drew := by
  have := convTwoD (W.alloc o) a b
  rwa [World.size_alloc] at this

theorem convTwoF (W : World) (o : Obj) (a b : Int) : (convert 41 9 (.slice (some ⟨W.heap.size, 0, none⟩) 2 2)).run Tryd.prog ((W.alloc (.cells #[.int .u8 a, .int .u8 b] 5)).alloc o).drew = .ok (.string (strOfNums [a, b])) ((W.alloc (.cells #[.int .u8 a, .int .u8 b] 5)).alloc o).drew :=
  run_convert_bytes_arg _ _ _ Tryd.underlying41 Tryd.underlying5 _ 0 _ _ [a, b] rfl (fun i hi => by
    have hi' : i < 2 := hi
    show ((W.alloc (.cells #[.int .u8 a, .int .u8 b] 5)).alloc o).cell? _ = _
    rw [Nat.zero_add, World.cell?_of_block (w := W.alloc (.cells #[.int .u8 a, .int .u8 b] 5)) (Below.heap_alloc _ _ _ (by simp)), World.cell?_alloc_at _ _ _ _ rfl]
    rcases i with _ | _ | i <;> first | rfl | omega) _ Tryd.underlying9

theorem four {t : Int} {d : ByteArray} (hd : d.size ≤ 3000) (h : right (one t d) = false) : t < 0 ∨ 255 < t ∨ (0 ≤ t ∧ t ≤ 255 ∧ t % 32 = 31) ∨ (0 ≤ t ∧ t ≤ 255 ∧ t % 32 ≠ 31 ∧ t / 32 % 2 = 1) := by
  rw [one_right t d hd] at h
  by_cases h1 : t / 32 % 2 = 1
  · omega
  · have hi : isIn t = false := by unfold isIn; simpa using h1
    have : ¬ (0 ≤ t ∧ t ≤ 255 ∧ t % 32 ≠ 31) := fun hh => by
      rw [(fit_iff _ _ _).2 ⟨hh.1, hh.2.1, hh.2.2, fun x => by (rw [hi] at x; cases x), fun _ => rfl⟩] at h
      cases h
    omega

theorem yes_facts {t : Int} {d : ByteArray} (hd : d.size ≤ 3000) (h : right (one t d) = true) : ∃ L : ByteArray, encT (one t d) = .tuple #[.string L, .int .i64 0] ∧ (L.toList == ([] : List UInt8)) = false ∧ 1 ≤ L.size ∧
    wholeT (L.extract 0 1 ++ ⟨#[131, 0]⟩ ++ strOfNums [(d.size : Int) / 256, (d.size : Int) % 256] ++ d).data.toList = .ok (one t d) ∧ (L.extract 0 1 ++ ⟨#[131, 0]⟩ ++ strOfNums [(d.size : Int) / 256, (d.size : Int) % 256] ++ d).size ≤ 9000 := by
  refine ⟨⟨(enc 13 (one t d)).toArray⟩, by unfold encT; rw [if_pos h], ?_, ?_, ?_⟩
  · rw [beq_eq_false_iff_ne, ByteArray.toList_eq]
    intro e
    have h2 := enc_two 13 (one t d)
    have e' : enc 13 (one t d) = [] := e
    rw [e'] at h2
    cases h2
  · have h2 := enc_two 13 (one t d)
    show 1 ≤ (enc 13 (one t d)).toArray.size
    rw [List.size_toArray]; omega
  · have e : (ByteArray.extract ⟨(enc 13 (one t d)).toArray⟩ 0 1 ++ ⟨#[131, 0]⟩ ++ strOfNums [(d.size : Int) / 256, (d.size : Int) % 256] ++ d).data.toList = UInt8.ofNat t.toNat :: 131 :: 0 :: UInt8.ofNat ((d.size : Int) / 256).toNat :: UInt8.ofNat ((d.size : Int) % 256).toNat :: d.data.toList := by
      have hx : (enc 13 (one t d)).take 1 = [UInt8.ofNat t.toNat] := rfl
      simp [ByteArray.data_append, Array.toList_append, hx, strOfNums]
    refine ⟨?_, ?_⟩
    · rw [e]
      exact long_whole t d hd h _ _ (by simp; omega) (by simp; omega)
    · have hl : d.data.toList.length = d.size := Array.length_toList
      have hz : ∀ x : ByteArray, x.size = x.data.toList.length := fun x => Array.length_toList.symm
      rw [hz, e]
      simp; omega

theorem one_node (W : World) (t : Int) (d : ByteArray) (hd : d.size ≤ 3000) : Node 13 W (fun _ => True) (.agg #[.int .i64 t, .string d, .slice none 0 0]) (one t d) := leaf_node 12 W (fun _ => True) t d (by omega)

/-- a box of three cells, as it is made. -/
abbrev boxZ : Obj := .cells #[.int .i64 0, .string ⟨#[]⟩, .slice none 0 0] 24
theorem boxB {W w3 : World} {o : Obj} (hb : Below ((W.alloc o).alloc boxZ).drew.heap.size ((W.alloc o).alloc boxZ).drew w3) : w3.heap[W.heap.size + 1]? = some (.cells #[.int .i64 0, .string ⟨#[]⟩, .slice none 0 0] 24 (0, 0)) := by
  refine (hb.block _ ?_).trans ?_
  · show W.heap.size + 1 < ((W.alloc o).alloc boxZ).heap.size; simp
  · show ((W.alloc o).alloc boxZ).heap[W.heap.size + 1]? = _
    have := World.alloc_heap_new (W.alloc o) boxZ
    rwa [World.size_alloc] at this
theorem boxC {W w3 : World} {o : Obj} (hb : Below ((W.alloc boxZ).alloc o).drew.heap.size ((W.alloc boxZ).alloc o).drew w3) : w3.heap[W.heap.size]? = some (.cells #[.int .i64 0, .string ⟨#[]⟩, .slice none 0 0] 24 (0, 0)) := by
  refine (hb.block _ ?_).trans ?_
  · show W.heap.size < ((W.alloc boxZ).alloc o).heap.size; simp; omega
  · show ((W.alloc boxZ).alloc o).heap[W.heap.size]? = _
    exact (Below.heap_alloc _ _ _ (by simp)).trans (World.alloc_heap_new W _)

/-- what lies behind the reading: the two trees. -/
def FinL (w : World) (k : Nat) (t : Int) (d : ByteArray) (b : Nat) (vt : Int) (vd : ByteArray) (va : Option Addr) (vl vc : Nat) (V : World) : Prop :=
  Below w.heap.size w V ∧ V.heap[k]? = some (.cells #[.int .i64 t, .string d, .slice none 0 0] 24 (0, 0)) ∧ (V.cell? ⟨b, 0, none⟩ = some (.int .i64 vt) ∧ V.cell? ⟨b, 1, none⟩ = some (.string vd) ∧ V.cell? ⟨b, 2, none⟩ = some (.slice va vl vc)) ∧ ∃ p, Node 13 V p (.agg #[.int .i64 vt, .string vd, .slice va vl vc]) (one t d)
theorem fin_of {w X : World} {k : Nat} {t : Int} {d : ByteArray} {b : Nat} {vt : Int} {vd : ByteArray} {va : Option Addr} {vl vc : Nat} {p : Nat → Prop} (hX : Below w.heap.size w X) (hk : X.heap[k]? = some (.cells #[.int .i64 t, .string d, .slice none 0 0] 24 (0, 0))) (hkb : k ≠ b) (hb : w.heap.size ≤ b)
    (hc : X.heap[b]? = some (.cells #[.int .i64 0, .string ⟨#[]⟩, .slice none 0 0] 24 (0, 0))) (hN : Node 13 X p (.agg #[.int .i64 vt, .string vd, .slice va vl vc]) (one t d)) (hp : ¬ p b) :
    FinL w k t d b vt vd va vl vc (((X.setCell ⟨b, 0, none⟩ (.int .i64 vt)).setCell ⟨b, 1, none⟩ (.string vd)).setCell ⟨b, 2, none⟩ (.slice va vl vc)) := by
  refine ⟨set3n hX hb _ _ _, ?_, ?_, p, set3_node hN hp _ _ _⟩
  · rw [Below.heap_setCell _ _ _ _ hkb, Below.heap_setCell _ _ _ _ hkb, Below.heap_setCell _ _ _ _ hkb]; exact hk
  · have h1 := heap_setCell_same X b 0 _ _ (.int .i64 vt) hc
    have h2 := heap_setCell_same _ b 1 _ _ (.string vd) h1
    have h3 := heap_setCell_same _ b 2 _ _ (.slice va vl vc) h2
    exact (cells3 h3).1

/-- the activation behind the reading. -/
abbrev actL (s d L : ByteArray) (t : Int) (k : Nat) (x9 x10 : Value) (u53 u54 u55 u56 u57 u58 u59 u60 u61 u62 u63 u64 u65 u66 u67 u68 u69 u70 u71 u72 : Value) : Act :=
  { defers := [], tmps := #[.string d, .int .i64 t, undef, undef, .bool false, .bool true, .pointer (some ⟨k, 0, none⟩), .string L, .int .i64 0, x9, x10, .bool true, .string s, .string s, .int .i64 s.size, .int .i64 (min (s.size : Int) 3000), .string d, .int .i64 t, .string d, .agg #[.int .i64 t, .string d, .slice none 0 0], .tuple #[.string L, .int .i64 0], .agg #[.int .i64 t, .string d, .slice none 0 0], .tuple #[.string L, .int .i64 0], .string L, .int .i64 0, .int .i64 0, .bool false, undef, undef, undef, undef, undef, undef, undef, undef, undef, undef, undef, undef, undef, undef, undef, undef, undef, undef, undef, undef, undef, undef, undef, undef, .string L, .bool false, u53, u54, u55, u56, u57, u58, u59, u60, u61, u62, u63, u64, u65, u66, u67, u68, u69, u70, u71, u72, undef, undef, undef, undef, undef, undef, undef, undef, undef, undef] }

/-- what the reading leaves. -/
def OutL (w : World) (s d L : ByteArray) (t : Int) (k : Nat) (e : Exit) (a1 : Act) (V : World) : Prop := match e with
  | .normal => ∃ b vt vd va vl vc, FinL w k t d b vt vd va vl vc V ∧ ∃ u53 u54 u55 u56 u57 u58 u59 u60 u61 u62 u63 u64 u65 u66 u67 u68 u69 u70 u71 u72, a1 = actL s d L t k (.pointer (some ⟨b, 0, none⟩)) (.int .i64 0) u53 u54 u55 u56 u57 u58 u59 u60 u61 u62 u63 u64 u65 u66 u67 u68 u69 u70 u71 u72
  | _ => False

theorem outL_mk {w : World} {s d L : ByteArray} {t : Int} {k : Nat} {a1 : Act} {V : World} {b : Nat} {vt : Int} {vd : ByteArray} {va : Option Addr} {vl vc : Nat} {u53 u54 u55 u56 u57 u58 u59 u60 u61 u62 u63 u64 u65 u66 u67 u68 u69 u70 u71 u72 : Value} (ha : a1 = actL s d L t k (.pointer (some ⟨b, 0, none⟩)) (.int .i64 0) u53 u54 u55 u56 u57 u58 u59 u60 u61 u62 u63 u64 u65 u66 u67 u68 u69 u70 u71 u72) (hF : FinL w k t d b vt vd va vl vc V) : OutL w s d L t k .normal a1 V := ⟨b, vt, vd, va, vl, vc, hF, u53, u54, u55, u56, u57, u58, u59, u60, u61, u62, u63, u64, u65, u66, u67, u68, u69, u70, u71, u72, ha⟩
theorem fin_new {w w3 : World} {k : Nat} {t : Int} {d : ByteArray} {vt : Int} {vd : ByteArray} {va : Option Addr} {vl vc : Nat} {p : Nat → Prop} (hX : Below w.heap.size w w3) (hk : w3.heap[k]? = some (.cells #[.int .i64 t, .string d, .slice none 0 0] 24 (0, 0))) (hN : Node 13 w3 p (.agg #[.int .i64 vt, .string vd, .slice va vl vc]) (one t d)) :
    FinL w k t d w3.heap.size vt vd va vl vc (w3.alloc (.cells #[.int .i64 vt, .string vd, .slice va vl vc] 24)) :=
  ⟨hX.alloc hX.size _, (Below.heap_alloc _ _ _ (Array.getElem?_eq_some_iff.1 hk).1).trans hk, (cells3 (World.alloc_heap_new w3 _)).1, p, hN.below ((Below.refl _ _).alloc (Nat.le_refl _) _)⟩
/-- what was kept up to the reading, behind it. -/
theorem behind {w w2 W w3 : World} {k : Nat} {o : Obj} (h4 : Below w.heap.size w w2) (hk : w2.heap[k]? = some o) (h : Below w2.heap.size w2 W) (h5 : Below W.heap.size W w3) : Below w.heap.size w w3 ∧ w3.heap[k]? = some o := by
  have h6 := h.trans (h5.mono h.size)
  exact ⟨h4.trans (h6.mono h4.size), (h6.block _ (Array.getElem?_eq_some_iff.1 hk).1).trans hk⟩
theorem drewB {w W : World} (h : Below w.heap.size w W) : Below w.heap.size w W.drew := ⟨h.os, h.tape, h.output, h.size, h.block⟩

set_option maxRecDepth 100000 in
set_option maxHeartbeats 8000000 in
theorem walk (s : ByteArray) (t : Int) (A : Ads) (aS aF : Addr) (w : World) (g : Gl A aS aF w) (hs : s.size ≤ maxLen) :
    Calls Tryd.prog 11 #[.string s, .int .i64 t] w fun e w' => e = .returned (.bool true) ∧ Below w.heap.size w w' := by
  have G := hide fun w' (h : Below w.heap.size w w') => g.below h
  have HS := shown_any A aS aF w g
  unfold maxLen at hs
  clear g
  go_enter Tryd.func11, Tryd.ntmps11
  go_wp2_with fail
  refine HS.mono ?_
  rintro e w1 ⟨rfl, hb1⟩
  clear HS
  go_wp2_with fail
  have hd : (s.extract 0 (min (s.size : Int) 3000).toNat).size ≤ 3000 := by rw [ByteArray.size_extract]; omega
  clear hs
  generalize s.extract 0 (min (s.size : Int) 3000).toNat = d at *
  have hN : Node 13 (w1.alloc (.cells #[.int .i64 t, .string d, .slice none 0 0] 24)) (fun _ => True) (.agg #[.int .i64 t, .string d, .slice none 0 0]) (one t d) := one_node _ t d hd
  have hb2 := hb1.alloc (o := .cells #[.int .i64 t, .string d, .slice none 0 0] 24) hb1.size
  have hbox := World.alloc_heap_new w1 (.cells #[.int .i64 t, .string d, .slice none 0 0] 24)
  have hlt : w1.heap.size < (w1.alloc (.cells #[.int .i64 t, .string d, .slice none 0 0] 24)).heap.size := by simp
  have hEn := encode_any 13 (one t d) A aS aF _ _ _ ((unhide G) _ hb2) hN (by omega)
  refine hEn.mono ?_
  rintro e w2 ⟨rfl, hb3⟩
  have hb4 := hb2.trans (hb3.mono hb2.size)
  have hbox2 := (hb3.block _ hlt).trans hbox
  have hlt2 : w1.heap.size < w2.heap.size := Nat.lt_of_lt_of_le hlt hb3.size
  clear hb1 hb2 hb3 hN hbox hlt hEn
  cases hr : right (one t d)
  · rw [show encT (one t d) = .tuple #[.string ⟨#[]⟩, .int .i64 21] by unfold encT; rw [hr]; rfl]
    have h4 := four hd hr
    clear hr hbox2 G
    rcases h4 with h4 | h4 | ⟨h41, h42, h43⟩ | ⟨h41, h42, h43, h44⟩
    · go_wp2
      go_ret
      exact ⟨rfl, hb4⟩
    · go_wp2
      go_ret
      exact ⟨rfl, hb4⟩
    · have h43' : (t % 32 == 31) = true := beq_iff_eq.2 h43
      clear h43
      go_wp2
      go_ret
      exact ⟨rfl, hb4⟩
    · have h43' : (t % 32 == 31) = false := beq_eq_false_iff_ne.2 h43
      have h44' : (t / 32 % 2 == 1) = true := beq_iff_eq.2 h44
      clear h43 h44
      go_wp2
      go_ret
      exact ⟨rfl, hb4⟩
  · obtain ⟨L, hE, hL0, hL1, hW, hz⟩ := yes_facts hd hr
    rw [hE]
    have hL1' : (1 : Int) ≤ L.size := by omega
    have hd' : (d.size : Int) ≤ 3000 := by omega
    have HW := hide fun W (hb : Below w.heap.size w W) => by
      have := whole_any _ A aS aF W ((unhide G) W hb) hz
      rw [hW] at this
      exact this
    have Hb4 := hide hb4
    have Hbox := hide hbox2
    clear hE hr hW hz hb4 hbox2
    go_wp2_with fail
    have u1 : IntKind.u8.wrap (IntKind.i64.wrap ((d.size : Int) / 256)) = (d.size : Int) / 256 := by rw [IntKind.wrap_i64]; simp [IntKind.wrap, IntKind.signed, IntKind.bits]; omega
    have u2 : IntKind.u8.wrap ((d.size : Int).tmod 256) = (d.size : Int) % 256 := by rw [Int.tmod_eq_emod_of_nonneg (by omega)]; simp [IntKind.wrap, IntKind.signed, IntKind.bits]
    have hso : (strOfNums [(d.size : Int) / 256, (d.size : Int) % 256]).size = 2 := rfl
    have hcd := convTwoD w2
    have hce := convTwoE w2
    have hcf := convTwoF w2
    have hbd : Below w.heap.size w w2.drew := ⟨(unhide Hb4).os, (unhide Hb4).tape, (unhide Hb4).output, (unhide Hb4).size, (unhide Hb4).block⟩
    have Hlt2 := hide hlt2
    refine wp_mono (Q := OutL w s d L t w1.heap.size) ?_ ?_
    · go_region_with (go_at_call 19; refine ((unhide HW) _ (by first | exact hbd.alloc hbd.size _ | exact (hbd.alloc hbd.size _).alloc (hbd.alloc hbd.size _).size _)).mono ?_; rintro e w3 ⟨hb5, v, rfl, hN3⟩; obtain ⟨vt, vd, va, vl, vc, rfl⟩ := hN3.agg; replace hN3 := hide hN3; first | (have hq := boxB hb5; obtain ⟨⟨z0, z1, z2⟩, y0, y1, y2⟩ := cells3 hq; replace hq := hide hq) | (have hq := boxC hb5; obtain ⟨⟨z0, z1, z2⟩, y0, y1, y2⟩ := cells3 hq; replace hq := hide hq) | skip; replace hb5 := hide hb5)
      all_goals (apply outL_mk (vt := vt) (vd := vd) (va := va) (vl := vl) (vc := vc); (first | rfl | (simp only [Act.put]; rfl)))
      all_goals have hA := behind (unhide Hb4) (unhide Hbox) (by first | exact drewB ((Below.refl _ _).alloc (Nat.le_refl _) _) | exact drewB (((Below.refl _ _).alloc (Nat.le_refl _) _).alloc (by simp) _)) (unhide hb5)
      all_goals have hz4 := (unhide Hb4).size
      all_goals have hl4 := unhide Hlt2
      all_goals first | exact fin_new hA.1 hA.2 (unhide hN3) | exact fin_of hA.1 hA.2 (by omega) (by omega) (unhide hq) (unhide hN3) (fun h => by (have h' : ((w2.alloc _).alloc _).heap.size ≤ _ := h; rw [World.size_alloc, World.size_alloc] at h'; omega))
    · intro e a1 V hq
      cases e with
      | normal =>
        obtain ⟨b, vt, vd, va, vl, vc, ⟨hbV, hkV, ⟨b0, b1, b2⟩, pp, hNV⟩, u53, u54, u55, u56, u57, u58, u59, u60, u61, u62, u63, u64, u65, u66, u67, u68, u69, u70, u71, u72, rfl⟩ := hq
        obtain ⟨k0, k1, k2⟩ := (cells3 hkV).1
        have HS := same_any 13 (one t d) (one t d) V _ _ _ _ (one_node V t d hd) hNV
        rw [(same_iff 13 (one t d) (one t d)).2 rfl] at HS
        have HbV := hide hbV
        clear hbV hkV hNV Hb4 Hbox HW hcd hce hcf hbd
        go_wp2_with fail
        refine HS.mono ?_
        rintro e w9 ⟨rfl, hb9⟩
        have Hb9 := hide ((unhide HbV).trans (hb9.mono (unhide HbV).size))
        clear hb9 HS HbV k0 k1 k2 b0 b1 b2
        go_wp2
        go_ret
        exact ⟨rfl, unhide Hb9⟩
      | _ => exact hq.elim

set_option maxRecDepth 100000 in
/-- What the walk gives, for every argument. -/
theorem contract (H : Type) (enc : TypeId × Value → H) (W : World) (base : Nat) (args : Array Value) (ds gs : List (DataW H)) (before : List MemPlace)
    (hval : ∀ (j : Nat) t v, Tryd.f11.params[j]? = some t → args[j]? = some v → Value.okWide Tryd.prog W .any base t v)
    (hW : DataW.Whole enc Tryd.prog Tryd.f11.params.toList Rows.tlvLongSpec.vars false W args.toList ds gs before) (hL : laidMetH Tryd.prog Rows.tlvLongRow.laid W) :
    Calls Tryd.prog 11 args W fun e W' => ∃ v, e = .returned v ∧ Rows.tlvLongSpec.post enc Tryd.prog Tryd.f11 false true false false W args v W' := by
  obtain ⟨A, aS, aF, g⟩ := glob_of_laid hL
  have hW' := hW
  obtain ⟨p, q, hA0, hV, rfl, hfz, hnd⟩ := hW
  have hA : DataW.TrodAll enc Tryd.prog W 0 (fun _ => true) true Tryd.f11.params.toList args.toList ds p := hA0
  rw [Tryd.params11] at hA hval
  obtain ⟨v0, vs0, d0, ds0, p0, q0, hargs0, rfl, rfl, h0, r0⟩ := trodAll_cons hA
  obtain ⟨v1, vs1, d1, ds1, p1, q1, hargs1, rfl, rfl, h1, r1⟩ := trodAll_cons r0
  obtain ⟨rfl, rfl, rfl⟩ := trodAll_nil r1
  obtain rfl : args = #[v0, v1] := by cases args; simp_all
  obtain ⟨rfl, rfl⟩ := trodVars_none hV
  obtain ⟨x0, rfl, rfl, rfl, wf0⟩ := open_string Tryd.underlying9 (hval 0 9 v0 rfl rfl) h0
  obtain ⟨x1, rfl, rfl, rfl, wf1⟩ := open_int Tryd.underlying3 (hval 1 3 v1 rfl rfl) h1
  clear hA0
  simp only [List.append_nil] at hW'
  refine (walk x0 x1 A aS aF W g wf0).mono fun e W' ⟨he, hg⟩ => ?_
  subst he
  refine ⟨_, rfl, _, _, _, [], [], [], hW', ?_, ?_, ?_, hg.frame _, fun h => by cases h⟩
  · exact trodAll_cons_mk (shut_bool Tryd.underlying4 _) trodAll_mk0
  · exact trodAll_cons_mk (shut_string Tryd.underlying9 wf0) (trodAll_cons_mk (shut_int Tryd.underlying3 wf1) (trodAll_mk0))
  · rfl

theorem reads (os : Os) {H : Type} (enc : TypeId × Value → H) : ∃ places, DataW.whole enc Tryd.prog (({ World.holding Tryd.prog os ⟨#[.cells #[.string sentS0] 177, .cells #[.string sentS1] 177, .cells #[.string sentS2] 177, .cells #[.string sentS3] 177, .cells #[.string sentS4] 177, .cells #[.string sentS5] 177, .cells #[.string sentS6] 177, .cells #[.string sentS7] 177], #[], []⟩ with heap := (((((((((World.holding Tryd.prog os ⟨#[.cells #[.string sentS0] 177, .cells #[.string sentS1] 177, .cells #[.string sentS2] 177, .cells #[.string sentS3] 177, .cells #[.string sentS4] 177, .cells #[.string sentS5] 177, .cells #[.string sentS6] 177, .cells #[.string sentS7] 177], #[], []⟩).heap.modify 9 fun | .cells _ t frozen => .cells #[.iface 158 (.pointer (some ⟨(World.holding Tryd.prog default ⟨#[], #[], []⟩).heap.size + 0, 0, none⟩))] t frozen | o => o).modify 6 fun | .cells _ t frozen => .cells #[.iface 158 (.pointer (some ⟨(World.holding Tryd.prog default ⟨#[], #[], []⟩).heap.size + 1, 0, none⟩))] t frozen | o => o).modify 4 fun | .cells _ t frozen => .cells #[.iface 158 (.pointer (some ⟨(World.holding Tryd.prog default ⟨#[], #[], []⟩).heap.size + 2, 0, none⟩))] t frozen | o => o).modify 5 fun | .cells _ t frozen => .cells #[.iface 158 (.pointer (some ⟨(World.holding Tryd.prog default ⟨#[], #[], []⟩).heap.size + 3, 0, none⟩))] t frozen | o => o).modify 0 fun | .cells _ t frozen => .cells #[.iface 158 (.pointer (some ⟨(World.holding Tryd.prog default ⟨#[], #[], []⟩).heap.size + 4, 0, none⟩))] t frozen | o => o).modify 1 fun | .cells _ t frozen => .cells #[.iface 158 (.pointer (some ⟨(World.holding Tryd.prog default ⟨#[], #[], []⟩).heap.size + 5, 0, none⟩))] t frozen | o => o).modify 2 fun | .cells _ t frozen => .cells #[.iface 158 (.pointer (some ⟨(World.holding Tryd.prog default ⟨#[], #[], []⟩).heap.size + 6, 0, none⟩))] t frozen | o => o).modify 3 fun | .cells _ t frozen => .cells #[.iface 158 (.pointer (some ⟨(World.holding Tryd.prog default ⟨#[], #[], []⟩).heap.size + 7, 0, none⟩))] t frozen | o => o).modify 7 fun | .cells _ t frozen => .cells #[.iface 115 (.agg #[.pointer (some ⟨10, 48, none⟩)])] t frozen | o => o } : World).forCall (fun _ _ => 0) ⟨#[], #[.string ⟨#[]⟩, .int .i64 0], []⟩).memory Tryd.f11.params.toList Rows.tlvLongSpec.vars false #[Value.string ⟨#[]⟩, Value.int .i64 0].toList 8 = some ([.lit (.string []), .lit (.int .i64 0)], [], places) :=
  ⟨[], by kernel_rfl⟩

set_option maxRecDepth 100000 in
theorem lifted (os : Os) (started : os.Started) (H : Type) (enc : TypeId × Value → H) (F : Stop.Interp) :
    ReturnsInHanded {} Tryd.checked os 11 .any ((OpenSpec.ofChange Rows.tlvLongSpec).preRow enc Tryd.prog Tryd.f11 Rows.tlvLongRow.domain false Rows.tlvLongRow.laid) (((OpenSpec.ofChange Rows.tlvLongSpec).at F).post enc Tryd.prog Tryd.f11 false true false false) := by
  obtain ⟨places, hx⟩ := reads os enc
  refine returnsInHanded_of_row (C := Tryd.checked) (s := OpenSpec.ofChange Rows.tlvLongSpec) own started (by kernel_rfl) Tryd.func11
    (witness_row_at (enc := enc) (C := Tryd.checked) false ({ World.holding Tryd.prog os ⟨#[.cells #[.string sentS0] 177, .cells #[.string sentS1] 177, .cells #[.string sentS2] 177, .cells #[.string sentS3] 177, .cells #[.string sentS4] 177, .cells #[.string sentS5] 177, .cells #[.string sentS6] 177, .cells #[.string sentS7] 177], #[], []⟩ with heap := (((((((((World.holding Tryd.prog os ⟨#[.cells #[.string sentS0] 177, .cells #[.string sentS1] 177, .cells #[.string sentS2] 177, .cells #[.string sentS3] 177, .cells #[.string sentS4] 177, .cells #[.string sentS5] 177, .cells #[.string sentS6] 177, .cells #[.string sentS7] 177], #[], []⟩).heap.modify 9 fun | .cells _ t frozen => .cells #[.iface 158 (.pointer (some ⟨(World.holding Tryd.prog default ⟨#[], #[], []⟩).heap.size + 0, 0, none⟩))] t frozen | o => o).modify 6 fun | .cells _ t frozen => .cells #[.iface 158 (.pointer (some ⟨(World.holding Tryd.prog default ⟨#[], #[], []⟩).heap.size + 1, 0, none⟩))] t frozen | o => o).modify 4 fun | .cells _ t frozen => .cells #[.iface 158 (.pointer (some ⟨(World.holding Tryd.prog default ⟨#[], #[], []⟩).heap.size + 2, 0, none⟩))] t frozen | o => o).modify 5 fun | .cells _ t frozen => .cells #[.iface 158 (.pointer (some ⟨(World.holding Tryd.prog default ⟨#[], #[], []⟩).heap.size + 3, 0, none⟩))] t frozen | o => o).modify 0 fun | .cells _ t frozen => .cells #[.iface 158 (.pointer (some ⟨(World.holding Tryd.prog default ⟨#[], #[], []⟩).heap.size + 4, 0, none⟩))] t frozen | o => o).modify 1 fun | .cells _ t frozen => .cells #[.iface 158 (.pointer (some ⟨(World.holding Tryd.prog default ⟨#[], #[], []⟩).heap.size + 5, 0, none⟩))] t frozen | o => o).modify 2 fun | .cells _ t frozen => .cells #[.iface 158 (.pointer (some ⟨(World.holding Tryd.prog default ⟨#[], #[], []⟩).heap.size + 6, 0, none⟩))] t frozen | o => o).modify 3 fun | .cells _ t frozen => .cells #[.iface 158 (.pointer (some ⟨(World.holding Tryd.prog default ⟨#[], #[], []⟩).heap.size + 7, 0, none⟩))] t frozen | o => o).modify 7 fun | .cells _ t frozen => .cells #[.iface 115 (.agg #[.pointer (some ⟨10, 48, none⟩)])] t frozen | o => o } : World) #[.string ⟨#[]⟩, .int .i64 0] rfl (by kernel_rfl) (by kernel_rfl) (by kernel_rfl)
      (OpenSpec.preRow_of_cond 8 hx (by kernel_rfl) (fun k hk => by cases hk) (by kernel_rfl) (laid_met os _))) ?_
  intro W base args ds gs before hval hW _ _ _ hL _ _
  exact contract H enc W base args ds gs before hval hW hL

theorem said : Rows.TlvLongSaid :=
  OpenClaim.holds_of_cond 11 Tryd.f11 rfl rfl rfl rfl rfl rfl rfl ⟨rfl, rfl, rfl, rfl, rfl⟩ rfl rfl rfl rfl rfl (by kernel_rfl) Tryd.func11 (by kernel_rfl)
    (of_decide_eq_true (by kernel_rfl)) (by unfold Func.isWrapper; first | (rw [if_pos (by decide +kernel)]; kernel_rfl) | (rw [if_neg (by decide +kernel)]; exact ⟨rfl, rfl⟩))
    (fun os started H enc _ F => by rw [OpenClaim.pre_eq_preRow]; exact lifted os started H enc F)

theorem plain (f : FuncId) (fn : Func) (hf : Tryd.pinned.checked.prog.funcNamed "latiner/latinerlaw02.TlvLong" = some f) (hfn : Tryd.pinned.checked.prog.funcs[f]? = some fn) :
    true = Tryd.pinned.checked.prog.looks [] ∧ ∀ (j : Nat) t, fn.params[j]? = some t → Tryd.pinned.checked.prog.wantsStandIn t = false := by
  obtain rfl : f = 11 := Option.some.inj ((show Tryd.prog.funcNamed "latiner/latinerlaw02.TlvLong" = some 11 by kernel_rfl).symm.trans hf) |>.symm
  obtain rfl : fn = Tryd.f11 := (Option.some.inj (Tryd.func11.symm.trans hfn)).symm
  refine ⟨by kernel_rfl, fun j t ht => ?_⟩
  rw [Tryd.params11] at ht
  have hm : t = 9 ∨ t = 3 := by have := Array.mem_of_getElem? ht; simp at this; first | exact this | omega | (rcases this with h | h | h <;> simp [h]) | (rcases this with h | h | h | h <;> simp [h])
  rcases hm with rfl | rfl
  · exact (show Tryd.prog.wantsStandIn 9 = false by kernel_rfl)
  · exact (show Tryd.prog.wantsStandIn 3 = false by kernel_rfl)

/-- The card. -/
theorem card : Rows.TlvLongCardSaid :=
  Claim7.holds_tied_plain_at .later [] _ _ _ _ said (fun _ h => by cases h) (by kernel_rfl) (fun _ h => by cases h) tlvLong_row_tie rfl ⟨rfl, rfl⟩ (by kernel_rfl) rfl plain (by kernel_rfl)
end Go.Proofs.YtgblpepopfaljaaDoor.tlong

namespace Go.Proofs.YtgblpepopfaljaaDoor
theorem tlvLong_holds : Rows.TlvLongCardSaid := tlong.card
#print axioms tlvLong_holds
end Go.Proofs.YtgblpepopfaljaaDoor
