/-
  What the document's Decode and Whole (latinerref02) say. What the document's Whole (latinerref02) says. Conditions: a text is at most 9000 bytes long.
-/
import Derived.Test.YthibodkemnkjeaaDoorTRefC
namespace Go.Proofs.YthibodkemnkjeaaDoor
open Go.RowKit Tv T Go.Shelf

theorem trd_of {V : World} {R : Nat} {s : ByteArray} {c : Int} {t : TypeId} (h : V.heap[R]? = some (.cells #[.string s, .int .i64 c] t (0, 0))) : TRd R s c V := ⟨by simp [World.cell?, h], by simp [World.cell?, h], by simp [World.frozen?, h]⟩
theorem dec_small {l : List UInt8} {p : Nat} {T : Tr 13} {nx c' : Nat} (h : readT l 12 p l.length 0 = .ok (T, nx, c')) : right T = decide (lg 13 T ≤ 4000) := by
  obtain ⟨_, _, _, ⟨hs, _⟩, hc, hc2⟩ := readT_props l 12 p l.length 0 T nx c' (Nat.le_refl _) (by omega) h
  rw [right_lg T, show Tv.shape 13 12 T = true from hs, show decide (count 13 T ≤ 200) = true from decide_eq_true (by show count (12 + 1) T ≤ 200; omega)]
  simp

set_option maxRecDepth 100000 in
set_option maxHeartbeats 2000000 in
theorem refDecodeT_any (s : ByteArray) (p : Int) (w : World) (hs : s.size ≤ 9000) :
    Calls Tryd.prog 18 #[.string s, .int .i64 p] w (DecPost w (decT s.data.toList p)) := by
  have hl : s.data.toList.length = s.size := by simp
  have hs' : (s.size : Int) ≤ 9000 := by omega
  have hb0 : Below w.heap.size w (w.alloc (.cells #[.int .i64 0, .string ⟨#[]⟩, .slice none 0 0] 24)) := (Below.refl _ _).alloc (Nat.le_refl _) _
  have hq0 := World.alloc_heap_new w (.cells #[.int .i64 0, .string ⟨#[]⟩, .slice none 0 0] 24)
  by_cases h0 : p < 0
  · rw [show decT s.data.toList p = .error 10 by unfold decT; rw [if_neg (by omega)]]
    have HB := hide hb0
    have HQ := hide hq0
    clear hb0 hq0
    go_enter Tryd.func18, Tryd.ntmps18
    go_wp2
    obtain ⟨⟨x0, x1, x2⟩, _⟩ := cells3 (unhide HQ)
    refine bodyPost_ret (v := .tuple #[zeroN, .int .i64 0, .int .i64 10]) (by simp [results, Tryd.results18, go_sem, x0, x1, x2]) rfl ?_
    exact ⟨unhide HB, rfl⟩
  by_cases h1 : (s.size : Int) < p
  · rw [show decT s.data.toList p = .error 10 by unfold decT; rw [if_neg (by omega)]]
    have d0 : decide (p < 0) = false := decide_eq_false h0
    have HB := hide hb0
    have HQ := hide hq0
    clear hb0 hq0
    go_enter Tryd.func18, Tryd.ntmps18
    go_wp2
    obtain ⟨⟨x0, x1, x2⟩, _⟩ := cells3 (unhide HQ)
    refine bodyPost_ret (v := .tuple #[zeroN, .int .i64 0, .int .i64 10]) (by simp [results, Tryd.results18, go_sem, x0, x1, x2]) rfl ?_
    exact ⟨unhide HB, rfl⟩
  obtain ⟨q, rfl⟩ := Int.eq_ofNat_of_zero_le (Int.not_lt.1 h0)
  have d0 : decide ((q : Int) < 0) = false := decide_eq_false h0
  have d1 : decide ((s.size : Int) < q) = false := decide_eq_false h1
  have hbR : Below w.heap.size w ((w.alloc (.cells #[.int .i64 0, .string ⟨#[]⟩, .slice none 0 0] 24)).alloc (.cells #[.string s, .int .i64 0] 56)) := hb0.alloc (by simp) _
  have hrd : TRd (w.heap.size + 1) s ((0 : Nat) : Int) ((w.alloc (.cells #[.int .i64 0, .string ⟨#[]⟩, .slice none 0 0] 24)).alloc (.cells #[.string s, .int .i64 0] 56)) := by
    have := World.alloc_heap_new (w.alloc (.cells #[.int .i64 0, .string ⟨#[]⟩, .slice none 0 0] 24)) (.cells #[.string s, .int .i64 0] 56)
    rw [World.size_alloc] at this
    exact trd_of this
  have hqR : ((w.alloc (.cells #[.int .i64 0, .string ⟨#[]⟩, .slice none 0 0] 24)).alloc (.cells #[.string s, .int .i64 0] 56)).heap[w.heap.size]? = some (.cells #[.int .i64 0, .string ⟨#[]⟩, .slice none 0 0] 24 (0, 0)) := (Below.heap_alloc _ _ _ (by simp)).trans hq0
  have H0 := rd_any 12 (by omega) s q s.size 0 ((w.alloc (.cells #[.int .i64 0, .string ⟨#[]⟩, .slice none 0 0] 24)).alloc (.cells #[.string s, .int .i64 0] 56)) (w.heap.size + 1) hs (Nat.le_refl _) (by omega) (by omega) hrd
  have hdec : decT s.data.toList (q : Int) = (match readT s.data.toList 12 q s.data.toList.length 0 with | .error e => .error e | .ok (T, nx, _) => if right T = true then .ok (T, nx) else .error 21) := by
    unfold decT; rw [if_pos ⟨by omega, by omega⟩, Int.toNat_natCast]
    rfl
  rw [hl] at hdec
  have H := hide H0
  have HBR := hide hbR
  have HQR := hide hqR
  have HDS := hide fun T nx c' h => dec_small (l := s.data.toList) (p := q) (T := T) (nx := nx) (c' := c') h
  rw [hl] at HDS
  clear hb0 hq0 hbR hqR hrd H0
  cases hr : readT s.data.toList 12 q s.size 0 with
  | error E =>
    have hE := readT_err _ _ _ _ _ _ hr
    have tE : (E == 0) = false := beq_eq_false_iff_ne.2 hE
    rw [hr] at H hdec
    rw [show decT s.data.toList (q : Int) = .error E from hdec]
    clear hr hE hdec HDS
    go_enter Tryd.func18, Tryd.ntmps18
    go_wp2_with fail
    refine (unhide H).mono ?_
    rintro e w2 ⟨hb2, rfl⟩
    have hbw : Below w.heap.size w w2 := (unhide HBR).trans (hb2.below (by omega) (by simp))
    have hbx := (hb2.block w.heap.size (by simp <;> omega) (by omega)).trans (unhide HQR)
    obtain ⟨⟨y0, y1, y2⟩, z0, z1, z2⟩ := cells3 hbx
    have hW2 : w.heap.size < w2.heap.size := (Array.getElem?_eq_some_iff.1 hbx).1
    have HBW := hide hbw
    have HBX := hide hbx
    clear hb2 hbw hbx H
    go_wp2
    have hX : ((((w2.setCell ⟨w.heap.size, 0, none⟩ (.int .i64 0)).setCell ⟨w.heap.size, 1, none⟩ (.string ⟨#[]⟩)).setCell ⟨w.heap.size, 2, none⟩ (.slice none 0 0)).alloc (.cells #[.int .i64 0, .string ⟨#[]⟩, .slice none 0 0] 24)).heap[w.heap.size]? = some (.cells #[.int .i64 0, .string ⟨#[]⟩, .slice none 0 0] 24 (0, 0)) :=
      (Below.heap_alloc _ _ _ (by rw [size_set3]; exact hW2)).trans (set3_heap (unhide HBX) _ _ _)
    obtain ⟨⟨x0, x1, x2⟩, _⟩ := cells3 hX
    refine bodyPost_ret (v := .tuple #[zeroN, .int .i64 0, .int .i64 E]) (by simp [results, Tryd.results18, go_sem, x0, x1, x2]) rfl ?_
    exact ⟨(set3n (unhide HBW) (Nat.le_refl _) _ _ _).alloc (by rw [size_set3]; omega) _, rfl⟩
  | ok r =>
    obtain ⟨T, nx, c'⟩ := r
    have hrt := (unhide HDS) T nx c' hr
    rw [hr] at H hdec
    have hle := lg_le 13 T
    have hle' : ((lg 13 T : Nat) : Int) ≤ 5010 := by omega
    have hdec' : decT s.data.toList (q : Int) = if right T = true then .ok (T, nx) else .error 21 := hdec
    clear hr hdec HDS
    by_cases hg : lg 13 T ≤ 4000
    · have hr1 : right T = true := by rw [hrt]; exact decide_eq_true hg
      rw [if_pos hr1] at hdec'
      rw [hdec']
      have hg' : decide ((4000 : Int) < (lg 13 T : Nat)) = false := decide_eq_false (by omega)
      clear hdec' hrt hr1
      go_enter Tryd.func18, Tryd.ntmps18
      go_wp2_with fail
      refine (unhide H).mono ?_
      rintro e w2 ⟨hb2, ⟨v, rfl, hN⟩, _⟩
      obtain ⟨vt, vd, va, vl, vc, rfl⟩ := hN.agg
      have hbw : Below w.heap.size w w2 := (unhide HBR).trans (hb2.below (by omega) (by simp))
      have hbx := (hb2.block w.heap.size (by simp <;> omega) (by omega)).trans (unhide HQR)
      have hW2 : w.heap.size < w2.heap.size := (Array.getElem?_eq_some_iff.1 hbx).1
      have HBW := hide (hbw.alloc hbw.size (.cells #[.int .i64 vt, .string vd, .slice va vl vc] 24))
      have HBX := hide ((Below.heap_alloc w2 (.cells #[.int .i64 vt, .string vd, .slice va vl vc] 24) _ hW2).trans hbx)
      have hN3 := hN.below ((Below.refl _ _).alloc (Nat.le_refl _) (.cells #[.int .i64 vt, .string vd, .slice va vl vc] 24))
      have hkb := World.alloc_heap_new w2 (.cells #[.int .i64 vt, .string vd, .slice va vl vc] 24)
      have HL := hide (refLong_any 13 T _ _ _ hN3)
      have HN3 := hide hN3
      have HKB := hide hkb
      clear hb2 hbw hbx H hN hN3 hkb
      go_wp2_with fail
      refine (unhide HL).mono ?_
      rintro e w3 ⟨rfl, hb3⟩
      have hbx3 := (hb3.block _ (Array.getElem?_eq_some_iff.1 (unhide HBX)).1).trans (unhide HBX)
      obtain ⟨⟨y0, y1, y2⟩, z0, z1, z2⟩ := cells3 hbx3
      obtain ⟨⟨u0, u1, u2⟩, _⟩ := cells3 ((hb3.block _ (Array.getElem?_eq_some_iff.1 (unhide HKB)).1).trans (unhide HKB))
      have HB3 := hide ((unhide HBW).trans (hb3.mono (unhide HBW).size))
      have HN4 := hide ((unhide HN3).below hb3)
      have HBX3 := hide hbx3
      clear hb3 hbx3 HL
      go_wp2
      have hX := set3_heap (unhide HBX3) (.int .i64 vt) (.string vd) (.slice va vl vc)
      obtain ⟨⟨x0, x1, x2⟩, _⟩ := cells3 hX
      refine bodyPost_ret (v := .tuple #[.agg #[.int .i64 vt, .string vd, .slice va vl vc], .int .i64 nx, .int .i64 0]) (by simp [results, Tryd.results18, go_sem, x0, x1, x2]) rfl ?_
      exact ⟨set3n (unhide HB3) (Nat.le_refl _) _ _ _, _, rfl, (set3_node (unhide HN4) (by simp <;> omega) _ _ _).imp fun b hb _ => by simp at hb; omega⟩
    · have hr1 : ¬ right T = true := by rw [hrt]; simpa using hg
      rw [if_neg hr1] at hdec'
      rw [hdec']
      have hg' : (4000 : Int) < (lg 13 T : Nat) := by omega
      clear hdec' hrt hr1
      go_enter Tryd.func18, Tryd.ntmps18
      go_wp2_with fail
      refine (unhide H).mono ?_
      rintro e w2 ⟨hb2, ⟨v, rfl, hN⟩, _⟩
      obtain ⟨vt, vd, va, vl, vc, rfl⟩ := hN.agg
      have hbw : Below w.heap.size w w2 := (unhide HBR).trans (hb2.below (by omega) (by simp))
      have hbx := (hb2.block w.heap.size (by simp <;> omega) (by omega)).trans (unhide HQR)
      have hW2 : w.heap.size < w2.heap.size := (Array.getElem?_eq_some_iff.1 hbx).1
      have HBW := hide (hbw.alloc hbw.size (.cells #[.int .i64 vt, .string vd, .slice va vl vc] 24))
      have HBX := hide ((Below.heap_alloc w2 (.cells #[.int .i64 vt, .string vd, .slice va vl vc] 24) _ hW2).trans hbx)
      have hN3 := hN.below ((Below.refl _ _).alloc (Nat.le_refl _) (.cells #[.int .i64 vt, .string vd, .slice va vl vc] 24))
      have HL := hide (refLong_any 13 T _ _ _ hN3)
      clear hb2 hbw hbx H hN hN3
      go_wp2_with fail
      refine (unhide HL).mono ?_
      rintro e w3 ⟨rfl, hb3⟩
      have hbx3 := (hb3.block _ (Array.getElem?_eq_some_iff.1 (unhide HBX)).1).trans (unhide HBX)
      obtain ⟨⟨y0, y1, y2⟩, z0, z1, z2⟩ := cells3 hbx3
      have HB3 := hide ((unhide HBW).trans (hb3.mono (unhide HBW).size))
      have HBX3 := hide hbx3
      clear hb3 hbx3 HL
      go_wp2
      have hX := set3_heap (unhide HBX3) (.int .i64 0) (.string ⟨#[]⟩) (.slice none 0 0)
      obtain ⟨⟨x0, x1, x2⟩, _⟩ := cells3 hX
      refine bodyPost_ret (v := .tuple #[zeroN, .int .i64 0, .int .i64 21]) (by simp [results, Tryd.results18, go_sem, x0, x1, x2]) rfl ?_
      exact ⟨set3n (unhide HB3) (Nat.le_refl _) _ _ _, rfl⟩
end Go.Proofs.YthibodkemnkjeaaDoor

namespace Go.Proofs.YthibodkemnkjeaaDoor
open Go.RowKit Tv T Go.Shelf

set_option maxRecDepth 100000 in
set_option maxHeartbeats 2000000 in
theorem refWhole_any (s : ByteArray) (w : World) (hs : s.size ≤ 9000) :
    Calls Tryd.prog 20 #[.string s] w (WholePost w (wholeT s.data.toList)) := by
  have hl : s.data.toList.length = s.size := by simp
  have hs' : (s.size : Int) ≤ 9000 := by omega
  have hb0 : Below w.heap.size w (w.alloc (.cells #[.int .i64 0, .string ⟨#[]⟩, .slice none 0 0] 24)) := (Below.refl _ _).alloc (Nat.le_refl _) _
  have hq0 := World.alloc_heap_new w (.cells #[.int .i64 0, .string ⟨#[]⟩, .slice none 0 0] 24)
  have H := hide (refDecodeT_any s 0 (w.alloc (.cells #[.int .i64 0, .string ⟨#[]⟩, .slice none 0 0] 24)) hs)
  have HB0 := hide hb0
  have HQ0 := hide hq0
  clear hb0 hq0
  cases hr : decT s.data.toList 0 with
  | error E =>
    have hE := dec_err hr
    have tE : (E == 0) = false := beq_eq_false_iff_ne.2 hE
    rw [hr] at H
    rw [show wholeT s.data.toList = .error E by unfold wholeT; rw [hr]]
    clear hr hE
    go_enter Tryd.func20, Tryd.ntmps20
    go_wp2_with fail
    refine (unhide H).mono ?_
    rintro e w2 ⟨hb2, rfl⟩
    have hbw := (unhide HB0).trans (hb2.mono (unhide HB0).size)
    have hbx := (hb2.block w.heap.size (by simp)).trans (unhide HQ0)
    have hW2 : w.heap.size < w2.heap.size := (Array.getElem?_eq_some_iff.1 hbx).1
    obtain ⟨⟨y0, y1, y2⟩, z0, z1, z2⟩ := cells3 hbx
    have HBW := hide hbw
    have HBX := hide hbx
    clear hb2 hbw hbx H
    go_wp2
    have hX : ((((w2.setCell ⟨w.heap.size, 0, none⟩ (.int .i64 0)).setCell ⟨w.heap.size, 1, none⟩ (.string ⟨#[]⟩)).setCell ⟨w.heap.size, 2, none⟩ (.slice none 0 0)).alloc (.cells #[.int .i64 0, .string ⟨#[]⟩, .slice none 0 0] 24)).heap[w.heap.size]? = some (.cells #[.int .i64 0, .string ⟨#[]⟩, .slice none 0 0] 24 (0, 0)) :=
      (Below.heap_alloc _ _ _ (by rw [size_set3]; exact hW2)).trans (set3_heap (unhide HBX) _ _ _)
    obtain ⟨⟨x0, x1, x2⟩, _⟩ := cells3 hX
    refine bodyPost_ret (v := .tuple #[zeroN, .int .i64 E]) (by simp [results, Tryd.results20, go_sem, x0, x1, x2]) rfl ?_
    exact ⟨(set3n (unhide HBW) (Nat.le_refl _) _ _ _).alloc (by rw [size_set3]; omega) _, rfl⟩
  | ok r =>
    obtain ⟨T, nx⟩ := r
    obtain ⟨_, _, _, hnl⟩ := dec_right hr
    rw [hl] at hnl
    have hw : wholeT s.data.toList = if nx < s.size then .error 11 else .ok T := by unfold wholeT; rw [hr]; simp only [hl]
    rw [hr] at H
    clear hr
    by_cases hn : nx < s.size
    · rw [hw, if_pos hn]
      have tn : ((nx : Int) != s.size) = true := by simp; omega
      clear hw
      go_enter Tryd.func20, Tryd.ntmps20
      go_wp2_with fail
      refine (unhide H).mono ?_
      rintro e w2 ⟨hb2, v, rfl, hN⟩
      obtain ⟨vt, vd, va, vl, vc, rfl⟩ := hN.agg
      have hbw := (unhide HB0).trans (hb2.mono (unhide HB0).size)
      have hbx := (hb2.block w.heap.size (by simp)).trans (unhide HQ0)
      have hW2 : w.heap.size < w2.heap.size := (Array.getElem?_eq_some_iff.1 hbx).1
      obtain ⟨⟨y0, y1, y2⟩, z0, z1, z2⟩ := cells3 hbx
      have HBW := hide hbw
      have HBX := hide hbx
      have HN := hide hN
      clear hb2 hbw hbx H hN
      go_wp2
      have hX : ((((w2.setCell ⟨w.heap.size, 0, none⟩ (.int .i64 0)).setCell ⟨w.heap.size, 1, none⟩ (.string ⟨#[]⟩)).setCell ⟨w.heap.size, 2, none⟩ (.slice none 0 0)).alloc (.cells #[.int .i64 vt, .string vd, .slice va vl vc] 24)).heap[w.heap.size]? = some (.cells #[(.int .i64 0), (.string ⟨#[]⟩), (.slice none 0 0)] 24 (0, 0)) :=
        (Below.heap_alloc _ _ _ (by rw [size_set3]; exact hW2)).trans (set3_heap (unhide HBX) _ _ _)
      obtain ⟨⟨x0, x1, x2⟩, _⟩ := cells3 hX
      refine bodyPost_ret (v := .tuple #[zeroN, .int .i64 11]) (by simp [results, Tryd.results20, go_sem, x0, x1, x2]) rfl ?_
      exact ⟨(set3n (unhide HBW) (Nat.le_refl _) _ _ _).alloc (by rw [size_set3]; omega) _, rfl⟩
    · rw [hw, if_neg hn]
      obtain rfl : nx = s.size := by omega
      clear hw hn hnl
      go_enter Tryd.func20, Tryd.ntmps20
      go_wp2_with fail
      refine (unhide H).mono ?_
      rintro e w2 ⟨hb2, v, rfl, hN⟩
      obtain ⟨vt, vd, va, vl, vc, rfl⟩ := hN.agg
      have hbw := (unhide HB0).trans (hb2.mono (unhide HB0).size)
      have hbx := (hb2.block w.heap.size (by simp)).trans (unhide HQ0)
      have hW2 : w.heap.size < w2.heap.size := (Array.getElem?_eq_some_iff.1 hbx).1
      obtain ⟨⟨y0, y1, y2⟩, z0, z1, z2⟩ := cells3 hbx
      have HBW := hide hbw
      have HBX := hide hbx
      have HN := hide hN
      clear hb2 hbw hbx H hN
      go_wp2
      have hX : ((((w2.setCell ⟨w.heap.size, 0, none⟩ (.int .i64 vt)).setCell ⟨w.heap.size, 1, none⟩ (.string vd)).setCell ⟨w.heap.size, 2, none⟩ (.slice va vl vc)).alloc (.cells #[.int .i64 vt, .string vd, .slice va vl vc] 24)).heap[w.heap.size]? = some (.cells #[(.int .i64 vt), (.string vd), (.slice va vl vc)] 24 (0, 0)) :=
        (Below.heap_alloc _ _ _ (by rw [size_set3]; exact hW2)).trans (set3_heap (unhide HBX) _ _ _)
      obtain ⟨⟨x0, x1, x2⟩, _⟩ := cells3 hX
      refine bodyPost_ret (v := .tuple #[.agg #[.int .i64 vt, .string vd, .slice va vl vc], .int .i64 0]) (by simp [results, Tryd.results20, go_sem, x0, x1, x2]) rfl ?_
      have hN5 := (set3_node (b := w.heap.size) (unhide HN) (by simp) (.int .i64 vt) (.string vd) (.slice va vl vc)).below ((Below.refl _ _).alloc (Nat.le_refl _) (.cells #[.int .i64 vt, .string vd, .slice va vl vc] 24))
      exact ⟨(set3n (unhide HBW) (Nat.le_refl _) _ _ _).alloc (by rw [size_set3]; omega) _, _, rfl, hN5.imp fun b hb _ => by simp at hb; omega⟩
end Go.Proofs.YthibodkemnkjeaaDoor
