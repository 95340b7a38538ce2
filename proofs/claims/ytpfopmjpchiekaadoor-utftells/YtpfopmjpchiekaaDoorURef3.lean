/-
  What the document's own answers of layer 4 say: Signs, Text. Conditions: none.
-/
import Derived.Test.YtpfopmjpchiekaaDoorURef2
import Derived.Deep.AppendLies
namespace Go.Proofs.YtpfopmjpchiekaaDoor.U
open Go Go.RowKit

/-- what the document's Signs leaves. -/
def RPost (s : ByteArray) (w : World) (e : Ending) (w' : World) : Prop := Below w.heap.size w w' ∧
  ((bad s = none ∧ ∃ a n c, e = .returned (.tuple #[.slice a n c, .int .i64 0]) ∧ Lies w' (.slice a n c) (((all s).map (·.n)).map Int.ofNat)) ∨ (bad s ≠ none ∧ e = .returned (.tuple #[.slice none 0 0, .int .i64 40])))
theorem ints_map (l : List Nat) : ints l = (l.map Int.ofNat).map fun n => Value.int .i64 n := by
  unfold ints
  rw [List.map_map]
  rfl
theorem row_lies {W : World} {base k : Nat} {v : Value} {l : List Nat} (h : W.ownsRow base 3 1 v k (ints l)) (hk : k = l.length) : Lies W v (l.map Int.ofNat) := by
  subst hk
  rcases h.2 with ⟨rfl, h0⟩ | ⟨g, cap, cur, rfl, _⟩
  · exact ⟨none, 0, by simp [h0], .inl (by simpa using h0)⟩
  · refine ⟨_, cap, by simp, .inr ⟨g, 0, rfl, fun i n hn => ?_⟩⟩
    have := h.cells (g := g) rfl i (.int .i64 n) (by rw [ints_map, List.getElem?_map, hn]; rfl)
    rw [Addr.add_lit] at this
    exact this

set_option maxRecDepth 100000 in
set_option maxHeartbeats 2000000 in
theorem refSigns_any (s : ByteArray) (w : World) (hs : s.size ≤ 1000) :
    Calls Tryd.prog 14 #[.string s] w (RPost s w) := by
  obtain ⟨cs, r, hi⟩ := Ut.is_ex s.data.toList
  have hb := bad_is hi
  have H := refRight_any s w hs
  by_cases h0 : r = []
  · subst h0
    rw [if_pos rfl] at hb
    rw [hb] at H
    have H0 := hide H
    have hsg := signs_is hi
    have hstart := Left.start hi
    have hlen : cs.length ≤ 1000 := by
      have h1 : cs.length ≤ (Ut.fl cs).length := by
        clear hi hb H0 H hsg hstart
        induction cs with
        | nil => exact Nat.le_refl _
        | cons c cs ih => have := Ut.enc_pos c; simp only [Ut.fl, List.length_append, List.length_cons]; omega
      have h2 : (Ut.fl cs).length = s.size := by rw [← len_toList, hi.eq]; simp
      omega
    have Hb := hide hb
    have Hsg := hide hsg
    have Hst := hide hstart
    have hz : (s.size : Int) ≤ 1000 := by omega
    clear hi hb H hsg hstart
    go_enter Tryd.func14, Tryd.ntmps14
    go_wp2_with fail
    refine (unhide H0).mono ?_
    rintro e w0 ⟨rfl, hb0⟩
    have HB0 := hide hb0
    clear hb0
    go_wp2
    go_loopw [4, 5] (fun o x wr => ∃ (p : Nat) (es ds : List Nat), x = .int .i64 (p : Int) ∧ cs = es ++ ds ∧ Left s [] p ds ∧ wr.ownsRow w.heap.size 3 1 o es.length (ints es) ∧ Below w.heap.size w wr)
      (fun _ x _ => s.size - (intOf x).toNat)
    case atStart => exact ⟨0, [], cs, rfl, rfl, unhide Hst, World.ownsRow_nil _ _ _ _, unhide HB0⟩
    case round =>
      obtain ⟨p, es, ds, rfl, hcs, hL, ho, hbl⟩ := hrel
      cases ds with
      | cons c ds =>
        obtain ⟨h1, h2, h3⟩ := hL.next
        have H := one_any s p wr h1 hs
        rw [h2] at H
        have H1 := hide H
        have hpos := Ut.enc_pos c
        have hle := h3.2.2
        have h1' : (p : Int) < s.size := by omega
        have hes : es.length ≤ 1000 := by rw [hcs, List.length_append] at hlen; omega
        have HL := hide h3
        have HB := hide hbl
        have HO := hide ho
        have HC := hide hcs
        generalize hk : (Ut.enc c).length = k at *
        have hk1 : (p : Int) + k ≤ 1000 := by omega
        have Hpos := hide hpos
        have Hle := hide hle
        obtain ⟨i0, hi0, hz0, hz1, hz2⟩ := infoI
        clear H h2 h3 hL hbl hk hpos hle hlen hcs ho
        go_wp2_with fail
        refine (unhide H1).mono ?_
        rintro e w1 ⟨rfl, hb1⟩
        have ho1 : w1.ownsRow w.heap.size 3 1 u4 es.length (ints es) := (unhide HO).kept ⟨hb1.os, hb1.tape, hb1.output, hb1.size, fun k hk _ => hb1.block k hk⟩ (row := none) (by cases u4.ownBlock <;> simp)
        have hB1 := step (unhide HB) hb1
        have HNW : Hid (∀ (j : Nat) (u : Value), [Value.int .i64 (c : Int)][j]? = some u → (w1.alloc (.cells #[.int .i64 c] 3)).cell? ((⟨w1.heap.size, 0, none⟩ : Addr).add j) = some u) := news w1 [.int .i64 c] 3
        have HO1 := hide (ho1.alloc (.cells #[.int .i64 c] 3))
        have HO0 := hide ho1
        have hsz := hB1.size
        have HB1 := hide hB1
        clear hb1 ho1 hB1
        go_wp2_with (at_builtin; refine wpList_append_lies _ rfl (.tmp 21) (.tmp 23) 22 rfl w.heap.size 3 i0 (.int .i64 0) 1 8 Tryd.underlying22 hi0 hz0 hz1 hz2 rfl (by omega) u4 es.length (ints es) rfl (unhide HO1) ⟨w1.heap.size, 0, none⟩ 1 1 [.int .i64 c] rfl rfl (unhide HNW) (by simp [Value.oneCell']) (by omega) (by unfold maxLen; omega) (by omega) (by simp; omega) (w1.heap.size + 1) (by simp) ?_; intro g1 k1 v1 hown1 hgrow1 hat1 hlt1; replace hown1 := hide hown1; replace hgrow1 := hide hgrow1; clear hat1 hlt1)
        go_roundw
        case rel =>
          refine ⟨p + k, es ++ [c], ds, by simp, ?_, unhide HL, ?_, ?_⟩
          · rw [unhide HC]; simp
          · have := unhide hown1
            simpa [ints] using this
          · have hg := unhide hgrow1
            have hB := (unhide HB1).alloc (unhide HB1).size (.cells #[.int .i64 c] 3)
            exact ⟨hg.os.trans hB.os, hg.tape.trans hB.tape, hg.output.trans hB.output, Nat.le_trans hB.size hg.size, fun i hi => (hg.block i (Nat.lt_of_lt_of_le hi hB.size) (fun e => by have := ((unhide HO0).lt i e.symm).1; omega)).trans (hB.block i hi)⟩
        case measure =>
          have := unhide Hpos
          have := unhide Hle
          simp [intOf]
          omega
      | nil =>
        have hps := (hL.stop rfl).1 rfl
        have hge : ¬ (p : Int) < s.size := by omega
        rw [List.append_nil] at hcs
        subst hcs
        obtain ⟨a, n, c, rfl⟩ : ∃ a n c, u4 = .slice a n c := by
          rcases ho.2 with ⟨rfl, _⟩ | ⟨g', cap, cur, rfl, _⟩
          · exact ⟨_, _, _, rfl⟩
          · exact ⟨_, _, _, rfl⟩
        have HB := hide hbl
        have HO := hide ho
        clear hL hbl ho hps
        go_wp2
        go_ret2
        refine ⟨unhide HB, .inl ⟨unhide Hb, a, n, c, rfl, ?_⟩⟩
        rw [unhide Hsg]
        exact row_lies (unhide HO) rfl
  · rw [if_neg h0] at hb
    rw [hb] at H
    have H0 := hide H
    have Hb := hide hb
    clear hi hb H h0
    go_enter Tryd.func14, Tryd.ntmps14
    go_wp2_with fail
    refine (unhide H0).mono ?_
    rintro e w0 ⟨rfl, hb0⟩
    have HB0 := hide hb0
    clear hb0
    go_wp2
    go_ret2
    exact ⟨unhide HB0, .inr ⟨by rw [unhide Hb]; simp, rfl⟩⟩
end Go.Proofs.YtpfopmjpchiekaaDoor.U
