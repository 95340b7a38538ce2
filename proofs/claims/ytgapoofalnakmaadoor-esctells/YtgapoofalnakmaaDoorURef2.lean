/-
  What the document's own answers of layer 4 say: Bad, Right. Conditions: none.
-/
import Derived.Test.YtgapoofalnakmaaDoorUOneAny
namespace Go.Proofs.YtgapoofalnakmaaDoor.U
open Go Go.RowKit

theorem step {w w1 w2 : World} (h : Below w.heap.size w w1) (k : Below w1.heap.size w1 w2) : Below w.heap.size w w2 := h.trans (k.mono h.size)
/-- what is left of a text from a place on. -/
def Left (s : ByteArray) (r : List UInt8) (p : Nat) (ds : List Nat) : Prop := s.data.toList.drop p = Ut.fl ds ++ r ∧ (∀ c ∈ ds, Ut.sg c) ∧ p ≤ s.size
theorem Left.next {s : ByteArray} {r : List UInt8} {p c : Nat} {ds : List Nat} (h : Left s r p (c :: ds)) : p < s.size ∧ ov s p = (c, (Ut.enc c).length) ∧ Left s r (p + (Ut.enc c).length) ds := by
  obtain ⟨h1, h2, h3⟩ := h
  have e : s.data.toList.drop p = Ut.enc c ++ (Ut.fl ds ++ r) := by rw [h1]; simp [Ut.fl]
  have hl : (Ut.enc c).length + (Ut.fl ds ++ r).length = s.size - p := by rw [← List.length_append, ← e, len_drop]
  have hpos := Ut.enc_pos c
  refine ⟨by omega, ov_some (by rw [e]; exact Ut.dc_enc c (h2 c (by simp)) _), ?_, fun x hx => h2 x (by simp [hx]), by omega⟩
  rw [← List.drop_drop, e]
  simp
theorem Left.stop {s : ByteArray} {r : List UInt8} {p : Nat} (h : Left s r p []) (hr : Ut.dc r = none) : (r = [] → p = s.size) ∧ (r ≠ [] → p < s.size ∧ ov s p = (0, 0)) := by
  obtain ⟨h1, _, h3⟩ := h
  have e : s.data.toList.drop p = r := h1
  have hl : r.length = s.size - p := by rw [← e, len_drop]
  refine ⟨fun h => by rw [h] at hl; simp at hl; omega, fun h => ⟨?_, ov_none (by rw [e]; exact hr)⟩⟩
  have := List.length_pos_iff.2 h
  omega
theorem Left.start {s : ByteArray} {cs : List Nat} {r : List UInt8} (h : Ut.Is s.data.toList cs r) : Left s r 0 cs := ⟨by rw [List.drop_zero]; exact h.eq, h.all, Nat.zero_le _⟩

set_option maxRecDepth 100000 in
set_option maxHeartbeats 2000000 in
theorem refBad_any (s : ByteArray) (w : World) (hs : s.size ≤ 1000) :
    Calls Tryd.prog 39 #[.string s] w fun e w' => e = .returned (.int .i64 (pv (bad s))) ∧ Below w.heap.size w w' := by
  obtain ⟨cs, r, hi⟩ := Ut.is_ex s.data.toList
  have hb := bad_is hi
  have hstart := Left.start hi
  have hr := hi.none
  clear hi
  have hz : (s.size : Int) ≤ 1000 := by omega
  go_enter Tryd.func39, Tryd.ntmps39
  go_wp2
  go_loopw [3] (fun x wr => ∃ (p : Nat) (ds : List Nat), x = .int .i64 (p : Int) ∧ Left s r p ds ∧ p + (Ut.fl ds).length = (Ut.fl cs).length ∧ Below w.heap.size w wr)
    (fun x _ => s.size - (intOf x).toNat)
  case atStart => exact ⟨0, cs, rfl, hstart, by omega, Below.refl _ _⟩
  case round =>
    obtain ⟨p, ds, rfl, hL, hlen, hbl⟩ := hrel
    clear hstart
    cases ds with
    | cons c ds =>
      obtain ⟨h1, h2, h3⟩ := hL.next
      have H := one_any s p wr h1 hs
      rw [h2] at H
      have H1 := hide H
      have hpos := Ut.enc_pos c
      have hle := h3.2.2
      have h1' : (p : Int) < s.size := by omega
      have HL := hide h3
      have Hlen := hide hlen
      have HB := hide hbl
      generalize hk : (Ut.enc c).length = k at *
      have hk0 : ((k : Int) == 0) = false := beq_eq_false_iff_ne.2 (by omega)
      have hk1 : (p : Int) + k ≤ 1000 := by omega
      have Hk := hide hk
      have Hpos := hide hpos
      have Hle := hide hle
      clear H h2 h3 hL hlen hbl hk hpos hle hb hr
      go_wp2_with fail
      refine (unhide H1).mono ?_
      rintro e w1 ⟨rfl, hb1⟩
      have HB1 := hide hb1
      clear hb1
      go_wp2
      go_roundw
      case rel =>
        refine ⟨p + k, ds, by simp, unhide HL, ?_, step (unhide HB) (unhide HB1)⟩
        have h1 := unhide Hlen
        have h2 := unhide Hk
        simp only [Ut.fl, List.length_append] at h1
        omega
      case measure =>
        have := unhide Hpos
        have := unhide Hle
        simp [intOf]
        omega
    | nil =>
      obtain ⟨s1, s2⟩ := hL.stop hr
      have hp : p = (Ut.fl cs).length := by simpa [Ut.fl] using hlen
      by_cases h0 : r = []
      · have hps := s1 h0
        have hge : ¬ (p : Int) < s.size := by omega
        have HB := hide hbl
        rw [if_pos h0] at hb
        have HBD := hide hb
        clear hL s1 s2 hlen hb hr hbl h0 hp hps
        go_wp2
        go_ret
        refine ⟨?_, unhide HB⟩
        rw [unhide HBD]
        rfl
      · obtain ⟨h1, h2⟩ := s2 h0
        have H := one_any s p wr h1 hs
        rw [h2] at H
        have H1 := hide H
        have h1' : (p : Int) < s.size := by omega
        have HB := hide hbl
        rw [if_neg h0, ← hp] at hb
        have HBD := hide hb
        clear hL s1 s2 hlen hb hr hbl h0 hp H h2
        go_wp2_with fail
        refine (unhide H1).mono ?_
        rintro e w1 ⟨rfl, hb1⟩
        have HB1 := hide hb1
        clear hb1
        go_wp2
        go_ret
        refine ⟨?_, step (unhide HB) (unhide HB1)⟩
        rw [unhide HBD]
        rfl

theorem refRight_any (s : ByteArray) (w : World) (hs : s.size ≤ 1000) :
    Calls Tryd.prog 28 #[.string s] w fun e w' => e = .returned (.bool (bad s).isNone) ∧ Below w.heap.size w w' := by
  have H := hide (refBad_any s w hs)
  generalize bad s = o at *
  cases o with
  | none =>
    have H' : Hid (Calls Tryd.prog 39 #[.string s] w fun e w' => e = .returned (.int .i64 (-1)) ∧ Below w.heap.size w w') := H
    clear H
    go_enter Tryd.func28, Tryd.ntmps28
    go_wp2_with fail
    refine (unhide H').mono ?_
    rintro e w1 ⟨rfl, hb1⟩
    have HB1 := hide hb1
    clear hb1
    go_wp2
    go_ret
    exact ⟨rfl, unhide HB1⟩
  | some p =>
    have H' : Hid (Calls Tryd.prog 39 #[.string s] w fun e w' => e = .returned (.int .i64 (p : Int)) ∧ Below w.heap.size w w') := H
    have hn : ¬ (p : Int) < 0 := by omega
    clear H
    go_enter Tryd.func28, Tryd.ntmps28
    go_wp2_with fail
    refine (unhide H').mono ?_
    rintro e w1 ⟨rfl, hb1⟩
    have HB1 := hide hb1
    clear hb1
    go_wp2
    go_ret
    exact ⟨rfl, unhide HB1⟩
end Go.Proofs.YtgapoofalnakmaaDoor.U
