/-
  What utf.bytesOf and Text answer: signs' bytes. Conditions: the package-level variables hold what the program's text lays ('Glob').
-/
import Derived.Test.YtpfopmjpchiekaaDoorUErrno
import Derived.Test.YtpfopmjpchiekaaDoorUStand2
namespace Go.Proofs.YtpfopmjpchiekaaDoor.U
open Go Go.RowKit

/-- a slice that holds these numbers. -/
def Lies (W : World) (v : Value) (l : List Int) : Prop := ∃ a c, v = .slice a l.length c ∧ (l = [] ∨ ∃ b o, a = some ⟨b, o, none⟩ ∧ ∀ (i : Nat) n, l[i]? = some n → W.cell? ⟨b, o + i, none⟩ = some (.int .i64 n))
theorem Lies.below {W W' : World} {v : Value} {l : List Int} (h : Lies W v l) {B : Nat} (hB : W.heap.size ≤ B) (hb : Below B W W') : Lies W' v l := by
  obtain ⟨a, c, rfl, h | ⟨b, o, rfl, h⟩⟩ := h
  · exact ⟨a, c, rfl, .inl h⟩
  · exact ⟨_, c, rfl, .inr ⟨b, o, rfl, fun i n hn => by have := h i n hn; rw [hb.cell (Nat.lt_of_lt_of_le (lt_of_cell this) hB)]; exact this⟩⟩

/-- their bytes. -/
def byt (l : List Int) : List UInt8 := Ut.fl (l.map Int.toNat)
theorem byt_snoc (l : List Int) (n : Int) : byt (l ++ [n]) = byt l ++ Ut.enc n.toNat := by
  unfold byt
  rw [List.map_append, Ut.fl_append]
  simp [Ut.fl]
theorem byt_le (l : List Int) : (byt l).length ≤ 4 * l.length := by
  induction l with
  | nil => exact Nat.le_refl _
  | cons n l ih =>
    have := Ut.enc_le n.toNat
    have e : byt (n :: l) = Ut.enc n.toNat ++ byt l := rfl
    rw [e, List.length_append, List.length_cons]
    omega
abbrev nos (i n : Int) : Value := .iface 62 (.agg #[.int .i64 i, .iface 52 (.agg #[.int .i64 n])])
/-- what bytesOf leaves. -/
def BPost (l : List Int) (w : World) (e : Ending) (w' : World) : Prop := Below w.heap.size w w' ∧
  ((l.all isg = true ∧ e = .returned (.tuple #[.string ⟨(byt l).toArray⟩, .nilIface])) ∨ (l.all isg = false ∧ ∃ i n, e = .returned (.tuple #[.string ⟨#[]⟩, nos i n])))

theorem conv_nil (w : World) : (convert 37 9 (.slice none 0 0)).run Tryd.prog w = .ok (.string ⟨#[]⟩) w := by kernel_rfl
theorem conv_row {w : World} {base k : Nat} {sl : Value} {l : List UInt8} (ho : w.ownsRow base 5 1 sl k (cells l)) (hk : l.length = k) :
    (convert 37 9 sl).run Tryd.prog w = .ok (.string ⟨l.toArray⟩) w := by
  rcases ho.2 with ⟨rfl, h0⟩ | ⟨g, cap, cur, rfl, hg, hc, h1, h2, h3, h4⟩
  · have : l = [] := List.length_eq_zero_iff.1 (by omega)
    subst this
    exact conv_nil w
  · rw [← nums_str]
    refine run_convert_bytes_arg w _ _ Tryd.underlying37 Tryd.underlying5 g 0 k cap (l.map fun x => (x.toNat : Int)) (by simpa using hk) (fun i hi => ?_) _ Tryd.underlying9
    have hi' : i < l.length := by omega
    have := ho.cells (g := g) rfl i (.int .u8 (l[i].toNat : Int)) (by simp [cells, List.getElem?_eq_getElem hi'])
    rw [Addr.add_lit] at this
    rw [this]
    simp [List.getD_eq_getElem?_getD, List.getElem?_eq_getElem hi']

theorem isg_nat {n : Int} (h : isg n = true) : ∃ m : Nat, n = m ∧ m ≤ 1114111 := by
  have := of_decide_eq_true h
  exact ⟨n.toNat, by omega, by omega⟩

set_option maxRecDepth 100000 in
set_option maxHeartbeats 2000000 in
theorem bytesOf_any (l : List Int) (v : Value) (w : World) (hl : l.length ≤ 1000) (hv : Lies w v l) :
    Calls Tryd.prog 28 #[v] w (BPost l w) := by
  obtain ⟨a, c, rfl, hc⟩ := hv
  go_enter Tryd.func28, Tryd.ntmps28
  go_wp2
  go_loopw [4, 9] (fun sl ix wr => ∃ j : Nat, j ≤ l.length ∧ ix = .int .i64 (j : Int) ∧ (l.take j).all isg = true ∧ wr.ownsRow w.heap.size 5 1 sl (byt (l.take j)).length (cells (byt (l.take j))) ∧ Below w.heap.size w wr)
    (fun _ ix _ => l.length - (intOf ix).toNat)
  case atStart =>
    exact ⟨0, Nat.zero_le _, rfl, rfl, World.ownsRow_nil _ _ _ _, Below.refl _ _⟩
  case round =>
    obtain ⟨j, hj, rfl, hall, ho, hb⟩ := hrel
    by_cases hlt : j < l.length
    · obtain ⟨n, hn⟩ : ∃ n, l[j]? = some n := ⟨_, List.getElem?_eq_getElem hlt⟩
      obtain ⟨b, o, rfl, hcell⟩ : ∃ b o, a = some ⟨b, o, none⟩ ∧ ∀ (i : Nat) n, l[i]? = some n → w.cell? ⟨b, o + i, none⟩ = some (.int .i64 n) := by
        rcases hc with rfl | h
        · simp at hlt
        · exact h
      have hcj : wr.cell? ⟨b, o + j, none⟩ = some (.int .i64 n) := (hb.cell (lt_of_cell (hcell j n hn))).trans (hcell j n hn)
      have hlt' : (j : Int) < l.length := by omega
      have htk : l.take (j + 1) = l.take j ++ [n] := by
        rw [List.take_succ_eq_append_getElem hlt]
        rw [List.getElem?_eq_getElem hlt] at hn
        rw [Option.some.inj hn]
      have HS := hide (isSign_any n wr)
      have HALL := hide hall
      have HO := hide ho
      have HB := hide hb
      have HT := hide htk
      have HN := hide hn
      have hj2 : (j : Int) ≤ 1000 := by omega
      clear hall ho hb htk hn hcell hc
      by_cases hs : isg n = true
      · obtain ⟨m, rfl, hm⟩ := isg_nat hs
        rw [hs] at HS
        have Hs := hide hs
        have hbl := byt_le (l.take j)
        have hA := hide (add_any m wr w.heap.size u4 _ _ hm (unhide HO) (by rw [List.length_take] at hbl; omega) (unhide HB).size)
        have hm' : (m : Int) ≤ 1114111 := by omega
        clear hs hbl hm
        go_wp2_with fail
        refine (unhide HS).mono ?_
        rintro e w1 ⟨rfl, rfl⟩
        go_wp2_with fail
        refine (unhide hA).mono ?_
        rintro e w2 ⟨g', cap', rfl, hown, hb2⟩
        have Hown := hide hown
        have HB2 := hide hb2
        clear hown hb2
        go_wp2
        go_roundw
        case rel =>
          refine ⟨j + 1, by omega, by simp, ?_, ?_, (unhide HB).trans (unhide HB2)⟩
          · rw [unhide HT, List.all_append, unhide HALL]
            simpa using unhide Hs
          · have := unhide Hown
            rw [unhide HT, byt_snoc, List.length_append]
            simpa [cells, wd] using this
        case measure => simp [intOf]; omega
      · have hs' : isg n = false := by simpa using hs
        rw [hs'] at HS
        have Hs := hide hs'
        clear hs hs'
        go_wp2_with fail
        refine (unhide HS).mono ?_
        rintro e w1 ⟨rfl, rfl⟩
        go_wp2
        go_ret2
        refine ⟨unhide HB, .inr ⟨?_, _, _, rfl⟩⟩
        rw [List.all_eq_false]
        exact ⟨n, List.mem_of_getElem? (unhide HN), by rw [unhide Hs]; simp⟩
    · have hge : ¬ (j : Int) < l.length := by omega
      have htk : l.take j = l := List.take_of_length_le (by omega)
      rw [htk] at hall ho
      have hcv := conv_row ho rfl
      have HALL := hide hall
      have HB := hide hb
      clear hall hb ho htk
      go_wp2
      go_ret2
      exact ⟨unhide HB, .inl ⟨unhide HALL, rfl⟩⟩
end Go.Proofs.YtpfopmjpchiekaaDoor.U
