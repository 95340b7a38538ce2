/-
  What utf.Text, Signs and Bad answer, at every input. Conditions: the package-level variables hold what the program's text lays ('Glob').
-/
import Derived.Test.YtpfopmjpchiekaaDoorUBytes
import Derived.Test.YtpfopmjpchiekaaDoorUSigns
import Derived.Test.YtpfopmjpchiekaaDoorUFault
namespace Go.Proofs.YtpfopmjpchiekaaDoor.U
open Go Go.RowKit

theorem bad_any (s : ByteArray) (aU aS : Addr) (w : World) (g : Glob aU aS w) (hs : s.size ≤ 1000) :
    Calls Tryd.prog 19 #[.string s] w fun e w' => e = .returned (.int .i64 (pv (bad s))) ∧ Below w.heap.size w w' := by
  have H := hide (checkRight_any s aU aS w g hs)
  have H2 := hide fun w1 (hb : Below w.heap.size w w1) => placeOf_any (bad s) aU aS w1 (g.below (Nat.le_refl _) hb)
  clear g
  go_enter Tryd.func19, Tryd.ntmps19
  go_wp2_with fail
  refine (unhide H).mono ?_
  rintro e w1 ⟨rfl, hb⟩
  have HB := hide hb
  clear hb
  go_wp2_with fail
  refine ((unhide H2) _ (unhide HB)).mono ?_
  rintro e w2 ⟨rfl, hb⟩
  have HB2 := hide hb
  clear hb
  go_wp2
  go_ret
  exact ⟨rfl, (unhide HB).trans ((unhide HB2).mono (unhide HB).size)⟩

/-- what Text answers. -/
def txt (l : List Int) : ByteArray × Int := if l.all isg then (⟨(byt l).toArray⟩, 0) else (⟨#[]⟩, 40)
set_option maxRecDepth 100000 in
theorem text_any (l : List Int) (v : Value) (aU aS : Addr) (w : World) (g : Glob aU aS w) (hl : l.length ≤ 1000) (hv : Lies w v l) :
    Calls Tryd.prog 15 #[v] w fun e w' => e = .returned (.tuple #[.string (txt l).1, .int .i64 (txt l).2]) ∧ Below w.heap.size w w' := by
  have H := bytesOf_any l v w hl hv
  by_cases ha : l.all isg = true
  · have H' := hide (H.mono (R' := fun e w' => e = .returned (.tuple #[.string ⟨(byt l).toArray⟩, .nilIface]) ∧ Below w.heap.size w w') (fun e w' ⟨hb, he⟩ => ⟨(by rcases he with ⟨_, he⟩ | ⟨he, _⟩; exact he; rw [ha] at he; cases he), hb⟩))
    rw [show txt l = (⟨(byt l).toArray⟩, 0) by unfold txt; rw [if_pos ha]]
    generalize (⟨(byt l).toArray⟩ : ByteArray) = t at *
    clear H g hv ha
    go_enter Tryd.func15, Tryd.ntmps15
    go_wp2_with fail
    refine (unhide H').mono ?_
    rintro e w1 ⟨rfl, hb⟩
    have HB := hide hb
    clear hb
    go_wp2
    go_ret2
    exact ⟨rfl, unhide HB⟩
  · have ha' : l.all isg = false := by simpa using ha
    have H' := hide (H.mono (R' := fun e w' => (∃ i n, e = .returned (.tuple #[.string ⟨#[]⟩, nos i n])) ∧ Below w.heap.size w w') (fun e w' ⟨hb, he⟩ => ⟨(by rcases he with ⟨he, _⟩ | ⟨_, he⟩; rw [ha'] at he; cases he; exact he), hb⟩))
    have H2 := hide fun i n w1 (hb : Below w.heap.size w w1) => errnoOf_sign _ _ (as2 n i) aU aS w1 (g.below (Nat.le_refl _) hb)
    rw [show txt l = (⟨#[]⟩, 40) by unfold txt; rw [if_neg ha]]
    clear H g hv ha ha'
    go_enter Tryd.func15, Tryd.ntmps15
    go_wp2_with fail
    refine (unhide H').mono ?_
    rintro e w1 ⟨⟨i, n, rfl⟩, hb⟩
    have HB := hide hb
    clear hb
    go_wp2_with fail
    refine ((unhide H2) i n _ (unhide HB)).mono ?_
    rintro e w2 ⟨rfl, hb⟩
    have HB2 := hide hb
    clear hb
    go_wp2
    go_ret2
    exact ⟨rfl, (unhide HB).trans ((unhide HB2).mono (unhide HB).size)⟩

theorem IsL.lies {w w' : World} {v : Value} {l : List Nat} (h : IsL w w' v l) : Lies w' v (l.map Int.ofNat) := by
  unfold IsL at h
  rcases h.2 with ⟨rfl, h0⟩ | ⟨g, cap, cur, rfl, _⟩
  · exact ⟨none, 0, by simp [h0], .inl (by simpa using h0)⟩
  · refine ⟨_, cap, by simp, .inr ⟨g, 0, rfl, fun i n hn => ?_⟩⟩
    have := h.cells (g := g) rfl i (.int .i64 n) (by
      simp only [ints, List.getElem?_map] at hn ⊢
      cases hi : l[i]? with
      | none => rw [hi] at hn; cases hn
      | some m => rw [hi] at hn; cases hn; rfl)
    rw [Addr.add_lit] at this
    exact this
/-- what Signs leaves. -/
def SPost (s : ByteArray) (w : World) (e : Ending) (w' : World) : Prop := Below w.heap.size w w' ∧
  ((bad s = none ∧ ∃ v, e = .returned (.tuple #[v, .int .i64 0]) ∧ Lies w' v (((all s).map (·.n)).map Int.ofNat)) ∨ (bad s ≠ none ∧ e = .returned (.tuple #[.slice none 0 0, .int .i64 40])))
set_option maxRecDepth 100000 in
theorem signs_door (s : ByteArray) (aU aS : Addr) (w : World) (g : Glob aU aS w) (hs : s.size ≤ 1000) :
    Calls Tryd.prog 13 #[.string s] w (SPost s w) := by
  have H := checkRight_any s aU aS w g hs
  cases hbd : bad s with
  | none =>
    rw [hbd] at H
    have H1 := hide H
    have H2 := hide fun w1 => signsOf_any s w1 hs
    have Hbd := hide hbd
    clear H hbd g
    go_enter Tryd.func13, Tryd.ntmps13
    go_wp2_with fail
    refine (unhide H1).mono ?_
    rintro e w1 ⟨rfl, hb⟩
    unfold fv
    have HB := hide hb
    clear hb
    go_wp2_with fail
    refine ((unhide H2) _).mono ?_
    rintro e w2 ⟨v, rfl, hl, hb⟩
    have HB2 := hide hb
    have HL := hide hl
    clear hb hl
    go_wp2
    go_ret2
    exact ⟨(unhide HB).trans ((unhide HB2).mono (unhide HB).size), .inl ⟨unhide Hbd, v, rfl, (unhide HL).lies⟩⟩
  | some p =>
    rw [hbd] at H
    have H1 := hide H
    have H2 := hide fun w1 (hb : Below w.heap.size w w1) => errnoOf_utf p aU aS w1 (g.below (Nat.le_refl _) hb)
    have Hbd := hide hbd
    clear H hbd g
    go_enter Tryd.func13, Tryd.ntmps13
    go_wp2_with fail
    refine (unhide H1).mono ?_
    rintro e w1 ⟨rfl, hb⟩
    unfold fv
    have HB := hide hb
    clear hb
    go_wp2_with fail
    refine ((unhide H2) _ (unhide HB)).mono ?_
    rintro e w2 ⟨rfl, hb⟩
    have HB2 := hide hb
    clear hb
    go_wp2
    go_ret2
    exact ⟨(unhide HB).trans ((unhide HB2).mono (unhide HB).size), .inr ⟨by rw [unhide Hbd]; simp, rfl⟩⟩
end Go.Proofs.YtpfopmjpchiekaaDoor.U
