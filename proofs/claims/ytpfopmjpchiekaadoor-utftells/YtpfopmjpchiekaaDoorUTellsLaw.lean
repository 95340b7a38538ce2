/-
  latinerlaw04.UtfTells returns true at every text and numbers: the program says of them what the document says: which texts are right, where they are not, their signs, signs' bytes, which are safe. Conditions: the package-level variables hold what the program's text lays (the card ties them).
-/
import Derived.Test.YtpfopmjpchiekaaDoorULaid
import Derived.Test.YtpfopmjpchiekaaDoorURight
import Derived.Laws.DeepStrings4
import Derived.Test.YtpfopmjpchiekaaDoorURef4
namespace Go.Proofs.YtpfopmjpchiekaaDoor.U.tells
open Go Go.RowKit Go.ChangeShapes Go.WideShapes Go.ChangeAt Go.ChangeMaps

theorem lies_nil (W : World) : Lies W (.slice none 0 0) [] := ⟨none, 0, rfl, .inl rfl⟩
theorem few_keeps {w : World} {a : Option Addr} {n c : Nat} {l : List Int} (h : Arg w (.slice a n c) l) : Keeps w 12 #[.slice a n c] (.slice a (min n 40) c) :=
  fun w1 _ => (few_any a n c l w1 w h).mono fun e w' ⟨he, hw⟩ => ⟨he, by rw [hw]; exact Below.refl _ _⟩
/-- what the document's Text says of numbers that lie in memory. -/
def KTextR (w : World) (l : List Int) (t : ByteArray) (n : Int) : Prop :=
  ∀ w1 v, Below w.heap.size w w1 → Lies w1 v l → Calls Tryd.prog 16 #[v] w1 fun e w' => e = .returned (.tuple #[.string t, .int .i64 n]) ∧ Below w1.heap.size w1 w'
/-- what the document's Signs says of a text that is right. -/
def KSignsR (w : World) (s : ByteArray) (cs : List Int) : Prop :=
  ∀ w1, Below w.heap.size w w1 → Calls Tryd.prog 14 #[.string s] w1 fun e w' => ∃ a n c, e = .returned (.tuple #[.slice a n c, .int .i64 0]) ∧ n = cs.length ∧ Lies w' (.slice a n c) cs ∧ Below w1.heap.size w1 w'
theorem K_signsR {w : World} (s : ByteArray) (hs : s.size ≤ 1000) (hb : bad s = none) (cs : List Nat) (hc : (all s).map (·.n) = cs) : KSignsR w s (cs.map Int.ofNat) :=
  fun w1 h1 => (refSigns_any s w1 hs).mono fun e w' ⟨hb', he⟩ => by
    rcases he with ⟨_, a, n, c, he, hl⟩ | ⟨he, _⟩
    · rw [hc] at hl
      have hl' := hl
      obtain ⟨a2, c2, e2, _⟩ := hl
      cases e2
      exact ⟨a, _, c, he, rfl, hl', hb'⟩
    · exact absurd hb he
theorem K_signsBadR {w : World} (s : ByteArray) (hs : s.size ≤ 1000) (hb : bad s ≠ none) : Keeps w 14 #[.string s] (.tuple #[.slice none 0 0, .int .i64 40]) :=
  fun w1 _ => (refSigns_any s w1 hs).mono fun e w' ⟨hb', he⟩ => by
    rcases he with ⟨he, _⟩ | ⟨_, he⟩
    · exact absurd he hb
    · exact ⟨he, hb'⟩

set_option maxRecDepth 100000 in
set_option maxHeartbeats 2000000 in
theorem wr (s p u : ByteArray) (a : Option Addr) (n n1 c : Nat) (l : List Int) (w : World) (x y : Int) (r f : Bool) (LA_0 : Hid (Lies w (.slice a n1 c) l)) (e0 : Hid (Keeps w 10 #[] (.bool true))) (e1 : Hid (Keeps w 11 #[.string s] (.string p))) (e2 : Hid (Keeps w 12 #[.slice a n c] (.slice a n1 c))) (e5 : Hid (KText w l u y)) (e6 : Hid (KTextR w l u y)) (e7 : Hid (Keeps w 17 #[.string p] (.bool r))) (e8 : Hid (Keeps w 18 #[.string p] (.bool r))) (e9 : Hid (Keeps w 19 #[.string p] (.int .i64 x))) (e10 : Hid (Keeps w 20 #[.string p] (.int .i64 x))) (e12 : Hid (Keeps w 22 #[.string p] (.bool f))) (e13 : Hid (Keeps w 23 #[.string p] (.bool f))) (cs : List Int) (e3 : Hid (KSigns w p cs)) (e4 : Hid (KSignsR w p cs)) (e11 : Hid (KInts w cs cs true)) :
    Calls Tryd.prog 3 #[.string s, .slice a n c] w fun e w' => e = .returned (.bool true) ∧ Below w.heap.size w w' := by
  go_enter Tryd.func3, Tryd.ntmps3
  go_wp2_with fail
  refine ((unhide e0) _ (Below.refl _ _)).mono ?_
  rintro e w1 ⟨rfl, hb⟩
  have B1 := hide (step (Below.refl _ _) hb)
  have LA_1 := hide ((unhide LA_0).below (Nat.le_refl _) hb)
  clear hb
  go_wp2_with fail
  refine ((unhide e1) _ (unhide B1)).mono ?_
  rintro e w2 ⟨rfl, hb⟩
  have B2 := hide (step (unhide B1) hb)
  have LA_2 := hide ((unhide LA_1).below (Nat.le_refl _) hb)
  clear hb
  go_wp2_with fail
  refine ((unhide e2) _ (unhide B2)).mono ?_
  rintro e w3 ⟨rfl, hb⟩
  have B3 := hide (step (unhide B2) hb)
  have LA_3 := hide ((unhide LA_2).below (Nat.le_refl _) hb)
  clear hb
  go_wp2_with fail
  refine ((unhide e3) _ (unhide B3)).mono ?_
  rintro e w4 ⟨aX, nX, cX, rfl, hnX, hl, hb⟩
  have B4 := hide (step (unhide B3) hb)
  have LA_4 := hide ((unhide LA_3).below (Nat.le_refl _) hb)
  have LX_4 := hide hl
  clear hb hl
  clear hnX
  go_wp2_with fail
  refine ((unhide e4) _ (unhide B4)).mono ?_
  rintro e w5 ⟨aY, nY, cY, rfl, hnY, hl, hb⟩
  have B5 := hide (step (unhide B4) hb)
  have LA_5 := hide ((unhide LA_4).below (Nat.le_refl _) hb)
  have LX_5 := hide ((unhide LX_4).below (Nat.le_refl _) hb)
  have LY_5 := hide hl
  clear hb hl
  clear hnY
  go_wp2_with fail
  refine ((unhide e5) _ _ (unhide B5) (unhide LA_5)).mono ?_
  rintro e w6 ⟨rfl, hb⟩
  have B6 := hide (step (unhide B5) hb)
  have LA_6 := hide ((unhide LA_5).below (Nat.le_refl _) hb)
  have LX_6 := hide ((unhide LX_5).below (Nat.le_refl _) hb)
  have LY_6 := hide ((unhide LY_5).below (Nat.le_refl _) hb)
  clear hb
  go_wp2_with fail
  refine ((unhide e6) _ _ (unhide B6) (unhide LA_6)).mono ?_
  rintro e w7 ⟨rfl, hb⟩
  have B7 := hide (step (unhide B6) hb)
  have LA_7 := hide ((unhide LA_6).below (Nat.le_refl _) hb)
  have LX_7 := hide ((unhide LX_6).below (Nat.le_refl _) hb)
  have LY_7 := hide ((unhide LY_6).below (Nat.le_refl _) hb)
  clear hb
  go_wp2_with fail
  refine ((unhide e7) _ (unhide B7)).mono ?_
  rintro e w8 ⟨rfl, hb⟩
  have B8 := hide (step (unhide B7) hb)
  have LA_8 := hide ((unhide LA_7).below (Nat.le_refl _) hb)
  have LX_8 := hide ((unhide LX_7).below (Nat.le_refl _) hb)
  have LY_8 := hide ((unhide LY_7).below (Nat.le_refl _) hb)
  clear hb
  go_wp2_with fail
  refine ((unhide e8) _ (unhide B8)).mono ?_
  rintro e w9 ⟨rfl, hb⟩
  have B9 := hide (step (unhide B8) hb)
  have LA_9 := hide ((unhide LA_8).below (Nat.le_refl _) hb)
  have LX_9 := hide ((unhide LX_8).below (Nat.le_refl _) hb)
  have LY_9 := hide ((unhide LY_8).below (Nat.le_refl _) hb)
  clear hb
  go_wp2_with fail
  refine ((unhide e9) _ (unhide B9)).mono ?_
  rintro e w10 ⟨rfl, hb⟩
  have B10 := hide (step (unhide B9) hb)
  have LA_10 := hide ((unhide LA_9).below (Nat.le_refl _) hb)
  have LX_10 := hide ((unhide LX_9).below (Nat.le_refl _) hb)
  have LY_10 := hide ((unhide LY_9).below (Nat.le_refl _) hb)
  clear hb
  go_wp2_with fail
  refine ((unhide e10) _ (unhide B10)).mono ?_
  rintro e w11 ⟨rfl, hb⟩
  have B11 := hide (step (unhide B10) hb)
  have LA_11 := hide ((unhide LA_10).below (Nat.le_refl _) hb)
  have LX_11 := hide ((unhide LX_10).below (Nat.le_refl _) hb)
  have LY_11 := hide ((unhide LY_10).below (Nat.le_refl _) hb)
  clear hb
  go_wp2_with fail
  refine ((unhide e11) _ _ _ (unhide B11) (unhide LX_11) (unhide LY_11)).mono ?_
  rintro e w12 ⟨rfl, hb⟩
  have B12 := hide (step (unhide B11) hb)
  have LA_12 := hide ((unhide LA_11).below (Nat.le_refl _) hb)
  have LX_12 := hide ((unhide LX_11).below (Nat.le_refl _) hb)
  have LY_12 := hide ((unhide LY_11).below (Nat.le_refl _) hb)
  clear hb
  go_wp2_with fail
  refine ((unhide e12) _ (unhide B12)).mono ?_
  rintro e w13 ⟨rfl, hb⟩
  have B13 := hide (step (unhide B12) hb)
  have LA_13 := hide ((unhide LA_12).below (Nat.le_refl _) hb)
  have LX_13 := hide ((unhide LX_12).below (Nat.le_refl _) hb)
  have LY_13 := hide ((unhide LY_12).below (Nat.le_refl _) hb)
  clear hb
  go_wp2_with fail
  refine ((unhide e13) _ (unhide B13)).mono ?_
  rintro e w14 ⟨rfl, hb⟩
  have B14 := hide (step (unhide B13) hb)
  have LA_14 := hide ((unhide LA_13).below (Nat.le_refl _) hb)
  have LX_14 := hide ((unhide LX_13).below (Nat.le_refl _) hb)
  have LY_14 := hide ((unhide LY_13).below (Nat.le_refl _) hb)
  clear hb
  go_wp2
  go_ret
  exact ⟨rfl, unhide B14⟩

set_option maxRecDepth 100000 in
set_option maxHeartbeats 2000000 in
theorem wb (s p u : ByteArray) (a : Option Addr) (n n1 c : Nat) (l : List Int) (w : World) (x y : Int) (r f : Bool) (LA_0 : Hid (Lies w (.slice a n1 c) l)) (e0 : Hid (Keeps w 10 #[] (.bool true))) (e1 : Hid (Keeps w 11 #[.string s] (.string p))) (e2 : Hid (Keeps w 12 #[.slice a n c] (.slice a n1 c))) (e5 : Hid (KText w l u y)) (e6 : Hid (KTextR w l u y)) (e7 : Hid (Keeps w 17 #[.string p] (.bool r))) (e8 : Hid (Keeps w 18 #[.string p] (.bool r))) (e9 : Hid (Keeps w 19 #[.string p] (.int .i64 x))) (e10 : Hid (Keeps w 20 #[.string p] (.int .i64 x))) (e12 : Hid (Keeps w 22 #[.string p] (.bool f))) (e13 : Hid (Keeps w 23 #[.string p] (.bool f))) (e3 : Hid (Keeps w 13 #[.string p] (.tuple #[.slice none 0 0, .int .i64 40]))) (e4 : Hid (Keeps w 14 #[.string p] (.tuple #[.slice none 0 0, .int .i64 40]))) (e11 : Hid (KInts w [] [] true)) :
    Calls Tryd.prog 3 #[.string s, .slice a n c] w fun e w' => e = .returned (.bool true) ∧ Below w.heap.size w w' := by
  go_enter Tryd.func3, Tryd.ntmps3
  go_wp2_with fail
  refine ((unhide e0) _ (Below.refl _ _)).mono ?_
  rintro e w1 ⟨rfl, hb⟩
  have B1 := hide (step (Below.refl _ _) hb)
  have LA_1 := hide ((unhide LA_0).below (Nat.le_refl _) hb)
  clear hb
  go_wp2_with fail
  refine ((unhide e1) _ (unhide B1)).mono ?_
  rintro e w2 ⟨rfl, hb⟩
  have B2 := hide (step (unhide B1) hb)
  have LA_2 := hide ((unhide LA_1).below (Nat.le_refl _) hb)
  clear hb
  go_wp2_with fail
  refine ((unhide e2) _ (unhide B2)).mono ?_
  rintro e w3 ⟨rfl, hb⟩
  have B3 := hide (step (unhide B2) hb)
  have LA_3 := hide ((unhide LA_2).below (Nat.le_refl _) hb)
  clear hb
  go_wp2_with fail
  refine ((unhide e3) _ (unhide B3)).mono ?_
  rintro e w4 ⟨rfl, hb⟩
  have B4 := hide (step (unhide B3) hb)
  have LA_4 := hide ((unhide LA_3).below (Nat.le_refl _) hb)
  clear hb
  go_wp2_with fail
  refine ((unhide e4) _ (unhide B4)).mono ?_
  rintro e w5 ⟨rfl, hb⟩
  have B5 := hide (step (unhide B4) hb)
  have LA_5 := hide ((unhide LA_4).below (Nat.le_refl _) hb)
  clear hb
  go_wp2_with fail
  refine ((unhide e5) _ _ (unhide B5) (unhide LA_5)).mono ?_
  rintro e w6 ⟨rfl, hb⟩
  have B6 := hide (step (unhide B5) hb)
  have LA_6 := hide ((unhide LA_5).below (Nat.le_refl _) hb)
  clear hb
  go_wp2_with fail
  refine ((unhide e6) _ _ (unhide B6) (unhide LA_6)).mono ?_
  rintro e w7 ⟨rfl, hb⟩
  have B7 := hide (step (unhide B6) hb)
  have LA_7 := hide ((unhide LA_6).below (Nat.le_refl _) hb)
  clear hb
  go_wp2_with fail
  refine ((unhide e7) _ (unhide B7)).mono ?_
  rintro e w8 ⟨rfl, hb⟩
  have B8 := hide (step (unhide B7) hb)
  have LA_8 := hide ((unhide LA_7).below (Nat.le_refl _) hb)
  clear hb
  go_wp2_with fail
  refine ((unhide e8) _ (unhide B8)).mono ?_
  rintro e w9 ⟨rfl, hb⟩
  have B9 := hide (step (unhide B8) hb)
  have LA_9 := hide ((unhide LA_8).below (Nat.le_refl _) hb)
  clear hb
  go_wp2_with fail
  refine ((unhide e9) _ (unhide B9)).mono ?_
  rintro e w10 ⟨rfl, hb⟩
  have B10 := hide (step (unhide B9) hb)
  have LA_10 := hide ((unhide LA_9).below (Nat.le_refl _) hb)
  clear hb
  go_wp2_with fail
  refine ((unhide e10) _ (unhide B10)).mono ?_
  rintro e w11 ⟨rfl, hb⟩
  have B11 := hide (step (unhide B10) hb)
  have LA_11 := hide ((unhide LA_10).below (Nat.le_refl _) hb)
  clear hb
  go_wp2_with fail
  refine ((unhide e11) _ _ _ (unhide B11) (lies_nil _) (lies_nil _)).mono ?_
  rintro e w12 ⟨rfl, hb⟩
  have B12 := hide (step (unhide B11) hb)
  have LA_12 := hide ((unhide LA_11).below (Nat.le_refl _) hb)
  clear hb
  go_wp2_with fail
  refine ((unhide e12) _ (unhide B12)).mono ?_
  rintro e w13 ⟨rfl, hb⟩
  have B13 := hide (step (unhide B12) hb)
  have LA_13 := hide ((unhide LA_12).below (Nat.le_refl _) hb)
  clear hb
  go_wp2_with fail
  refine ((unhide e13) _ (unhide B13)).mono ?_
  rintro e w14 ⟨rfl, hb⟩
  have B14 := hide (step (unhide B13) hb)
  have LA_14 := hide ((unhide LA_13).below (Nat.le_refl _) hb)
  clear hb
  go_wp2
  go_ret
  exact ⟨rfl, unhide B14⟩

theorem walk (s : ByteArray) (a : Option Addr) (n c : Nat) (l : List Int) (aU aS : Addr) (w : World) (g : Glob aU aS w) (wf : s.size ≤ maxLen) (hL : Arg w (.slice a n c) l) :
    Calls Tryd.prog 3 #[.string s, .slice a n c] w fun e w' => e = .returned (.bool true) ∧ Below w.heap.size w w' := by
  have e0 := hide (K_shown g)
  have e1 := hide (K_cut (w := w) s wf)
  have e2 := hide (few_keeps hL)
  have hz := cut_size s
  have LA := hide hL.lies
  have hl4 : (l.take 40).length ≤ 40 := List.length_take_le _ _
  generalize s.extract 0 100 = p at *
  generalize l.take 40 = l at *
  generalize min n 40 = n1 at *
  have hp : p.size ≤ 1000 := by omega
  have e5 := K_text g l (by omega)
  have e6 : KTextR w l (txt l).1 (txt l).2 := fun w1 v _ hv => refText_any l v w1 (by omega) hv
  have e7 := K_right g p hp
  have e8 : Keeps w 18 #[.string p] (.bool (bad p).isNone) := fun w1 _ => refRight_any p w1 hp
  have e9 := K_bad g p hp
  have e10 : Keeps w 20 #[.string p] (.int .i64 (pv (bad p))) := fun w1 _ => refBad_any p w1 hp
  have e12 := K_safe g p hp
  have e13 : Keeps w 23 #[.string p] (.bool (safe p)) := fun w1 _ => refSafe_any p w1 hp
  cases hb : bad p with
  | none =>
    obtain ⟨cs, r, hi⟩ := Ut.is_ex p.data.toList
    have hb' := bad_is hi
    rw [hb] at hb'
    have h0 : r = [] := by
      by_cases h0 : r = []
      · exact h0
      · rw [if_neg h0] at hb'; cases hb'
    subst h0
    have hlen : cs.length ≤ 1000 := by
      have h1 : cs.length ≤ (Ut.fl cs).length := by
        clear hi hb'
        induction cs with
        | nil => exact Nat.le_refl _
        | cons c cs ih => have := Ut.enc_pos c; simp only [Ut.fl, List.length_append, List.length_cons]; omega
      have h2 : (Ut.fl cs).length = p.size := by rw [← len_toList, hi.eq]; simp
      omega
    have e11 := K_ints w (cs.map Int.ofNat) (cs.map Int.ofNat) (by rw [List.length_map]; exact hlen) (by rw [List.length_map]; exact hlen)
    rw [decide_eq_true rfl] at e11
    exact wr s p _ a n n1 c l w _ _ _ _ LA e0 e1 e2 e5 e6 e7 e8 e9 e10 e12 e13 _ (K_signs g p hp hb _ (signs_is hi)) (K_signsR p hp hb _ (signs_is hi)) e11
  | some k =>
    have e11 := K_ints w [] [] (by simp) (by simp)
    rw [decide_eq_true rfl] at e11
    exact wb s p _ a n n1 c l w _ _ _ _ LA e0 e1 e2 e5 e6 e7 e8 e9 e10 e12 e13 (K_signsBad g p hp (by rw [hb]; simp)) (K_signsBadR p hp (by rw [hb]; simp)) e11

set_option maxRecDepth 100000 in
/-- What the walk gives, for every argument. -/
theorem contract (H : Type) (enc : TypeId × Value → H) (W : World) (base : Nat) (args : Array Value) (ds gs : List (DataW H)) (before : List MemPlace)
    (hval : ∀ (j : Nat) t v, Tryd.f3.params[j]? = some t → args[j]? = some v → Value.okWide Tryd.prog W .any base t v)
    (hW : DataW.Whole enc Tryd.prog Tryd.f3.params.toList Rows.utfTellsSpec.vars false W args.toList ds gs before) (hL : laidMetH Tryd.prog Rows.utfTellsRow.laid W) :
    Calls Tryd.prog 3 args W fun e W' => ∃ v, e = .returned v ∧ Rows.utfTellsSpec.post enc Tryd.prog Tryd.f3 false true false false W args v W' := by
  obtain ⟨aU, aS, g⟩ := glob_of_laid hL
  have hW' := hW
  obtain ⟨p, q, hA0, hV, rfl, hfz, hnd⟩ := hW
  have hA : DataW.TrodAll enc Tryd.prog W 0 (fun _ => true) true Tryd.f3.params.toList args.toList ds p := hA0
  rw [Tryd.params3] at hA hval
  obtain ⟨v0, vs0, d0, ds0, p0, q0, hargs0, rfl, rfl, h0, r0⟩ := trodAll_cons hA
  obtain ⟨v1, vs1, d1, ds1, p1, q1, hargs1, rfl, rfl, h1, r1⟩ := trodAll_cons r0
  obtain ⟨rfl, rfl, rfl⟩ := trodAll_nil r1
  obtain rfl : args = #[v0, v1] := by cases args; simp_all
  obtain ⟨rfl, rfl⟩ := trodVars_none hV
  obtain ⟨x0, rfl, rfl, rfl, wf0⟩ := open_string Tryd.underlying9 (hval 0 9 v0 rfl rfl) h0
  obtain ⟨a1, n1, c1, rfl⟩ := okWide_slice Tryd.underlying22 (hval 1 22 v1 rfl rfl)
  have hk1 := h1
  obtain ⟨fu1, hf1⟩ := h1
  obtain ⟨l1, hL1⟩ := open_list (fuel := fu1) hf1
  have hlt1 := DataW.trod_lt _ _ _ _ hf1
  clear hA0
  simp only [List.append_nil] at hW'
  refine (walk x0 a1 n1 c1 l1 aU aS W g wf0 hL1).mono fun e W' ⟨he, hg⟩ => ?_
  subst he
  refine ⟨_, rfl, _, _, _, [], ([] ++ (p1 ++ [])), [], hW', ?_, ?_, ?_, hg.frame _, fun h => by cases h⟩
  · exact trodAll_cons_mk (shut_bool Tryd.underlying4 _) trodAll_mk0
  · exact trodAll_cons_mk (shut_string Tryd.underlying9 wf0) (trodAll_cons_mk (Below.trod (by kernel_rfl) (by kernel_rfl) (of_decide_eq_true (by kernel_rfl)) hk1 hg hlt1) (trodAll_mk0))
  · rfl

theorem reads (os : Os) {H : Type} (enc : TypeId × Value → H) : ∃ places, DataW.whole enc Tryd.prog (({ World.holding Tryd.prog os ⟨#[.cells #[.string sentS0] 126, .cells #[.string sentS1] 126], #[], []⟩ with heap := (((World.holding Tryd.prog os ⟨#[.cells #[.string sentS0] 126, .cells #[.string sentS1] 126], #[], []⟩).heap.modify 0 fun | .cells _ t frozen => .cells #[.iface 104 (.pointer (some ⟨(World.holding Tryd.prog default ⟨#[], #[], []⟩).heap.size + 0, 0, none⟩))] t frozen | o => o).modify 1 fun | .cells _ t frozen => .cells #[.iface 104 (.pointer (some ⟨(World.holding Tryd.prog default ⟨#[], #[], []⟩).heap.size + 1, 0, none⟩))] t frozen | o => o).modify 2 fun | .cells _ t frozen => .cells #[.iface 90 (.agg #[.pointer (some ⟨3, 39, none⟩)])] t frozen | o => o } : World).forCall (fun _ _ => 0) ⟨#[], #[.string ⟨#[]⟩, .slice none 0 0], []⟩).memory Tryd.f3.params.toList Rows.utfTellsSpec.vars false #[Value.string ⟨#[]⟩, Value.slice none 0 0].toList 8 = some ([.lit (.string []), .nil], [], places) :=
  ⟨[], by kernel_rfl⟩

set_option maxRecDepth 100000 in
theorem lifted (os : Os) (started : os.Started) (H : Type) (enc : TypeId × Value → H) (F : Stop.Interp) :
    ReturnsInHanded {} Tryd.checked os 3 .any ((OpenSpec.ofChange Rows.utfTellsSpec).preRow enc Tryd.prog Tryd.f3 Rows.utfTellsRow.domain false Rows.utfTellsRow.laid) (((OpenSpec.ofChange Rows.utfTellsSpec).at F).post enc Tryd.prog Tryd.f3 false true false false) := by
  obtain ⟨places, hx⟩ := reads os enc
  refine returnsInHanded_of_row (C := Tryd.checked) (s := OpenSpec.ofChange Rows.utfTellsSpec) own started (by kernel_rfl) Tryd.func3
    (witness_row_at (enc := enc) (C := Tryd.checked) false ({ World.holding Tryd.prog os ⟨#[.cells #[.string sentS0] 126, .cells #[.string sentS1] 126], #[], []⟩ with heap := (((World.holding Tryd.prog os ⟨#[.cells #[.string sentS0] 126, .cells #[.string sentS1] 126], #[], []⟩).heap.modify 0 fun | .cells _ t frozen => .cells #[.iface 104 (.pointer (some ⟨(World.holding Tryd.prog default ⟨#[], #[], []⟩).heap.size + 0, 0, none⟩))] t frozen | o => o).modify 1 fun | .cells _ t frozen => .cells #[.iface 104 (.pointer (some ⟨(World.holding Tryd.prog default ⟨#[], #[], []⟩).heap.size + 1, 0, none⟩))] t frozen | o => o).modify 2 fun | .cells _ t frozen => .cells #[.iface 90 (.agg #[.pointer (some ⟨3, 39, none⟩)])] t frozen | o => o } : World) #[.string ⟨#[]⟩, .slice none 0 0] rfl (by kernel_rfl) (by kernel_rfl) (by kernel_rfl)
      (OpenSpec.preRow_of_cond 8 hx (by kernel_rfl) (fun k hk => by cases hk) (by kernel_rfl) (laid_met os _))) ?_
  intro W base args ds gs before hval hW _ _ _ hL _ _
  exact contract H enc W base args ds gs before hval hW hL

theorem said : Rows.UtfTellsSaid :=
  OpenClaim.holds_of_cond 3 Tryd.f3 rfl rfl rfl rfl rfl rfl rfl ⟨rfl, rfl, rfl, rfl, rfl⟩ rfl rfl rfl rfl rfl (by kernel_rfl) Tryd.func3 (by kernel_rfl)
    (of_decide_eq_true (by kernel_rfl)) (by unfold Func.isWrapper; first | (rw [if_pos (by decide +kernel)]; kernel_rfl) | (rw [if_neg (by decide +kernel)]; exact ⟨rfl, rfl⟩))
    (fun os started H enc _ F => by rw [OpenClaim.pre_eq_preRow]; exact lifted os started H enc F)

theorem plain (f : FuncId) (fn : Func) (hf : Tryd.pinned.checked.prog.funcNamed "latiner/latinerlaw04.UtfTells" = some f) (hfn : Tryd.pinned.checked.prog.funcs[f]? = some fn) :
    true = Tryd.pinned.checked.prog.looks [] ∧ ∀ (j : Nat) t, fn.params[j]? = some t → Tryd.pinned.checked.prog.wantsStandIn t = false := by
  obtain rfl : f = 3 := Option.some.inj ((show Tryd.prog.funcNamed "latiner/latinerlaw04.UtfTells" = some 3 by kernel_rfl).symm.trans hf) |>.symm
  obtain rfl : fn = Tryd.f3 := (Option.some.inj (Tryd.func3.symm.trans hfn)).symm
  refine ⟨by kernel_rfl, fun j t ht => ?_⟩
  rw [Tryd.params3] at ht
  have hm : t = 9 ∨ t = 22 := by have := Array.mem_of_getElem? ht; simp at this; first | exact this | omega | (rcases this with h | h | h <;> simp [h]) | (rcases this with h | h | h | h <;> simp [h])
  rcases hm with rfl | rfl
  · exact (show Tryd.prog.wantsStandIn 9 = false by kernel_rfl)
  · exact (show Tryd.prog.wantsStandIn 22 = false by kernel_rfl)

/-- The card. -/
theorem card : Rows.UtfTellsCardSaid :=
  Claim7.holds_tied_plain_at .later [] _ _ _ _ said (fun _ h => by cases h) (by kernel_rfl) (fun _ h => by cases h) utfTells_row_tie rfl ⟨rfl, rfl⟩ (by kernel_rfl) rfl plain (by kernel_rfl)
end Go.Proofs.YtpfopmjpchiekaaDoor.U.tells

namespace Go.Proofs.YtpfopmjpchiekaaDoor
theorem utfTells_holds : Rows.UtfTellsCardSaid := U.tells.card
#print axioms utfTells_holds
end Go.Proofs.YtpfopmjpchiekaaDoor
