/-
  The law file's shown(), cut() and few(). Conditions: the package-level variables hold what the program's text lays.
-/
import Derived.Test.YtpfopmjpchiekaaDoorUInts
import Derived.Test.YtpfopmjpchiekaaDoorUTells
import Derived.KernelRfl
namespace Go.Proofs.YtpfopmjpchiekaaDoor.U
open Go Go.RowKit

/-- a call that answers v and keeps what lay in w. -/
def Keeps (w : World) (f : FuncId) (args : Array Value) (v : Value) : Prop :=
  ∀ w1, Below w.heap.size w w1 → Calls Tryd.prog f args w1 fun e w' => e = .returned v ∧ Below w1.heap.size w1 w'
theorem keep {aU aS : Addr} {w : World} (g : Glob aU aS w) {f : FuncId} {args : Array Value} {v : Value}
    (h : ∀ w1, Glob aU aS w1 → Calls Tryd.prog f args w1 fun e w' => e = .returned v ∧ Below w1.heap.size w1 w') : Keeps w f args v :=
  fun w1 hb => h w1 (g.below (Nat.le_refl _) hb)
theorem K_right {aU aS : Addr} {w : World} (g : Glob aU aS w) (s : ByteArray) (hs : s.size ≤ 1000) : Keeps w 17 #[.string s] (.bool (bad s).isNone) := keep g fun w1 g1 => right_any s aU aS w1 g1 hs
theorem K_bad {aU aS : Addr} {w : World} (g : Glob aU aS w) (s : ByteArray) (hs : s.size ≤ 1000) : Keeps w 19 #[.string s] (.int .i64 (pv (bad s))) := keep g fun w1 g1 => bad_any s aU aS w1 g1 hs
theorem K_safe {aU aS : Addr} {w : World} (g : Glob aU aS w) (s : ByteArray) (hs : s.size ≤ 1000) : Keeps w 22 #[.string s] (.bool (safe s)) := keep g fun w1 g1 => isSafe_any s aU aS w1 g1 hs

theorem lies_lit (w : World) (xs : List Int) : Lies (w.alloc (.cells (xs.map fun n => Value.int .i64 n).toArray 3)) (.slice (some ⟨w.heap.size, 0, none⟩) xs.length xs.length) xs := by
  refine ⟨_, _, rfl, .inr ⟨_, _, rfl, fun i n hn => ?_⟩⟩
  rw [World.cell?_alloc_at _ _ _ _ rfl, Nat.zero_add]
  simp [hn]

/-- what Signs says of a text that is right. -/
def KSigns (w : World) (s : ByteArray) (cs : List Int) : Prop :=
  ∀ w1, Below w.heap.size w w1 → Calls Tryd.prog 13 #[.string s] w1 fun e w' => ∃ a n c, e = .returned (.tuple #[.slice a n c, .int .i64 0]) ∧ n = cs.length ∧ Lies w' (.slice a n c) cs ∧ Below w1.heap.size w1 w'
theorem K_signs {aU aS : Addr} {w : World} (g : Glob aU aS w) (s : ByteArray) (hs : s.size ≤ 1000) (hb : bad s = none) (cs : List Nat) (hc : (all s).map (·.n) = cs) : KSigns w s (cs.map Int.ofNat) :=
  fun w1 h1 => (signs_door s aU aS w1 (g.below (Nat.le_refl _) h1) hs).mono fun e w' ⟨hb', he⟩ => by
    rcases he with ⟨_, v, he, hl⟩ | ⟨he, _⟩
    · rw [hc] at hl
      have hl' := hl
      obtain ⟨a, c, rfl, _⟩ := hl
      exact ⟨a, _, c, he, rfl, hl', hb'⟩
    · exact absurd hb he
theorem K_signsBad {aU aS : Addr} {w : World} (g : Glob aU aS w) (s : ByteArray) (hs : s.size ≤ 1000) (hb : bad s ≠ none) : Keeps w 13 #[.string s] (.tuple #[.slice none 0 0, .int .i64 40]) :=
  keep g fun w1 g1 => (signs_door s aU aS w1 g1 hs).mono fun e w' ⟨hb', he⟩ => by
    rcases he with ⟨he, _⟩ | ⟨_, he⟩
    · exact absurd he hb
    · exact ⟨he, hb'⟩
/-- what Text says of numbers that lie in memory. -/
def KText (w : World) (l : List Int) (t : ByteArray) (n : Int) : Prop :=
  ∀ w1 v, Below w.heap.size w w1 → Lies w1 v l → Calls Tryd.prog 15 #[v] w1 fun e w' => e = .returned (.tuple #[.string t, .int .i64 n]) ∧ Below w1.heap.size w1 w'
theorem K_text {aU aS : Addr} {w : World} (g : Glob aU aS w) (l : List Int) (hl : l.length ≤ 1000) : KText w l (txt l).1 (txt l).2 :=
  fun w1 v hb hv => text_any l v aU aS w1 (g.below (Nat.le_refl _) hb) hl hv
/-- are two lists in memory the same? -/
def KInts (w : World) (A B : List Int) (b : Bool) : Prop :=
  ∀ w1 u v, Below w.heap.size w w1 → Lies w1 u A → Lies w1 v B → Calls Tryd.prog 21 #[u, v] w1 fun e w' => e = .returned (.bool b) ∧ Below w1.heap.size w1 w'
theorem K_ints (w : World) (A B : List Int) (hA : A.length ≤ 1000) (hB : B.length ≤ 1000) : KInts w A B (decide (A = B)) :=
  fun w1 u v _ hu hv => ints_any A B u v w1 hA hB hu hv
theorem step {w w1 w2 : World} (h : Below w.heap.size w w1) (k : Below w1.heap.size w1 w2) : Below w.heap.size w w2 := h.trans (k.mono h.size)
theorem stepA {w w1 : World} (h : Below w.heap.size w w1) (o : Obj) : Below w.heap.size w (w1.alloc o) := h.alloc h.size o

set_option maxRecDepth 100000 in
set_option maxHeartbeats 2000000 in
theorem shown_true (aU aS : Addr) (w : World) (g : Glob aU aS w) : Calls Tryd.prog 10 #[] w fun e w' => e = .returned (.bool true) ∧ Below w.heap.size w w' := by
  have e1 : Hid (KSigns w ⟨#[97, 195, 169]⟩ [97, 233]) := K_signs g ⟨#[97, 195, 169]⟩ (by decide) (by kernel_rfl) [97, 233] (by kernel_rfl)
  have e2 : Hid (KText w [97, 233, 128512] ⟨#[97, 195, 169, 240, 159, 152, 128]⟩ 0) := K_text g [97, 233, 128512] (by decide)
  have e3 : Hid (Keeps w 13 #[.string ⟨#[237, 160, 128]⟩] (.tuple #[.slice none 0 0, .int .i64 40])) := K_signsBad g ⟨#[237, 160, 128]⟩ (by decide) (by intro h; exact absurd (show (bad ⟨#[237, 160, 128]⟩).isNone = true by rw [h]; rfl) (by decide +kernel))
  have e4 : Hid (KText w [55296] ⟨#[]⟩ 40) := K_text g [55296] (by decide)
  have e5 : Hid (KInts w [97, 233] [97, 233] true) := K_ints w [97, 233] [97, 233] (by decide) (by decide)
  have e6 : Hid (Keeps w 19 #[.string ⟨#[97, 98, 255]⟩] (.int .i64 2)) := K_bad g ⟨#[97, 98, 255]⟩ (by decide)
  have e7 : Hid (Keeps w 19 #[.string ⟨#[97, 98]⟩] (.int .i64 (-1))) := K_bad g ⟨#[97, 98]⟩ (by decide)
  have e8 : Hid (Keeps w 17 #[.string ⟨#[]⟩] (.bool true)) := K_right g ⟨#[]⟩ (by decide)
  have e9 : Hid (Keeps w 22 #[.string ⟨#[97, 32, 98]⟩] (.bool true)) := K_safe g ⟨#[97, 32, 98]⟩ (by decide)
  have e10 : Hid (Keeps w 22 #[.string ⟨#[32, 97]⟩] (.bool false)) := K_safe g ⟨#[32, 97]⟩ (by decide)
  clear g
  go_enter Tryd.func10, Tryd.ntmps10
  go_wp2_with fail
  refine ((unhide e1) _ (Below.refl _ _)).mono ?_
  rintro e w1 ⟨a, n, c, rfl, hn, hl, hb1⟩
  have HL := hide hl
  have HN := hide hn
  have B1 := hide hb1
  clear hb1 hl hn
  go_wp2_with fail
  refine ((unhide e2) _ _ (stepA (unhide B1) _) (lies_lit w1 [97, 233, 128512])).mono ?_
  rintro e w2 ⟨rfl, hb⟩
  have B2 := hide (step (stepA (unhide B1) _) hb)
  have HL2 := hide (((unhide HL).below (Nat.le_refl _) ((Below.refl _ _).alloc (Nat.le_refl _) _)).below (Nat.le_refl _) hb)
  clear hb
  go_wp2_with fail
  refine ((unhide e3) _ (unhide B2)).mono ?_
  rintro e w3 ⟨rfl, hb⟩
  have B3 := hide (step (unhide B2) hb)
  have HL3 := hide ((unhide HL2).below (Nat.le_refl _) hb)
  clear hb
  go_wp2_with fail
  refine ((unhide e4) _ _ (stepA (unhide B3) _) (lies_lit w3 [55296])).mono ?_
  rintro e w4 ⟨rfl, hb⟩
  have B4 := hide (step (stepA (unhide B3) _) hb)
  have HL4 := hide (((unhide HL3).below (Nat.le_refl _) ((Below.refl _ _).alloc (Nat.le_refl _) _)).below (Nat.le_refl _) hb)
  clear hb
  go_wp2_with fail
  refine ((unhide e5) _ _ _ (stepA (unhide B4) _) ((unhide HL4).below (Nat.le_refl _) ((Below.refl _ _).alloc (Nat.le_refl _) _)) (lies_lit w4 [97, 233])).mono ?_
  rintro e w5 ⟨rfl, hb⟩
  have B5 := hide (step (stepA (unhide B4) _) hb)
  clear hb
  go_wp2_with fail
  refine ((unhide e6) _ (unhide B5)).mono ?_
  rintro e w6 ⟨rfl, hb⟩
  have B6 := hide (step (unhide B5) hb)
  clear hb
  go_wp2_with fail
  refine ((unhide e7) _ (unhide B6)).mono ?_
  rintro e w7 ⟨rfl, hb⟩
  have B7 := hide (step (unhide B6) hb)
  clear hb
  go_wp2_with fail
  refine ((unhide e8) _ (unhide B7)).mono ?_
  rintro e w8 ⟨rfl, hb⟩
  have B8 := hide (step (unhide B7) hb)
  clear hb
  go_wp2_with fail
  refine ((unhide e9) _ (unhide B8)).mono ?_
  rintro e w9 ⟨rfl, hb⟩
  have B9 := hide (step (unhide B8) hb)
  clear hb
  go_wp2_with fail
  refine ((unhide e10) _ (unhide B9)).mono ?_
  rintro e w10 ⟨rfl, hb⟩
  have B10 := hide (step (unhide B9) hb)
  clear hb
  go_wp2
  go_ret
  exact ⟨rfl, unhide B10⟩
theorem K_shown {aU aS : Addr} {w : World} (g : Glob aU aS w) : Keeps w 10 #[] (.bool true) := keep g fun w1 g1 => shown_true aU aS w1 g1

theorem cut_any (s : ByteArray) (w : World) (hs : s.size ≤ maxLen) :
    Calls Tryd.prog 11 #[.string s] w fun e w' => e = .returned (.string (s.extract 0 100)) ∧ w' = w := by
  unfold maxLen at hs
  by_cases h : s.size ≤ 100
  · have h' : (s.size : Int) ≤ 100 := by omega
    have e : s.extract 0 100 = s := by
      apply ByteArray.ext
      simp [ByteArray.data_extract]
      exact .inr h
    rw [e]
    go_enter Tryd.func11, Tryd.ntmps11
    go_wp2
    go_ret
    exact ⟨rfl, rfl⟩
  · have h' : ¬ (s.size : Int) ≤ 100 := by omega
    go_enter Tryd.func11, Tryd.ntmps11
    go_wp2
    go_ret
    exact ⟨rfl, rfl⟩
theorem cut_size (s : ByteArray) : (s.extract 0 100).size ≤ 100 := by
  rw [ByteArray.size_extract]; omega
theorem K_cut {w : World} (s : ByteArray) (hs : s.size ≤ maxLen) : Keeps w 11 #[.string s] (.string (s.extract 0 100)) :=
  fun w1 _ => (cut_any s w1 hs).mono fun e w' ⟨he, hw⟩ => ⟨he, by rw [hw]; exact Below.refl _ _⟩

/-- a slice that came in. -/
def Arg (W : World) (v : Value) (l : List Int) : Prop := ∃ a c, v = .slice a l.length c ∧ l.length ≤ c ∧ c ≤ maxLen ∧ (a = none → c = 0) ∧ (l = [] ∨ ∃ b o, a = some ⟨b, o, none⟩ ∧ ∀ (i : Nat) n, l[i]? = some n → W.cell? ⟨b, o + i, none⟩ = some (.int .i64 n))
theorem Arg.lies {W : World} {a : Option Addr} {n c : Nat} {l : List Int} (h : Arg W (.slice a n c) l) : Lies W (.slice a (min n 40) c) (l.take 40) := by
  obtain ⟨a', c', e, _, _, _, h⟩ := h
  cases e
  refine ⟨a, c, by rw [List.length_take, Nat.min_comm], ?_⟩
  rcases h with rfl | ⟨b, o, rfl, h⟩
  · exact .inl rfl
  · refine .inr ⟨b, o, rfl, fun i n hn => h i n ?_⟩
    rw [List.getElem?_take] at hn
    split at hn
    · exact hn
    · cases hn
theorem few_any (a : Option Addr) (n c : Nat) (l : List Int) (w w0 : World) (h : Arg w0 (.slice a n c) l) :
    Calls Tryd.prog 12 #[.slice a n c] w fun e w' => e = .returned (.slice a (min n 40) c) ∧ w' = w := by
  obtain ⟨a', c', e, h1, h2, h3, _⟩ := h
  cases e
  unfold maxLen at h2
  cases a with
  | none =>
    obtain rfl := h3 rfl
    have h0 : l.length = 0 := by omega
    rw [h0]
    clear h0 h1 h2 h3
    go_enter Tryd.func12, Tryd.ntmps12
    go_wp2
    go_ret
    exact ⟨rfl, rfl⟩
  | some a =>
    clear h3
    generalize l.length = n at *
    by_cases h : n ≤ 40
    · have h' : (n : Int) ≤ 40 := by omega
      rw [Nat.min_eq_left h]
      go_enter Tryd.func12, Tryd.ntmps12
      go_wp2
      go_ret
      exact ⟨rfl, rfl⟩
    · have h' : ¬ (n : Int) ≤ 40 := by omega
      rw [Nat.min_eq_right (by omega)]
      go_enter Tryd.func12, Tryd.ntmps12
      go_wp2
      go_ret
      exact ⟨rfl, rfl⟩
end Go.Proofs.YtpfopmjpchiekaaDoor.U
