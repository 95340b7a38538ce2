/-
  latinerlaw04.UtfBack returns true at every text and numbers: texts and signs tell each other. Conditions: the package-level variables hold what the program's text lays (the card ties them).
-/
import Derived.Test.YtpfopmjpchiekaaDoorULaid
import Derived.Test.YtpfopmjpchiekaaDoorURight
import Derived.Laws.DeepStrings4
namespace Go.Proofs.YtpfopmjpchiekaaDoor.U.back
open Go Go.RowKit Go.ChangeShapes Go.WideShapes Go.ChangeAt Go.ChangeMaps

theorem lies_nil (W : World) : Lies W (.slice none 0 0) [] := ⟨none, 0, rfl, .inl rfl⟩

set_option maxRecDepth 100000 in
set_option maxHeartbeats 2000000 in
theorem wry (s p u : ByteArray) (a : Option Addr) (n n1 c : Nat) (l : List Int) (w : World) (LA_0 : Hid (Lies w (.slice a n1 c) l)) (e0 : Hid (Keeps w 10 #[] (.bool true))) (e1 : Hid (Keeps w 11 #[.string s] (.string p))) (e2 : Hid (Keeps w 12 #[.slice a n c] (.slice a n1 c))) (cs : List Int) (e3 : Hid (KSigns w p cs)) (e4 : Hid (KText w cs p 0)) (e7 : Hid (Keeps w 17 #[.string p] (.bool true))) (ds : List Int) (e6 : Hid (KSigns w u ds)) (e5 : Hid (KText w l u 0)) (e8 : Hid (KInts w ds l true)) :
    Calls Tryd.prog 4 #[.string s, .slice a n c] w fun e w' => e = .returned (.bool true) ∧ Below w.heap.size w w' := by
  go_enter Tryd.func4, Tryd.ntmps4
  go_wp2_with fail
  refine ((unhide e0) _ (Below.refl _ _)).mono ?_
  rintro e w1 ⟨rfl, hb⟩
  have B1 := hide (step (Below.refl _ _) hb)
  have LA_1 := hide ((unhide LA_0).below (Nat.le_refl _) hb)
  clear hb
  go_wp2_with fail
  refine ((unhide e1) _ (unhide B1)).mono ?_
  rintro e w2 ⟨rfl, hb⟩
  have B2 := hide (step (unhide B1) hb)
  have LA_2 := hide ((unhide LA_1).below (Nat.le_refl _) hb)
  clear hb
  go_wp2_with fail
  refine ((unhide e2) _ (unhide B2)).mono ?_
  rintro e w3 ⟨rfl, hb⟩
  have B3 := hide (step (unhide B2) hb)
  have LA_3 := hide ((unhide LA_2).below (Nat.le_refl _) hb)
  clear hb
  go_wp2_with fail
  refine ((unhide e3) _ (unhide B3)).mono ?_
  rintro e w4 ⟨aX, nX, cX, rfl, hnX, hl, hb⟩
  have B4 := hide (step (unhide B3) hb)
  have LA_4 := hide ((unhide LA_3).below (Nat.le_refl _) hb)
  have LX_4 := hide hl
  clear hb hl
  clear hnX
  go_wp2_with fail
  refine ((unhide e4) _ _ (unhide B4) (unhide LX_4)).mono ?_
  rintro e w5 ⟨rfl, hb⟩
  have B5 := hide (step (unhide B4) hb)
  have LA_5 := hide ((unhide LA_4).below (Nat.le_refl _) hb)
  have LX_5 := hide ((unhide LX_4).below (Nat.le_refl _) hb)
  clear hb
  go_wp2_with fail
  refine ((unhide e5) _ _ (unhide B5) (unhide LA_5)).mono ?_
  rintro e w6 ⟨rfl, hb⟩
  have B6 := hide (step (unhide B5) hb)
  have LA_6 := hide ((unhide LA_5).below (Nat.le_refl _) hb)
  have LX_6 := hide ((unhide LX_5).below (Nat.le_refl _) hb)
  clear hb
  go_wp2_with fail
  refine ((unhide e6) _ (unhide B6)).mono ?_
  rintro e w7 ⟨aY, nY, cY, rfl, hnY, hl, hb⟩
  have B7 := hide (step (unhide B6) hb)
  have LA_7 := hide ((unhide LA_6).below (Nat.le_refl _) hb)
  have LX_7 := hide ((unhide LX_6).below (Nat.le_refl _) hb)
  have LY_7 := hide hl
  clear hb hl
  clear hnY
  go_wp2_with fail
  refine ((unhide e7) _ (unhide B7)).mono ?_
  rintro e w8 ⟨rfl, hb⟩
  have B8 := hide (step (unhide B7) hb)
  have LA_8 := hide ((unhide LA_7).below (Nat.le_refl _) hb)
  have LX_8 := hide ((unhide LX_7).below (Nat.le_refl _) hb)
  have LY_8 := hide ((unhide LY_7).below (Nat.le_refl _) hb)
  clear hb
  go_wp2_with fail
  refine ((unhide e8) _ _ _ (unhide B8) (unhide LY_8) (unhide LA_8)).mono ?_
  rintro e w9 ⟨rfl, hb⟩
  have B9 := hide (step (unhide B8) hb)
  have LA_9 := hide ((unhide LA_8).below (Nat.le_refl _) hb)
  have LX_9 := hide ((unhide LX_8).below (Nat.le_refl _) hb)
  have LY_9 := hide ((unhide LY_8).below (Nat.le_refl _) hb)
  clear hb
  go_wp2
  go_ret
  exact ⟨rfl, unhide B9⟩

set_option maxRecDepth 100000 in
set_option maxHeartbeats 2000000 in
theorem wrn (s p : ByteArray) (a : Option Addr) (n n1 c : Nat) (l : List Int) (w : World) (LA_0 : Hid (Lies w (.slice a n1 c) l)) (e0 : Hid (Keeps w 10 #[] (.bool true))) (e1 : Hid (Keeps w 11 #[.string s] (.string p))) (e2 : Hid (Keeps w 12 #[.slice a n c] (.slice a n1 c))) (cs : List Int) (e3 : Hid (KSigns w p cs)) (e4 : Hid (KText w cs p 0)) (e7 : Hid (Keeps w 17 #[.string p] (.bool true))) (ds : List Int) (e6 : Hid (KSigns w ⟨#[]⟩ ds)) (e5 : Hid (KText w l ⟨#[]⟩ 40)) :
    Calls Tryd.prog 4 #[.string s, .slice a n c] w fun e w' => e = .returned (.bool true) ∧ Below w.heap.size w w' := by
  go_enter Tryd.func4, Tryd.ntmps4
  go_wp2_with fail
  refine ((unhide e0) _ (Below.refl _ _)).mono ?_
  rintro e w1 ⟨rfl, hb⟩
  have B1 := hide (step (Below.refl _ _) hb)
  have LA_1 := hide ((unhide LA_0).below (Nat.le_refl _) hb)
  clear hb
  go_wp2_with fail
  refine ((unhide e1) _ (unhide B1)).mono ?_
  rintro e w2 ⟨rfl, hb⟩
  have B2 := hide (step (unhide B1) hb)
  have LA_2 := hide ((unhide LA_1).below (Nat.le_refl _) hb)
  clear hb
  go_wp2_with fail
  refine ((unhide e2) _ (unhide B2)).mono ?_
  rintro e w3 ⟨rfl, hb⟩
  have B3 := hide (step (unhide B2) hb)
  have LA_3 := hide ((unhide LA_2).below (Nat.le_refl _) hb)
  clear hb
  go_wp2_with fail
  refine ((unhide e3) _ (unhide B3)).mono ?_
  rintro e w4 ⟨aX, nX, cX, rfl, hnX, hl, hb⟩
  have B4 := hide (step (unhide B3) hb)
  have LA_4 := hide ((unhide LA_3).below (Nat.le_refl _) hb)
  have LX_4 := hide hl
  clear hb hl
  clear hnX
  go_wp2_with fail
  refine ((unhide e4) _ _ (unhide B4) (unhide LX_4)).mono ?_
  rintro e w5 ⟨rfl, hb⟩
  have B5 := hide (step (unhide B4) hb)
  have LA_5 := hide ((unhide LA_4).below (Nat.le_refl _) hb)
  have LX_5 := hide ((unhide LX_4).below (Nat.le_refl _) hb)
  clear hb
  go_wp2_with fail
  refine ((unhide e5) _ _ (unhide B5) (unhide LA_5)).mono ?_
  rintro e w6 ⟨rfl, hb⟩
  have B6 := hide (step (unhide B5) hb)
  have LA_6 := hide ((unhide LA_5).below (Nat.le_refl _) hb)
  have LX_6 := hide ((unhide LX_5).below (Nat.le_refl _) hb)
  clear hb
  go_wp2_with fail
  refine ((unhide e6) _ (unhide B6)).mono ?_
  rintro e w7 ⟨aY, nY, cY, rfl, hnY, hl, hb⟩
  have B7 := hide (step (unhide B6) hb)
  have LA_7 := hide ((unhide LA_6).below (Nat.le_refl _) hb)
  have LX_7 := hide ((unhide LX_6).below (Nat.le_refl _) hb)
  have LY_7 := hide hl
  clear hb hl
  clear hnY
  go_wp2_with fail
  refine ((unhide e7) _ (unhide B7)).mono ?_
  rintro e w8 ⟨rfl, hb⟩
  have B8 := hide (step (unhide B7) hb)
  have LA_8 := hide ((unhide LA_7).below (Nat.le_refl _) hb)
  have LX_8 := hide ((unhide LX_7).below (Nat.le_refl _) hb)
  have LY_8 := hide ((unhide LY_7).below (Nat.le_refl _) hb)
  clear hb
  go_wp2
  go_ret
  exact ⟨rfl, unhide B8⟩

set_option maxRecDepth 100000 in
set_option maxHeartbeats 2000000 in
theorem wby (s p u : ByteArray) (a : Option Addr) (n n1 c : Nat) (l : List Int) (w : World) (LA_0 : Hid (Lies w (.slice a n1 c) l)) (e0 : Hid (Keeps w 10 #[] (.bool true))) (e1 : Hid (Keeps w 11 #[.string s] (.string p))) (e2 : Hid (Keeps w 12 #[.slice a n c] (.slice a n1 c))) (e3 : Hid (Keeps w 13 #[.string p] (.tuple #[.slice none 0 0, .int .i64 40]))) (e4 : Hid (KText w [] ⟨#[]⟩ 0)) (e7 : Hid (Keeps w 17 #[.string p] (.bool false))) (ds : List Int) (e6 : Hid (KSigns w u ds)) (e5 : Hid (KText w l u 0)) (e8 : Hid (KInts w ds l true)) :
    Calls Tryd.prog 4 #[.string s, .slice a n c] w fun e w' => e = .returned (.bool true) ∧ Below w.heap.size w w' := by
  go_enter Tryd.func4, Tryd.ntmps4
  go_wp2_with fail
  refine ((unhide e0) _ (Below.refl _ _)).mono ?_
  rintro e w1 ⟨rfl, hb⟩
  have B1 := hide (step (Below.refl _ _) hb)
  have LA_1 := hide ((unhide LA_0).below (Nat.le_refl _) hb)
  clear hb
  go_wp2_with fail
  refine ((unhide e1) _ (unhide B1)).mono ?_
  rintro e w2 ⟨rfl, hb⟩
  have B2 := hide (step (unhide B1) hb)
  have LA_2 := hide ((unhide LA_1).below (Nat.le_refl _) hb)
  clear hb
  go_wp2_with fail
  refine ((unhide e2) _ (unhide B2)).mono ?_
  rintro e w3 ⟨rfl, hb⟩
  have B3 := hide (step (unhide B2) hb)
  have LA_3 := hide ((unhide LA_2).below (Nat.le_refl _) hb)
  clear hb
  go_wp2_with fail
  refine ((unhide e3) _ (unhide B3)).mono ?_
  rintro e w4 ⟨rfl, hb⟩
  have B4 := hide (step (unhide B3) hb)
  have LA_4 := hide ((unhide LA_3).below (Nat.le_refl _) hb)
  clear hb
  go_wp2_with fail
  refine ((unhide e4) _ _ (unhide B4) (lies_nil _)).mono ?_
  rintro e w5 ⟨rfl, hb⟩
  have B5 := hide (step (unhide B4) hb)
  have LA_5 := hide ((unhide LA_4).below (Nat.le_refl _) hb)
  clear hb
  go_wp2_with fail
  refine ((unhide e5) _ _ (unhide B5) (unhide LA_5)).mono ?_
  rintro e w6 ⟨rfl, hb⟩
  have B6 := hide (step (unhide B5) hb)
  have LA_6 := hide ((unhide LA_5).below (Nat.le_refl _) hb)
  clear hb
  go_wp2_with fail
  refine ((unhide e6) _ (unhide B6)).mono ?_
  rintro e w7 ⟨aY, nY, cY, rfl, hnY, hl, hb⟩
  have B7 := hide (step (unhide B6) hb)
  have LA_7 := hide ((unhide LA_6).below (Nat.le_refl _) hb)
  have LY_7 := hide hl
  clear hb hl
  clear hnY
  go_wp2_with fail
  refine ((unhide e7) _ (unhide B7)).mono ?_
  rintro e w8 ⟨rfl, hb⟩
  have B8 := hide (step (unhide B7) hb)
  have LA_8 := hide ((unhide LA_7).below (Nat.le_refl _) hb)
  have LY_8 := hide ((unhide LY_7).below (Nat.le_refl _) hb)
  clear hb
  go_wp2_with fail
  refine ((unhide e8) _ _ _ (unhide B8) (unhide LY_8) (unhide LA_8)).mono ?_
  rintro e w9 ⟨rfl, hb⟩
  have B9 := hide (step (unhide B8) hb)
  have LA_9 := hide ((unhide LA_8).below (Nat.le_refl _) hb)
  have LY_9 := hide ((unhide LY_8).below (Nat.le_refl _) hb)
  clear hb
  go_wp2
  go_ret
  exact ⟨rfl, unhide B9⟩

set_option maxRecDepth 100000 in
set_option maxHeartbeats 2000000 in
theorem wbn (s p : ByteArray) (a : Option Addr) (n n1 c : Nat) (l : List Int) (w : World) (LA_0 : Hid (Lies w (.slice a n1 c) l)) (e0 : Hid (Keeps w 10 #[] (.bool true))) (e1 : Hid (Keeps w 11 #[.string s] (.string p))) (e2 : Hid (Keeps w 12 #[.slice a n c] (.slice a n1 c))) (e3 : Hid (Keeps w 13 #[.string p] (.tuple #[.slice none 0 0, .int .i64 40]))) (e4 : Hid (KText w [] ⟨#[]⟩ 0)) (e7 : Hid (Keeps w 17 #[.string p] (.bool false))) (ds : List Int) (e6 : Hid (KSigns w ⟨#[]⟩ ds)) (e5 : Hid (KText w l ⟨#[]⟩ 40)) :
    Calls Tryd.prog 4 #[.string s, .slice a n c] w fun e w' => e = .returned (.bool true) ∧ Below w.heap.size w w' := by
  go_enter Tryd.func4, Tryd.ntmps4
  go_wp2_with fail
  refine ((unhide e0) _ (Below.refl _ _)).mono ?_
  rintro e w1 ⟨rfl, hb⟩
  have B1 := hide (step (Below.refl _ _) hb)
  have LA_1 := hide ((unhide LA_0).below (Nat.le_refl _) hb)
  clear hb
  go_wp2_with fail
  refine ((unhide e1) _ (unhide B1)).mono ?_
  rintro e w2 ⟨rfl, hb⟩
  have B2 := hide (step (unhide B1) hb)
  have LA_2 := hide ((unhide LA_1).below (Nat.le_refl _) hb)
  clear hb
  go_wp2_with fail
  refine ((unhide e2) _ (unhide B2)).mono ?_
  rintro e w3 ⟨rfl, hb⟩
  have B3 := hide (step (unhide B2) hb)
  have LA_3 := hide ((unhide LA_2).below (Nat.le_refl _) hb)
  clear hb
  go_wp2_with fail
  refine ((unhide e3) _ (unhide B3)).mono ?_
  rintro e w4 ⟨rfl, hb⟩
  have B4 := hide (step (unhide B3) hb)
  have LA_4 := hide ((unhide LA_3).below (Nat.le_refl _) hb)
  clear hb
  go_wp2_with fail
  refine ((unhide e4) _ _ (unhide B4) (lies_nil _)).mono ?_
  rintro e w5 ⟨rfl, hb⟩
  have B5 := hide (step (unhide B4) hb)
  have LA_5 := hide ((unhide LA_4).below (Nat.le_refl _) hb)
  clear hb
  go_wp2_with fail
  refine ((unhide e5) _ _ (unhide B5) (unhide LA_5)).mono ?_
  rintro e w6 ⟨rfl, hb⟩
  have B6 := hide (step (unhide B5) hb)
  have LA_6 := hide ((unhide LA_5).below (Nat.le_refl _) hb)
  clear hb
  go_wp2_with fail
  refine ((unhide e6) _ (unhide B6)).mono ?_
  rintro e w7 ⟨aY, nY, cY, rfl, hnY, hl, hb⟩
  have B7 := hide (step (unhide B6) hb)
  have LA_7 := hide ((unhide LA_6).below (Nat.le_refl _) hb)
  have LY_7 := hide hl
  clear hb hl
  clear hnY
  go_wp2_with fail
  refine ((unhide e7) _ (unhide B7)).mono ?_
  rintro e w8 ⟨rfl, hb⟩
  have B8 := hide (step (unhide B7) hb)
  have LA_8 := hide ((unhide LA_7).below (Nat.le_refl _) hb)
  have LY_8 := hide ((unhide LY_7).below (Nat.le_refl _) hb)
  clear hb
  go_wp2
  go_ret
  exact ⟨rfl, unhide B8⟩

theorem mk_toList (p : ByteArray) : (⟨p.data.toList.toArray⟩ : ByteArray) = p := by simp
theorem byt_nat (cs : List Nat) : byt (cs.map Int.ofNat) = Ut.fl cs := by
  unfold byt
  rw [List.map_map]
  congr 1
  exact (List.map_congr_left fun x _ => rfl).trans (List.map_id _)
theorem all_nat {cs : List Nat} (h : ∀ c ∈ cs, Ut.sg c) : (cs.map Int.ofNat).all isg = true := by
  rw [List.all_map, List.all_eq_true]
  intro x hx
  exact isg_sg.2 (h x hx)
theorem all_sg {l : List Int} (h : l.all isg = true) : (∀ c ∈ l.map Int.toNat, Ut.sg c) ∧ (l.map Int.toNat).map Int.ofNat = l := by
  rw [List.all_eq_true] at h
  refine ⟨fun c hc => ?_, ?_⟩
  · obtain ⟨x, hx, rfl⟩ := List.mem_map.1 hc
    obtain ⟨m, rfl, _⟩ := isg_nat (h x hx)
    exact isg_sg.1 (h _ hx)
  · rw [List.map_map]
    refine (List.map_congr_left (g := id) fun x hx => ?_).trans (List.map_id _)
    obtain ⟨m, rfl, _⟩ := isg_nat (h x hx)
    rfl
theorem few_keeps {w : World} {a : Option Addr} {n c : Nat} {l : List Int} (h : Arg w (.slice a n c) l) : Keeps w 12 #[.slice a n c] (.slice a (min n 40) c) :=
  fun w1 _ => (few_any a n c l w1 w h).mono fun e w' ⟨he, hw⟩ => ⟨he, by rw [hw]; exact Below.refl _ _⟩
/-- what the program says of a text that is right, and of the numbers. -/
theorem right_facts {aU aS : Addr} {w : World} (g : Glob aU aS w) (p : ByteArray) (hp : p.size ≤ 100) {cs : List Nat} (hi : Ut.Is p.data.toList cs []) :
    KSigns w p (cs.map Int.ofNat) ∧ KText w (cs.map Int.ofNat) p 0 ∧ Keeps w 17 #[.string p] (.bool true) := by
  have hb := bad_of_is hi
  have e7 := K_right g p (by omega)
  rw [hb] at e7
  have hlen : cs.length ≤ 1000 := by
    have h1 : cs.length ≤ (Ut.fl cs).length := by
      clear hi
      induction cs with
      | nil => exact Nat.le_refl _
      | cons c cs ih => have := Ut.enc_pos c; simp only [Ut.fl, List.length_append, List.length_cons]; omega
    have h2 : (Ut.fl cs).length = p.size := by rw [← len_toList, hi.eq]; simp
    omega
  refine ⟨K_signs g p (by omega) hb _ (signs_is hi), ?_, e7⟩
  have := K_text g (cs.map Int.ofNat) (by rw [List.length_map]; exact hlen)
  have he : Ut.fl cs = p.data.toList := by rw [hi.eq]; simp
  rw [txt_ok (all_nat hi.all), byt_nat, he] at this
  have h2 : ((⟨p.data.toList.toArray⟩, 0) : ByteArray × Int).1 = p := mk_toList p
  rw [h2] at this
  exact this

theorem walk (s : ByteArray) (a : Option Addr) (n c : Nat) (l : List Int) (aU aS : Addr) (w : World) (g : Glob aU aS w) (wf : s.size ≤ maxLen) (hL : Arg w (.slice a n c) l) :
    Calls Tryd.prog 4 #[.string s, .slice a n c] w fun e w' => e = .returned (.bool true) ∧ Below w.heap.size w w' := by
  have e0 := hide (K_shown g)
  have e1 := hide (K_cut (w := w) s wf)
  have e2 := hide (few_keeps hL)
  have hz := cut_size s
  have LA := hide hL.lies
  have hl4 : (l.take 40).length ≤ 40 := List.length_take_le _ _
  generalize s.extract 0 100 = p at *
  generalize l.take 40 = l at *
  generalize min n 40 = n1 at *
  have e5 := K_text g l (by omega)
  have hE : Ut.Is (⟨#[]⟩ : ByteArray).data.toList [] [] := ⟨by simp, rfl, rfl⟩
  obtain ⟨f1, f2, _⟩ := right_facts g ⟨#[]⟩ (Nat.zero_le _) hE
  obtain ⟨cs, r, hi⟩ := Ut.is_ex p.data.toList
  by_cases hy : l.all isg = true
  · obtain ⟨hsg, hnat⟩ := all_sg hy
    rw [txt_ok hy] at e5
    have hu : Ut.Is (⟨(byt l).toArray⟩ : ByteArray).data.toList (l.map Int.toNat) [] := by rw [data_mk]; exact is_fl hsg
    have hbl := byt_le l
    have e6 := K_signs g ⟨(byt l).toArray⟩ (by rw [size_mk]; omega) (bad_of_is hu) _ (signs_is hu)
    rw [hnat] at e6
    have e8 := K_ints w l l (by omega) (by omega)
    rw [decide_eq_true rfl] at e8
    by_cases h0 : r = []
    · subst h0
      obtain ⟨e3, e4, e7⟩ := right_facts g p hz hi
      exact wry s p _ a n n1 c l w LA e0 e1 e2 _ e3 e4 e7 _ e6 e5 e8
    · have hb := bad_is hi
      rw [if_neg h0] at hb
      have e7 := K_right g p (by omega)
      rw [hb] at e7
      exact wby s p _ a n n1 c l w LA e0 e1 e2 (K_signsBad g p (by omega) (by rw [hb]; simp)) f2 e7 _ e6 e5 e8
  · have hy' : l.all isg = false := by simpa using hy
    rw [txt_no hy'] at e5
    by_cases h0 : r = []
    · subst h0
      obtain ⟨e3, e4, e7⟩ := right_facts g p hz hi
      exact wrn s p a n n1 c l w LA e0 e1 e2 _ e3 e4 e7 _ f1 e5
    · have hb := bad_is hi
      rw [if_neg h0] at hb
      have e7 := K_right g p (by omega)
      rw [hb] at e7
      exact wbn s p a n n1 c l w LA e0 e1 e2 (K_signsBad g p (by omega) (by rw [hb]; simp)) f2 e7 _ f1 e5

set_option maxRecDepth 100000 in
/-- What the walk gives, for every argument. -/
theorem contract (H : Type) (enc : TypeId × Value → H) (W : World) (base : Nat) (args : Array Value) (ds gs : List (DataW H)) (before : List MemPlace)
    (hval : ∀ (j : Nat) t v, Tryd.f4.params[j]? = some t → args[j]? = some v → Value.okWide Tryd.prog W .any base t v)
    (hW : DataW.Whole enc Tryd.prog Tryd.f4.params.toList Rows.utfBackSpec.vars false W args.toList ds gs before) (hL : laidMetH Tryd.prog Rows.utfBackRow.laid W) :
    Calls Tryd.prog 4 args W fun e W' => ∃ v, e = .returned v ∧ Rows.utfBackSpec.post enc Tryd.prog Tryd.f4 false true false false W args v W' := by
  obtain ⟨aU, aS, g⟩ := glob_of_laid hL
  have hW' := hW
  obtain ⟨p, q, hA0, hV, rfl, hfz, hnd⟩ := hW
  have hA : DataW.TrodAll enc Tryd.prog W 0 (fun _ => true) true Tryd.f4.params.toList args.toList ds p := hA0
  rw [Tryd.params4] at hA hval
  obtain ⟨v0, vs0, d0, ds0, p0, q0, hargs0, rfl, rfl, h0, r0⟩ := trodAll_cons hA
  obtain ⟨v1, vs1, d1, ds1, p1, q1, hargs1, rfl, rfl, h1, r1⟩ := trodAll_cons r0
  obtain ⟨rfl, rfl, rfl⟩ := trodAll_nil r1
  obtain rfl : args = #[v0, v1] := by cases args; simp_all
  obtain ⟨rfl, rfl⟩ := trodVars_none hV
  obtain ⟨x0, rfl, rfl, rfl, wf0⟩ := open_string Tryd.underlying9 (hval 0 9 v0 rfl rfl) h0
  obtain ⟨a1, n1, c1, rfl⟩ := okWide_slice Tryd.underlying22 (hval 1 22 v1 rfl rfl)
  have hk1 := h1
  obtain ⟨fu1, hf1⟩ := h1
  obtain ⟨l1, hL1⟩ := open_list (fuel := fu1) hf1
  have hlt1 := DataW.trod_lt _ _ _ _ hf1
  clear hA0
  simp only [List.append_nil] at hW'
  refine (walk x0 a1 n1 c1 l1 aU aS W g wf0 hL1).mono fun e W' ⟨he, hg⟩ => ?_
  subst he
  refine ⟨_, rfl, _, _, _, [], ([] ++ (p1 ++ [])), [], hW', ?_, ?_, ?_, hg.frame _, fun h => by cases h⟩
  · exact trodAll_cons_mk (shut_bool Tryd.underlying4 _) trodAll_mk0
  · exact trodAll_cons_mk (shut_string Tryd.underlying9 wf0) (trodAll_cons_mk (Below.trod (by kernel_rfl) (by kernel_rfl) (of_decide_eq_true (by kernel_rfl)) hk1 hg hlt1) (trodAll_mk0))
  · rfl

theorem reads (os : Os) {H : Type} (enc : TypeId × Value → H) : ∃ places, DataW.whole enc Tryd.prog (({ World.holding Tryd.prog os ⟨#[.cells #[.string sentS0] 126, .cells #[.string sentS1] 126], #[], []⟩ with heap := (((World.holding Tryd.prog os ⟨#[.cells #[.string sentS0] 126, .cells #[.string sentS1] 126], #[], []⟩).heap.modify 0 fun | .cells _ t frozen => .cells #[.iface 104 (.pointer (some ⟨(World.holding Tryd.prog default ⟨#[], #[], []⟩).heap.size + 0, 0, none⟩))] t frozen | o => o).modify 1 fun | .cells _ t frozen => .cells #[.iface 104 (.pointer (some ⟨(World.holding Tryd.prog default ⟨#[], #[], []⟩).heap.size + 1, 0, none⟩))] t frozen | o => o).modify 2 fun | .cells _ t frozen => .cells #[.iface 90 (.agg #[.pointer (some ⟨3, 39, none⟩)])] t frozen | o => o } : World).forCall (fun _ _ => 0) ⟨#[], #[.string ⟨#[]⟩, .slice none 0 0], []⟩).memory Tryd.f4.params.toList Rows.utfBackSpec.vars false #[Value.string ⟨#[]⟩, Value.slice none 0 0].toList 8 = some ([.lit (.string []), .nil], [], places) :=
  ⟨[], by kernel_rfl⟩

set_option maxRecDepth 100000 in
theorem lifted (os : Os) (started : os.Started) (H : Type) (enc : TypeId × Value → H) (F : Stop.Interp) :
    ReturnsInHanded {} Tryd.checked os 4 .any ((OpenSpec.ofChange Rows.utfBackSpec).preRow enc Tryd.prog Tryd.f4 Rows.utfBackRow.domain false Rows.utfBackRow.laid) (((OpenSpec.ofChange Rows.utfBackSpec).at F).post enc Tryd.prog Tryd.f4 false true false false) := by
  obtain ⟨places, hx⟩ := reads os enc
  refine returnsInHanded_of_row (C := Tryd.checked) (s := OpenSpec.ofChange Rows.utfBackSpec) own started (by kernel_rfl) Tryd.func4
    (witness_row_at (enc := enc) (C := Tryd.checked) false ({ World.holding Tryd.prog os ⟨#[.cells #[.string sentS0] 126, .cells #[.string sentS1] 126], #[], []⟩ with heap := (((World.holding Tryd.prog os ⟨#[.cells #[.string sentS0] 126, .cells #[.string sentS1] 126], #[], []⟩).heap.modify 0 fun | .cells _ t frozen => .cells #[.iface 104 (.pointer (some ⟨(World.holding Tryd.prog default ⟨#[], #[], []⟩).heap.size + 0, 0, none⟩))] t frozen | o => o).modify 1 fun | .cells _ t frozen => .cells #[.iface 104 (.pointer (some ⟨(World.holding Tryd.prog default ⟨#[], #[], []⟩).heap.size + 1, 0, none⟩))] t frozen | o => o).modify 2 fun | .cells _ t frozen => .cells #[.iface 90 (.agg #[.pointer (some ⟨3, 39, none⟩)])] t frozen | o => o } : World) #[.string ⟨#[]⟩, .slice none 0 0] rfl (by kernel_rfl) (by kernel_rfl) (by kernel_rfl)
      (OpenSpec.preRow_of_cond 8 hx (by kernel_rfl) (fun k hk => by cases hk) (by kernel_rfl) (laid_met os _))) ?_
  intro W base args ds gs before hval hW _ _ _ hL _ _
  exact contract H enc W base args ds gs before hval hW hL

theorem said : Rows.UtfBackSaid :=
  OpenClaim.holds_of_cond 4 Tryd.f4 rfl rfl rfl rfl rfl rfl rfl ⟨rfl, rfl, rfl, rfl, rfl⟩ rfl rfl rfl rfl rfl (by kernel_rfl) Tryd.func4 (by kernel_rfl)
    (of_decide_eq_true (by kernel_rfl)) (by unfold Func.isWrapper; first | (rw [if_pos (by decide +kernel)]; kernel_rfl) | (rw [if_neg (by decide +kernel)]; exact ⟨rfl, rfl⟩))
    (fun os started H enc _ F => by rw [OpenClaim.pre_eq_preRow]; exact lifted os started H enc F)

theorem plain (f : FuncId) (fn : Func) (hf : Tryd.pinned.checked.prog.funcNamed "latiner/latinerlaw04.UtfBack" = some f) (hfn : Tryd.pinned.checked.prog.funcs[f]? = some fn) :
    true = Tryd.pinned.checked.prog.looks [] ∧ ∀ (j : Nat) t, fn.params[j]? = some t → Tryd.pinned.checked.prog.wantsStandIn t = false := by
  obtain rfl : f = 4 := Option.some.inj ((show Tryd.prog.funcNamed "latiner/latinerlaw04.UtfBack" = some 4 by kernel_rfl).symm.trans hf) |>.symm
  obtain rfl : fn = Tryd.f4 := (Option.some.inj (Tryd.func4.symm.trans hfn)).symm
  refine ⟨by kernel_rfl, fun j t ht => ?_⟩
  rw [Tryd.params4] at ht
  have hm : t = 9 ∨ t = 22 := by have := Array.mem_of_getElem? ht; simp at this; first | exact this | omega | (rcases this with h | h | h <;> simp [h]) | (rcases this with h | h | h | h <;> simp [h])
  rcases hm with rfl | rfl
  · exact (show Tryd.prog.wantsStandIn 9 = false by kernel_rfl)
  · exact (show Tryd.prog.wantsStandIn 22 = false by kernel_rfl)

/-- The card. -/
theorem card : Rows.UtfBackCardSaid :=
  Claim7.holds_tied_plain_at .later [] _ _ _ _ said (fun _ h => by cases h) (by kernel_rfl) (fun _ h => by cases h) utfBack_row_tie rfl ⟨rfl, rfl⟩ (by kernel_rfl) rfl plain (by kernel_rfl)
end Go.Proofs.YtpfopmjpchiekaaDoor.U.back

namespace Go.Proofs.YtpfopmjpchiekaaDoor
theorem utfBack_holds : Rows.UtfBackCardSaid := U.back.card
#print axioms utfBack_holds
end Go.Proofs.YtpfopmjpchiekaaDoor
