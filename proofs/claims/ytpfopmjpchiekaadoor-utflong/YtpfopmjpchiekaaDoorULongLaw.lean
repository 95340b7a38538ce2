/-
  latinerlaw04.UtfLong returns true at every number: a sign told by more bytes than it needs is not right. Conditions: the package-level variables hold what the program's text lays (the card ties them).
-/
import Derived.Test.YtpfopmjpchiekaaDoorULaid
import Derived.Test.YtpfopmjpchiekaaDoorURight
import Derived.Laws.DeepStrings4
namespace Go.Proofs.YtpfopmjpchiekaaDoor.U.long
open Go Go.RowKit Go.ChangeShapes Go.WideShapes Go.ChangeAt Go.ChangeMaps

set_option maxRecDepth 100000 in
set_option maxHeartbeats 2000000 in
theorem wn (n : Int) (w : World) (e0 : Hid (Keeps w 10 #[] (.bool true))) (e1 : Hid (KText w [n] ⟨#[]⟩ 40)) :
    Calls Tryd.prog 9 #[.int .i64 n] w fun e w' => e = .returned (.bool true) ∧ Below w.heap.size w w' := by
  go_enter Tryd.func9, Tryd.ntmps9
  go_wp2_with fail
  refine ((unhide e0) _ (Below.refl _ _)).mono ?_
  rintro e w1 ⟨rfl, hb⟩
  have B1 := hide (step (Below.refl _ _) hb)
  clear hb
  go_wp2_with fail
  refine ((unhide e1) _ _ (stepA (unhide B1) _) (lies_lit w1 [n])).mono ?_
  rintro e w2 ⟨rfl, hb⟩
  have B2 := hide (step (stepA (unhide B1) _) hb)
  clear hb
  go_wp2
  go_ret
  exact ⟨rfl, unhide B2⟩

theorem conv_lit (W : World) (l : List UInt8) (k : Nat) (cs : Array Value) (hk : l.length = k) (hc : (cells l).toArray = cs) :
    (convert 37 9 (.slice (some ⟨W.heap.size, 0, none⟩) k k)).run Tryd.prog (W.alloc (.cells cs 5)) = .ok (.string ⟨l.toArray⟩) (W.alloc (.cells cs 5)) := by
  subst hk
  subst hc
  rw [← nums_str]
  refine run_convert_bytes_arg _ _ _ Tryd.underlying37 Tryd.underlying5 W.heap.size 0 l.length l.length (l.map fun x => (x.toNat : Int)) (by simp) (fun i hi => ?_) _ Tryd.underlying9
  rw [World.cell?_alloc_at _ _ _ _ rfl, Nat.zero_add]
  simp [cells, List.getD_eq_getElem?_getD, List.getElem?_eq_getElem hi]

/-- the bytes that tell a sign by two, by three, by four. -/
def two (m : Nat) : List UInt8 := [Ut.b (192 + m / 64 % 32), Ut.b (128 + m % 64)]
def three (m : Nat) : List UInt8 := [Ut.b (224 + m / 4096 % 16), Ut.b (128 + m / 64 % 64), Ut.b (128 + m % 64)]
def four (m : Nat) : List UInt8 := [Ut.b (240 + m / 262144 % 8), Ut.b (128 + m / 4096 % 64), Ut.b (128 + m / 64 % 64), Ut.b (128 + m % 64)]
abbrev str (l : List UInt8) : ByteArray := ⟨l.toArray⟩
theorem conv2 (m : Nat) (W : World) (b : Nat) (hb : W.heap.size = b) : (convert 37 9 (.slice (some ⟨b, 0, none⟩) 2 2)).run Tryd.prog (W.alloc (.cells #[.int .u8 (192 + (m : Int) / 64 % 32), .int .u8 (128 + (m : Int) % 64)] 5)) =
    .ok (.string (str (two m))) (W.alloc (.cells #[.int .u8 (192 + (m : Int) / 64 % 32), .int .u8 (128 + (m : Int) % 64)] 5)) := by
  subst hb
  exact conv_lit W (two m) 2 _ rfl (by
    simp only [two, cells, List.map_cons, List.map_nil, Ut.bn _ (show 192 + m / 64 % 32 < 256 by omega), Ut.bn _ (show 128 + m % 64 < 256 by omega)]
    rfl)
theorem conv3 (m : Nat) (W : World) (b : Nat) (hb : W.heap.size = b) : (convert 37 9 (.slice (some ⟨b, 0, none⟩) 3 3)).run Tryd.prog (W.alloc (.cells #[.int .u8 (224 + (m : Int) / 4096 % 16), .int .u8 (128 + (m : Int) / 64 % 64), .int .u8 (128 + (m : Int) % 64)] 5)) =
    .ok (.string (str (three m))) (W.alloc (.cells #[.int .u8 (224 + (m : Int) / 4096 % 16), .int .u8 (128 + (m : Int) / 64 % 64), .int .u8 (128 + (m : Int) % 64)] 5)) := by
  subst hb
  exact conv_lit W (three m) 3 _ rfl (by
    simp only [three, cells, List.map_cons, List.map_nil, Ut.bn _ (show 224 + m / 4096 % 16 < 256 by omega), Ut.bn _ (show 128 + m / 64 % 64 < 256 by omega), Ut.bn _ (show 128 + m % 64 < 256 by omega)]
    rfl)
theorem conv4 (m : Nat) (W : World) (b : Nat) (hb : W.heap.size = b) : (convert 37 9 (.slice (some ⟨b, 0, none⟩) 4 4)).run Tryd.prog (W.alloc (.cells #[.int .u8 (240 + (m : Int) / 262144 % 8), .int .u8 (128 + (m : Int) / 4096 % 64), .int .u8 (128 + (m : Int) / 64 % 64), .int .u8 (128 + (m : Int) % 64)] 5)) =
    .ok (.string (str (four m))) (W.alloc (.cells #[.int .u8 (240 + (m : Int) / 262144 % 8), .int .u8 (128 + (m : Int) / 4096 % 64), .int .u8 (128 + (m : Int) / 64 % 64), .int .u8 (128 + (m : Int) % 64)] 5)) := by
  subst hb
  exact conv_lit W (four m) 4 _ rfl (by
    simp only [four, cells, List.map_cons, List.map_nil, Ut.bn _ (show 240 + m / 262144 % 8 < 256 by omega), Ut.bn _ (show 128 + m / 4096 % 64 < 256 by omega), Ut.bn _ (show 128 + m / 64 % 64 < 256 by omega), Ut.bn _ (show 128 + m % 64 < 256 by omega)]
    rfl)

set_option maxRecDepth 100000 in
set_option maxHeartbeats 2000000 in
theorem w1y (m : Nat) (t u2 u3 u4 : ByteArray) (w : World) (h2 : str (two m) = u2) (h3 : str (three m) = u3) (h4 : str (four m) = u4) (_hm : (m : Int) ≤ 1114111) (_h1 : decide ((m : Int) < 2048) = true) (_h : decide ((128 : Int) ≤ m) = false) (e0 : Hid (Keeps w 10 #[] (.bool true))) (e1 : Hid (KText w [(m : Int)] t 0)) (f2 : Hid (Keeps w 17 #[.string u2] (.bool false))) (f3 : Hid (Keeps w 17 #[.string u3] (.bool false))) (f4 : Hid (Keeps w 17 #[.string u4] (.bool false))) :
    Calls Tryd.prog 9 #[.int .i64 (m : Int)] w fun e w' => e = .returned (.bool true) ∧ Below w.heap.size w w' := by
  have k2 := fun W b hb => conv2 m W b hb
  have k3 := fun W b hb => conv3 m W b hb
  have k4 := fun W b hb => conv4 m W b hb
  rw [h2] at k2
  rw [h3] at k3
  rw [h4] at k4
  clear h2 h3 h4
  go_enter Tryd.func9, Tryd.ntmps9
  go_wp2_with fail
  refine ((unhide e0) _ (Below.refl _ _)).mono ?_
  rintro e w1 ⟨rfl, hb⟩
  have B1 := hide (step (Below.refl _ _) hb)
  clear hb
  go_wp2_with fail
  refine ((unhide e1) _ _ (stepA (unhide B1) _) (lies_lit w1 [(m : Int)])).mono ?_
  rintro e w2 ⟨rfl, hb⟩
  have B2 := hide (step (stepA (unhide B1) _) hb)
  clear hb
  go_wp2_with fail
  refine ((unhide f2) _ (stepA (stepA (stepA (unhide B2) _) _) _)).mono ?_
  rintro e w3 ⟨rfl, hb⟩
  have B3 := hide (step (stepA (stepA (stepA (unhide B2) _) _) _) hb)
  clear hb
  go_wp2_with fail
  refine ((unhide f3) _ (unhide B3)).mono ?_
  rintro e w4 ⟨rfl, hb⟩
  have B4 := hide (step (unhide B3) hb)
  clear hb
  go_wp2_with fail
  refine ((unhide f4) _ (unhide B4)).mono ?_
  rintro e w5 ⟨rfl, hb⟩
  have B5 := hide (step (unhide B4) hb)
  clear hb
  go_wp2
  go_ret
  exact ⟨rfl, unhide B5⟩

set_option maxRecDepth 100000 in
set_option maxHeartbeats 2000000 in
theorem w2y (m : Nat) (t u2 u3 u4 : ByteArray) (w : World) (h2 : str (two m) = u2) (h3 : str (three m) = u3) (h4 : str (four m) = u4) (_hm : (m : Int) ≤ 1114111) (_h1 : decide ((m : Int) < 2048) = true) (_h : decide ((128 : Int) ≤ m) = true) (e0 : Hid (Keeps w 10 #[] (.bool true))) (e1 : Hid (KText w [(m : Int)] t 0)) (f2 : Hid (Keeps w 17 #[.string u2] (.bool true))) (f3 : Hid (Keeps w 17 #[.string u3] (.bool false))) (f4 : Hid (Keeps w 17 #[.string u4] (.bool false))) :
    Calls Tryd.prog 9 #[.int .i64 (m : Int)] w fun e w' => e = .returned (.bool true) ∧ Below w.heap.size w w' := by
  have k2 := fun W b hb => conv2 m W b hb
  have k3 := fun W b hb => conv3 m W b hb
  have k4 := fun W b hb => conv4 m W b hb
  rw [h2] at k2
  rw [h3] at k3
  rw [h4] at k4
  clear h2 h3 h4
  go_enter Tryd.func9, Tryd.ntmps9
  go_wp2_with fail
  refine ((unhide e0) _ (Below.refl _ _)).mono ?_
  rintro e w1 ⟨rfl, hb⟩
  have B1 := hide (step (Below.refl _ _) hb)
  clear hb
  go_wp2_with fail
  refine ((unhide e1) _ _ (stepA (unhide B1) _) (lies_lit w1 [(m : Int)])).mono ?_
  rintro e w2 ⟨rfl, hb⟩
  have B2 := hide (step (stepA (unhide B1) _) hb)
  clear hb
  go_wp2_with fail
  refine ((unhide f2) _ (stepA (stepA (stepA (unhide B2) _) _) _)).mono ?_
  rintro e w3 ⟨rfl, hb⟩
  have B3 := hide (step (stepA (stepA (stepA (unhide B2) _) _) _) hb)
  clear hb
  go_wp2_with fail
  refine ((unhide f3) _ (unhide B3)).mono ?_
  rintro e w4 ⟨rfl, hb⟩
  have B4 := hide (step (unhide B3) hb)
  clear hb
  go_wp2_with fail
  refine ((unhide f4) _ (unhide B4)).mono ?_
  rintro e w5 ⟨rfl, hb⟩
  have B5 := hide (step (unhide B4) hb)
  clear hb
  go_wp2
  go_ret
  exact ⟨rfl, unhide B5⟩

set_option maxRecDepth 100000 in
set_option maxHeartbeats 2000000 in
theorem w3y (m : Nat) (t u2 u3 u4 : ByteArray) (w : World) (h2 : str (two m) = u2) (h3 : str (three m) = u3) (h4 : str (four m) = u4) (_hm : (m : Int) ≤ 1114111) (_h1 : decide ((m : Int) < 2048) = false) (_h : decide ((m : Int) < 65536) = true) (e0 : Hid (Keeps w 10 #[] (.bool true))) (e1 : Hid (KText w [(m : Int)] t 0)) (f3 : Hid (Keeps w 17 #[.string u3] (.bool true))) :
    Calls Tryd.prog 9 #[.int .i64 (m : Int)] w fun e w' => e = .returned (.bool true) ∧ Below w.heap.size w w' := by
  have k2 := fun W b hb => conv2 m W b hb
  have k3 := fun W b hb => conv3 m W b hb
  have k4 := fun W b hb => conv4 m W b hb
  rw [h2] at k2
  rw [h3] at k3
  rw [h4] at k4
  clear h2 h3 h4
  go_enter Tryd.func9, Tryd.ntmps9
  go_wp2_with fail
  refine ((unhide e0) _ (Below.refl _ _)).mono ?_
  rintro e w1 ⟨rfl, hb⟩
  have B1 := hide (step (Below.refl _ _) hb)
  clear hb
  go_wp2_with fail
  refine ((unhide e1) _ _ (stepA (unhide B1) _) (lies_lit w1 [(m : Int)])).mono ?_
  rintro e w2 ⟨rfl, hb⟩
  have B2 := hide (step (stepA (unhide B1) _) hb)
  clear hb
  go_wp2_with fail
  refine ((unhide f3) _ (stepA (stepA (stepA (unhide B2) _) _) _)).mono ?_
  rintro e w3 ⟨rfl, hb⟩
  have B3 := hide (step (stepA (stepA (stepA (unhide B2) _) _) _) hb)
  clear hb
  go_wp2
  go_ret
  exact ⟨rfl, unhide B3⟩

set_option maxRecDepth 100000 in
set_option maxHeartbeats 2000000 in
theorem w4n (m : Nat) (t u2 u3 u4 : ByteArray) (w : World) (h2 : str (two m) = u2) (h3 : str (three m) = u3) (h4 : str (four m) = u4) (_hm : (m : Int) ≤ 1114111) (_h1 : decide ((m : Int) < 2048) = false) (_h : decide ((m : Int) < 65536) = false) (_h5 : decide ((65536 : Int) ≤ m) = true) (e0 : Hid (Keeps w 10 #[] (.bool true))) (e1 : Hid (KText w [(m : Int)] t 0)) (f3 : Hid (Keeps w 17 #[.string u3] (.bool false))) :
    Calls Tryd.prog 9 #[.int .i64 (m : Int)] w fun e w' => e = .returned (.bool true) ∧ Below w.heap.size w w' := by
  have k2 := fun W b hb => conv2 m W b hb
  have k3 := fun W b hb => conv3 m W b hb
  have k4 := fun W b hb => conv4 m W b hb
  rw [h2] at k2
  rw [h3] at k3
  rw [h4] at k4
  clear h2 h3 h4
  go_enter Tryd.func9, Tryd.ntmps9
  go_wp2_with fail
  refine ((unhide e0) _ (Below.refl _ _)).mono ?_
  rintro e w1 ⟨rfl, hb⟩
  have B1 := hide (step (Below.refl _ _) hb)
  clear hb
  go_wp2_with fail
  refine ((unhide e1) _ _ (stepA (unhide B1) _) (lies_lit w1 [(m : Int)])).mono ?_
  rintro e w2 ⟨rfl, hb⟩
  have B2 := hide (step (stepA (unhide B1) _) hb)
  clear hb
  go_wp2_with fail
  refine ((unhide f3) _ (stepA (stepA (stepA (unhide B2) _) _) _)).mono ?_
  rintro e w3 ⟨rfl, hb⟩
  have B3 := hide (step (stepA (stepA (stepA (unhide B2) _) _) _) hb)
  clear hb
  go_wp2
  go_ret
  exact ⟨rfl, unhide B3⟩

set_option maxRecDepth 100000 in
set_option maxHeartbeats 2000000 in
theorem w4y (m : Nat) (t u2 u3 u4 : ByteArray) (w : World) (h2 : str (two m) = u2) (h3 : str (three m) = u3) (h4 : str (four m) = u4) (_hm : (m : Int) ≤ 1114111) (_h1 : decide ((m : Int) < 2048) = false) (_h : decide ((m : Int) < 65536) = false) (_h5 : decide ((65536 : Int) ≤ m) = true) (e0 : Hid (Keeps w 10 #[] (.bool true))) (e1 : Hid (KText w [(m : Int)] t 0)) (f3 : Hid (Keeps w 17 #[.string u3] (.bool true))) (f4 : Hid (Keeps w 17 #[.string u4] (.bool true))) :
    Calls Tryd.prog 9 #[.int .i64 (m : Int)] w fun e w' => e = .returned (.bool true) ∧ Below w.heap.size w w' := by
  have k2 := fun W b hb => conv2 m W b hb
  have k3 := fun W b hb => conv3 m W b hb
  have k4 := fun W b hb => conv4 m W b hb
  rw [h2] at k2
  rw [h3] at k3
  rw [h4] at k4
  clear h2 h3 h4
  go_enter Tryd.func9, Tryd.ntmps9
  go_wp2_with fail
  refine ((unhide e0) _ (Below.refl _ _)).mono ?_
  rintro e w1 ⟨rfl, hb⟩
  have B1 := hide (step (Below.refl _ _) hb)
  clear hb
  go_wp2_with fail
  refine ((unhide e1) _ _ (stepA (unhide B1) _) (lies_lit w1 [(m : Int)])).mono ?_
  rintro e w2 ⟨rfl, hb⟩
  have B2 := hide (step (stepA (unhide B1) _) hb)
  clear hb
  go_wp2_with fail
  refine ((unhide f3) _ (stepA (stepA (stepA (unhide B2) _) _) _)).mono ?_
  rintro e w3 ⟨rfl, hb⟩
  have B3 := hide (step (stepA (stepA (stepA (unhide B2) _) _) _) hb)
  clear hb
  go_wp2_with fail
  refine ((unhide f4) _ (unhide B3)).mono ?_
  rintro e w4 ⟨rfl, hb⟩
  have B4 := hide (step (unhide B3) hb)
  clear hb
  go_wp2
  go_ret
  exact ⟨rfl, unhide B4⟩

theorem none_bad {l : List UInt8} (hl : l ≠ []) (h : Ut.dc l = none) (cs : List Nat) : ¬ Ut.Is l cs [] := fun hi =>
  hl (Ut.is_inj hi (r' := l) (cs' := []) ⟨by simp, h, rfl⟩).2.symm
theorem two_none {m : Nat} (h : m < 128) : Ut.dc (two m) = none := by
  have e0 := Ut.bn (192 + m / 64 % 32) (by omega)
  have e1 := Ut.bn (128 + m % 64) (by omega)
  simp only [two, Ut.dc, Ut.g, List.getD_cons_zero, List.getD_cons_succ, List.length_cons, List.length_nil, e0, e1]
  rw [if_neg (by simp), if_neg (by omega), if_neg (by omega), if_neg (by omega), if_neg (by omega)]
theorem three_none {m : Nat} (h : m < 2048) : Ut.dc (three m) = none := by
  have e0 := Ut.bn (224 + m / 4096 % 16) (by omega)
  have e1 := Ut.bn (128 + m / 64 % 64) (by omega)
  have e2 := Ut.bn (128 + m % 64) (by omega)
  have ev : (224 + m / 4096 % 16) % 16 * 4096 + (128 + m / 64 % 64) % 64 * 64 + (128 + m % 64) % 64 = m := by omega
  simp only [three, Ut.dc, Ut.g, List.getD_cons_zero, List.getD_cons_succ, List.length_cons, List.length_nil, e0, e1, e2, ev]
  rw [if_neg (by simp), if_neg (by omega), if_neg (by omega), if_neg (by omega), if_neg (by omega)]
theorem four_none {m : Nat} (h : m < 2048) : Ut.dc (four m) = none := by
  have e0 := Ut.bn (240 + m / 262144 % 8) (by omega)
  have e1 := Ut.bn (128 + m / 4096 % 64) (by omega)
  have e2 := Ut.bn (128 + m / 64 % 64) (by omega)
  have e3 := Ut.bn (128 + m % 64) (by omega)
  have ev : (240 + m / 262144 % 8) % 8 * 262144 + (128 + m / 4096 % 64) % 64 * 4096 + (128 + m / 64 % 64) % 64 * 64 + (128 + m % 64) % 64 = m := by omega
  simp only [four, Ut.dc, Ut.g, List.getD_cons_zero, List.getD_cons_succ, List.length_cons, List.length_nil, e0, e1, e2, e3, ev]
  rw [if_neg (by simp), if_neg (by omega), if_neg (by omega), if_neg (by omega), if_neg (by omega)]
theorem two_enc {m : Nat} (h1 : 128 ≤ m) (h2 : m < 2048) : two m = Ut.enc m := by
  unfold Ut.enc two
  rw [if_neg (by omega), if_pos h2, Nat.mod_eq_of_lt (by omega : m / 64 < 32)]
theorem three_enc {m : Nat} (h1 : 2048 ≤ m) (h2 : m < 65536) : three m = Ut.enc m := by
  unfold Ut.enc three
  rw [if_neg (by omega), if_neg (by omega), if_pos h2, Nat.mod_eq_of_lt (by omega : m / 4096 < 16)]
theorem four_enc {m : Nat} (h1 : 65536 ≤ m) (h2 : m ≤ 1114111) : four m = Ut.enc m := by
  unfold Ut.enc four
  rw [if_neg (by omega), if_neg (by omega), if_neg (by omega), Nat.mod_eq_of_lt (by omega : m / 262144 < 8)]

theorem walk (n : Int) (aU aS : Addr) (w : World) (g : Glob aU aS w) :
    Calls Tryd.prog 9 #[.int .i64 n] w fun e w' => e = .returned (.bool true) ∧ Below w.heap.size w w' := by
  have e0 := hide (K_shown g)
  have e1 := K_text g [n] (by simp)
  by_cases hn : isg n = true
  · obtain ⟨m, rfl, hm⟩ := isg_nat hn
    have hs := isg_sg.1 hn
    rw [txt_ok (by simpa using hn)] at e1
    have f2 := K_right g (str (two m)) (by rw [size_mk]; show 2 ≤ 1000; omega)
    have f3 := K_right g (str (three m)) (by rw [size_mk]; show 3 ≤ 1000; omega)
    have f4 := K_right g (str (four m)) (by rw [size_mk]; show 4 ≤ 1000; omega)
    by_cases h1 : m < 2048
    · rw [bad_none_false (by rw [data_mk]; exact none_bad (by simp [three]) (three_none h1))] at f3
      rw [bad_none_false (by rw [data_mk]; exact none_bad (by simp [four]) (four_none h1))] at f4
      by_cases h0 : m < 128
      · rw [bad_none_false (by rw [data_mk]; exact none_bad (by simp [two]) (two_none h0))] at f2
        exact w1y m _ _ _ _ w rfl rfl rfl (by omega) (decide_eq_true (by omega)) (decide_eq_false (by omega)) e0 e1 f2 f3 f4
      · rw [bad_of_is (by rw [data_mk, two_enc (by omega) h1]; exact is_enc hs)] at f2
        exact w2y m _ _ _ _ w rfl rfl rfl (by omega) (decide_eq_true (by omega)) (decide_eq_true (by omega)) e0 e1 f2 f3 f4
    · by_cases h2 : m < 65536
      · rw [bad_of_is (by rw [data_mk, three_enc (by omega) h2]; exact is_enc hs)] at f3
        exact w3y m _ _ _ _ w rfl rfl rfl (by omega) (decide_eq_false (by omega)) (decide_eq_true (by omega)) e0 e1 f3
      · rw [bad_of_is (by rw [data_mk, four_enc (by omega) hm]; exact is_enc hs)] at f4
        cases hb : (bad (str (three m))).isNone with
        | false =>
          rw [hb] at f3
          exact w4n m _ _ _ _ w rfl rfl rfl (by omega) (decide_eq_false (by omega)) (decide_eq_false (by omega)) (decide_eq_true (by omega)) e0 e1 f3
        | true =>
          rw [hb] at f3
          exact w4y m _ _ _ _ w rfl rfl rfl (by omega) (decide_eq_false (by omega)) (decide_eq_false (by omega)) (decide_eq_true (by omega)) e0 e1 f3 f4
  · have hn' : isg n = false := by simpa using hn
    rw [txt_no (by simpa using hn')] at e1
    exact wn n w e0 e1

set_option maxRecDepth 100000 in
/-- What the walk gives, for every argument. -/
theorem contract (H : Type) (enc : TypeId × Value → H) (W : World) (base : Nat) (args : Array Value) (ds gs : List (DataW H)) (before : List MemPlace)
    (hval : ∀ (j : Nat) t v, Tryd.f9.params[j]? = some t → args[j]? = some v → Value.okWide Tryd.prog W .any base t v)
    (hW : DataW.Whole enc Tryd.prog Tryd.f9.params.toList Rows.utfLongSpec.vars false W args.toList ds gs before) (hL : laidMetH Tryd.prog Rows.utfLongRow.laid W) :
    Calls Tryd.prog 9 args W fun e W' => ∃ v, e = .returned v ∧ Rows.utfLongSpec.post enc Tryd.prog Tryd.f9 false true false false W args v W' := by
  obtain ⟨aU, aS, g⟩ := glob_of_laid hL
  have hW' := hW
  obtain ⟨p, q, hA0, hV, rfl, hfz, hnd⟩ := hW
  have hA : DataW.TrodAll enc Tryd.prog W 0 (fun _ => true) true Tryd.f9.params.toList args.toList ds p := hA0
  rw [Tryd.params9] at hA hval
  obtain ⟨v0, vs0, d0, ds0, p0, q0, hargs0, rfl, rfl, h0, r0⟩ := trodAll_cons hA
  obtain ⟨rfl, rfl, rfl⟩ := trodAll_nil r0
  obtain rfl : args = #[v0] := by cases args; simp_all
  obtain ⟨rfl, rfl⟩ := trodVars_none hV
  obtain ⟨x0, rfl, rfl, rfl, wf0⟩ := open_int Tryd.underlying3 (hval 0 3 v0 rfl rfl) h0
  clear hA0
  simp only [List.append_nil] at hW'
  refine (walk x0 aU aS W g).mono fun e W' ⟨he, hg⟩ => ?_
  subst he
  refine ⟨_, rfl, _, _, _, [], [], [], hW', ?_, ?_, ?_, hg.frame _, fun h => by cases h⟩
  · exact trodAll_cons_mk (shut_bool Tryd.underlying4 _) trodAll_mk0
  · exact trodAll_cons_mk (shut_int Tryd.underlying3 wf0) (trodAll_mk0)
  · rfl

theorem reads (os : Os) {H : Type} (enc : TypeId × Value → H) : ∃ places, DataW.whole enc Tryd.prog (({ World.holding Tryd.prog os ⟨#[.cells #[.string sentS0] 126, .cells #[.string sentS1] 126], #[], []⟩ with heap := (((World.holding Tryd.prog os ⟨#[.cells #[.string sentS0] 126, .cells #[.string sentS1] 126], #[], []⟩).heap.modify 0 fun | .cells _ t frozen => .cells #[.iface 104 (.pointer (some ⟨(World.holding Tryd.prog default ⟨#[], #[], []⟩).heap.size + 0, 0, none⟩))] t frozen | o => o).modify 1 fun | .cells _ t frozen => .cells #[.iface 104 (.pointer (some ⟨(World.holding Tryd.prog default ⟨#[], #[], []⟩).heap.size + 1, 0, none⟩))] t frozen | o => o).modify 2 fun | .cells _ t frozen => .cells #[.iface 90 (.agg #[.pointer (some ⟨3, 39, none⟩)])] t frozen | o => o } : World).forCall (fun _ _ => 0) ⟨#[], #[.int .i64 0], []⟩).memory Tryd.f9.params.toList Rows.utfLongSpec.vars false #[Value.int .i64 0].toList 8 = some ([.lit (.int .i64 0)], [], places) :=
  ⟨[], by kernel_rfl⟩

set_option maxRecDepth 100000 in
theorem lifted (os : Os) (started : os.Started) (H : Type) (enc : TypeId × Value → H) (F : Stop.Interp) :
    ReturnsInHanded {} Tryd.checked os 9 .any ((OpenSpec.ofChange Rows.utfLongSpec).preRow enc Tryd.prog Tryd.f9 Rows.utfLongRow.domain false Rows.utfLongRow.laid) (((OpenSpec.ofChange Rows.utfLongSpec).at F).post enc Tryd.prog Tryd.f9 false true false false) := by
  obtain ⟨places, hx⟩ := reads os enc
  refine returnsInHanded_of_row (C := Tryd.checked) (s := OpenSpec.ofChange Rows.utfLongSpec) own started (by kernel_rfl) Tryd.func9
    (witness_row_at (enc := enc) (C := Tryd.checked) false ({ World.holding Tryd.prog os ⟨#[.cells #[.string sentS0] 126, .cells #[.string sentS1] 126], #[], []⟩ with heap := (((World.holding Tryd.prog os ⟨#[.cells #[.string sentS0] 126, .cells #[.string sentS1] 126], #[], []⟩).heap.modify 0 fun | .cells _ t frozen => .cells #[.iface 104 (.pointer (some ⟨(World.holding Tryd.prog default ⟨#[], #[], []⟩).heap.size + 0, 0, none⟩))] t frozen | o => o).modify 1 fun | .cells _ t frozen => .cells #[.iface 104 (.pointer (some ⟨(World.holding Tryd.prog default ⟨#[], #[], []⟩).heap.size + 1, 0, none⟩))] t frozen | o => o).modify 2 fun | .cells _ t frozen => .cells #[.iface 90 (.agg #[.pointer (some ⟨3, 39, none⟩)])] t frozen | o => o } : World) #[.int .i64 0] rfl (by kernel_rfl) (by kernel_rfl) (by kernel_rfl)
      (OpenSpec.preRow_of_cond 8 hx (by kernel_rfl) (fun k hk => by cases hk) (by kernel_rfl) (laid_met os _))) ?_
  intro W base args ds gs before hval hW _ _ _ hL _ _
  exact contract H enc W base args ds gs before hval hW hL

theorem said : Rows.UtfLongSaid :=
  OpenClaim.holds_of_cond 9 Tryd.f9 rfl rfl rfl rfl rfl rfl rfl ⟨rfl, rfl, rfl, rfl, rfl⟩ rfl rfl rfl rfl rfl (by kernel_rfl) Tryd.func9 (by kernel_rfl)
    (of_decide_eq_true (by kernel_rfl)) (by unfold Func.isWrapper; first | (rw [if_pos (by decide +kernel)]; kernel_rfl) | (rw [if_neg (by decide +kernel)]; exact ⟨rfl, rfl⟩))
    (fun os started H enc _ F => by rw [OpenClaim.pre_eq_preRow]; exact lifted os started H enc F)

theorem plain (f : FuncId) (fn : Func) (hf : Tryd.pinned.checked.prog.funcNamed "latiner/latinerlaw04.UtfLong" = some f) (hfn : Tryd.pinned.checked.prog.funcs[f]? = some fn) :
    true = Tryd.pinned.checked.prog.looks [] ∧ ∀ (j : Nat) t, fn.params[j]? = some t → Tryd.pinned.checked.prog.wantsStandIn t = false := by
  obtain rfl : f = 9 := Option.some.inj ((show Tryd.prog.funcNamed "latiner/latinerlaw04.UtfLong" = some 9 by kernel_rfl).symm.trans hf) |>.symm
  obtain rfl : fn = Tryd.f9 := (Option.some.inj (Tryd.func9.symm.trans hfn)).symm
  refine ⟨by kernel_rfl, fun j t ht => ?_⟩
  rw [Tryd.params9] at ht
  have hm : t = 3 := by have := Array.mem_of_getElem? ht; simp at this; first | exact this | omega | (rcases this with h | h | h <;> simp [h]) | (rcases this with h | h | h | h <;> simp [h])
  subst hm
  exact (show Tryd.prog.wantsStandIn 3 = false by kernel_rfl)

/-- The card. -/
theorem card : Rows.UtfLongCardSaid :=
  Claim7.holds_tied_plain_at .later [] _ _ _ _ said (fun _ h => by cases h) (by kernel_rfl) (fun _ h => by cases h) utfLong_row_tie rfl ⟨rfl, rfl⟩ (by kernel_rfl) rfl plain (by kernel_rfl)
end Go.Proofs.YtpfopmjpchiekaaDoor.U.long

namespace Go.Proofs.YtpfopmjpchiekaaDoor
theorem utfLong_holds : Rows.UtfLongCardSaid := U.long.card
#print axioms utfLong_holds
end Go.Proofs.YtpfopmjpchiekaaDoor
