/-
  What size.Decode answers: for every text and place, what 'Sz.dec' says. Conditions: the package-level variables hold what the program's text lays.
-/
import Derived.Test.YthibodkemnkjeaaDoorFollow
namespace Go.Proofs.YthibodkemnkjeaaDoor
open Go.RowKit

/-- the world in which Decode calls follow. -/
def W1 (w : World) (s : ByteArray) (a : Int) : World := (w.alloc (.cells #[.string s, .int .i64 a, .int .i64 0, .int .u32 0] 146)).alloc (.cells #[.func (.func 82) #[] #[], .func (.func 83) #[] #[], .func (.func 84) #[] #[]] 151)
theorem W1_below (w : World) (s : ByteArray) (a : Int) : Below w.heap.size w (W1 w s a) := ((Below.refl _ _).alloc (Nat.le_refl _) _).alloc (by simp) _
theorem W1_size (w : World) (s : ByteArray) (a : Int) : (W1 w s a).heap.size = w.heap.size + 2 := by simp [W1]
theorem W1_rd (w : World) (s : ByteArray) (a : Int) : Rd w.heap.size s a 0 0 (W1 w s a) := by
  refine Rd.alloc ?_ _
  exact ⟨by rw [World.cell?_alloc_at _ _ _ _ rfl]; rfl, by rw [World.cell?_alloc_at _ _ _ _ rfl]; rfl, by rw [World.cell?_alloc_at _ _ _ _ rfl]; rfl, by rw [World.cell?_alloc_at _ _ _ _ rfl]; rfl, by simp, by simp⟩
theorem W1_rules (w : World) (s : ByteArray) (a : Int) : Rules (w.heap.size + 1) (W1 w s a) :=
  ⟨by unfold W1; rw [World.cell?_alloc_at _ _ _ _ (by simp)]; rfl, by unfold W1; rw [World.cell?_alloc_at _ _ _ _ (by simp)]; rfl, by unfold W1; rw [World.cell?_alloc_at _ _ _ _ (by simp)]; rfl⟩

set_option maxRecDepth 100000 in
/-- an error of any kind. -/
theorem decode_err (s : ByteArray) (a E : Int) (T : TypeId) (v : Value) (w : World)
    (H : Calls Tryd.prog 81 #[.pointer (some ⟨w.heap.size, 0, none⟩), .slice (some ⟨w.heap.size + 1, 0, none⟩) 3 3] (W1 w s a) fun e w' => e = .returned (.iface T v) ∧ But w.heap.size (W1 w s a) w')
    (HE : ∀ w1, Below w.heap.size w w1 → Calls Tryd.prog 39 #[.iface T v] w1 fun e w' => e = .returned (.int .i64 E) ∧ Below w1.heap.size w1 w') :
    Calls Tryd.prog 77 #[.string s, .int .i64 a] w fun e w' => e = .returned (.tuple #[.int .i64 0, .int .i64 0, .int .i64 E]) ∧ Below w.heap.size w w' := by
  have HE' : Hid (∀ w1, Below w.heap.size w w1 → Calls Tryd.prog 39 #[.iface T v] w1 fun e w' => e = .returned (.int .i64 E) ∧ Below w1.heap.size w1 w') := HE
  have H' := H.mono (R' := fun e w' => e = .returned (.iface T v) ∧ Below w.heap.size w w') (fun e w' ⟨he, hb⟩ => ⟨he, (W1_below w s a).trans (hb.below (Nat.le_refl _) (by rw [W1_size]; omega))⟩)
  clear HE H
  unfold W1 at H'
  go_enter Tryd.func77, Tryd.ntmps77
  go_wp2_with (first | (go_at_call 81; refine H'.mono ?_; rintro e w1 ⟨rfl, hb1⟩) | (go_at_call 39; refine (HE'.out _ hb1).mono ?_; rintro e w2 ⟨rfl, hb2⟩))
  go_ret3
  exact ⟨rfl, hb1.trans (hb2.mono hb1.size)⟩

set_option maxRecDepth 100000 in
theorem decode_fine (s : ByteArray) (k c N : Nat) (w : World) (hs : s.size ≤ maxLen) (hk : k < s.size) (hc : c ≤ 4) (hN : N ≤ 16777215)
    (H : Calls Tryd.prog 81 #[.pointer (some ⟨w.heap.size, 0, none⟩), .slice (some ⟨w.heap.size + 1, 0, none⟩) 3 3] (W1 w s k) fun e w' => e = .returned .nilIface ∧ Rd w.heap.size s k c N w' ∧ But w.heap.size (W1 w s k) w')
    (hcs : k + 1 + c ≤ s.size) :
    Calls Tryd.prog 77 #[.string s, .int .i64 k] w fun e w' => e = .returned (.tuple #[.int .i64 N, .int .i64 ((k : Int) + 1 + c), .int .i64 0]) ∧ Below w.heap.size w w' := by
  have H' := H.mono (R' := fun e w' => e = .returned .nilIface ∧ w'.cell? ⟨w.heap.size, 1, none⟩ = some (.int .i64 k) ∧ w'.cell? ⟨w.heap.size, 2, none⟩ = some (.int .i64 c) ∧ w'.cell? ⟨w.heap.size, 3, none⟩ = some (.int .u32 N) ∧ Below w.heap.size w w')
    (fun e w' ⟨he, hd, hb⟩ => ⟨he, hd.h1, hd.h2, hd.h3, (W1_below w s k).trans (hb.below (Nat.le_refl _) (by rw [W1_size]; omega))⟩)
  unfold maxLen at hs
  have a1 : (k : Int) + 1 + c ≤ 9223372036854775807 := by omega
  have a2 : (N : Int) ≤ 16777215 := by omega
  clear H
  unfold W1 at H'
  go_enter Tryd.func77, Tryd.ntmps77
  go_wp2_with (go_at_call 81; refine H'.mono ?_; rintro e w1 ⟨rfl, h1, h2, h3, hb1⟩)
  go_quiet (fail)
  go_wp2
  go_ret3
  exact ⟨rfl, below_drewN hb1 _⟩

theorem getD_at (s : ByteArray) (k : Nat) (hk : k < s.size) : s.data.toList.getD (k : Int).toNat 0 = s[k] := by
  have h : k < s.data.toList.length := by simpa using hk
  rw [Int.toNat_natCast, List.getD_eq_getElem?_getD, List.getElem?_eq_getElem h]
  rfl

/-- three numbers as a tuple. -/
abbrev tup (t : Int × Int × Int) : Value := .tuple #[.int .i64 t.1, .int .i64 t.2.1, .int .i64 t.2.2]

set_option maxRecDepth 100000 in
theorem decode_any (s : ByteArray) (a : Int) (aS aF : Addr) (w : World) (g : Glob aS aF w) (hs : s.size ≤ maxLen) :
    Calls Tryd.prog 77 #[.string s, .int .i64 a] w fun e w' => e = .returned (tup (Sz.dec s.data.toList a)) ∧ Below w.heap.size w w' := by
  have hsz : s.data.toList.length = s.size := by simp
  have gW := g.below (Nat.le_refl _) (W1_below w s a)
  have hgb := g.gb
  have hne : w.heap.size + 1 ≠ w.heap.size := by omega
  by_cases h0 : 0 ≤ a ∧ a < s.size
  · obtain ⟨k, rfl⟩ := Int.eq_ofNat_of_zero_le h0.1
    have hk : k < s.size := by omega
    have hx := getD_at s k hk
    have hlt : s[k].toNat < 256 := s[k].toNat_lt
    by_cases h1 : s[k].toNat < 128
    · have e : Sz.dec s.data.toList k = ((s[k].toNat : Int), (k : Int) + 1 + (0 : Nat), 0) := by
        unfold Sz.dec; rw [if_neg (by omega), hx, if_pos h1]; simp
      rw [e]
      exact decode_fine s k 0 s[k].toNat w hs hk (by omega) (by omega)
        (follow_ok _ _ s k 0 s[k].toNat aS aF _ (W1_rules w s k) hne gW hs hk (by omega) (by omega) hgb (by omega) _ (by simp [Sz.numFrom]) (by omega) (takeFirst_low _ s k 0 0 _ (W1_rd w s k) hk h1)) (by omega)
    · by_cases h2 : s[k].toNat = 128 ∨ 132 < s[k].toNat
      · have e : Sz.dec s.data.toList k = (0, 0, 11) := by
          unfold Sz.dec; rw [if_neg (by omega), hx, if_neg h1, if_pos h2]
        rw [e]
        exact decode_err s k 11 _ _ w (follow_first _ _ s k 0 0 _ _ _ (W1_rules w s k) (W1_rd w s k) (takeFirst_form _ s k 0 0 aS aF _ (W1_rd w s k) gW hk h2)) (fun w1 hb => errnoOf_form k aS aF w1 (g.below (Nat.le_refl _) hb))
      · have hF := takeFirst_long _ s k 0 ((0 : Nat) : Int) _ (W1_rd w s k) hk (by omega) (by omega)
        have ec : (s[k].toNat : Int) - 128 = ((s[k].toNat - 128 : Nat) : Int) := by omega
        rw [ec] at hF
        have hm : (0 + 1) * 256 ^ (s[k].toNat - 128) ≤ 4294967296 := by
          rw [Nat.zero_add, Nat.one_mul]
          exact Nat.le_trans (Nat.pow_le_pow_right (by omega) (show s[k].toNat - 128 ≤ 4 by omega)) (by decide)
        by_cases h3 : s.size - (k + 1) < s[k].toNat - 128
        · have e : Sz.dec s.data.toList k = (0, 0, 10) := by
            unfold Sz.dec; rw [if_neg (by omega), hx, if_neg h1, if_neg h2, if_pos (by rw [hsz, Int.toNat_natCast]; exact h3)]
          rw [e]
          exact decode_err s k 10 _ _ w (follow_rest _ _ s k (s[k].toNat - 128) 0 aS aF _ (W1_rules w s k) hne gW hs hk (by omega) hm hgb (by omega) hF) (fun w1 hb => errnoOf_short k aS aF w1 (g.below (Nat.le_refl _) hb))
        · obtain ⟨N, hN⟩ : ∃ N, N = Sz.numFrom 0 ((s.data.toList.drop (k + 1)).take (s[k].toNat - 128)) := ⟨_, rfl⟩
          have hN2 : N < 4294967296 := by
            have := Sz.numFrom_lt 0 ((s.data.toList.drop (k + 1)).take (s[k].toNat - 128))
            rw [← hN, List.length_take, List.length_drop, hsz, Nat.min_eq_left (by omega)] at this
            omega
          by_cases h4 : 16777215 < N
          · have e : Sz.dec s.data.toList k = (0, 0, 12) := by
              unfold Sz.dec; rw [if_neg (by omega), hx, if_neg h1, if_neg h2, if_neg (by rw [hsz, Int.toNat_natCast]; exact h3), if_pos (by rw [Int.toNat_natCast, ← hN]; exact h4)]
            rw [e]
            exact decode_err s k 12 _ _ w (follow_large _ _ s k (s[k].toNat - 128) 0 aS aF _ (W1_rules w s k) hne gW hs hk (by omega) hm hgb (by omega) N hN h4 hN2 hF) (fun w1 hb => errnoOf_size _ _ (as2 N k) aS aF w1 (g.below (Nat.le_refl _) hb))
          · have e : Sz.dec s.data.toList k = ((N : Int), (k : Int) + 1 + (s[k].toNat - 128 : Nat), 0) := by
              unfold Sz.dec; rw [if_neg (by omega), hx, if_neg h1, if_neg h2, if_neg (by rw [hsz, Int.toNat_natCast]; exact h3), Int.toNat_natCast, ← hN, if_neg h4]
            rw [e]
            exact decode_fine s k (s[k].toNat - 128) N w hs hk (by omega) (by omega)
              (follow_ok _ _ s k (s[k].toNat - 128) 0 aS aF _ (W1_rules w s k) hne gW hs hk (by omega) hm hgb (by omega) N hN (by omega) hF) (by omega)
  · have e : Sz.dec s.data.toList a = (0, 0, 10) := by
      unfold Sz.dec; rw [if_pos (by omega)]
    rw [e]
    exact decode_err s a 10 _ _ w (follow_first _ _ s a 0 0 _ _ _ (W1_rules w s a) (W1_rd w s a) (takeFirst_short _ s a 0 0 aS aF _ (W1_rd w s a) gW h0)) (fun w1 hb => errnoOf_short a aS aF w1 (g.below (Nat.le_refl _) hb))
end Go.Proofs.YthibodkemnkjeaaDoor
