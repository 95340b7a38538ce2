/-
  What the small functions of package tlv answer. Conditions: the package-level variables hold what the program's text lays.
-/
import Derived.Test.YthibodkemnkjeaaDoorTNode
import Derived.Test.YthibodkemnkjeaaDoorTShelf
import Derived.Test.YthibodkemnkjeaaDoorEnc
namespace Go.Proofs.YthibodkemnkjeaaDoor
open Go.RowKit Tv

/-- is 32 among the bits? (of whatever number) -/
def inB (t : Int) : Bool := bits BinOp.and IntKind.i64 t 32 != 0
theorem inB_fin : ∀ n : Fin 256, inB (n.val : Int) = isIn (n.val : Int) := by decide +kernel
theorem low_fin : ∀ n : Fin 256, bits BinOp.and IntKind.i64 (n.val : Int) 31 = (n.val : Int) % 32 := by decide +kernel
theorem inB_eq (t : Int) (h0 : 0 ≤ t) (h1 : t ≤ 255) : inB t = isIn t := by
  have := inB_fin ⟨t.toNat, by omega⟩
  simpa [show ((t.toNat : Nat) : Int) = t by omega] using this
theorem low_eq (t : Int) (h0 : 0 ≤ t) (h1 : t ≤ 255) : bits BinOp.and IntKind.i64 t 31 = t % 32 := by
  have := low_fin ⟨t.toNat, by omega⟩
  simpa [show ((t.toNat : Nat) : Int) = t by omega] using this

theorem isInner_any (t : Int) (w : World) : Calls Tryd.prog 47 #[.int .i64 t] w fun e w' => e = .returned (.bool (inB t)) ∧ w' = w := by
  go_enter Tryd.func47, Tryd.ntmps47
  go_wp2
  go_ret
  exact ⟨rfl, rfl⟩

set_option maxHeartbeats 1000000 in
theorem fits_any (t : Int) (d : ByteArray) (a : Option Addr) (len cap : Nat) (w : World) :
    Calls Tryd.prog 43 #[.agg #[.int .i64 t, .string d, .slice a len cap]] w fun e w' => e = .returned (.bool (fitB t d.size len)) ∧ Below w.heap.size w w' := by
  have hb : ∀ o, Below w.heap.size w (w.alloc o) := fun o => (Below.refl _ _).alloc (Nat.le_refl _) _
  by_cases h0 : t < 0
  · rw [show fitB t d.size len = false by unfold fitB; rw [decide_eq_false]; omega]
    go_enter Tryd.func43, Tryd.ntmps43
    go_wp2_with (go_at_call 47; refine (isInner_any _ _).mono ?_; rintro e w' ⟨rfl, rfl⟩)
    go_ret
    exact ⟨rfl, hb _⟩
  · by_cases h1 : 255 < t
    · rw [show fitB t d.size len = false by unfold fitB; rw [decide_eq_false]; omega]
      go_enter Tryd.func43, Tryd.ntmps43
      go_wp2_with (go_at_call 47; refine (isInner_any _ _).mono ?_; rintro e w' ⟨rfl, rfl⟩)
      go_ret
      exact ⟨rfl, hb _⟩
    · have hI := inB_eq t (by omega) (by omega)
      have hL := low_eq t (by omega) (by omega)
      by_cases h2 : t % 32 = 31
      · rw [show fitB t d.size len = false by unfold fitB; rw [decide_eq_false]; omega]
        have e2 : (t % 32 == 31) = true := beq_iff_eq.2 h2
        go_enter Tryd.func43, Tryd.ntmps43
        go_wp2_with (go_at_call 47; refine (isInner_any _ _).mono ?_; rintro e w' ⟨rfl, rfl⟩)
        go_ret
        exact ⟨rfl, hb _⟩
      · have e2 : (t % 32 == 31) = false := beq_eq_false_iff_ne.2 h2
        clear h2
        cases hi : isIn t
        · by_cases h3 : len = 0
          · subst h3
            rw [show fitB t d.size 0 = true by unfold fitB; rw [decide_eq_true]; rw [hi]; simp at e2; simp; omega]
            rw [hi] at hI
            clear hi
            go_enter Tryd.func43, Tryd.ntmps43
            go_wp2_with (go_at_call 47; refine (isInner_any _ _).mono ?_; rintro e w' ⟨rfl, rfl⟩)
            go_ret
            exact ⟨rfl, hb _⟩
          · rw [show fitB t d.size len = false by unfold fitB; rw [decide_eq_false]; rw [hi]; simp; omega]
            have e3 : 0 < (len : Int) := by omega
            rw [hi] at hI
            clear hi h3
            go_enter Tryd.func43, Tryd.ntmps43
            go_wp2_with (go_at_call 47; refine (isInner_any _ _).mono ?_; rintro e w' ⟨rfl, rfl⟩)
            go_ret
            exact ⟨rfl, hb _⟩
        · by_cases h3 : d.size = 0
          · obtain rfl := nil_of_size h3
            rw [show fitB t (ByteArray.mk #[]).size len = true from (fit_iff _ _ _).2 ⟨by omega, by omega, by simpa using e2, fun _ => h3, fun h => by rw [hi] at h; cases h⟩]
            rw [hi] at hI
            clear hi h3
            go_enter Tryd.func43, Tryd.ntmps43
            go_wp2_with (go_at_call 47; refine (isInner_any _ _).mono ?_; rintro e w' ⟨rfl, rfl⟩)
            go_ret
            exact ⟨rfl, hb _⟩
          · rw [show fitB t d.size len = false by rw [Bool.eq_false_iff]; intro h; exact h3 (((fit_iff _ _ _).1 h).2.2.2.1 hi)]
            have e3 : (d.toList == ([] : List UInt8)) = false := by
              rw [beq_eq_false_iff_ne, ByteArray.toList_eq]
              intro e
              exact h3 (show d.data.size = 0 by rw [← Array.length_toList, e]; rfl)
            rw [hi] at hI
            clear hi h3
            go_enter Tryd.func43, Tryd.ntmps43
            go_wp2_with (go_at_call 47; refine (isInner_any _ _).mono ?_; rintro e w' ⟨rfl, rfl⟩)
            go_ret
            exact ⟨rfl, hb _⟩

theorem place_any (s : ByteArray) (a : Int) (w : World) : Calls Tryd.prog 50 #[.agg #[.string s], .int .i64 a] w fun e w' => e = .returned (.bool (decide (0 ≤ a ∧ a ≤ s.size))) ∧ Below w.heap.size w w' := by
  have hb : ∀ o, Below w.heap.size w (w.alloc o) := fun o => (Below.refl _ _).alloc (Nat.le_refl _) _
  by_cases h0 : 0 ≤ a
  · by_cases h1 : a ≤ s.size
    · rw [decide_eq_true ⟨h0, h1⟩]
      go_enter Tryd.func50, Tryd.ntmps50
      go_wp2
      go_ret
      exact ⟨rfl, hb _⟩
    · rw [decide_eq_false (fun h => h1 h.2)]
      go_enter Tryd.func50, Tryd.ntmps50
      go_wp2
      go_ret
      exact ⟨rfl, hb _⟩
  · rw [decide_eq_false (fun h => h0 h.1)]
    go_enter Tryd.func50, Tryd.ntmps50
    go_wp2
    go_ret
    exact ⟨rfl, hb _⟩

theorem clone_any (s : ByteArray) (w : World) (hs : s.size ≤ 10000) : Calls Tryd.prog 73 #[.string s] w fun e w' => e = .returned (.string s) ∧ Below w.heap.size w w' := by
  have H := clone0_any s w (by omega)
  go_enter Tryd.func73, Tryd.ntmps73
  go_wp2_with (go_at_call 78; refine H.mono ?_; rintro e w' ⟨rfl, hb⟩)
  go_ret
  exact ⟨rfl, hb⟩

theorem piece_any (s : ByteArray) (a b : Nat) (w : World) (hs : s.size ≤ 10000) (hab : a ≤ b) (hb : b ≤ s.size) : Calls Tryd.prog 65 #[.agg #[.string s], .int .i64 a, .int .i64 b] w fun e w' => e = .returned (.string (s.extract a b)) ∧ Below w.heap.size w w' := by
  have H := clone_any (s.extract a b) (w.alloc (.cells #[.string s] 77)) (by rw [ByteArray.size_extract]; omega)
  have h1 : (a : Int) ≤ b := by omega
  have h2 : (b : Int) ≤ s.size := by omega
  go_enter Tryd.func65, Tryd.ntmps65
  go_wp2_with (go_at_call 73; refine H.mono ?_; rintro e w' ⟨rfl, hb⟩)
  go_ret
  exact ⟨rfl, ((Below.refl _ _).alloc (Nat.le_refl _) _).trans (hb.mono (by simp))⟩

theorem ext_take (s : ByteArray) (b : Nat) : (s.extract 0 b).data.toList = s.data.toList.take b := by simp [ByteArray.data_extract]

theorem length_ok (s : ByteArray) (a : Int) (stop : Nat) (n p : Int) (aS aF : Addr) (w : World) (g : Glob aS aF w) (hs : s.size ≤ 10000) (hst : stop ≤ s.size) (hd : Sz.dec (s.data.toList.take stop) a = (n, p, 0)) :
    Calls Tryd.prog 72 #[.agg #[.string s], .int .i64 a, .int .i64 stop] w fun e w' => e = .returned (.tuple #[.int .i64 n, .int .i64 p, .nilIface]) ∧ Below w.heap.size w w' := by
  have H := decode_any (s.extract 0 stop) a aS aF (w.alloc (.cells #[.string s] 77)) (g.alloc _) (by unfold maxLen; rw [ByteArray.size_extract]; omega)
  rw [ext_take, hd] at H
  simp only [tup] at H
  have h2 : (stop : Int) ≤ s.size := by omega
  clear g hd
  go_enter Tryd.func72, Tryd.ntmps72
  go_wp2_with (go_at_call 77; refine H.mono ?_; rintro e w' ⟨rfl, hb⟩)
  go_ret3
  exact ⟨rfl, ((Below.refl _ _).alloc (Nat.le_refl _) _).trans (hb.mono (by simp))⟩

theorem length_no (s : ByteArray) (a : Int) (stop : Nat) (E : Int) (aS aF : Addr) (w : World) (g : Glob aS aF w) (hs : s.size ≤ 10000) (hst : stop ≤ s.size) (n p : Int) (hd : Sz.dec (s.data.toList.take stop) a = (n, p, E)) (hE : E ≠ 0) :
    Calls Tryd.prog 72 #[.agg #[.string s], .int .i64 a, .int .i64 stop] w fun e w' => e = .returned (.tuple #[.int .i64 0, .int .i64 0, .iface 69 (.agg #[.int .i64 E])]) ∧ Below w.heap.size w w' := by
  have H := decode_any (s.extract 0 stop) a aS aF (w.alloc (.cells #[.string s] 77)) (g.alloc _) (by unfold maxLen; rw [ByteArray.size_extract]; omega)
  rw [ext_take, hd] at H
  simp only [tup] at H
  have h2 : (stop : Int) ≤ s.size := by omega
  have h3 : (E != 0) = true := by rw [bne_iff_ne]; exact hE
  clear g hd hE
  go_enter Tryd.func72, Tryd.ntmps72
  go_wp2_with (go_at_call 77; refine H.mono ?_; rintro e w' ⟨rfl, hb⟩)
  go_ret3
  exact ⟨rfl, ((Below.refl _ _).alloc (Nat.le_refl _) _).trans (hb.mono (by simp))⟩
end Go.Proofs.YthibodkemnkjeaaDoor
