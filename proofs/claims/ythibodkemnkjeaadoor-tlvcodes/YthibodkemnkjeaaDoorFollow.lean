/-
  What (*size.reader).follow answers over the three rules that Decode hands it. Conditions: the package-level variables hold what the program's text lays.
-/
import Derived.Test.YthibodkemnkjeaaDoorRest
namespace Go.Proofs.YthibodkemnkjeaaDoor
open Go.RowKit

/-- the three rules lie in block g. -/
structure Rules (g : Nat) (w : World) : Prop where
  r0 : w.cell? ⟨g, 0, none⟩ = some (.func (.func 82) #[] #[])
  r1 : w.cell? ⟨g, 1, none⟩ = some (.func (.func 83) #[] #[])
  r2 : w.cell? ⟨g, 2, none⟩ = some (.func (.func 84) #[] #[])
theorem Rules.of {g : Nat} {w w' : World} (h : Rules g w) (e : w'.heap[g]? = w.heap[g]?) : Rules g w' :=
  ⟨(World.cell?_of_block (w := w) e).trans h.r0, (World.cell?_of_block (w := w) e).trans h.r1, (World.cell?_of_block (w := w) e).trans h.r2⟩
theorem Rules.but {g b : Nat} {w w' : World} (h : Rules g w) (k : But b w w') (hn : g ≠ b) : Rules g w' := h.of (k.block _ (lt_of_cell h.r0) hn)

/-- the first rule says what is wrong. -/
theorem follow_first (b g : Nat) (s : ByteArray) (a c n : Int) (v : Value) (T : TypeId) (w : World) (hr : Rules g w) (h : Rd b s a c n w)
    (H : Calls Tryd.prog 82 #[.pointer (some ⟨b, 0, none⟩)] w fun e w' => e = .returned (.iface T v) ∧ Below w.heap.size w w') :
    Calls Tryd.prog 81 #[.pointer (some ⟨b, 0, none⟩), .slice (some ⟨g, 0, none⟩) 3 3] w fun e w' => e = .returned (.iface 153 (.agg #[.int .i64 a, .iface T v])) ∧ But b w w' := by
  have H' := H.mono (R' := fun e w' => e = .returned (.iface T v) ∧ w'.cell? ⟨b, 1, none⟩ = some (.int .i64 a) ∧ But b w w')
    (fun e w' ⟨he, hb⟩ => ⟨he, (h.below hb h.lt).h1, But.of_below hb⟩)
  have hr0 := hr.r0
  clear H hr h
  go_enter Tryd.func81, Tryd.ntmps81
  go_wp2
  refine wp_loop_rounds 1 ?_
  rw [rounds_succ]
  go_wp2_with (go_at_call 82; refine H'.mono ?_; rintro e w' ⟨rfl, h1, hb⟩)
  go_ret
  exact ⟨rfl, hb⟩

/-- the first rule holds; the second says that bytes are missing. -/
theorem follow_rest (b g : Nat) (s : ByteArray) (k c m : Nat) (aS aF : Addr) (w : World) (hr : Rules g w) (hgb : g ≠ b) (hg : Glob aS aF w) (hs : s.size ≤ maxLen) (hk : k < s.size) (hc : c ≤ 4) (hm : (m + 1) * 256 ^ c ≤ 4294967296)
    (hgb' : GB aS aF b) (hcl : ¬ c ≤ s.size - (k + 1))
    (H : Calls Tryd.prog 82 #[.pointer (some ⟨b, 0, none⟩)] w fun e w' => e = .returned .nilIface ∧ Rd b s k c m w' ∧ But b w w') :
    Calls Tryd.prog 81 #[.pointer (some ⟨b, 0, none⟩), .slice (some ⟨g, 0, none⟩) 3 3] w fun e w' => e = .returned (.iface 153 (.agg #[.int .i64 k, .iface 158 (.pointer (some aS))])) ∧ But b w w' := by
  have H' := H.mono (R' := fun e w' => e = .returned .nilIface ∧ Hid (Rd b s k c m w') ∧ But b w w' ∧ w'.cell? ⟨g, 1, none⟩ = some (.func (.func 83) #[] #[]))
    (fun e w' ⟨he, hd, hb⟩ => ⟨he, hd, hb, (hr.but hb hgb).r1⟩)
  have R : ∀ w1, Rd b s k c m w1 → But b w w1 → Calls Tryd.prog 83 #[.pointer (some ⟨b, 0, none⟩)] w1 fun e w' => e = .returned (.iface 158 (.pointer (some aS))) ∧ w'.cell? ⟨b, 1, none⟩ = some (.int .i64 k) ∧ But b w w' :=
    fun w1 hd hb => (takeRest_any b s k c m aS aF w1 hd (hg.but hb hgb') hs hk hc hm hgb').mono (fun e w' hp => by
      obtain ⟨hb', hp⟩ := hp
      rw [if_neg hcl] at hp
      obtain ⟨he, n, hd'⟩ := hp
      exact ⟨he, hd'.h1, hb.trans hb'⟩)
  have HR := R
  have hr0 := hr.r0
  clear H hr hg hcl R
  have HR' : Hid (∀ w1, Rd b s k c m w1 → But b w w1 → Calls Tryd.prog 83 #[.pointer (some ⟨b, 0, none⟩)] w1 fun e w' => e = .returned (.iface 158 (.pointer (some aS))) ∧ w'.cell? ⟨b, 1, none⟩ = some (.int .i64 k) ∧ But b w w') := HR
  clear HR
  go_enter Tryd.func81, Tryd.ntmps81
  go_wp2
  refine wp_loop_rounds 2 ?_
  rw [rounds_succ]
  go_wp2_with (go_at_call 82; refine H'.mono ?_; rintro e w1 ⟨rfl, hd1, hb1, hr1⟩)
  rw [rounds_succ]
  go_wp2_with (go_at_call 83; refine (HR'.out _ hd1.out hb1).mono ?_; rintro e w2 ⟨rfl, h1, hb⟩)
  go_ret
  exact ⟨rfl, hb⟩

/-- the first two rules hold; the third one says that the number is no length. -/
theorem follow_large (b g : Nat) (s : ByteArray) (k c m : Nat) (aS aF : Addr) (w : World) (hr : Rules g w) (hgb : g ≠ b) (hg : Glob aS aF w) (hs : s.size ≤ maxLen) (hk : k < s.size) (hc : c ≤ 4) (hm : (m + 1) * 256 ^ c ≤ 4294967296)
    (hgb' : GB aS aF b) (hcl : c ≤ s.size - (k + 1)) (N : Nat) (hN : N = Sz.numFrom m ((s.data.toList.drop (k + 1)).take c)) (hN1 : 16777215 < N) (hN2 : N < 4294967296)
    (H : Calls Tryd.prog 82 #[.pointer (some ⟨b, 0, none⟩)] w fun e w' => e = .returned .nilIface ∧ Rd b s k c m w' ∧ But b w w') :
    Calls Tryd.prog 81 #[.pointer (some ⟨b, 0, none⟩), .slice (some ⟨g, 0, none⟩) 3 3] w fun e w' => e = .returned (.iface 153 (.agg #[.int .i64 k, .iface 84 (.agg #[.int .i64 N])])) ∧ But b w w' := by
  have H' := H.mono (R' := fun e w' => e = .returned .nilIface ∧ Hid (Rd b s k c m w') ∧ But b w w' ∧ w'.cell? ⟨g, 1, none⟩ = some (.func (.func 83) #[] #[]))
    (fun e w' ⟨he, hd, hb⟩ => ⟨he, hd, hb, (hr.but hb hgb).r1⟩)
  have HR : Hid (∀ w1, Rd b s k c m w1 → But b w w1 → Calls Tryd.prog 83 #[.pointer (some ⟨b, 0, none⟩)] w1 fun e w' => e = .returned .nilIface ∧ Hid (Rd b s k c N w') ∧ But b w w' ∧ w'.cell? ⟨g, 2, none⟩ = some (.func (.func 84) #[] #[]) ∧ w'.cell? ⟨b, 1, none⟩ = some (.int .i64 k)) :=
    fun w1 hd hb => (takeRest_any b s k c m aS aF w1 hd (hg.but hb hgb') hs hk hc hm hgb').mono (fun e w' hp => by
      obtain ⟨hb', hp⟩ := hp
      rw [if_pos hcl, ← hN] at hp
      obtain ⟨he, hd'⟩ := hp
      exact ⟨he, hd', hb.trans hb', (hr.but (hb.trans hb') hgb).r2, hd'.h1⟩)
  have hr0 := hr.r0
  clear H hr hg hcl hN
  go_enter Tryd.func81, Tryd.ntmps81
  go_wp2
  refine wp_loop_rounds 3 ?_
  rw [rounds_succ]
  go_wp2_with (go_at_call 82; refine H'.mono ?_; rintro e w1 ⟨rfl, hd1, hb1, hr1⟩)
  rw [rounds_succ]
  go_wp2_with (go_at_call 83; refine (HR.out _ hd1.out hb1).mono ?_; rintro e w2 ⟨rfl, hd2, hb2, hr2, h1⟩)
  rw [rounds_succ]
  go_wp2_with (go_at_call 84; refine (checkNumber_no b s k c N _ hd2.out (by omega) (by omega)).mono ?_; rintro e w3 ⟨rfl, rfl⟩)
  go_ret
  exact ⟨rfl, hb2⟩

/-- all rules hold. -/
theorem follow_ok (b g : Nat) (s : ByteArray) (k c m : Nat) (aS aF : Addr) (w : World) (hr : Rules g w) (hgb : g ≠ b) (hg : Glob aS aF w) (hs : s.size ≤ maxLen) (hk : k < s.size) (hc : c ≤ 4) (hm : (m + 1) * 256 ^ c ≤ 4294967296)
    (hgb' : GB aS aF b) (hcl : c ≤ s.size - (k + 1)) (N : Nat) (hN : N = Sz.numFrom m ((s.data.toList.drop (k + 1)).take c)) (hN1 : N ≤ 16777215)
    (H : Calls Tryd.prog 82 #[.pointer (some ⟨b, 0, none⟩)] w fun e w' => e = .returned .nilIface ∧ Rd b s k c m w' ∧ But b w w') :
    Calls Tryd.prog 81 #[.pointer (some ⟨b, 0, none⟩), .slice (some ⟨g, 0, none⟩) 3 3] w fun e w' => e = .returned .nilIface ∧ Rd b s k c N w' ∧ But b w w' := by
  have H' := H.mono (R' := fun e w' => e = .returned .nilIface ∧ Hid (Rd b s k c m w') ∧ But b w w' ∧ w'.cell? ⟨g, 1, none⟩ = some (.func (.func 83) #[] #[]))
    (fun e w' ⟨he, hd, hb⟩ => ⟨he, hd, hb, (hr.but hb hgb).r1⟩)
  have HR : Hid (∀ w1, Rd b s k c m w1 → But b w w1 → Calls Tryd.prog 83 #[.pointer (some ⟨b, 0, none⟩)] w1 fun e w' => e = .returned .nilIface ∧ Hid (Rd b s k c N w') ∧ But b w w' ∧ w'.cell? ⟨g, 2, none⟩ = some (.func (.func 84) #[] #[])) :=
    fun w1 hd hb => (takeRest_any b s k c m aS aF w1 hd (hg.but hb hgb') hs hk hc hm hgb').mono (fun e w' hp => by
      obtain ⟨hb', hp⟩ := hp
      rw [if_pos hcl, ← hN] at hp
      obtain ⟨he, hd'⟩ := hp
      exact ⟨he, hd', hb.trans hb', (hr.but (hb.trans hb') hgb).r2⟩)
  have hr0 := hr.r0
  clear H hr hg hcl hN
  go_enter Tryd.func81, Tryd.ntmps81
  go_wp2
  refine wp_loop_rounds 4 ?_
  rw [rounds_succ]
  go_wp2_with (go_at_call 82; refine H'.mono ?_; rintro e w1 ⟨rfl, hd1, hb1, hr1⟩)
  rw [rounds_succ]
  go_wp2_with (go_at_call 83; refine (HR.out _ hd1.out hb1).mono ?_; rintro e w2 ⟨rfl, hd2, hb2, hr2⟩)
  rw [rounds_succ]
  go_wp2_with (go_at_call 84; refine (checkNumber_ok b s k c N _ hd2.out (by omega) (by omega)).mono ?_; rintro e w3 ⟨rfl, rfl⟩)
  rw [rounds_succ]
  go_wp2
  go_ret
  exact ⟨rfl, hd2.out, hb2⟩
end Go.Proofs.YthibodkemnkjeaaDoor
