/-
  What esc.Filter, Name, ReadFilter and ReadName answer, at every text of at most one thousand bytes. Conditions: the package-level variables hold what the program's text lays ('Glob').
-/
import Derived.Test.YtgapoofalnakmaaDoorERead2
namespace Go.Proofs.YtgapoofalnakmaaDoor.E
open Go Go.RowKit Ec

theorem prp_al (nm : Bool) (s : ByteArray) : ∀ f p, s.size ≤ p + f → prp nm (C.al s 1 f p) = prt nm s.size p (s.data.toList.drop p)
  | 0, p, hf => by
    rw [drop_out (by omega), C.al, prt]
    rfl
  | f + 1, p, hf => by
    by_cases h : p < s.size
    · rw [C.al, dif_pos h, drop_at h, prt, ← prp_al nm s f (p + 1) (by omega)]
      rfl
    · rw [C.al, dif_neg h, drop_out h, prt]
      rfl
/-- what is printed. -/
def pri (nm : Bool) (s : ByteArray) : ByteArray := ⟨(prt nm s.size 0 s.data.toList).toArray⟩
theorem prp_all (nm : Bool) (s : ByteArray) : (⟨(prp nm (all s)).toArray⟩ : ByteArray) = pri nm s := by
  have := prp_al nm s s.size 0 (by omega)
  rw [List.drop_zero] at this
  have e : all s = C.al s 1 s.size 0 := rfl
  unfold pri
  rw [e, this]
/-- what is read. -/
def und (nm : Bool) (s : ByteArray) : ByteArray × Int := match rd nm s with
  | some t => (⟨t.toArray⟩, 0)
  | none => (⟨#[]⟩, 60)

theorem filter_any (s : ByteArray) (w : World) (hs : s.size ≤ 1000) :
    Calls Tryd.prog 15 #[.string s] w fun e w' => e = .returned (.string (pri false s)) ∧ Below w.heap.size w w' := by
  have H : Hid (Calls Tryd.prog 24 #[.int .i64 0, .string s] w (PPost false s w)) := printed_any false s w hs
  go_enter Tryd.func15, Tryd.ntmps15
  go_wp2_with fail
  refine (unhide H).mono ?_
  rintro e w1 ⟨rfl, hb⟩
  rw [prp_all]
  have HB := hide hb
  clear hb H
  go_wp2
  go_ret
  exact ⟨rfl, unhide HB⟩
theorem name_any (s : ByteArray) (w : World) (hs : s.size ≤ 1000) :
    Calls Tryd.prog 17 #[.string s] w fun e w' => e = .returned (.string (pri true s)) ∧ Below w.heap.size w w' := by
  have H : Hid (Calls Tryd.prog 24 #[.int .i64 1, .string s] w (PPost true s w)) := printed_any true s w hs
  go_enter Tryd.func17, Tryd.ntmps17
  go_wp2_with fail
  refine (unhide H).mono ?_
  rintro e w1 ⟨rfl, hb⟩
  rw [prp_all]
  have HB := hide hb
  clear hb H
  go_wp2
  go_ret
  exact ⟨rfl, unhide HB⟩
set_option maxRecDepth 100000 in
theorem answer_any (nm : Bool) (s : ByteArray) (a : Ad) (w : World) (g : Glob a w) (hs : s.size ≤ 1000) :
    Calls Tryd.prog 20 #[kv nm, .string s] w fun e w' => e = .returned (.tuple #[.string (und nm s).1, .int .i64 (und nm s).2]) ∧ Below w.heap.size w w' := by
  have H := read_any nm s a w g hs
  unfold ReadPost at H
  unfold und
  cases hd : rd nm s with
  | none =>
    rw [hd] at H
    have H' := hide (H.mono (R' := fun e w' => ∃ xv, e = .returned (.tuple #[.string ⟨#[]⟩, .iface 52 xv]) ∧ IsErr a (.iface 52 xv) ∧ Below w.heap.size w w') (fun e w' ⟨hb, he⟩ => by
      rcases he with ⟨t, h1, _⟩ | ⟨_, v1, h2, h3⟩
      · cases h1
      · obtain ⟨xv, rfl⟩ := h3.form
        exact ⟨xv, h2, h3, hb⟩))
    have Hg := hide g
    clear H g hd
    go_enter Tryd.func20, Tryd.ntmps20
    go_wp2_with fail
    refine (unhide H').mono ?_
    rintro e w1 ⟨xv, rfl, he, hb⟩
    have H2 := hide (errnoOf_any _ a w1 ((unhide Hg).below (Nat.le_refl _) hb) he)
    have HB := hide hb
    clear he hb
    go_wp2_with fail
    refine (unhide H2).mono ?_
    rintro e w2 ⟨rfl, hb⟩
    have HB2 := hide hb
    clear hb
    go_wp2
    go_ret2
    exact ⟨rfl, (unhide HB).trans ((unhide HB2).mono (unhide HB).size)⟩
  | some t =>
    rw [hd] at H
    have H' := hide (H.mono (R' := fun e w' => e = .returned (.tuple #[.string ⟨t.toArray⟩, .nilIface]) ∧ Below w.heap.size w w') (fun e w' ⟨hb, he⟩ => by
      rcases he with ⟨t', h1, h2⟩ | ⟨h1, _⟩
      · cases h1; exact ⟨h2, hb⟩
      · cases h1))
    dsimp only
    generalize (⟨t.toArray⟩ : ByteArray) = u at *
    clear H g hd
    go_enter Tryd.func20, Tryd.ntmps20
    go_wp2_with fail
    refine (unhide H').mono ?_
    rintro e w1 ⟨rfl, hb⟩
    have HB := hide hb
    clear hb
    go_wp2
    go_ret2
    exact ⟨rfl, unhide HB⟩
theorem readFilter_any (s : ByteArray) (a : Ad) (w : World) (g : Glob a w) (hs : s.size ≤ 1000) :
    Calls Tryd.prog 11 #[.string s] w fun e w' => e = .returned (.tuple #[.string (und false s).1, .int .i64 (und false s).2]) ∧ Below w.heap.size w w' := by
  have H : Hid (Calls Tryd.prog 20 #[.int .i64 0, .string s] w fun e w' => e = .returned (.tuple #[.string (und false s).1, .int .i64 (und false s).2]) ∧ Below w.heap.size w w') := answer_any false s a w g hs
  clear g
  generalize und false s = r at *
  go_enter Tryd.func11, Tryd.ntmps11
  go_wp2_with fail
  refine (unhide H).mono ?_
  rintro e w1 ⟨rfl, hb⟩
  have HB := hide hb
  clear hb H
  go_wp2
  go_ret2
  exact ⟨rfl, unhide HB⟩
theorem readName_any (s : ByteArray) (a : Ad) (w : World) (g : Glob a w) (hs : s.size ≤ 1000) :
    Calls Tryd.prog 13 #[.string s] w fun e w' => e = .returned (.tuple #[.string (und true s).1, .int .i64 (und true s).2]) ∧ Below w.heap.size w w' := by
  have H : Hid (Calls Tryd.prog 20 #[.int .i64 1, .string s] w fun e w' => e = .returned (.tuple #[.string (und true s).1, .int .i64 (und true s).2]) ∧ Below w.heap.size w w') := answer_any true s a w g hs
  clear g
  generalize und true s = r at *
  go_enter Tryd.func13, Tryd.ntmps13
  go_wp2_with fail
  refine (unhide H).mono ?_
  rintro e w1 ⟨rfl, hb⟩
  have HB := hide hb
  clear hb H
  go_wp2
  go_ret2
  exact ⟨rfl, unhide HB⟩
end Go.Proofs.YtgapoofalnakmaaDoor.E
