/-
  What dn.Right, Print, Parse, IsUnder and Canon answer. Conditions: the package-level variables hold what the program's text lays ('Glob').
-/
import Derived.Test.YthfcnjcpanoldaaGreatDoorDReadR
import Derived.Test.YthfcnjcpanoldaaGreatDoorDSame
namespace Go.Proofs.YthfcnjcpanoldaaGreatDoor.D
open Go Go.RowKit Go.Shelf Dp
attribute [local go_sem] Oper.semAt_some

theorem right_any (d : Nm) (v : Value) (a : Ad) (w : World) (g : Glob a w) (hR : Nml w v d) (hs : Sm d) :
    Calls Tryz.prog 19 #[v] w fun e w' => e = .returned (.bool (okN d)) ∧ Below w.heap.size w w' := by
  have H := hide (check_any d v a w g hR hs)
  have Hg := hide g
  obtain ⟨ad, cap, rfl, _, _⟩ := hR
  clear g hs
  cases hk : okN d
  · rw [hk] at H
    go_enter Tryz.func19, Tryz.ntmps19
    go_wp2_with fail
    refine (unhide H).mono ?_
    rintro e w1 ⟨hb, ⟨hf, _⟩ | ⟨_, T, x, rfl, he⟩⟩
    · cases hf
    have H2 := hide (errnoOf_any _ a w1 ((unhide Hg).below (Nat.le_refl _) hb) he)
    have HB := hide hb
    clear hb he H
    go_wp2_with fail
    refine (unhide H2).mono ?_
    rintro e w2 ⟨rfl, hb⟩
    have HB2 := hide ((unhide HB).trans (hb.mono (unhide HB).size))
    clear hb
    go_wp2
    go_ret
    exact ⟨rfl, unhide HB2⟩
  · rw [hk] at H
    go_enter Tryz.func19, Tryz.ntmps19
    go_wp2_with fail
    refine (unhide H).mono ?_
    rintro e w1 ⟨hb, ⟨_, rfl⟩ | ⟨hf, _⟩⟩
    case inr => cases hf
    have H2 := hide (errnoOf_nil a w1 ((unhide Hg).below (Nat.le_refl _) hb))
    have HB := hide hb
    clear hb H
    go_wp2_with fail
    refine (unhide H2).mono ?_
    rintro e w2 ⟨rfl, hb⟩
    have HB2 := hide ((unhide HB).trans (hb.mono (unhide HB).size))
    clear hb
    go_wp2
    go_ret
    exact ⟨rfl, unhide HB2⟩

/-- what Print answers. -/
def pri (d : Nm) : ByteArray × Int := if okN d then (pr d, 0) else (⟨#[]⟩, 70)
theorem print_any (d : Nm) (v : Value) (a : Ad) (w : World) (g : Glob a w) (hR : Nml w v d) (hs : Sm d) :
    Calls Tryz.prog 13 #[v] w fun e w' => e = .returned (.tuple #[.string (pri d).1, .int .i64 (pri d).2]) ∧ Below w.heap.size w w' := by
  have H := hide (check_any d v a w g hR hs)
  have HP := hide fun W hb => printed_any d v W (hR.below hb) hs
  have Hg := hide g
  obtain ⟨ad, cap, rfl, _, _⟩ := hR
  clear g hs
  unfold pri
  cases hk : okN d
  · rw [hk] at H
    rw [if_neg (by simp)]
    go_enter Tryz.func13, Tryz.ntmps13
    go_wp2_with fail
    refine (unhide H).mono ?_
    rintro e w1 ⟨hb, ⟨hf, _⟩ | ⟨_, T, x, rfl, he⟩⟩
    · cases hf
    have H2 := hide (errnoOf_any _ a w1 ((unhide Hg).below (Nat.le_refl _) hb) he)
    have HB := hide hb
    clear hb he H
    go_wp2_with fail
    refine (unhide H2).mono ?_
    rintro e w2 ⟨rfl, hb⟩
    have HB2 := hide ((unhide HB).trans (hb.mono (unhide HB).size))
    clear hb
    go_wp2
    go_ret2
    exact ⟨rfl, unhide HB2⟩
  · rw [hk] at H
    rw [if_pos rfl]
    generalize pr d = t at *
    go_enter Tryz.func13, Tryz.ntmps13
    go_wp2_with fail
    refine (unhide H).mono ?_
    rintro e w1 ⟨hb, ⟨_, rfl⟩ | ⟨hf, _⟩⟩
    case inr => cases hf
    have H2 := hide ((unhide HP) w1 hb)
    have HB := hide hb
    clear hb H HP
    go_wp2_with fail
    refine (unhide H2).mono ?_
    rintro e w2 ⟨rfl, hb⟩
    have HB2 := hide ((unhide HB).trans (hb.mono (unhide HB).size))
    clear hb
    go_wp2
    go_ret2
    exact ⟨rfl, unhide HB2⟩

/-- what Parse leaves. -/
def PaPost (o : Option Nm) (w : World) (e : Ending) (w' : World) : Prop := Below w.heap.size w w' ∧
  ((∃ d v, o = some d ∧ e = .returned (.tuple #[v, .int .i64 0]) ∧ NOwn w' v d) ∨ (o = none ∧ e = .returned (.tuple #[.slice none 0 0, .int .i64 70])))
theorem parse_any (s : ByteArray) (a : Ad) (w : World) (g : Glob a w) (hs : Shrt s.data.toList) :
    Calls Tryz.prog 15 #[.string s] w (PaPost (rdN s.data.toList) w) := by
  have H := hide (read_any s a w g hs)
  have Hg := hide g
  clear g hs
  go_enter Tryz.func15, Tryz.ntmps15
  go_wp2_with fail
  refine (unhide H).mono ?_
  rintro e w1 ⟨hb, ⟨d, v, hf, rfl, ho⟩ | ⟨hf, T, x, rfl, he⟩⟩
  · have HB := hide hb
    have Ho := hide ho
    have Hf := hide hf
    obtain ⟨ad, cap, rfl, _, _⟩ := ho.nml
    clear hb ho hf H
    go_wp2
    go_ret2
    exact ⟨unhide HB, .inl ⟨_, _, unhide Hf, rfl, unhide Ho⟩⟩
  · have H2 := hide (errnoOf_any _ a w1 ((unhide Hg).below (Nat.le_refl _) hb) he)
    have HB := hide hb
    have Hf := hide hf
    clear hb he hf H
    go_wp2_with fail
    refine (unhide H2).mono ?_
    rintro e w2 ⟨rfl, hb⟩
    have HB2 := hide ((unhide HB).trans (hb.mono (unhide HB).size))
    clear hb
    go_wp2
    go_ret2
    exact ⟨unhide HB2, .inr ⟨unhide Hf, rfl⟩⟩

theorem sm_ok {d : Nm} (h : okN d = true) : Sm d := by
  obtain ⟨h1, h2⟩ := okN_all h
  refine ⟨by omega, fun r hr => ?_⟩
  have := h2 r hr
  unfold okR at this
  simp only [Bool.and_eq_true, decide_eq_true_eq, List.all_eq_true] at this
  refine ⟨by omega, fun a ha => ?_⟩
  have := okA_size (this.2 a ha)
  omega
/-- what Canon answers. -/
def can (l : List UInt8) : ByteArray × Int := match rdN l with
  | some d => (pr d, 0)
  | none => (⟨#[]⟩, 70)
theorem canon_any (s : ByteArray) (a : Ad) (w : World) (g : Glob a w) (hs : Shrt s.data.toList) :
    Calls Tryz.prog 17 #[.string s] w fun e w' => e = .returned (.tuple #[.string (can s.data.toList).1, .int .i64 (can s.data.toList).2]) ∧ Below w.heap.size w w' := by
  have H := hide (parse_any s a w g hs)
  have Hg := hide g
  clear g hs
  unfold can
  cases hr : rdN s.data.toList with
  | none =>
    rw [hr] at H
    go_enter Tryz.func17, Tryz.ntmps17
    go_wp2_with fail
    refine (unhide H).mono ?_
    rintro e w1 ⟨hb, ⟨d, v, hf, _⟩ | ⟨_, rfl⟩⟩
    · cases hf
    have HB := hide hb
    clear hb H
    go_wp2
    go_ret2
    exact ⟨rfl, unhide HB⟩
  | some d =>
    rw [hr] at H
    have hok := rdN_ok hr
    have hp : pri d = (pr d, 0) := by unfold pri; rw [hok]; rfl
    have HP := hide fun v W g (hn : Nml W v d) => print_any d v a W g hn (sm_ok hok)
    rw [hp] at HP
    dsimp only at HP ⊢
    generalize pr d = t at *
    clear hp hok hr
    go_enter Tryz.func17, Tryz.ntmps17
    go_wp2_with fail
    refine (unhide H).mono ?_
    rintro e w1 ⟨hb, ⟨d', v, hf, rfl, ho⟩ | ⟨hf, _⟩⟩
    case inr => cases hf
    cases hf
    have H2 := hide ((unhide HP) v w1 ((unhide Hg).below (Nat.le_refl _) hb) ho.nml)
    have HB := hide hb
    obtain ⟨ad, cap, rfl, _, _⟩ := ho.nml
    clear hb H HP ho
    go_wp2_with fail
    refine (unhide H2).mono ?_
    rintro e w2 ⟨rfl, hb⟩
    have HB2 := hide ((unhide HB).trans (hb.mono (unhide HB).size))
    clear hb
    go_wp2
    go_ret2
    exact ⟨rfl, unhide HB2⟩

theorem sm_drop {d : Nm} (h : Sm d) (k : Nat) : Sm (d.drop k) := ⟨by rw [List.length_drop]; have := h.1; omega, fun r hr => h.2 r (List.mem_of_mem_drop hr)⟩
theorem isUnder_any (d b : Nm) (u v : Value) (w : World) (hR : Nml w u d) (hQ : Nml w v b) (hs : Sm d) (hs2 : b.length ≤ 1000) :
    Calls Tryz.prog 23 #[u, v] w fun e w' => e = .returned (.bool (under d b)) ∧ Below w.heap.size w w' := by
  have hl := hs.1
  have hR' := hR
  obtain ⟨ad, cap, rfl, hcap, hx⟩ := hR
  by_cases h : b.length ≤ d.length
  · have hu : under d b = decide (d.drop (d.length - b.length) = b) := by unfold under; rw [decide_eq_true h]; rfl
    rw [hu]
    obtain ⟨m, hm⟩ : ∃ m, d.length - b.length = m := ⟨_, rfl⟩
    rw [hm]
    have h1 : (d.length : Int) - b.length = m := by omega
    have h2 : wrap64 ((d.length : Int) - b.length) = m := by unfold wrap64; omega
    have h3 : (m : Int) ≤ d.length := by omega
    have h4 : (d.length : Int) ≤ cap := by omega
    by_cases hcm : cap = m
    · have hT : Nml w (.slice ad (d.length - m) 0) (d.drop m) := by
        have hd : d.drop m = [] := List.drop_of_length_le (by omega)
        exact ⟨ad, 0, by rw [List.length_drop], by rw [hd]; exact Nat.le_refl _, .inl hd⟩
      have H := hide fun W hb => same_any (d.drop m) b _ v W (hT.below hb) (hQ.below hb) (sm_drop hs m)
      obtain ⟨ad2, cap2, rfl, _, _⟩ := hQ
      generalize decide (d.drop m = b) = r at *
      clear hT hx hs hu hR'
      go_enter Tryz.func23, Tryz.ntmps23
      go_wp2_with fail
      refine ((unhide H) _ (Below.refl _ _)).mono ?_
      rintro e w2 ⟨rfl, hb⟩
      have HB2 := hide hb
      clear hb
      go_wp2
      go_ret
      exact ⟨rfl, unhide HB2⟩
    · have hT := hR'.tail m (by omega)
      have H := hide fun W hb => same_any (d.drop m) b _ v W (hT.below hb) (hQ.below hb) (sm_drop hs m)
      obtain ⟨ad2, cap2, rfl, _, _⟩ := hQ
      generalize decide (d.drop m = b) = r at *
      clear hT hx hs hu hR'
      go_enter Tryz.func23, Tryz.ntmps23
      go_wp2_with fail
      refine ((unhide H) _ (Below.refl _ _)).mono ?_
      rintro e w2 ⟨rfl, hb⟩
      have HB2 := hide hb
      clear hb
      go_wp2
      go_ret
      exact ⟨rfl, unhide HB2⟩
  · have hu : under d b = false := by unfold under; rw [decide_eq_false h]; rfl
    rw [hu]
    obtain ⟨ad2, cap2, rfl, _, _⟩ := hQ
    have h1 : ¬ (0 : Int) ≤ (d.length : Int) - b.length := by omega
    have h2 : wrap64 ((d.length : Int) - b.length) = (d.length : Int) - b.length := by unfold wrap64; omega
    clear hx hs hu hR'
    go_enter Tryz.func23, Tryz.ntmps23
    go_wp2
    go_ret
    exact ⟨rfl, Below.refl _ _⟩
end Go.Proofs.YthfcnjcpanoldaaGreatDoor.D
