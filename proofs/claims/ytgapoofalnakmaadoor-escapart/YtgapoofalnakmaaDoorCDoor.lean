/-
  What code.Base, Unbase, Hex and Unhex answer, at every text of at most two thousand bytes. Conditions: the package-level variables hold what the program's text lays ('Glob').
-/
import Derived.Test.YtgapoofalnakmaaDoorCRead
namespace Go.Proofs.YtgapoofalnakmaaDoor.C
open Go Go.RowKit Cd

theorem piece_list {s : ByteArray} (n : Nat) (x : Pc s) : (x.g n).data.toList = (s.data.toList.drop x.p).take n := by
  have hp := x.hp
  show ((s.extract x.p (min (x.p + n) s.size)).data).toList = _
  rw [ByteArray.data_extract, Array.toList_extract, List.extract_eq_take_drop]
  have hl : (s.data.toList.drop x.p).length = s.size - x.p := by rw [List.length_drop, Array.length_toList]; rfl
  by_cases h : x.p + n ≤ s.size
  · rw [Nat.min_eq_left h, Nat.add_sub_cancel_left]
  · rw [Nat.min_eq_right (by omega), List.take_of_length_le (by omega), List.take_of_length_le (by omega)]
theorem drop_ne {s : ByteArray} {p : Nat} : s.data.toList.drop p = [] ↔ ¬ p < s.size := by
  rw [List.drop_eq_nil_iff, Array.length_toList]
  show s.size ≤ p ↔ _
  omega
theorem al_chs (s : ByteArray) (n : Nat) : ∀ f p, (al s n f p).map (fun x => (x.g n).data.toList) = chs n f (s.data.toList.drop p)
  | 0, _ => rfl
  | f + 1, p => by
    rw [al, chs]
    by_cases h : p < s.size
    · rw [dif_pos h, if_neg (fun e => (drop_ne.1 e) h), List.map_cons, piece_list, al_chs s n f (p + n), List.drop_drop]
    · rw [dif_neg h, if_pos (drop_ne.2 h), List.map_nil]
theorem prt_enc (k : Kd) (s : ByteArray) : prt k (all s k.bs) = enc k s.data.toList := by
  have h := al_chs s k.bs s.size 0
  rw [List.drop_zero] at h
  have e : enc k s.data.toList = (chs k.bs s.size s.data.toList).flatMap (gr k) := rfl
  rw [e, ← h, List.flatMap_map]
  rfl
theorem rds_dcs (k : Kd) (hk : 1 ≤ k.wd) (s : ByteArray) : ∀ f p, s.size ≤ p + f → rds k (al s k.wd f p) = dcs k (chs k.wd f (s.data.toList.drop p))
  | 0, _, _ => rfl
  | f + 1, p, hf => by
    rw [al, chs]
    by_cases h : p < s.size
    · rw [dif_pos h, if_neg (fun e => (drop_ne.1 e) h), rds, dcs, rds_dcs k hk s f (p + k.wd) (by omega), List.drop_drop]
      have hl : (chs k.wd f (s.data.toList.drop (p + k.wd))).isEmpty = !decide (p + k.wd < s.size) := by
        by_cases h2 : p + k.wd < s.size
        · rw [decide_eq_true h2]
          obtain ⟨f', rfl⟩ : ∃ f', f = f' + 1 := ⟨f - 1, by omega⟩
          rw [chs, if_neg (fun e => (drop_ne.1 e) h2)]
          rfl
        · rw [decide_eq_false h2, drop_ne.2 h2, chs_nil]
          rfl
      unfold one
      rw [hl, piece_list]
    · rw [dif_neg h, if_pos (drop_ne.2 h)]
      rfl
theorem rds_dec (k : Kd) (hk : 1 ≤ k.wd) (s : ByteArray) : rds k (all s k.wd) = dec k s.data.toList := by
  unfold all dec
  rw [rds_dcs k hk s s.size 0 (by omega), List.drop_zero]
  rfl

/-- what Unbase and Unhex answer. -/
def und (k : Kd) (s : ByteArray) : ByteArray × Int := match dec k s.data.toList with
  | some t => (⟨t.toArray⟩, 0)
  | none => (⟨#[]⟩, 50)
set_option maxRecDepth 100000 in
theorem answer_any (k : Kd) (B : Nat) (s : ByteArray) (a : Ad) (w : World) (g : Glob a w) (hk : 1 ≤ k.wd) (H : Calls Tryd.prog 76 #[.pointer (some ⟨B, 0, none⟩), .string s] w (ReadPost k s a w)) :
    Calls Tryd.prog 72 #[.pointer (some ⟨B, 0, none⟩), .string s] w fun e w' => e = .returned (.tuple #[.string (und k s).1, .int .i64 (und k s).2]) ∧ Below w.heap.size w w' := by
  unfold ReadPost at H
  rw [rds_dec k hk s] at H
  unfold und
  cases hd : dec k s.data.toList with
  | none =>
    rw [hd] at H
    have H' := hide (H.mono (R' := fun e w' => ∃ xv, e = .returned (.tuple #[.string ⟨#[]⟩, .iface 143 xv]) ∧ IsErr a (.iface 143 xv) ∧ Below w.heap.size w w') (fun e w' ⟨hb, he⟩ => by
      rcases he with ⟨t, h1, _⟩ | ⟨_, v1, h2, h3⟩
      · cases h1
      · obtain ⟨xv, rfl⟩ := h3.form
        exact ⟨xv, h2, h3, hb⟩))
    have Hg := hide g
    clear H g hd
    go_enter Tryd.func72, Tryd.ntmps72
    go_wp2_with fail
    refine (unhide H').mono ?_
    rintro e w1 ⟨xv, rfl, he, hb⟩
    have H2 := hide (errnoOf_any _ a w1 ((unhide Hg).below (Nat.le_refl _) hb) he)
    have HB := hide hb
    clear he hb
    go_wp2_with fail
    refine (unhide H2).mono ?_
    rintro e w2 ⟨rfl, hb⟩
    have HB2 := hide hb
    clear hb
    go_wp2
    go_ret2
    exact ⟨rfl, (unhide HB).trans ((unhide HB2).mono (unhide HB).size)⟩
  | some t =>
    rw [hd] at H
    have H' := hide (H.mono (R' := fun e w' => e = .returned (.tuple #[.string ⟨t.toArray⟩, .nilIface]) ∧ Below w.heap.size w w') (fun e w' ⟨hb, he⟩ => by
      rcases he with ⟨t', h1, h2⟩ | ⟨h1, _⟩
      · cases h1; exact ⟨h2, hb⟩
      · cases h1))
    dsimp only
    generalize (⟨t.toArray⟩ : ByteArray) = u at *
    clear H g hd
    go_enter Tryd.func72, Tryd.ntmps72
    go_wp2_with fail
    refine (unhide H').mono ?_
    rintro e w1 ⟨rfl, hb⟩
    have HB := hide hb
    clear hb
    go_wp2
    go_ret2
    exact ⟨rfl, unhide HB⟩

/-- what Base and Hex answer. -/
def pri (k : Kd) (s : ByteArray) : ByteArray := ⟨(enc k s.data.toList).toArray⟩
theorem hex_any (s : ByteArray) (w : World) (hs : s.size ≤ 2000) :
    Calls Tryd.prog 32 #[.string s] w fun e w' => e = .returned (.string (pri kH s)) ∧ Below w.heap.size w w' := by
  have H := hide (hexCoder_any w)
  go_enter Tryd.func32, Tryd.ntmps32
  go_wp2_with fail
  refine (unhide H).mono ?_
  rintro e w1 ⟨rfl, hc, hb⟩
  have HP := hide (print_any kH adds_H w.heap.size s w1 (codH hc) hs (by decide) (by decide) (by decide) (by decide))
  have HB := hide hb
  clear hc hb
  go_wp2_with fail
  refine (unhide HP).mono ?_
  rintro e w2 ⟨rfl, hb⟩
  rw [prt_enc]
  have HB2 := hide hb
  clear hb
  go_wp2
  go_ret
  exact ⟨rfl, (unhide HB).trans ((unhide HB2).mono (unhide HB).size)⟩
theorem unhex_any (s : ByteArray) (a : Ad) (w : World) (g : Glob a w) (hs : s.size ≤ 2000) :
    Calls Tryd.prog 62 #[.string s] w fun e w' => e = .returned (.tuple #[.string (und kH s).1, .int .i64 (und kH s).2]) ∧ Below w.heap.size w w' := by
  have H := hide (hexCoder_any w)
  have Hg := hide g
  clear g
  go_enter Tryd.func62, Tryd.ntmps62
  go_wp2_with fail
  refine (unhide H).mono ?_
  rintro e w1 ⟨rfl, hc, hb⟩
  have gw := (unhide Hg).below (Nat.le_refl _) hb
  have HP := hide (answer_any kH w.heap.size s a w1 gw (by decide) (read_any kH tolds_H w.heap.size s a w1 gw (codH hc) hs (by decide) (by decide) (by decide) (by decide) (fun x m h => (nh_ok x m h).1)))
  have HB := hide hb
  clear hc hb gw
  go_wp2_with fail
  refine (unhide HP).mono ?_
  rintro e w2 ⟨rfl, hb⟩
  have HB2 := hide hb
  clear hb
  go_wp2
  go_ret2
  exact ⟨rfl, (unhide HB).trans ((unhide HB2).mono (unhide HB).size)⟩
end Go.Proofs.YtgapoofalnakmaaDoor.C
