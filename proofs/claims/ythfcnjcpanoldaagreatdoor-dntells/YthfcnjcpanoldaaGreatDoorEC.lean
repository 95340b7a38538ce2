/-
  Several texts in one: ERef, ERef2. Each says what it proves, and its conditions.
-/
import Derived.Test.YthfcnjcpanoldaaGreatDoorEB
import Derived.Test.YthfcnjcpanoldaaGreatDoorUB
import Derived.Test.YthfcnjcpanoldaaGreatDoorCC
/-
  What the document's own answers of layer 6 say: Among, plain, pair, Filter, Name, ReadFilter, ReadName. Conditions: none.
-/
namespace Go.Proofs.YthfcnjcpanoldaaGreatDoor.E
open Go Go.RowKit Ec
attribute [local go_sem] Oper.semAt_some

theorem contains_drop {l : ByteArray} {j : Nat} (c : UInt8) (h : j < l.size) : (l.data.toList.drop j).contains c = ((c == l[j]) || (l.data.toList.drop (j + 1)).contains c) := by
  rw [drop_at h, List.contains_cons]
set_option maxRecDepth 100000 in
theorem among_any (c : UInt8) (l : ByteArray) (w : World) (hl : l.size ≤ 1000) :
    Calls Tryz.prog 51 #[.int .u8 (c.toNat : Int), .string l] w fun e w' => e = .returned (.bool (l.data.toList.contains c)) ∧ w' = w := by
  obtain ⟨r, hr⟩ : ∃ r, l.data.toList.contains c = r := ⟨_, rfl⟩
  rw [hr]
  have Hr := hide hr
  clear hr
  go_enter Tryz.func51, Tryz.ntmps51
  go_wp2
  go_loopw [5] (fun ix wr => ∃ j : Nat, j ≤ l.size ∧ ix = .int .i64 (j : Int) ∧ (l.data.toList.drop j).contains c = r ∧ wr = w)
    (fun ix _ => l.size - (intOf ix).toNat)
  case atStart => exact ⟨0, Nat.zero_le _, rfl, by rw [List.drop_zero]; exact unhide Hr, rfl⟩
  case round =>
    obtain ⟨j, hj, rfl, hd, rfl⟩ := hrel
    by_cases hlt : j < l.size
    · have hlt' : (j : Int) < l.size := by omega
      have hj' : (j : Int) ≤ 1000 := by omega
      rw [contains_drop c hlt] at hd
      obtain ⟨y, hy⟩ : ∃ y, l[j] = y := ⟨_, rfl⟩
      rw [hy] at hd
      by_cases he : y = c
      · obtain rfl : r = true := by rw [← hd, he]; simp
        have heq : (y.toNat : Int) = c.toNat := by rw [he]
        clear hd he
        go_wp2
        go_ret
        exact ⟨rfl, rfl⟩
      · have heq := beq_u8 y c he
        have Hd : Hid ((l.data.toList.drop (j + 1)).contains c = r) := hide (by rw [← hd]; simp [Ne.symm he])
        clear hd he
        go_wp2
        go_roundw
        case rel => exact ⟨j + 1, by omega, by simp, unhide Hd, by first | rfl | trivial⟩
        case measure => simp [intOf]; omega
    · have hge : ¬ (j : Int) < l.size := by omega
      rw [drop_out hlt] at hd
      obtain rfl : r = false := by rw [← hd]; rfl
      clear hd
      go_wp2
      go_ret
      exact ⟨rfl, rfl⟩
/-- Among, at signs written out. -/
theorem among_l (c : UInt8) (l : List UInt8) (w : World) (hl : l.length ≤ 1000) :
    Calls Tryz.prog 51 #[.int .u8 (c.toNat : Int), .string ⟨l.toArray⟩] w fun e w' => e = .returned (.bool (l.contains c)) ∧ Below w.heap.size w w' :=
  (among_any c ⟨l.toArray⟩ w (by show l.toArray.size ≤ _; rw [List.size_toArray]; exact hl)).mono fun e w' ⟨he, hw⟩ => ⟨he, by rw [hw]; exact Below.refl _ _⟩
theorem slice_at (s : ByteArray) (p : Nat) (h : p < s.size) (wx : World) : (Instr.slice 9 (.string s) (some (.int .i64 (p : Int))) (some (.int .i64 ((p : Int) + 1))) none).run Tryz.prog wx = .ok (.string ⟨#[s[p]]⟩) wx := by
  have := run_slice_string (P := Tryz.prog) (w := wx) 9 s .i64 .i64 (p : Int) ((p : Int) + 1) Tryz.underlying9 (by omega) (by omega) (by omega)
  rw [show ((p : Int)).toNat = p by omega, show ((p : Int) + 1).toNat = p + 1 by omega] at this
  rw [this, ← pc_one h]
  unfold pc
  rw [Nat.min_eq_left (by omega)]
theorem refHex_one (y : UInt8) (w : World) :
    Calls Tryz.prog 52 #[.string ⟨#[y]⟩] w fun e w' => e = .returned (.string ⟨(hx y).toArray⟩) ∧ Below w.heap.size w w' := by
  have := C.refHex_any ⟨#[y]⟩ w (by show 1 ≤ 1000; decide)
  rw [show C.pri Cd.kH ⟨#[y]⟩ = ⟨(hx y).toArray⟩ by unfold C.pri; rw [show (⟨#[y]⟩ : ByteArray).data.toList = [y] from rfl, enc_hx]] at this
  exact this

/-! ### Filter -/
theorem pbF (n p : Nat) (y : UInt8) : pb false n p y = if (pln y && !sF.contains y) = true then [y] else 92 :: hx y := by
  unfold pb
  rw [show res false n p y = sF.contains y from rfl, Bool.and_false]
  rfl
theorem pbN (n p : Nat) (y : UInt8) : pb true n p y = if pln y = true then (if res true n p y = true then [92, y] else [y]) else 92 :: hx y := by
  unfold pb
  cases pln y <;> cases res true n p y <;> rfl
theorem sN_eq (y : UInt8) : sN.contains y = ([34, 43, 44, 59, 60, 62, 92] : List UInt8).contains y := by
  have : ∀ i : Fin 256, sN.contains (UInt8.ofNat i.val) = ([34, 43, 44, 59, 60, 62, 92] : List UInt8).contains (UInt8.ofNat i.val) := by decide +kernel
  exact Cd.u8_all (p := fun y => sN.contains y = ([34, 43, 44, 59, 60, 62, 92] : List UInt8).contains y) this y
theorem s32_eq (y : UInt8) : ([32] : List UInt8).contains y = ((y.toNat : Int) == 32) := by
  have : ∀ i : Fin 256, ([32] : List UInt8).contains (UInt8.ofNat i.val) = (((UInt8.ofNat i.val).toNat : Int) == 32) := by decide +kernel
  exact Cd.u8_all (p := fun y => ([32] : List UInt8).contains y = ((y.toNat : Int) == 32)) this y
theorem resN (n p : Nat) (y : UInt8) : res true n p y = (([34, 43, 44, 59, 60, 62, 92] : List UInt8).contains y || (((p : Int) == 0) && ([32, 35] : List UInt8).contains y) || (((p : Int) == (n : Int) - 1) && ((y.toNat : Int) == 32))) := by
  unfold res
  rw [if_pos rfl, sN_eq, s32_eq, show decide (p = 0) = ((p : Int) == 0) by rw [Bool.eq_iff_iff]; simp, show decide (p + 1 = n) = ((p : Int) == (n : Int) - 1) by rw [Bool.eq_iff_iff]; simp; omega]
set_option maxRecDepth 100000 in
set_option maxHeartbeats 8000000 in
theorem refName_any (s : ByteArray) (w : World) (hs : s.size ≤ 1000) :
    Calls Tryz.prog 32 #[.string s] w fun e w' => e = .returned (.string (pri true s)) ∧ Below w.heap.size w w' := by
  go_enter Tryz.func32, Tryz.ntmps32
  go_wp2
  go_loopw [3, 4] (fun sl ix wr => ∃ (p : Nat) (o : ByteArray), p ≤ s.size ∧ sl = .string o ∧ ix = .int .i64 (p : Int) ∧ o.size ≤ 3 * p ∧ o.data.toList ++ prt true s.size p (s.data.toList.drop p) = prt true s.size 0 s.data.toList ∧ Below w.heap.size w wr)
    (fun _ ix _ => s.size - (intOf ix).toNat)
  case atStart => exact ⟨0, ⟨#[]⟩, by omega, rfl, rfl, by decide, rfl, Below.refl _ _⟩
  case round =>
    obtain ⟨p, o, hp, rfl, rfl, ho, hE, hB⟩ := hrel
    have HB := hide hB
    clear hB
    have ho' : (o.size : Int) ≤ 3000 := by omega
    have hp' : (p : Int) ≤ 1000 := by omega
    by_cases hlt : p < s.size
    · have hlt' : (p : Int) < s.size := by omega
      have hsl := fun wx => slice_at s p hlt wx
      rw [drop_at hlt, prt] at hE
      obtain ⟨y, hy⟩ : ∃ y, s[p] = y := ⟨_, rfl⟩
      rw [hy] at hE hsl
      have HE := hide hE
      have HA := hide fun W => among_l y [34, 43, 44, 59, 60, 62, 92] W (by decide)
      have HF := hide fun W => among_l y [32, 35] W (by decide)
      have HX := hide fun W => refHex_one y W
      have hyl : (y.toNat : Int) ≤ 255 := by have := y.toNat_lt; omega
      have hw1 : wrap64 ((s.size : Int) - 1) = s.size - 1 := by unfold wrap64; omega
      have hR := resN s.size p y
      clear hE
      generalize ([34, 43, 44, 59, 60, 62, 92] : List UInt8).contains y = rA at *
      generalize ([32, 35] : List UInt8).contains y = r2 at *
      generalize k1 : ((p : Int) == 0) = b1 at *
      generalize k2 : ((p : Int) == (s.size : Int) - 1) = b2 at *
      generalize k3 : ((y.toNat : Int) == 32) = e3 at *
      cases b1 with
      | false =>
        cases b2 with
        | false =>
          by_cases a1 : (y.toNat : Int) < 32
          · have hq : pln y = false := by unfold pln; simp; omega
            have z1 : ((⟨(hx y).toArray⟩ : ByteArray).size : Int) = 2 := rfl
            have z0 : ((⟨#[92]⟩ : ByteArray).size : Int) = 1 := rfl
            have zz : ((o ++ ⟨#[92]⟩).size : Int) ≤ 3001 := by rw [ByteArray.size_append]; omega
            have HE2 : Hid ((o ++ ⟨#[92]⟩ ++ ⟨(hx y).toArray⟩).data.toList ++ prt true s.size (p + 1) (s.data.toList.drop (p + 1)) = prt true s.size 0 s.data.toList) := hide (by
              rw [← unhide HE, pbN, if_neg (by rw [hq]; simp), data_app, data_app, List.append_assoc, List.append_assoc]
              rfl)
            have HS : Hid ((o ++ ⟨#[92]⟩ ++ ⟨(hx y).toArray⟩).size ≤ 3 * (p + 1)) := hide (by rw [ByteArray.size_append, ByteArray.size_append]; omega)
            generalize (⟨(hx y).toArray⟩ : ByteArray) = x at *
            clear HE ho
            clear hq hR HA
            go_wp2_with fail
            refine ((unhide HX) _).mono ?_
            rintro e w2 ⟨rfl, hb⟩
            replace HB := hide ((unhide HB).trans (hb.mono (unhide HB).size))
            clear hb HX
            go_wp2
            go_roundw
            case rel => exact ⟨p + 1, _, by omega, rfl, by simp, unhide HS, unhide HE2, unhide HB⟩
            case measure => simp [intOf]; omega
          · by_cases a2 : (126 : Int) < y.toNat
            · have hq : pln y = false := by unfold pln; simp; omega
              have z1 : ((⟨(hx y).toArray⟩ : ByteArray).size : Int) = 2 := rfl
              have z0 : ((⟨#[92]⟩ : ByteArray).size : Int) = 1 := rfl
              have zz : ((o ++ ⟨#[92]⟩).size : Int) ≤ 3001 := by rw [ByteArray.size_append]; omega
              have HE2 : Hid ((o ++ ⟨#[92]⟩ ++ ⟨(hx y).toArray⟩).data.toList ++ prt true s.size (p + 1) (s.data.toList.drop (p + 1)) = prt true s.size 0 s.data.toList) := hide (by
                rw [← unhide HE, pbN, if_neg (by rw [hq]; simp), data_app, data_app, List.append_assoc, List.append_assoc]
                rfl)
              have HS : Hid ((o ++ ⟨#[92]⟩ ++ ⟨(hx y).toArray⟩).size ≤ 3 * (p + 1)) := hide (by rw [ByteArray.size_append, ByteArray.size_append]; omega)
              generalize (⟨(hx y).toArray⟩ : ByteArray) = x at *
              clear HE ho
              clear hq hR HA
              go_wp2_with fail
              refine ((unhide HX) _).mono ?_
              rintro e w2 ⟨rfl, hb⟩
              replace HB := hide ((unhide HB).trans (hb.mono (unhide HB).size))
              clear hb HX
              go_wp2
              go_roundw
              case rel => exact ⟨p + 1, _, by omega, rfl, by simp, unhide HS, unhide HE2, unhide HB⟩
              case measure => simp [intOf]; omega
            · have hq : pln y = true := by unfold pln; simp; omega
              cases rA with
              | true =>
                have z1 : ((⟨#[y]⟩ : ByteArray).size : Int) = 1 := rfl
                have z0 : ((⟨#[92]⟩ : ByteArray).size : Int) = 1 := rfl
                have zz : ((o ++ ⟨#[92]⟩).size : Int) ≤ 3001 := by rw [ByteArray.size_append]; omega
                have HE2 : Hid ((o ++ ⟨#[92]⟩ ++ ⟨#[y]⟩).data.toList ++ prt true s.size (p + 1) (s.data.toList.drop (p + 1)) = prt true s.size 0 s.data.toList) := hide (by
                  rw [← unhide HE, pbN, if_pos hq, if_pos (by rw [hR]; simp), data_app, data_app, List.append_assoc, List.append_assoc]
                  rfl)
                have HS : Hid ((o ++ ⟨#[92]⟩ ++ ⟨#[y]⟩).size ≤ 3 * (p + 1)) := hide (by rw [ByteArray.size_append, ByteArray.size_append]; omega)
                generalize (⟨#[y]⟩ : ByteArray) = x at *
                clear HE ho HX
                clear hq hR
                go_wp2_with fail
                refine ((unhide HA) _).mono ?_
                rintro e w8 ⟨rfl, hb⟩
                replace HB := hide ((unhide HB).trans (hb.mono (unhide HB).size))
                clear hb
                go_wp2
                go_roundw
                case rel => exact ⟨p + 1, _, by omega, rfl, by simp, unhide HS, unhide HE2, unhide HB⟩
                case measure => simp [intOf]; omega
              | false =>
                have z1 : ((⟨#[y]⟩ : ByteArray).size : Int) = 1 := rfl
                have HE2 : Hid ((o ++ ⟨#[y]⟩).data.toList ++ prt true s.size (p + 1) (s.data.toList.drop (p + 1)) = prt true s.size 0 s.data.toList) := hide (by
                  rw [← unhide HE, pbN, if_pos hq, if_neg (by rw [hR]; simp), data_app, List.append_assoc])
                have HS : Hid ((o ++ ⟨#[y]⟩).size ≤ 3 * (p + 1)) := hide (by rw [ByteArray.size_append]; omega)
                generalize (⟨#[y]⟩ : ByteArray) = x at *
                clear HE ho HX
                clear hq hR
                go_wp2_with fail
                refine ((unhide HA) _).mono ?_
                rintro e w8 ⟨rfl, hb⟩
                replace HB := hide ((unhide HB).trans (hb.mono (unhide HB).size))
                clear hb
                go_wp2
                go_roundw
                case rel => exact ⟨p + 1, _, by omega, rfl, by simp, unhide HS, unhide HE2, unhide HB⟩
                case measure => simp [intOf]; omega
        | true =>
          cases e3 with
          | false =>
            by_cases a1 : (y.toNat : Int) < 32
            · have hq : pln y = false := by unfold pln; simp; omega
              have z1 : ((⟨(hx y).toArray⟩ : ByteArray).size : Int) = 2 := rfl
              have z0 : ((⟨#[92]⟩ : ByteArray).size : Int) = 1 := rfl
              have zz : ((o ++ ⟨#[92]⟩).size : Int) ≤ 3001 := by rw [ByteArray.size_append]; omega
              have HE2 : Hid ((o ++ ⟨#[92]⟩ ++ ⟨(hx y).toArray⟩).data.toList ++ prt true s.size (p + 1) (s.data.toList.drop (p + 1)) = prt true s.size 0 s.data.toList) := hide (by
                rw [← unhide HE, pbN, if_neg (by rw [hq]; simp), data_app, data_app, List.append_assoc, List.append_assoc]
                rfl)
              have HS : Hid ((o ++ ⟨#[92]⟩ ++ ⟨(hx y).toArray⟩).size ≤ 3 * (p + 1)) := hide (by rw [ByteArray.size_append, ByteArray.size_append]; omega)
              generalize (⟨(hx y).toArray⟩ : ByteArray) = x at *
              clear HE ho
              clear hq hR HA
              go_wp2_with fail
              refine ((unhide HX) _).mono ?_
              rintro e w2 ⟨rfl, hb⟩
              replace HB := hide ((unhide HB).trans (hb.mono (unhide HB).size))
              clear hb HX
              go_wp2
              go_roundw
              case rel => exact ⟨p + 1, _, by omega, rfl, by simp, unhide HS, unhide HE2, unhide HB⟩
              case measure => simp [intOf]; omega
            · by_cases a2 : (126 : Int) < y.toNat
              · have hq : pln y = false := by unfold pln; simp; omega
                have z1 : ((⟨(hx y).toArray⟩ : ByteArray).size : Int) = 2 := rfl
                have z0 : ((⟨#[92]⟩ : ByteArray).size : Int) = 1 := rfl
                have zz : ((o ++ ⟨#[92]⟩).size : Int) ≤ 3001 := by rw [ByteArray.size_append]; omega
                have HE2 : Hid ((o ++ ⟨#[92]⟩ ++ ⟨(hx y).toArray⟩).data.toList ++ prt true s.size (p + 1) (s.data.toList.drop (p + 1)) = prt true s.size 0 s.data.toList) := hide (by
                  rw [← unhide HE, pbN, if_neg (by rw [hq]; simp), data_app, data_app, List.append_assoc, List.append_assoc]
                  rfl)
                have HS : Hid ((o ++ ⟨#[92]⟩ ++ ⟨(hx y).toArray⟩).size ≤ 3 * (p + 1)) := hide (by rw [ByteArray.size_append, ByteArray.size_append]; omega)
                generalize (⟨(hx y).toArray⟩ : ByteArray) = x at *
                clear HE ho
                clear hq hR HA
                go_wp2_with fail
                refine ((unhide HX) _).mono ?_
                rintro e w2 ⟨rfl, hb⟩
                replace HB := hide ((unhide HB).trans (hb.mono (unhide HB).size))
                clear hb HX
                go_wp2
                go_roundw
                case rel => exact ⟨p + 1, _, by omega, rfl, by simp, unhide HS, unhide HE2, unhide HB⟩
                case measure => simp [intOf]; omega
              · have hq : pln y = true := by unfold pln; simp; omega
                cases rA with
                | true =>
                  have z1 : ((⟨#[y]⟩ : ByteArray).size : Int) = 1 := rfl
                  have z0 : ((⟨#[92]⟩ : ByteArray).size : Int) = 1 := rfl
                  have zz : ((o ++ ⟨#[92]⟩).size : Int) ≤ 3001 := by rw [ByteArray.size_append]; omega
                  have HE2 : Hid ((o ++ ⟨#[92]⟩ ++ ⟨#[y]⟩).data.toList ++ prt true s.size (p + 1) (s.data.toList.drop (p + 1)) = prt true s.size 0 s.data.toList) := hide (by
                    rw [← unhide HE, pbN, if_pos hq, if_pos (by rw [hR]; simp), data_app, data_app, List.append_assoc, List.append_assoc]
                    rfl)
                  have HS : Hid ((o ++ ⟨#[92]⟩ ++ ⟨#[y]⟩).size ≤ 3 * (p + 1)) := hide (by rw [ByteArray.size_append, ByteArray.size_append]; omega)
                  generalize (⟨#[y]⟩ : ByteArray) = x at *
                  clear HE ho HX
                  clear hq hR
                  go_wp2_with fail
                  refine ((unhide HA) _).mono ?_
                  rintro e w8 ⟨rfl, hb⟩
                  replace HB := hide ((unhide HB).trans (hb.mono (unhide HB).size))
                  clear hb
                  go_wp2
                  go_roundw
                  case rel => exact ⟨p + 1, _, by omega, rfl, by simp, unhide HS, unhide HE2, unhide HB⟩
                  case measure => simp [intOf]; omega
                | false =>
                  have z1 : ((⟨#[y]⟩ : ByteArray).size : Int) = 1 := rfl
                  have HE2 : Hid ((o ++ ⟨#[y]⟩).data.toList ++ prt true s.size (p + 1) (s.data.toList.drop (p + 1)) = prt true s.size 0 s.data.toList) := hide (by
                    rw [← unhide HE, pbN, if_pos hq, if_neg (by rw [hR]; simp), data_app, List.append_assoc])
                  have HS : Hid ((o ++ ⟨#[y]⟩).size ≤ 3 * (p + 1)) := hide (by rw [ByteArray.size_append]; omega)
                  generalize (⟨#[y]⟩ : ByteArray) = x at *
                  clear HE ho HX
                  clear hq hR
                  go_wp2_with fail
                  refine ((unhide HA) _).mono ?_
                  rintro e w8 ⟨rfl, hb⟩
                  replace HB := hide ((unhide HB).trans (hb.mono (unhide HB).size))
                  clear hb
                  go_wp2
                  go_roundw
                  case rel => exact ⟨p + 1, _, by omega, rfl, by simp, unhide HS, unhide HE2, unhide HB⟩
                  case measure => simp [intOf]; omega
          | true =>
            by_cases a1 : (y.toNat : Int) < 32
            · have hq : pln y = false := by unfold pln; simp; omega
              have z1 : ((⟨(hx y).toArray⟩ : ByteArray).size : Int) = 2 := rfl
              have z0 : ((⟨#[92]⟩ : ByteArray).size : Int) = 1 := rfl
              have zz : ((o ++ ⟨#[92]⟩).size : Int) ≤ 3001 := by rw [ByteArray.size_append]; omega
              have HE2 : Hid ((o ++ ⟨#[92]⟩ ++ ⟨(hx y).toArray⟩).data.toList ++ prt true s.size (p + 1) (s.data.toList.drop (p + 1)) = prt true s.size 0 s.data.toList) := hide (by
                rw [← unhide HE, pbN, if_neg (by rw [hq]; simp), data_app, data_app, List.append_assoc, List.append_assoc]
                rfl)
              have HS : Hid ((o ++ ⟨#[92]⟩ ++ ⟨(hx y).toArray⟩).size ≤ 3 * (p + 1)) := hide (by rw [ByteArray.size_append, ByteArray.size_append]; omega)
              generalize (⟨(hx y).toArray⟩ : ByteArray) = x at *
              clear HE ho
              clear hq hR HA
              go_wp2_with fail
              refine ((unhide HX) _).mono ?_
              rintro e w2 ⟨rfl, hb⟩
              replace HB := hide ((unhide HB).trans (hb.mono (unhide HB).size))
              clear hb HX
              go_wp2
              go_roundw
              case rel => exact ⟨p + 1, _, by omega, rfl, by simp, unhide HS, unhide HE2, unhide HB⟩
              case measure => simp [intOf]; omega
            · by_cases a2 : (126 : Int) < y.toNat
              · have hq : pln y = false := by unfold pln; simp; omega
                have z1 : ((⟨(hx y).toArray⟩ : ByteArray).size : Int) = 2 := rfl
                have z0 : ((⟨#[92]⟩ : ByteArray).size : Int) = 1 := rfl
                have zz : ((o ++ ⟨#[92]⟩).size : Int) ≤ 3001 := by rw [ByteArray.size_append]; omega
                have HE2 : Hid ((o ++ ⟨#[92]⟩ ++ ⟨(hx y).toArray⟩).data.toList ++ prt true s.size (p + 1) (s.data.toList.drop (p + 1)) = prt true s.size 0 s.data.toList) := hide (by
                  rw [← unhide HE, pbN, if_neg (by rw [hq]; simp), data_app, data_app, List.append_assoc, List.append_assoc]
                  rfl)
                have HS : Hid ((o ++ ⟨#[92]⟩ ++ ⟨(hx y).toArray⟩).size ≤ 3 * (p + 1)) := hide (by rw [ByteArray.size_append, ByteArray.size_append]; omega)
                generalize (⟨(hx y).toArray⟩ : ByteArray) = x at *
                clear HE ho
                clear hq hR HA
                go_wp2_with fail
                refine ((unhide HX) _).mono ?_
                rintro e w2 ⟨rfl, hb⟩
                replace HB := hide ((unhide HB).trans (hb.mono (unhide HB).size))
                clear hb HX
                go_wp2
                go_roundw
                case rel => exact ⟨p + 1, _, by omega, rfl, by simp, unhide HS, unhide HE2, unhide HB⟩
                case measure => simp [intOf]; omega
              · have hq : pln y = true := by unfold pln; simp; omega
                have z1 : ((⟨#[y]⟩ : ByteArray).size : Int) = 1 := rfl
                have z0 : ((⟨#[92]⟩ : ByteArray).size : Int) = 1 := rfl
                have zz : ((o ++ ⟨#[92]⟩).size : Int) ≤ 3001 := by rw [ByteArray.size_append]; omega
                have HE2 : Hid ((o ++ ⟨#[92]⟩ ++ ⟨#[y]⟩).data.toList ++ prt true s.size (p + 1) (s.data.toList.drop (p + 1)) = prt true s.size 0 s.data.toList) := hide (by
                  rw [← unhide HE, pbN, if_pos hq, if_pos (by rw [hR]; simp), data_app, data_app, List.append_assoc, List.append_assoc]
                  rfl)
                have HS : Hid ((o ++ ⟨#[92]⟩ ++ ⟨#[y]⟩).size ≤ 3 * (p + 1)) := hide (by rw [ByteArray.size_append, ByteArray.size_append]; omega)
                generalize (⟨#[y]⟩ : ByteArray) = x at *
                clear HE ho HX
                clear hq hR HA

                go_wp2
                go_roundw
                case rel => exact ⟨p + 1, _, by omega, rfl, by simp, unhide HS, unhide HE2, unhide HB⟩
                case measure => simp [intOf]; omega
      | true =>
        cases r2 with
        | false =>
          cases b2 with
          | false =>
            by_cases a1 : (y.toNat : Int) < 32
            · have hq : pln y = false := by unfold pln; simp; omega
              have z1 : ((⟨(hx y).toArray⟩ : ByteArray).size : Int) = 2 := rfl
              have z0 : ((⟨#[92]⟩ : ByteArray).size : Int) = 1 := rfl
              have zz : ((o ++ ⟨#[92]⟩).size : Int) ≤ 3001 := by rw [ByteArray.size_append]; omega
              have HE2 : Hid ((o ++ ⟨#[92]⟩ ++ ⟨(hx y).toArray⟩).data.toList ++ prt true s.size (p + 1) (s.data.toList.drop (p + 1)) = prt true s.size 0 s.data.toList) := hide (by
                rw [← unhide HE, pbN, if_neg (by rw [hq]; simp), data_app, data_app, List.append_assoc, List.append_assoc]
                rfl)
              have HS : Hid ((o ++ ⟨#[92]⟩ ++ ⟨(hx y).toArray⟩).size ≤ 3 * (p + 1)) := hide (by rw [ByteArray.size_append, ByteArray.size_append]; omega)
              generalize (⟨(hx y).toArray⟩ : ByteArray) = x at *
              clear HE ho
              clear hq hR HA
              go_wp2_with fail
              refine ((unhide HF) _).mono ?_
              rintro e w9 ⟨rfl, hb⟩
              replace HB := hide ((unhide HB).trans (hb.mono (unhide HB).size))
              clear hb
              go_wp2_with fail
              refine ((unhide HX) _).mono ?_
              rintro e w2 ⟨rfl, hb⟩
              replace HB := hide ((unhide HB).trans (hb.mono (unhide HB).size))
              clear hb HX
              go_wp2
              go_roundw
              case rel => exact ⟨p + 1, _, by omega, rfl, by simp, unhide HS, unhide HE2, unhide HB⟩
              case measure => simp [intOf]; omega
            · by_cases a2 : (126 : Int) < y.toNat
              · have hq : pln y = false := by unfold pln; simp; omega
                have z1 : ((⟨(hx y).toArray⟩ : ByteArray).size : Int) = 2 := rfl
                have z0 : ((⟨#[92]⟩ : ByteArray).size : Int) = 1 := rfl
                have zz : ((o ++ ⟨#[92]⟩).size : Int) ≤ 3001 := by rw [ByteArray.size_append]; omega
                have HE2 : Hid ((o ++ ⟨#[92]⟩ ++ ⟨(hx y).toArray⟩).data.toList ++ prt true s.size (p + 1) (s.data.toList.drop (p + 1)) = prt true s.size 0 s.data.toList) := hide (by
                  rw [← unhide HE, pbN, if_neg (by rw [hq]; simp), data_app, data_app, List.append_assoc, List.append_assoc]
                  rfl)
                have HS : Hid ((o ++ ⟨#[92]⟩ ++ ⟨(hx y).toArray⟩).size ≤ 3 * (p + 1)) := hide (by rw [ByteArray.size_append, ByteArray.size_append]; omega)
                generalize (⟨(hx y).toArray⟩ : ByteArray) = x at *
                clear HE ho
                clear hq hR HA
                go_wp2_with fail
                refine ((unhide HF) _).mono ?_
                rintro e w9 ⟨rfl, hb⟩
                replace HB := hide ((unhide HB).trans (hb.mono (unhide HB).size))
                clear hb
                go_wp2_with fail
                refine ((unhide HX) _).mono ?_
                rintro e w2 ⟨rfl, hb⟩
                replace HB := hide ((unhide HB).trans (hb.mono (unhide HB).size))
                clear hb HX
                go_wp2
                go_roundw
                case rel => exact ⟨p + 1, _, by omega, rfl, by simp, unhide HS, unhide HE2, unhide HB⟩
                case measure => simp [intOf]; omega
              · have hq : pln y = true := by unfold pln; simp; omega
                cases rA with
                | true =>
                  have z1 : ((⟨#[y]⟩ : ByteArray).size : Int) = 1 := rfl
                  have z0 : ((⟨#[92]⟩ : ByteArray).size : Int) = 1 := rfl
                  have zz : ((o ++ ⟨#[92]⟩).size : Int) ≤ 3001 := by rw [ByteArray.size_append]; omega
                  have HE2 : Hid ((o ++ ⟨#[92]⟩ ++ ⟨#[y]⟩).data.toList ++ prt true s.size (p + 1) (s.data.toList.drop (p + 1)) = prt true s.size 0 s.data.toList) := hide (by
                    rw [← unhide HE, pbN, if_pos hq, if_pos (by rw [hR]; simp), data_app, data_app, List.append_assoc, List.append_assoc]
                    rfl)
                  have HS : Hid ((o ++ ⟨#[92]⟩ ++ ⟨#[y]⟩).size ≤ 3 * (p + 1)) := hide (by rw [ByteArray.size_append, ByteArray.size_append]; omega)
                  generalize (⟨#[y]⟩ : ByteArray) = x at *
                  clear HE ho HX
                  clear hq hR
                  go_wp2_with fail
                  refine ((unhide HF) _).mono ?_
                  rintro e w9 ⟨rfl, hb⟩
                  replace HB := hide ((unhide HB).trans (hb.mono (unhide HB).size))
                  clear hb
                  go_wp2_with fail
                  refine ((unhide HA) _).mono ?_
                  rintro e w8 ⟨rfl, hb⟩
                  replace HB := hide ((unhide HB).trans (hb.mono (unhide HB).size))
                  clear hb
                  go_wp2
                  go_roundw
                  case rel => exact ⟨p + 1, _, by omega, rfl, by simp, unhide HS, unhide HE2, unhide HB⟩
                  case measure => simp [intOf]; omega
                | false =>
                  have z1 : ((⟨#[y]⟩ : ByteArray).size : Int) = 1 := rfl
                  have HE2 : Hid ((o ++ ⟨#[y]⟩).data.toList ++ prt true s.size (p + 1) (s.data.toList.drop (p + 1)) = prt true s.size 0 s.data.toList) := hide (by
                    rw [← unhide HE, pbN, if_pos hq, if_neg (by rw [hR]; simp), data_app, List.append_assoc])
                  have HS : Hid ((o ++ ⟨#[y]⟩).size ≤ 3 * (p + 1)) := hide (by rw [ByteArray.size_append]; omega)
                  generalize (⟨#[y]⟩ : ByteArray) = x at *
                  clear HE ho HX
                  clear hq hR
                  go_wp2_with fail
                  refine ((unhide HF) _).mono ?_
                  rintro e w9 ⟨rfl, hb⟩
                  replace HB := hide ((unhide HB).trans (hb.mono (unhide HB).size))
                  clear hb
                  go_wp2_with fail
                  refine ((unhide HA) _).mono ?_
                  rintro e w8 ⟨rfl, hb⟩
                  replace HB := hide ((unhide HB).trans (hb.mono (unhide HB).size))
                  clear hb
                  go_wp2
                  go_roundw
                  case rel => exact ⟨p + 1, _, by omega, rfl, by simp, unhide HS, unhide HE2, unhide HB⟩
                  case measure => simp [intOf]; omega
          | true =>
            cases e3 with
            | false =>
              by_cases a1 : (y.toNat : Int) < 32
              · have hq : pln y = false := by unfold pln; simp; omega
                have z1 : ((⟨(hx y).toArray⟩ : ByteArray).size : Int) = 2 := rfl
                have z0 : ((⟨#[92]⟩ : ByteArray).size : Int) = 1 := rfl
                have zz : ((o ++ ⟨#[92]⟩).size : Int) ≤ 3001 := by rw [ByteArray.size_append]; omega
                have HE2 : Hid ((o ++ ⟨#[92]⟩ ++ ⟨(hx y).toArray⟩).data.toList ++ prt true s.size (p + 1) (s.data.toList.drop (p + 1)) = prt true s.size 0 s.data.toList) := hide (by
                  rw [← unhide HE, pbN, if_neg (by rw [hq]; simp), data_app, data_app, List.append_assoc, List.append_assoc]
                  rfl)
                have HS : Hid ((o ++ ⟨#[92]⟩ ++ ⟨(hx y).toArray⟩).size ≤ 3 * (p + 1)) := hide (by rw [ByteArray.size_append, ByteArray.size_append]; omega)
                generalize (⟨(hx y).toArray⟩ : ByteArray) = x at *
                clear HE ho
                clear hq hR HA
                go_wp2_with fail
                refine ((unhide HF) _).mono ?_
                rintro e w9 ⟨rfl, hb⟩
                replace HB := hide ((unhide HB).trans (hb.mono (unhide HB).size))
                clear hb
                go_wp2_with fail
                refine ((unhide HX) _).mono ?_
                rintro e w2 ⟨rfl, hb⟩
                replace HB := hide ((unhide HB).trans (hb.mono (unhide HB).size))
                clear hb HX
                go_wp2
                go_roundw
                case rel => exact ⟨p + 1, _, by omega, rfl, by simp, unhide HS, unhide HE2, unhide HB⟩
                case measure => simp [intOf]; omega
              · by_cases a2 : (126 : Int) < y.toNat
                · have hq : pln y = false := by unfold pln; simp; omega
                  have z1 : ((⟨(hx y).toArray⟩ : ByteArray).size : Int) = 2 := rfl
                  have z0 : ((⟨#[92]⟩ : ByteArray).size : Int) = 1 := rfl
                  have zz : ((o ++ ⟨#[92]⟩).size : Int) ≤ 3001 := by rw [ByteArray.size_append]; omega
                  have HE2 : Hid ((o ++ ⟨#[92]⟩ ++ ⟨(hx y).toArray⟩).data.toList ++ prt true s.size (p + 1) (s.data.toList.drop (p + 1)) = prt true s.size 0 s.data.toList) := hide (by
                    rw [← unhide HE, pbN, if_neg (by rw [hq]; simp), data_app, data_app, List.append_assoc, List.append_assoc]
                    rfl)
                  have HS : Hid ((o ++ ⟨#[92]⟩ ++ ⟨(hx y).toArray⟩).size ≤ 3 * (p + 1)) := hide (by rw [ByteArray.size_append, ByteArray.size_append]; omega)
                  generalize (⟨(hx y).toArray⟩ : ByteArray) = x at *
                  clear HE ho
                  clear hq hR HA
                  go_wp2_with fail
                  refine ((unhide HF) _).mono ?_
                  rintro e w9 ⟨rfl, hb⟩
                  replace HB := hide ((unhide HB).trans (hb.mono (unhide HB).size))
                  clear hb
                  go_wp2_with fail
                  refine ((unhide HX) _).mono ?_
                  rintro e w2 ⟨rfl, hb⟩
                  replace HB := hide ((unhide HB).trans (hb.mono (unhide HB).size))
                  clear hb HX
                  go_wp2
                  go_roundw
                  case rel => exact ⟨p + 1, _, by omega, rfl, by simp, unhide HS, unhide HE2, unhide HB⟩
                  case measure => simp [intOf]; omega
                · have hq : pln y = true := by unfold pln; simp; omega
                  cases rA with
                  | true =>
                    have z1 : ((⟨#[y]⟩ : ByteArray).size : Int) = 1 := rfl
                    have z0 : ((⟨#[92]⟩ : ByteArray).size : Int) = 1 := rfl
                    have zz : ((o ++ ⟨#[92]⟩).size : Int) ≤ 3001 := by rw [ByteArray.size_append]; omega
                    have HE2 : Hid ((o ++ ⟨#[92]⟩ ++ ⟨#[y]⟩).data.toList ++ prt true s.size (p + 1) (s.data.toList.drop (p + 1)) = prt true s.size 0 s.data.toList) := hide (by
                      rw [← unhide HE, pbN, if_pos hq, if_pos (by rw [hR]; simp), data_app, data_app, List.append_assoc, List.append_assoc]
                      rfl)
                    have HS : Hid ((o ++ ⟨#[92]⟩ ++ ⟨#[y]⟩).size ≤ 3 * (p + 1)) := hide (by rw [ByteArray.size_append, ByteArray.size_append]; omega)
                    generalize (⟨#[y]⟩ : ByteArray) = x at *
                    clear HE ho HX
                    clear hq hR
                    go_wp2_with fail
                    refine ((unhide HF) _).mono ?_
                    rintro e w9 ⟨rfl, hb⟩
                    replace HB := hide ((unhide HB).trans (hb.mono (unhide HB).size))
                    clear hb
                    go_wp2_with fail
                    refine ((unhide HA) _).mono ?_
                    rintro e w8 ⟨rfl, hb⟩
                    replace HB := hide ((unhide HB).trans (hb.mono (unhide HB).size))
                    clear hb
                    go_wp2
                    go_roundw
                    case rel => exact ⟨p + 1, _, by omega, rfl, by simp, unhide HS, unhide HE2, unhide HB⟩
                    case measure => simp [intOf]; omega
                  | false =>
                    have z1 : ((⟨#[y]⟩ : ByteArray).size : Int) = 1 := rfl
                    have HE2 : Hid ((o ++ ⟨#[y]⟩).data.toList ++ prt true s.size (p + 1) (s.data.toList.drop (p + 1)) = prt true s.size 0 s.data.toList) := hide (by
                      rw [← unhide HE, pbN, if_pos hq, if_neg (by rw [hR]; simp), data_app, List.append_assoc])
                    have HS : Hid ((o ++ ⟨#[y]⟩).size ≤ 3 * (p + 1)) := hide (by rw [ByteArray.size_append]; omega)
                    generalize (⟨#[y]⟩ : ByteArray) = x at *
                    clear HE ho HX
                    clear hq hR
                    go_wp2_with fail
                    refine ((unhide HF) _).mono ?_
                    rintro e w9 ⟨rfl, hb⟩
                    replace HB := hide ((unhide HB).trans (hb.mono (unhide HB).size))
                    clear hb
                    go_wp2_with fail
                    refine ((unhide HA) _).mono ?_
                    rintro e w8 ⟨rfl, hb⟩
                    replace HB := hide ((unhide HB).trans (hb.mono (unhide HB).size))
                    clear hb
                    go_wp2
                    go_roundw
                    case rel => exact ⟨p + 1, _, by omega, rfl, by simp, unhide HS, unhide HE2, unhide HB⟩
                    case measure => simp [intOf]; omega
            | true =>
              by_cases a1 : (y.toNat : Int) < 32
              · have hq : pln y = false := by unfold pln; simp; omega
                have z1 : ((⟨(hx y).toArray⟩ : ByteArray).size : Int) = 2 := rfl
                have z0 : ((⟨#[92]⟩ : ByteArray).size : Int) = 1 := rfl
                have zz : ((o ++ ⟨#[92]⟩).size : Int) ≤ 3001 := by rw [ByteArray.size_append]; omega
                have HE2 : Hid ((o ++ ⟨#[92]⟩ ++ ⟨(hx y).toArray⟩).data.toList ++ prt true s.size (p + 1) (s.data.toList.drop (p + 1)) = prt true s.size 0 s.data.toList) := hide (by
                  rw [← unhide HE, pbN, if_neg (by rw [hq]; simp), data_app, data_app, List.append_assoc, List.append_assoc]
                  rfl)
                have HS : Hid ((o ++ ⟨#[92]⟩ ++ ⟨(hx y).toArray⟩).size ≤ 3 * (p + 1)) := hide (by rw [ByteArray.size_append, ByteArray.size_append]; omega)
                generalize (⟨(hx y).toArray⟩ : ByteArray) = x at *
                clear HE ho
                clear hq hR HA
                go_wp2_with fail
                refine ((unhide HF) _).mono ?_
                rintro e w9 ⟨rfl, hb⟩
                replace HB := hide ((unhide HB).trans (hb.mono (unhide HB).size))
                clear hb
                go_wp2_with fail
                refine ((unhide HX) _).mono ?_
                rintro e w2 ⟨rfl, hb⟩
                replace HB := hide ((unhide HB).trans (hb.mono (unhide HB).size))
                clear hb HX
                go_wp2
                go_roundw
                case rel => exact ⟨p + 1, _, by omega, rfl, by simp, unhide HS, unhide HE2, unhide HB⟩
                case measure => simp [intOf]; omega
              · by_cases a2 : (126 : Int) < y.toNat
                · have hq : pln y = false := by unfold pln; simp; omega
                  have z1 : ((⟨(hx y).toArray⟩ : ByteArray).size : Int) = 2 := rfl
                  have z0 : ((⟨#[92]⟩ : ByteArray).size : Int) = 1 := rfl
                  have zz : ((o ++ ⟨#[92]⟩).size : Int) ≤ 3001 := by rw [ByteArray.size_append]; omega
                  have HE2 : Hid ((o ++ ⟨#[92]⟩ ++ ⟨(hx y).toArray⟩).data.toList ++ prt true s.size (p + 1) (s.data.toList.drop (p + 1)) = prt true s.size 0 s.data.toList) := hide (by
                    rw [← unhide HE, pbN, if_neg (by rw [hq]; simp), data_app, data_app, List.append_assoc, List.append_assoc]
                    rfl)
                  have HS : Hid ((o ++ ⟨#[92]⟩ ++ ⟨(hx y).toArray⟩).size ≤ 3 * (p + 1)) := hide (by rw [ByteArray.size_append, ByteArray.size_append]; omega)
                  generalize (⟨(hx y).toArray⟩ : ByteArray) = x at *
                  clear HE ho
                  clear hq hR HA
                  go_wp2_with fail
                  refine ((unhide HF) _).mono ?_
                  rintro e w9 ⟨rfl, hb⟩
                  replace HB := hide ((unhide HB).trans (hb.mono (unhide HB).size))
                  clear hb
                  go_wp2_with fail
                  refine ((unhide HX) _).mono ?_
                  rintro e w2 ⟨rfl, hb⟩
                  replace HB := hide ((unhide HB).trans (hb.mono (unhide HB).size))
                  clear hb HX
                  go_wp2
                  go_roundw
                  case rel => exact ⟨p + 1, _, by omega, rfl, by simp, unhide HS, unhide HE2, unhide HB⟩
                  case measure => simp [intOf]; omega
                · have hq : pln y = true := by unfold pln; simp; omega
                  have z1 : ((⟨#[y]⟩ : ByteArray).size : Int) = 1 := rfl
                  have z0 : ((⟨#[92]⟩ : ByteArray).size : Int) = 1 := rfl
                  have zz : ((o ++ ⟨#[92]⟩).size : Int) ≤ 3001 := by rw [ByteArray.size_append]; omega
                  have HE2 : Hid ((o ++ ⟨#[92]⟩ ++ ⟨#[y]⟩).data.toList ++ prt true s.size (p + 1) (s.data.toList.drop (p + 1)) = prt true s.size 0 s.data.toList) := hide (by
                    rw [← unhide HE, pbN, if_pos hq, if_pos (by rw [hR]; simp), data_app, data_app, List.append_assoc, List.append_assoc]
                    rfl)
                  have HS : Hid ((o ++ ⟨#[92]⟩ ++ ⟨#[y]⟩).size ≤ 3 * (p + 1)) := hide (by rw [ByteArray.size_append, ByteArray.size_append]; omega)
                  generalize (⟨#[y]⟩ : ByteArray) = x at *
                  clear HE ho HX
                  clear hq hR HA
                  go_wp2_with fail
                  refine ((unhide HF) _).mono ?_
                  rintro e w9 ⟨rfl, hb⟩
                  replace HB := hide ((unhide HB).trans (hb.mono (unhide HB).size))
                  clear hb
                  go_wp2
                  go_roundw
                  case rel => exact ⟨p + 1, _, by omega, rfl, by simp, unhide HS, unhide HE2, unhide HB⟩
                  case measure => simp [intOf]; omega
        | true =>
          cases b2 with
          | false =>
            by_cases a1 : (y.toNat : Int) < 32
            · have hq : pln y = false := by unfold pln; simp; omega
              have z1 : ((⟨(hx y).toArray⟩ : ByteArray).size : Int) = 2 := rfl
              have z0 : ((⟨#[92]⟩ : ByteArray).size : Int) = 1 := rfl
              have zz : ((o ++ ⟨#[92]⟩).size : Int) ≤ 3001 := by rw [ByteArray.size_append]; omega
              have HE2 : Hid ((o ++ ⟨#[92]⟩ ++ ⟨(hx y).toArray⟩).data.toList ++ prt true s.size (p + 1) (s.data.toList.drop (p + 1)) = prt true s.size 0 s.data.toList) := hide (by
                rw [← unhide HE, pbN, if_neg (by rw [hq]; simp), data_app, data_app, List.append_assoc, List.append_assoc]
                rfl)
              have HS : Hid ((o ++ ⟨#[92]⟩ ++ ⟨(hx y).toArray⟩).size ≤ 3 * (p + 1)) := hide (by rw [ByteArray.size_append, ByteArray.size_append]; omega)
              generalize (⟨(hx y).toArray⟩ : ByteArray) = x at *
              clear HE ho
              clear hq hR HA
              go_wp2_with fail
              refine ((unhide HF) _).mono ?_
              rintro e w9 ⟨rfl, hb⟩
              replace HB := hide ((unhide HB).trans (hb.mono (unhide HB).size))
              clear hb
              go_wp2_with fail
              refine ((unhide HX) _).mono ?_
              rintro e w2 ⟨rfl, hb⟩
              replace HB := hide ((unhide HB).trans (hb.mono (unhide HB).size))
              clear hb HX
              go_wp2
              go_roundw
              case rel => exact ⟨p + 1, _, by omega, rfl, by simp, unhide HS, unhide HE2, unhide HB⟩
              case measure => simp [intOf]; omega
            · by_cases a2 : (126 : Int) < y.toNat
              · have hq : pln y = false := by unfold pln; simp; omega
                have z1 : ((⟨(hx y).toArray⟩ : ByteArray).size : Int) = 2 := rfl
                have z0 : ((⟨#[92]⟩ : ByteArray).size : Int) = 1 := rfl
                have zz : ((o ++ ⟨#[92]⟩).size : Int) ≤ 3001 := by rw [ByteArray.size_append]; omega
                have HE2 : Hid ((o ++ ⟨#[92]⟩ ++ ⟨(hx y).toArray⟩).data.toList ++ prt true s.size (p + 1) (s.data.toList.drop (p + 1)) = prt true s.size 0 s.data.toList) := hide (by
                  rw [← unhide HE, pbN, if_neg (by rw [hq]; simp), data_app, data_app, List.append_assoc, List.append_assoc]
                  rfl)
                have HS : Hid ((o ++ ⟨#[92]⟩ ++ ⟨(hx y).toArray⟩).size ≤ 3 * (p + 1)) := hide (by rw [ByteArray.size_append, ByteArray.size_append]; omega)
                generalize (⟨(hx y).toArray⟩ : ByteArray) = x at *
                clear HE ho
                clear hq hR HA
                go_wp2_with fail
                refine ((unhide HF) _).mono ?_
                rintro e w9 ⟨rfl, hb⟩
                replace HB := hide ((unhide HB).trans (hb.mono (unhide HB).size))
                clear hb
                go_wp2_with fail
                refine ((unhide HX) _).mono ?_
                rintro e w2 ⟨rfl, hb⟩
                replace HB := hide ((unhide HB).trans (hb.mono (unhide HB).size))
                clear hb HX
                go_wp2
                go_roundw
                case rel => exact ⟨p + 1, _, by omega, rfl, by simp, unhide HS, unhide HE2, unhide HB⟩
                case measure => simp [intOf]; omega
              · have hq : pln y = true := by unfold pln; simp; omega
                have z1 : ((⟨#[y]⟩ : ByteArray).size : Int) = 1 := rfl
                have z0 : ((⟨#[92]⟩ : ByteArray).size : Int) = 1 := rfl
                have zz : ((o ++ ⟨#[92]⟩).size : Int) ≤ 3001 := by rw [ByteArray.size_append]; omega
                have HE2 : Hid ((o ++ ⟨#[92]⟩ ++ ⟨#[y]⟩).data.toList ++ prt true s.size (p + 1) (s.data.toList.drop (p + 1)) = prt true s.size 0 s.data.toList) := hide (by
                  rw [← unhide HE, pbN, if_pos hq, if_pos (by rw [hR]; simp), data_app, data_app, List.append_assoc, List.append_assoc]
                  rfl)
                have HS : Hid ((o ++ ⟨#[92]⟩ ++ ⟨#[y]⟩).size ≤ 3 * (p + 1)) := hide (by rw [ByteArray.size_append, ByteArray.size_append]; omega)
                generalize (⟨#[y]⟩ : ByteArray) = x at *
                clear HE ho HX
                clear hq hR HA
                go_wp2_with fail
                refine ((unhide HF) _).mono ?_
                rintro e w9 ⟨rfl, hb⟩
                replace HB := hide ((unhide HB).trans (hb.mono (unhide HB).size))
                clear hb
                go_wp2
                go_roundw
                case rel => exact ⟨p + 1, _, by omega, rfl, by simp, unhide HS, unhide HE2, unhide HB⟩
                case measure => simp [intOf]; omega
          | true =>
            cases e3 with
            | false =>
              by_cases a1 : (y.toNat : Int) < 32
              · have hq : pln y = false := by unfold pln; simp; omega
                have z1 : ((⟨(hx y).toArray⟩ : ByteArray).size : Int) = 2 := rfl
                have z0 : ((⟨#[92]⟩ : ByteArray).size : Int) = 1 := rfl
                have zz : ((o ++ ⟨#[92]⟩).size : Int) ≤ 3001 := by rw [ByteArray.size_append]; omega
                have HE2 : Hid ((o ++ ⟨#[92]⟩ ++ ⟨(hx y).toArray⟩).data.toList ++ prt true s.size (p + 1) (s.data.toList.drop (p + 1)) = prt true s.size 0 s.data.toList) := hide (by
                  rw [← unhide HE, pbN, if_neg (by rw [hq]; simp), data_app, data_app, List.append_assoc, List.append_assoc]
                  rfl)
                have HS : Hid ((o ++ ⟨#[92]⟩ ++ ⟨(hx y).toArray⟩).size ≤ 3 * (p + 1)) := hide (by rw [ByteArray.size_append, ByteArray.size_append]; omega)
                generalize (⟨(hx y).toArray⟩ : ByteArray) = x at *
                clear HE ho
                clear hq hR HA
                go_wp2_with fail
                refine ((unhide HF) _).mono ?_
                rintro e w9 ⟨rfl, hb⟩
                replace HB := hide ((unhide HB).trans (hb.mono (unhide HB).size))
                clear hb
                go_wp2_with fail
                refine ((unhide HX) _).mono ?_
                rintro e w2 ⟨rfl, hb⟩
                replace HB := hide ((unhide HB).trans (hb.mono (unhide HB).size))
                clear hb HX
                go_wp2
                go_roundw
                case rel => exact ⟨p + 1, _, by omega, rfl, by simp, unhide HS, unhide HE2, unhide HB⟩
                case measure => simp [intOf]; omega
              · by_cases a2 : (126 : Int) < y.toNat
                · have hq : pln y = false := by unfold pln; simp; omega
                  have z1 : ((⟨(hx y).toArray⟩ : ByteArray).size : Int) = 2 := rfl
                  have z0 : ((⟨#[92]⟩ : ByteArray).size : Int) = 1 := rfl
                  have zz : ((o ++ ⟨#[92]⟩).size : Int) ≤ 3001 := by rw [ByteArray.size_append]; omega
                  have HE2 : Hid ((o ++ ⟨#[92]⟩ ++ ⟨(hx y).toArray⟩).data.toList ++ prt true s.size (p + 1) (s.data.toList.drop (p + 1)) = prt true s.size 0 s.data.toList) := hide (by
                    rw [← unhide HE, pbN, if_neg (by rw [hq]; simp), data_app, data_app, List.append_assoc, List.append_assoc]
                    rfl)
                  have HS : Hid ((o ++ ⟨#[92]⟩ ++ ⟨(hx y).toArray⟩).size ≤ 3 * (p + 1)) := hide (by rw [ByteArray.size_append, ByteArray.size_append]; omega)
                  generalize (⟨(hx y).toArray⟩ : ByteArray) = x at *
                  clear HE ho
                  clear hq hR HA
                  go_wp2_with fail
                  refine ((unhide HF) _).mono ?_
                  rintro e w9 ⟨rfl, hb⟩
                  replace HB := hide ((unhide HB).trans (hb.mono (unhide HB).size))
                  clear hb
                  go_wp2_with fail
                  refine ((unhide HX) _).mono ?_
                  rintro e w2 ⟨rfl, hb⟩
                  replace HB := hide ((unhide HB).trans (hb.mono (unhide HB).size))
                  clear hb HX
                  go_wp2
                  go_roundw
                  case rel => exact ⟨p + 1, _, by omega, rfl, by simp, unhide HS, unhide HE2, unhide HB⟩
                  case measure => simp [intOf]; omega
                · have hq : pln y = true := by unfold pln; simp; omega
                  have z1 : ((⟨#[y]⟩ : ByteArray).size : Int) = 1 := rfl
                  have z0 : ((⟨#[92]⟩ : ByteArray).size : Int) = 1 := rfl
                  have zz : ((o ++ ⟨#[92]⟩).size : Int) ≤ 3001 := by rw [ByteArray.size_append]; omega
                  have HE2 : Hid ((o ++ ⟨#[92]⟩ ++ ⟨#[y]⟩).data.toList ++ prt true s.size (p + 1) (s.data.toList.drop (p + 1)) = prt true s.size 0 s.data.toList) := hide (by
                    rw [← unhide HE, pbN, if_pos hq, if_pos (by rw [hR]; simp), data_app, data_app, List.append_assoc, List.append_assoc]
                    rfl)
                  have HS : Hid ((o ++ ⟨#[92]⟩ ++ ⟨#[y]⟩).size ≤ 3 * (p + 1)) := hide (by rw [ByteArray.size_append, ByteArray.size_append]; omega)
                  generalize (⟨#[y]⟩ : ByteArray) = x at *
                  clear HE ho HX
                  clear hq hR HA
                  go_wp2_with fail
                  refine ((unhide HF) _).mono ?_
                  rintro e w9 ⟨rfl, hb⟩
                  replace HB := hide ((unhide HB).trans (hb.mono (unhide HB).size))
                  clear hb
                  go_wp2
                  go_roundw
                  case rel => exact ⟨p + 1, _, by omega, rfl, by simp, unhide HS, unhide HE2, unhide HB⟩
                  case measure => simp [intOf]; omega
            | true =>
              by_cases a1 : (y.toNat : Int) < 32
              · have hq : pln y = false := by unfold pln; simp; omega
                have z1 : ((⟨(hx y).toArray⟩ : ByteArray).size : Int) = 2 := rfl
                have z0 : ((⟨#[92]⟩ : ByteArray).size : Int) = 1 := rfl
                have zz : ((o ++ ⟨#[92]⟩).size : Int) ≤ 3001 := by rw [ByteArray.size_append]; omega
                have HE2 : Hid ((o ++ ⟨#[92]⟩ ++ ⟨(hx y).toArray⟩).data.toList ++ prt true s.size (p + 1) (s.data.toList.drop (p + 1)) = prt true s.size 0 s.data.toList) := hide (by
                  rw [← unhide HE, pbN, if_neg (by rw [hq]; simp), data_app, data_app, List.append_assoc, List.append_assoc]
                  rfl)
                have HS : Hid ((o ++ ⟨#[92]⟩ ++ ⟨(hx y).toArray⟩).size ≤ 3 * (p + 1)) := hide (by rw [ByteArray.size_append, ByteArray.size_append]; omega)
                generalize (⟨(hx y).toArray⟩ : ByteArray) = x at *
                clear HE ho
                clear hq hR HA
                go_wp2_with fail
                refine ((unhide HF) _).mono ?_
                rintro e w9 ⟨rfl, hb⟩
                replace HB := hide ((unhide HB).trans (hb.mono (unhide HB).size))
                clear hb
                go_wp2_with fail
                refine ((unhide HX) _).mono ?_
                rintro e w2 ⟨rfl, hb⟩
                replace HB := hide ((unhide HB).trans (hb.mono (unhide HB).size))
                clear hb HX
                go_wp2
                go_roundw
                case rel => exact ⟨p + 1, _, by omega, rfl, by simp, unhide HS, unhide HE2, unhide HB⟩
                case measure => simp [intOf]; omega
              · by_cases a2 : (126 : Int) < y.toNat
                · have hq : pln y = false := by unfold pln; simp; omega
                  have z1 : ((⟨(hx y).toArray⟩ : ByteArray).size : Int) = 2 := rfl
                  have z0 : ((⟨#[92]⟩ : ByteArray).size : Int) = 1 := rfl
                  have zz : ((o ++ ⟨#[92]⟩).size : Int) ≤ 3001 := by rw [ByteArray.size_append]; omega
                  have HE2 : Hid ((o ++ ⟨#[92]⟩ ++ ⟨(hx y).toArray⟩).data.toList ++ prt true s.size (p + 1) (s.data.toList.drop (p + 1)) = prt true s.size 0 s.data.toList) := hide (by
                    rw [← unhide HE, pbN, if_neg (by rw [hq]; simp), data_app, data_app, List.append_assoc, List.append_assoc]
                    rfl)
                  have HS : Hid ((o ++ ⟨#[92]⟩ ++ ⟨(hx y).toArray⟩).size ≤ 3 * (p + 1)) := hide (by rw [ByteArray.size_append, ByteArray.size_append]; omega)
                  generalize (⟨(hx y).toArray⟩ : ByteArray) = x at *
                  clear HE ho
                  clear hq hR HA
                  go_wp2_with fail
                  refine ((unhide HF) _).mono ?_
                  rintro e w9 ⟨rfl, hb⟩
                  replace HB := hide ((unhide HB).trans (hb.mono (unhide HB).size))
                  clear hb
                  go_wp2_with fail
                  refine ((unhide HX) _).mono ?_
                  rintro e w2 ⟨rfl, hb⟩
                  replace HB := hide ((unhide HB).trans (hb.mono (unhide HB).size))
                  clear hb HX
                  go_wp2
                  go_roundw
                  case rel => exact ⟨p + 1, _, by omega, rfl, by simp, unhide HS, unhide HE2, unhide HB⟩
                  case measure => simp [intOf]; omega
                · have hq : pln y = true := by unfold pln; simp; omega
                  have z1 : ((⟨#[y]⟩ : ByteArray).size : Int) = 1 := rfl
                  have z0 : ((⟨#[92]⟩ : ByteArray).size : Int) = 1 := rfl
                  have zz : ((o ++ ⟨#[92]⟩).size : Int) ≤ 3001 := by rw [ByteArray.size_append]; omega
                  have HE2 : Hid ((o ++ ⟨#[92]⟩ ++ ⟨#[y]⟩).data.toList ++ prt true s.size (p + 1) (s.data.toList.drop (p + 1)) = prt true s.size 0 s.data.toList) := hide (by
                    rw [← unhide HE, pbN, if_pos hq, if_pos (by rw [hR]; simp), data_app, data_app, List.append_assoc, List.append_assoc]
                    rfl)
                  have HS : Hid ((o ++ ⟨#[92]⟩ ++ ⟨#[y]⟩).size ≤ 3 * (p + 1)) := hide (by rw [ByteArray.size_append, ByteArray.size_append]; omega)
                  generalize (⟨#[y]⟩ : ByteArray) = x at *
                  clear HE ho HX
                  clear hq hR HA
                  go_wp2_with fail
                  refine ((unhide HF) _).mono ?_
                  rintro e w9 ⟨rfl, hb⟩
                  replace HB := hide ((unhide HB).trans (hb.mono (unhide HB).size))
                  clear hb
                  go_wp2
                  go_roundw
                  case rel => exact ⟨p + 1, _, by omega, rfl, by simp, unhide HS, unhide HE2, unhide HB⟩
                  case measure => simp [intOf]; omega
    · have hge : ¬ (p : Int) < s.size := by omega
      rw [drop_out hlt, prt, List.append_nil] at hE
      have Ho : Hid (o = pri true s) := hide (ByteArray.ext (Array.ext' hE))
      clear hE
      go_wp2
      go_ret
      exact ⟨by rw [← unhide Ho]; rfl, unhide HB⟩
end Go.Proofs.YthfcnjcpanoldaaGreatDoor.E

/-
  What the document's own answers of layer 6 say: plain, pair, ReadFilter, ReadName. Conditions: none.
-/
namespace Go.Proofs.YthfcnjcpanoldaaGreatDoor.E
open Go Go.RowKit Ec
attribute [local go_sem] Oper.semAt_some

set_option maxRecDepth 100000 in
theorem refPlain_any (s : ByteArray) (w : World) (hs : s.size ≤ 1000) :
    Calls Tryz.prog 78 #[.string s] w fun e w' => e = .returned (.bool ((U.bad s).isNone && !s.data.toList.contains 0)) ∧ Below w.heap.size w w' := by
  have H1 := hide (U.refRight_any s w hs)
  have H2 : Hid (∀ W : World, Calls Tryz.prog 51 #[.int .u8 0, .string s] W fun e w' => e = .returned (.bool (s.data.toList.contains 0)) ∧ w' = W) := hide fun W => among_any 0 s W hs
  generalize (U.bad s).isNone = b at *
  generalize s.data.toList.contains 0 = c at *
  cases b with
  | false =>
    go_enter Tryz.func78, Tryz.ntmps78
    go_wp2_with fail
    refine (unhide H1).mono ?_
    rintro e w1 ⟨rfl, hb⟩
    have HB := hide hb
    clear hb
    go_wp2
    go_ret
    exact ⟨rfl, unhide HB⟩
  | true =>
    go_enter Tryz.func78, Tryz.ntmps78
    go_wp2_with fail
    refine (unhide H1).mono ?_
    rintro e w1 ⟨rfl, hb⟩
    have HB := hide hb
    clear hb
    go_wp2_with fail
    refine ((unhide H2) _).mono ?_
    rintro e w2 ⟨rfl, rfl⟩
    go_wp2
    go_ret
    exact ⟨by simp, unhide HB⟩

/-- what pair leaves. -/
def PairPost (r : Option (List UInt8 × Nat)) (w : World) (e : Ending) (w' : World) : Prop := Below w.heap.size w w' ∧ match r with
  | some (t, _) => e = .returned (.tuple #[.string ⟨t.toArray⟩, .bool true])
  | none => ∃ u : ByteArray, e = .returned (.tuple #[.string u, .bool false])
theorem slice_two (s : ByteArray) (q : Nat) (h : q + 2 ≤ s.size) (wx : World) : (Instr.slice 9 (.string s) (some (.int .i64 (q : Int))) (some (.int .i64 ((q : Int) + 2))) none).run Tryz.prog wx = .ok (.string (pc s q 2)) wx := by
  have := run_slice_string (P := Tryz.prog) (w := wx) 9 s .i64 .i64 (q : Int) ((q : Int) + 2) Tryz.underlying9 (by omega) (by omega) (by omega)
  rw [show ((q : Int)).toNat = q by omega, show ((q : Int) + 2).toNat = q + 2 by omega] at this
  rw [this]
  unfold pc
  rw [Nat.min_eq_left (by omega)]
set_option maxRecDepth 100000 in
theorem pair_two (s : ByteArray) (q : Nat) (w : World) (hs : s.size ≤ 1000) (h : q + 2 ≤ s.size) (t : ByteArray) (er : Int) (hu : C.und Cd.kH (pc s q 2) = (t, er)) (b : Bool) (hb : (er == 0) = b) :
    Calls Tryz.prog 79 #[.string s, .int .i64 q] w fun e w' => e = .returned (.tuple #[.string t, .bool b]) ∧ Below w.heap.size w w' := by
  have H : Hid (Calls Tryz.prog 103 #[.string (pc s q 2)] w fun e w' => e = .returned (.tuple #[.string t, .int .i64 er]) ∧ Below w.heap.size w w') := hide (by
    have := C.refUnhex_any (pc s q 2) w (by show (s.extract q _).size ≤ _; rw [ByteArray.size_extract]; omega)
    unfold C.UPost at this
    rw [hu] at this
    exact this)
  have hsl := fun wx => slice_two s q h wx
  have hq : (q : Int) ≤ 1000 := by omega
  have hq2 : ¬ (s.size : Int) < (q : Int) + 2 := by omega
  clear hu
  generalize pc s q 2 = pq at *
  go_enter Tryz.func79, Tryz.ntmps79
  go_wp2_with fail
  refine (unhide H).mono ?_
  rintro e w1 ⟨rfl, hb1⟩
  have HB := hide hb1
  clear hb1 hsl
  go_wp2
  go_ret2
  exact ⟨by rw [← hb]; rfl, unhide HB⟩
set_option maxRecDepth 100000 in
theorem pair_short (s : ByteArray) (q : Nat) (w : World) (hs : s.size ≤ 1000) (hq : q ≤ s.size) (h : ¬ q + 2 ≤ s.size) :
    Calls Tryz.prog 79 #[.string s, .int .i64 q] w fun e w' => e = .returned (.tuple #[.string ⟨#[]⟩, .bool false]) ∧ Below w.heap.size w w' := by
  have hq : (q : Int) ≤ 1000 := by omega
  have hq2 : (s.size : Int) < (q : Int) + 2 := by omega
  go_enter Tryz.func79, Tryz.ntmps79
  go_wp2
  go_ret2
  exact ⟨rfl, Below.refl _ _⟩
theorem refPair_any (s : ByteArray) (q : Nat) (w : World) (hs : s.size ≤ 1000) (hq : q ≤ s.size) :
    Calls Tryz.prog 79 #[.string s, .int .i64 q] w (PairPost (esc1 false (s.data.toList.drop q)) w) := by
  by_cases h : q + 2 ≤ s.size
  · rw [drop_at (show q < s.size by omega), drop_at (show q + 1 < s.size by omega), esc1_two (by rfl)]
    have hd : Cd.dec Cd.kH (pc s q 2).data.toList = Cd.dec Cd.kH [s[q], s[q + 1]] := by rw [pc_data, drop_at (show q < s.size by omega), drop_at (show q + 1 < s.size by omega)]; rfl
    rw [dec_two] at hd
    cases e1 : Cd.nh s[q] with
    | none =>
      simp only [e1] at hd ⊢
      exact (pair_two s q w hs h _ _ (und_none hd) false rfl).mono fun e w' ⟨he, hb⟩ => ⟨hb, _, he⟩
    | some i =>
      cases e2 : Cd.nh s[q + 1] with
      | none =>
        simp only [e1, e2] at hd ⊢
        exact (pair_two s q w hs h _ _ (und_none hd) false rfl).mono fun e w' ⟨he, hb⟩ => ⟨hb, _, he⟩
      | some j =>
        simp only [e1, e2] at hd ⊢
        exact (pair_two s q w hs h _ _ (und_some hd) true rfl).mono fun e w' ⟨he, hb⟩ => ⟨hb, he⟩
  · have hn : esc1 false (s.data.toList.drop q) = none := by
      by_cases h1 : q < s.size
      · rw [drop_at h1, drop_out (show ¬ q + 1 < s.size by omega)]
        exact esc1_one rfl
      · rw [drop_out h1]
        rfl
    rw [hn]
    exact (pair_short s q w hs hq h).mono fun e w' ⟨he, hb⟩ => ⟨hb, _, he⟩

/-! ### what is read -/
theorem und_bad {nm : Bool} {s : ByteArray} (h : ((U.bad s).isNone && !s.data.toList.contains 0) = false) : und nm s = (⟨#[]⟩, 60) := by
  have : rd nm s = none := by
    unfold rd
    cases hb : (U.bad s).isNone with
    | false => rfl
    | true =>
      rw [hb, Bool.true_and] at h
      rw [if_pos rfl]
      refine rdk_zero nm _ _ 0 0 ?_
      rw [List.drop_zero]
      simpa using h
  unfold und
  rw [this]
theorem und_ok {nm : Bool} {s : ByteArray} (h : ((U.bad s).isNone && !s.data.toList.contains 0) = true) : (rdk nm s.size 0 0 s.data.toList = none → und nm s = (⟨#[]⟩, 60)) ∧ (∀ t, rdk nm s.size 0 0 s.data.toList = some t → und nm s = (⟨t.toArray⟩, 0)) ∧ ∀ p (hp : p < s.size), s[p] ≠ 0 := by
  rw [Bool.and_eq_true] at h
  obtain ⟨h1, h2⟩ := h
  have e : rd nm s = rdk nm s.size 0 0 s.data.toList := by unfold rd; rw [if_pos h1]
  refine ⟨fun hn => ?_, fun t ht => ?_, fun p hp h0 => ?_⟩
  · unfold und
    rw [e, hn]
  · unfold und
    rw [e, ht]
  · have : s.data.toList.contains 0 = true := by
      rw [List.contains_iff_mem, ← h0]
      exact List.getElem_mem (l := s.data.toList) (by rw [len_toList]; exact hp)
    rw [this] at h2
    cases h2
/-- so much is read. -/
def Rdn (nm : Bool) (s : ByteArray) (p : Nat) (o : ByteArray) : Prop := (rdk nm s.size 0 p (s.data.toList.drop p)).map (o.data.toList ++ ·) = rdk nm s.size 0 0 s.data.toList
theorem rdn_nil (nm : Bool) (s : ByteArray) : Rdn nm s 0 ⟨#[]⟩ := by
  unfold Rdn
  rw [List.drop_zero]
  simp
theorem Rdn.none {nm : Bool} {s : ByteArray} {p : Nat} {o : ByteArray} (h : Rdn nm s p o) (hp : p < s.size) (hs : stp nm s.size p s[p] (s.data.toList.drop (p + 1)) = none) : rdk nm s.size 0 0 s.data.toList = none := by
  unfold Rdn at h
  rw [drop_at hp, rdk_cons, hs] at h
  exact h.symm
theorem Rdn.some {nm : Bool} {s : ByteArray} {p k : Nat} {o : ByteArray} {t : List UInt8} (h : Rdn nm s p o) (hp : p < s.size) (hs : stp nm s.size p s[p] (s.data.toList.drop (p + 1)) = some (t, k)) : Rdn nm s (p + 1 + k) (o ++ ⟨t.toArray⟩) := by
  unfold Rdn at h ⊢
  rw [drop_at hp, rdk_cons, hs] at h
  rw [← h]
  simp only
  have hl := (stp_len hs).2.1
  rw [rdk_skip nm s.size k (p + 1) _ hl, List.drop_drop, Option.map_map]
  congr 1
  funext l
  simp [ByteArray.data_append]
theorem Rdn.over {nm : Bool} {s : ByteArray} {p : Nat} {o : ByteArray} (h : Rdn nm s p o) (hp : ¬ p < s.size) : rdk nm s.size 0 0 s.data.toList = Option.some o.data.toList := by
  unfold Rdn at h
  rw [drop_out hp, rdk] at h
  rw [← h]
  simp
theorem stp_bare {nm : Bool} {n p : Nat} {y : UInt8} (r : List UInt8) (h92 : y ≠ 92) (h0 : y ≠ 0) {b : Bool} (hb : res nm n p y = b) : stp nm n p y r = if b = true then Option.none else Option.some ([y], 0) := by
  unfold stp
  rw [if_neg h92]
  have : (y == 0 || res nm n p y) = b := by rw [hb]; simp [h0]
  rw [this]
theorem stp_mark (nm : Bool) (n p : Nat) (r : List UInt8) : stp nm n p 92 r = esc1 nm r := by unfold stp; rw [if_pos rfl]
theorem sF_eq {y : UInt8} (h : y ≠ 92) (n p : Nat) : res false n p y = ([42, 40, 41] : List UInt8).contains y := by
  show sF.contains y = _
  rw [List.contains_cons, show (y == 92) = false by simpa using h, Bool.false_or]
theorem s6_eq {y : UInt8} (h : y ≠ 92) : ([34, 43, 44, 59, 60, 62, 92] : List UInt8).contains y = ([34, 43, 44, 59, 60, 62] : List UInt8).contains y := by
  have : ∀ i : Fin 256, UInt8.ofNat i.val ≠ 92 → ([34, 43, 44, 59, 60, 62, 92] : List UInt8).contains (UInt8.ofNat i.val) = ([34, 43, 44, 59, 60, 62] : List UInt8).contains (UInt8.ofNat i.val) := by decide +kernel
  exact Cd.u8_all (p := fun y => y ≠ 92 → ([34, 43, 44, 59, 60, 62, 92] : List UInt8).contains y = ([34, 43, 44, 59, 60, 62] : List UInt8).contains y) this y h
theorem sE_eq (y : UInt8) : sE.contains y = ([34, 43, 44, 59, 60, 62, 92, 32, 35, 61] : List UInt8).contains y := by
  have : ∀ i : Fin 256, sE.contains (UInt8.ofNat i.val) = ([34, 43, 44, 59, 60, 62, 92, 32, 35, 61] : List UInt8).contains (UInt8.ofNat i.val) := by decide +kernel
  exact Cd.u8_all (p := fun y => sE.contains y = ([34, 43, 44, 59, 60, 62, 92, 32, 35, 61] : List UInt8).contains y) this y
/-- what a reading leaves. -/
def RPost (nm : Bool) (s : ByteArray) (w : World) (e : Ending) (w' : World) : Prop := e = .returned (.tuple #[.string (und nm s).1, .int .i64 (und nm s).2]) ∧ Below w.heap.size w w'
theorem RPost.no {nm : Bool} {s : ByteArray} {w w' : World} (h : und nm s = (⟨#[]⟩, 60)) (hb : Below w.heap.size w w') : RPost nm s w (.returned (.tuple #[.string ⟨#[]⟩, .int .i64 60])) w' := ⟨by rw [h], hb⟩
theorem RPost.yes {nm : Bool} {s : ByteArray} {w w' : World} {o : ByteArray} (h : und nm s = (o, 0)) (hb : Below w.heap.size w w') : RPost nm s w (.returned (.tuple #[.string o, .int .i64 0])) w' := ⟨by rw [h], hb⟩
theorem k2_of {l t : List UInt8} {k : Nat} (h : esc1 false l = some (t, k)) : k = 2 := by
  unfold esc1 at h
  split at h
  · cases h
  · rw [if_neg (by simp)] at h
    split at h
    · cases h
    · split at h
      · cases h; rfl
      · cases h
theorem esc1_same {l : List UInt8} (h : ∀ z r, l = z :: r → sE.contains z = false) : esc1 true l = esc1 false l := by
  cases l with
  | nil => rfl
  | cons z r =>
    have hz := h z r rfl
    cases r with
    | nil => rw [esc1_one (by rw [hz]; rfl), esc1_one (by rfl)]
    | cons u r => rw [esc1_two (by rw [hz]; rfl), esc1_two (by rfl)]
set_option maxRecDepth 100000 in
set_option maxHeartbeats 8000000 in
theorem refReadName_any (s : ByteArray) (w : World) (hs : s.size ≤ 1000) :
    Calls Tryz.prog 55 #[.string s] w (RPost true s w) := by
  have HP := hide (refPlain_any s w hs)
  cases hpl : ((U.bad s).isNone && !s.data.toList.contains 0) with
  | false =>
    rw [hpl] at HP
    have Hu := hide (und_bad (nm := true) hpl)
    clear hpl
    go_enter Tryz.func55, Tryz.ntmps55
    go_wp2_with fail
    refine (unhide HP).mono ?_
    rintro e w1 ⟨rfl, hb⟩
    have HB := hide hb
    clear hb
    go_wp2
    go_ret2
    exact RPost.no (unhide Hu) (unhide HB)
  | true =>
    rw [hpl] at HP
    have HU := hide (und_ok (nm := true) hpl)
    clear hpl
    go_enter Tryz.func55, Tryz.ntmps55
    go_wp2_with fail
    refine (unhide HP).mono ?_
    rintro e w1 ⟨rfl, hb⟩
    have HB0 := hide hb
    clear hb HP
    go_wp2
    go_loopw [4, 5] (fun sl ix wr => ∃ (p : Nat) (o : ByteArray), p ≤ s.size ∧ sl = .string o ∧ ix = .int .i64 (p : Int) ∧ o.size ≤ p ∧ Rdn true s p o ∧ Below w.heap.size w wr)
      (fun _ ix _ => s.size - (intOf ix).toNat)
    case atStart => exact ⟨0, ⟨#[]⟩, by omega, rfl, rfl, by decide, rdn_nil true s, unhide HB0⟩
    case round =>
      obtain ⟨p, o, hp, rfl, rfl, ho, hR, hB⟩ := hrel
      have HB := hide hB
      have HR := hide hR
      clear hB hR HB0
      have ho' : (o.size : Int) ≤ 1000 := by omega
      have hp' : (p : Int) ≤ 1000 := by omega
      by_cases hlt : p < s.size
      · have hlt' : (p : Int) < s.size := by omega
        have h0 := (unhide HU).2.2 p hlt
        by_cases h92 : s[p] = 92
        · have hcy : ((s[p]).toNat : Int) = 92 := by rw [h92]; rfl
          have hstp : stp true s.size p s[p] (s.data.toList.drop (p + 1)) = esc1 true (s.data.toList.drop (p + 1)) := by rw [h92]; exact stp_mark _ _ _ _
          by_cases hq : p + 1 < s.size
          · have hq' : (p : Int) + 1 < s.size := by omega
            have HAm := hide fun W => among_any s[p + 1] ⟨#[34, 43, 44, 59, 60, 62, 92, 32, 35, 61]⟩ W (by show 10 ≤ 1000; decide)
            rw [show (⟨#[34, 43, 44, 59, 60, 62, 92, 32, 35, 61]⟩ : ByteArray).data.toList = [34, 43, 44, 59, 60, 62, 92, 32, 35, 61] from rfl, ← sE_eq] at HAm
            cases hr : sE.contains s[p + 1] with
            | true =>
              rw [hr] at HAm
              have hst : stp true s.size p s[p] (s.data.toList.drop (p + 1)) = some ([s[p + 1]], 1) := by rw [hstp, drop_at hq]; exact esc1_mark _ (by rw [hr]; rfl)
              have HN : Hid (Rdn true s (p + 2) (o ++ ⟨#[s[p + 1]]⟩)) := hide ((unhide HR).some hlt hst)
              have hsl : ∀ wx : World, (Instr.slice 9 (.string s) (some (.int .i64 ((p : Int) + 1))) (some (.int .i64 ((p : Int) + 2))) none).run Tryz.prog wx = .ok (.string ⟨#[s[p + 1]]⟩) wx := fun wx => by
                have := slice_at s (p + 1) hq wx
                rw [show (((p + 1 : Nat)) : Int) = (p : Int) + 1 by omega, show (p : Int) + 1 + 1 = (p : Int) + 2 by omega] at this
                exact this
              have z1 : ((⟨#[s[p + 1]]⟩ : ByteArray).size : Int) = 1 := rfl
              have HS : Hid ((o ++ ⟨#[s[p + 1]]⟩).size ≤ p + 2) := hide (by rw [ByteArray.size_append]; show o.size + 1 ≤ _; omega)
              clear hst hstp h92 h0 hr
              go_wp2_with fail
              refine ((unhide HAm) _).mono ?_
              rintro e w9 ⟨rfl, rfl⟩
              clear HAm
              go_wp2
              go_roundw
              case rel => exact ⟨p + 2, _, by omega, rfl, by simp; omega, unhide HS, unhide HN, unhide HB⟩
              case measure => simp [intOf]; omega
            | false =>
              rw [hr] at HAm
              have hsame : ∀ z r, s.data.toList.drop (p + 1) = z :: r → sE.contains z = false := fun z r h => by
                rw [drop_at hq] at h
                cases h
                exact hr
              have HPR : Hid (Calls Tryz.prog 79 #[.string s, .int .i64 ((p : Int) + 1)] wr (PairPost (esc1 false (s.data.toList.drop (p + 1))) wr)) := hide (refPair_any s (p + 1) _ hs (by omega))
              cases he : esc1 false (s.data.toList.drop (p + 1)) with
              | none =>
                rw [he] at HPR
                have HPR2 : Hid (Calls Tryz.prog 79 #[.string s, .int .i64 ((p : Int) + 1)] wr fun e w' => ∃ u : ByteArray, e = .returned (.tuple #[.string u, .bool false]) ∧ Below wr.heap.size wr w') := hide ((unhide HPR).mono fun e w' hp => by obtain ⟨hb, u, h⟩ := hp; exact ⟨u, h, hb⟩)
                have Hu : Hid (und true s = (⟨#[]⟩, 60)) := hide ((unhide HU).1 ((unhide HR).none hlt (by rw [hstp, esc1_same hsame, he])))
                clear he HPR hsame hr hstp h92 h0
                go_wp2_with fail
                refine ((unhide HAm) _).mono ?_
                rintro e w9 ⟨rfl, rfl⟩
                clear HAm
                go_wp2_with fail
                refine (unhide HPR2).mono ?_
                rintro e w2 ⟨u, rfl, hb⟩
                replace HB := hide ((unhide HB).trans (hb.mono (unhide HB).size))
                clear hb HPR2
                go_wp2
                go_ret2
                exact RPost.no (unhide Hu) (unhide HB)
              | some tk =>
                obtain ⟨t, k⟩ := tk
                rw [he] at HPR
                have HPR2 : Hid (Calls Tryz.prog 79 #[.string s, .int .i64 ((p : Int) + 1)] wr fun e w' => e = .returned (.tuple #[.string ⟨t.toArray⟩, .bool true]) ∧ Below wr.heap.size wr w') := hide ((unhide HPR).mono fun e w' hp => by obtain ⟨hb, h⟩ := hp; exact ⟨h, hb⟩)
                have hst : stp true s.size p s[p] (s.data.toList.drop (p + 1)) = some (t, k) := by rw [hstp, esc1_same hsame, he]
                obtain ⟨hl1, hl2, hl3⟩ := stp_len hst
                have hk2 : k = 2 := k2_of he
                subst hk2
                have HN := hide ((unhide HR).some hlt hst)
                have hdl : (s.data.toList.drop (p + 1)).length = s.size - (p + 1) := by rw [List.length_drop, len_toList]
                have z1 : ((⟨t.toArray⟩ : ByteArray).size : Int) = 1 := by show ((t.toArray.size : Nat) : Int) = 1; rw [List.size_toArray, hl1]; rfl
                have HS : Hid ((o ++ ⟨t.toArray⟩).size ≤ p + 3) := hide (by rw [ByteArray.size_append]; omega)
                have hp3 : p + 3 ≤ s.size := by omega
                generalize (⟨t.toArray⟩ : ByteArray) = x at *
                clear he HPR hsame hr hstp h92 h0 hst hl1 hl2 hl3 hdl
                go_wp2_with fail
                refine ((unhide HAm) _).mono ?_
                rintro e w9 ⟨rfl, rfl⟩
                clear HAm
                go_wp2_with fail
                refine (unhide HPR2).mono ?_
                rintro e w2 ⟨rfl, hb⟩
                replace HB := hide ((unhide HB).trans (hb.mono (unhide HB).size))
                clear hb HPR2
                go_wp2
                go_roundw
                case rel => exact ⟨p + 3, _, hp3, rfl, by simp; omega, unhide HS, unhide HN, unhide HB⟩
                case measure => simp [intOf]; omega
          · have hq' : ¬ (p : Int) + 1 < s.size := by omega
            have hsame : ∀ z r, s.data.toList.drop (p + 1) = z :: r → sE.contains z = false := fun z r h => by
              rw [drop_out hq] at h
              cases h
            have HPR : Hid (Calls Tryz.prog 79 #[.string s, .int .i64 ((p : Int) + 1)] wr (PairPost (esc1 false (s.data.toList.drop (p + 1))) wr)) := hide (refPair_any s (p + 1) _ hs (by omega))
            cases he : esc1 false (s.data.toList.drop (p + 1)) with
            | none =>
              rw [he] at HPR
              have HPR2 : Hid (Calls Tryz.prog 79 #[.string s, .int .i64 ((p : Int) + 1)] wr fun e w' => ∃ u : ByteArray, e = .returned (.tuple #[.string u, .bool false]) ∧ Below wr.heap.size wr w') := hide ((unhide HPR).mono fun e w' hp => by obtain ⟨hb, u, h⟩ := hp; exact ⟨u, h, hb⟩)
              have Hu : Hid (und true s = (⟨#[]⟩, 60)) := hide ((unhide HU).1 ((unhide HR).none hlt (by rw [hstp, esc1_same hsame, he])))
              clear he HPR hsame hstp h92 h0
              go_wp2_with fail
              refine (unhide HPR2).mono ?_
              rintro e w2 ⟨u, rfl, hb⟩
              replace HB := hide ((unhide HB).trans (hb.mono (unhide HB).size))
              clear hb HPR2
              go_wp2
              go_ret2
              exact RPost.no (unhide Hu) (unhide HB)
            | some tk =>
              rw [drop_out hq] at he
              cases he
        · have hcy : (((s[p]).toNat : Int) == 92) = false := beq_u8 _ 92 h92
          have hsl := fun wx => slice_at s p hlt wx
          have HA := hide fun W => among_l s[p] [34, 43, 44, 59, 60, 62] W (by decide)
          have HF := hide fun W => among_l s[p] [32, 35] W (by decide)
          have hst := stp_bare (nm := true) (n := s.size) (p := p) (s.data.toList.drop (p + 1)) h92 h0 (resN s.size p s[p])
          rw [s6_eq h92] at hst
          have hw1 : wrap64 ((s.size : Int) - 1) = s.size - 1 := by unfold wrap64; omega
          generalize ([34, 43, 44, 59, 60, 62] : List UInt8).contains s[p] = r6 at *
          generalize ([32, 35] : List UInt8).contains s[p] = r2 at *
          generalize k1 : ((p : Int) == 0) = b1 at *
          generalize k2 : ((p : Int) == (s.size : Int) - 1) = b2 at *
          generalize k3 : (((s[p]).toNat : Int) == 32) = e3 at *
          cases r6 with
          | true =>
            rw [if_pos (by simp)] at hst
            have Hu : Hid (und true s = (⟨#[]⟩, 60)) := hide ((unhide HU).1 ((unhide HR).none hlt hst))
            clear hst h0 h92 hsl
            go_wp2_with fail
            refine ((unhide HA) _).mono ?_
            rintro e w2 ⟨rfl, hb⟩
            replace HB := hide ((unhide HB).trans (hb.mono (unhide HB).size))
            clear hb
            go_wp2
            go_ret2
            exact RPost.no (unhide Hu) (unhide HB)
          | false =>
            cases b1 with
            | true =>
              cases r2 with
              | true =>
                rw [if_pos (by simp)] at hst
                have Hu : Hid (und true s = (⟨#[]⟩, 60)) := hide ((unhide HU).1 ((unhide HR).none hlt hst))
                clear hst h0 h92 hsl
                go_wp2_with fail
                refine ((unhide HA) _).mono ?_
                rintro e w2 ⟨rfl, hb⟩
                replace HB := hide ((unhide HB).trans (hb.mono (unhide HB).size))
                clear hb
                go_wp2_with fail
                refine ((unhide HF) _).mono ?_
                rintro e w3 ⟨rfl, hb⟩
                replace HB := hide ((unhide HB).trans (hb.mono (unhide HB).size))
                clear hb
                go_wp2
                go_ret2
                exact RPost.no (unhide Hu) (unhide HB)
              | false =>
                cases b2 with
                | true =>
                  cases e3 with
                  | true =>
                    rw [if_pos (by simp)] at hst
                    have Hu : Hid (und true s = (⟨#[]⟩, 60)) := hide ((unhide HU).1 ((unhide HR).none hlt hst))
                    clear hst h0 h92 hsl
                    go_wp2_with fail
                    refine ((unhide HA) _).mono ?_
                    rintro e w2 ⟨rfl, hb⟩
                    replace HB := hide ((unhide HB).trans (hb.mono (unhide HB).size))
                    clear hb
                    go_wp2_with fail
                    refine ((unhide HF) _).mono ?_
                    rintro e w3 ⟨rfl, hb⟩
                    replace HB := hide ((unhide HB).trans (hb.mono (unhide HB).size))
                    clear hb
                    go_wp2
                    go_ret2
                    exact RPost.no (unhide Hu) (unhide HB)
                  | false =>
                    rw [if_neg (by simp)] at hst
                    have HN := hide ((unhide HR).some hlt hst)
                    have z1 : ((⟨#[s[p]]⟩ : ByteArray).size : Int) = 1 := rfl
                    have HS : Hid ((o ++ ⟨#[s[p]]⟩).size ≤ p + 1) := hide (by rw [ByteArray.size_append]; show o.size + 1 ≤ _; omega)
                    have HN2 : Hid (Rdn true s (p + 1) (o ++ ⟨#[s[p]]⟩)) := unhide HN
                    clear HN hst
                    clear h0 h92
                    go_wp2_with fail
                    refine ((unhide HA) _).mono ?_
                    rintro e w2 ⟨rfl, hb⟩
                    replace HB := hide ((unhide HB).trans (hb.mono (unhide HB).size))
                    clear hb
                    go_wp2_with fail
                    refine ((unhide HF) _).mono ?_
                    rintro e w3 ⟨rfl, hb⟩
                    replace HB := hide ((unhide HB).trans (hb.mono (unhide HB).size))
                    clear hb
                    go_wp2
                    go_roundw
                    case rel => exact ⟨p + 1, _, by omega, rfl, by simp, unhide HS, unhide HN2, unhide HB⟩
                    case measure => simp [intOf]; omega
                | false =>
                  rw [if_neg (by simp)] at hst
                  have HN := hide ((unhide HR).some hlt hst)
                  have z1 : ((⟨#[s[p]]⟩ : ByteArray).size : Int) = 1 := rfl
                  have HS : Hid ((o ++ ⟨#[s[p]]⟩).size ≤ p + 1) := hide (by rw [ByteArray.size_append]; show o.size + 1 ≤ _; omega)
                  have HN2 : Hid (Rdn true s (p + 1) (o ++ ⟨#[s[p]]⟩)) := unhide HN
                  clear HN hst
                  clear h0 h92
                  go_wp2_with fail
                  refine ((unhide HA) _).mono ?_
                  rintro e w2 ⟨rfl, hb⟩
                  replace HB := hide ((unhide HB).trans (hb.mono (unhide HB).size))
                  clear hb
                  go_wp2_with fail
                  refine ((unhide HF) _).mono ?_
                  rintro e w3 ⟨rfl, hb⟩
                  replace HB := hide ((unhide HB).trans (hb.mono (unhide HB).size))
                  clear hb
                  go_wp2
                  go_roundw
                  case rel => exact ⟨p + 1, _, by omega, rfl, by simp, unhide HS, unhide HN2, unhide HB⟩
                  case measure => simp [intOf]; omega
            | false =>
              cases b2 with
              | true =>
                cases e3 with
                | true =>
                  rw [if_pos (by simp)] at hst
                  have Hu : Hid (und true s = (⟨#[]⟩, 60)) := hide ((unhide HU).1 ((unhide HR).none hlt hst))
                  clear hst h0 h92 hsl
                  go_wp2_with fail
                  refine ((unhide HA) _).mono ?_
                  rintro e w2 ⟨rfl, hb⟩
                  replace HB := hide ((unhide HB).trans (hb.mono (unhide HB).size))
                  clear hb
                  go_wp2
                  go_ret2
                  exact RPost.no (unhide Hu) (unhide HB)
                | false =>
                  rw [if_neg (by simp)] at hst
                  have HN := hide ((unhide HR).some hlt hst)
                  have z1 : ((⟨#[s[p]]⟩ : ByteArray).size : Int) = 1 := rfl
                  have HS : Hid ((o ++ ⟨#[s[p]]⟩).size ≤ p + 1) := hide (by rw [ByteArray.size_append]; show o.size + 1 ≤ _; omega)
                  have HN2 : Hid (Rdn true s (p + 1) (o ++ ⟨#[s[p]]⟩)) := unhide HN
                  clear HN hst
                  clear h0 h92
                  go_wp2_with fail
                  refine ((unhide HA) _).mono ?_
                  rintro e w2 ⟨rfl, hb⟩
                  replace HB := hide ((unhide HB).trans (hb.mono (unhide HB).size))
                  clear hb
                  go_wp2
                  go_roundw
                  case rel => exact ⟨p + 1, _, by omega, rfl, by simp, unhide HS, unhide HN2, unhide HB⟩
                  case measure => simp [intOf]; omega
              | false =>
                rw [if_neg (by simp)] at hst
                have HN := hide ((unhide HR).some hlt hst)
                have z1 : ((⟨#[s[p]]⟩ : ByteArray).size : Int) = 1 := rfl
                have HS : Hid ((o ++ ⟨#[s[p]]⟩).size ≤ p + 1) := hide (by rw [ByteArray.size_append]; show o.size + 1 ≤ _; omega)
                have HN2 : Hid (Rdn true s (p + 1) (o ++ ⟨#[s[p]]⟩)) := unhide HN
                clear HN hst
                clear h0 h92
                go_wp2_with fail
                refine ((unhide HA) _).mono ?_
                rintro e w2 ⟨rfl, hb⟩
                replace HB := hide ((unhide HB).trans (hb.mono (unhide HB).size))
                clear hb
                go_wp2
                go_roundw
                case rel => exact ⟨p + 1, _, by omega, rfl, by simp, unhide HS, unhide HN2, unhide HB⟩
                case measure => simp [intOf]; omega
      · have hge : ¬ (p : Int) < s.size := by omega
        have Hu : Hid (und true s = (o, 0)) := hide (by rw [(unhide HU).2.1 _ ((unhide HR).over hlt)])
        go_wp2
        go_ret2
        exact RPost.yes (unhide Hu) (unhide HB)
end Go.Proofs.YthfcnjcpanoldaaGreatDoor.E
