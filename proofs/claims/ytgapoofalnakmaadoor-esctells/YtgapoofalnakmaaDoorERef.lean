/-
  What the document's own answers of layer 6 say: Among, plain, pair, Filter, Name, ReadFilter, ReadName. Conditions: none.
-/
import Derived.Test.YtgapoofalnakmaaDoorEFacts
import Derived.Test.YtgapoofalnakmaaDoorURef2
import Derived.Test.YtgapoofalnakmaaDoorCRef3
namespace Go.Proofs.YtgapoofalnakmaaDoor.E
open Go Go.RowKit Ec
attribute [local go_sem] Oper.semAt_some

theorem contains_drop {l : ByteArray} {j : Nat} (c : UInt8) (h : j < l.size) : (l.data.toList.drop j).contains c = ((c == l[j]) || (l.data.toList.drop (j + 1)).contains c) := by
  rw [drop_at h, List.contains_cons]
set_option maxRecDepth 100000 in
theorem among_any (c : UInt8) (l : ByteArray) (w : World) (hl : l.size ≤ 1000) :
    Calls Tryd.prog 23 #[.int .u8 (c.toNat : Int), .string l] w fun e w' => e = .returned (.bool (l.data.toList.contains c)) ∧ w' = w := by
  obtain ⟨r, hr⟩ : ∃ r, l.data.toList.contains c = r := ⟨_, rfl⟩
  rw [hr]
  have Hr := hide hr
  clear hr
  go_enter Tryd.func23, Tryd.ntmps23
  go_wp2
  go_loopw [5] (fun ix wr => ∃ j : Nat, j ≤ l.size ∧ ix = .int .i64 (j : Int) ∧ (l.data.toList.drop j).contains c = r ∧ wr = w)
    (fun ix _ => l.size - (intOf ix).toNat)
  case atStart => exact ⟨0, Nat.zero_le _, rfl, by rw [List.drop_zero]; exact unhide Hr, rfl⟩
  case round =>
    obtain ⟨j, hj, rfl, hd, rfl⟩ := hrel
    by_cases hlt : j < l.size
    · have hlt' : (j : Int) < l.size := by omega
      have hj' : (j : Int) ≤ 1000 := by omega
      rw [contains_drop c hlt] at hd
      obtain ⟨y, hy⟩ : ∃ y, l[j] = y := ⟨_, rfl⟩
      rw [hy] at hd
      by_cases he : y = c
      · obtain rfl : r = true := by rw [← hd, he]; simp
        have heq : (y.toNat : Int) = c.toNat := by rw [he]
        clear hd he
        go_wp2
        go_ret
        exact ⟨rfl, rfl⟩
      · have heq := beq_u8 y c he
        have Hd : Hid ((l.data.toList.drop (j + 1)).contains c = r) := hide (by rw [← hd]; simp [Ne.symm he])
        clear hd he
        go_wp2
        go_roundw
        case rel => exact ⟨j + 1, by omega, by simp, unhide Hd, by first | rfl | trivial⟩
        case measure => simp [intOf]; omega
    · have hge : ¬ (j : Int) < l.size := by omega
      rw [drop_out hlt] at hd
      obtain rfl : r = false := by rw [← hd]; rfl
      clear hd
      go_wp2
      go_ret
      exact ⟨rfl, rfl⟩
/-- Among, at signs written out. -/
theorem among_l (c : UInt8) (l : List UInt8) (w : World) (hl : l.length ≤ 1000) :
    Calls Tryd.prog 23 #[.int .u8 (c.toNat : Int), .string ⟨l.toArray⟩] w fun e w' => e = .returned (.bool (l.contains c)) ∧ Below w.heap.size w w' :=
  (among_any c ⟨l.toArray⟩ w (by show l.toArray.size ≤ _; rw [List.size_toArray]; exact hl)).mono fun e w' ⟨he, hw⟩ => ⟨he, by rw [hw]; exact Below.refl _ _⟩
theorem slice_at (s : ByteArray) (p : Nat) (h : p < s.size) (wx : World) : (Instr.slice 9 (.string s) (some (.int .i64 (p : Int))) (some (.int .i64 ((p : Int) + 1))) none).run Tryd.prog wx = .ok (.string ⟨#[s[p]]⟩) wx := by
  have := run_slice_string (P := Tryd.prog) (w := wx) 9 s .i64 .i64 (p : Int) ((p : Int) + 1) Tryd.underlying9 (by omega) (by omega) (by omega)
  rw [show ((p : Int)).toNat = p by omega, show ((p : Int) + 1).toNat = p + 1 by omega] at this
  rw [this, ← pc_one h]
  unfold pc
  rw [Nat.min_eq_left (by omega)]
theorem refHex_one (y : UInt8) (w : World) :
    Calls Tryd.prog 25 #[.string ⟨#[y]⟩] w fun e w' => e = .returned (.string ⟨(hx y).toArray⟩) ∧ Below w.heap.size w w' := by
  have := C.refHex_any ⟨#[y]⟩ w (by show 1 ≤ 1000; decide)
  rw [show C.pri Cd.kH ⟨#[y]⟩ = ⟨(hx y).toArray⟩ by unfold C.pri; rw [show (⟨#[y]⟩ : ByteArray).data.toList = [y] from rfl, enc_hx]] at this
  exact this

/-! ### Filter -/
theorem pbF (n p : Nat) (y : UInt8) : pb false n p y = if (pln y && !sF.contains y) = true then [y] else 92 :: hx y := by
  unfold pb
  rw [show res false n p y = sF.contains y from rfl, Bool.and_false]
  rfl
set_option maxRecDepth 100000 in
set_option maxHeartbeats 2000000 in
theorem refFilter_any (s : ByteArray) (w : World) (hs : s.size ≤ 1000) :
    Calls Tryd.prog 16 #[.string s] w fun e w' => e = .returned (.string (pri false s)) ∧ Below w.heap.size w w' := by
  go_enter Tryd.func16, Tryd.ntmps16
  go_wp2
  go_loopw [3, 4] (fun sl ix wr => ∃ (p : Nat) (o : ByteArray), p ≤ s.size ∧ sl = .string o ∧ ix = .int .i64 (p : Int) ∧ o.size ≤ 3 * p ∧ o.data.toList ++ prt false s.size p (s.data.toList.drop p) = prt false s.size 0 s.data.toList ∧ Below w.heap.size w wr)
    (fun _ ix _ => s.size - (intOf ix).toNat)
  case atStart => exact ⟨0, ⟨#[]⟩, by omega, rfl, rfl, by decide, rfl, Below.refl _ _⟩
  case round =>
    obtain ⟨p, o, hp, rfl, rfl, ho, hE, hB⟩ := hrel
    have HB := hide hB
    clear hB
    have ho' : (o.size : Int) ≤ 3000 := by omega
    have hp' : (p : Int) ≤ 1000 := by omega
    by_cases hlt : p < s.size
    · have hlt' : (p : Int) < s.size := by omega
      have hsl := fun wx => slice_at s p hlt wx
      rw [drop_at hlt, prt] at hE
      obtain ⟨y, hy⟩ : ∃ y, s[p] = y := ⟨_, rfl⟩
      rw [hy] at hE hsl
      have HE := hide hE
      have HA := hide fun W => among_l y [92, 42, 40, 41] W (by decide)
      have HX := hide fun W => refHex_one y W
      have hyl : (y.toNat : Int) ≤ 255 := by have := y.toNat_lt; omega
      clear hE
      by_cases a1 : (y.toNat : Int) < 32
      · have hq : pln y = false := by unfold pln; simp; omega
        have z1 : ((⟨(hx y).toArray⟩ : ByteArray).size : Int) = 2 := rfl
        have z0 : ((⟨#[92]⟩ : ByteArray).size : Int) = 1 := rfl
        have zz : ((o ++ ⟨#[92]⟩).size : Int) ≤ 3001 := by rw [ByteArray.size_append]; omega
        have HE2 : Hid ((o ++ ⟨#[92]⟩ ++ ⟨(hx y).toArray⟩).data.toList ++ prt false s.size (p + 1) (s.data.toList.drop (p + 1)) = prt false s.size 0 s.data.toList) := hide (by
          rw [← unhide HE, pbF, if_neg (by rw [hq]; simp), data_app, data_app, List.append_assoc, List.append_assoc]
          rfl)
        have HS : Hid ((o ++ ⟨#[92]⟩ ++ ⟨(hx y).toArray⟩).size ≤ 3 * (p + 1)) := hide (by rw [ByteArray.size_append, ByteArray.size_append]; omega)
        generalize (⟨(hx y).toArray⟩ : ByteArray) = x at *
        clear HE ho
        clear hq HA
        go_wp2_with fail
        refine ((unhide HX) _).mono ?_
        rintro e w2 ⟨rfl, hb⟩
        replace HB := hide ((unhide HB).trans (hb.mono (unhide HB).size))
        clear hb HX
        go_wp2
        go_roundw
        case rel => exact ⟨p + 1, _, by omega, rfl, by simp, unhide HS, unhide HE2, unhide HB⟩
        case measure => simp [intOf]; omega
      · by_cases a2 : (126 : Int) < y.toNat
        · have hq : pln y = false := by unfold pln; simp; omega
          have z1 : ((⟨(hx y).toArray⟩ : ByteArray).size : Int) = 2 := rfl
          have z0 : ((⟨#[92]⟩ : ByteArray).size : Int) = 1 := rfl
          have zz : ((o ++ ⟨#[92]⟩).size : Int) ≤ 3001 := by rw [ByteArray.size_append]; omega
          have HE2 : Hid ((o ++ ⟨#[92]⟩ ++ ⟨(hx y).toArray⟩).data.toList ++ prt false s.size (p + 1) (s.data.toList.drop (p + 1)) = prt false s.size 0 s.data.toList) := hide (by
            rw [← unhide HE, pbF, if_neg (by rw [hq]; simp), data_app, data_app, List.append_assoc, List.append_assoc]
            rfl)
          have HS : Hid ((o ++ ⟨#[92]⟩ ++ ⟨(hx y).toArray⟩).size ≤ 3 * (p + 1)) := hide (by rw [ByteArray.size_append, ByteArray.size_append]; omega)
          generalize (⟨(hx y).toArray⟩ : ByteArray) = x at *
          clear HE ho
          clear hq HA
          go_wp2_with fail
          refine ((unhide HX) _).mono ?_
          rintro e w2 ⟨rfl, hb⟩
          replace HB := hide ((unhide HB).trans (hb.mono (unhide HB).size))
          clear hb HX
          go_wp2
          go_roundw
          case rel => exact ⟨p + 1, _, by omega, rfl, by simp, unhide HS, unhide HE2, unhide HB⟩
          case measure => simp [intOf]; omega
        · have hq : pln y = true := by unfold pln; simp; omega
          cases hr : ([92, 42, 40, 41] : List UInt8).contains y with
          | true =>
            rw [hr] at HA
            have z1 : ((⟨(hx y).toArray⟩ : ByteArray).size : Int) = 2 := rfl
            have z0 : ((⟨#[92]⟩ : ByteArray).size : Int) = 1 := rfl
            have zz : ((o ++ ⟨#[92]⟩).size : Int) ≤ 3001 := by rw [ByteArray.size_append]; omega
            have HE2 : Hid ((o ++ ⟨#[92]⟩ ++ ⟨(hx y).toArray⟩).data.toList ++ prt false s.size (p + 1) (s.data.toList.drop (p + 1)) = prt false s.size 0 s.data.toList) := hide (by
              rw [← unhide HE, pbF, if_neg (by rw [hr]; simp), data_app, data_app, List.append_assoc, List.append_assoc]
              rfl)
            have HS : Hid ((o ++ ⟨#[92]⟩ ++ ⟨(hx y).toArray⟩).size ≤ 3 * (p + 1)) := hide (by rw [ByteArray.size_append, ByteArray.size_append]; omega)
            generalize (⟨(hx y).toArray⟩ : ByteArray) = x at *
            clear HE ho
            clear hq hr
            go_wp2_with fail
            refine ((unhide HA) _).mono ?_
            rintro e w1 ⟨rfl, hb⟩
            replace HB := hide ((unhide HB).trans (hb.mono (unhide HB).size))
            clear hb HA
            go_wp2_with fail
            refine ((unhide HX) _).mono ?_
            rintro e w2 ⟨rfl, hb⟩
            replace HB := hide ((unhide HB).trans (hb.mono (unhide HB).size))
            clear hb HX
            go_wp2
            go_roundw
            case rel => exact ⟨p + 1, _, by omega, rfl, by simp, unhide HS, unhide HE2, unhide HB⟩
            case measure => simp [intOf]; omega
          | false =>
            rw [hr] at HA
            have z1 : ((⟨#[y]⟩ : ByteArray).size : Int) = 1 := rfl
            have HE2 : Hid ((o ++ ⟨#[y]⟩).data.toList ++ prt false s.size (p + 1) (s.data.toList.drop (p + 1)) = prt false s.size 0 s.data.toList) := hide (by
              rw [← unhide HE, pbF, if_pos (by rw [hq, hr]; rfl), data_app, List.append_assoc])
            have HS : Hid ((o ++ ⟨#[y]⟩).size ≤ 3 * (p + 1)) := hide (by rw [ByteArray.size_append]; omega)
            generalize (⟨#[y]⟩ : ByteArray) = x at *
            clear HE ho HX
            clear hq hr
            go_wp2_with fail
            refine ((unhide HA) _).mono ?_
            rintro e w1 ⟨rfl, hb⟩
            replace HB := hide ((unhide HB).trans (hb.mono (unhide HB).size))
            clear hb HA
            go_wp2
            go_roundw
            case rel => exact ⟨p + 1, _, by omega, rfl, by simp, unhide HS, unhide HE2, unhide HB⟩
            case measure => simp [intOf]; omega
    · have hge : ¬ (p : Int) < s.size := by omega
      rw [drop_out hlt, prt, List.append_nil] at hE
      have Ho : Hid (o = pri false s) := hide (ByteArray.ext (Array.ext' hE))
      clear hE
      go_wp2
      go_ret
      exact ⟨by rw [← unhide Ho]; rfl, unhide HB⟩

/-! ### Name -/
theorem pbN (n p : Nat) (y : UInt8) : pb true n p y = if pln y = true then (if res true n p y = true then [92, y] else [y]) else 92 :: hx y := by
  unfold pb
  cases pln y <;> cases res true n p y <;> rfl
theorem sN_eq (y : UInt8) : sN.contains y = ([34, 43, 44, 59, 60, 62, 92] : List UInt8).contains y := by
  have : ∀ i : Fin 256, sN.contains (UInt8.ofNat i.val) = ([34, 43, 44, 59, 60, 62, 92] : List UInt8).contains (UInt8.ofNat i.val) := by decide +kernel
  exact Cd.u8_all (p := fun y => sN.contains y = ([34, 43, 44, 59, 60, 62, 92] : List UInt8).contains y) this y
theorem s32_eq (y : UInt8) : ([32] : List UInt8).contains y = ((y.toNat : Int) == 32) := by
  have : ∀ i : Fin 256, ([32] : List UInt8).contains (UInt8.ofNat i.val) = (((UInt8.ofNat i.val).toNat : Int) == 32) := by decide +kernel
  exact Cd.u8_all (p := fun y => ([32] : List UInt8).contains y = ((y.toNat : Int) == 32)) this y
theorem resN (n p : Nat) (y : UInt8) : res true n p y = (([34, 43, 44, 59, 60, 62, 92] : List UInt8).contains y || (((p : Int) == 0) && ([32, 35] : List UInt8).contains y) || (((p : Int) == (n : Int) - 1) && ((y.toNat : Int) == 32))) := by
  unfold res
  rw [if_pos rfl, sN_eq, s32_eq, show decide (p = 0) = ((p : Int) == 0) by rw [Bool.eq_iff_iff]; simp, show decide (p + 1 = n) = ((p : Int) == (n : Int) - 1) by rw [Bool.eq_iff_iff]; simp; omega]
set_option maxRecDepth 100000 in
set_option maxHeartbeats 8000000 in
theorem refName_any (s : ByteArray) (w : World) (hs : s.size ≤ 1000) :
    Calls Tryd.prog 18 #[.string s] w fun e w' => e = .returned (.string (pri true s)) ∧ Below w.heap.size w w' := by
  go_enter Tryd.func18, Tryd.ntmps18
  go_wp2
  go_loopw [3, 4] (fun sl ix wr => ∃ (p : Nat) (o : ByteArray), p ≤ s.size ∧ sl = .string o ∧ ix = .int .i64 (p : Int) ∧ o.size ≤ 3 * p ∧ o.data.toList ++ prt true s.size p (s.data.toList.drop p) = prt true s.size 0 s.data.toList ∧ Below w.heap.size w wr)
    (fun _ ix _ => s.size - (intOf ix).toNat)
  case atStart => exact ⟨0, ⟨#[]⟩, by omega, rfl, rfl, by decide, rfl, Below.refl _ _⟩
  case round =>
    obtain ⟨p, o, hp, rfl, rfl, ho, hE, hB⟩ := hrel
    have HB := hide hB
    clear hB
    have ho' : (o.size : Int) ≤ 3000 := by omega
    have hp' : (p : Int) ≤ 1000 := by omega
    by_cases hlt : p < s.size
    · have hlt' : (p : Int) < s.size := by omega
      have hsl := fun wx => slice_at s p hlt wx
      rw [drop_at hlt, prt] at hE
      obtain ⟨y, hy⟩ : ∃ y, s[p] = y := ⟨_, rfl⟩
      rw [hy] at hE hsl
      have HE := hide hE
      have HA := hide fun W => among_l y [34, 43, 44, 59, 60, 62, 92] W (by decide)
      have HF := hide fun W => among_l y [32, 35] W (by decide)
      have HX := hide fun W => refHex_one y W
      have hyl : (y.toNat : Int) ≤ 255 := by have := y.toNat_lt; omega
      have hw1 : wrap64 ((s.size : Int) - 1) = s.size - 1 := by unfold wrap64; omega
      have hR := resN s.size p y
      clear hE
      generalize ([34, 43, 44, 59, 60, 62, 92] : List UInt8).contains y = rA at *
      generalize ([32, 35] : List UInt8).contains y = r2 at *
      generalize k1 : ((p : Int) == 0) = b1 at *
      generalize k2 : ((p : Int) == (s.size : Int) - 1) = b2 at *
      generalize k3 : ((y.toNat : Int) == 32) = e3 at *
      cases b1 with
      | false =>
        cases b2 with
        | false =>
          by_cases a1 : (y.toNat : Int) < 32
          · have hq : pln y = false := by unfold pln; simp; omega
            have z1 : ((⟨(hx y).toArray⟩ : ByteArray).size : Int) = 2 := rfl
            have z0 : ((⟨#[92]⟩ : ByteArray).size : Int) = 1 := rfl
            have zz : ((o ++ ⟨#[92]⟩).size : Int) ≤ 3001 := by rw [ByteArray.size_append]; omega
            have HE2 : Hid ((o ++ ⟨#[92]⟩ ++ ⟨(hx y).toArray⟩).data.toList ++ prt true s.size (p + 1) (s.data.toList.drop (p + 1)) = prt true s.size 0 s.data.toList) := hide (by
              rw [← unhide HE, pbN, if_neg (by rw [hq]; simp), data_app, data_app, List.append_assoc, List.append_assoc]
              rfl)
            have HS : Hid ((o ++ ⟨#[92]⟩ ++ ⟨(hx y).toArray⟩).size ≤ 3 * (p + 1)) := hide (by rw [ByteArray.size_append, ByteArray.size_append]; omega)
            generalize (⟨(hx y).toArray⟩ : ByteArray) = x at *
            clear HE ho
            clear hq hR HA
            go_wp2_with fail
            refine ((unhide HX) _).mono ?_
            rintro e w2 ⟨rfl, hb⟩
            replace HB := hide ((unhide HB).trans (hb.mono (unhide HB).size))
            clear hb HX
            go_wp2
            go_roundw
            case rel => exact ⟨p + 1, _, by omega, rfl, by simp, unhide HS, unhide HE2, unhide HB⟩
            case measure => simp [intOf]; omega
          · by_cases a2 : (126 : Int) < y.toNat
            · have hq : pln y = false := by unfold pln; simp; omega
              have z1 : ((⟨(hx y).toArray⟩ : ByteArray).size : Int) = 2 := rfl
              have z0 : ((⟨#[92]⟩ : ByteArray).size : Int) = 1 := rfl
              have zz : ((o ++ ⟨#[92]⟩).size : Int) ≤ 3001 := by rw [ByteArray.size_append]; omega
              have HE2 : Hid ((o ++ ⟨#[92]⟩ ++ ⟨(hx y).toArray⟩).data.toList ++ prt true s.size (p + 1) (s.data.toList.drop (p + 1)) = prt true s.size 0 s.data.toList) := hide (by
                rw [← unhide HE, pbN, if_neg (by rw [hq]; simp), data_app, data_app, List.append_assoc, List.append_assoc]
                rfl)
              have HS : Hid ((o ++ ⟨#[92]⟩ ++ ⟨(hx y).toArray⟩).size ≤ 3 * (p + 1)) := hide (by rw [ByteArray.size_append, ByteArray.size_append]; omega)
              generalize (⟨(hx y).toArray⟩ : ByteArray) = x at *
              clear HE ho
              clear hq hR HA
              go_wp2_with fail
              refine ((unhide HX) _).mono ?_
              rintro e w2 ⟨rfl, hb⟩
              replace HB := hide ((unhide HB).trans (hb.mono (unhide HB).size))
              clear hb HX
              go_wp2
              go_roundw
              case rel => exact ⟨p + 1, _, by omega, rfl, by simp, unhide HS, unhide HE2, unhide HB⟩
              case measure => simp [intOf]; omega
            · have hq : pln y = true := by unfold pln; simp; omega
              cases rA with
              | true =>
                have z1 : ((⟨#[y]⟩ : ByteArray).size : Int) = 1 := rfl
                have z0 : ((⟨#[92]⟩ : ByteArray).size : Int) = 1 := rfl
                have zz : ((o ++ ⟨#[92]⟩).size : Int) ≤ 3001 := by rw [ByteArray.size_append]; omega
                have HE2 : Hid ((o ++ ⟨#[92]⟩ ++ ⟨#[y]⟩).data.toList ++ prt true s.size (p + 1) (s.data.toList.drop (p + 1)) = prt true s.size 0 s.data.toList) := hide (by
                  rw [← unhide HE, pbN, if_pos hq, if_pos (by rw [hR]; simp), data_app, data_app, List.append_assoc, List.append_assoc]
                  rfl)
                have HS : Hid ((o ++ ⟨#[92]⟩ ++ ⟨#[y]⟩).size ≤ 3 * (p + 1)) := hide (by rw [ByteArray.size_append, ByteArray.size_append]; omega)
                generalize (⟨#[y]⟩ : ByteArray) = x at *
                clear HE ho HX
                clear hq hR
                go_wp2_with fail
                refine ((unhide HA) _).mono ?_
                rintro e w8 ⟨rfl, hb⟩
                replace HB := hide ((unhide HB).trans (hb.mono (unhide HB).size))
                clear hb
                go_wp2
                go_roundw
                case rel => exact ⟨p + 1, _, by omega, rfl, by simp, unhide HS, unhide HE2, unhide HB⟩
                case measure => simp [intOf]; omega
              | false =>
                have z1 : ((⟨#[y]⟩ : ByteArray).size : Int) = 1 := rfl
                have HE2 : Hid ((o ++ ⟨#[y]⟩).data.toList ++ prt true s.size (p + 1) (s.data.toList.drop (p + 1)) = prt true s.size 0 s.data.toList) := hide (by
                  rw [← unhide HE, pbN, if_pos hq, if_neg (by rw [hR]; simp), data_app, List.append_assoc])
                have HS : Hid ((o ++ ⟨#[y]⟩).size ≤ 3 * (p + 1)) := hide (by rw [ByteArray.size_append]; omega)
                generalize (⟨#[y]⟩ : ByteArray) = x at *
                clear HE ho HX
                clear hq hR
                go_wp2_with fail
                refine ((unhide HA) _).mono ?_
                rintro e w8 ⟨rfl, hb⟩
                replace HB := hide ((unhide HB).trans (hb.mono (unhide HB).size))
                clear hb
                go_wp2
                go_roundw
                case rel => exact ⟨p + 1, _, by omega, rfl, by simp, unhide HS, unhide HE2, unhide HB⟩
                case measure => simp [intOf]; omega
        | true =>
          cases e3 with
          | false =>
            by_cases a1 : (y.toNat : Int) < 32
            · have hq : pln y = false := by unfold pln; simp; omega
              have z1 : ((⟨(hx y).toArray⟩ : ByteArray).size : Int) = 2 := rfl
              have z0 : ((⟨#[92]⟩ : ByteArray).size : Int) = 1 := rfl
              have zz : ((o ++ ⟨#[92]⟩).size : Int) ≤ 3001 := by rw [ByteArray.size_append]; omega
              have HE2 : Hid ((o ++ ⟨#[92]⟩ ++ ⟨(hx y).toArray⟩).data.toList ++ prt true s.size (p + 1) (s.data.toList.drop (p + 1)) = prt true s.size 0 s.data.toList) := hide (by
                rw [← unhide HE, pbN, if_neg (by rw [hq]; simp), data_app, data_app, List.append_assoc, List.append_assoc]
                rfl)
              have HS : Hid ((o ++ ⟨#[92]⟩ ++ ⟨(hx y).toArray⟩).size ≤ 3 * (p + 1)) := hide (by rw [ByteArray.size_append, ByteArray.size_append]; omega)
              generalize (⟨(hx y).toArray⟩ : ByteArray) = x at *
              clear HE ho
              clear hq hR HA
              go_wp2_with fail
              refine ((unhide HX) _).mono ?_
              rintro e w2 ⟨rfl, hb⟩
              replace HB := hide ((unhide HB).trans (hb.mono (unhide HB).size))
              clear hb HX
              go_wp2
              go_roundw
              case rel => exact ⟨p + 1, _, by omega, rfl, by simp, unhide HS, unhide HE2, unhide HB⟩
              case measure => simp [intOf]; omega
            · by_cases a2 : (126 : Int) < y.toNat
              · have hq : pln y = false := by unfold pln; simp; omega
                have z1 : ((⟨(hx y).toArray⟩ : ByteArray).size : Int) = 2 := rfl
                have z0 : ((⟨#[92]⟩ : ByteArray).size : Int) = 1 := rfl
                have zz : ((o ++ ⟨#[92]⟩).size : Int) ≤ 3001 := by rw [ByteArray.size_append]; omega
                have HE2 : Hid ((o ++ ⟨#[92]⟩ ++ ⟨(hx y).toArray⟩).data.toList ++ prt true s.size (p + 1) (s.data.toList.drop (p + 1)) = prt true s.size 0 s.data.toList) := hide (by
                  rw [← unhide HE, pbN, if_neg (by rw [hq]; simp), data_app, data_app, List.append_assoc, List.append_assoc]
                  rfl)
                have HS : Hid ((o ++ ⟨#[92]⟩ ++ ⟨(hx y).toArray⟩).size ≤ 3 * (p + 1)) := hide (by rw [ByteArray.size_append, ByteArray.size_append]; omega)
                generalize (⟨(hx y).toArray⟩ : ByteArray) = x at *
                clear HE ho
                clear hq hR HA
                go_wp2_with fail
                refine ((unhide HX) _).mono ?_
                rintro e w2 ⟨rfl, hb⟩
                replace HB := hide ((unhide HB).trans (hb.mono (unhide HB).size))
                clear hb HX
                go_wp2
                go_roundw
                case rel => exact ⟨p + 1, _, by omega, rfl, by simp, unhide HS, unhide HE2, unhide HB⟩
                case measure => simp [intOf]; omega
              · have hq : pln y = true := by unfold pln; simp; omega
                cases rA with
                | true =>
                  have z1 : ((⟨#[y]⟩ : ByteArray).size : Int) = 1 := rfl
                  have z0 : ((⟨#[92]⟩ : ByteArray).size : Int) = 1 := rfl
                  have zz : ((o ++ ⟨#[92]⟩).size : Int) ≤ 3001 := by rw [ByteArray.size_append]; omega
                  have HE2 : Hid ((o ++ ⟨#[92]⟩ ++ ⟨#[y]⟩).data.toList ++ prt true s.size (p + 1) (s.data.toList.drop (p + 1)) = prt true s.size 0 s.data.toList) := hide (by
                    rw [← unhide HE, pbN, if_pos hq, if_pos (by rw [hR]; simp), data_app, data_app, List.append_assoc, List.append_assoc]
                    rfl)
                  have HS : Hid ((o ++ ⟨#[92]⟩ ++ ⟨#[y]⟩).size ≤ 3 * (p + 1)) := hide (by rw [ByteArray.size_append, ByteArray.size_append]; omega)
                  generalize (⟨#[y]⟩ : ByteArray) = x at *
                  clear HE ho HX
                  clear hq hR
                  go_wp2_with fail
                  refine ((unhide HA) _).mono ?_
                  rintro e w8 ⟨rfl, hb⟩
                  replace HB := hide ((unhide HB).trans (hb.mono (unhide HB).size))
                  clear hb
                  go_wp2
                  go_roundw
                  case rel => exact ⟨p + 1, _, by omega, rfl, by simp, unhide HS, unhide HE2, unhide HB⟩
                  case measure => simp [intOf]; omega
                | false =>
                  have z1 : ((⟨#[y]⟩ : ByteArray).size : Int) = 1 := rfl
                  have HE2 : Hid ((o ++ ⟨#[y]⟩).data.toList ++ prt true s.size (p + 1) (s.data.toList.drop (p + 1)) = prt true s.size 0 s.data.toList) := hide (by
                    rw [← unhide HE, pbN, if_pos hq, if_neg (by rw [hR]; simp), data_app, List.append_assoc])
                  have HS : Hid ((o ++ ⟨#[y]⟩).size ≤ 3 * (p + 1)) := hide (by rw [ByteArray.size_append]; omega)
                  generalize (⟨#[y]⟩ : ByteArray) = x at *
                  clear HE ho HX
                  clear hq hR
                  go_wp2_with fail
                  refine ((unhide HA) _).mono ?_
                  rintro e w8 ⟨rfl, hb⟩
                  replace HB := hide ((unhide HB).trans (hb.mono (unhide HB).size))
                  clear hb
                  go_wp2
                  go_roundw
                  case rel => exact ⟨p + 1, _, by omega, rfl, by simp, unhide HS, unhide HE2, unhide HB⟩
                  case measure => simp [intOf]; omega
          | true =>
            by_cases a1 : (y.toNat : Int) < 32
            · have hq : pln y = false := by unfold pln; simp; omega
              have z1 : ((⟨(hx y).toArray⟩ : ByteArray).size : Int) = 2 := rfl
              have z0 : ((⟨#[92]⟩ : ByteArray).size : Int) = 1 := rfl
              have zz : ((o ++ ⟨#[92]⟩).size : Int) ≤ 3001 := by rw [ByteArray.size_append]; omega
              have HE2 : Hid ((o ++ ⟨#[92]⟩ ++ ⟨(hx y).toArray⟩).data.toList ++ prt true s.size (p + 1) (s.data.toList.drop (p + 1)) = prt true s.size 0 s.data.toList) := hide (by
                rw [← unhide HE, pbN, if_neg (by rw [hq]; simp), data_app, data_app, List.append_assoc, List.append_assoc]
                rfl)
              have HS : Hid ((o ++ ⟨#[92]⟩ ++ ⟨(hx y).toArray⟩).size ≤ 3 * (p + 1)) := hide (by rw [ByteArray.size_append, ByteArray.size_append]; omega)
              generalize (⟨(hx y).toArray⟩ : ByteArray) = x at *
              clear HE ho
              clear hq hR HA
              go_wp2_with fail
              refine ((unhide HX) _).mono ?_
              rintro e w2 ⟨rfl, hb⟩
              replace HB := hide ((unhide HB).trans (hb.mono (unhide HB).size))
              clear hb HX
              go_wp2
              go_roundw
              case rel => exact ⟨p + 1, _, by omega, rfl, by simp, unhide HS, unhide HE2, unhide HB⟩
              case measure => simp [intOf]; omega
            · by_cases a2 : (126 : Int) < y.toNat
              · have hq : pln y = false := by unfold pln; simp; omega
                have z1 : ((⟨(hx y).toArray⟩ : ByteArray).size : Int) = 2 := rfl
                have z0 : ((⟨#[92]⟩ : ByteArray).size : Int) = 1 := rfl
                have zz : ((o ++ ⟨#[92]⟩).size : Int) ≤ 3001 := by rw [ByteArray.size_append]; omega
                have HE2 : Hid ((o ++ ⟨#[92]⟩ ++ ⟨(hx y).toArray⟩).data.toList ++ prt true s.size (p + 1) (s.data.toList.drop (p + 1)) = prt true s.size 0 s.data.toList) := hide (by
                  rw [← unhide HE, pbN, if_neg (by rw [hq]; simp), data_app, data_app, List.append_assoc, List.append_assoc]
                  rfl)
                have HS : Hid ((o ++ ⟨#[92]⟩ ++ ⟨(hx y).toArray⟩).size ≤ 3 * (p + 1)) := hide (by rw [ByteArray.size_append, ByteArray.size_append]; omega)
                generalize (⟨(hx y).toArray⟩ : ByteArray) = x at *
                clear HE ho
                clear hq hR HA
                go_wp2_with fail
                refine ((unhide HX) _).mono ?_
                rintro e w2 ⟨rfl, hb⟩
                replace HB := hide ((unhide HB).trans (hb.mono (unhide HB).size))
                clear hb HX
                go_wp2
                go_roundw
                case rel => exact ⟨p + 1, _, by omega, rfl, by simp, unhide HS, unhide HE2, unhide HB⟩
                case measure => simp [intOf]; omega
              · have hq : pln y = true := by unfold pln; simp; omega
                have z1 : ((⟨#[y]⟩ : ByteArray).size : Int) = 1 := rfl
                have z0 : ((⟨#[92]⟩ : ByteArray).size : Int) = 1 := rfl
                have zz : ((o ++ ⟨#[92]⟩).size : Int) ≤ 3001 := by rw [ByteArray.size_append]; omega
                have HE2 : Hid ((o ++ ⟨#[92]⟩ ++ ⟨#[y]⟩).data.toList ++ prt true s.size (p + 1) (s.data.toList.drop (p + 1)) = prt true s.size 0 s.data.toList) := hide (by
                  rw [← unhide HE, pbN, if_pos hq, if_pos (by rw [hR]; simp), data_app, data_app, List.append_assoc, List.append_assoc]
                  rfl)
                have HS : Hid ((o ++ ⟨#[92]⟩ ++ ⟨#[y]⟩).size ≤ 3 * (p + 1)) := hide (by rw [ByteArray.size_append, ByteArray.size_append]; omega)
                generalize (⟨#[y]⟩ : ByteArray) = x at *
                clear HE ho HX
                clear hq hR HA

                go_wp2
                go_roundw
                case rel => exact ⟨p + 1, _, by omega, rfl, by simp, unhide HS, unhide HE2, unhide HB⟩
                case measure => simp [intOf]; omega
      | true =>
        cases r2 with
        | false =>
          cases b2 with
          | false =>
            by_cases a1 : (y.toNat : Int) < 32
            · have hq : pln y = false := by unfold pln; simp; omega
              have z1 : ((⟨(hx y).toArray⟩ : ByteArray).size : Int) = 2 := rfl
              have z0 : ((⟨#[92]⟩ : ByteArray).size : Int) = 1 := rfl
              have zz : ((o ++ ⟨#[92]⟩).size : Int) ≤ 3001 := by rw [ByteArray.size_append]; omega
              have HE2 : Hid ((o ++ ⟨#[92]⟩ ++ ⟨(hx y).toArray⟩).data.toList ++ prt true s.size (p + 1) (s.data.toList.drop (p + 1)) = prt true s.size 0 s.data.toList) := hide (by
                rw [← unhide HE, pbN, if_neg (by rw [hq]; simp), data_app, data_app, List.append_assoc, List.append_assoc]
                rfl)
              have HS : Hid ((o ++ ⟨#[92]⟩ ++ ⟨(hx y).toArray⟩).size ≤ 3 * (p + 1)) := hide (by rw [ByteArray.size_append, ByteArray.size_append]; omega)
              generalize (⟨(hx y).toArray⟩ : ByteArray) = x at *
              clear HE ho
              clear hq hR HA
              go_wp2_with fail
              refine ((unhide HF) _).mono ?_
              rintro e w9 ⟨rfl, hb⟩
              replace HB := hide ((unhide HB).trans (hb.mono (unhide HB).size))
              clear hb
              go_wp2_with fail
              refine ((unhide HX) _).mono ?_
              rintro e w2 ⟨rfl, hb⟩
              replace HB := hide ((unhide HB).trans (hb.mono (unhide HB).size))
              clear hb HX
              go_wp2
              go_roundw
              case rel => exact ⟨p + 1, _, by omega, rfl, by simp, unhide HS, unhide HE2, unhide HB⟩
              case measure => simp [intOf]; omega
            · by_cases a2 : (126 : Int) < y.toNat
              · have hq : pln y = false := by unfold pln; simp; omega
                have z1 : ((⟨(hx y).toArray⟩ : ByteArray).size : Int) = 2 := rfl
                have z0 : ((⟨#[92]⟩ : ByteArray).size : Int) = 1 := rfl
                have zz : ((o ++ ⟨#[92]⟩).size : Int) ≤ 3001 := by rw [ByteArray.size_append]; omega
                have HE2 : Hid ((o ++ ⟨#[92]⟩ ++ ⟨(hx y).toArray⟩).data.toList ++ prt true s.size (p + 1) (s.data.toList.drop (p + 1)) = prt true s.size 0 s.data.toList) := hide (by
                  rw [← unhide HE, pbN, if_neg (by rw [hq]; simp), data_app, data_app, List.append_assoc, List.append_assoc]
                  rfl)
                have HS : Hid ((o ++ ⟨#[92]⟩ ++ ⟨(hx y).toArray⟩).size ≤ 3 * (p + 1)) := hide (by rw [ByteArray.size_append, ByteArray.size_append]; omega)
                generalize (⟨(hx y).toArray⟩ : ByteArray) = x at *
                clear HE ho
                clear hq hR HA
                go_wp2_with fail
                refine ((unhide HF) _).mono ?_
                rintro e w9 ⟨rfl, hb⟩
                replace HB := hide ((unhide HB).trans (hb.mono (unhide HB).size))
                clear hb
                go_wp2_with fail
                refine ((unhide HX) _).mono ?_
                rintro e w2 ⟨rfl, hb⟩
                replace HB := hide ((unhide HB).trans (hb.mono (unhide HB).size))
                clear hb HX
                go_wp2
                go_roundw
                case rel => exact ⟨p + 1, _, by omega, rfl, by simp, unhide HS, unhide HE2, unhide HB⟩
                case measure => simp [intOf]; omega
              · have hq : pln y = true := by unfold pln; simp; omega
                cases rA with
                | true =>
                  have z1 : ((⟨#[y]⟩ : ByteArray).size : Int) = 1 := rfl
                  have z0 : ((⟨#[92]⟩ : ByteArray).size : Int) = 1 := rfl
                  have zz : ((o ++ ⟨#[92]⟩).size : Int) ≤ 3001 := by rw [ByteArray.size_append]; omega
                  have HE2 : Hid ((o ++ ⟨#[92]⟩ ++ ⟨#[y]⟩).data.toList ++ prt true s.size (p + 1) (s.data.toList.drop (p + 1)) = prt true s.size 0 s.data.toList) := hide (by
                    rw [← unhide HE, pbN, if_pos hq, if_pos (by rw [hR]; simp), data_app, data_app, List.append_assoc, List.append_assoc]
                    rfl)
                  have HS : Hid ((o ++ ⟨#[92]⟩ ++ ⟨#[y]⟩).size ≤ 3 * (p + 1)) := hide (by rw [ByteArray.size_append, ByteArray.size_append]; omega)
                  generalize (⟨#[y]⟩ : ByteArray) = x at *
                  clear HE ho HX
                  clear hq hR
                  go_wp2_with fail
                  refine ((unhide HF) _).mono ?_
                  rintro e w9 ⟨rfl, hb⟩
                  replace HB := hide ((unhide HB).trans (hb.mono (unhide HB).size))
                  clear hb
                  go_wp2_with fail
                  refine ((unhide HA) _).mono ?_
                  rintro e w8 ⟨rfl, hb⟩
                  replace HB := hide ((unhide HB).trans (hb.mono (unhide HB).size))
                  clear hb
                  go_wp2
                  go_roundw
                  case rel => exact ⟨p + 1, _, by omega, rfl, by simp, unhide HS, unhide HE2, unhide HB⟩
                  case measure => simp [intOf]; omega
                | false =>
                  have z1 : ((⟨#[y]⟩ : ByteArray).size : Int) = 1 := rfl
                  have HE2 : Hid ((o ++ ⟨#[y]⟩).data.toList ++ prt true s.size (p + 1) (s.data.toList.drop (p + 1)) = prt true s.size 0 s.data.toList) := hide (by
                    rw [← unhide HE, pbN, if_pos hq, if_neg (by rw [hR]; simp), data_app, List.append_assoc])
                  have HS : Hid ((o ++ ⟨#[y]⟩).size ≤ 3 * (p + 1)) := hide (by rw [ByteArray.size_append]; omega)
                  generalize (⟨#[y]⟩ : ByteArray) = x at *
                  clear HE ho HX
                  clear hq hR
                  go_wp2_with fail
                  refine ((unhide HF) _).mono ?_
                  rintro e w9 ⟨rfl, hb⟩
                  replace HB := hide ((unhide HB).trans (hb.mono (unhide HB).size))
                  clear hb
                  go_wp2_with fail
                  refine ((unhide HA) _).mono ?_
                  rintro e w8 ⟨rfl, hb⟩
                  replace HB := hide ((unhide HB).trans (hb.mono (unhide HB).size))
                  clear hb
                  go_wp2
                  go_roundw
                  case rel => exact ⟨p + 1, _, by omega, rfl, by simp, unhide HS, unhide HE2, unhide HB⟩
                  case measure => simp [intOf]; omega
          | true =>
            cases e3 with
            | false =>
              by_cases a1 : (y.toNat : Int) < 32
              · have hq : pln y = false := by unfold pln; simp; omega
                have z1 : ((⟨(hx y).toArray⟩ : ByteArray).size : Int) = 2 := rfl
                have z0 : ((⟨#[92]⟩ : ByteArray).size : Int) = 1 := rfl
                have zz : ((o ++ ⟨#[92]⟩).size : Int) ≤ 3001 := by rw [ByteArray.size_append]; omega
                have HE2 : Hid ((o ++ ⟨#[92]⟩ ++ ⟨(hx y).toArray⟩).data.toList ++ prt true s.size (p + 1) (s.data.toList.drop (p + 1)) = prt true s.size 0 s.data.toList) := hide (by
                  rw [← unhide HE, pbN, if_neg (by rw [hq]; simp), data_app, data_app, List.append_assoc, List.append_assoc]
                  rfl)
                have HS : Hid ((o ++ ⟨#[92]⟩ ++ ⟨(hx y).toArray⟩).size ≤ 3 * (p + 1)) := hide (by rw [ByteArray.size_append, ByteArray.size_append]; omega)
                generalize (⟨(hx y).toArray⟩ : ByteArray) = x at *
                clear HE ho
                clear hq hR HA
                go_wp2_with fail
                refine ((unhide HF) _).mono ?_
                rintro e w9 ⟨rfl, hb⟩
                replace HB := hide ((unhide HB).trans (hb.mono (unhide HB).size))
                clear hb
                go_wp2_with fail
                refine ((unhide HX) _).mono ?_
                rintro e w2 ⟨rfl, hb⟩
                replace HB := hide ((unhide HB).trans (hb.mono (unhide HB).size))
                clear hb HX
                go_wp2
                go_roundw
                case rel => exact ⟨p + 1, _, by omega, rfl, by simp, unhide HS, unhide HE2, unhide HB⟩
                case measure => simp [intOf]; omega
              · by_cases a2 : (126 : Int) < y.toNat
                · have hq : pln y = false := by unfold pln; simp; omega
                  have z1 : ((⟨(hx y).toArray⟩ : ByteArray).size : Int) = 2 := rfl
                  have z0 : ((⟨#[92]⟩ : ByteArray).size : Int) = 1 := rfl
                  have zz : ((o ++ ⟨#[92]⟩).size : Int) ≤ 3001 := by rw [ByteArray.size_append]; omega
                  have HE2 : Hid ((o ++ ⟨#[92]⟩ ++ ⟨(hx y).toArray⟩).data.toList ++ prt true s.size (p + 1) (s.data.toList.drop (p + 1)) = prt true s.size 0 s.data.toList) := hide (by
                    rw [← unhide HE, pbN, if_neg (by rw [hq]; simp), data_app, data_app, List.append_assoc, List.append_assoc]
                    rfl)
                  have HS : Hid ((o ++ ⟨#[92]⟩ ++ ⟨(hx y).toArray⟩).size ≤ 3 * (p + 1)) := hide (by rw [ByteArray.size_append, ByteArray.size_append]; omega)
                  generalize (⟨(hx y).toArray⟩ : ByteArray) = x at *
                  clear HE ho
                  clear hq hR HA
                  go_wp2_with fail
                  refine ((unhide HF) _).mono ?_
                  rintro e w9 ⟨rfl, hb⟩
                  replace HB := hide ((unhide HB).trans (hb.mono (unhide HB).size))
                  clear hb
                  go_wp2_with fail
                  refine ((unhide HX) _).mono ?_
                  rintro e w2 ⟨rfl, hb⟩
                  replace HB := hide ((unhide HB).trans (hb.mono (unhide HB).size))
                  clear hb HX
                  go_wp2
                  go_roundw
                  case rel => exact ⟨p + 1, _, by omega, rfl, by simp, unhide HS, unhide HE2, unhide HB⟩
                  case measure => simp [intOf]; omega
                · have hq : pln y = true := by unfold pln; simp; omega
                  cases rA with
                  | true =>
                    have z1 : ((⟨#[y]⟩ : ByteArray).size : Int) = 1 := rfl
                    have z0 : ((⟨#[92]⟩ : ByteArray).size : Int) = 1 := rfl
                    have zz : ((o ++ ⟨#[92]⟩).size : Int) ≤ 3001 := by rw [ByteArray.size_append]; omega
                    have HE2 : Hid ((o ++ ⟨#[92]⟩ ++ ⟨#[y]⟩).data.toList ++ prt true s.size (p + 1) (s.data.toList.drop (p + 1)) = prt true s.size 0 s.data.toList) := hide (by
                      rw [← unhide HE, pbN, if_pos hq, if_pos (by rw [hR]; simp), data_app, data_app, List.append_assoc, List.append_assoc]
                      rfl)
                    have HS : Hid ((o ++ ⟨#[92]⟩ ++ ⟨#[y]⟩).size ≤ 3 * (p + 1)) := hide (by rw [ByteArray.size_append, ByteArray.size_append]; omega)
                    generalize (⟨#[y]⟩ : ByteArray) = x at *
                    clear HE ho HX
                    clear hq hR
                    go_wp2_with fail
                    refine ((unhide HF) _).mono ?_
                    rintro e w9 ⟨rfl, hb⟩
                    replace HB := hide ((unhide HB).trans (hb.mono (unhide HB).size))
                    clear hb
                    go_wp2_with fail
                    refine ((unhide HA) _).mono ?_
                    rintro e w8 ⟨rfl, hb⟩
                    replace HB := hide ((unhide HB).trans (hb.mono (unhide HB).size))
                    clear hb
                    go_wp2
                    go_roundw
                    case rel => exact ⟨p + 1, _, by omega, rfl, by simp, unhide HS, unhide HE2, unhide HB⟩
                    case measure => simp [intOf]; omega
                  | false =>
                    have z1 : ((⟨#[y]⟩ : ByteArray).size : Int) = 1 := rfl
                    have HE2 : Hid ((o ++ ⟨#[y]⟩).data.toList ++ prt true s.size (p + 1) (s.data.toList.drop (p + 1)) = prt true s.size 0 s.data.toList) := hide (by
                      rw [← unhide HE, pbN, if_pos hq, if_neg (by rw [hR]; simp), data_app, List.append_assoc])
                    have HS : Hid ((o ++ ⟨#[y]⟩).size ≤ 3 * (p + 1)) := hide (by rw [ByteArray.size_append]; omega)
                    generalize (⟨#[y]⟩ : ByteArray) = x at *
                    clear HE ho HX
                    clear hq hR
                    go_wp2_with fail
                    refine ((unhide HF) _).mono ?_
                    rintro e w9 ⟨rfl, hb⟩
                    replace HB := hide ((unhide HB).trans (hb.mono (unhide HB).size))
                    clear hb
                    go_wp2_with fail
                    refine ((unhide HA) _).mono ?_
                    rintro e w8 ⟨rfl, hb⟩
                    replace HB := hide ((unhide HB).trans (hb.mono (unhide HB).size))
                    clear hb
                    go_wp2
                    go_roundw
                    case rel => exact ⟨p + 1, _, by omega, rfl, by simp, unhide HS, unhide HE2, unhide HB⟩
                    case measure => simp [intOf]; omega
            | true =>
              by_cases a1 : (y.toNat : Int) < 32
              · have hq : pln y = false := by unfold pln; simp; omega
                have z1 : ((⟨(hx y).toArray⟩ : ByteArray).size : Int) = 2 := rfl
                have z0 : ((⟨#[92]⟩ : ByteArray).size : Int) = 1 := rfl
                have zz : ((o ++ ⟨#[92]⟩).size : Int) ≤ 3001 := by rw [ByteArray.size_append]; omega
                have HE2 : Hid ((o ++ ⟨#[92]⟩ ++ ⟨(hx y).toArray⟩).data.toList ++ prt true s.size (p + 1) (s.data.toList.drop (p + 1)) = prt true s.size 0 s.data.toList) := hide (by
                  rw [← unhide HE, pbN, if_neg (by rw [hq]; simp), data_app, data_app, List.append_assoc, List.append_assoc]
                  rfl)
                have HS : Hid ((o ++ ⟨#[92]⟩ ++ ⟨(hx y).toArray⟩).size ≤ 3 * (p + 1)) := hide (by rw [ByteArray.size_append, ByteArray.size_append]; omega)
                generalize (⟨(hx y).toArray⟩ : ByteArray) = x at *
                clear HE ho
                clear hq hR HA
                go_wp2_with fail
                refine ((unhide HF) _).mono ?_
                rintro e w9 ⟨rfl, hb⟩
                replace HB := hide ((unhide HB).trans (hb.mono (unhide HB).size))
                clear hb
                go_wp2_with fail
                refine ((unhide HX) _).mono ?_
                rintro e w2 ⟨rfl, hb⟩
                replace HB := hide ((unhide HB).trans (hb.mono (unhide HB).size))
                clear hb HX
                go_wp2
                go_roundw
                case rel => exact ⟨p + 1, _, by omega, rfl, by simp, unhide HS, unhide HE2, unhide HB⟩
                case measure => simp [intOf]; omega
              · by_cases a2 : (126 : Int) < y.toNat
                · have hq : pln y = false := by unfold pln; simp; omega
                  have z1 : ((⟨(hx y).toArray⟩ : ByteArray).size : Int) = 2 := rfl
                  have z0 : ((⟨#[92]⟩ : ByteArray).size : Int) = 1 := rfl
                  have zz : ((o ++ ⟨#[92]⟩).size : Int) ≤ 3001 := by rw [ByteArray.size_append]; omega
                  have HE2 : Hid ((o ++ ⟨#[92]⟩ ++ ⟨(hx y).toArray⟩).data.toList ++ prt true s.size (p + 1) (s.data.toList.drop (p + 1)) = prt true s.size 0 s.data.toList) := hide (by
                    rw [← unhide HE, pbN, if_neg (by rw [hq]; simp), data_app, data_app, List.append_assoc, List.append_assoc]
                    rfl)
                  have HS : Hid ((o ++ ⟨#[92]⟩ ++ ⟨(hx y).toArray⟩).size ≤ 3 * (p + 1)) := hide (by rw [ByteArray.size_append, ByteArray.size_append]; omega)
                  generalize (⟨(hx y).toArray⟩ : ByteArray) = x at *
                  clear HE ho
                  clear hq hR HA
                  go_wp2_with fail
                  refine ((unhide HF) _).mono ?_
                  rintro e w9 ⟨rfl, hb⟩
                  replace HB := hide ((unhide HB).trans (hb.mono (unhide HB).size))
                  clear hb
                  go_wp2_with fail
                  refine ((unhide HX) _).mono ?_
                  rintro e w2 ⟨rfl, hb⟩
                  replace HB := hide ((unhide HB).trans (hb.mono (unhide HB).size))
                  clear hb HX
                  go_wp2
                  go_roundw
                  case rel => exact ⟨p + 1, _, by omega, rfl, by simp, unhide HS, unhide HE2, unhide HB⟩
                  case measure => simp [intOf]; omega
                · have hq : pln y = true := by unfold pln; simp; omega
                  have z1 : ((⟨#[y]⟩ : ByteArray).size : Int) = 1 := rfl
                  have z0 : ((⟨#[92]⟩ : ByteArray).size : Int) = 1 := rfl
                  have zz : ((o ++ ⟨#[92]⟩).size : Int) ≤ 3001 := by rw [ByteArray.size_append]; omega
                  have HE2 : Hid ((o ++ ⟨#[92]⟩ ++ ⟨#[y]⟩).data.toList ++ prt true s.size (p + 1) (s.data.toList.drop (p + 1)) = prt true s.size 0 s.data.toList) := hide (by
                    rw [← unhide HE, pbN, if_pos hq, if_pos (by rw [hR]; simp), data_app, data_app, List.append_assoc, List.append_assoc]
                    rfl)
                  have HS : Hid ((o ++ ⟨#[92]⟩ ++ ⟨#[y]⟩).size ≤ 3 * (p + 1)) := hide (by rw [ByteArray.size_append, ByteArray.size_append]; omega)
                  generalize (⟨#[y]⟩ : ByteArray) = x at *
                  clear HE ho HX
                  clear hq hR HA
                  go_wp2_with fail
                  refine ((unhide HF) _).mono ?_
                  rintro e w9 ⟨rfl, hb⟩
                  replace HB := hide ((unhide HB).trans (hb.mono (unhide HB).size))
                  clear hb
                  go_wp2
                  go_roundw
                  case rel => exact ⟨p + 1, _, by omega, rfl, by simp, unhide HS, unhide HE2, unhide HB⟩
                  case measure => simp [intOf]; omega
        | true =>
          cases b2 with
          | false =>
            by_cases a1 : (y.toNat : Int) < 32
            · have hq : pln y = false := by unfold pln; simp; omega
              have z1 : ((⟨(hx y).toArray⟩ : ByteArray).size : Int) = 2 := rfl
              have z0 : ((⟨#[92]⟩ : ByteArray).size : Int) = 1 := rfl
              have zz : ((o ++ ⟨#[92]⟩).size : Int) ≤ 3001 := by rw [ByteArray.size_append]; omega
              have HE2 : Hid ((o ++ ⟨#[92]⟩ ++ ⟨(hx y).toArray⟩).data.toList ++ prt true s.size (p + 1) (s.data.toList.drop (p + 1)) = prt true s.size 0 s.data.toList) := hide (by
                rw [← unhide HE, pbN, if_neg (by rw [hq]; simp), data_app, data_app, List.append_assoc, List.append_assoc]
                rfl)
              have HS : Hid ((o ++ ⟨#[92]⟩ ++ ⟨(hx y).toArray⟩).size ≤ 3 * (p + 1)) := hide (by rw [ByteArray.size_append, ByteArray.size_append]; omega)
              generalize (⟨(hx y).toArray⟩ : ByteArray) = x at *
              clear HE ho
              clear hq hR HA
              go_wp2_with fail
              refine ((unhide HF) _).mono ?_
              rintro e w9 ⟨rfl, hb⟩
              replace HB := hide ((unhide HB).trans (hb.mono (unhide HB).size))
              clear hb
              go_wp2_with fail
              refine ((unhide HX) _).mono ?_
              rintro e w2 ⟨rfl, hb⟩
              replace HB := hide ((unhide HB).trans (hb.mono (unhide HB).size))
              clear hb HX
              go_wp2
              go_roundw
              case rel => exact ⟨p + 1, _, by omega, rfl, by simp, unhide HS, unhide HE2, unhide HB⟩
              case measure => simp [intOf]; omega
            · by_cases a2 : (126 : Int) < y.toNat
              · have hq : pln y = false := by unfold pln; simp; omega
                have z1 : ((⟨(hx y).toArray⟩ : ByteArray).size : Int) = 2 := rfl
                have z0 : ((⟨#[92]⟩ : ByteArray).size : Int) = 1 := rfl
                have zz : ((o ++ ⟨#[92]⟩).size : Int) ≤ 3001 := by rw [ByteArray.size_append]; omega
                have HE2 : Hid ((o ++ ⟨#[92]⟩ ++ ⟨(hx y).toArray⟩).data.toList ++ prt true s.size (p + 1) (s.data.toList.drop (p + 1)) = prt true s.size 0 s.data.toList) := hide (by
                  rw [← unhide HE, pbN, if_neg (by rw [hq]; simp), data_app, data_app, List.append_assoc, List.append_assoc]
                  rfl)
                have HS : Hid ((o ++ ⟨#[92]⟩ ++ ⟨(hx y).toArray⟩).size ≤ 3 * (p + 1)) := hide (by rw [ByteArray.size_append, ByteArray.size_append]; omega)
                generalize (⟨(hx y).toArray⟩ : ByteArray) = x at *
                clear HE ho
                clear hq hR HA
                go_wp2_with fail
                refine ((unhide HF) _).mono ?_
                rintro e w9 ⟨rfl, hb⟩
                replace HB := hide ((unhide HB).trans (hb.mono (unhide HB).size))
                clear hb
                go_wp2_with fail
                refine ((unhide HX) _).mono ?_
                rintro e w2 ⟨rfl, hb⟩
                replace HB := hide ((unhide HB).trans (hb.mono (unhide HB).size))
                clear hb HX
                go_wp2
                go_roundw
                case rel => exact ⟨p + 1, _, by omega, rfl, by simp, unhide HS, unhide HE2, unhide HB⟩
                case measure => simp [intOf]; omega
              · have hq : pln y = true := by unfold pln; simp; omega
                have z1 : ((⟨#[y]⟩ : ByteArray).size : Int) = 1 := rfl
                have z0 : ((⟨#[92]⟩ : ByteArray).size : Int) = 1 := rfl
                have zz : ((o ++ ⟨#[92]⟩).size : Int) ≤ 3001 := by rw [ByteArray.size_append]; omega
                have HE2 : Hid ((o ++ ⟨#[92]⟩ ++ ⟨#[y]⟩).data.toList ++ prt true s.size (p + 1) (s.data.toList.drop (p + 1)) = prt true s.size 0 s.data.toList) := hide (by
                  rw [← unhide HE, pbN, if_pos hq, if_pos (by rw [hR]; simp), data_app, data_app, List.append_assoc, List.append_assoc]
                  rfl)
                have HS : Hid ((o ++ ⟨#[92]⟩ ++ ⟨#[y]⟩).size ≤ 3 * (p + 1)) := hide (by rw [ByteArray.size_append, ByteArray.size_append]; omega)
                generalize (⟨#[y]⟩ : ByteArray) = x at *
                clear HE ho HX
                clear hq hR HA
                go_wp2_with fail
                refine ((unhide HF) _).mono ?_
                rintro e w9 ⟨rfl, hb⟩
                replace HB := hide ((unhide HB).trans (hb.mono (unhide HB).size))
                clear hb
                go_wp2
                go_roundw
                case rel => exact ⟨p + 1, _, by omega, rfl, by simp, unhide HS, unhide HE2, unhide HB⟩
                case measure => simp [intOf]; omega
          | true =>
            cases e3 with
            | false =>
              by_cases a1 : (y.toNat : Int) < 32
              · have hq : pln y = false := by unfold pln; simp; omega
                have z1 : ((⟨(hx y).toArray⟩ : ByteArray).size : Int) = 2 := rfl
                have z0 : ((⟨#[92]⟩ : ByteArray).size : Int) = 1 := rfl
                have zz : ((o ++ ⟨#[92]⟩).size : Int) ≤ 3001 := by rw [ByteArray.size_append]; omega
                have HE2 : Hid ((o ++ ⟨#[92]⟩ ++ ⟨(hx y).toArray⟩).data.toList ++ prt true s.size (p + 1) (s.data.toList.drop (p + 1)) = prt true s.size 0 s.data.toList) := hide (by
                  rw [← unhide HE, pbN, if_neg (by rw [hq]; simp), data_app, data_app, List.append_assoc, List.append_assoc]
                  rfl)
                have HS : Hid ((o ++ ⟨#[92]⟩ ++ ⟨(hx y).toArray⟩).size ≤ 3 * (p + 1)) := hide (by rw [ByteArray.size_append, ByteArray.size_append]; omega)
                generalize (⟨(hx y).toArray⟩ : ByteArray) = x at *
                clear HE ho
                clear hq hR HA
                go_wp2_with fail
                refine ((unhide HF) _).mono ?_
                rintro e w9 ⟨rfl, hb⟩
                replace HB := hide ((unhide HB).trans (hb.mono (unhide HB).size))
                clear hb
                go_wp2_with fail
                refine ((unhide HX) _).mono ?_
                rintro e w2 ⟨rfl, hb⟩
                replace HB := hide ((unhide HB).trans (hb.mono (unhide HB).size))
                clear hb HX
                go_wp2
                go_roundw
                case rel => exact ⟨p + 1, _, by omega, rfl, by simp, unhide HS, unhide HE2, unhide HB⟩
                case measure => simp [intOf]; omega
              · by_cases a2 : (126 : Int) < y.toNat
                · have hq : pln y = false := by unfold pln; simp; omega
                  have z1 : ((⟨(hx y).toArray⟩ : ByteArray).size : Int) = 2 := rfl
                  have z0 : ((⟨#[92]⟩ : ByteArray).size : Int) = 1 := rfl
                  have zz : ((o ++ ⟨#[92]⟩).size : Int) ≤ 3001 := by rw [ByteArray.size_append]; omega
                  have HE2 : Hid ((o ++ ⟨#[92]⟩ ++ ⟨(hx y).toArray⟩).data.toList ++ prt true s.size (p + 1) (s.data.toList.drop (p + 1)) = prt true s.size 0 s.data.toList) := hide (by
                    rw [← unhide HE, pbN, if_neg (by rw [hq]; simp), data_app, data_app, List.append_assoc, List.append_assoc]
                    rfl)
                  have HS : Hid ((o ++ ⟨#[92]⟩ ++ ⟨(hx y).toArray⟩).size ≤ 3 * (p + 1)) := hide (by rw [ByteArray.size_append, ByteArray.size_append]; omega)
                  generalize (⟨(hx y).toArray⟩ : ByteArray) = x at *
                  clear HE ho
                  clear hq hR HA
                  go_wp2_with fail
                  refine ((unhide HF) _).mono ?_
                  rintro e w9 ⟨rfl, hb⟩
                  replace HB := hide ((unhide HB).trans (hb.mono (unhide HB).size))
                  clear hb
                  go_wp2_with fail
                  refine ((unhide HX) _).mono ?_
                  rintro e w2 ⟨rfl, hb⟩
                  replace HB := hide ((unhide HB).trans (hb.mono (unhide HB).size))
                  clear hb HX
                  go_wp2
                  go_roundw
                  case rel => exact ⟨p + 1, _, by omega, rfl, by simp, unhide HS, unhide HE2, unhide HB⟩
                  case measure => simp [intOf]; omega
                · have hq : pln y = true := by unfold pln; simp; omega
                  have z1 : ((⟨#[y]⟩ : ByteArray).size : Int) = 1 := rfl
                  have z0 : ((⟨#[92]⟩ : ByteArray).size : Int) = 1 := rfl
                  have zz : ((o ++ ⟨#[92]⟩).size : Int) ≤ 3001 := by rw [ByteArray.size_append]; omega
                  have HE2 : Hid ((o ++ ⟨#[92]⟩ ++ ⟨#[y]⟩).data.toList ++ prt true s.size (p + 1) (s.data.toList.drop (p + 1)) = prt true s.size 0 s.data.toList) := hide (by
                    rw [← unhide HE, pbN, if_pos hq, if_pos (by rw [hR]; simp), data_app, data_app, List.append_assoc, List.append_assoc]
                    rfl)
                  have HS : Hid ((o ++ ⟨#[92]⟩ ++ ⟨#[y]⟩).size ≤ 3 * (p + 1)) := hide (by rw [ByteArray.size_append, ByteArray.size_append]; omega)
                  generalize (⟨#[y]⟩ : ByteArray) = x at *
                  clear HE ho HX
                  clear hq hR HA
                  go_wp2_with fail
                  refine ((unhide HF) _).mono ?_
                  rintro e w9 ⟨rfl, hb⟩
                  replace HB := hide ((unhide HB).trans (hb.mono (unhide HB).size))
                  clear hb
                  go_wp2
                  go_roundw
                  case rel => exact ⟨p + 1, _, by omega, rfl, by simp, unhide HS, unhide HE2, unhide HB⟩
                  case measure => simp [intOf]; omega
            | true =>
              by_cases a1 : (y.toNat : Int) < 32
              · have hq : pln y = false := by unfold pln; simp; omega
                have z1 : ((⟨(hx y).toArray⟩ : ByteArray).size : Int) = 2 := rfl
                have z0 : ((⟨#[92]⟩ : ByteArray).size : Int) = 1 := rfl
                have zz : ((o ++ ⟨#[92]⟩).size : Int) ≤ 3001 := by rw [ByteArray.size_append]; omega
                have HE2 : Hid ((o ++ ⟨#[92]⟩ ++ ⟨(hx y).toArray⟩).data.toList ++ prt true s.size (p + 1) (s.data.toList.drop (p + 1)) = prt true s.size 0 s.data.toList) := hide (by
                  rw [← unhide HE, pbN, if_neg (by rw [hq]; simp), data_app, data_app, List.append_assoc, List.append_assoc]
                  rfl)
                have HS : Hid ((o ++ ⟨#[92]⟩ ++ ⟨(hx y).toArray⟩).size ≤ 3 * (p + 1)) := hide (by rw [ByteArray.size_append, ByteArray.size_append]; omega)
                generalize (⟨(hx y).toArray⟩ : ByteArray) = x at *
                clear HE ho
                clear hq hR HA
                go_wp2_with fail
                refine ((unhide HF) _).mono ?_
                rintro e w9 ⟨rfl, hb⟩
                replace HB := hide ((unhide HB).trans (hb.mono (unhide HB).size))
                clear hb
                go_wp2_with fail
                refine ((unhide HX) _).mono ?_
                rintro e w2 ⟨rfl, hb⟩
                replace HB := hide ((unhide HB).trans (hb.mono (unhide HB).size))
                clear hb HX
                go_wp2
                go_roundw
                case rel => exact ⟨p + 1, _, by omega, rfl, by simp, unhide HS, unhide HE2, unhide HB⟩
                case measure => simp [intOf]; omega
              · by_cases a2 : (126 : Int) < y.toNat
                · have hq : pln y = false := by unfold pln; simp; omega
                  have z1 : ((⟨(hx y).toArray⟩ : ByteArray).size : Int) = 2 := rfl
                  have z0 : ((⟨#[92]⟩ : ByteArray).size : Int) = 1 := rfl
                  have zz : ((o ++ ⟨#[92]⟩).size : Int) ≤ 3001 := by rw [ByteArray.size_append]; omega
                  have HE2 : Hid ((o ++ ⟨#[92]⟩ ++ ⟨(hx y).toArray⟩).data.toList ++ prt true s.size (p + 1) (s.data.toList.drop (p + 1)) = prt true s.size 0 s.data.toList) := hide (by
                    rw [← unhide HE, pbN, if_neg (by rw [hq]; simp), data_app, data_app, List.append_assoc, List.append_assoc]
                    rfl)
                  have HS : Hid ((o ++ ⟨#[92]⟩ ++ ⟨(hx y).toArray⟩).size ≤ 3 * (p + 1)) := hide (by rw [ByteArray.size_append, ByteArray.size_append]; omega)
                  generalize (⟨(hx y).toArray⟩ : ByteArray) = x at *
                  clear HE ho
                  clear hq hR HA
                  go_wp2_with fail
                  refine ((unhide HF) _).mono ?_
                  rintro e w9 ⟨rfl, hb⟩
                  replace HB := hide ((unhide HB).trans (hb.mono (unhide HB).size))
                  clear hb
                  go_wp2_with fail
                  refine ((unhide HX) _).mono ?_
                  rintro e w2 ⟨rfl, hb⟩
                  replace HB := hide ((unhide HB).trans (hb.mono (unhide HB).size))
                  clear hb HX
                  go_wp2
                  go_roundw
                  case rel => exact ⟨p + 1, _, by omega, rfl, by simp, unhide HS, unhide HE2, unhide HB⟩
                  case measure => simp [intOf]; omega
                · have hq : pln y = true := by unfold pln; simp; omega
                  have z1 : ((⟨#[y]⟩ : ByteArray).size : Int) = 1 := rfl
                  have z0 : ((⟨#[92]⟩ : ByteArray).size : Int) = 1 := rfl
                  have zz : ((o ++ ⟨#[92]⟩).size : Int) ≤ 3001 := by rw [ByteArray.size_append]; omega
                  have HE2 : Hid ((o ++ ⟨#[92]⟩ ++ ⟨#[y]⟩).data.toList ++ prt true s.size (p + 1) (s.data.toList.drop (p + 1)) = prt true s.size 0 s.data.toList) := hide (by
                    rw [← unhide HE, pbN, if_pos hq, if_pos (by rw [hR]; simp), data_app, data_app, List.append_assoc, List.append_assoc]
                    rfl)
                  have HS : Hid ((o ++ ⟨#[92]⟩ ++ ⟨#[y]⟩).size ≤ 3 * (p + 1)) := hide (by rw [ByteArray.size_append, ByteArray.size_append]; omega)
                  generalize (⟨#[y]⟩ : ByteArray) = x at *
                  clear HE ho HX
                  clear hq hR HA
                  go_wp2_with fail
                  refine ((unhide HF) _).mono ?_
                  rintro e w9 ⟨rfl, hb⟩
                  replace HB := hide ((unhide HB).trans (hb.mono (unhide HB).size))
                  clear hb
                  go_wp2
                  go_roundw
                  case rel => exact ⟨p + 1, _, by omega, rfl, by simp, unhide HS, unhide HE2, unhide HB⟩
                  case measure => simp [intOf]; omega
    · have hge : ¬ (p : Int) < s.size := by omega
      rw [drop_out hlt, prt, List.append_nil] at hE
      have Ho : Hid (o = pri true s) := hide (ByteArray.ext (Array.ext' hE))
      clear hE
      go_wp2
      go_ret
      exact ⟨by rw [← unhide Ho]; rfl, unhide HB⟩
end Go.Proofs.YtgapoofalnakmaaDoor.E
