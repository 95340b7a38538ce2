/-
  What the document's own Print of layer 7 answers. Conditions: none.
-/
import Derived.Test.YthfcnjcpanoldaaGreatDoorDRef3
import Derived.Test.YthfcnjcpanoldaaGreatDoorDShown
import Derived.Test.YthfcnjcpanoldaaGreatDoorEC
namespace Go.Proofs.YthfcnjcpanoldaaGreatDoor.D
open Go Go.RowKit Go.Shelf Dp
attribute [local go_sem] Oper.semAt_some

theorem jn_snoc (c : UInt8) (xs : List (List UInt8)) (x : List UInt8) (h : xs ≠ []) : jn c (xs ++ [x]) = jn c xs ++ c :: x := by rw [jn_app c h (by simp), jn_one]
theorem next0 {P : List UInt8} {S xt pv : ByteArray} {r : Rd} {a : Av} {k : Nat} (hk : k = 0) (h : S.data.toList = P ++ jn 43 ((r.take k).map prA)) (ha : prA a = xt.data.toList ++ 61 :: pv.data.toList) :
    S.data.toList ++ xt.data.toList ++ [61] ++ pv.data.toList = P ++ jn 43 ((r.take k).map prA ++ [prA a]) := by
  subst hk
  rw [h]
  simp [jn_nil, jn_one, ha]
theorem next1 {P : List UInt8} {S xt pv : ByteArray} {r : Rd} {a : Av} {k : Nat} (hk : 0 < k) (hkl : k < r.length) (h : S.data.toList = P ++ jn 43 ((r.take k).map prA)) (ha : prA a = xt.data.toList ++ 61 :: pv.data.toList) :
    S.data.toList ++ [43] ++ xt.data.toList ++ [61] ++ pv.data.toList = P ++ jn 43 ((r.take k).map prA ++ [prA a]) := by
  rw [h, jn_snoc 43 _ _ (fun e => by have := congrArg List.length e; rw [List.length_map, List.length_take] at this; simp only [List.length_nil] at this; omega), ha]
  simp
theorem out0 {S2 : List UInt8} {d : Nm} {i : Nat} {r : Rd} {S : List UInt8} (hi : i = 0) (h : S = jn 44 ((d.take i).map prR)) (h2 : S2 = S ++ prR r) : S2 = jn 44 ((d.take i).map prR ++ [prR r]) := by
  subst hi
  rw [h2, h]
  simp [jn_nil, jn_one]
theorem out1 {S2 : List UInt8} {d : Nm} {i : Nat} {r : Rd} {S : List UInt8} (hi : 0 < i) (hil : i < d.length) (h : S = jn 44 ((d.take i).map prR)) (h2 : S2 = S ++ [44] ++ prR r) : S2 = jn 44 ((d.take i).map prR ++ [prR r]) := by
  rw [jn_snoc 44 _ _ (fun e => by have := congrArg List.length e; rw [List.length_map, List.length_take] at this; simp only [List.length_nil] at this; omega), h2, h]
  simp

set_option linter.unusedSimpArgs false in
set_option maxRecDepth 100000 in
set_option maxHeartbeats 2000000 in
theorem refPrint_any (d : Nm) (v : Value) (w : World) (hR : Nml w v d) (hs : Sm d) :
    Calls Tryz.prog 14 #[v] w fun e w' => e = .returned (.tuple #[.string (pri d).1, .int .i64 (pri d).2]) ∧ Below w.heap.size w w' := by
  have HRi := hide (refRight_any d v w hR hs)
  obtain ⟨ad, cap, rfl, hcap, hx⟩ := hR
  have HX := hide hx
  have hl : (d.length : Int) ≤ 1000 := by have := hs.1; omega
  clear hx hs hcap
  unfold pri
  cases hk : okN d
  · rw [hk] at HRi
    rw [if_neg (by simp)]
    go_enter Tryz.func14, Tryz.ntmps14
    go_wp2_with fail
    refine (unhide HRi).mono ?_
    rintro e w1 ⟨rfl, rfl⟩
    go_wp2
    go_ret2
    exact ⟨rfl, Below.refl _ _⟩
  · rw [hk] at HRi
    rw [if_pos rfl]
    have HK := hide (okN_all hk)
    clear hk
    obtain ⟨t, ht⟩ : ∃ t, pr d = t := ⟨_, rfl⟩
    rw [ht]
    have Ht := hide ht
    clear ht
    go_enter Tryz.func14, Tryz.ntmps14
    go_wp2_with fail
    refine (unhide HRi).mono ?_
    rintro e w1 ⟨rfl, hw1⟩
    subst hw1
    clear HRi
    go_wp2
    go_loopw [4, 5] (fun st y wr => ∃ (i : Nat) (S : ByteArray), i ≤ d.length ∧ st = .string S ∧ y = .int .i64 (i : Int) ∧ Hid (S.data.toList = jn 44 ((d.take i).map prR)) ∧ Hid (Below w1.heap.size w1 wr))
      (fun _ y _ => d.length - (intOf y).toNat)
    case atStart => exact ⟨0, _, Nat.zero_le _, rfl, rfl, hide rfl, hide (Below.refl _ _)⟩
    case round =>
      obtain ⟨i, S, hi, rfl, rfl, hS0, hb⟩ := hrel
      have hsz0 : S.size ≤ 5000 := by
        have h1 := congrArg List.length (unhide hS0)
        have h2 := jn_len 44 606 ((d.take i).map prR) (fun x hx => by
          obtain ⟨a, ha, rfl⟩ := List.mem_map.1 hx
          exact prR_len ((unhide HK).2 a (List.mem_of_mem_take ha)))
        rw [List.length_map, List.length_take] at h2
        rw [Array.length_toList] at h1
        have h3 := (unhide HK).1
        have h5 : S.data.size = S.size := rfl
        have h6 : min i d.length * (606 + 1) ≤ 8 * 607 := Nat.mul_le_mul (by omega) (Nat.le_refl _)
        omega
      by_cases hlt : i < d.length
      · have hlt' : (i : Int) < d.length := by omega
        obtain ⟨gg, off, rfl, hcells⟩ := (unhide HX).resolve_left (fun e => by rw [e] at hlt; cases hlt)
        obtain ⟨u, x0, hru⟩ := hcells i d[i] (List.getElem?_eq_getElem hlt)
        have hrk := (unhide HK).2 d[i] (List.getElem_mem hlt)
        have Hta : Hid ((d.take (i + 1)).map prR = (d.take i).map prR ++ [prR d[i]]) := hide (by rw [List.take_succ_eq_append_getElem hlt, List.map_append]; rfl)
        clear hcells
        generalize d[i] = r at *
        obtain ⟨ua, uc, rfl, _, hrx⟩ := hru
        have HRok : Hid (r.length ≤ 3 ∧ ∀ a ∈ r, okA a = true) := hide (by
          unfold okR at hrk
          simp only [Bool.and_eq_true, decide_eq_true_eq, List.all_eq_true] at hrk
          exact ⟨hrk.1.2, hrk.2⟩)
        have HRX := hide hrx
        have Y0 := hide x0
        clear hrx x0 hrk
        by_cases hi0 : i = 0
        · have hi0' : ¬ (0 : Int) < i := by omega
          have Hi0 := hide hi0
          obtain ⟨P1, hP1⟩ : ∃ P1, P1 = S.data.toList := ⟨_, rfl⟩
          have HP1 : Hid (S.data.toList = P1 ++ jn 43 ((r.take 0).map prA)) := hide (by rw [hP1]; simp [jn_nil])
          have HP1l : Hid (P1.length ≤ 5001) := hide (by rw [hP1, Array.length_toList]; show S.size ≤ 5001; omega)
          have HPd := hide hP1
          clear hP1 hsz0 hi0
          go_wp2
          go_loopw [4, 6] (fun st y V => ∃ (k : Nat) (S2 : ByteArray), k ≤ r.length ∧ st = .string S2 ∧ y = .int .i64 (k : Int) ∧ Hid (S2.data.toList = P1 ++ jn 43 ((r.take k).map prA)) ∧ Hid (Below w1.heap.size w1 V))
            (fun _ y _ => r.length - (intOf y).toNat)
          case atStart => exact ⟨0, _, Nat.zero_le _, rfl, rfl, HP1, hb⟩
          case round =>
            obtain ⟨k, S2, hk, rfl, rfl, hS2, hb3⟩ := hrel
            rename World => V
            have y1 : V.cell? ⟨gg, off + i, none⟩ = some (.slice ua r.length uc) := below_cell (unhide hb3) _ _ (unhide Y0)
            have hsz2 : S2.size ≤ 11000 := by
              have h1 := congrArg List.length (unhide hS2)
              have h2 := jn_len 43 201 ((r.take k).map prA) (fun x hx => by
                obtain ⟨a, ha, rfl⟩ := List.mem_map.1 hx
                exact prA_len ((unhide HRok).2 a (List.mem_of_mem_take ha)))
              rw [List.length_map, List.length_take] at h2
              rw [Array.length_toList, List.length_append] at h1
              have h3 := (unhide HRok).1
              have h4 := unhide HP1l
              have h5 : S2.data.size = S2.size := rfl
              have h6 : min k r.length * (201 + 1) ≤ 3 * 202 := Nat.mul_le_mul (by omega) (Nat.le_refl _)
              omega
            by_cases hkl : k < r.length
            · have hkl' : (k : Int) < r.length := by omega
              obtain ⟨g2, off2, rfl, hc2⟩ := (unhide HRX).resolve_left (fun e => by rw [e] at hkl; cases hkl)
              obtain ⟨a0, a1⟩ := hc2 k r[k] (List.getElem?_eq_getElem hkl)
              have z0 := below_cell (unhide hb3) _ _ a0
              have z1 := below_cell (unhide hb3) _ _ a1
              have hoa := okA_size ((unhide HRok).2 r[k] (List.getElem_mem hkl))
              have Htr : Hid ((r.take (k + 1)).map prA = (r.take k).map prA ++ [prA r[k]]) := hide (by rw [List.take_succ_eq_append_getElem hkl, List.map_append]; rfl)
              clear a0 a1 hc2
              generalize r[k] = x at *
              obtain ⟨xt, xv⟩ := x
              dsimp only at z0 z1 hoa
              have H := hide fun W => E.refName_any xv W (by omega)
              have hpe : prA (xt, xv) = xt.data.toList ++ 61 :: (E.pri true xv).data.toList := rfl
              have hpz := (E.pri_size true xv).2
              generalize E.pri true xv = pv at *
              have hkz : (k : Int) ≤ 1000 := by have := (unhide HRok).1; omega
              by_cases hk0 : k = 0
              · have hk0' : ¬ (0 : Int) < k := by omega
                have Hk0 := hide hk0
                obtain ⟨S3, hS3⟩ : ∃ S3, S3 = S2 := ⟨_, rfl⟩
                have Hnx : Hid ((S3 ++ xt ++ ⟨#[61]⟩ ++ pv : ByteArray).data.toList = P1 ++ jn 43 ((r.take (k + 1)).map prA)) := hide (by
                  rw [unhide Htr, E.data_app, E.data_app, E.data_app, hS3]
                  exact next0 hk0 (unhide hS2) hpe)
                have Hs1 : Hid (S3.size + xt.size ≤ 9223372036854775807) := hide (by rw [hS3]; omega)
                have Hs2 : Hid (S3.size + xt.size ≤ 9223372036854775806) := hide (by rw [hS3]; omega)
                have Hs3 : Hid (S3.size + xt.size + 1 + pv.size ≤ 9223372036854775807) := hide (by rw [hS3]; omega)
                rw [← hS3]
                clear hpe hpz hoa hk0 hS3 hS2 hsz2 Htr
                go_wp2
                refine wp_region_held (S := fun w' => w'.cell? ⟨gg, off + i, none⟩ = some (.slice (some ⟨g2, off2, none⟩) r.length uc) ∧ w'.cell? ⟨g2, off2 + k * 2, none⟩ = some (.string xt) ∧ w'.cell? ⟨g2, off2 + k * 2 + 1, none⟩ = some (.string xv)) (by kernel_rfl) ?_
                change wpAnyH _ _ _ _ _ 24 #[false, false, false, false, false, false, false, false, false, false, false, false, false, false, false, false, false, false, false, false, false, false, false, false] _ V.drew
                have hS : V.drew.cell? ⟨gg, off + i, none⟩ = some (.slice (some ⟨g2, off2, none⟩) r.length uc) ∧ V.drew.cell? ⟨g2, off2 + k * 2, none⟩ = some (.string xt) ∧ V.drew.cell? ⟨g2, off2 + k * 2 + 1, none⟩ = some (.string xv) := ⟨y1, z0, z1⟩
                refine wpAnyH_take (i := 0) (v := .string S3) rfl (by kernel_rfl) (by kernel_rfl) (by kernel_rfl) (fun _ _ _ h => h) (Or.inl ⟨by kernel_rfl, by intro w1 hS1; obtain ⟨s0, s1, s2⟩ := hS1; go_simp; try rfl⟩) hS ?_
                simp only [Act.put, List.setIfInBounds_toArray, List.set_cons_zero, List.set_cons_succ, List.getElem_toArray, List.getElem_cons_zero, List.getElem_cons_succ]
                refine wpAnyH_take (i := 1) (v := .slice (some ⟨gg, off, none⟩) d.length cap) rfl (by kernel_rfl) (by kernel_rfl) (by kernel_rfl) (fun _ _ _ h => h) (Or.inl ⟨by kernel_rfl, by intro w1 hS1; obtain ⟨s0, s1, s2⟩ := hS1; go_simp; try rfl⟩) hS ?_
                simp only [Act.put, List.setIfInBounds_toArray, List.set_cons_zero, List.set_cons_succ, List.getElem_toArray, List.getElem_cons_zero, List.getElem_cons_succ]
                refine wpAnyH_take (i := 2) (v := .int .i64 (i : Int)) rfl (by kernel_rfl) (by kernel_rfl) (by kernel_rfl) (fun _ _ _ h => h) (Or.inl ⟨by kernel_rfl, by intro w1 hS1; obtain ⟨s0, s1, s2⟩ := hS1; go_simp; try rfl⟩) hS ?_
                simp only [Act.put, List.setIfInBounds_toArray, List.set_cons_zero, List.set_cons_succ, List.getElem_toArray, List.getElem_cons_zero, List.getElem_cons_succ]
                refine wpAnyH_take (i := 3) (v := .pointer (some ⟨gg, off + i, none⟩)) rfl (by kernel_rfl) (by kernel_rfl) (by kernel_rfl) (fun _ _ _ h => h) (Or.inl ⟨by kernel_rfl, by intro w1 hS1; obtain ⟨s0, s1, s2⟩ := hS1; go_simp; try rfl⟩) hS ?_
                simp only [Act.put, List.setIfInBounds_toArray, List.set_cons_zero, List.set_cons_succ, List.getElem_toArray, List.getElem_cons_zero, List.getElem_cons_succ]
                refine wpAnyH_take (i := 4) (v := .pointer (some ⟨gg, off + i, none⟩)) rfl (by kernel_rfl) (by kernel_rfl) (by kernel_rfl) (fun _ _ _ h => h) (Or.inl ⟨by kernel_rfl, by intro w1 hS1; obtain ⟨s0, s1, s2⟩ := hS1; go_simp; try rfl⟩) hS ?_
                simp only [Act.put, List.setIfInBounds_toArray, List.set_cons_zero, List.set_cons_succ, List.getElem_toArray, List.getElem_cons_zero, List.getElem_cons_succ]
                refine wpAnyH_take (i := 5) (v := .slice (some ⟨g2, off2, none⟩) r.length uc) rfl (by kernel_rfl) (by kernel_rfl) (by kernel_rfl) (fun _ _ _ h => h) (Or.inl ⟨by kernel_rfl, by intro w1 hS1; obtain ⟨s0, s1, s2⟩ := hS1; go_simp; try rfl⟩) hS ?_
                simp only [Act.put, List.setIfInBounds_toArray, List.set_cons_zero, List.set_cons_succ, List.getElem_toArray, List.getElem_cons_zero, List.getElem_cons_succ]
                refine wpAnyH_take (i := 6) (v := .int .i64 (k : Int)) rfl (by kernel_rfl) (by kernel_rfl) (by kernel_rfl) (fun _ _ _ h => h) (Or.inl ⟨by kernel_rfl, by intro w1 hS1; obtain ⟨s0, s1, s2⟩ := hS1; go_simp; try rfl⟩) hS ?_
                simp only [Act.put, List.setIfInBounds_toArray, List.set_cons_zero, List.set_cons_succ, List.getElem_toArray, List.getElem_cons_zero, List.getElem_cons_succ]
                refine wpAnyH_take (i := 7) (v := .pointer (some ⟨g2, off2 + k * 2, none⟩)) rfl (by kernel_rfl) (by kernel_rfl) (by kernel_rfl) (fun _ _ _ h => h) (Or.inl ⟨by kernel_rfl, by intro w1 hS1; obtain ⟨s0, s1, s2⟩ := hS1; go_simp; try rfl⟩) hS ?_
                simp only [Act.put, List.setIfInBounds_toArray, List.set_cons_zero, List.set_cons_succ, List.getElem_toArray, List.getElem_cons_zero, List.getElem_cons_succ]
                refine wpAnyH_take (i := 8) (v := .pointer (some ⟨g2, off2 + k * 2, none⟩)) rfl (by kernel_rfl) (by kernel_rfl) (by kernel_rfl) (fun _ _ _ h => h) (Or.inl ⟨by kernel_rfl, by intro w1 hS1; obtain ⟨s0, s1, s2⟩ := hS1; go_simp; try rfl⟩) hS ?_
                simp only [Act.put, List.setIfInBounds_toArray, List.set_cons_zero, List.set_cons_succ, List.getElem_toArray, List.getElem_cons_zero, List.getElem_cons_succ]
                refine wpAnyH_take (i := 9) (v := .string xt) rfl (by kernel_rfl) (by kernel_rfl) (by kernel_rfl) (fun _ _ _ h => h) (Or.inl ⟨by kernel_rfl, by intro w1 hS1; obtain ⟨s0, s1, s2⟩ := hS1; go_simp; try rfl⟩) hS ?_
                simp only [Act.put, List.setIfInBounds_toArray, List.set_cons_zero, List.set_cons_succ, List.getElem_toArray, List.getElem_cons_zero, List.getElem_cons_succ]
                refine wpAnyH_take (i := 10) (v := .string (S3 ++ xt)) rfl (by kernel_rfl) (by kernel_rfl) (by kernel_rfl) (fun _ _ _ h => h) (Or.inl ⟨by kernel_rfl, by intro w1 hS1; obtain ⟨s0, s1, s2⟩ := hS1; go_simp; exact unhide Hs1⟩) hS ?_
                simp only [Act.put, List.setIfInBounds_toArray, List.set_cons_zero, List.set_cons_succ, List.getElem_toArray, List.getElem_cons_zero, List.getElem_cons_succ]
                refine wpAnyH_take (i := 11) (v := .string (S3 ++ xt ++ ⟨#[61]⟩)) rfl (by kernel_rfl) (by kernel_rfl) (by kernel_rfl) (fun _ _ _ h => h) (Or.inl ⟨by kernel_rfl, by intro w1 hS1; obtain ⟨s0, s1, s2⟩ := hS1; go_simp; exact unhide Hs2⟩) hS ?_
                simp only [Act.put, List.setIfInBounds_toArray, List.set_cons_zero, List.set_cons_succ, List.getElem_toArray, List.getElem_cons_zero, List.getElem_cons_succ]
                refine wpAnyH_take (i := 12) (v := .slice (some ⟨gg, off, none⟩) d.length cap) rfl (by kernel_rfl) (by kernel_rfl) (by kernel_rfl) (fun _ _ _ h => h) (Or.inl ⟨by kernel_rfl, by intro w1 hS1; obtain ⟨s0, s1, s2⟩ := hS1; go_simp; try rfl⟩) hS ?_
                simp only [Act.put, List.setIfInBounds_toArray, List.set_cons_zero, List.set_cons_succ, List.getElem_toArray, List.getElem_cons_zero, List.getElem_cons_succ]
                refine wpAnyH_take (i := 13) (v := .int .i64 (i : Int)) rfl (by kernel_rfl) (by kernel_rfl) (by kernel_rfl) (fun _ _ _ h => h) (Or.inl ⟨by kernel_rfl, by intro w1 hS1; obtain ⟨s0, s1, s2⟩ := hS1; go_simp; try rfl⟩) hS ?_
                simp only [Act.put, List.setIfInBounds_toArray, List.set_cons_zero, List.set_cons_succ, List.getElem_toArray, List.getElem_cons_zero, List.getElem_cons_succ]
                refine wpAnyH_take (i := 14) (v := .pointer (some ⟨gg, off + i, none⟩)) rfl (by kernel_rfl) (by kernel_rfl) (by kernel_rfl) (fun _ _ _ h => h) (Or.inl ⟨by kernel_rfl, by intro w1 hS1; obtain ⟨s0, s1, s2⟩ := hS1; go_simp; try rfl⟩) hS ?_
                simp only [Act.put, List.setIfInBounds_toArray, List.set_cons_zero, List.set_cons_succ, List.getElem_toArray, List.getElem_cons_zero, List.getElem_cons_succ]
                refine wpAnyH_take (i := 15) (v := .pointer (some ⟨gg, off + i, none⟩)) rfl (by kernel_rfl) (by kernel_rfl) (by kernel_rfl) (fun _ _ _ h => h) (Or.inl ⟨by kernel_rfl, by intro w1 hS1; obtain ⟨s0, s1, s2⟩ := hS1; go_simp; try rfl⟩) hS ?_
                simp only [Act.put, List.setIfInBounds_toArray, List.set_cons_zero, List.set_cons_succ, List.getElem_toArray, List.getElem_cons_zero, List.getElem_cons_succ]
                refine wpAnyH_take (i := 16) (v := .slice (some ⟨g2, off2, none⟩) r.length uc) rfl (by kernel_rfl) (by kernel_rfl) (by kernel_rfl) (fun _ _ _ h => h) (Or.inl ⟨by kernel_rfl, by intro w1 hS1; obtain ⟨s0, s1, s2⟩ := hS1; go_simp; try rfl⟩) hS ?_
                simp only [Act.put, List.setIfInBounds_toArray, List.set_cons_zero, List.set_cons_succ, List.getElem_toArray, List.getElem_cons_zero, List.getElem_cons_succ]
                refine wpAnyH_take (i := 17) (v := .int .i64 (k : Int)) rfl (by kernel_rfl) (by kernel_rfl) (by kernel_rfl) (fun _ _ _ h => h) (Or.inl ⟨by kernel_rfl, by intro w1 hS1; obtain ⟨s0, s1, s2⟩ := hS1; go_simp; try rfl⟩) hS ?_
                simp only [Act.put, List.setIfInBounds_toArray, List.set_cons_zero, List.set_cons_succ, List.getElem_toArray, List.getElem_cons_zero, List.getElem_cons_succ]
                refine wpAnyH_take (i := 18) (v := .pointer (some ⟨g2, off2 + k * 2, none⟩)) rfl (by kernel_rfl) (by kernel_rfl) (by kernel_rfl) (fun _ _ _ h => h) (Or.inl ⟨by kernel_rfl, by intro w1 hS1; obtain ⟨s0, s1, s2⟩ := hS1; go_simp; try rfl⟩) hS ?_
                simp only [Act.put, List.setIfInBounds_toArray, List.set_cons_zero, List.set_cons_succ, List.getElem_toArray, List.getElem_cons_zero, List.getElem_cons_succ]
                refine wpAnyH_take (i := 19) (v := .pointer (some ⟨g2, off2 + k * 2 + 1, none⟩)) rfl (by kernel_rfl) (by kernel_rfl) (by kernel_rfl) (fun _ _ _ h => h) (Or.inl ⟨by kernel_rfl, by intro w1 hS1; obtain ⟨s0, s1, s2⟩ := hS1; go_simp; try rfl⟩) hS ?_
                simp only [Act.put, List.setIfInBounds_toArray, List.set_cons_zero, List.set_cons_succ, List.getElem_toArray, List.getElem_cons_zero, List.getElem_cons_succ]
                refine wpAnyH_take (i := 20) (v := .string xv) rfl (by kernel_rfl) (by kernel_rfl) (by kernel_rfl) (fun _ _ _ h => h) (Or.inl ⟨by kernel_rfl, by intro w1 hS1; obtain ⟨s0, s1, s2⟩ := hS1; go_simp; try rfl⟩) hS ?_
                simp only [Act.put, List.setIfInBounds_toArray, List.set_cons_zero, List.set_cons_succ, List.getElem_toArray, List.getElem_cons_zero, List.getElem_cons_succ]
                refine wpAnyH_ready (rs := [21]) (by kernel_rfl) (by simp) ?_
                refine AllReadyH.cons rfl (fun K hK => ?_) AllReadyH.nil
                rw [if_pos (by kernel_rfl)]
                go_wp2_with fail
                refine ((unhide H) _).mono ?_
                rintro e w2 ⟨rfl, hb2⟩
                have hS2 : w2.cell? ⟨gg, off + i, none⟩ = some (.slice (some ⟨g2, off2, none⟩) r.length uc) ∧ w2.cell? ⟨g2, off2 + k * 2, none⟩ = some (.string xt) ∧ w2.cell? ⟨g2, off2 + k * 2 + 1, none⟩ = some (.string xv) := ⟨below_cell hb2 _ _ hS.1, below_cell hb2 _ _ hS.2.1, below_cell hb2 _ _ hS.2.2⟩
                have HB2 := hide (step (unhide hb3) (show Below V.heap.size V w2 from ⟨hb2.os, hb2.tape, hb2.output, hb2.size, hb2.block⟩))
                clear hb2 hS H
                go_wp2
                refine hK.out _ _ hS2 (fun _ => ?_)
                clear hK K
                simp only [Act.put, List.setIfInBounds_toArray, List.set_cons_zero, List.set_cons_succ, List.getElem_toArray, List.getElem_cons_zero, List.getElem_cons_succ]
                refine wpAnyH_take (i := 22) (v := .string (S3 ++ xt ++ ⟨#[61]⟩ ++ pv)) rfl (by kernel_rfl) (by kernel_rfl) (by kernel_rfl) (fun _ _ _ h => h) (Or.inl ⟨by kernel_rfl, by intro w1 hS1; obtain ⟨s0, s1, s2⟩ := hS1; go_simp; exact unhide Hs3⟩) hS2 ?_
                simp only [Act.put, List.setIfInBounds_toArray, List.set_cons_zero, List.set_cons_succ, List.getElem_toArray, List.getElem_cons_zero, List.getElem_cons_succ]
                refine wpAnyH_take (i := 23) (v := .string (S3 ++ xt ++ ⟨#[61]⟩ ++ pv)) rfl (by kernel_rfl) (by kernel_rfl) (by kernel_rfl) (fun _ _ _ h => h) (Or.inl ⟨by kernel_rfl, by intro w1 hS1; obtain ⟨s0, s1, s2⟩ := hS1; go_simp; try rfl⟩) hS2 ?_
                simp only [Act.put, List.setIfInBounds_toArray, List.set_cons_zero, List.set_cons_succ, List.getElem_toArray, List.getElem_cons_zero, List.getElem_cons_succ]
                refine wpAnyH_done (by kernel_rfl) ?_ _
                go_wp2
                go_roundw
                case rel => exact ⟨k + 1, _, by omega, rfl, by first | (simp; done) | (simp; omega) | (rw [unhide Hk0]; rfl), Hnx, HB2⟩
                case measure => first | (simp [intOf]; omega) | (have := unhide Hk0; simp [intOf]; omega)
              · have hk0' : (0 : Int) < k := by omega
                have Hk0 := hide hk0
                obtain ⟨S3, hS3⟩ : ∃ S3, S3 = S2 ++ ⟨#[43]⟩ := ⟨_, rfl⟩
                have hz3 : S3.size = S2.size + 1 := by rw [hS3, ByteArray.size_append]; rfl
                have Hnx : Hid ((S3 ++ xt ++ ⟨#[61]⟩ ++ pv : ByteArray).data.toList = P1 ++ jn 43 ((r.take (k + 1)).map prA)) := hide (by
                  rw [unhide Htr, E.data_app, E.data_app, E.data_app, hS3, E.data_app]
                  exact next1 (by have := unhide Hk0; omega) hkl (unhide hS2) hpe)
                have Hs1 : Hid (S3.size + xt.size ≤ 9223372036854775807) := hide (by omega)
                have Hs2 : Hid (S3.size + xt.size ≤ 9223372036854775806) := hide (by omega)
                have Hs3 : Hid (S3.size + xt.size + 1 + pv.size ≤ 9223372036854775807) := hide (by omega)
                have hs9 : S2.size ≤ 9223372036854775806 := by omega
                clear hpe hpz hoa hk0 hS2 hsz2 Htr hz3
                go_wp2
                rw [← hS3]
                clear hS3 hs9
                refine wp_region_held (S := fun w' => w'.cell? ⟨gg, off + i, none⟩ = some (.slice (some ⟨g2, off2, none⟩) r.length uc) ∧ w'.cell? ⟨g2, off2 + k * 2, none⟩ = some (.string xt) ∧ w'.cell? ⟨g2, off2 + k * 2 + 1, none⟩ = some (.string xv)) (by kernel_rfl) ?_
                change wpAnyH _ _ _ _ _ 24 #[false, false, false, false, false, false, false, false, false, false, false, false, false, false, false, false, false, false, false, false, false, false, false, false] _ V.drew
                have hS : V.drew.cell? ⟨gg, off + i, none⟩ = some (.slice (some ⟨g2, off2, none⟩) r.length uc) ∧ V.drew.cell? ⟨g2, off2 + k * 2, none⟩ = some (.string xt) ∧ V.drew.cell? ⟨g2, off2 + k * 2 + 1, none⟩ = some (.string xv) := ⟨y1, z0, z1⟩
                refine wpAnyH_take (i := 0) (v := .string S3) rfl (by kernel_rfl) (by kernel_rfl) (by kernel_rfl) (fun _ _ _ h => h) (Or.inl ⟨by kernel_rfl, by intro w1 hS1; obtain ⟨s0, s1, s2⟩ := hS1; go_simp; try rfl⟩) hS ?_
                simp only [Act.put, List.setIfInBounds_toArray, List.set_cons_zero, List.set_cons_succ, List.getElem_toArray, List.getElem_cons_zero, List.getElem_cons_succ]
                refine wpAnyH_take (i := 1) (v := .slice (some ⟨gg, off, none⟩) d.length cap) rfl (by kernel_rfl) (by kernel_rfl) (by kernel_rfl) (fun _ _ _ h => h) (Or.inl ⟨by kernel_rfl, by intro w1 hS1; obtain ⟨s0, s1, s2⟩ := hS1; go_simp; try rfl⟩) hS ?_
                simp only [Act.put, List.setIfInBounds_toArray, List.set_cons_zero, List.set_cons_succ, List.getElem_toArray, List.getElem_cons_zero, List.getElem_cons_succ]
                refine wpAnyH_take (i := 2) (v := .int .i64 (i : Int)) rfl (by kernel_rfl) (by kernel_rfl) (by kernel_rfl) (fun _ _ _ h => h) (Or.inl ⟨by kernel_rfl, by intro w1 hS1; obtain ⟨s0, s1, s2⟩ := hS1; go_simp; try rfl⟩) hS ?_
                simp only [Act.put, List.setIfInBounds_toArray, List.set_cons_zero, List.set_cons_succ, List.getElem_toArray, List.getElem_cons_zero, List.getElem_cons_succ]
                refine wpAnyH_take (i := 3) (v := .pointer (some ⟨gg, off + i, none⟩)) rfl (by kernel_rfl) (by kernel_rfl) (by kernel_rfl) (fun _ _ _ h => h) (Or.inl ⟨by kernel_rfl, by intro w1 hS1; obtain ⟨s0, s1, s2⟩ := hS1; go_simp; try rfl⟩) hS ?_
                simp only [Act.put, List.setIfInBounds_toArray, List.set_cons_zero, List.set_cons_succ, List.getElem_toArray, List.getElem_cons_zero, List.getElem_cons_succ]
                refine wpAnyH_take (i := 4) (v := .pointer (some ⟨gg, off + i, none⟩)) rfl (by kernel_rfl) (by kernel_rfl) (by kernel_rfl) (fun _ _ _ h => h) (Or.inl ⟨by kernel_rfl, by intro w1 hS1; obtain ⟨s0, s1, s2⟩ := hS1; go_simp; try rfl⟩) hS ?_
                simp only [Act.put, List.setIfInBounds_toArray, List.set_cons_zero, List.set_cons_succ, List.getElem_toArray, List.getElem_cons_zero, List.getElem_cons_succ]
                refine wpAnyH_take (i := 5) (v := .slice (some ⟨g2, off2, none⟩) r.length uc) rfl (by kernel_rfl) (by kernel_rfl) (by kernel_rfl) (fun _ _ _ h => h) (Or.inl ⟨by kernel_rfl, by intro w1 hS1; obtain ⟨s0, s1, s2⟩ := hS1; go_simp; try rfl⟩) hS ?_
                simp only [Act.put, List.setIfInBounds_toArray, List.set_cons_zero, List.set_cons_succ, List.getElem_toArray, List.getElem_cons_zero, List.getElem_cons_succ]
                refine wpAnyH_take (i := 6) (v := .int .i64 (k : Int)) rfl (by kernel_rfl) (by kernel_rfl) (by kernel_rfl) (fun _ _ _ h => h) (Or.inl ⟨by kernel_rfl, by intro w1 hS1; obtain ⟨s0, s1, s2⟩ := hS1; go_simp; try rfl⟩) hS ?_
                simp only [Act.put, List.setIfInBounds_toArray, List.set_cons_zero, List.set_cons_succ, List.getElem_toArray, List.getElem_cons_zero, List.getElem_cons_succ]
                refine wpAnyH_take (i := 7) (v := .pointer (some ⟨g2, off2 + k * 2, none⟩)) rfl (by kernel_rfl) (by kernel_rfl) (by kernel_rfl) (fun _ _ _ h => h) (Or.inl ⟨by kernel_rfl, by intro w1 hS1; obtain ⟨s0, s1, s2⟩ := hS1; go_simp; try rfl⟩) hS ?_
                simp only [Act.put, List.setIfInBounds_toArray, List.set_cons_zero, List.set_cons_succ, List.getElem_toArray, List.getElem_cons_zero, List.getElem_cons_succ]
                refine wpAnyH_take (i := 8) (v := .pointer (some ⟨g2, off2 + k * 2, none⟩)) rfl (by kernel_rfl) (by kernel_rfl) (by kernel_rfl) (fun _ _ _ h => h) (Or.inl ⟨by kernel_rfl, by intro w1 hS1; obtain ⟨s0, s1, s2⟩ := hS1; go_simp; try rfl⟩) hS ?_
                simp only [Act.put, List.setIfInBounds_toArray, List.set_cons_zero, List.set_cons_succ, List.getElem_toArray, List.getElem_cons_zero, List.getElem_cons_succ]
                refine wpAnyH_take (i := 9) (v := .string xt) rfl (by kernel_rfl) (by kernel_rfl) (by kernel_rfl) (fun _ _ _ h => h) (Or.inl ⟨by kernel_rfl, by intro w1 hS1; obtain ⟨s0, s1, s2⟩ := hS1; go_simp; try rfl⟩) hS ?_
                simp only [Act.put, List.setIfInBounds_toArray, List.set_cons_zero, List.set_cons_succ, List.getElem_toArray, List.getElem_cons_zero, List.getElem_cons_succ]
                refine wpAnyH_take (i := 10) (v := .string (S3 ++ xt)) rfl (by kernel_rfl) (by kernel_rfl) (by kernel_rfl) (fun _ _ _ h => h) (Or.inl ⟨by kernel_rfl, by intro w1 hS1; obtain ⟨s0, s1, s2⟩ := hS1; go_simp; exact unhide Hs1⟩) hS ?_
                simp only [Act.put, List.setIfInBounds_toArray, List.set_cons_zero, List.set_cons_succ, List.getElem_toArray, List.getElem_cons_zero, List.getElem_cons_succ]
                refine wpAnyH_take (i := 11) (v := .string (S3 ++ xt ++ ⟨#[61]⟩)) rfl (by kernel_rfl) (by kernel_rfl) (by kernel_rfl) (fun _ _ _ h => h) (Or.inl ⟨by kernel_rfl, by intro w1 hS1; obtain ⟨s0, s1, s2⟩ := hS1; go_simp; exact unhide Hs2⟩) hS ?_
                simp only [Act.put, List.setIfInBounds_toArray, List.set_cons_zero, List.set_cons_succ, List.getElem_toArray, List.getElem_cons_zero, List.getElem_cons_succ]
                refine wpAnyH_take (i := 12) (v := .slice (some ⟨gg, off, none⟩) d.length cap) rfl (by kernel_rfl) (by kernel_rfl) (by kernel_rfl) (fun _ _ _ h => h) (Or.inl ⟨by kernel_rfl, by intro w1 hS1; obtain ⟨s0, s1, s2⟩ := hS1; go_simp; try rfl⟩) hS ?_
                simp only [Act.put, List.setIfInBounds_toArray, List.set_cons_zero, List.set_cons_succ, List.getElem_toArray, List.getElem_cons_zero, List.getElem_cons_succ]
                refine wpAnyH_take (i := 13) (v := .int .i64 (i : Int)) rfl (by kernel_rfl) (by kernel_rfl) (by kernel_rfl) (fun _ _ _ h => h) (Or.inl ⟨by kernel_rfl, by intro w1 hS1; obtain ⟨s0, s1, s2⟩ := hS1; go_simp; try rfl⟩) hS ?_
                simp only [Act.put, List.setIfInBounds_toArray, List.set_cons_zero, List.set_cons_succ, List.getElem_toArray, List.getElem_cons_zero, List.getElem_cons_succ]
                refine wpAnyH_take (i := 14) (v := .pointer (some ⟨gg, off + i, none⟩)) rfl (by kernel_rfl) (by kernel_rfl) (by kernel_rfl) (fun _ _ _ h => h) (Or.inl ⟨by kernel_rfl, by intro w1 hS1; obtain ⟨s0, s1, s2⟩ := hS1; go_simp; try rfl⟩) hS ?_
                simp only [Act.put, List.setIfInBounds_toArray, List.set_cons_zero, List.set_cons_succ, List.getElem_toArray, List.getElem_cons_zero, List.getElem_cons_succ]
                refine wpAnyH_take (i := 15) (v := .pointer (some ⟨gg, off + i, none⟩)) rfl (by kernel_rfl) (by kernel_rfl) (by kernel_rfl) (fun _ _ _ h => h) (Or.inl ⟨by kernel_rfl, by intro w1 hS1; obtain ⟨s0, s1, s2⟩ := hS1; go_simp; try rfl⟩) hS ?_
                simp only [Act.put, List.setIfInBounds_toArray, List.set_cons_zero, List.set_cons_succ, List.getElem_toArray, List.getElem_cons_zero, List.getElem_cons_succ]
                refine wpAnyH_take (i := 16) (v := .slice (some ⟨g2, off2, none⟩) r.length uc) rfl (by kernel_rfl) (by kernel_rfl) (by kernel_rfl) (fun _ _ _ h => h) (Or.inl ⟨by kernel_rfl, by intro w1 hS1; obtain ⟨s0, s1, s2⟩ := hS1; go_simp; try rfl⟩) hS ?_
                simp only [Act.put, List.setIfInBounds_toArray, List.set_cons_zero, List.set_cons_succ, List.getElem_toArray, List.getElem_cons_zero, List.getElem_cons_succ]
                refine wpAnyH_take (i := 17) (v := .int .i64 (k : Int)) rfl (by kernel_rfl) (by kernel_rfl) (by kernel_rfl) (fun _ _ _ h => h) (Or.inl ⟨by kernel_rfl, by intro w1 hS1; obtain ⟨s0, s1, s2⟩ := hS1; go_simp; try rfl⟩) hS ?_
                simp only [Act.put, List.setIfInBounds_toArray, List.set_cons_zero, List.set_cons_succ, List.getElem_toArray, List.getElem_cons_zero, List.getElem_cons_succ]
                refine wpAnyH_take (i := 18) (v := .pointer (some ⟨g2, off2 + k * 2, none⟩)) rfl (by kernel_rfl) (by kernel_rfl) (by kernel_rfl) (fun _ _ _ h => h) (Or.inl ⟨by kernel_rfl, by intro w1 hS1; obtain ⟨s0, s1, s2⟩ := hS1; go_simp; try rfl⟩) hS ?_
                simp only [Act.put, List.setIfInBounds_toArray, List.set_cons_zero, List.set_cons_succ, List.getElem_toArray, List.getElem_cons_zero, List.getElem_cons_succ]
                refine wpAnyH_take (i := 19) (v := .pointer (some ⟨g2, off2 + k * 2 + 1, none⟩)) rfl (by kernel_rfl) (by kernel_rfl) (by kernel_rfl) (fun _ _ _ h => h) (Or.inl ⟨by kernel_rfl, by intro w1 hS1; obtain ⟨s0, s1, s2⟩ := hS1; go_simp; try rfl⟩) hS ?_
                simp only [Act.put, List.setIfInBounds_toArray, List.set_cons_zero, List.set_cons_succ, List.getElem_toArray, List.getElem_cons_zero, List.getElem_cons_succ]
                refine wpAnyH_take (i := 20) (v := .string xv) rfl (by kernel_rfl) (by kernel_rfl) (by kernel_rfl) (fun _ _ _ h => h) (Or.inl ⟨by kernel_rfl, by intro w1 hS1; obtain ⟨s0, s1, s2⟩ := hS1; go_simp; try rfl⟩) hS ?_
                simp only [Act.put, List.setIfInBounds_toArray, List.set_cons_zero, List.set_cons_succ, List.getElem_toArray, List.getElem_cons_zero, List.getElem_cons_succ]
                refine wpAnyH_ready (rs := [21]) (by kernel_rfl) (by simp) ?_
                refine AllReadyH.cons rfl (fun K hK => ?_) AllReadyH.nil
                rw [if_pos (by kernel_rfl)]
                go_wp2_with fail
                refine ((unhide H) _).mono ?_
                rintro e w2 ⟨rfl, hb2⟩
                have hS2 : w2.cell? ⟨gg, off + i, none⟩ = some (.slice (some ⟨g2, off2, none⟩) r.length uc) ∧ w2.cell? ⟨g2, off2 + k * 2, none⟩ = some (.string xt) ∧ w2.cell? ⟨g2, off2 + k * 2 + 1, none⟩ = some (.string xv) := ⟨below_cell hb2 _ _ hS.1, below_cell hb2 _ _ hS.2.1, below_cell hb2 _ _ hS.2.2⟩
                have HB2 := hide (step (unhide hb3) (show Below V.heap.size V w2 from ⟨hb2.os, hb2.tape, hb2.output, hb2.size, hb2.block⟩))
                clear hb2 hS H
                go_wp2
                refine hK.out _ _ hS2 (fun _ => ?_)
                clear hK K
                simp only [Act.put, List.setIfInBounds_toArray, List.set_cons_zero, List.set_cons_succ, List.getElem_toArray, List.getElem_cons_zero, List.getElem_cons_succ]
                refine wpAnyH_take (i := 22) (v := .string (S3 ++ xt ++ ⟨#[61]⟩ ++ pv)) rfl (by kernel_rfl) (by kernel_rfl) (by kernel_rfl) (fun _ _ _ h => h) (Or.inl ⟨by kernel_rfl, by intro w1 hS1; obtain ⟨s0, s1, s2⟩ := hS1; go_simp; exact unhide Hs3⟩) hS2 ?_
                simp only [Act.put, List.setIfInBounds_toArray, List.set_cons_zero, List.set_cons_succ, List.getElem_toArray, List.getElem_cons_zero, List.getElem_cons_succ]
                refine wpAnyH_take (i := 23) (v := .string (S3 ++ xt ++ ⟨#[61]⟩ ++ pv)) rfl (by kernel_rfl) (by kernel_rfl) (by kernel_rfl) (fun _ _ _ h => h) (Or.inl ⟨by kernel_rfl, by intro w1 hS1; obtain ⟨s0, s1, s2⟩ := hS1; go_simp; try rfl⟩) hS2 ?_
                simp only [Act.put, List.setIfInBounds_toArray, List.set_cons_zero, List.set_cons_succ, List.getElem_toArray, List.getElem_cons_zero, List.getElem_cons_succ]
                refine wpAnyH_done (by kernel_rfl) ?_ _
                go_wp2
                go_roundw
                case rel => exact ⟨k + 1, _, by omega, rfl, by first | (simp; done) | (simp; omega) | (rw [unhide Hk0]; rfl), Hnx, HB2⟩
                case measure => first | (simp [intOf]; omega) | (have := unhide Hk0; simp [intOf]; omega)
            · have hkl' : ¬ (k : Int) < r.length := by omega
              have hS2' := unhide hS2
              rw [List.take_of_length_le (by omega)] at hS2'
              have Hnx : Hid (S2.data.toList = jn 44 ((d.take (i + 1)).map prR)) := hide (by rw [unhide Hta]; exact out0 (unhide Hi0) ((unhide HPd).trans (unhide hS0)) hS2')
              clear hS2' hS2 hsz2
              go_wp2
              go_roundw
              case rel => exact ⟨i + 1, _, by omega, rfl, by first | (simp; done) | (simp; omega) | (rw [unhide Hi0]; rfl), Hnx, hb3⟩
              case measure => first | (simp [intOf]; omega) | (have := unhide Hi0; simp [intOf]; omega)
        · have hi0' : (0 : Int) < i := by omega
          have Hi0 := hide hi0
          have hs8 : S.size ≤ 9223372036854775806 := by omega
          obtain ⟨S1, hS1⟩ : ∃ S1, S1 = S ++ ⟨#[44]⟩ := ⟨_, rfl⟩
          obtain ⟨P1, hP1⟩ : ∃ P1, P1 = S1.data.toList := ⟨_, rfl⟩
          have HP1 : Hid (S1.data.toList = P1 ++ jn 43 ((r.take 0).map prA)) := hide (by rw [hP1]; simp [jn_nil])
          have HP1l : Hid (P1.length ≤ 5001) := hide (by rw [hP1, Array.length_toList]; show S1.size ≤ 5001; rw [hS1, ByteArray.size_append]; show S.size + 1 ≤ 5001; omega)
          have HPd : Hid (P1 = S.data.toList ++ [44]) := hide (by rw [hP1, hS1, E.data_app])
          clear hP1 hsz0
          go_wp2
          rw [← hS1]
          rw [show decide (0 < i) = true from decide_eq_true (by omega)]
          clear hS1 hs8 hi0
          go_loopw [4, 6] (fun st y V => ∃ (k : Nat) (S2 : ByteArray), k ≤ r.length ∧ st = .string S2 ∧ y = .int .i64 (k : Int) ∧ Hid (S2.data.toList = P1 ++ jn 43 ((r.take k).map prA)) ∧ Hid (Below w1.heap.size w1 V))
            (fun _ y _ => r.length - (intOf y).toNat)
          case atStart => exact ⟨0, _, Nat.zero_le _, rfl, rfl, HP1, hb⟩
          case round =>
            obtain ⟨k, S2, hk, rfl, rfl, hS2, hb3⟩ := hrel
            rename World => V
            have y1 : V.cell? ⟨gg, off + i, none⟩ = some (.slice ua r.length uc) := below_cell (unhide hb3) _ _ (unhide Y0)
            have hsz2 : S2.size ≤ 11000 := by
              have h1 := congrArg List.length (unhide hS2)
              have h2 := jn_len 43 201 ((r.take k).map prA) (fun x hx => by
                obtain ⟨a, ha, rfl⟩ := List.mem_map.1 hx
                exact prA_len ((unhide HRok).2 a (List.mem_of_mem_take ha)))
              rw [List.length_map, List.length_take] at h2
              rw [Array.length_toList, List.length_append] at h1
              have h3 := (unhide HRok).1
              have h4 := unhide HP1l
              have h5 : S2.data.size = S2.size := rfl
              have h6 : min k r.length * (201 + 1) ≤ 3 * 202 := Nat.mul_le_mul (by omega) (Nat.le_refl _)
              omega
            by_cases hkl : k < r.length
            · have hkl' : (k : Int) < r.length := by omega
              obtain ⟨g2, off2, rfl, hc2⟩ := (unhide HRX).resolve_left (fun e => by rw [e] at hkl; cases hkl)
              obtain ⟨a0, a1⟩ := hc2 k r[k] (List.getElem?_eq_getElem hkl)
              have z0 := below_cell (unhide hb3) _ _ a0
              have z1 := below_cell (unhide hb3) _ _ a1
              have hoa := okA_size ((unhide HRok).2 r[k] (List.getElem_mem hkl))
              have Htr : Hid ((r.take (k + 1)).map prA = (r.take k).map prA ++ [prA r[k]]) := hide (by rw [List.take_succ_eq_append_getElem hkl, List.map_append]; rfl)
              clear a0 a1 hc2
              generalize r[k] = x at *
              obtain ⟨xt, xv⟩ := x
              dsimp only at z0 z1 hoa
              have H := hide fun W => E.refName_any xv W (by omega)
              have hpe : prA (xt, xv) = xt.data.toList ++ 61 :: (E.pri true xv).data.toList := rfl
              have hpz := (E.pri_size true xv).2
              generalize E.pri true xv = pv at *
              have hkz : (k : Int) ≤ 1000 := by have := (unhide HRok).1; omega
              by_cases hk0 : k = 0
              · have hk0' : ¬ (0 : Int) < k := by omega
                have Hk0 := hide hk0
                obtain ⟨S3, hS3⟩ : ∃ S3, S3 = S2 := ⟨_, rfl⟩
                have Hnx : Hid ((S3 ++ xt ++ ⟨#[61]⟩ ++ pv : ByteArray).data.toList = P1 ++ jn 43 ((r.take (k + 1)).map prA)) := hide (by
                  rw [unhide Htr, E.data_app, E.data_app, E.data_app, hS3]
                  exact next0 hk0 (unhide hS2) hpe)
                have Hs1 : Hid (S3.size + xt.size ≤ 9223372036854775807) := hide (by rw [hS3]; omega)
                have Hs2 : Hid (S3.size + xt.size ≤ 9223372036854775806) := hide (by rw [hS3]; omega)
                have Hs3 : Hid (S3.size + xt.size + 1 + pv.size ≤ 9223372036854775807) := hide (by rw [hS3]; omega)
                rw [← hS3]
                clear hpe hpz hoa hk0 hS3 hS2 hsz2 Htr
                go_wp2
                refine wp_region_held (S := fun w' => w'.cell? ⟨gg, off + i, none⟩ = some (.slice (some ⟨g2, off2, none⟩) r.length uc) ∧ w'.cell? ⟨g2, off2 + k * 2, none⟩ = some (.string xt) ∧ w'.cell? ⟨g2, off2 + k * 2 + 1, none⟩ = some (.string xv)) (by kernel_rfl) ?_
                change wpAnyH _ _ _ _ _ 24 #[false, false, false, false, false, false, false, false, false, false, false, false, false, false, false, false, false, false, false, false, false, false, false, false] _ V.drew
                have hS : V.drew.cell? ⟨gg, off + i, none⟩ = some (.slice (some ⟨g2, off2, none⟩) r.length uc) ∧ V.drew.cell? ⟨g2, off2 + k * 2, none⟩ = some (.string xt) ∧ V.drew.cell? ⟨g2, off2 + k * 2 + 1, none⟩ = some (.string xv) := ⟨y1, z0, z1⟩
                refine wpAnyH_take (i := 0) (v := .string S3) rfl (by kernel_rfl) (by kernel_rfl) (by kernel_rfl) (fun _ _ _ h => h) (Or.inl ⟨by kernel_rfl, by intro w1 hS1; obtain ⟨s0, s1, s2⟩ := hS1; go_simp; try rfl⟩) hS ?_
                simp only [Act.put, List.setIfInBounds_toArray, List.set_cons_zero, List.set_cons_succ, List.getElem_toArray, List.getElem_cons_zero, List.getElem_cons_succ]
                refine wpAnyH_take (i := 1) (v := .slice (some ⟨gg, off, none⟩) d.length cap) rfl (by kernel_rfl) (by kernel_rfl) (by kernel_rfl) (fun _ _ _ h => h) (Or.inl ⟨by kernel_rfl, by intro w1 hS1; obtain ⟨s0, s1, s2⟩ := hS1; go_simp; try rfl⟩) hS ?_
                simp only [Act.put, List.setIfInBounds_toArray, List.set_cons_zero, List.set_cons_succ, List.getElem_toArray, List.getElem_cons_zero, List.getElem_cons_succ]
                refine wpAnyH_take (i := 2) (v := .int .i64 (i : Int)) rfl (by kernel_rfl) (by kernel_rfl) (by kernel_rfl) (fun _ _ _ h => h) (Or.inl ⟨by kernel_rfl, by intro w1 hS1; obtain ⟨s0, s1, s2⟩ := hS1; go_simp; try rfl⟩) hS ?_
                simp only [Act.put, List.setIfInBounds_toArray, List.set_cons_zero, List.set_cons_succ, List.getElem_toArray, List.getElem_cons_zero, List.getElem_cons_succ]
                refine wpAnyH_take (i := 3) (v := .pointer (some ⟨gg, off + i, none⟩)) rfl (by kernel_rfl) (by kernel_rfl) (by kernel_rfl) (fun _ _ _ h => h) (Or.inl ⟨by kernel_rfl, by intro w1 hS1; obtain ⟨s0, s1, s2⟩ := hS1; go_simp; try rfl⟩) hS ?_
                simp only [Act.put, List.setIfInBounds_toArray, List.set_cons_zero, List.set_cons_succ, List.getElem_toArray, List.getElem_cons_zero, List.getElem_cons_succ]
                refine wpAnyH_take (i := 4) (v := .pointer (some ⟨gg, off + i, none⟩)) rfl (by kernel_rfl) (by kernel_rfl) (by kernel_rfl) (fun _ _ _ h => h) (Or.inl ⟨by kernel_rfl, by intro w1 hS1; obtain ⟨s0, s1, s2⟩ := hS1; go_simp; try rfl⟩) hS ?_
                simp only [Act.put, List.setIfInBounds_toArray, List.set_cons_zero, List.set_cons_succ, List.getElem_toArray, List.getElem_cons_zero, List.getElem_cons_succ]
                refine wpAnyH_take (i := 5) (v := .slice (some ⟨g2, off2, none⟩) r.length uc) rfl (by kernel_rfl) (by kernel_rfl) (by kernel_rfl) (fun _ _ _ h => h) (Or.inl ⟨by kernel_rfl, by intro w1 hS1; obtain ⟨s0, s1, s2⟩ := hS1; go_simp; try rfl⟩) hS ?_
                simp only [Act.put, List.setIfInBounds_toArray, List.set_cons_zero, List.set_cons_succ, List.getElem_toArray, List.getElem_cons_zero, List.getElem_cons_succ]
                refine wpAnyH_take (i := 6) (v := .int .i64 (k : Int)) rfl (by kernel_rfl) (by kernel_rfl) (by kernel_rfl) (fun _ _ _ h => h) (Or.inl ⟨by kernel_rfl, by intro w1 hS1; obtain ⟨s0, s1, s2⟩ := hS1; go_simp; try rfl⟩) hS ?_
                simp only [Act.put, List.setIfInBounds_toArray, List.set_cons_zero, List.set_cons_succ, List.getElem_toArray, List.getElem_cons_zero, List.getElem_cons_succ]
                refine wpAnyH_take (i := 7) (v := .pointer (some ⟨g2, off2 + k * 2, none⟩)) rfl (by kernel_rfl) (by kernel_rfl) (by kernel_rfl) (fun _ _ _ h => h) (Or.inl ⟨by kernel_rfl, by intro w1 hS1; obtain ⟨s0, s1, s2⟩ := hS1; go_simp; try rfl⟩) hS ?_
                simp only [Act.put, List.setIfInBounds_toArray, List.set_cons_zero, List.set_cons_succ, List.getElem_toArray, List.getElem_cons_zero, List.getElem_cons_succ]
                refine wpAnyH_take (i := 8) (v := .pointer (some ⟨g2, off2 + k * 2, none⟩)) rfl (by kernel_rfl) (by kernel_rfl) (by kernel_rfl) (fun _ _ _ h => h) (Or.inl ⟨by kernel_rfl, by intro w1 hS1; obtain ⟨s0, s1, s2⟩ := hS1; go_simp; try rfl⟩) hS ?_
                simp only [Act.put, List.setIfInBounds_toArray, List.set_cons_zero, List.set_cons_succ, List.getElem_toArray, List.getElem_cons_zero, List.getElem_cons_succ]
                refine wpAnyH_take (i := 9) (v := .string xt) rfl (by kernel_rfl) (by kernel_rfl) (by kernel_rfl) (fun _ _ _ h => h) (Or.inl ⟨by kernel_rfl, by intro w1 hS1; obtain ⟨s0, s1, s2⟩ := hS1; go_simp; try rfl⟩) hS ?_
                simp only [Act.put, List.setIfInBounds_toArray, List.set_cons_zero, List.set_cons_succ, List.getElem_toArray, List.getElem_cons_zero, List.getElem_cons_succ]
                refine wpAnyH_take (i := 10) (v := .string (S3 ++ xt)) rfl (by kernel_rfl) (by kernel_rfl) (by kernel_rfl) (fun _ _ _ h => h) (Or.inl ⟨by kernel_rfl, by intro w1 hS1; obtain ⟨s0, s1, s2⟩ := hS1; go_simp; exact unhide Hs1⟩) hS ?_
                simp only [Act.put, List.setIfInBounds_toArray, List.set_cons_zero, List.set_cons_succ, List.getElem_toArray, List.getElem_cons_zero, List.getElem_cons_succ]
                refine wpAnyH_take (i := 11) (v := .string (S3 ++ xt ++ ⟨#[61]⟩)) rfl (by kernel_rfl) (by kernel_rfl) (by kernel_rfl) (fun _ _ _ h => h) (Or.inl ⟨by kernel_rfl, by intro w1 hS1; obtain ⟨s0, s1, s2⟩ := hS1; go_simp; exact unhide Hs2⟩) hS ?_
                simp only [Act.put, List.setIfInBounds_toArray, List.set_cons_zero, List.set_cons_succ, List.getElem_toArray, List.getElem_cons_zero, List.getElem_cons_succ]
                refine wpAnyH_take (i := 12) (v := .slice (some ⟨gg, off, none⟩) d.length cap) rfl (by kernel_rfl) (by kernel_rfl) (by kernel_rfl) (fun _ _ _ h => h) (Or.inl ⟨by kernel_rfl, by intro w1 hS1; obtain ⟨s0, s1, s2⟩ := hS1; go_simp; try rfl⟩) hS ?_
                simp only [Act.put, List.setIfInBounds_toArray, List.set_cons_zero, List.set_cons_succ, List.getElem_toArray, List.getElem_cons_zero, List.getElem_cons_succ]
                refine wpAnyH_take (i := 13) (v := .int .i64 (i : Int)) rfl (by kernel_rfl) (by kernel_rfl) (by kernel_rfl) (fun _ _ _ h => h) (Or.inl ⟨by kernel_rfl, by intro w1 hS1; obtain ⟨s0, s1, s2⟩ := hS1; go_simp; try rfl⟩) hS ?_
                simp only [Act.put, List.setIfInBounds_toArray, List.set_cons_zero, List.set_cons_succ, List.getElem_toArray, List.getElem_cons_zero, List.getElem_cons_succ]
                refine wpAnyH_take (i := 14) (v := .pointer (some ⟨gg, off + i, none⟩)) rfl (by kernel_rfl) (by kernel_rfl) (by kernel_rfl) (fun _ _ _ h => h) (Or.inl ⟨by kernel_rfl, by intro w1 hS1; obtain ⟨s0, s1, s2⟩ := hS1; go_simp; try rfl⟩) hS ?_
                simp only [Act.put, List.setIfInBounds_toArray, List.set_cons_zero, List.set_cons_succ, List.getElem_toArray, List.getElem_cons_zero, List.getElem_cons_succ]
                refine wpAnyH_take (i := 15) (v := .pointer (some ⟨gg, off + i, none⟩)) rfl (by kernel_rfl) (by kernel_rfl) (by kernel_rfl) (fun _ _ _ h => h) (Or.inl ⟨by kernel_rfl, by intro w1 hS1; obtain ⟨s0, s1, s2⟩ := hS1; go_simp; try rfl⟩) hS ?_
                simp only [Act.put, List.setIfInBounds_toArray, List.set_cons_zero, List.set_cons_succ, List.getElem_toArray, List.getElem_cons_zero, List.getElem_cons_succ]
                refine wpAnyH_take (i := 16) (v := .slice (some ⟨g2, off2, none⟩) r.length uc) rfl (by kernel_rfl) (by kernel_rfl) (by kernel_rfl) (fun _ _ _ h => h) (Or.inl ⟨by kernel_rfl, by intro w1 hS1; obtain ⟨s0, s1, s2⟩ := hS1; go_simp; try rfl⟩) hS ?_
                simp only [Act.put, List.setIfInBounds_toArray, List.set_cons_zero, List.set_cons_succ, List.getElem_toArray, List.getElem_cons_zero, List.getElem_cons_succ]
                refine wpAnyH_take (i := 17) (v := .int .i64 (k : Int)) rfl (by kernel_rfl) (by kernel_rfl) (by kernel_rfl) (fun _ _ _ h => h) (Or.inl ⟨by kernel_rfl, by intro w1 hS1; obtain ⟨s0, s1, s2⟩ := hS1; go_simp; try rfl⟩) hS ?_
                simp only [Act.put, List.setIfInBounds_toArray, List.set_cons_zero, List.set_cons_succ, List.getElem_toArray, List.getElem_cons_zero, List.getElem_cons_succ]
                refine wpAnyH_take (i := 18) (v := .pointer (some ⟨g2, off2 + k * 2, none⟩)) rfl (by kernel_rfl) (by kernel_rfl) (by kernel_rfl) (fun _ _ _ h => h) (Or.inl ⟨by kernel_rfl, by intro w1 hS1; obtain ⟨s0, s1, s2⟩ := hS1; go_simp; try rfl⟩) hS ?_
                simp only [Act.put, List.setIfInBounds_toArray, List.set_cons_zero, List.set_cons_succ, List.getElem_toArray, List.getElem_cons_zero, List.getElem_cons_succ]
                refine wpAnyH_take (i := 19) (v := .pointer (some ⟨g2, off2 + k * 2 + 1, none⟩)) rfl (by kernel_rfl) (by kernel_rfl) (by kernel_rfl) (fun _ _ _ h => h) (Or.inl ⟨by kernel_rfl, by intro w1 hS1; obtain ⟨s0, s1, s2⟩ := hS1; go_simp; try rfl⟩) hS ?_
                simp only [Act.put, List.setIfInBounds_toArray, List.set_cons_zero, List.set_cons_succ, List.getElem_toArray, List.getElem_cons_zero, List.getElem_cons_succ]
                refine wpAnyH_take (i := 20) (v := .string xv) rfl (by kernel_rfl) (by kernel_rfl) (by kernel_rfl) (fun _ _ _ h => h) (Or.inl ⟨by kernel_rfl, by intro w1 hS1; obtain ⟨s0, s1, s2⟩ := hS1; go_simp; try rfl⟩) hS ?_
                simp only [Act.put, List.setIfInBounds_toArray, List.set_cons_zero, List.set_cons_succ, List.getElem_toArray, List.getElem_cons_zero, List.getElem_cons_succ]
                refine wpAnyH_ready (rs := [21]) (by kernel_rfl) (by simp) ?_
                refine AllReadyH.cons rfl (fun K hK => ?_) AllReadyH.nil
                rw [if_pos (by kernel_rfl)]
                go_wp2_with fail
                refine ((unhide H) _).mono ?_
                rintro e w2 ⟨rfl, hb2⟩
                have hS2 : w2.cell? ⟨gg, off + i, none⟩ = some (.slice (some ⟨g2, off2, none⟩) r.length uc) ∧ w2.cell? ⟨g2, off2 + k * 2, none⟩ = some (.string xt) ∧ w2.cell? ⟨g2, off2 + k * 2 + 1, none⟩ = some (.string xv) := ⟨below_cell hb2 _ _ hS.1, below_cell hb2 _ _ hS.2.1, below_cell hb2 _ _ hS.2.2⟩
                have HB2 := hide (step (unhide hb3) (show Below V.heap.size V w2 from ⟨hb2.os, hb2.tape, hb2.output, hb2.size, hb2.block⟩))
                clear hb2 hS H
                go_wp2
                refine hK.out _ _ hS2 (fun _ => ?_)
                clear hK K
                simp only [Act.put, List.setIfInBounds_toArray, List.set_cons_zero, List.set_cons_succ, List.getElem_toArray, List.getElem_cons_zero, List.getElem_cons_succ]
                refine wpAnyH_take (i := 22) (v := .string (S3 ++ xt ++ ⟨#[61]⟩ ++ pv)) rfl (by kernel_rfl) (by kernel_rfl) (by kernel_rfl) (fun _ _ _ h => h) (Or.inl ⟨by kernel_rfl, by intro w1 hS1; obtain ⟨s0, s1, s2⟩ := hS1; go_simp; exact unhide Hs3⟩) hS2 ?_
                simp only [Act.put, List.setIfInBounds_toArray, List.set_cons_zero, List.set_cons_succ, List.getElem_toArray, List.getElem_cons_zero, List.getElem_cons_succ]
                refine wpAnyH_take (i := 23) (v := .string (S3 ++ xt ++ ⟨#[61]⟩ ++ pv)) rfl (by kernel_rfl) (by kernel_rfl) (by kernel_rfl) (fun _ _ _ h => h) (Or.inl ⟨by kernel_rfl, by intro w1 hS1; obtain ⟨s0, s1, s2⟩ := hS1; go_simp; try rfl⟩) hS2 ?_
                simp only [Act.put, List.setIfInBounds_toArray, List.set_cons_zero, List.set_cons_succ, List.getElem_toArray, List.getElem_cons_zero, List.getElem_cons_succ]
                refine wpAnyH_done (by kernel_rfl) ?_ _
                go_wp2
                go_roundw
                case rel => exact ⟨k + 1, _, by omega, rfl, by first | (simp; done) | (simp; omega) | (rw [unhide Hk0]; rfl), Hnx, HB2⟩
                case measure => first | (simp [intOf]; omega) | (have := unhide Hk0; simp [intOf]; omega)
              · have hk0' : (0 : Int) < k := by omega
                have Hk0 := hide hk0
                obtain ⟨S3, hS3⟩ : ∃ S3, S3 = S2 ++ ⟨#[43]⟩ := ⟨_, rfl⟩
                have hz3 : S3.size = S2.size + 1 := by rw [hS3, ByteArray.size_append]; rfl
                have Hnx : Hid ((S3 ++ xt ++ ⟨#[61]⟩ ++ pv : ByteArray).data.toList = P1 ++ jn 43 ((r.take (k + 1)).map prA)) := hide (by
                  rw [unhide Htr, E.data_app, E.data_app, E.data_app, hS3, E.data_app]
                  exact next1 (by have := unhide Hk0; omega) hkl (unhide hS2) hpe)
                have Hs1 : Hid (S3.size + xt.size ≤ 9223372036854775807) := hide (by omega)
                have Hs2 : Hid (S3.size + xt.size ≤ 9223372036854775806) := hide (by omega)
                have Hs3 : Hid (S3.size + xt.size + 1 + pv.size ≤ 9223372036854775807) := hide (by omega)
                have hs9 : S2.size ≤ 9223372036854775806 := by omega
                clear hpe hpz hoa hk0 hS2 hsz2 Htr hz3
                go_wp2
                rw [← hS3]
                clear hS3 hs9
                refine wp_region_held (S := fun w' => w'.cell? ⟨gg, off + i, none⟩ = some (.slice (some ⟨g2, off2, none⟩) r.length uc) ∧ w'.cell? ⟨g2, off2 + k * 2, none⟩ = some (.string xt) ∧ w'.cell? ⟨g2, off2 + k * 2 + 1, none⟩ = some (.string xv)) (by kernel_rfl) ?_
                change wpAnyH _ _ _ _ _ 24 #[false, false, false, false, false, false, false, false, false, false, false, false, false, false, false, false, false, false, false, false, false, false, false, false] _ V.drew
                have hS : V.drew.cell? ⟨gg, off + i, none⟩ = some (.slice (some ⟨g2, off2, none⟩) r.length uc) ∧ V.drew.cell? ⟨g2, off2 + k * 2, none⟩ = some (.string xt) ∧ V.drew.cell? ⟨g2, off2 + k * 2 + 1, none⟩ = some (.string xv) := ⟨y1, z0, z1⟩
                refine wpAnyH_take (i := 0) (v := .string S3) rfl (by kernel_rfl) (by kernel_rfl) (by kernel_rfl) (fun _ _ _ h => h) (Or.inl ⟨by kernel_rfl, by intro w1 hS1; obtain ⟨s0, s1, s2⟩ := hS1; go_simp; try rfl⟩) hS ?_
                simp only [Act.put, List.setIfInBounds_toArray, List.set_cons_zero, List.set_cons_succ, List.getElem_toArray, List.getElem_cons_zero, List.getElem_cons_succ]
                refine wpAnyH_take (i := 1) (v := .slice (some ⟨gg, off, none⟩) d.length cap) rfl (by kernel_rfl) (by kernel_rfl) (by kernel_rfl) (fun _ _ _ h => h) (Or.inl ⟨by kernel_rfl, by intro w1 hS1; obtain ⟨s0, s1, s2⟩ := hS1; go_simp; try rfl⟩) hS ?_
                simp only [Act.put, List.setIfInBounds_toArray, List.set_cons_zero, List.set_cons_succ, List.getElem_toArray, List.getElem_cons_zero, List.getElem_cons_succ]
                refine wpAnyH_take (i := 2) (v := .int .i64 (i : Int)) rfl (by kernel_rfl) (by kernel_rfl) (by kernel_rfl) (fun _ _ _ h => h) (Or.inl ⟨by kernel_rfl, by intro w1 hS1; obtain ⟨s0, s1, s2⟩ := hS1; go_simp; try rfl⟩) hS ?_
                simp only [Act.put, List.setIfInBounds_toArray, List.set_cons_zero, List.set_cons_succ, List.getElem_toArray, List.getElem_cons_zero, List.getElem_cons_succ]
                refine wpAnyH_take (i := 3) (v := .pointer (some ⟨gg, off + i, none⟩)) rfl (by kernel_rfl) (by kernel_rfl) (by kernel_rfl) (fun _ _ _ h => h) (Or.inl ⟨by kernel_rfl, by intro w1 hS1; obtain ⟨s0, s1, s2⟩ := hS1; go_simp; try rfl⟩) hS ?_
                simp only [Act.put, List.setIfInBounds_toArray, List.set_cons_zero, List.set_cons_succ, List.getElem_toArray, List.getElem_cons_zero, List.getElem_cons_succ]
                refine wpAnyH_take (i := 4) (v := .pointer (some ⟨gg, off + i, none⟩)) rfl (by kernel_rfl) (by kernel_rfl) (by kernel_rfl) (fun _ _ _ h => h) (Or.inl ⟨by kernel_rfl, by intro w1 hS1; obtain ⟨s0, s1, s2⟩ := hS1; go_simp; try rfl⟩) hS ?_
                simp only [Act.put, List.setIfInBounds_toArray, List.set_cons_zero, List.set_cons_succ, List.getElem_toArray, List.getElem_cons_zero, List.getElem_cons_succ]
                refine wpAnyH_take (i := 5) (v := .slice (some ⟨g2, off2, none⟩) r.length uc) rfl (by kernel_rfl) (by kernel_rfl) (by kernel_rfl) (fun _ _ _ h => h) (Or.inl ⟨by kernel_rfl, by intro w1 hS1; obtain ⟨s0, s1, s2⟩ := hS1; go_simp; try rfl⟩) hS ?_
                simp only [Act.put, List.setIfInBounds_toArray, List.set_cons_zero, List.set_cons_succ, List.getElem_toArray, List.getElem_cons_zero, List.getElem_cons_succ]
                refine wpAnyH_take (i := 6) (v := .int .i64 (k : Int)) rfl (by kernel_rfl) (by kernel_rfl) (by kernel_rfl) (fun _ _ _ h => h) (Or.inl ⟨by kernel_rfl, by intro w1 hS1; obtain ⟨s0, s1, s2⟩ := hS1; go_simp; try rfl⟩) hS ?_
                simp only [Act.put, List.setIfInBounds_toArray, List.set_cons_zero, List.set_cons_succ, List.getElem_toArray, List.getElem_cons_zero, List.getElem_cons_succ]
                refine wpAnyH_take (i := 7) (v := .pointer (some ⟨g2, off2 + k * 2, none⟩)) rfl (by kernel_rfl) (by kernel_rfl) (by kernel_rfl) (fun _ _ _ h => h) (Or.inl ⟨by kernel_rfl, by intro w1 hS1; obtain ⟨s0, s1, s2⟩ := hS1; go_simp; try rfl⟩) hS ?_
                simp only [Act.put, List.setIfInBounds_toArray, List.set_cons_zero, List.set_cons_succ, List.getElem_toArray, List.getElem_cons_zero, List.getElem_cons_succ]
                refine wpAnyH_take (i := 8) (v := .pointer (some ⟨g2, off2 + k * 2, none⟩)) rfl (by kernel_rfl) (by kernel_rfl) (by kernel_rfl) (fun _ _ _ h => h) (Or.inl ⟨by kernel_rfl, by intro w1 hS1; obtain ⟨s0, s1, s2⟩ := hS1; go_simp; try rfl⟩) hS ?_
                simp only [Act.put, List.setIfInBounds_toArray, List.set_cons_zero, List.set_cons_succ, List.getElem_toArray, List.getElem_cons_zero, List.getElem_cons_succ]
                refine wpAnyH_take (i := 9) (v := .string xt) rfl (by kernel_rfl) (by kernel_rfl) (by kernel_rfl) (fun _ _ _ h => h) (Or.inl ⟨by kernel_rfl, by intro w1 hS1; obtain ⟨s0, s1, s2⟩ := hS1; go_simp; try rfl⟩) hS ?_
                simp only [Act.put, List.setIfInBounds_toArray, List.set_cons_zero, List.set_cons_succ, List.getElem_toArray, List.getElem_cons_zero, List.getElem_cons_succ]
                refine wpAnyH_take (i := 10) (v := .string (S3 ++ xt)) rfl (by kernel_rfl) (by kernel_rfl) (by kernel_rfl) (fun _ _ _ h => h) (Or.inl ⟨by kernel_rfl, by intro w1 hS1; obtain ⟨s0, s1, s2⟩ := hS1; go_simp; exact unhide Hs1⟩) hS ?_
                simp only [Act.put, List.setIfInBounds_toArray, List.set_cons_zero, List.set_cons_succ, List.getElem_toArray, List.getElem_cons_zero, List.getElem_cons_succ]
                refine wpAnyH_take (i := 11) (v := .string (S3 ++ xt ++ ⟨#[61]⟩)) rfl (by kernel_rfl) (by kernel_rfl) (by kernel_rfl) (fun _ _ _ h => h) (Or.inl ⟨by kernel_rfl, by intro w1 hS1; obtain ⟨s0, s1, s2⟩ := hS1; go_simp; exact unhide Hs2⟩) hS ?_
                simp only [Act.put, List.setIfInBounds_toArray, List.set_cons_zero, List.set_cons_succ, List.getElem_toArray, List.getElem_cons_zero, List.getElem_cons_succ]
                refine wpAnyH_take (i := 12) (v := .slice (some ⟨gg, off, none⟩) d.length cap) rfl (by kernel_rfl) (by kernel_rfl) (by kernel_rfl) (fun _ _ _ h => h) (Or.inl ⟨by kernel_rfl, by intro w1 hS1; obtain ⟨s0, s1, s2⟩ := hS1; go_simp; try rfl⟩) hS ?_
                simp only [Act.put, List.setIfInBounds_toArray, List.set_cons_zero, List.set_cons_succ, List.getElem_toArray, List.getElem_cons_zero, List.getElem_cons_succ]
                refine wpAnyH_take (i := 13) (v := .int .i64 (i : Int)) rfl (by kernel_rfl) (by kernel_rfl) (by kernel_rfl) (fun _ _ _ h => h) (Or.inl ⟨by kernel_rfl, by intro w1 hS1; obtain ⟨s0, s1, s2⟩ := hS1; go_simp; try rfl⟩) hS ?_
                simp only [Act.put, List.setIfInBounds_toArray, List.set_cons_zero, List.set_cons_succ, List.getElem_toArray, List.getElem_cons_zero, List.getElem_cons_succ]
                refine wpAnyH_take (i := 14) (v := .pointer (some ⟨gg, off + i, none⟩)) rfl (by kernel_rfl) (by kernel_rfl) (by kernel_rfl) (fun _ _ _ h => h) (Or.inl ⟨by kernel_rfl, by intro w1 hS1; obtain ⟨s0, s1, s2⟩ := hS1; go_simp; try rfl⟩) hS ?_
                simp only [Act.put, List.setIfInBounds_toArray, List.set_cons_zero, List.set_cons_succ, List.getElem_toArray, List.getElem_cons_zero, List.getElem_cons_succ]
                refine wpAnyH_take (i := 15) (v := .pointer (some ⟨gg, off + i, none⟩)) rfl (by kernel_rfl) (by kernel_rfl) (by kernel_rfl) (fun _ _ _ h => h) (Or.inl ⟨by kernel_rfl, by intro w1 hS1; obtain ⟨s0, s1, s2⟩ := hS1; go_simp; try rfl⟩) hS ?_
                simp only [Act.put, List.setIfInBounds_toArray, List.set_cons_zero, List.set_cons_succ, List.getElem_toArray, List.getElem_cons_zero, List.getElem_cons_succ]
                refine wpAnyH_take (i := 16) (v := .slice (some ⟨g2, off2, none⟩) r.length uc) rfl (by kernel_rfl) (by kernel_rfl) (by kernel_rfl) (fun _ _ _ h => h) (Or.inl ⟨by kernel_rfl, by intro w1 hS1; obtain ⟨s0, s1, s2⟩ := hS1; go_simp; try rfl⟩) hS ?_
                simp only [Act.put, List.setIfInBounds_toArray, List.set_cons_zero, List.set_cons_succ, List.getElem_toArray, List.getElem_cons_zero, List.getElem_cons_succ]
                refine wpAnyH_take (i := 17) (v := .int .i64 (k : Int)) rfl (by kernel_rfl) (by kernel_rfl) (by kernel_rfl) (fun _ _ _ h => h) (Or.inl ⟨by kernel_rfl, by intro w1 hS1; obtain ⟨s0, s1, s2⟩ := hS1; go_simp; try rfl⟩) hS ?_
                simp only [Act.put, List.setIfInBounds_toArray, List.set_cons_zero, List.set_cons_succ, List.getElem_toArray, List.getElem_cons_zero, List.getElem_cons_succ]
                refine wpAnyH_take (i := 18) (v := .pointer (some ⟨g2, off2 + k * 2, none⟩)) rfl (by kernel_rfl) (by kernel_rfl) (by kernel_rfl) (fun _ _ _ h => h) (Or.inl ⟨by kernel_rfl, by intro w1 hS1; obtain ⟨s0, s1, s2⟩ := hS1; go_simp; try rfl⟩) hS ?_
                simp only [Act.put, List.setIfInBounds_toArray, List.set_cons_zero, List.set_cons_succ, List.getElem_toArray, List.getElem_cons_zero, List.getElem_cons_succ]
                refine wpAnyH_take (i := 19) (v := .pointer (some ⟨g2, off2 + k * 2 + 1, none⟩)) rfl (by kernel_rfl) (by kernel_rfl) (by kernel_rfl) (fun _ _ _ h => h) (Or.inl ⟨by kernel_rfl, by intro w1 hS1; obtain ⟨s0, s1, s2⟩ := hS1; go_simp; try rfl⟩) hS ?_
                simp only [Act.put, List.setIfInBounds_toArray, List.set_cons_zero, List.set_cons_succ, List.getElem_toArray, List.getElem_cons_zero, List.getElem_cons_succ]
                refine wpAnyH_take (i := 20) (v := .string xv) rfl (by kernel_rfl) (by kernel_rfl) (by kernel_rfl) (fun _ _ _ h => h) (Or.inl ⟨by kernel_rfl, by intro w1 hS1; obtain ⟨s0, s1, s2⟩ := hS1; go_simp; try rfl⟩) hS ?_
                simp only [Act.put, List.setIfInBounds_toArray, List.set_cons_zero, List.set_cons_succ, List.getElem_toArray, List.getElem_cons_zero, List.getElem_cons_succ]
                refine wpAnyH_ready (rs := [21]) (by kernel_rfl) (by simp) ?_
                refine AllReadyH.cons rfl (fun K hK => ?_) AllReadyH.nil
                rw [if_pos (by kernel_rfl)]
                go_wp2_with fail
                refine ((unhide H) _).mono ?_
                rintro e w2 ⟨rfl, hb2⟩
                have hS2 : w2.cell? ⟨gg, off + i, none⟩ = some (.slice (some ⟨g2, off2, none⟩) r.length uc) ∧ w2.cell? ⟨g2, off2 + k * 2, none⟩ = some (.string xt) ∧ w2.cell? ⟨g2, off2 + k * 2 + 1, none⟩ = some (.string xv) := ⟨below_cell hb2 _ _ hS.1, below_cell hb2 _ _ hS.2.1, below_cell hb2 _ _ hS.2.2⟩
                have HB2 := hide (step (unhide hb3) (show Below V.heap.size V w2 from ⟨hb2.os, hb2.tape, hb2.output, hb2.size, hb2.block⟩))
                clear hb2 hS H
                go_wp2
                refine hK.out _ _ hS2 (fun _ => ?_)
                clear hK K
                simp only [Act.put, List.setIfInBounds_toArray, List.set_cons_zero, List.set_cons_succ, List.getElem_toArray, List.getElem_cons_zero, List.getElem_cons_succ]
                refine wpAnyH_take (i := 22) (v := .string (S3 ++ xt ++ ⟨#[61]⟩ ++ pv)) rfl (by kernel_rfl) (by kernel_rfl) (by kernel_rfl) (fun _ _ _ h => h) (Or.inl ⟨by kernel_rfl, by intro w1 hS1; obtain ⟨s0, s1, s2⟩ := hS1; go_simp; exact unhide Hs3⟩) hS2 ?_
                simp only [Act.put, List.setIfInBounds_toArray, List.set_cons_zero, List.set_cons_succ, List.getElem_toArray, List.getElem_cons_zero, List.getElem_cons_succ]
                refine wpAnyH_take (i := 23) (v := .string (S3 ++ xt ++ ⟨#[61]⟩ ++ pv)) rfl (by kernel_rfl) (by kernel_rfl) (by kernel_rfl) (fun _ _ _ h => h) (Or.inl ⟨by kernel_rfl, by intro w1 hS1; obtain ⟨s0, s1, s2⟩ := hS1; go_simp; try rfl⟩) hS2 ?_
                simp only [Act.put, List.setIfInBounds_toArray, List.set_cons_zero, List.set_cons_succ, List.getElem_toArray, List.getElem_cons_zero, List.getElem_cons_succ]
                refine wpAnyH_done (by kernel_rfl) ?_ _
                go_wp2
                go_roundw
                case rel => exact ⟨k + 1, _, by omega, rfl, by first | (simp; done) | (simp; omega) | (rw [unhide Hk0]; rfl), Hnx, HB2⟩
                case measure => first | (simp [intOf]; omega) | (have := unhide Hk0; simp [intOf]; omega)
            · have hkl' : ¬ (k : Int) < r.length := by omega
              have hS2' := unhide hS2
              rw [List.take_of_length_le (by omega)] at hS2'
              have Hnx : Hid (S2.data.toList = jn 44 ((d.take (i + 1)).map prR)) := hide (by rw [unhide Hta]; exact out1 (by have := unhide Hi0; omega) hlt (unhide hS0) (by rw [hS2', unhide HPd]; rfl))
              clear hS2' hS2 hsz2
              go_wp2
              go_roundw
              case rel => exact ⟨i + 1, _, by omega, rfl, by first | (simp; done) | (simp; omega) | (rw [unhide Hi0]; rfl), Hnx, hb3⟩
              case measure => first | (simp [intOf]; omega) | (have := unhide Hi0; simp [intOf]; omega)
      · have hge : ¬ (i : Int) < d.length := by omega
        have hfin : S = t := by
          refine ByteArray.ext (Array.ext' ?_)
          rw [unhide hS0, List.take_of_length_le (by omega), ← unhide Ht]
          rfl
        subst hfin
        clear hS0 HX
        go_wp2
        go_ret2
        exact ⟨rfl, unhide hb⟩
end Go.Proofs.YthfcnjcpanoldaaGreatDoor.D
