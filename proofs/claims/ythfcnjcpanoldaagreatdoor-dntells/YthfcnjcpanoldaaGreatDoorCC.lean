/-
  Several texts in one: CRef1, CRef2, CRef3. Each says what it proves, and its conditions.
-/
import Derived.Test.YthfcnjcpanoldaaGreatDoorCB
import Derived.Laws.DeepStrings4
/-
  What the document's own value, Digit and group answer. Conditions: none.
-/
namespace Go.Proofs.YthfcnjcpanoldaaGreatDoor.C
open Go Go.RowKit Cd
/-- what a digit is worth. -/
def dg (c : UInt8) : Int := match nh c with | some n => (n : Int) | none => -1
set_option maxRecDepth 100000 in
theorem digit_any (c : UInt8) (w : World) :
    Calls Tryz.prog 110 #[.int .u8 c.toNat] w fun e w' => e = .returned (.int .i64 (dg c)) ∧ w' = w := by
  have hc := c.toNat_lt
  unfold dg nh
  by_cases h1 : 48 ≤ c.toNat ∧ c.toNat ≤ 57
  · rw [if_pos h1]
    have a1 : (48 : Int) ≤ c.toNat := by omega
    have a2 : (c.toNat : Int) ≤ 57 := by omega
    dsimp only
    rw [show ((c.toNat - 48 : Nat) : Int) = (c.toNat : Int) - 48 by omega]
    clear h1
    go_enter Tryz.func110, Tryz.ntmps110
    go_wp2
    go_ret
    exact ⟨rfl, rfl⟩
  rw [if_neg h1]
  by_cases h2 : 97 ≤ c.toNat ∧ c.toNat ≤ 102
  · rw [if_pos h2]
    have a0 : (48 : Int) ≤ c.toNat := by omega
    have a1 : ¬ (c.toNat : Int) ≤ 57 := by omega
    have a2 : (97 : Int) ≤ c.toNat := by omega
    have a3 : (c.toNat : Int) ≤ 102 := by omega
    dsimp only
    rw [show ((c.toNat - 87 : Nat) : Int) = (c.toNat : Int) - 97 + 10 by omega]
    clear h1 h2
    go_enter Tryz.func110, Tryz.ntmps110
    go_wp2
    go_ret
    exact ⟨rfl, rfl⟩
  rw [if_neg h2]
  by_cases h3 : 65 ≤ c.toNat ∧ c.toNat ≤ 70
  · rw [if_pos h3]
    have a0 : (48 : Int) ≤ c.toNat := by omega
    have a1 : ¬ (c.toNat : Int) ≤ 57 := by omega
    have a2 : ¬ (97 : Int) ≤ c.toNat := by omega
    have a3 : (65 : Int) ≤ c.toNat := by omega
    have a4 : (c.toNat : Int) ≤ 70 := by omega
    dsimp only
    rw [show ((c.toNat - 55 : Nat) : Int) = (c.toNat : Int) - 65 + 10 by omega]
    clear h1 h2 h3
    go_enter Tryz.func110, Tryz.ntmps110
    go_wp2
    go_ret
    exact ⟨rfl, rfl⟩
  rw [if_neg h3]
  dsimp only
  by_cases b1 : 48 ≤ c.toNat
  · have a0 : (48 : Int) ≤ c.toNat := by omega
    have a1 : ¬ (c.toNat : Int) ≤ 57 := by omega
    by_cases b2 : 97 ≤ c.toNat
    · have a2 : (97 : Int) ≤ c.toNat := by omega
      have a3 : ¬ (c.toNat : Int) ≤ 102 := by omega
      have a4 : (65 : Int) ≤ c.toNat := by omega
      have a5 : ¬ (c.toNat : Int) ≤ 70 := by omega
      clear h1 h2 h3 b1 b2
      go_enter Tryz.func110, Tryz.ntmps110
      go_wp2
      go_ret
      exact ⟨rfl, rfl⟩
    · have a2 : ¬ (97 : Int) ≤ c.toNat := by omega
      by_cases b3 : 65 ≤ c.toNat
      · have a4 : (65 : Int) ≤ c.toNat := by omega
        have a5 : ¬ (c.toNat : Int) ≤ 70 := by omega
        clear h1 h2 h3 b1 b2 b3
        go_enter Tryz.func110, Tryz.ntmps110
        go_wp2
        go_ret
        exact ⟨rfl, rfl⟩
      · have a4 : ¬ (65 : Int) ≤ c.toNat := by omega
        clear h1 h2 h3 b1 b2 b3
        go_enter Tryz.func110, Tryz.ntmps110
        go_wp2
        go_ret
        exact ⟨rfl, rfl⟩
  · have a0 : ¬ (48 : Int) ≤ c.toNat := by omega
    have a2 : ¬ (97 : Int) ≤ c.toNat := by omega
    have a4 : ¬ (65 : Int) ≤ c.toNat := by omega
    clear h1 h2 h3 b1
    go_enter Tryz.func110, Tryz.ntmps110
    go_wp2
    go_ret
    exact ⟨rfl, rfl⟩

end Go.Proofs.YthfcnjcpanoldaaGreatDoor.C

/-
  What the document's own Base and Hex answer. Conditions: none.
-/
namespace Go.Proofs.YthfcnjcpanoldaaGreatDoor.C
open Go Go.RowKit Cd
attribute [local go_sem] Oper.semAt_some

theorem data_app (a b : ByteArray) : (a ++ b).data.toList = a.data.toList ++ b.data.toList := by simp [ByteArray.data_append]
theorem eq_of_data {a : ByteArray} {l : List UInt8} (h : a.data.toList = l) : a = ⟨l.toArray⟩ := ByteArray.ext (Array.ext' h)
theorem size_mk (l : List UInt8) : (⟨l.toArray⟩ : ByteArray).size = l.length := List.size_toArray
theorem i64w (n : Int) (h0 : 0 ≤ n) (h : n < 1000000000000) : IntKind.i64.wrap n = n := by
  obtain ⟨m, rfl⟩ := Int.eq_ofNat_of_zero_le h0
  exact wrap_i64 m (by omega)
theorem slice_dig (k : Nat) (hk : k < 16) (wx : World) : (Instr.slice 9 (.string digitsS) (some (.int .i64 (k : Int))) (some (.int .i64 ((k : Int) + 1))) none).run Tryz.prog wx = .ok (.string ⟨#[dx k]⟩) wx := by
  have := run_slice_string (P := Tryz.prog) (w := wx) 9 digitsS .i64 .i64 (k : Int) ((k : Int) + 1) Tryz.underlying9 (by omega) (by omega) (by show (k : Int) + 1 ≤ 16; omega)
  rw [show ((k : Int)).toNat = k by omega, show ((k : Int) + 1).toNat = k + 1 by omega] at this
  have e : ∀ i : Fin 16, (digitsS.extract i.val (i.val + 1)).data.toList = [dx i.val] := by decide +kernel
  rw [this, show digitsS.extract k (k + 1) = ⟨#[dx k]⟩ from ByteArray.ext (Array.ext' (e ⟨k, hk⟩))]
theorem at_drop {s : ByteArray} {p : Nat} (h : p < s.size) : s.data.toList.drop p = s[p] :: s.data.toList.drop (p + 1) := by
  have hl : p < s.data.toList.length := by simpa using h
  rw [List.drop_eq_getElem_cons hl]
  rfl
set_option linter.unusedSimpArgs false in
set_option maxRecDepth 100000 in
set_option maxHeartbeats 2000000 in
theorem refHex_any (s : ByteArray) (w : World) (hs : s.size ≤ 1000) :
    Calls Tryz.prog 52 #[.string s] w fun e w' => e = .returned (.string (pri kH s)) ∧ Below w.heap.size w w' := by
  have hmx : Tryz.prog.follows .mixedOrders = true := by kernel_rfl
  go_enter Tryz.func52, Tryz.ntmps52
  go_wp2
  go_loopw [4, 5] (fun sl ix wr => ∃ (p : Nat) (o : ByteArray), p ≤ s.size ∧ sl = .string o ∧ ix = .int .i64 (p : Int) ∧ o.size = 2 * p ∧ o.data.toList ++ enc kH (s.data.toList.drop p) = enc kH s.data.toList ∧ Below w.heap.size w wr)
    (fun _ ix _ => s.size - (intOf ix).toNat)
  case atStart => exact ⟨0, ⟨#[]⟩, by omega, rfl, rfl, by decide, rfl, Below.refl _ _⟩
  case round =>
    obtain ⟨p, o, hp, rfl, rfl, ho, hE, hB⟩ := hrel
    have HB := hide hB
    clear hB
    by_cases hlt : p < s.size
    · obtain ⟨c, hc⟩ : ∃ c, s[p] = c := ⟨_, rfl⟩
      have hcl := c.toNat_lt
      rw [at_drop hlt, hc, enc_H1, gr_H1, ← List.append_assoc] at hE
      have s1 := fun wx => slice_dig (c.toNat / 16) (by omega) wx
      have s2 := fun wx => slice_dig (c.toNat % 16) (by omega) wx
      rw [show ((c.toNat / 16 : Nat) : Int) = (c.toNat : Int) / 16 by omega] at s1
      rw [show ((c.toNat % 16 : Nat) : Int) = (c.toNat : Int) % 16 by omega] at s2
      have hE2 : (o ++ ⟨#[dx (c.toNat / 16)]⟩ ++ ⟨#[dx (c.toNat % 16)]⟩).data.toList ++ enc kH (s.data.toList.drop (p + 1)) = enc kH s.data.toList := by
        rw [data_app, data_app, List.append_assoc o.data.toList]
        exact hE
      have hsz : (o ++ ⟨#[dx (c.toNat / 16)]⟩ ++ ⟨#[dx (c.toNat % 16)]⟩).size = o.size + 1 + 1 := by rw [ByteArray.size_append, ByteArray.size_append]; rfl
      have HE := hide hE2
      have z1 : ((⟨#[dx (c.toNat / 16)]⟩ : ByteArray).size : Int) = 1 := rfl
      have z2 : ((⟨#[dx (c.toNat % 16)]⟩ : ByteArray).size : Int) = 1 := rfl
      generalize (⟨#[dx (c.toNat / 16)]⟩ : ByteArray) = x at *
      generalize (⟨#[dx (c.toNat % 16)]⟩ : ByteArray) = y at *
      have ho' : (o.size : Int) ≤ 2000 := by omega
      have hp' : (p : Int) ≤ 1000 := by omega
      have hlt' : (p : Int) < s.size := by omega
      have zz : ((o ++ x).size : Int) ≤ 2001 := by rw [ByteArray.size_append]; omega
      have v1 : IntKind.i64.wrap ((c.toNat : Int) / 16 + 1) = (c.toNat : Int) / 16 + 1 := i64w _ (by omega) (by omega)
      have v2 : IntKind.i64.wrap ((c.toNat : Int) % 16 + 1) = (c.toNat : Int) % 16 + 1 := i64w _ (by omega) (by omega)
      have Hsz := hide hsz
      have Ho := hide ho
      clear hE hE2 hsz ho
      go_wp2
      have k1 : ¬ 9223372036854775807 < o.size + x.size := by omega
      have k2 : ¬ 9223372036854775807 < o.size + x.size + y.size := by omega
      refine region_tail_n 13 hmx (by kernel_rfl) ?_
      simp only [List.take_succ_cons, List.take_zero, List.drop_succ_cons, List.drop_zero]
      refine wst_do (by kernel_rfl) (fun K hK => ?_)
      go_simp
      refine hK.out _ ?_
      clear hK K
      refine wst_do (by kernel_rfl) (fun K hK => ?_)
      go_simp
      refine hK.out _ ?_
      clear hK K
      refine wst_do (by kernel_rfl) (fun K hK => ?_)
      go_simp
      refine hK.out _ ?_
      clear hK K
      refine wst_do (by kernel_rfl) (fun K hK => ?_)
      go_simp
      refine hK.out _ ?_
      clear hK K
      refine wst_do (by kernel_rfl) (fun K hK => ?_)
      go_simp
      refine hK.out _ ?_
      clear hK K
      refine wst_do (by kernel_rfl) (fun K hK => ?_)
      go_simp
      refine hK.out _ ?_
      clear hK K
      refine wst_do (by kernel_rfl) (fun K hK => ?_)
      go_simp
      refine hK.out _ ?_
      clear hK K
      refine wst_do (by kernel_rfl) (fun K hK => ?_)
      go_simp
      refine hK.out _ ?_
      clear hK K
      refine wst_do (by kernel_rfl) (fun K hK => ?_)
      go_simp
      refine hK.out _ ?_
      clear hK K
      refine wst_do (by kernel_rfl) (fun K hK => ?_)
      go_simp
      refine hK.out _ ?_
      clear hK K
      refine wst_do (by kernel_rfl) (fun K hK => ?_)
      go_simp
      refine hK.out _ ?_
      clear hK K
      refine wst_do (by kernel_rfl) (fun K hK => ?_)
      go_simp
      refine hK.out _ ?_
      clear hK K
      refine wst_do (by kernel_rfl) (fun K hK => ?_)
      go_simp
      refine hK.out _ ?_
      clear hK K
      clear k1 k2
      refine wst_nil ?_
      go_wp2
      simp only [only]
      go_wp2
      go_roundw
      case rel =>
        exact ⟨p + 1, _, by omega, rfl, by simp, by have := unhide Hsz; have := unhide Ho; omega, unhide HE, (unhide HB).drew⟩
      case measure => simp [intOf]; omega
    · have hge : ¬ (p : Int) < s.size := by omega
      rw [drop_ne.2 hlt, enc_nil, List.append_nil] at hE
      have HE := hide (eq_of_data hE)
      clear hE
      go_wp2
      go_ret
      exact ⟨by rw [unhide HE]; rfl, unhide HB⟩
end Go.Proofs.YthfcnjcpanoldaaGreatDoor.C

/-
  What the document's own Unhex answers. Conditions: none.
-/
namespace Go.Proofs.YthfcnjcpanoldaaGreatDoor.C
open Go Go.RowKit Cd
attribute [local go_sem] Oper.semAt_some

/-- what the document says a text is. -/
def UPost (k : Kd) (s : ByteArray) (w : World) (e : Ending) (w' : World) : Prop := e = .returned (.tuple #[.string (und k s).1, .int .i64 (und k s).2]) ∧ Below w.heap.size w w'
theorem unhex_no {k : Kd} {s : ByteArray} {w w' : World} (h : dec k s.data.toList = none) (hb : Below w.heap.size w w') : UPost k s w (.returned (.tuple #[.string ⟨#[]⟩, .int .i64 50])) w' :=
  ⟨by rw [show und k s = (⟨#[]⟩, 50) by unfold und; rw [h]], hb⟩
theorem unhex_yes {k : Kd} {s : ByteArray} {w w' : World} {o : ByteArray} (h : dec k s.data.toList = some o.data.toList) (hb : Below w.heap.size w w') : UPost k s w (.returned (.tuple #[.string o, .int .i64 0])) w' :=
  ⟨by rw [show und k s = (o, 0) by unfold und; rw [h]], hb⟩
theorem conv_new (W : World) (zs : List Int) (n : Nat) (hn : zs.length = n) : (convert 85 9 (.slice (some ⟨W.heap.size, 0, none⟩) n n)).run Tryz.prog (W.alloc (.cells (zs.map fun z => Value.int .u8 z).toArray 5)) = .ok (.string (strOfNums zs)) (W.alloc (.cells (zs.map fun z => Value.int .u8 z).toArray 5)) := by
  refine run_convert_bytes_arg _ _ _ Tryz.underlying85 Tryz.underlying5 W.heap.size 0 n n zs hn (fun i hi => ?_) _ Tryz.underlying9
  rw [World.cell?_alloc_at _ _ _ _ rfl]
  have hi' : i < zs.length := by omega
  simp [List.getD_eq_getElem?_getD, List.getElem?_eq_getElem hi']
theorem dg_none {x : UInt8} (h : nh x = none) : dg x = -1 := by unfold dg; rw [h]
theorem dg_some {x : UInt8} {n : Nat} (h : nh x = some n) : dg x = n := by unfold dg; rw [h]
theorem stp_H_no1 {x y : UInt8} (last : Bool) (h : nh x = none) : stp kH last [x, y] = none := by simp [stp, tl, lp, kH, h]
theorem stp_H_no2 {x y : UInt8} {n : Nat} (last : Bool) (h : nh x = some n) (h2 : nh y = none) : stp kH last [x, y] = none := by simp [stp, tl, lp, kH, h, h2]
theorem one_str (i j : Nat) (hi : i < 16) (hj : j < 16) : (strOfNums [16 * (i : Int) + j]).data.toList = unp (i * 1048576 + j * 65536) 1 := by
  rw [unp1]
  show [UInt8.ofNat (16 * (i : Int) + j).toNat] = _
  congr 2
  omega
set_option linter.unusedSimpArgs false in
set_option maxRecDepth 100000 in
set_option maxHeartbeats 4000000 in
theorem refUnhex_any (s : ByteArray) (w : World) (hs : s.size ≤ 1000) :
    Calls Tryz.prog 103 #[.string s] w (UPost kH s w) := by
  go_enter Tryz.func103, Tryz.ntmps103
  go_wp2
  go_loopw [4, 5] (fun sl ix wr => ∃ (p : Nat) (o : ByteArray), p ≤ s.size ∧ sl = .string o ∧ ix = .int .i64 (p : Int) ∧ o.size ≤ p ∧ (dec kH (s.data.toList.drop p)).map (o.data.toList ++ ·) = dec kH s.data.toList ∧ Below w.heap.size w wr)
    (fun _ ix _ => s.size - (intOf ix).toNat)
  case atStart => exact ⟨0, ⟨#[]⟩, by omega, rfl, rfl, by decide, by simp, Below.refl _ _⟩
  case round =>
    obtain ⟨p, o, hp, rfl, rfl, ho, hE, hB⟩ := hrel
    have HB := hide hB
    clear hB
    have ho' : (o.size : Int) ≤ 1000 := by omega
    have hp' : (p : Int) ≤ 1000 := by omega
    by_cases hlt : p < s.size
    · have hlt' : (p : Int) < s.size := by omega
      by_cases h1 : p + 1 < s.size
      · have h1' : (p : Int) + 1 < s.size := by omega
        obtain ⟨x, hx⟩ : ∃ x, s[p] = x := ⟨_, rfl⟩
        obtain ⟨y, hy⟩ : ∃ y, s[p + 1] = y := ⟨_, rfl⟩
        rw [at_drop hlt, at_drop h1, hx, hy, dec_H2] at hE
        have HX := hide fun w => digit_any x w
        have HY := hide fun w => digit_any y w
        cases hnx : nh x with
        | none =>
          rw [stp_H_no1 _ hnx] at hE
          rw [dg_none hnx] at HX
          have HD : Hid (dec kH s.data.toList = none) := hE.symm
          clear hE hnx
          go_wp2_with fail
          refine (unhide HX _).mono ?_
          rintro e w1 ⟨rfl, rfl⟩
          go_wp2
          refine bodyPost_ret (v := .tuple #[.string ⟨#[]⟩, .int .i64 50]) (by simp [results, Tryz.results103, go_sem]) rfl ?_
          exact unhex_no (unhide HD) (unhide HB)
        | some i =>
          have hi := nh_some hnx
          rw [dg_some hnx] at HX
          have hi' : ¬ ((i : Int) < 0) := by omega
          cases hny : nh y with
          | none =>
            rw [stp_H_no2 _ hnx hny] at hE
            rw [dg_none hny] at HY
            have HD : Hid (dec kH s.data.toList = none) := hE.symm
            clear hE hnx hny
            go_wp2_with fail
            refine (unhide HX _).mono ?_
            rintro e w1 ⟨rfl, rfl⟩
            go_wp2_with fail
            refine (unhide HY _).mono ?_
            rintro e w1 ⟨rfl, rfl⟩
            go_wp2
            refine bodyPost_ret (v := .tuple #[.string ⟨#[]⟩, .int .i64 50]) (by simp [results, Tryz.results103, go_sem]) rfl ?_
            exact unhex_no (unhide HD) (unhide HB)
          | some j =>
            have hj := nh_some hny
            rw [dg_some hny] at HY
            have hj' : ¬ ((j : Int) < 0) := by omega
            rw [stp_H2 _ hnx hny, Option.bind_some, Option.map_map] at hE
            have hE2 : (dec kH (s.data.toList.drop (p + 1 + 1))).map ((o ++ strOfNums [16 * (i : Int) + j]).data.toList ++ ·) = dec kH s.data.toList := by
              rw [← hE]
              congr 1
              funext l
              rw [data_app, one_str i j hi hj]
              simp
            have hsz : (o ++ strOfNums [16 * (i : Int) + j]).size = o.size + 1 := by rw [ByteArray.size_append]; rfl
            have HE := hide hE2
            have Hsz := hide hsz
            have Ho := hide ho
            clear hE hE2 hnx hny hsz ho
            go_wp2_with fail
            refine (unhide HX _).mono ?_
            rintro e w1 ⟨rfl, rfl⟩
            go_wp2_with fail
            refine (unhide HY _).mono ?_
            rintro e w1 ⟨rfl, rfl⟩
            go_wp2
            have q0 : IntKind.i64.wrap ((p : Int) + 1) = p + 1 := i64w _ (by omega) (by omega)
            have q1 : IntKind.i64.wrap (16 * (i : Int)) = 16 * i := i64w _ (by omega) (by omega)
            have q2 : IntKind.i64.wrap (16 * (i : Int) + j) = 16 * i + j := i64w _ (by omega) (by omega)
            have q3 : IntKind.u8.wrap (16 * (i : Int) + j) = 16 * i + j := by rw [IntKind.wrap_u8']; omega
            have hcv : (convert 85 9 (.slice (some ⟨w1.heap.size, 0, none⟩) 1 1)).run Tryz.prog (w1.alloc (.cells #[.int .u8 (16 * (i : Int) + j)] 5)).drew = .ok (.string (strOfNums [16 * (i : Int) + j])) (w1.alloc (.cells #[.int .u8 (16 * (i : Int) + j)] 5)).drew := conv_new w1.drew [16 * (i : Int) + j] 1 rfl
            have hz1 : (strOfNums [16 * (i : Int) + j]).size = 1 := rfl
            have k1 : ¬ 9223372036854775807 < o.size + 1 := by omega
            refine wp_region_held (S := fun _ => True) (by kernel_rfl) ?_
            change wpAnyH _ _ _ _ _ 17 #[false, false, false, false, false, false, false, false, false, false, false, false, false, false, false, false, false] _ w1.drew
            refine wpAnyH_take (i := 0) (v := .string o) rfl (by kernel_rfl) (by kernel_rfl) (by kernel_rfl) (fun _ _ _ h => h) (Or.inl ⟨by kernel_rfl, by intro w1 hS1; go_simp; try rfl⟩) trivial ?_
            simp only [Act.put, List.setIfInBounds_toArray, List.set_cons_zero, List.set_cons_succ, List.getElem_toArray, List.getElem_cons_zero, List.getElem_cons_succ]
            refine wpAnyH_take (i := 1) (v := .string s) rfl (by kernel_rfl) (by kernel_rfl) (by kernel_rfl) (fun _ _ _ h => h) (Or.inl ⟨by kernel_rfl, by intro w1 hS1; go_simp; try rfl⟩) trivial ?_
            simp only [Act.put, List.setIfInBounds_toArray, List.set_cons_zero, List.set_cons_succ, List.getElem_toArray, List.getElem_cons_zero, List.getElem_cons_succ]
            refine wpAnyH_take (i := 2) (v := .int .i64 (p : Int)) rfl (by kernel_rfl) (by kernel_rfl) (by kernel_rfl) (fun _ _ _ h => h) (Or.inl ⟨by kernel_rfl, by intro w1 hS1; go_simp; try rfl⟩) trivial ?_
            simp only [Act.put, List.setIfInBounds_toArray, List.set_cons_zero, List.set_cons_succ, List.getElem_toArray, List.getElem_cons_zero, List.getElem_cons_succ]
            refine wpAnyH_take (i := 3) (v := .int .u8 (x.toNat : Int)) rfl (by kernel_rfl) (by kernel_rfl) (by kernel_rfl) (fun _ _ _ h => h) (Or.inl ⟨by kernel_rfl, by intro w1 hS1; go_simp; try rfl⟩) trivial ?_
            simp only [Act.put, List.setIfInBounds_toArray, List.set_cons_zero, List.set_cons_succ, List.getElem_toArray, List.getElem_cons_zero, List.getElem_cons_succ]
            refine wpAnyH_take (i := 6) (v := .string s) rfl (by kernel_rfl) (by kernel_rfl) (by kernel_rfl) (fun _ _ _ h => h) (Or.inl ⟨by kernel_rfl, by intro w1 hS1; go_simp; try rfl⟩) trivial ?_
            simp only [Act.put, List.setIfInBounds_toArray, List.set_cons_zero, List.set_cons_succ, List.getElem_toArray, List.getElem_cons_zero, List.getElem_cons_succ]
            refine wpAnyH_take (i := 7) (v := .int .i64 (p : Int)) rfl (by kernel_rfl) (by kernel_rfl) (by kernel_rfl) (fun _ _ _ h => h) (Or.inl ⟨by kernel_rfl, by intro w1 hS1; go_simp; try rfl⟩) trivial ?_
            simp only [Act.put, List.setIfInBounds_toArray, List.set_cons_zero, List.set_cons_succ, List.getElem_toArray, List.getElem_cons_zero, List.getElem_cons_succ]
            refine wpAnyH_take (i := 8) (v := .int .i64 ((p : Int) + 1)) rfl (by kernel_rfl) (by kernel_rfl) (by kernel_rfl) (fun _ _ _ h => h) (Or.inl ⟨by kernel_rfl, by intro w1 hS1; go_simp; try rfl⟩) trivial ?_
            simp only [Act.put, List.setIfInBounds_toArray, List.set_cons_zero, List.set_cons_succ, List.getElem_toArray, List.getElem_cons_zero, List.getElem_cons_succ]
            refine wpAnyH_take (i := 9) (v := .int .u8 (y.toNat : Int)) rfl (by kernel_rfl) (by kernel_rfl) (by kernel_rfl) (fun _ _ _ h => h) (Or.inl ⟨by kernel_rfl, by intro w1 hS1; go_simp; try rfl⟩) trivial ?_
            simp only [Act.put, List.setIfInBounds_toArray, List.set_cons_zero, List.set_cons_succ, List.getElem_toArray, List.getElem_cons_zero, List.getElem_cons_succ]
            refine wpAnyH_ready (rs := [4]) (by kernel_rfl) (by simp) ?_
            refine AllReadyH.cons rfl (fun K hK => ?_) AllReadyH.nil
            rw [if_pos (by kernel_rfl)]
            go_wp2_with fail
            refine (unhide HX _).mono ?_
            rintro e w' ⟨rfl, rfl⟩
            go_wp2
            refine hK.out _ _ trivial (fun _ => ?_)
            clear hK K
            simp only [Act.put, List.setIfInBounds_toArray, List.set_cons_zero, List.set_cons_succ, List.getElem_toArray, List.getElem_cons_zero, List.getElem_cons_succ]
            refine wpAnyH_take (i := 5) (v := .int .i64 (16 * (i : Int))) rfl (by kernel_rfl) (by kernel_rfl) (by kernel_rfl) (fun _ _ _ h => h) (Or.inl ⟨by kernel_rfl, by intro w1 hS1; go_simp; try rfl⟩) trivial ?_
            simp only [Act.put, List.setIfInBounds_toArray, List.set_cons_zero, List.set_cons_succ, List.getElem_toArray, List.getElem_cons_zero, List.getElem_cons_succ]
            refine wpAnyH_ready (rs := [10]) (by kernel_rfl) (by simp) ?_
            refine AllReadyH.cons rfl (fun K hK => ?_) AllReadyH.nil
            rw [if_pos (by kernel_rfl)]
            go_wp2_with fail
            refine (unhide HY _).mono ?_
            rintro e w' ⟨rfl, rfl⟩
            go_wp2
            refine hK.out _ _ trivial (fun _ => ?_)
            clear hK K
            simp only [Act.put, List.setIfInBounds_toArray, List.set_cons_zero, List.set_cons_succ, List.getElem_toArray, List.getElem_cons_zero, List.getElem_cons_succ]
            refine wpAnyH_take (i := 11) (v := .int .i64 (16 * (i : Int) + j)) rfl (by kernel_rfl) (by kernel_rfl) (by kernel_rfl) (fun _ _ _ h => h) (Or.inl ⟨by kernel_rfl, by intro w1 hS1; go_simp; try rfl⟩) trivial ?_
            simp only [Act.put, List.setIfInBounds_toArray, List.set_cons_zero, List.set_cons_succ, List.getElem_toArray, List.getElem_cons_zero, List.getElem_cons_succ]
            refine wpAnyH_take (i := 12) (v := .int .u8 (16 * (i : Int) + j)) rfl (by kernel_rfl) (by kernel_rfl) (by kernel_rfl) (fun _ _ _ h => h) (Or.inl ⟨by kernel_rfl, by intro w1 hS1; go_simp; try rfl⟩) trivial ?_
            simp only [Act.put, List.setIfInBounds_toArray, List.set_cons_zero, List.set_cons_succ, List.getElem_toArray, List.getElem_cons_zero, List.getElem_cons_succ]
            refine wpAnyH_ready (rs := [13]) (by kernel_rfl) (by simp) ?_
            refine AllReadyH.cons rfl (fun K hK => ?_) AllReadyH.nil
            rw [if_pos (by kernel_rfl)]
            go_simp
            refine hK.out _ _ trivial (fun _ => ?_)
            clear hK K
            simp only [Act.put, List.setIfInBounds_toArray, List.set_cons_zero, List.set_cons_succ, List.getElem_toArray, List.getElem_cons_zero, List.getElem_cons_succ]
            refine wpAnyH_ready (rs := [14]) (by kernel_rfl) (by simp) ?_
            refine AllReadyH.cons rfl (fun K hK => ?_) AllReadyH.nil
            rw [if_pos (by kernel_rfl)]
            go_simp
            refine hK.out _ _ trivial (fun _ => ?_)
            clear hK K
            simp only [Act.put, List.setIfInBounds_toArray, List.set_cons_zero, List.set_cons_succ, List.getElem_toArray, List.getElem_cons_zero, List.getElem_cons_succ]
            refine wpAnyH_take (i := 15) (v := .string (o ++ strOfNums [16 * (i : Int) + j])) rfl (by kernel_rfl) (by kernel_rfl) (by kernel_rfl) (fun _ _ _ h => h) (Or.inl ⟨by kernel_rfl, by intro w1 hS1; go_simp; try rfl⟩) trivial ?_
            simp only [Act.put, List.setIfInBounds_toArray, List.set_cons_zero, List.set_cons_succ, List.getElem_toArray, List.getElem_cons_zero, List.getElem_cons_succ]
            refine wpAnyH_take (i := 16) (v := .string (o ++ strOfNums [16 * (i : Int) + j])) rfl (by kernel_rfl) (by kernel_rfl) (by kernel_rfl) (fun _ _ _ h => h) (Or.inl ⟨by kernel_rfl, by intro w1 hS1; go_simp; try rfl⟩) trivial ?_
            simp only [Act.put, List.setIfInBounds_toArray, List.set_cons_zero, List.set_cons_succ, List.getElem_toArray, List.getElem_cons_zero, List.getElem_cons_succ]
            refine wpAnyH_done (by kernel_rfl) ?_ _
            clear k1 q0 q1 q2 q3
            go_wp2
            go_roundw
            case rel =>
              exact ⟨p + 1 + 1, _, by omega, rfl, by simp <;> omega, by have := unhide Hsz; have := unhide Ho; omega, unhide HE, (unhide HB).drew.alloc (by simpa using (unhide HB).size) _⟩
            case measure => simp [intOf]; omega
      · have h1' : ¬ (p : Int) + 1 < s.size := by omega
        have h1'' : (s.size : Int) ≤ (p : Int) + 1 := by omega
        have hd := dec_short kH (by decide) (s.data.toList.drop p) (fun e => (drop_ne.1 e) hlt) (by rw [List.length_drop, Array.length_toList]; show s.size - p < 2; omega)
        rw [hd] at hE
        have HD : Hid (dec kH s.data.toList = none) := hE.symm
        clear hE hd
        go_wp2
        refine bodyPost_ret (v := .tuple #[.string ⟨#[]⟩, .int .i64 50]) (by simp [results, Tryz.results103, go_sem]) rfl ?_
        exact unhex_no (unhide HD) (unhide HB)
    · have hge : ¬ (p : Int) < s.size := by omega
      rw [drop_ne.2 hlt, dec_nil, Option.map_some, List.append_nil] at hE
      have HE := hide hE.symm
      clear hE
      go_wp2
      refine bodyPost_ret (v := .tuple #[.string o, .int .i64 0]) (by simp [results, Tryz.results103, go_sem]) rfl ?_
      exact unhex_yes (unhide HE) (unhide HB)
end Go.Proofs.YthfcnjcpanoldaaGreatDoor.C
