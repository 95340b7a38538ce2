/- Several texts in one: CRef3, ERef, FRef7, FRefP, ERef2, FRefA. Each says what it proves, and its conditions. -/
import Derived.Test.YtjhnblgamodekaaGreatDoorG39
set_option linter.unusedSimpArgs false
set_option linter.unusedVariables false
set_option maxHeartbeats 8000000
set_option maxRecDepth 100000
/-
 What the document's own Unhex answers. Conditions: none.
-/
namespace Go.Proofs.YtjhnblgamodekaaGreatDoor.C
open Go Go.RowKit Cd
attribute [local go_sem] Oper.semAt_some
def UPost (k : Kd) (s : ByteArray) (w : World) (e : Ending) (w' : World) : Prop := e = .returned (.tuple #[.string (und k s).1, .int .i64 (und k s).2]) /\ Below w.heap.size w w'
theorem unhex_no {k : Kd} {s : ByteArray} {w w' : World} (h : dec k s.data.toList = none) (hb : Below w.heap.size w w') : UPost k s w (.returned (.tuple #[.string ⟨#[]⟩, .int .i64 50])) w' :=
 ⟨by rw [show und k s = (⟨#[]⟩, 50) by unfold und; rw [h]], hb⟩
theorem unhex_yes {k : Kd} {s : ByteArray} {w w' : World} {o : ByteArray} (h : dec k s.data.toList = some o.data.toList) (hb : Below w.heap.size w w') : UPost k s w (.returned (.tuple #[.string o, .int .i64 0])) w' :=
 ⟨by rw [show und k s = (o, 0) by unfold und; rw [h]], hb⟩
theorem conv_new (W : World) (zs : List Int) (n : Nat) (hn : zs.length = n) : (convert 113 9 (.slice (some ⟨W.heap.size, 0, none⟩) n n)).run Tryz.prog (W.alloc (.cells (zs.map fun z => Value.int .u8 z).toArray 5)) = .ok (.string (strOfNums zs)) (W.alloc (.cells (zs.map fun z => Value.int .u8 z).toArray 5)) := by
 refine run_convert_bytes_arg _ _ _ Tryz.underlying113 Tryz.underlying5 W.heap.size 0 n n zs hn (fun i hi => ?_) _ Tryz.underlying9
 rw [World.cell?_alloc_at _ _ _ _ rfl]
 have hi' : i < zs.length := by omega
 simp [List.getD_eq_getElem?_getD, List.getElem?_eq_getElem hi']
theorem dg_none {x : UInt8} (h : nh x = none) : dg x = -1 := by unfold dg; rw [h]
theorem dg_some {x : UInt8} {n : Nat} (h : nh x = some n) : dg x = n := by unfold dg; rw [h]
theorem stp_H_no1 {x y : UInt8} (last : Bool) (h : nh x = none) : stp kH last [x, y] = none := by simp [stp, tl, lp, kH, h]
theorem stp_H_no2 {x y : UInt8} {n : Nat} (last : Bool) (h : nh x = some n) (h2 : nh y = none) : stp kH last [x, y] = none := by simp [stp, tl, lp, kH, h, h2]
theorem one_str (i j : Nat) (hi : i < 16) (hj : j < 16) : (strOfNums [16 * (i : Int) + j]).data.toList = unp (i * 1048576 + j * 65536) 1 := by
 rw [unp1]
 show [UInt8.ofNat (16 * (i : Int) + j).toNat] = _
 congr 2
 omega
theorem refUnhex_any (s : ByteArray) (w : World) (hs : s.size <= 1000) :
  Calls Tryz.prog 117 #[.string s] w (UPost kH s w) := by
 go_enter Tryz.func117, Tryz.ntmps117
 go_wp2
 go_loopw [4, 5] (fun sl ix wr => ∃ (p : Nat) (o : ByteArray), p <= s.size /\ sl = .string o /\ ix = .int .i64 (p : Int) /\ o.size <= p /\ (dec kH (s.data.toList.drop p)).map (o.data.toList ++ ·) = dec kH s.data.toList /\ Below w.heap.size w wr)
  (fun _ ix _ => s.size - (intOf ix).toNat)
 case atStart => exact ⟨0, ⟨#[]⟩, by omega, rfl, rfl, by decide, by simp, Below.refl _ _⟩
 case round =>
  obtain ⟨p, o, hp, rfl, rfl, ho, hE, hB⟩ := hrel
  have HB := H_ hB
  clear hB
  have ho' : (o.size : Int) <= 1000 := by omega
  have hp' : (p : Int) <= 1000 := by omega
  by_cases hlt : p < s.size
  ·have hlt' : (p : Int) < s.size := by omega
   by_cases h1 : p + 1 < s.size
   ·have h1' : (p : Int) + 1 < s.size := by omega
    obtain ⟨x, hx⟩ : ∃ x, s[p] = x := ⟨_, rfl⟩
    obtain ⟨y, hy⟩ : ∃ y, s[p + 1] = y := ⟨_, rfl⟩
    rw [at_drop hlt, at_drop h1, hx, hy, dec_H2] at hE
    have HX := H_ fun w => digit_any x w
    have HY := H_ fun w => digit_any y w
    cases hnx : nh x with
    | none =>
     rw [stp_H_no1 _ hnx] at hE
     rw [dg_none hnx] at HX
     have HD : Hid (dec kH s.data.toList = none) := hE.symm
     clear hE hnx
     go_wp2_with fail
     refine (un HX _).mono ?_
     rintro e w1 ⟨rfl, rfl⟩
     go_wp2
     refine bodyPost_ret (v := .tuple #[.string ⟨#[]⟩, .int .i64 50]) (by simp [results, Tryz.results117, go_sem]) rfl ?_
     exact unhex_no (un HD) (un HB)
    | some i =>
     have hi := nh_some hnx
     rw [dg_some hnx] at HX
     have hi' : ¬ ((i : Int) < 0) := by omega
     cases hny : nh y with
     | none =>
      rw [stp_H_no2 _ hnx hny] at hE
      rw [dg_none hny] at HY
      have HD : Hid (dec kH s.data.toList = none) := hE.symm
      clear hE hnx hny
      go_wp2_with fail
      refine (un HX _).mono ?_
      rintro e w1 ⟨rfl, rfl⟩
      go_wp2_with fail
      refine (un HY _).mono ?_
      rintro e w1 ⟨rfl, rfl⟩
      go_wp2
      refine bodyPost_ret (v := .tuple #[.string ⟨#[]⟩, .int .i64 50]) (by simp [results, Tryz.results117, go_sem]) rfl ?_
      exact unhex_no (un HD) (un HB)
     | some j =>
      have hj := nh_some hny
      rw [dg_some hny] at HY
      have hj' : ¬ ((j : Int) < 0) := by omega
      rw [stp_H2 _ hnx hny, Option.bind_some, Option.map_map] at hE
      have hE2 : (dec kH (s.data.toList.drop (p + 1 + 1))).map ((o ++ strOfNums [16 * (i : Int) + j]).data.toList ++ ·) = dec kH s.data.toList := by
       rw [<- hE]
       congr 1
       funext l
       rw [data_app, one_str i j hi hj]
       simp
      have hsz : (o ++ strOfNums [16 * (i : Int) + j]).size = o.size + 1 := by rw [ByteArray.size_append]; rfl
      have HE := H_ hE2
      have Hsz := H_ hsz
      have Ho := H_ ho
      clear hE hE2 hnx hny hsz ho
      go_wp2_with fail
      refine (un HX _).mono ?_
      rintro e w1 ⟨rfl, rfl⟩
      go_wp2_with fail
      refine (un HY _).mono ?_
      rintro e w1 ⟨rfl, rfl⟩
      go_wp2
      have q0 : IntKind.i64.wrap ((p : Int) + 1) = p + 1 := i64w _ (by omega) (by omega)
      have q1 : IntKind.i64.wrap (16 * (i : Int)) = 16 * i := i64w _ (by omega) (by omega)
      have q2 : IntKind.i64.wrap (16 * (i : Int) + j) = 16 * i + j := i64w _ (by omega) (by omega)
      have q3 : IntKind.u8.wrap (16 * (i : Int) + j) = 16 * i + j := by rw [IntKind.wrap_u8']; omega
      have hcv : (convert 113 9 (.slice (some ⟨w1.heap.size, 0, none⟩) 1 1)).run Tryz.prog (w1.alloc (.cells #[.int .u8 (16 * (i : Int) + j)] 5)).drew = .ok (.string (strOfNums [16 * (i : Int) + j])) (w1.alloc (.cells #[.int .u8 (16 * (i : Int) + j)] 5)).drew := conv_new w1.drew [16 * (i : Int) + j] 1 rfl
      have hz1 : (strOfNums [16 * (i : Int) + j]).size = 1 := rfl
      have k1 : ¬ 9223372036854775807 < o.size + 1 := by omega
      refine wp_region_held (S := fun _ => True) (by kernel_rfl) ?_
      change wpAnyH _ _ _ _ _ 17 #[false, false, false, false, false, false, false, false, false, false, false, false, false, false, false, false, false] _ w1.drew
      refine tkk 0 (.string o) rfl (by intro w1 hS1; go_simp; try rfl) trivial ?_
      simp only [Act.put, nrm]
      refine tkk 1 (.string s) rfl (by intro w1 hS1; go_simp; try rfl) trivial ?_
      simp only [Act.put, nrm]
      refine tkk 2 (.int .i64 (p : Int)) rfl (by intro w1 hS1; go_simp; try rfl) trivial ?_
      simp only [Act.put, nrm]
      refine tkk 3 (.int .u8 (x.toNat : Int)) rfl (by intro w1 hS1; go_simp; try rfl) trivial ?_
      simp only [Act.put, nrm]
      refine tkk 6 (.string s) rfl (by intro w1 hS1; go_simp; try rfl) trivial ?_
      simp only [Act.put, nrm]
      refine tkk 7 (.int .i64 (p : Int)) rfl (by intro w1 hS1; go_simp; try rfl) trivial ?_
      simp only [Act.put, nrm]
      refine tkk 8 (.int .i64 ((p : Int) + 1)) rfl (by intro w1 hS1; go_simp; try rfl) trivial ?_
      simp only [Act.put, nrm]
      refine tkk 9 (.int .u8 (y.toNat : Int)) rfl (by intro w1 hS1; go_simp; try rfl) trivial ?_
      simp only [Act.put, nrm]
      refine rdyy 4 rfl (fun K hK => ?_)
      rw [if_pos (by kernel_rfl)]
      go_wp2_with fail
      refine (un HX _).mono ?_
      rintro e w' ⟨rfl, rfl⟩
      go_wp2
      refine hK.out _ _ trivial (fun _ => ?_)
      clear hK K
      simp only [Act.put, nrm]
      refine tkk 5 (.int .i64 (16 * (i : Int))) rfl (by intro w1 hS1; go_simp; try rfl) trivial ?_
      simp only [Act.put, nrm]
      refine rdyy 10 rfl (fun K hK => ?_)
      rw [if_pos (by kernel_rfl)]
      go_wp2_with fail
      refine (un HY _).mono ?_
      rintro e w' ⟨rfl, rfl⟩
      go_wp2
      refine hK.out _ _ trivial (fun _ => ?_)
      clear hK K
      simp only [Act.put, nrm]
      refine tkk 11 (.int .i64 (16 * (i : Int) + j)) rfl (by intro w1 hS1; go_simp; try rfl) trivial ?_
      simp only [Act.put, nrm]
      refine tkk 12 (.int .u8 (16 * (i : Int) + j)) rfl (by intro w1 hS1; go_simp; try rfl) trivial ?_
      simp only [Act.put, nrm]
      refine rdyy 13 rfl (fun K hK => ?_)
      rw [if_pos (by kernel_rfl)]
      go_simp
      refine hK.out _ _ trivial (fun _ => ?_)
      clear hK K
      simp only [Act.put, nrm]
      refine rdyy 14 rfl (fun K hK => ?_)
      rw [if_pos (by kernel_rfl)]
      go_simp
      refine hK.out _ _ trivial (fun _ => ?_)
      clear hK K
      simp only [Act.put, nrm]
      refine tkk 15 (.string (o ++ strOfNums [16 * (i : Int) + j])) rfl (by intro w1 hS1; go_simp; try rfl) trivial ?_
      simp only [Act.put, nrm]
      refine tkk 16 (.string (o ++ strOfNums [16 * (i : Int) + j])) rfl (by intro w1 hS1; go_simp; try rfl) trivial ?_
      simp only [Act.put, nrm]
      refine wpAnyH_done (by kernel_rfl) ?_ _
      clear k1 q0 q1 q2 q3
      go_wp2
      go_roundw
      case rel =>
       exact ⟨p + 1 + 1, _, by omega, rfl, by simp <;> omega, by have := un Hsz; have := un Ho; omega, un HE, (un HB).drew.alloc (by simpa using (un HB).size) _⟩
      case measure => simp [intOf]; omega
   ·have h1' : ¬ (p : Int) + 1 < s.size := by omega
    have h1'' : (s.size : Int) <= (p : Int) + 1 := by omega
    have hd := dec_short kH (by decide) (s.data.toList.drop p) (fun e => (drop_ne.1 e) hlt) (by rw [List.length_drop, Array.length_toList]; show s.size - p < 2; omega)
    rw [hd] at hE
    have HD : Hid (dec kH s.data.toList = none) := hE.symm
    clear hE hd
    go_wp2
    refine bodyPost_ret (v := .tuple #[.string ⟨#[]⟩, .int .i64 50]) (by simp [results, Tryz.results117, go_sem]) rfl ?_
    exact unhex_no (un HD) (un HB)
  ·have hge : ¬ (p : Int) < s.size := by omega
   rw [drop_ne.2 hlt, dec_nil, Option.map_some, List.append_nil] at hE
   have HE := H_ hE.symm
   clear hE
   go_wp2
   refine bodyPost_ret (v := .tuple #[.string o, .int .i64 0]) (by simp [results, Tryz.results117, go_sem]) rfl ?_
   exact unhex_yes (un HE) (un HB)
end Go.Proofs.YtjhnblgamodekaaGreatDoor.C
/-
 What the document's own answers of layer 6 say: Among, plain, pair, Filter, Name, ReadFilter, ReadName. Conditions: none.
-/
namespace Go.Proofs.YtjhnblgamodekaaGreatDoor.E
open Go Go.RowKit Ec
attribute [local go_sem] Oper.semAt_some
theorem contains_drop {l : ByteArray} {j : Nat} (c : UInt8) (h : j < l.size) : (l.data.toList.drop j).contains c = ((c == l[j]) || (l.data.toList.drop (j + 1)).contains c) := by
 rw [drop_at h, List.contains_cons]
theorem among_any (c : UInt8) (l : ByteArray) (w : World) (hl : l.size <= 1000) :
  Calls Tryz.prog 47 #[.int .u8 (c.toNat : Int), .string l] w fun e w' => e = .returned (.bool (l.data.toList.contains c)) /\ w' = w := by
 obtain ⟨r, hr⟩ : ∃ r, l.data.toList.contains c = r := ⟨_, rfl⟩
 rw [hr]
 have Hr := H_ hr
 clear hr
 go_enter Tryz.func47, Tryz.ntmps47
 go_wp2
 go_loopw [5] (fun ix wr => ∃ j : Nat, j <= l.size /\ ix = .int .i64 (j : Int) /\ (l.data.toList.drop j).contains c = r /\ wr = w)
  (fun ix _ => l.size - (intOf ix).toNat)
 case atStart => exact ⟨0, Nat.zero_le _, rfl, by rw [List.drop_zero]; exact un Hr, rfl⟩
 case round =>
  obtain ⟨j, hj, rfl, hd, rfl⟩ := hrel
  by_cases hlt : j < l.size
  ·have hlt' : (j : Int) < l.size := by omega
   have hj' : (j : Int) <= 1000 := by omega
   rw [contains_drop c hlt] at hd
   obtain ⟨y, hy⟩ : ∃ y, l[j] = y := ⟨_, rfl⟩
   rw [hy] at hd
   by_cases he : y = c
   ·obtain rfl : r = true := by rw [<- hd, he]; simp
    have heq : (y.toNat : Int) = c.toNat := by rw [he]
    clear hd he
    go_wp2
    go_ret
    exact ⟨rfl, rfl⟩
   ·have heq := beq_u8 y c he
    have Hd : Hid ((l.data.toList.drop (j + 1)).contains c = r) := H_ (by rw [<- hd]; simp [Ne.symm he])
    clear hd he
    go_wp2
    go_roundw
    case rel => exact ⟨j + 1, by omega, by simp, un Hd, by first | rfl | trivial⟩
    case measure => simp [intOf]; omega
  ·have hge : ¬ (j : Int) < l.size := by omega
   rw [drop_out hlt] at hd
   obtain rfl : r = false := by rw [<- hd]; rfl
   clear hd
   go_wp2
   go_ret
   exact ⟨rfl, rfl⟩
theorem among_l (c : UInt8) (l : List UInt8) (w : World) (hl : l.length <= 1000) :
  Calls Tryz.prog 47 #[.int .u8 (c.toNat : Int), .string ⟨l.toArray⟩] w fun e w' => e = .returned (.bool (l.contains c)) /\ Below w.heap.size w w' :=
 (among_any c ⟨l.toArray⟩ w (by show l.toArray.size <= _; rw [List.size_toArray]; exact hl)).mono fun e w' ⟨he, hw⟩ => ⟨he, by rw [hw]; exact Below.refl _ _⟩
theorem slice_at (s : ByteArray) (p : Nat) (h : p < s.size) (wx : World) : (Instr.slice 9 (.string s) (some (.int .i64 (p : Int))) (some (.int .i64 ((p : Int) + 1))) none).run Tryz.prog wx = .ok (.string ⟨#[s[p]]⟩) wx := by
 have := run_slice_string (P := Tryz.prog) (w := wx) 9 s .i64 .i64 (p : Int) ((p : Int) + 1) Tryz.underlying9 (by omega) (by omega) (by omega)
 rw [show ((p : Int)).toNat = p by omega, show ((p : Int) + 1).toNat = p + 1 by omega] at this
 rw [this, <- pc_one h]
 unfold pc
 rw [Nat.min_eq_left (by omega)]
theorem refHex_one (y : UInt8) (w : World) :
  Calls Tryz.prog 72 #[.string ⟨#[y]⟩] w fun e w' => e = .returned (.string ⟨(hx y).toArray⟩) /\ Below w.heap.size w w' := by
 have := C.refHex_any ⟨#[y]⟩ w (by show 1 <= 1000; decide)
 rw [show C.pri Cd.kH ⟨#[y]⟩ = ⟨(hx y).toArray⟩ by unfold C.pri; rw [show (⟨#[y]⟩ : ByteArray).data.toList = [y] from rfl, enc_hx]] at this
 exact this
theorem pbF (n p : Nat) (y : UInt8) : pb false n p y = if (pln y && !sF.contains y) = true then [y] else 92 :: hx y := by
 unfold pb
 rw [show res false n p y = sF.contains y from rfl, Bool.and_false]
 rfl
theorem refFilter_any (s : ByteArray) (w : World) (hs : s.size <= 1000) :
  Calls Tryz.prog 43 #[.string s] w fun e w' => e = .returned (.string (pri false s)) /\ Below w.heap.size w w' := by
 go_enter Tryz.func43, Tryz.ntmps43
 go_wp2
 go_loopw [3, 4] (fun sl ix wr => ∃ (p : Nat) (o : ByteArray), p <= s.size /\ sl = .string o /\ ix = .int .i64 (p : Int) /\ o.size <= 3 * p /\ o.data.toList ++ prt false s.size p (s.data.toList.drop p) = prt false s.size 0 s.data.toList /\ Below w.heap.size w wr)
  (fun _ ix _ => s.size - (intOf ix).toNat)
 case atStart => exact ⟨0, ⟨#[]⟩, by omega, rfl, rfl, by decide, rfl, Below.refl _ _⟩
 case round =>
  obtain ⟨p, o, hp, rfl, rfl, ho, hE, hB⟩ := hrel
  have HB := H_ hB
  clear hB
  have ho' : (o.size : Int) <= 3000 := by omega
  have hp' : (p : Int) <= 1000 := by omega
  by_cases hlt : p < s.size
  ·have hlt' : (p : Int) < s.size := by omega
   have hsl := fun wx => slice_at s p hlt wx
   rw [drop_at hlt, prt] at hE
   obtain ⟨y, hy⟩ : ∃ y, s[p] = y := ⟨_, rfl⟩
   rw [hy] at hE hsl
   have HE := H_ hE
   have HA := H_ fun W => among_l y [92, 42, 40, 41] W (by decide)
   have HX := H_ fun W => refHex_one y W
   have hyl : (y.toNat : Int) <= 255 := by have := y.toNat_lt; omega
   clear hE
   by_cases a1 : (y.toNat : Int) < 32
   ·have hq : pln y = false := by unfold pln; simp; omega
    have z1 : ((⟨(hx y).toArray⟩ : ByteArray).size : Int) = 2 := rfl
    have z0 : ((⟨#[92]⟩ : ByteArray).size : Int) = 1 := rfl
    have zz : ((o ++ ⟨#[92]⟩).size : Int) <= 3001 := by rw [ByteArray.size_append]; omega
    have HE2 : Hid ((o ++ ⟨#[92]⟩ ++ ⟨(hx y).toArray⟩).data.toList ++ prt false s.size (p + 1) (s.data.toList.drop (p + 1)) = prt false s.size 0 s.data.toList) := H_ (by
     rw [<- un HE, pbF, if_neg (by rw [hq]; simp), data_app, data_app, List.append_assoc, List.append_assoc]
     rfl)
    have HS : Hid ((o ++ ⟨#[92]⟩ ++ ⟨(hx y).toArray⟩).size <= 3 * (p + 1)) := H_ (by rw [ByteArray.size_append, ByteArray.size_append]; omega)
    generalize (⟨(hx y).toArray⟩ : ByteArray) = x at *
    clear HE ho
    clear hq HA
    go_wp2_with fail
    refine ((un HX) _).mono ?_
    rintro e w2 ⟨rfl, hb⟩
    replace HB := H_ ((un HB).trans (hb.mono (un HB).size))
    clear hb HX
    go_wp2
    go_roundw
    case rel => exact ⟨p + 1, _, by omega, rfl, by simp, un HS, un HE2, un HB⟩
    case measure => simp [intOf]; omega
   ·by_cases a2 : (126 : Int) < y.toNat
    ·have hq : pln y = false := by unfold pln; simp; omega
     have z1 : ((⟨(hx y).toArray⟩ : ByteArray).size : Int) = 2 := rfl
     have z0 : ((⟨#[92]⟩ : ByteArray).size : Int) = 1 := rfl
     have zz : ((o ++ ⟨#[92]⟩).size : Int) <= 3001 := by rw [ByteArray.size_append]; omega
     have HE2 : Hid ((o ++ ⟨#[92]⟩ ++ ⟨(hx y).toArray⟩).data.toList ++ prt false s.size (p + 1) (s.data.toList.drop (p + 1)) = prt false s.size 0 s.data.toList) := H_ (by
      rw [<- un HE, pbF, if_neg (by rw [hq]; simp), data_app, data_app, List.append_assoc, List.append_assoc]
      rfl)
     have HS : Hid ((o ++ ⟨#[92]⟩ ++ ⟨(hx y).toArray⟩).size <= 3 * (p + 1)) := H_ (by rw [ByteArray.size_append, ByteArray.size_append]; omega)
     generalize (⟨(hx y).toArray⟩ : ByteArray) = x at *
     clear HE ho
     clear hq HA
     go_wp2_with fail
     refine ((un HX) _).mono ?_
     rintro e w2 ⟨rfl, hb⟩
     replace HB := H_ ((un HB).trans (hb.mono (un HB).size))
     clear hb HX
     go_wp2
     go_roundw
     case rel => exact ⟨p + 1, _, by omega, rfl, by simp, un HS, un HE2, un HB⟩
     case measure => simp [intOf]; omega
    ·have hq : pln y = true := by unfold pln; simp; omega
     cases hr : ([92, 42, 40, 41] : List UInt8).contains y with
     | true =>
      rw [hr] at HA
      have z1 : ((⟨(hx y).toArray⟩ : ByteArray).size : Int) = 2 := rfl
      have z0 : ((⟨#[92]⟩ : ByteArray).size : Int) = 1 := rfl
      have zz : ((o ++ ⟨#[92]⟩).size : Int) <= 3001 := by rw [ByteArray.size_append]; omega
      have HE2 : Hid ((o ++ ⟨#[92]⟩ ++ ⟨(hx y).toArray⟩).data.toList ++ prt false s.size (p + 1) (s.data.toList.drop (p + 1)) = prt false s.size 0 s.data.toList) := H_ (by
       rw [<- un HE, pbF, if_neg (by rw [hr]; simp), data_app, data_app, List.append_assoc, List.append_assoc]
       rfl)
      have HS : Hid ((o ++ ⟨#[92]⟩ ++ ⟨(hx y).toArray⟩).size <= 3 * (p + 1)) := H_ (by rw [ByteArray.size_append, ByteArray.size_append]; omega)
      generalize (⟨(hx y).toArray⟩ : ByteArray) = x at *
      clear HE ho
      clear hq hr
      go_wp2_with fail
      refine ((un HA) _).mono ?_
      rintro e w1 ⟨rfl, hb⟩
      replace HB := H_ ((un HB).trans (hb.mono (un HB).size))
      clear hb HA
      go_wp2_with fail
      refine ((un HX) _).mono ?_
      rintro e w2 ⟨rfl, hb⟩
      replace HB := H_ ((un HB).trans (hb.mono (un HB).size))
      clear hb HX
      go_wp2
      go_roundw
      case rel => exact ⟨p + 1, _, by omega, rfl, by simp, un HS, un HE2, un HB⟩
      case measure => simp [intOf]; omega
     | false =>
      rw [hr] at HA
      have z1 : ((⟨#[y]⟩ : ByteArray).size : Int) = 1 := rfl
      have HE2 : Hid ((o ++ ⟨#[y]⟩).data.toList ++ prt false s.size (p + 1) (s.data.toList.drop (p + 1)) = prt false s.size 0 s.data.toList) := H_ (by
       rw [<- un HE, pbF, if_pos (by rw [hq, hr]; rfl), data_app, List.append_assoc])
      have HS : Hid ((o ++ ⟨#[y]⟩).size <= 3 * (p + 1)) := H_ (by rw [ByteArray.size_append]; omega)
      generalize (⟨#[y]⟩ : ByteArray) = x at *
      clear HE ho HX
      clear hq hr
      go_wp2_with fail
      refine ((un HA) _).mono ?_
      rintro e w1 ⟨rfl, hb⟩
      replace HB := H_ ((un HB).trans (hb.mono (un HB).size))
      clear hb HA
      go_wp2
      go_roundw
      case rel => exact ⟨p + 1, _, by omega, rfl, by simp, un HS, un HE2, un HB⟩
      case measure => simp [intOf]; omega
  ·have hge : ¬ (p : Int) < s.size := by omega
   rw [drop_out hlt, prt, List.append_nil] at hE
   have Ho : Hid (o = pri false s) := H_ (ByteArray.ext (Array.ext' hE))
   clear hE
   go_wp2
   go_ret
   exact ⟨by rw [<- un Ho]; rfl, un HB⟩
end Go.Proofs.YtjhnblgamodekaaGreatDoor.E
/-
 What the document's own text and Print of layer 8 answer. Conditions: none.
-/
namespace Go.Proofs.YtjhnblgamodekaaGreatDoor.F
open Go Go.RowKit Go.Shelf Fp
open D (H_ un)
open Dp (jn)
open E (pri)
attribute [local go_sem] Oper.semAt_some
def TxIs (n : Nat) : Prop := ∀ (kk : Nat) (F : Fl n) (w : World) (p : Nat -> Prop) (d : Fd), kk <= 6 -> right n kk F = true -> FNode n w p d F ->
 Calls Tryz.prog 25 #[d.val] w fun o w' => o = .returned (.string ⟨(text n F).toArray⟩) /\ Below w.heap.size w w'
theorem flat_take {α : Type} (f : α -> List UInt8) (l : List α) (j : Nat) : (((l.take j).map f).flatten).length <= ((l.map f).flatten).length := by
 have h : (l.map f).flatten = ((l.take j).map f).flatten ++ ((l.drop j).map f).flatten := by
  rw [<- List.flatten_append, <- List.map_append, List.take_append_drop]
 rw [h, List.length_append]
 omega
theorem flat_next {α : Type} (f : α -> List UInt8) (l : List α) (j : Nat) (x : α) (h : l[j]? = some x) : ((l.take (j + 1)).map f).flatten = ((l.take j).map f).flatten ++ f x := by
 obtain ⟨hj, hx⟩ := List.getElem?_eq_some_iff.1 h
 rw [List.take_succ_eq_append_getElem hj, List.map_append, List.flatten_append, hx]
 simp
theorem size_data {S : ByteArray} {l : List UInt8} (h : S.data.toList = l) : S.size = l.length := by rw [<- h]; exact Array.length_toList.symm
theorem news_of {W : World} {g off : Nat} {xs : List ByteArray} (h : ∀ (i : Nat) x, xs[i]? = some x -> W.cell? ⟨g, off + i, none⟩ = some (.string x)) : ∀ (j : Nat) (u : Value), (strs xs)[j]? = some u -> W.cell? ((⟨g, off, none⟩ : Addr).add j) = some u := by
 intro j u hj
 rw [List.getElem?_map, Option.map_eq_some_iff] at hj
 obtain ⟨x, hx, rfl⟩ := hj
 rw [Addr.add_lit]
 exact h j x hx
theorem strs_len (xs : List ByteArray) : (strs xs).length = xs.length * 1 := by rw [List.length_map, Nat.mul_one]
theorem strs_one (xs : List ByteArray) : ∀ u ∈ strs xs, u.oneCell' = true := by
 intro u hu
 obtain ⟨x, _, rfl⟩ := List.mem_map.1 hu
 rfl
theorem strs_app (xs ys : List ByteArray) : strs xs ++ strs ys = strs (xs ++ ys) := (List.map_append ..).symm
theorem grow_of {B base : Nat} {w W W' : World} {e : TypeId} {size n : Nat} {v : Value} {xs : List Value} (hw : Below B w W) (hB : B <= base) (hbw : B <= w.heap.size) (ho : W.ownsRow base e size v n xs) (hg : W.grownBy W' v.ownBlock) : Below B w W' :=
 ⟨hg.os.trans hw.os, hg.tape.trans hw.tape, hg.output.trans hw.output, Nat.le_trans hw.size hg.size, fun k hk => (hg.block k (Nat.lt_of_lt_of_le hk (Nat.le_trans hbw hw.size)) (fun e => by have := (ho.lt k e.symm).1; omega)).trans (hw.block k hk)⟩
theorem grown_below {B base : Nat} {w W W' : World} {e : TypeId} {size n : Nat} {v : Value} {xs : List Value} {o : Obj} (hw : Below B w W) (hB : B <= base) (hbw : B <= w.heap.size) (ho : W.ownsRow base e size v n xs) (hg : (W.alloc o).grownBy W' v.ownBlock) : Below B w W' :=
 grow_of (hw.alloc (Nat.le_trans hbw hw.size) o) hB hbw (ho.alloc o) hg
theorem set_of {k : Int} (h1 : 0 <= k) (h2 : k <= 2) : isSet k = true := by
 have : k = 0 \/ k = 1 \/ k = 2 := by omega
 rcases this with rfl | rfl | rfl <;> rfl
theorem txt_set (n : Nat) (ih : TxIs n) (kk : Nat) (F : Fl (n + 1)) (w : World) (p : Nat -> Prop) (d : Fd) (hk6 : kk <= 6) (hr : right (n + 1) kk F = true) (hN : FNode (n + 1) w p d F) (hk1 : 0 <= d.k) (hk2 : d.k <= 2) :
  Calls Tryz.prog 25 #[d.val] w fun o w' => o = .returned (.string ⟨(text (n + 1) F).toArray⟩) /\ Below w.heap.size w w' := by
 obtain ⟨W0, hW0⟩ : ∃ W0, W0 = w.alloc d.obj := ⟨_, rfl⟩
 have hb0 : Below w.heap.size w W0 := by rw [hW0]; exact (Below.refl _ _).alloc (Nat.le_refl _) _
 have hq0 : W0.heap[w.heap.size]? = some (.cells d.cs 25 (0, 0)) := by rw [hW0]; exact World.alloc_heap_new _ _
 have htl := text_long (n + 1) kk F hr
 have htm := tl_mono hk6
 have h6 : tl 6 <= 100000000 := by decide
 have hI := hN.is
 have hset : isSet (kd F) = true := set_of (by rw [<- hI.k]; exact hk1) (by rw [<- hI.k]; exact hk2)
 rw [text, if_pos hset] at htl
 have hkids : ∀ x ∈ ls F, right n (kk - 1) x = true := by
  rw [right] at hr
  simp only [Bool.and_eq_true, decide_eq_true_eq, List.all_eq_true] at hr
  exact hr.2
 obtain ⟨X, hX⟩ : ∃ X : List UInt8, X = ((ls F).map (text n)).flatten := ⟨_, rfl⟩
 have hXl : X.length <= 100000000 := by
  rw [<- hX] at htl
  simp only [List.length_cons, List.length_append, List.length_nil] at htl
  omega
 have hT : (⟨(text (n + 1) F).toArray⟩ : ByteArray) = ⟨(40 :: ((sgn d.k ++ X) ++ [41])).toArray⟩ := by rw [text, if_pos hset, <- hI.k, hX]
 have hFi := fun W => E.refFilter_any d.v W (by rw [hI.v]; exact hN.sm.v)
 have hsl := hN.sm.ln
 have HN := H_ (hN.below hb0)
 have HB := H_ hb0
 have HQ := H_ hq0
 have HI := H_ ih
 have HL := H_ (And.intro hI.ln hsl)
 have HFi := H_ hFi
 have HT := H_ hT
 have HX := H_ hX
 have HXl := H_ hXl
 have HK := H_ hkids
 have hdl : (d.ln : Int) <= 1000 := by have := hI.ln; omega
 have hkc : d.k = 0 \/ d.k = 1 \/ d.k = 2 := by omega
 have HKc := H_ hkc
 obtain ⟨⟨c0, c1, c2, c3, c4, c5⟩, _⟩ := box6 hq0
 clear hN hI hsl hset hT hFi hb0 hq0 ih hX hXl hkids htl htm h6 hr hkc hk1 hk2
 obtain ⟨dk, da, dv, dsa, dsn, dsc, df, dla, dln, dlc⟩ := d
 dsimp only at *
 have hW1 := hW0.symm
 dsimp only [Fd.obj, Fd.cs] at hW1
 clear hW0
 go_enter Tryz.func25, Tryz.ntmps25
 go_wp2
 go_loopw [3, 4] (fun su ix wr => ∃ (j : Nat) (S : ByteArray), j <= dln /\ su = .string S /\ ix = .int .i64 (j : Int) /\ Hid (S.data.toList = (((ls F).take j).map (text n)).flatten) /\ Hid (Below W0.heap.size W0 wr))
  (fun _ ix _ => dln - (intOf ix).toNat)
 case atStart => exact ⟨0, ⟨#[]⟩, Nat.zero_le _, rfl, rfl, H_ (by simp), H_ (Below.refl _ _)⟩
 case round =>
  clear c0 c1 c2 c3 c4 c5
  obtain ⟨j, S, hj, rfl, rfl, hS, hb⟩ := hrel
  have hq := ((un hb).block _ (Array.getElem?_eq_some_iff.1 (un HQ)).1).trans (un HQ)
  obtain ⟨⟨c0, c1, c2, c3, c4, c5⟩, _⟩ := box6 hq
  dsimp only at c0 c1 c2 c3 c4 c5
  have hSz : (S.size : Int) <= 100000000 := by
   have h1 := size_data (un hS)
   have h2 := flat_take (text n) (ls F) j
   rw [<- (show X = _ from un HX)] at h2
   have := un HXl
   omega
  by_cases hlt : j < dln
  ·have hltF : j < (ls F).length := by have := (un HL).1; omega
   obtain ⟨g, off, ha⟩ := (un HN).kids
   have ha := ha.resolve_right (fun e => by rw [e] at hltF; cases hltF)
   obtain ⟨⟨k1, a1, v1, sa1, sn1, sc1, f1, la1, ln1, lc1⟩, ⟨u0, u1, u2, u3, u4, u5⟩, hN1⟩ := ((un HN).below (un hb)).kid ha hltF
   dsimp only at ha u0 u1 u2 u3 u4 u5
   subst ha
   have hC := (un HI) (kk - 1) (ls F)[j] wr _ _ (by omega) ((un HK) _ (List.getElem_mem hltF)) hN1
   have hnx := flat_next (text n) (ls F) j _ (List.getElem?_eq_getElem hltF)
   have hnz := flat_take (text n) (ls F) (j + 1)
   rw [<- (show X = _ from un HX)] at hnz
   rw [hnx, List.length_append] at hnz
   generalize (ls F)[j] = Fj at *
   obtain ⟨Tx, hTx⟩ : ∃ Tx : ByteArray, Tx = ⟨(text n Fj).toArray⟩ := ⟨_, rfl⟩
   rw [<- hTx] at hC
   have hTd : Tx.data.toList = text n Fj := by rw [hTx]
   have hTz : (Tx.size : Int) <= 100000000 := by
    have h1 := size_data hTd
    have := un HXl
    omega
   have HS2 : Hid ((S ++ Tx).data.toList = (((ls F).take (j + 1)).map (text n)).flatten) := H_ (by rw [E.data_app, un hS, hTd, hnx])
   have HC := H_ hC
   have hlt1 : (j : Int) < dln := by omega
   clear hN1 hC hq HI hnx hnz hTx hTd HFi
   go_wp2_with fail
   refine (un HC).mono ?_
   rintro o w2 ⟨rfl, hb2⟩
   have HZ := H_ ((un hb).trans (hb2.mono (un hb).size))
   clear hb2 HC u0 u1 u2 u3 u4 u5 c0 c1 c2 c3 c4 c5
   go_wp2
   go_roundw
   case rel => exact ⟨j + 1, _, by omega, rfl, by simp, HS2, HZ⟩
   case measure => simp [intOf]; omega
  ·have hge : ¬ (j : Int) < dln := by omega
   have hSX : Hid (S.data.toList = X) := H_ (by
    rw [un hS, List.take_of_length_le (by have := (un HL).1; omega)]
    exact (un HX).symm)
   clear HI HN hS hq
   go_wp2_with fail
   refine ((un HFi) _).mono ?_
   rintro o w2 ⟨rfl, hb2⟩
   have HZ := H_ ((un hb).trans (hb2.mono (un hb).size))
   have hq2 := ((un HZ).block _ (Array.getElem?_eq_some_iff.1 (un HQ)).1).trans (un HQ)
   clear c0 c1 c2 c3 c4 c5
   obtain ⟨⟨c0, c1, c2, c3, c4, c5⟩, _⟩ := box6 hq2
   dsimp only at c0 c1 c2 c3 c4 c5
   clear hb2 HFi hq2
   generalize pri false dv = pv0 at *
   rcases (un HKc) with e | e | e
   ·have HT2 : Hid ((⟨#[40, 38]⟩ ++ S ++ ⟨#[41]⟩ : ByteArray) = ⟨(text (n + 1) F).toArray⟩) := H_ (by
     rw [un HT, e]
     refine ByteArray.ext (Array.ext' ?_)
     rw [E.data_app, E.data_app, un hSX]
     simp [sgn])
    have z0 : ((⟨#[40, 38]⟩ : ByteArray).size : Int) = 2 := rfl
    have z1 : ((⟨#[41]⟩ : ByteArray).size : Int) = 1 := rfl
    have zz : (((⟨#[40, 38]⟩ ++ S : ByteArray)).size : Int) <= 100000002 := by rw [ByteArray.size_append]; omega
    subst e
    clear HKc HT HX hSX
    go_wp2
    go_ret
    rw [<- un HT2]
    exact ⟨rfl, (un HB).trans ((un HZ).mono (un HB).size)⟩
   ·have HT2 : Hid ((⟨#[40, 124]⟩ ++ S ++ ⟨#[41]⟩ : ByteArray) = ⟨(text (n + 1) F).toArray⟩) := H_ (by
     rw [un HT, e]
     refine ByteArray.ext (Array.ext' ?_)
     rw [E.data_app, E.data_app, un hSX]
     simp [sgn])
    have z0 : ((⟨#[40, 124]⟩ : ByteArray).size : Int) = 2 := rfl
    have z1 : ((⟨#[41]⟩ : ByteArray).size : Int) = 1 := rfl
    have zz : (((⟨#[40, 124]⟩ ++ S : ByteArray)).size : Int) <= 100000002 := by rw [ByteArray.size_append]; omega
    subst e
    clear HKc HT HX hSX
    go_wp2
    go_ret
    rw [<- un HT2]
    exact ⟨rfl, (un HB).trans ((un HZ).mono (un HB).size)⟩
   ·have HT2 : Hid ((⟨#[40, 33]⟩ ++ S ++ ⟨#[41]⟩ : ByteArray) = ⟨(text (n + 1) F).toArray⟩) := H_ (by
     rw [un HT, e]
     refine ByteArray.ext (Array.ext' ?_)
     rw [E.data_app, E.data_app, un hSX]
     simp [sgn])
    have z0 : ((⟨#[40, 33]⟩ : ByteArray).size : Int) = 2 := rfl
    have z1 : ((⟨#[41]⟩ : ByteArray).size : Int) = 1 := rfl
    have zz : (((⟨#[40, 33]⟩ ++ S : ByteArray)).size : Int) <= 100000002 := by rw [ByteArray.size_append]; omega
    subst e
    clear HKc HT HX hSX
    go_wp2
    go_ret
    rw [<- un HT2]
    exact ⟨rfl, (un HB).trans ((un HZ).mono (un HB).size)⟩
end Go.Proofs.YtjhnblgamodekaaGreatDoor.F
/-
 Reading a filter's text without looking whether it is right, and looking behind: what follows for layer 8's reading. Conditions: none.
-/
namespace Go.Proofs.YtjhnblgamodekaaGreatDoor.Fp
open Dp (mp)
open E (und)
def Rds {α : Type} (rd : List UInt8 -> Option (α × List UInt8)) (ok : α -> Bool) : List UInt8 -> List α -> List UInt8 -> Prop
 | l, [], r => l = r
 | l, g :: gs, r => l.head? = some 40 /\ ∃ l1, rd l = (if ok g then some (g, l1) else none) /\ Rds rd ok l1 gs r
theorem Rds.snoc {α : Type} {rd : List UInt8 -> Option (α × List UInt8)} {ok : α -> Bool} {g : α} {r r1 : List UInt8} (h1 : r.head? = some 40) (h2 : rd r = if ok g then some (g, r1) else none) : ∀ {gs : List α} {l : List UInt8}, Rds rd ok l gs r -> Rds rd ok l (gs ++ [g]) r1
 | [], l, h => by
  have h : l = r := h
  rw [h]
  exact ⟨h1, r1, h2, rfl⟩
 | x :: gs, l, h => by
  obtain ⟨h3, l1, h4, h5⟩ := h
  exact ⟨h3, l1, h4, Rds.snoc h1 h2 h5⟩
theorem rdL_rds {α : Type} {rd : List UInt8 -> Option (α × List UInt8)} {ok : α -> Bool} {r : List UInt8} : ∀ (gs : List α) (m : Nat) (l : List UInt8), Rds rd ok l gs r -> rdL rd m l = if gs.all ok && decide (gs.length <= m) then (rdL rd (m - gs.length) r).map (fun q => (gs ++ q.1, q.2)) else none
 | [], m, l, h => by
  have h : l = r := h
  rw [h, List.length_nil, Nat.sub_zero, decide_eq_true (Nat.zero_le _)]
  cases rdL rd m r <;> simp
 | g :: gs, 0, l, h => by
  rw [rdL, if_pos h.1]
  simp
 | g :: gs, m + 1, l, h => by
  obtain ⟨h1, l1, h2, h3⟩ := h
  rw [rdL, if_pos h1, h2]
  cases hg : ok g with
  | false => simp [hg]
  | true =>
   rw [if_pos rfl]
   simp only
   rw [rdL_rds gs m l1 h3, List.all_cons, hg, Bool.true_and, List.length_cons, show m + 1 - (gs.length + 1) = m - gs.length by omega, show decide (gs.length + 1 <= m + 1) = decide (gs.length <= m) from decide_eq_decide.2 (by omega)]
   cases (gs.all ok && decide (gs.length <= m)) with
   | false => simp
   | true =>
    simp only [if_true]
    cases rdL rd (m - gs.length) r <;> simp
theorem rdL_over {α : Type} (rd : List UInt8 -> Option (α × List UInt8)) (m : Nat) (r : List UInt8) (h : r.head? ≠ some 40) : rdL rd m r = some ([], r) := by
 cases m <;> rw [rdL, if_neg h]
theorem rdL_bad {α : Type} (rd : List UInt8 -> Option (α × List UInt8)) (m : Nat) (r : List UInt8) (h : r.head? = some 40) (h2 : rd r = none) : rdL rd m r = none := by
 cases m with
 | zero => rw [rdL, if_pos h]
 | succ m => rw [rdL, if_pos h, h2]
abbrev stG {n : Nat} (kd : Int) (gs : List (Fl n)) : Fl (n + 1) := mk kd ⟨#[]⟩ ⟨#[]⟩ [] ⟨#[]⟩ gs
theorem setK_in {c : UInt8} {k : Int} (h : setK c = some k) : isSet k = true := by
 unfold setK at h
 split at h
 ·cases h; rfl
 ·split at h
  ·cases h; rfl
  ·split at h
   ·cases h; rfl
   ·cases h
theorem set_eight {n : Nat} {k : Int} {gs : List (Fl n)} (hs : isSet k = true) (h : fitF (stG k gs) = true) : gs.length <= 8 := (set_form (F := stG k gs) h hs).2.2
theorem rdF_set {k : Nat} {c : UInt8} {kd : Int} {l l2 r : List UInt8} {gs : List (Fl (k + 2))} (hl : l = 40 :: c :: l2) (hc : setK c = some kd) (h : Rds (rdF k) (right (k + 2) k) l2 gs r) (hr : r.head? ≠ some 40) :
  rdF (k + 1) l = if r.head? = some 41 then (if right (k + 3) (k + 1) (stG kd gs) then some (stG kd gs, r.tail) else none) else none := by
 have hrt : right (k + 3) (k + 1) (stG kd gs) = (fitF (stG kd gs) && gs.all (right (k + 2) k)) := by
  rw [right, decide_eq_true (Nat.succ_pos k), Bool.true_and]
  rfl
 rw [rdF, hl]
 simp only [List.head?_cons, if_true, List.tail_cons]
 unfold rdB
 simp only [List.head?_cons, Option.bind_some, hc, List.tail_cons]
 rw [rdL_rds gs 8 l2 h, rdL_over _ _ _ hr, hrt]
 cases hf : fitF (stG kd gs) with
 | false =>
  cases (gs.all (right (k + 2) k) && decide (gs.length <= 8)) with
  | false => simp
  | true => simp [hf]
 | true =>
  rw [decide_eq_true (set_eight (setK_in hc) hf), Bool.and_true]
  cases gs.all (right (k + 2) k) with
  | false => simp
  | true =>
   by_cases h41 : r.head? = some 41
   ·simp [hf, h41]
   ·simp [hf, h41]
theorem rdF_set_bad {k : Nat} {c : UInt8} {kd : Int} {l l2 r : List UInt8} {gs : List (Fl (k + 2))} (hl : l = 40 :: c :: l2) (hc : setK c = some kd) (h : Rds (rdF k) (right (k + 2) k) l2 gs r) (hr : r.head? = some 40) (hb : rdF k r = none) :
  rdF (k + 1) l = none := by
 rw [rdF, hl]
 simp only [List.head?_cons, if_true, List.tail_cons]
 unfold rdB
 simp only [List.head?_cons, Option.bind_some, hc, List.tail_cons]
 rw [rdL_rds gs 8 l2 h, rdL_bad _ _ _ hr hb]
 simp
theorem rdF_short {k : Nat} {l : List UInt8} (h : l.length <= 1) : rdF k l = none := by
 cases k with
 | zero => rfl
 | succ k =>
  match l, h with
  | [], _ => rfl
  | [c], _ =>
   rw [rdF]
   unfold rdB
   simp [cutB]
theorem rdF_head {k : Nat} {l : List UInt8} (h : l.head? ≠ some 40) : rdF k l = none := by
 cases k with
 | zero => rfl
 | succ k => rw [rdF, if_neg h]
theorem rdF_leaf {k : Nat} {c : UInt8} {l l1 : List UInt8} (hl : l = 40 :: c :: l1) (hc : setK c = none) :
  rdF (k + 1) l = match cutB 41 (c :: l1) with
   | none => none
   | some (p, q) => match (rdC p : Option (Fl (k + 3))) with
    | none => none
    | some G => if right (k + 3) (k + 1) G then some (G, q) else none := by
 rw [rdF, hl]
 simp only [List.head?_cons, if_true, List.tail_cons]
 unfold rdB
 simp only [List.head?_cons, Option.bind_some, hc]
 cases h : cutB 41 (c :: l1) with
 | none => rfl
 | some pq =>
  obtain ⟨p, q⟩ := pq
  simp only
  cases hG : (rdC p : Option (Fl (k + 3))) with
  | none => rfl
  | some G =>
   obtain ⟨e, _⟩ := cutB_some 41 _ _ _ h
   have hd : (c :: l1).drop p.length = 41 :: q := by rw [e, List.drop_left]
   simp only [Option.map_some, hd, List.head?_cons, List.tail_cons, true_and]
   rw [right, decide_eq_true (Nat.succ_pos k), Bool.true_and, rdC_ls hG]
   simp
theorem leaf_got {k : Nat} {c : UInt8} {l l1 p q : List UInt8} {G : Fl (k + 3)} (hl : l = 40 :: c :: l1) (hc : setK c = none) (hp : cutB 41 (c :: l1) = some (p, q)) (hG : rdC p = some G \/ rdC p = (none : Option (Fl (k + 3))) /\ fitF G = false) :
  rdF (k + 1) l = if right (k + 3) (k + 1) G then some (G, q) else none := by
 rw [rdF_leaf hl hc, hp]
 rcases hG with hG | ⟨hG, hf⟩
 ·simp only [hG]
 ·simp only [hG]
  rw [right, hf]
  simp
theorem rdT_got {l q : List UInt8} {G : Fl 8} (h : rdF 6 l = if right 8 6 G then some (G, q) else none) : rdT l = if q = [] /\ right 8 6 G = true then some G else none := by
 unfold rdT
 rw [h]
 cases hr : right 8 6 G with
 | false => simp
 | true =>
  cases q with
  | nil => simp
  | cons x q => simp
theorem rdT_nil {l : List UInt8} (h : rdF 6 l = none) : rdT l = none := by
 unfold rdT
 rw [h]
theorem rdC_at {n : Nat} {p a t : List UInt8} (h : cutB 61 p = some (a, t)) : (rdC p : Option (Fl (n + 1))) = rdVals (kindOf a).2 ⟨(kindOf a).1.toArray⟩ t := by
 unfold rdC
 rw [h]
theorem rdC_no {n : Nat} {p : List UInt8} (h : cutB 61 p = none) : (rdC p : Option (Fl (n + 1))) = none := by
 unfold rdC
 rw [h]
theorem rdVals_one {n : Nat} {k : Int} {a : ByteArray} {t : List UInt8} (h : k ≠ 3 \/ 42 ∉ t) : (rdVals k a t : Option (Fl (n + 1))) = (rdV t).map fun v => mk k a v [] ⟨#[]⟩ [] := by
 unfold rdVals
 rw [if_pos h]
theorem rdVals_star {n : Nat} {a : ByteArray} : (rdVals 3 a [42] : Option (Fl (n + 1))) = some (mk 7 a ⟨#[]⟩ [] ⟨#[]⟩ []) := by
 unfold rdVals
 rw [if_neg (by simp), if_pos rfl]
theorem mp_len {α : Type} (f : List UInt8 -> Option α) : ∀ (xs : List (List UInt8)) (l : List α), mp f xs = some l -> l.length = xs.length
 | [], l, h => by cases h; rfl
 | x :: xs, l, h => by
  rw [mp] at h
  cases h1 : f x with
  | none => rw [h1] at h; cases h
  | some y =>
   cases h2 : mp f xs with
   | none => rw [h1, h2] at h; cases h
   | some l' =>
    rw [h1, h2] at h
    cases h
    rw [List.length_cons, List.length_cons, mp_len f xs l' h2]
theorem rdVals_subs {n : Nat} {a : ByteArray} {t : List UInt8} {xs : List ByteArray} (h : 42 ∈ t) (h1 : t ≠ [42]) (hx : mp rdV (spl 42 t) = some xs) :
  (rdVals 3 a t : Option (Fl (n + 1))) = some (subs a xs) \/ (rdVals 3 a t : Option (Fl (n + 1))) = none /\ fitF (subs a xs : Fl (n + 1)) = false := by
 unfold rdVals
 rw [if_neg (by simp [h]), if_neg h1]
 split
 ·rename_i h5
  refine .inr ⟨rfl, ?_⟩
  have hl := mp_len _ _ _ hx
  rw [spl_len] at hl
  unfold fitF subs fitB
  have : fitU a (xs.headD ⟨#[]⟩) xs.tail.dropLast (xs.getLastD ⟨#[]⟩) 0 = false := by
   unfold fitU
   rw [show decide (xs.tail.dropLast.length <= 4) = false from decide_eq_false (by simp; omega)]
   simp
  simpa [isSet] using this
 ·rw [hx]
  exact .inl rfl
theorem rdVals_subs_bad {n : Nat} {a : ByteArray} {t : List UInt8} (h : 42 ∈ t) (h1 : t ≠ [42]) (hx : mp rdV (spl 42 t) = none) :
  (rdVals 3 a t : Option (Fl (n + 1))) = none := by
 unfold rdVals
 rw [if_neg (by simp [h]), if_neg h1]
 split
 ·rfl
 ·rw [hx]; rfl
theorem spl_two {t : List UInt8} (h : 42 ∈ t) : 2 <= (spl 42 t).length := by
 rw [spl_len]
 have := List.count_pos_iff.2 h
 omega
end Go.Proofs.YtjhnblgamodekaaGreatDoor.Fp
/-
 What the document's own answers of layer 6 say: plain, pair, ReadFilter, ReadName. Conditions: none.
-/
namespace Go.Proofs.YtjhnblgamodekaaGreatDoor.E
open Go Go.RowKit Ec
attribute [local go_sem] Oper.semAt_some
theorem refPlain_any (s : ByteArray) (w : World) (hs : s.size <= 1000) :
  Calls Tryz.prog 97 #[.string s] w fun e w' => e = .returned (.bool ((U.bad s).isNone && !s.data.toList.contains 0)) /\ Below w.heap.size w w' := by
 have H1 := H_ (U.refRight_any s w hs)
 have H2 : Hid (∀ W : World, Calls Tryz.prog 47 #[.int .u8 0, .string s] W fun e w' => e = .returned (.bool (s.data.toList.contains 0)) /\ w' = W) := H_ fun W => among_any 0 s W hs
 generalize (U.bad s).isNone = b at *
 generalize s.data.toList.contains 0 = c at *
 cases b with
 | false =>
  go_enter Tryz.func97, Tryz.ntmps97
  go_wp2_with fail
  refine (un H1).mono ?_
  rintro e w1 ⟨rfl, hb⟩
  have HB := H_ hb
  clear hb
  go_wp2
  go_ret
  exact ⟨rfl, un HB⟩
 | true =>
  go_enter Tryz.func97, Tryz.ntmps97
  go_wp2_with fail
  refine (un H1).mono ?_
  rintro e w1 ⟨rfl, hb⟩
  have HB := H_ hb
  clear hb
  go_wp2_with fail
  refine ((un H2) _).mono ?_
  rintro e w2 ⟨rfl, rfl⟩
  go_wp2
  go_ret
  exact ⟨by simp, un HB⟩
def PairPost (r : Option (List UInt8 × Nat)) (w : World) (e : Ending) (w' : World) : Prop := Below w.heap.size w w' /\ match r with
 | some (t, _) => e = .returned (.tuple #[.string ⟨t.toArray⟩, .bool true])
 | none => ∃ u : ByteArray, e = .returned (.tuple #[.string u, .bool false])
theorem slice_two (s : ByteArray) (q : Nat) (h : q + 2 <= s.size) (wx : World) : (Instr.slice 9 (.string s) (some (.int .i64 (q : Int))) (some (.int .i64 ((q : Int) + 2))) none).run Tryz.prog wx = .ok (.string (pc s q 2)) wx := by
 have := run_slice_string (P := Tryz.prog) (w := wx) 9 s .i64 .i64 (q : Int) ((q : Int) + 2) Tryz.underlying9 (by omega) (by omega) (by omega)
 rw [show ((q : Int)).toNat = q by omega, show ((q : Int) + 2).toNat = q + 2 by omega] at this
 rw [this]
 unfold pc
 rw [Nat.min_eq_left (by omega)]
theorem pair_two (s : ByteArray) (q : Nat) (w : World) (hs : s.size <= 1000) (h : q + 2 <= s.size) (t : ByteArray) (er : Int) (hu : C.und Cd.kH (pc s q 2) = (t, er)) (b : Bool) (hb : (er == 0) = b) :
  Calls Tryz.prog 98 #[.string s, .int .i64 q] w fun e w' => e = .returned (.tuple #[.string t, .bool b]) /\ Below w.heap.size w w' := by
 have H : Hid (Calls Tryz.prog 117 #[.string (pc s q 2)] w fun e w' => e = .returned (.tuple #[.string t, .int .i64 er]) /\ Below w.heap.size w w') := H_ (by
  have := C.refUnhex_any (pc s q 2) w (by show (s.extract q _).size <= _; rw [ByteArray.size_extract]; omega)
  unfold C.UPost at this
  rw [hu] at this
  exact this)
 have hsl := fun wx => slice_two s q h wx
 have hq : (q : Int) <= 1000 := by omega
 have hq2 : ¬ (s.size : Int) < (q : Int) + 2 := by omega
 clear hu
 generalize pc s q 2 = pq at *
 go_enter Tryz.func98, Tryz.ntmps98
 go_wp2_with fail
 refine (un H).mono ?_
 rintro e w1 ⟨rfl, hb1⟩
 have HB := H_ hb1
 clear hb1 hsl
 go_wp2
 go_ret2
 exact ⟨by rw [<- hb]; rfl, un HB⟩
theorem pair_short (s : ByteArray) (q : Nat) (w : World) (hs : s.size <= 1000) (hq : q <= s.size) (h : ¬ q + 2 <= s.size) :
  Calls Tryz.prog 98 #[.string s, .int .i64 q] w fun e w' => e = .returned (.tuple #[.string ⟨#[]⟩, .bool false]) /\ Below w.heap.size w w' := by
 have hq : (q : Int) <= 1000 := by omega
 have hq2 : (s.size : Int) < (q : Int) + 2 := by omega
 go_enter Tryz.func98, Tryz.ntmps98
 go_wp2
 go_ret2
 exact ⟨rfl, Below.refl _ _⟩
theorem refPair_any (s : ByteArray) (q : Nat) (w : World) (hs : s.size <= 1000) (hq : q <= s.size) :
  Calls Tryz.prog 98 #[.string s, .int .i64 q] w (PairPost (esc1 false (s.data.toList.drop q)) w) := by
 by_cases h : q + 2 <= s.size
 ·rw [drop_at (show q < s.size by omega), drop_at (show q + 1 < s.size by omega), esc1_two (by rfl)]
  have hd : Cd.dec Cd.kH (pc s q 2).data.toList = Cd.dec Cd.kH [s[q], s[q + 1]] := by rw [pc_data, drop_at (show q < s.size by omega), drop_at (show q + 1 < s.size by omega)]; rfl
  rw [dec_two] at hd
  cases e1 : Cd.nh s[q] with
  | none =>
   simp only [e1] at hd ⊢
   exact (pair_two s q w hs h _ _ (und_none hd) false rfl).mono fun e w' ⟨he, hb⟩ => ⟨hb, _, he⟩
  | some i =>
   cases e2 : Cd.nh s[q + 1] with
   | none =>
    simp only [e1, e2] at hd ⊢
    exact (pair_two s q w hs h _ _ (und_none hd) false rfl).mono fun e w' ⟨he, hb⟩ => ⟨hb, _, he⟩
   | some j =>
    simp only [e1, e2] at hd ⊢
    exact (pair_two s q w hs h _ _ (und_some hd) true rfl).mono fun e w' ⟨he, hb⟩ => ⟨hb, he⟩
 ·have hn : esc1 false (s.data.toList.drop q) = none := by
   by_cases h1 : q < s.size
   ·rw [drop_at h1, drop_out (show ¬ q + 1 < s.size by omega)]
    exact esc1_one rfl
   ·rw [drop_out h1]
    rfl
  rw [hn]
  exact (pair_short s q w hs hq h).mono fun e w' ⟨he, hb⟩ => ⟨hb, _, he⟩
theorem und_bad {nm : Bool} {s : ByteArray} (h : ((U.bad s).isNone && !s.data.toList.contains 0) = false) : und nm s = (⟨#[]⟩, 60) := by
 have : rd nm s = none := by
  unfold rd
  cases hb : (U.bad s).isNone with
  | false => rfl
  | true =>
   rw [hb, Bool.true_and] at h
   rw [if_pos rfl]
   refine rdk_zero nm _ _ 0 0 ?_
   rw [List.drop_zero]
   simpa using h
 unfold und
 rw [this]
theorem und_ok {nm : Bool} {s : ByteArray} (h : ((U.bad s).isNone && !s.data.toList.contains 0) = true) : (rdk nm s.size 0 0 s.data.toList = none -> und nm s = (⟨#[]⟩, 60)) /\ (∀ t, rdk nm s.size 0 0 s.data.toList = some t -> und nm s = (⟨t.toArray⟩, 0)) /\ ∀ p (hp : p < s.size), s[p] ≠ 0 := by
 rw [Bool.and_eq_true] at h
 obtain ⟨h1, h2⟩ := h
 have e : rd nm s = rdk nm s.size 0 0 s.data.toList := by unfold rd; rw [if_pos h1]
 refine ⟨fun hn => ?_, fun t ht => ?_, fun p hp h0 => ?_⟩
 ·unfold und
  rw [e, hn]
 ·unfold und
  rw [e, ht]
 ·have : s.data.toList.contains 0 = true := by
   rw [List.contains_iff_mem, <- h0]
   exact List.getElem_mem (l := s.data.toList) (by rw [len_toList]; exact hp)
  rw [this] at h2
  cases h2
def Rdn (nm : Bool) (s : ByteArray) (p : Nat) (o : ByteArray) : Prop := (rdk nm s.size 0 p (s.data.toList.drop p)).map (o.data.toList ++ ·) = rdk nm s.size 0 0 s.data.toList
theorem rdn_nil (nm : Bool) (s : ByteArray) : Rdn nm s 0 ⟨#[]⟩ := by
 unfold Rdn
 rw [List.drop_zero]
 simp
theorem Rdn.none {nm : Bool} {s : ByteArray} {p : Nat} {o : ByteArray} (h : Rdn nm s p o) (hp : p < s.size) (hs : stp nm s.size p s[p] (s.data.toList.drop (p + 1)) = none) : rdk nm s.size 0 0 s.data.toList = none := by
 unfold Rdn at h
 rw [drop_at hp, rdk_cons, hs] at h
 exact h.symm
theorem Rdn.some {nm : Bool} {s : ByteArray} {p k : Nat} {o : ByteArray} {t : List UInt8} (h : Rdn nm s p o) (hp : p < s.size) (hs : stp nm s.size p s[p] (s.data.toList.drop (p + 1)) = some (t, k)) : Rdn nm s (p + 1 + k) (o ++ ⟨t.toArray⟩) := by
 unfold Rdn at h ⊢
 rw [drop_at hp, rdk_cons, hs] at h
 rw [<- h]
 simp only
 have hl := (stp_len hs).2.1
 rw [rdk_skip nm s.size k (p + 1) _ hl, List.drop_drop, Option.map_map]
 congr 1
 funext l
 simp [ByteArray.data_append]
theorem Rdn.over {nm : Bool} {s : ByteArray} {p : Nat} {o : ByteArray} (h : Rdn nm s p o) (hp : ¬ p < s.size) : rdk nm s.size 0 0 s.data.toList = Option.some o.data.toList := by
 unfold Rdn at h
 rw [drop_out hp, rdk] at h
 rw [<- h]
 simp
theorem stp_bare {nm : Bool} {n p : Nat} {y : UInt8} (r : List UInt8) (h92 : y ≠ 92) (h0 : y ≠ 0) {b : Bool} (hb : res nm n p y = b) : stp nm n p y r = if b = true then Option.none else Option.some ([y], 0) := by
 unfold stp
 rw [if_neg h92]
 have : (y == 0 || res nm n p y) = b := by rw [hb]; simp [h0]
 rw [this]
theorem stp_mark (nm : Bool) (n p : Nat) (r : List UInt8) : stp nm n p 92 r = esc1 nm r := by unfold stp; rw [if_pos rfl]
theorem sF_eq {y : UInt8} (h : y ≠ 92) (n p : Nat) : res false n p y = ([42, 40, 41] : List UInt8).contains y := by
 show sF.contains y = _
 rw [List.contains_cons, show (y == 92) = false by simpa using h, Bool.false_or]
def RPost (nm : Bool) (s : ByteArray) (w : World) (e : Ending) (w' : World) : Prop := e = .returned (.tuple #[.string (und nm s).1, .int .i64 (und nm s).2]) /\ Below w.heap.size w w'
theorem RPost.no {nm : Bool} {s : ByteArray} {w w' : World} (h : und nm s = (⟨#[]⟩, 60)) (hb : Below w.heap.size w w') : RPost nm s w (.returned (.tuple #[.string ⟨#[]⟩, .int .i64 60])) w' := ⟨by rw [h], hb⟩
theorem RPost.yes {nm : Bool} {s : ByteArray} {w w' : World} {o : ByteArray} (h : und nm s = (o, 0)) (hb : Below w.heap.size w w') : RPost nm s w (.returned (.tuple #[.string o, .int .i64 0])) w' := ⟨by rw [h], hb⟩
theorem k2_of {l t : List UInt8} {k : Nat} (h : esc1 false l = some (t, k)) : k = 2 := by
 unfold esc1 at h
 split at h
 ·cases h
 ·rw [if_neg (by simp)] at h
  split at h
  ·cases h
  ·split at h
   ·cases h; rfl
   ·cases h
theorem refReadFilter_any (s : ByteArray) (w : World) (hs : s.size <= 1000) :
  Calls Tryz.prog 77 #[.string s] w (RPost false s w) := by
 have HP := H_ (refPlain_any s w hs)
 cases hpl : ((U.bad s).isNone && !s.data.toList.contains 0) with
 | false =>
  rw [hpl] at HP
  have Hu := H_ (und_bad (nm := false) hpl)
  clear hpl
  go_enter Tryz.func77, Tryz.ntmps77
  go_wp2_with fail
  refine (un HP).mono ?_
  rintro e w1 ⟨rfl, hb⟩
  have HB := H_ hb
  clear hb
  go_wp2
  go_ret2
  exact RPost.no (un Hu) (un HB)
 | true =>
  rw [hpl] at HP
  have HU := H_ (und_ok (nm := false) hpl)
  clear hpl
  go_enter Tryz.func77, Tryz.ntmps77
  go_wp2_with fail
  refine (un HP).mono ?_
  rintro e w1 ⟨rfl, hb⟩
  have HB0 := H_ hb
  clear hb HP
  go_wp2
  go_loopw [4, 5] (fun sl ix wr => ∃ (p : Nat) (o : ByteArray), p <= s.size /\ sl = .string o /\ ix = .int .i64 (p : Int) /\ o.size <= p /\ Rdn false s p o /\ Below w.heap.size w wr)
   (fun _ ix _ => s.size - (intOf ix).toNat)
  case atStart => exact ⟨0, ⟨#[]⟩, by omega, rfl, rfl, by decide, rdn_nil false s, un HB0⟩
  case round =>
   obtain ⟨p, o, hp, rfl, rfl, ho, hR, hB⟩ := hrel
   have HB := H_ hB
   have HR := H_ hR
   clear hB hR HB0
   have ho' : (o.size : Int) <= 1000 := by omega
   have hp' : (p : Int) <= 1000 := by omega
   by_cases hlt : p < s.size
   ·have hlt' : (p : Int) < s.size := by omega
    have h0 := (un HU).2.2 p hlt
    by_cases h92 : s[p] = 92
    ·have hcy : ((s[p]).toNat : Int) = 92 := by rw [h92]; rfl
     have hstp : stp false s.size p s[p] (s.data.toList.drop (p + 1)) = esc1 false (s.data.toList.drop (p + 1)) := by rw [h92]; exact stp_mark _ _ _ _
     have HPR : Hid (Calls Tryz.prog 98 #[.string s, .int .i64 ((p : Int) + 1)] wr (PairPost (esc1 false (s.data.toList.drop (p + 1))) wr)) := H_ (refPair_any s (p + 1) _ hs (by omega))
     cases he : esc1 false (s.data.toList.drop (p + 1)) with
     | none =>
      rw [he] at HPR
      have HPR2 : Hid (Calls Tryz.prog 98 #[.string s, .int .i64 ((p : Int) + 1)] wr fun e w' => ∃ u : ByteArray, e = .returned (.tuple #[.string u, .bool false]) /\ Below wr.heap.size wr w') := H_ ((un HPR).mono fun e w' hp => by obtain ⟨hb, u, h⟩ := hp; exact ⟨u, h, hb⟩)
      have Hu : Hid (und false s = (⟨#[]⟩, 60)) := H_ ((un HU).1 ((un HR).none hlt (by rw [hstp, he])))
      clear he HPR hstp h92 h0
      go_wp2_with fail
      refine (un HPR2).mono ?_
      rintro e w2 ⟨u, rfl, hb⟩
      replace HB := H_ ((un HB).trans (hb.mono (un HB).size))
      clear hb HPR2
      go_wp2
      go_ret2
      exact RPost.no (un Hu) (un HB)
     | some tk =>
      obtain ⟨t, k⟩ := tk
      rw [he] at HPR
      have HPR2 : Hid (Calls Tryz.prog 98 #[.string s, .int .i64 ((p : Int) + 1)] wr fun e w' => e = .returned (.tuple #[.string ⟨t.toArray⟩, .bool true]) /\ Below wr.heap.size wr w') := H_ ((un HPR).mono fun e w' hp => by obtain ⟨hb, h⟩ := hp; exact ⟨h, hb⟩)
      have hst : stp false s.size p s[p] (s.data.toList.drop (p + 1)) = some (t, k) := by rw [hstp, he]
      obtain ⟨hl1, hl2, hl3⟩ := stp_len hst
      have hk2 : k = 2 := k2_of he
      subst hk2
      have HN := H_ ((un HR).some hlt hst)
      have hdl : (s.data.toList.drop (p + 1)).length = s.size - (p + 1) := by rw [List.length_drop, len_toList]
      have z1 : ((⟨t.toArray⟩ : ByteArray).size : Int) = 1 := by show ((t.toArray.size : Nat) : Int) = 1; rw [List.size_toArray, hl1]; rfl
      have HS : Hid ((o ++ ⟨t.toArray⟩).size <= p + 3) := H_ (by rw [ByteArray.size_append]; omega)
      have hp3 : p + 3 <= s.size := by omega
      generalize (⟨t.toArray⟩ : ByteArray) = x at *
      clear he HPR hstp h92 h0 hst hl1 hl2 hl3 hdl
      go_wp2_with fail
      refine (un HPR2).mono ?_
      rintro e w2 ⟨rfl, hb⟩
      replace HB := H_ ((un HB).trans (hb.mono (un HB).size))
      clear hb HPR2
      go_wp2
      go_roundw
      case rel => exact ⟨p + 3, _, hp3, rfl, by simp; omega, un HS, un HN, un HB⟩
      case measure => simp [intOf]; omega
    ·have hcy : (((s[p]).toNat : Int) == 92) = false := beq_u8 _ 92 h92
     have hsl := fun wx => slice_at s p hlt wx
     have HA := H_ fun W => among_l s[p] [42, 40, 41] W (by decide)
     have hst := stp_bare (nm := false) (n := s.size) (p := p) (s.data.toList.drop (p + 1)) h92 h0 (sF_eq h92 s.size p)
     cases hr : ([42, 40, 41] : List UInt8).contains s[p] with
     | true =>
      rw [hr] at HA
      rw [hr, if_pos rfl] at hst
      have Hu : Hid (und false s = (⟨#[]⟩, 60)) := H_ ((un HU).1 ((un HR).none hlt hst))
      clear hst hr h0 h92 hsl
      go_wp2_with fail
      refine ((un HA) _).mono ?_
      rintro e w2 ⟨rfl, hb⟩
      replace HB := H_ ((un HB).trans (hb.mono (un HB).size))
      clear hb
      go_wp2
      go_ret2
      exact RPost.no (un Hu) (un HB)
     | false =>
      rw [hr] at HA
      rw [hr, if_neg (by simp)] at hst
      have HN := H_ ((un HR).some hlt hst)
      have z1 : ((⟨#[s[p]]⟩ : ByteArray).size : Int) = 1 := rfl
      have HS : Hid ((o ++ ⟨#[s[p]]⟩).size <= p + 1) := H_ (by rw [ByteArray.size_append]; show o.size + 1 <= _; omega)
      have HN2 : Hid (Rdn false s (p + 1) (o ++ ⟨#[s[p]]⟩)) := un HN
      clear HN hst
      clear hr h0 h92
      go_wp2_with fail
      refine ((un HA) _).mono ?_
      rintro e w2 ⟨rfl, hb⟩
      replace HB := H_ ((un HB).trans (hb.mono (un HB).size))
      clear hb
      go_wp2
      go_roundw
      case rel => exact ⟨p + 1, _, by omega, rfl, by simp, un HS, un HN2, un HB⟩
      case measure => simp [intOf]; omega
   ·have hge : ¬ (p : Int) < s.size := by omega
    have Hu : Hid (und false s = (o, 0)) := H_ (by rw [(un HU).2.1 _ ((un HR).over hlt)])
    go_wp2
    go_ret2
    exact RPost.yes (un Hu) (un HB)
end Go.Proofs.YtjhnblgamodekaaGreatDoor.E
/-
 What the document's own pieces of layer 8 answers. Conditions: none.
-/
namespace Go.Proofs.YtjhnblgamodekaaGreatDoor.F
open Go Go.RowKit Go.Shelf Fp
open D (H_ un)
open Dp (mp)
open E (und)
attribute [local go_sem] Oper.semAt_some
def PsPost (o : Option (List ByteArray)) (w : World) (e : Ending) (W : World) : Prop := Below w.heap.size w W /\
 ((o = none /\ e = .returned (.tuple #[.slice none 0 0, .bool false])) \/ ∃ xs v, o = some xs /\ e = .returned (.tuple #[v, .bool true]) /\ W.ownsRow w.heap.size 9 1 v xs.length (strs xs))
abbrev dt (t : ByteArray) : List UInt8 := t.data.toList
def Pcd (o : Option (List ByteArray)) (t : ByteArray) (xs : List ByteArray) : Prop := o = (mp rdV (spl 42 (dt t))).map (xs ++ ·)
theorem Pcd.bad {o : Option (List ByteArray)} {t : ByteArray} {xs : List ByteArray} {p q : List UInt8} (h : Pcd o t xs) (hc : cutB 42 (dt t) = some (p, q)) (hr : rdV p = none) : o = none := by
 unfold Pcd at h
 rw [h, spl_cut, hc]
 simp only
 rw [mp, hr]
 rfl
theorem Pcd.next {o : Option (List ByteArray)} {t t' : ByteArray} {xs : List ByteArray} {p q : List UInt8} {v : ByteArray} (h : Pcd o t xs) (hc : cutB 42 (dt t) = some (p, q)) (hr : rdV p = some v) (ht : dt t' = q) : Pcd o t' (xs ++ [v]) := by
 unfold Pcd at h ⊢
 rw [h, spl_cut, hc]
 simp only
 rw [mp, hr, ht]
 cases mp rdV (spl 42 q) <;> simp
theorem Pcd.lastBad {o : Option (List ByteArray)} {t : ByteArray} {xs : List ByteArray} (h : Pcd o t xs) (hc : cutB 42 (dt t) = none) (hr : rdV (dt t) = none) : o = none := by
 unfold Pcd at h
 rw [h, spl_cut, hc]
 simp only
 rw [mp, hr]
 rfl
theorem Pcd.last {o : Option (List ByteArray)} {t : ByteArray} {xs : List ByteArray} {v : ByteArray} (h : Pcd o t xs) (hc : cutB 42 (dt t) = none) (hr : rdV (dt t) = some v) : o = some (xs ++ [v]) := by
 unfold Pcd at h
 rw [h, spl_cut, hc]
 simp only
 rw [mp, hr]
 rfl
theorem rdV_nil : rdV [] = some ⟨#[]⟩ := by kernel_rfl
theorem Pcd.over {o : Option (List ByteArray)} {t : ByteArray} {xs : List ByteArray} (h : Pcd o t xs) (ht : dt t = []) : o = some (xs ++ [⟨#[]⟩]) := by
 refine h.last ?_ ?_
 ·rw [ht]; rfl
 ·rw [ht]; exact rdV_nil
theorem rdV_of {t : ByteArray} {l : List UInt8} (h : dt t = l) : rdV l = if (und false t).2 = 0 then some (und false t).1 else none := by
 unfold rdV
 rw [<- h]
theorem fnd_cut {c : UInt8} {l p q : List UInt8} (h : cutB c l = some (p, q)) : fnd c 0 l = (p.length : Int) := by
 unfold fnd
 rw [List.drop_zero, h]
 simp
theorem fnd_none {c : UInt8} {l : List UInt8} (h : cutB c l = none) : fnd c 0 l = -1 := by
 unfold fnd
 rw [List.drop_zero, h]
def strLen (v : Value) : Nat := match v with
 | .string b => b.size
 | _ => 0
theorem cut_sizes {t : ByteArray} {p q : List UInt8} {c : UInt8} (h : cutB c (dt t) = some (p, q)) : t.size = p.length + 1 + q.length /\ dt (t.extract 0 p.length) = p /\ dt (t.extract (p.length + 1) t.size) = q := by
 obtain ⟨e, _⟩ := cutB_some c _ _ _ h
 have hl : t.size = (dt t).length := Array.length_toList.symm
 have hz : t.size = p.length + 1 + q.length := by rw [hl, e]; simp; omega
 refine ⟨hz, ?_, ?_⟩
 ·show (t.extract 0 p.length).data.toList = p
  rw [ByteArray.data_extract, Array.toList_extract, List.extract_eq_take_drop]
  show List.take (p.length - 0) (List.drop 0 (dt t)) = p
  rw [e]
  simp
 ·show (t.extract (p.length + 1) t.size).data.toList = q
  rw [ByteArray.data_extract, Array.toList_extract, List.extract_eq_take_drop]
  show List.take (t.size - (p.length + 1)) (List.drop (p.length + 1) (dt t)) = q
  rw [e, show p ++ c :: q = (p ++ [c]) ++ q by simp, List.drop_append_of_le_length (by simp)]
  rw [List.drop_eq_nil_of_le (by simp), List.nil_append, List.take_of_length_le (by omega)]
theorem ne_forms {t : ByteArray} (h : t.size ≠ 0) : (t.toList == ([] : List UInt8)) = false := by
 rw [beq_eq_false_iff_ne, ByteArray.toList_eq]
 intro e
 exact h (by rw [show t.size = t.data.toList.length from (Array.length_toList).symm, e]; rfl)
theorem nil_of {t : ByteArray} (h : t.size = 0) : t = ⟨#[]⟩ := by
 cases t with
 | mk d => congr 1; exact Array.eq_empty_of_size_eq_zero h
theorem all_of_it (t : ByteArray) : t.extract 0 t.size = t := by
 refine ByteArray.ext (Array.ext' ?_)
 rw [ByteArray.data_extract, Array.toList_extract, List.extract_eq_take_drop, List.drop_zero, Nat.sub_zero, List.take_of_length_le (by rw [Array.length_toList]; exact Nat.le_refl _)]
theorem refPcs_any (s : ByteArray) (w : World) (hs : s.size <= 900) :
  Calls Tryz.prog 76 #[.string s] w (PsPost (mp rdV (spl 42 s.data.toList)) w) := by
 obtain ⟨o, ho⟩ : ∃ o, mp rdV (spl 42 s.data.toList) = o := ⟨_, rfl⟩
 rw [ho]
 have H0 : Hid (Pcd o s []) := H_ (by unfold Pcd; rw [<- ho]; cases mp rdV (spl 42 s.data.toList) <;> simp)
 have HO0 : Hid (w.ownsRow w.heap.size 9 1 (.slice none 0 0) 0 (strs [])) := H_ (World.ownsRow_nil _ _ _ _)
 clear ho
 obtain ⟨i0, hi0, hz0, hz1, hz2⟩ := infoS
 go_enter Tryz.func76, Tryz.ntmps76
 go_wp2
 go_loopw [0, 4] (fun sv u wr => ∃ (t : ByteArray) (xs : List ByteArray), sv = .string t /\ xs.length <= 1000 /\ t.size <= 900 /\ Hid (wr.ownsRow w.heap.size 9 1 u xs.length (strs xs)) /\ Hid (Below w.heap.size w wr) /\
   ((t.size = 0 /\ xs.length ≠ 0 /\ Hid (o = some xs)) \/ ((t.size ≠ 0 \/ xs.length = 0) /\ xs.length + t.size <= 901 /\ Hid (Pcd o t xs))))
  (fun sv _ _ => strLen sv)
 case atStart => exact ⟨s, [], rfl, by simp, hs, HO0, H_ (Below.refl _ _), .inr ⟨.inr rfl, by simp; omega, H0⟩⟩
 case round =>
  obtain ⟨t, xs, rfl, hxl, hts, hown, hb, hd⟩ := hrel
  clear HO0 H0
  obtain ⟨sa, sc, rfl, _⟩ := own_strs (un hown) rfl
  have htsi : (t.size : Int) <= 900 := by omega
  rcases hd with ⟨ht0, hx0, hoe⟩ | ⟨hgo, hxt, hP⟩
  ·obtain rfl := nil_of ht0
   have hxz : ((xs.length : Int) == 0) = false := by rw [beq_eq_false_iff_ne]; omega
   clear ht0 hx0 hts htsi
   go_wp2
   go_ret2
   exact ⟨un hb, .inr ⟨xs, _, un hoe, rfl, un hown⟩⟩
  ·have HZb := hb
   have HF := H_ fun W => refFind_any t 42 0 W (by omega) (Nat.zero_le _)
   have hgg : (t.toList == ([] : List UInt8)) = false \/ (t = ⟨#[]⟩ /\ xs = []) := by
    rcases hgo with h | h
    ·exact .inl (ne_forms h)
    ·by_cases h0 : t.size = 0
     ·exact .inr ⟨nil_of h0, List.eq_nil_of_length_eq_zero h⟩
     ·exact .inl (ne_forms h0)
   clear hgo
   rcases hgg with hne | ⟨rfl, rfl⟩
   ·cases hc : cutB 42 (dt t) with
    | none =>
     rw [fnd_none hc] at HF
     have HR := H_ fun W => E.refReadFilter_any t W (by omega)
     have hrv := rdV_of (t := t) rfl
     unfold E.RPost at HR
     have hall := all_of_it t
     generalize und false t = ve at *
     obtain ⟨v, er⟩ := ve
     dsimp only at HR hrv
     by_cases her : er = 0
     ·rw [if_pos her] at hrv
      have HL := H_ ((un hP).last hc hrv)
      subst her
      clear hc hrv hP
      go_wp2_with fail
      refine ((un HF) _).mono ?_
      rintro e w1 ⟨rfl, rfl⟩
      go_wp2_with fail
      refine ((un HR) _).mono ?_
      rintro e w2 ⟨rfl, hb2⟩
      have HZ0 := H_ ((un hb).trans (hb2.mono (un hb).size))
      have HO2 := H_ (own_below (un hown) hb2)
      clear hb2 HF HR hown hb HZb
      have HN0 := H_ (C.news w2 [.string v] 9)
      have HA0 := H_ ((un HO2).alloc (.cells #[.string v] 9))
      have hzn0 : w.heap.size <= (w2.alloc (.cells #[.string v] 9)).heap.size := by have := (un HZ0).size; simp; omega
      go_wp2_with (at_builtin; refine wpList_append_lies _ rfl (.tmp 30) (.tmp 32) 22 rfl w.heap.size 9 i0 (.string ⟨#[]⟩) 1 16 Tryz.underlying22 hi0 hz0 hz1 hz2 rfl (by omega) _ xs.length _ rfl (un HA0) ⟨w2.heap.size, 0, none⟩ 1 1 [.string v] rfl rfl (un HN0) (by simp [Value.oneCell']) (by omega) (by unfold maxLen; omega) (by omega) hzn0 (w2.heap.size + 1) (by simp) ?_; intro g0 cp0 v0 hown0 hgrow0 hat0 hglt0; replace hown0 := H_ hown0; replace hgrow0 := H_ (grown_below (un HZ0) (Nat.le_refl _) (Nat.le_refl _) (un HO2) hgrow0); clear hat0 hglt0 hzn0 HN0)
      go_ret2
      refine ⟨un hgrow0, .inr ⟨_, _, un HL, rfl, ?_⟩⟩
      rw [List.length_append, <- strs_app]
      exact un hown0
     ·rw [if_neg her] at hrv
      have HL := H_ ((un hP).lastBad hc hrv)
      have hern : (er != 0) = true := by simpa using her
      have her0 : (er == 0) = false := by simpa using her
      clear hc hrv hP her
      go_wp2_with fail
      refine ((un HF) _).mono ?_
      rintro e w1 ⟨rfl, rfl⟩
      go_wp2_with fail
      refine ((un HR) _).mono ?_
      rintro e w2 ⟨rfl, hb2⟩
      have HZ0 := H_ ((un hb).trans (hb2.mono (un hb).size))
      clear hb2 HF HR hown hb HZb
      go_wp2
      go_ret2
      exact ⟨un HZ0, .inl ⟨un HL, rfl⟩⟩
    | some pq =>
     obtain ⟨p, q⟩ := pq
     obtain ⟨hz, hp, hq⟩ := cut_sizes hc
     have hfc := fnd_cut hc
     rw [hfc] at HF
     obtain ⟨k, hk⟩ : ∃ k, p.length = k := ⟨_, rfl⟩
     rw [hk] at hz hp hq HF
     obtain ⟨P, hP1⟩ : ∃ P, t.extract 0 k = P := ⟨_, rfl⟩
     obtain ⟨Q, hQ1⟩ : ∃ Q, t.extract (k + 1) t.size = Q := ⟨_, rfl⟩
     rw [hP1] at hp
     rw [hQ1] at hq
     have hPz : P.size = k := by rw [show P.size = (dt P).length from Array.length_toList.symm, hp, hk]
     have hQz : Q.size = q.length := by rw [show Q.size = (dt Q).length from Array.length_toList.symm, hq]
     have HR := H_ fun W => E.refReadFilter_any P W (by omega)
     have hrv := rdV_of hp
     unfold E.RPost at HR
     generalize und false P = ve at *
     obtain ⟨v, er⟩ := ve
     dsimp only at HR hrv
     have hkt : (k : Int) < t.size := by omega
     have hke : ((k : Int) == (t.size : Int)) = false := by rw [beq_eq_false_iff_ne]; omega
     have hk0 : ¬ (k : Int) < 0 := by omega
     by_cases her : er = 0
     ·rw [if_pos her] at hrv
      have HL := H_ ((un hP).next hc hrv hq)
      subst her
      have hxq : xs.length + 1 + Q.size <= 901 := by omega
      have hQl : Q.size < t.size := by omega
      by_cases hq0 : Q.size = 0
      ·have HLo := H_ ((un HL).over (by rw [hq]; exact List.eq_nil_of_length_eq_zero (by omega)))
       have hQn := nil_of hq0
       rw [hQn] at hQ1 hQl
       clear hc hrv hP hp hq hz hPz hQz hfc hq0 hQn HL hk hxq
       go_wp2_with fail
       refine ((un HF) _).mono ?_
       rintro e w1 ⟨rfl, rfl⟩
       go_wp2_with fail
       refine ((un HR) _).mono ?_
       rintro e w2 ⟨rfl, hb2⟩
       have HZ0 := H_ ((un hb).trans (hb2.mono (un hb).size))
       have HO2 := H_ (own_below (un hown) hb2)
       clear hb2 HF HR hown hb HZb
       have HN0 := H_ (C.news w2 [.string v] 9)
       have HA0 := H_ ((un HO2).alloc (.cells #[.string v] 9))
       have hzn0 : w.heap.size <= (w2.alloc (.cells #[.string v] 9)).heap.size := by have := (un HZ0).size; simp; omega
       go_wp2_with (first | (at_builtin; refine wpList_append_lies _ rfl (.tmp 30) (.tmp 32) 22 rfl w.heap.size 9 i0 (.string ⟨#[]⟩) 1 16 Tryz.underlying22 hi0 hz0 hz1 hz2 rfl (by omega) _ xs.length _ rfl (un HA0) ⟨w2.heap.size, 0, none⟩ 1 1 [.string v] rfl rfl (un HN0) (by simp [Value.oneCell']) (by omega) (by unfold maxLen; omega) (by omega) hzn0 (w2.heap.size + 1) (by simp) ?_; intro g0 cp0 v0 hown0 hgrow0 hat0 hglt0; replace hown0 := H_ hown0; replace hgrow0 := H_ (grown_below (un HZ0) (Nat.le_refl _) (Nat.le_refl _) (un HO2) hgrow0); clear hat0 hglt0 hzn0 HN0; have HZ1 := hgrow0; have HN1 := H_ (C.news v0 [.string ⟨#[]⟩] 9); have HA1 := H_ ((un hown0).alloc (.cells #[.string ⟨#[]⟩] 9)); have hzn1 : w.heap.size <= (v0.alloc (.cells #[.string ⟨#[]⟩] 9)).heap.size := by have := (un HZ1).size; simp; omega) | (at_builtin; refine wpList_append_lies _ rfl (.tmp 45) (.tmp 46) 22 rfl w.heap.size 9 i0 (.string ⟨#[]⟩) 1 16 Tryz.underlying22 hi0 hz0 hz1 hz2 rfl (by omega) _ (xs.length + 1) _ rfl (un HA1) ⟨v0.heap.size, 0, none⟩ 1 1 [.string ⟨#[]⟩] rfl rfl (un HN1) (by simp [Value.oneCell']) (by omega) (by unfold maxLen; omega) (by omega) hzn1 (v0.heap.size + 1) (by simp) ?_; intro g1 cp1 v1 hown1 hgrow1 hat1 hglt1; replace hown1 := H_ hown1; replace hgrow1 := H_ (grown_below (un HZ1) (Nat.le_refl _) (Nat.le_refl _) (un hown0) hgrow1); clear hat1 hglt1 hzn1 HN1))
       go_roundw
       case rel =>
        refine ⟨⟨#[]⟩, xs ++ [v] ++ [⟨#[]⟩], rfl, ?_, by decide, ?_, hgrow1, .inl ⟨rfl, by simp, HLo⟩⟩
        ·simp only [List.length_append, List.length_cons, List.length_nil]
         omega
        ·rw [List.length_append, List.length_append, <- strs_app, <- strs_app]
         exact hown1
       case measure => show (0 : Nat) < t.size; omega
      ·have hQn := ne_forms hq0
       have hQm : ¬ Q.size = 0 := hq0
       clear hc hrv hP hp hq hz hPz hQz hfc hq0 hk
       have HQm := H_ hQm
       clear hQm
       go_wp2_with fail
       refine ((un HF) _).mono ?_
       rintro e w1 ⟨rfl, rfl⟩
       go_wp2_with fail
       refine ((un HR) _).mono ?_
       rintro e w2 ⟨rfl, hb2⟩
       have HZ0 := H_ ((un hb).trans (hb2.mono (un hb).size))
       have HO2 := H_ (own_below (un hown) hb2)
       clear hb2 HF HR hown hb HZb
       have HN0 := H_ (C.news w2 [.string v] 9)
       have HA0 := H_ ((un HO2).alloc (.cells #[.string v] 9))
       have hzn0 : w.heap.size <= (w2.alloc (.cells #[.string v] 9)).heap.size := by have := (un HZ0).size; simp; omega
       go_wp2_with (at_builtin; refine wpList_append_lies _ rfl (.tmp 30) (.tmp 32) 22 rfl w.heap.size 9 i0 (.string ⟨#[]⟩) 1 16 Tryz.underlying22 hi0 hz0 hz1 hz2 rfl (by omega) _ xs.length _ rfl (un HA0) ⟨w2.heap.size, 0, none⟩ 1 1 [.string v] rfl rfl (un HN0) (by simp [Value.oneCell']) (by omega) (by unfold maxLen; omega) (by omega) hzn0 (w2.heap.size + 1) (by simp) ?_; intro g0 cp0 v0 hown0 hgrow0 hat0 hglt0; replace hown0 := H_ hown0; replace hgrow0 := H_ (grown_below (un HZ0) (Nat.le_refl _) (Nat.le_refl _) (un HO2) hgrow0); clear hat0 hglt0 hzn0 HN0)
       go_roundw
       case rel =>
        refine ⟨Q, xs ++ [v], rfl, by simp; omega, by omega, ?_, hgrow0, .inr ⟨.inl (un HQm), by rw [List.length_append]; exact hxq, HL⟩⟩
        rw [List.length_append, <- strs_app]
        exact hown0
       case measure => exact hQl
     ·rw [if_neg her] at hrv
      have HL := H_ ((un hP).bad hc hrv)
      have hern : (er != 0) = true := by simpa using her
      have her0 : (er == 0) = false := by simpa using her
      clear hc hrv hP her hp hq hz hPz hQz hfc hk
      go_wp2_with fail
      refine ((un HF) _).mono ?_
      rintro e w1 ⟨rfl, rfl⟩
      go_wp2_with fail
      refine ((un HR) _).mono ?_
      rintro e w2 ⟨rfl, hb2⟩
      have HZ0 := H_ ((un hb).trans (hb2.mono (un hb).size))
      clear hb2 HF HR hown hb HZb
      go_wp2
      go_ret2
      exact ⟨un HZ0, .inl ⟨un HL, rfl⟩⟩
   ·have HR := H_ fun W => E.refReadFilter_any (⟨#[]⟩ : ByteArray) W (by decide)
    rw [show E.RPost false (⟨#[]⟩ : ByteArray) = fun w e w' => e = .returned (.tuple #[.string ⟨#[]⟩, .int .i64 0]) /\ Below w.heap.size w w' from by kernel_rfl] at HR
    rw [show fnd 42 0 (⟨#[]⟩ : ByteArray).data.toList = -1 by kernel_rfl] at HF
    have HL := H_ ((un hP).over rfl)
    clear hP
    go_wp2_with fail
    refine ((un HF) _).mono ?_
    rintro e w1 ⟨rfl, rfl⟩
    go_wp2_with fail
    refine ((un HR) _).mono ?_
    rintro e w2 ⟨rfl, hb2⟩
    have HZ0 := H_ ((un hb).trans (hb2.mono (un hb).size))
    have HO2 := H_ (own_below (un hown) hb2)
    clear hb2 HF HR hown hb HZb
    have HN0 := H_ (C.news w2 [.string ⟨#[]⟩] 9)
    have HA0 := H_ ((un HO2).alloc (.cells #[.string ⟨#[]⟩] 9))
    have hzn0 : w.heap.size <= (w2.alloc (.cells #[.string ⟨#[]⟩] 9)).heap.size := by have := (un HZ0).size; simp; omega
    go_wp2_with (at_builtin; refine wpList_append_lies _ rfl (.tmp 30) (.tmp 32) 22 rfl w.heap.size 9 i0 (.string ⟨#[]⟩) 1 16 Tryz.underlying22 hi0 hz0 hz1 hz2 rfl (by omega) _ 0 _ rfl (un HA0) ⟨w2.heap.size, 0, none⟩ 1 1 [.string ⟨#[]⟩] rfl rfl (un HN0) (by simp [Value.oneCell']) (by omega) (by unfold maxLen; omega) (by omega) hzn0 (w2.heap.size + 1) (by simp) ?_; intro g0 cp0 v0 hown0 hgrow0 hat0 hglt0; replace hown0 := H_ hown0; replace hgrow0 := H_ (grown_below (un HZ0) (Nat.le_refl _) (Nat.le_refl _) (un HO2) hgrow0); clear hat0 hglt0 hzn0 HN0)
    go_ret2
    exact ⟨un hgrow0, .inr ⟨_, _, un HL, rfl, un hown0⟩⟩
end Go.Proofs.YtjhnblgamodekaaGreatDoor.F
