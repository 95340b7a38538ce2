/- What code.coder.add lays: the signs of a group of bytes behind others. Conditions: none. -/
import Derived.Test.YtmenllnokgjdlaaGreatDoorNrm
import Derived.Test.YtmenllnokgjdlaaGreatDoorG04
import Derived.Deep.AppendLies
set_option linter.unusedSimpArgs false
set_option maxHeartbeats 8000000
set_option maxRecDepth 100000
namespace Go.Proofs.YtmenllnokgjdlaaGreatDoor.C
open Go Go.RowKit Cd
def cells (l : List UInt8) : List Value := l.map fun x => .int .u8 (x.toNat : Int)
theorem cells_snoc (l : List UInt8) (x : UInt8) : cells (l ++ [x]) = cells l ++ [.int .u8 (x.toNat : Int)] := by simp [cells]
theorem infoB : ∃ i, Tryz.prog.info? 5 = some i /\ i.zero = some (.int .u8 0) /\ i.size = 1 /\ i.bytes = 1 := ⟨Tryz.t5, by kernel_rfl, by kernel_rfl, by kernel_rfl, by kernel_rfl⟩
theorem news (w : World) (l : List Value) (t : TypeId) : ∀ (j : Nat) (u : Value), l[j]? = some u -> (w.alloc (.cells l.toArray t)).cell? ((⟨w.heap.size, 0, none⟩ : Addr).add j) = some u := by
 intro j u h
 rw [Addr.add_lit, Nat.zero_add, World.cell?_alloc_at _ _ _ _ rfl]
 simpa using h
def grj (k : Kd) (g : List UInt8) (j : Nat) : List UInt8 := (List.range j).map fun i => if 8 * g.length <= i * k.bt then 61 else k.sg (pk g / 2 ^ (24 - k.bt * (i + 1)) % 2 ^ k.bt)
theorem grj_succ (k : Kd) (g : List UInt8) (j : Nat) : grj k g (j + 1) = grj k g j ++ [if 8 * g.length <= j * k.bt then 61 else k.sg (pk g / 2 ^ (24 - k.bt * (j + 1)) % 2 ^ k.bt)] := by
 simp [grj, List.range_succ]
theorem pk_lt (g : List UInt8) : pk g < 16777216 := by
 match g with
 | [] => decide
 | [a] => have := a.toNat_lt; show a.toNat * 65536 < _; omega
 | [a, b] => have := a.toNat_lt; have := b.toNat_lt; show a.toNat * 65536 + b.toNat * 256 < _; omega
 | [a, b, c] => have := a.toNat_lt; have := b.toNat_lt; have := c.toNat_lt; show a.toNat * 65536 + b.toNat * 256 + c.toNat < _; omega
 | _ :: _ :: _ :: _ :: _ => show 0 < _; omega
theorem grown_keeps {w w' : World} {o : Obj} {base B i m : Nat} {v : Value} {xs : List Value} (ho : w.ownsRow base 5 1 v m xs) (hg : (w.drew.alloc o).grownBy w' v.ownBlock) (hB : B < base) (hl : B < w.heap.size) : w'.cell? ⟨B, i, none⟩ = (w.drew.alloc o).cell? ⟨B, i, none⟩ :=
 hg.cell_far _ (by show B < (w.drew.alloc o).heap.size; simp; show B < w.heap.size + 1; omega) (fun e => by have := (ho.lt B e.symm).1; omega)
def Bel (base : Nat) (w w' : World) : Prop := Below base w w' /\ KeepsOthers w w'
theorem bel_refl (base : Nat) (w : World) : Bel base w w := ⟨Below.refl _ _, ⟨Nat.le_refl _, fun _ _ h _ => h⟩⟩
theorem add_below2 {w w1 w' : World} {o : Obj} {base m : Nat} {v : Value} {xs : List Value} (h : Bel base w w1) (ho : w1.ownsRow base 5 1 v m xs) (hg : (w1.alloc o).grownBy w' v.ownBlock) (hb : base <= w.heap.size) : Bel base w w' := by
 obtain ⟨h, hK⟩ := h
 have hs := hg.size
 have hz := h.size
 refine ⟨⟨hg.os.trans h.os, hg.tape.trans h.tape, hg.output.trans h.output, by simp at hs; omega, fun k hk => ?_⟩, hK.trans ⟨by simp at hs; omega, fun k o' hk hc => ?_⟩⟩
 ·rw [hg.block k (by simp; omega) (fun e => by have := (ho.lt k e.symm).1; omega)]
  exact (heap_alloc_old _ _ (by omega)).trans (h.block k hk)
 ·have hkl := (Array.getElem?_eq_some_iff.1 hk).1
  rw [hg.block k (by simp; omega) (fun e => ?_)]
  ·exact (heap_alloc_old _ _ hkl).trans hk
  ·rcases ho.2 with ⟨rfl, _⟩ | ⟨g, cap, cur, rfl, _, hgb, _⟩
   ·cases e
   ·cases e
    rw [hk] at hgb
    cases hgb
    cases hc
theorem add_below {w w1 w' : World} {o : Obj} {base m : Nat} {v : Value} {xs : List Value} (h : Bel base w w1) (ho : w1.ownsRow base 5 1 v m xs) (hg : (w1.drew.alloc o).grownBy w' v.ownBlock) (hb : base <= w.heap.size) : Bel base w w' :=
 add_below2 (w1 := w1.drew) ⟨h.1.drew, ⟨h.2.size, h.2.same⟩⟩ ho.drew hg hb
def AddPost (k : Kd) (g : List UInt8) (base m : Nat) (xs : List Value) (w : World) (e : Ending) (w' : World) : Prop := ∃ v', e = .returned v' /\ w'.ownsRow base 5 1 v' (m + k.wd) (xs ++ cells (gr k g)) /\ Bel base w w'
theorem addH (B : Nat) (s : ByteArray) (w : World) (base : Nat) (v : Value) (m : Nat) (xs : List Value) (h1 : 1 <= s.size) (h3 : s.size <= 1) (hc : Cod kH w B) (hBb : B < base) (ho : w.ownsRow base 5 1 v m xs) (hm : m <= 100000) (hb : base <= w.heap.size) :
  Calls Tryz.prog 186 #[.pointer (some ⟨B, 0, none⟩), v, .string s] w (AddPost kH s.data.toList base m xs w) := by
 have hw : w.cell? ⟨B, 193, none⟩ = some (.int .i64 2) := hc.wi
 have hpk := pack_any s w h1 (by omega)
 have hlen : s.data.toList.length = s.size := by simp
 have hpl : pk s.data.toList < 16777216 := pk_lt _
 obtain ⟨i0, hi0, hz0, hz1, hz2⟩ := infoB
 generalize hX : pk s.data.toList = X at *
 go_enter Tryz.func186, Tryz.ntmps186
 go_wp2_with fail
 refine hpk.mono ?_
 rintro e w1 ⟨rfl, rfl⟩
 clear hpk
 go_wp2
 go_loopw [1, 16] (fun sl ix wr => ∃ j : Nat, j <= 2 /\ ix = .int .i64 (j : Int) /\ wr.ownsRow base 5 1 sl (m + j) (xs ++ cells (grj kH s.data.toList j)) /\ Bel base w1 wr)
  (fun _ ix _ => 2 - (intOf ix).toNat)
 case atStart =>
  exact ⟨0, Nat.zero_le _, rfl, by simpa [grj, cells] using ho, bel_refl _ _⟩
 case round =>
  obtain ⟨j, hj, rfl, ho2, hbl⟩ := hrel
  have hc2 := hc.below hBb hbl.1
  have hbi : wr.cell? ⟨B, 194, none⟩ = some (.int .i64 4) := hc2.bi
  have Hlt := H_ hc2.lt
  have Hc2 := H_ hc2
  have Ho2 := H_ ho2
  have Ho := H_ ho
  have Hbl := H_ hbl
  have HX := H_ hX
  clear hc2 hc ho2 ho hbl hw hX
  obtain rfl | rfl | rfl : j = 0 \/ j = 1 \/ j = 2 := by omega
  ·clear hj
   have hsn : (if 8 * s.data.toList.length <= 0 * kH.bt then (61 : UInt8) else kH.sg (pk s.data.toList / 2 ^ (24 - kH.bt * (0 + 1)) % 2 ^ kH.bt)) = kH.sg (X / 1048576 % 16) := by
    rw [if_neg (by rw [hlen]; show ¬ 8 * s.size <= 0 * 4; omega), un HX]
    rfl
   have hfl : ¬ (8 * (s.size : Int) <= 0) := by omega
   go_wp2_with fail
   have hD : X / 1048576 < 16777216 := by omega
   rw [show (X : Int) / 1048576 = ((X / 1048576 : Nat) : Int) by omega]
   generalize X / 1048576 = P at *
   have hsg := H_ (sign_any kH B (P % 16) wr.drew ((un Hc2).below (un Hlt) ((Below.refl _ _).drew)) (show P % 16 < 16 by omega) (by omega))
   generalize kH.sg (P % 16) = x at *
   have hS0 : wr.drew.cell? ⟨B, 194, none⟩ = some (.int .i64 4) := hbi
   have hS2 : (wr.drew.alloc (.cells #[.int .u8 (x.toNat : Int)] 5)).cell? ⟨B, 194, none⟩ = some (.int .i64 4) := by
    rw [World.cell?_alloc_lt _ _ _ (by exact un Hlt)]
    exact hS0
   have hand : bits .and .i64 (P : Int) 15 = ((P % 16 : Nat) : Int) := and_mask P 4 (by omega) (by decide)
   have HN := H_ (news wr.drew [.int .u8 (x.toNat : Int)] 5)
   have HO := H_ ((un Ho2).drew.alloc (.cells #[.int .u8 (x.toNat : Int)] 5))
   refine wp_region_held (S := fun w' => w'.cell? ⟨B, 194, none⟩ = some (.int .i64 4)) (by kernel_rfl) ?_
   change wpAnyH _ _ _ _ _ 16 #[false, false, false, false, false, false, false, false, false, false, false, false, false, false, false, false] _ wr.drew
   refine tkk 0 (u1) rfl (by intro w1 hS1; go_simp; try rfl) hS0 ?_
   simp only [Act.put, nrm]
   refine tkk 1 (.pointer (some ⟨B, 0, none⟩)) rfl (by intro w1 hS1; go_simp; try rfl) hS0 ?_
   simp only [Act.put, nrm]
   refine tkk 2 (.pointer (some ⟨B, 0, none⟩)) rfl (by intro w1 hS1; go_simp; try rfl) hS0 ?_
   simp only [Act.put, nrm]
   refine tkk 3 (.pointer (some ⟨B, 0, none⟩)) rfl (by intro w1 hS1; go_simp; try rfl) hS0 ?_
   simp only [Act.put, nrm]
   refine tkk 4 (.int .i64 (P : Int)) rfl (by intro w1 hS1; go_simp; try rfl) hS0 ?_
   simp only [Act.put, nrm]
   refine tkk 5 (.pointer (some ⟨B, 0, none⟩)) rfl (by intro w1 hS1; go_simp; try rfl) hS0 ?_
   simp only [Act.put, nrm]
   refine tkk 6 (.pointer (some ⟨B, 0, none⟩)) rfl (by intro w1 hS1; go_simp; try rfl) hS0 ?_
   simp only [Act.put, nrm]
   refine tkk 7 (.pointer (some ⟨B, 194, none⟩)) rfl (by intro w1 hS1; go_simp; try rfl) hS0 ?_
   simp only [Act.put, nrm]
   refine tkk 8 (.int .i64 4) rfl (by intro w1 hS1; go_simp; try rfl) hS0 ?_
   simp only [Act.put, nrm]
   refine tkk 9 (.int .i64 16) rfl (by intro w1 hS1; go_simp; try rfl) hS0 ?_
   simp only [Act.put, nrm]
   refine tkk 10 (.int .i64 15) rfl (by intro w1 hS1; go_simp; try rfl) hS0 ?_
   simp only [Act.put, nrm]
   refine tkk 11 (.int .i64 ((P % 16 : Nat) : Int)) rfl (by intro w1 hS1; go_simp; try rfl) hS0 ?_
   simp only [Act.put, nrm]
   refine rdyy 12 rfl (fun K hK => ?_)
   rw [if_pos (by kernel_rfl)]
   go_wp2_with fail
   refine (un hsg).mono ?_
   rintro e w' ⟨rfl, rfl⟩
   go_wp2
   refine hK.out _ _ hS0 (fun _ => ?_)
   clear hK K
   simp only [Act.put, nrm]
   refine rdyy 13 rfl (fun K hK => ?_)
   rw [if_pos (by kernel_rfl)]
   go_simp
   refine hK.out _ _ hS2 (fun _ => ?_)
   clear hK K
   simp only [Act.put, nrm]
   refine rdyy 14 rfl (fun K hK => ?_)
   rw [if_pos (by kernel_rfl)]
   refine wp_append_lies _ (.tmp 42) (.tmp 55) 152 rfl base 5 i0 (.int .u8 0) 1 1 Tryz.underlying152 hi0 hz0 hz1 hz2 rfl (by omega) u1 (m + 0) _ rfl (un HO) ⟨wr.heap.size, 0, none⟩ 1 1 [.int .u8 (x.toNat : Int)] rfl rfl (un HN) (by simp [Value.oneCell']) (by omega) (by unfold maxLen; omega) (by omega) (by have := (un Hbl).1.size; show base <= (wr.drew.alloc _).heap.size; simp; omega) (wr.heap.size + 1) (by simp) ?_
   intro gg cp w4 hown hgrow hat hglt
   have hS4 : w4.cell? ⟨B, 194, none⟩ = some (.int .i64 4) := (grown_keeps (un Ho2) hgrow hBb (un Hlt)).trans hS2
   refine hK.out _ _ hS4 (fun _ => ?_)
   clear hK K
   have Hown := H_ hown
   have Hgrow := H_ hgrow
   clear hown hgrow hat
   simp only [Act.put, nrm]
   refine tkk 15 (.slice (some ⟨gg, 0, none⟩) (m + 0 + 1) cp) rfl (by intro w1 hS1; go_simp; try rfl) hS4 ?_
   simp only [Act.put, nrm]
   refine wpAnyH_done (by kernel_rfl) ?_ _
   go_wp2
   go_roundw
   case rel =>
    refine ⟨1, by omega, by simp, ?_, add_below (un Hbl) (un Ho2) (un Hgrow) hb⟩
    rw [grj_succ, hsn, cells_snoc, <- List.append_assoc]
    exact un Hown
   case measure => simp [intOf] <;> omega
  ·clear hj
   have hsn : (if 8 * s.data.toList.length <= 1 * kH.bt then (61 : UInt8) else kH.sg (pk s.data.toList / 2 ^ (24 - kH.bt * (1 + 1)) % 2 ^ kH.bt)) = kH.sg (X / 65536 % 16) := by
    rw [if_neg (by rw [hlen]; show ¬ 8 * s.size <= 1 * 4; omega), un HX]
    rfl
   have hfl : ¬ (8 * (s.size : Int) <= 4) := by omega
   go_wp2_with fail
   have hD : X / 65536 < 16777216 := by omega
   rw [show (X : Int) / 65536 = ((X / 65536 : Nat) : Int) by omega]
   generalize X / 65536 = P at *
   have hsg := H_ (sign_any kH B (P % 16) wr.drew ((un Hc2).below (un Hlt) ((Below.refl _ _).drew)) (show P % 16 < 16 by omega) (by omega))
   generalize kH.sg (P % 16) = x at *
   have hS0 : wr.drew.cell? ⟨B, 194, none⟩ = some (.int .i64 4) := hbi
   have hS2 : (wr.drew.alloc (.cells #[.int .u8 (x.toNat : Int)] 5)).cell? ⟨B, 194, none⟩ = some (.int .i64 4) := by
    rw [World.cell?_alloc_lt _ _ _ (by exact un Hlt)]
    exact hS0
   have hand : bits .and .i64 (P : Int) 15 = ((P % 16 : Nat) : Int) := and_mask P 4 (by omega) (by decide)
   have HN := H_ (news wr.drew [.int .u8 (x.toNat : Int)] 5)
   have HO := H_ ((un Ho2).drew.alloc (.cells #[.int .u8 (x.toNat : Int)] 5))
   refine wp_region_held (S := fun w' => w'.cell? ⟨B, 194, none⟩ = some (.int .i64 4)) (by kernel_rfl) ?_
   change wpAnyH _ _ _ _ _ 16 #[false, false, false, false, false, false, false, false, false, false, false, false, false, false, false, false] _ wr.drew
   refine tkk 0 (u1) rfl (by intro w1 hS1; go_simp; try rfl) hS0 ?_
   simp only [Act.put, nrm]
   refine tkk 1 (.pointer (some ⟨B, 0, none⟩)) rfl (by intro w1 hS1; go_simp; try rfl) hS0 ?_
   simp only [Act.put, nrm]
   refine tkk 2 (.pointer (some ⟨B, 0, none⟩)) rfl (by intro w1 hS1; go_simp; try rfl) hS0 ?_
   simp only [Act.put, nrm]
   refine tkk 3 (.pointer (some ⟨B, 0, none⟩)) rfl (by intro w1 hS1; go_simp; try rfl) hS0 ?_
   simp only [Act.put, nrm]
   refine tkk 4 (.int .i64 (P : Int)) rfl (by intro w1 hS1; go_simp; try rfl) hS0 ?_
   simp only [Act.put, nrm]
   refine tkk 5 (.pointer (some ⟨B, 0, none⟩)) rfl (by intro w1 hS1; go_simp; try rfl) hS0 ?_
   simp only [Act.put, nrm]
   refine tkk 6 (.pointer (some ⟨B, 0, none⟩)) rfl (by intro w1 hS1; go_simp; try rfl) hS0 ?_
   simp only [Act.put, nrm]
   refine tkk 7 (.pointer (some ⟨B, 194, none⟩)) rfl (by intro w1 hS1; go_simp; try rfl) hS0 ?_
   simp only [Act.put, nrm]
   refine tkk 8 (.int .i64 4) rfl (by intro w1 hS1; go_simp; try rfl) hS0 ?_
   simp only [Act.put, nrm]
   refine tkk 9 (.int .i64 16) rfl (by intro w1 hS1; go_simp; try rfl) hS0 ?_
   simp only [Act.put, nrm]
   refine tkk 10 (.int .i64 15) rfl (by intro w1 hS1; go_simp; try rfl) hS0 ?_
   simp only [Act.put, nrm]
   refine tkk 11 (.int .i64 ((P % 16 : Nat) : Int)) rfl (by intro w1 hS1; go_simp; try rfl) hS0 ?_
   simp only [Act.put, nrm]
   refine rdyy 12 rfl (fun K hK => ?_)
   rw [if_pos (by kernel_rfl)]
   go_wp2_with fail
   refine (un hsg).mono ?_
   rintro e w' ⟨rfl, rfl⟩
   go_wp2
   refine hK.out _ _ hS0 (fun _ => ?_)
   clear hK K
   simp only [Act.put, nrm]
   refine rdyy 13 rfl (fun K hK => ?_)
   rw [if_pos (by kernel_rfl)]
   go_simp
   refine hK.out _ _ hS2 (fun _ => ?_)
   clear hK K
   simp only [Act.put, nrm]
   refine rdyy 14 rfl (fun K hK => ?_)
   rw [if_pos (by kernel_rfl)]
   refine wp_append_lies _ (.tmp 42) (.tmp 55) 152 rfl base 5 i0 (.int .u8 0) 1 1 Tryz.underlying152 hi0 hz0 hz1 hz2 rfl (by omega) u1 (m + 1) _ rfl (un HO) ⟨wr.heap.size, 0, none⟩ 1 1 [.int .u8 (x.toNat : Int)] rfl rfl (un HN) (by simp [Value.oneCell']) (by omega) (by unfold maxLen; omega) (by omega) (by have := (un Hbl).1.size; show base <= (wr.drew.alloc _).heap.size; simp; omega) (wr.heap.size + 1) (by simp) ?_
   intro gg cp w4 hown hgrow hat hglt
   have hS4 : w4.cell? ⟨B, 194, none⟩ = some (.int .i64 4) := (grown_keeps (un Ho2) hgrow hBb (un Hlt)).trans hS2
   refine hK.out _ _ hS4 (fun _ => ?_)
   clear hK K
   have Hown := H_ hown
   have Hgrow := H_ hgrow
   clear hown hgrow hat
   simp only [Act.put, nrm]
   refine tkk 15 (.slice (some ⟨gg, 0, none⟩) (m + 1 + 1) cp) rfl (by intro w1 hS1; go_simp; try rfl) hS4 ?_
   simp only [Act.put, nrm]
   refine wpAnyH_done (by kernel_rfl) ?_ _
   go_wp2
   go_roundw
   case rel =>
    refine ⟨2, by omega, by simp, ?_, add_below (un Hbl) (un Ho2) (un Hgrow) hb⟩
    rw [grj_succ, hsn, cells_snoc, <- List.append_assoc]
    exact un Hown
   case measure => simp [intOf] <;> omega
  ·clear hbi
   go_wp2
   go_ret
   exact ⟨_, rfl, un Ho2, un Hbl⟩
end Go.Proofs.YtmenllnokgjdlaaGreatDoor.C
