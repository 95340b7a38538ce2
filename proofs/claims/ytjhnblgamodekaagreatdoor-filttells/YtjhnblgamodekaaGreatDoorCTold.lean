/- What code.coder.told answers: the bits of a group of signs. Conditions: the package-level variables hold what the program's text lays ('Glob'). -/
import Derived.Test.YtjhnblgamodekaaGreatDoorCUnpack
import Derived.BigQuiet
set_option maxHeartbeats 8000000
set_option maxRecDepth 100000
namespace Go.Proofs.YtjhnblgamodekaaGreatDoor.C
open Go Go.RowKit Cd
attribute [local go_sem] Oper.semAt_some
def ToldPost (k : Kd) (g : List UInt8) (a : Ad) (w : World) (e : Ending) (w' : World) : Prop := Below w.heap.size w w' /\
 ((∃ b c : Nat, tl k g = some (b, c) /\ e = .returned (.tuple #[.int .i64 b, .int .i64 c, .nilIface])) \/ (tl k g = none /\ ∃ v, e = .returned (.tuple #[.int .i64 0, .int .i64 0, v]) /\ IsErr a v))
theorem told_yes {k : Kd} {g : List UInt8} {a : Ad} {w w' : World} {b c : Nat} (hb : Below w.heap.size w w') (h : tl k g = some (b, c)) : ToldPost k g a w (.returned (.tuple #[.int .i64 b, .int .i64 c, .nilIface])) w' := ⟨hb, .inl ⟨b, c, h, rfl⟩⟩
theorem told_no {k : Kd} {g : List UInt8} {a : Ad} {w w' : World} {v : Value} (hb : Below w.heap.size w w') (h : tl k g = none) (hv : IsErr a v) : ToldPost k g a w (.returned (.tuple #[.int .i64 0, .int .i64 0, v])) w' := ⟨hb, .inr ⟨h, v, rfl, hv⟩⟩
theorem below_drewN {B : Nat} {u w : World} (h : Below B u w) (n : Nat) : Below B u (w.drewN n) := ⟨h.os, h.tape, h.output, h.size, h.block⟩
theorem isErr_cut (a : Ad) (k : Int) : IsErr a (flt k a.c) := .inl ⟨k, rfl⟩
theorem isErr_end (a : Ad) (k : Int) : IsErr a (flt k a.e) := .inr (.inl ⟨k, rfl⟩)
theorem isErr_bits (a : Ad) (k : Int) : IsErr a (flt k a.b) := .inr (.inr (.inl ⟨k, rfl⟩))
theorem isErr_sign (a : Ad) (k n : Int) : IsErr a (nos k n) := .inr (.inr (.inr ⟨k, n, rfl⟩))
theorem told_short (k : Kd) (B at_ : Nat) (s : ByteArray) (a : Ad) (w : World) (g : Glob a w) (hc : Cod k w B) (hs : s.size < k.wd) (h4 : k.wd <= 4) (hat : at_ <= 10000) :
  Calls Tryz.prog 178 #[.pointer (some ⟨B, 0, none⟩), .int .i64 at_, .string s] w (ToldPost k s.data.toList a w) := by
 have hw := hc.wi
 have ht : tl k s.data.toList = none := by
  unfold tl
  rw [if_pos (by simpa using hs)]
 have hs' : (s.size : Int) < k.wd := by omega
 have hs4 : (s.size : Int) <= 4 := by omega
 have gc := g.cu
 generalize k.wd = N at *
 have Ht := H_ ht
 clear g hc ht hs h4
 have hat' : (at_ : Int) <= 10000 := by omega
 go_enter Tryz.func178, Tryz.ntmps178
 go_wp2
 go_region
 all_goals
  go_wp2
  refine bodyPost_ret (v := .tuple #[.int .i64 0, .int .i64 0, flt ((at_ : Int) + s.size) a.c]) (by simp [results, Tryz.results178, go_sem]) rfl ?_
  exact told_no ((Below.refl _ _).drew) (un Ht) (isErr_cut _ _)
structure Tin (k : Kd) (s : ByteArray) (w : World) (p b c : Nat) (wr : World) : Prop where
 pl : c <= p
 hb : b < 16777216
 md : b % 2 ^ (24 - k.bt * p) = 0
 lp' : lp k (s.data.toList.drop p) p b c = lp k s.data.toList 0 0 0
 it : wr.heap[w.heap.size]? = some (.stringIter s p)
 bel : Below w.heap.size w wr
theorem tl_none {k : Kd} {g : List UInt8} (h : ¬ g.length < k.wd) (hl : lp k g 0 0 0 = none) : tl k g = none := by
 unfold tl
 rw [if_neg h, hl]
 rfl
theorem tl_some {k : Kd} {g : List UInt8} {b c : Nat} (h : ¬ g.length < k.wd) (hl : lp k g 0 0 0 = some (b, c)) : tl k g = if b % 2 ^ (24 - 8 * (c * k.bt / 8)) = 0 then some (b, c) else none := by
 unfold tl
 rw [if_neg h, hl]
 rfl
theorem nv_some {k : Kd} {x : UInt8} {m : Nat} (hx : x.toNat < 128) (h : k.nm x = some m) : nv k x.toNat = ((m : Int), true) := by
 unfold nv
 rw [if_pos hx, UInt8.ofNat_toNat, h]
theorem nv_none {k : Kd} {x : UInt8} (h : k.nm x = none) : nv k x.toNat = (0, false) := by
 unfold nv
 split
 ·rw [UInt8.ofNat_toNat, h]
 ·rfl
theorem nv_big {k : Kd} {n : Nat} (h : 128 <= n) : nv k n = (0, false) := by
 unfold nv
 rw [if_neg (by omega)]
theorem or_put (b n sh T : Nat) (hT : b % 2 ^ (sh + T) = 0) (hn : n < 2 ^ T) (hb : b < 16777216) (hs : sh + T <= 24) : bits .or .i64 (b : Int) ((n * 2 ^ sh : Nat) : Int) = ((b + n * 2 ^ sh : Nat) : Int) := by
 have hlt : n * 2 ^ sh < 2 ^ (sh + T) := by rw [Nat.pow_add, Nat.mul_comm]; exact Nat.mul_lt_mul_of_pos_left hn (Nat.two_pow_pos _)
 have hle : 2 ^ (sh + T) <= 2 ^ 24 := Nat.pow_le_pow_right (by decide) hs
 have e : b = b / 2 ^ (sh + T) * 2 ^ (sh + T) := by have := Nat.div_add_mod b (2 ^ (sh + T)); rw [Nat.mul_comm] at this; omega
 have := or_lo (b / 2 ^ (sh + T)) (n * 2 ^ sh) (sh + T) hlt (by rw [<- e]; omega)
 rwa [<- e] at this
theorem put_mod (b n sh T : Nat) (hT : b % 2 ^ (sh + T) = 0) : (b + n * 2 ^ sh) % 2 ^ sh = 0 := by
 have h1 : 2 ^ sh ∣ b := Nat.dvd_trans ⟨2 ^ T, Nat.pow_add 2 sh T⟩ (Nat.dvd_of_mod_eq_zero hT)
 exact Nat.mod_eq_zero_of_dvd (Nat.dvd_add h1 ⟨n, Nat.mul_comm _ _⟩)
theorem more_mod {b T p : Nat} (h : b % 2 ^ (24 - T * p) = 0) : b % 2 ^ (24 - T * (p + 1)) = 0 := by
 have hle : 24 - T * (p + 1) <= 24 - T * p := by rw [Nat.mul_succ]; omega
 exact Nat.mod_eq_zero_of_dvd (Nat.dvd_trans (Nat.pow_dvd_pow 2 hle) (Nat.dvd_of_mod_eq_zero h))
theorem put_lt (b n sh T : Nat) (hT : b % 2 ^ (sh + T) = 0) (hn : n < 2 ^ T) (hb : b < 2 ^ 24) (hs : sh + T <= 24) : b + n * 2 ^ sh < 2 ^ 24 := by
 have hlt : n * 2 ^ sh < 2 ^ (sh + T) := by rw [Nat.pow_add, Nat.mul_comm]; exact Nat.mul_lt_mul_of_pos_left hn (Nat.two_pow_pos _)
 obtain ⟨q, hq⟩ := Nat.dvd_of_mod_eq_zero hT
 have e24 : 2 ^ 24 = 2 ^ (sh + T) * 2 ^ (24 - (sh + T)) := by rw [<- Nat.pow_add]; congr 1; omega
 rw [e24] at hb ⊢
 rw [hq] at hb ⊢
 have hq' := Nat.lt_of_mul_lt_mul_left hb
 calc 2 ^ (sh + T) * q + n * 2 ^ sh < 2 ^ (sh + T) * q + 2 ^ (sh + T) := by omega
  _ = 2 ^ (sh + T) * (q + 1) := by rw [Nat.mul_succ]
  _ <= _ := Nat.mul_le_mul_left _ hq'
theorem toldH (B at_ : Nat) (s : ByteArray) (a : Ad) (w : World) (g : Glob a w) (hc : Cod kH w B) (hs : s.size = 2) (hat : at_ <= 10000) (hm : ∀ x m, kH.nm x = some m -> m < 16 /\ x.toNat < 128 /\ x ≠ 61) :
  Calls Tryz.prog 178 #[.pointer (some ⟨B, 0, none⟩), .int .i64 at_, .string s] w (ToldPost kH s.data.toList a w) := by
 have hw : w.cell? ⟨B, 193, none⟩ = some (.int .i64 2) := hc.wi
 have hs' : (s.size : Int) = 2 := by omega
 have hat' : (at_ : Int) <= 10000 := by omega
 have hnl : ¬ s.data.toList.length < kH.wd := by show ¬ s.data.toList.length < 2; simp; show 2 <= s.size; omega
 have hBl := hc.lt
 have Hg := H_ g
 have Hnl := H_ hnl
 have Hm := H_ hm
 have Hc := H_ hc
 have Hs := H_ hs
 clear g hnl hm hc hat hs
 go_enter Tryz.func178, Tryz.ntmps178
 go_wp2
 go_loopw [6, 7] (fun u6 u7 wr => ∃ p b c : Nat, p <= 2 /\ u6 = .int .i64 (b : Int) /\ u7 = .int .i64 (c : Int) /\ Tin kH s w p b c wr)
  (fun _ _ wr => 2 - wr.iterPos w.heap.size)
 case atStart =>
  exact ⟨0, 0, 0, Nat.zero_le _, rfl, rfl, Nat.le_refl _, by omega, by simp, rfl, World.iter_heap w s 0, (Below.refl _ _).alloc (Nat.le_refl _) _⟩
 case round =>
  obtain ⟨p, b, c, hp, rfl, rfl, hpl, hbb, hmd, hlp, hit, hbl⟩ := hrel
  have Hpl := H_ hpl
  have Hbb := H_ hbb
  have Hmd := H_ hmd
  have Hlp := H_ hlp
  have Hit := H_ hit
  have Hbl := H_ hbl
  have hbb' : (b : Int) <= 16777215 := by omega
  have hcc : (c : Int) <= 2 := by omega
  clear hmd hlp hbl hbb
  by_cases hlt : p < 2
  ·have hps : p < s.size := by rw [un Hs]; exact hlt
   have hnx := fun ty => run_next_at wr w.heap.size s p ty hit hps
   have hdr := drop_at s p hps
   have hi1 : ∀ d, (wr.putObj w.heap.size (.stringIter s (p + d))).heap[w.heap.size]? = some (.stringIter s (p + d)) := fun d => World.putObj_heap_same (Array.getElem?_eq_some_iff.1 hit).1
   have hl1 : ∀ d, Below w.heap.size w (wr.putObj w.heap.size (.stringIter s (p + d))) := fun d => putObj_below (un Hbl) (Nat.le_refl _)
   have hL := un Hlp
   rw [hdr] at hL
   have hnum : ∀ n d, Calls Tryz.prog 181 #[.pointer (some ⟨B, 0, none⟩), .int .i32 (n : Nat)] (wr.putObj w.heap.size (.stringIter s (p + d))) fun e w' => e = .returned (.tuple #[.int .i64 (nv kH n).1, .bool (nv kH n).2]) /\ w' = (wr.putObj w.heap.size (.stringIter s (p + d))) :=
    fun n d => number_any kH B n _ ((un Hc).below hBl (hl1 d)) (fun x m h => by have := (un Hm x m h).1; omega)
   have Hi1 := H_ hi1
   have Hl1 := H_ hl1
   have HN := H_ hnum
   clear hi1 hl1 hnum hit hdr hps
   by_cases hx : (at' s p).toNat < 128
   ·rw [dec_ascii s p hx] at hnx
    dsimp only at hnx
    generalize at' s p = x at *
    rw [lp] at hL
    cases hnm : kH.nm x with
    | none =>
     rw [hnm] at hL
     dsimp only at hL
     have HN1 := un HN x.toNat 1
     rw [nv_none hnm] at HN1
     by_cases hf : x = 61
     ·subst hf
      clear hx
      have hnx' : ∀ ty, (Instr.next (.pointer (some ⟨w.heap.size, 0, none⟩)) true ty).run Tryz.prog wr = .ok (.tuple #[.bool true, .int .i64 p, .int .i32 61]) (wr.putObj w.heap.size (.stringIter s (p + 1))) := hnx
      clear hnx
      have HN2 : Hid (Calls Tryz.prog 181 #[.pointer (some ⟨B, 0, none⟩), .int .i32 61] (wr.putObj w.heap.size (.stringIter s (p + 1))) fun e w' => e = .returned (.tuple #[.int .i64 0, .bool false]) /\ w' = (wr.putObj w.heap.size (.stringIter s (p + 1)))) := HN1
      clear HN1 HN
      by_cases h2 : 2 <= p
      ·omega
      ·rw [if_neg (fun h => h2 h.2)] at hL
       have h2' : ¬ (2 : Int) <= p := by omega
       have Hl2 := H_ ((un Hl1) 1)
       have HL := H_ (tl_none (un Hnl) hL.symm)
       clear hL Hi1 Hl1 hpl
       generalize wr.putObj w.heap.size (.stringIter s (p + 1)) = W1 at *
       go_wp2_with fail
       refine (un HN2).mono ?_
       rintro e w2 ⟨rfl, rfl⟩
       go_wp2
       refine bodyPost_ret (v := .tuple #[.int .i64 0, .int .i64 0, nos ((at_ : Int) + p) 61]) (by simp [results, Tryz.results178, go_sem]) rfl ?_
       exact told_no (un Hl2) (un HL) (isErr_sign _ _ _)
     ·rw [if_neg (fun h => hf h.1)] at hL
      have hne : ((x.toNat : Int) == 61) = false := by
       rw [beq_eq_false_iff_ne]
       intro h
       exact hf (UInt8.toNat.inj (by show x.toNat = 61; omega))
      have Hl2 := H_ ((un Hl1) 1)
      have HL := H_ (tl_none (un Hnl) hL.symm)
      have HN2 := H_ HN1
      clear hL Hi1 Hl1 hpl HN1 HN hf hx hnm
      generalize wr.putObj w.heap.size (.stringIter s (p + 1)) = W1 at *
      generalize (x.toNat : Int) = n at *
      go_wp2_with fail
      refine (un HN2).mono ?_
      rintro e w2 ⟨rfl, rfl⟩
      go_wp2
      refine bodyPost_ret (v := .tuple #[.int .i64 0, .int .i64 0, nos ((at_ : Int) + p) n]) (by simp [results, Tryz.results178, go_sem]) rfl ?_
      exact told_no (un Hl2) (un HL) (isErr_sign _ _ _)
    | some q =>
     obtain ⟨hq1, _, hq3⟩ := un Hm x q hnm
     rw [hnm] at hL
     dsimp only at hL
     have hne : ((x.toNat : Int) == 61) = false := by
      rw [beq_eq_false_iff_ne]
      intro h
      exact hq3 (UInt8.toNat.inj (by show x.toNat = 61; omega))
     have HN2 := un HN x.toNat 1
     rw [nv_some hx hnm] at HN2
     replace HN2 := H_ HN2
     have Hl2 := H_ ((un Hl1) 1)
     have Hi2 := H_ ((un Hi1) 1)
     by_cases hcp : c = p
     ·subst hcp
      rw [if_pos rfl] at hL
      have HL := H_ hL
      have hbi : (wr.putObj w.heap.size (.stringIter s (c + 1))).cell? ⟨B, 194, none⟩ = some (.int .i64 4) := ((un Hc).below hBl (un Hl2)).bi
      clear hL Hi1 Hl1 hpl HN hx hnm hq3
      generalize wr.putObj w.heap.size (.stringIter s (c + 1)) = W1 at *
      generalize (x.toNat : Int) = n at *
      obtain rfl | rfl : c = 0 \/ c = 1 := by omega
      ·have hsh : (q : Int) * 1048576 = ((q * 2 ^ 20 : Nat) : Int) := by omega
       have hw1 : wrap64 ((q : Int) * 1048576) = (q : Int) * 1048576 := by unfold wrap64; omega
       have hor := or_put b q 20 4 (un Hmd) (by omega) (un Hbb) (by omega)
       have hz := put_mod b q 20 4 (un Hmd)
       have hlt2 := put_lt b q 20 4 (un Hmd) (by omega) (un Hbb) (by omega)
       rw [<- hsh] at hor
       have HL2 : Hid (lp kH (s.data.toList.drop (0 + 1)) (0 + 1) (b + q * 2 ^ 20) (0 + 1) = lp kH s.data.toList 0 0 0) := un HL
       have Hz := H_ hz
       have Hlt := H_ hlt2
       generalize b + q * 2 ^ 20 = b2 at *
       clear hsh hz hlt2 HL
       go_wp2_with fail
       refine (un HN2).mono ?_
       rintro e w2 ⟨rfl, rfl⟩
       go_wp2
       go_roundw
       case rel =>
        exact ⟨1, b2, 1, by omega, rfl, rfl, by omega, un Hlt, un Hz, un HL2, un Hi2, un Hl2⟩
       case measure =>
        simp [World.iterPos, un Hi2, un Hit]
      ·have hsh : (q : Int) * 65536 = ((q * 2 ^ 16 : Nat) : Int) := by omega
       have hw1 : wrap64 ((q : Int) * 65536) = (q : Int) * 65536 := by unfold wrap64; omega
       have hor := or_put b q 16 4 (un Hmd) (by omega) (un Hbb) (by omega)
       have hz := put_mod b q 16 4 (un Hmd)
       have hlt2 := put_lt b q 16 4 (un Hmd) (by omega) (un Hbb) (by omega)
       rw [<- hsh] at hor
       have HL2 : Hid (lp kH (s.data.toList.drop (1 + 1)) (1 + 1) (b + q * 2 ^ 16) (1 + 1) = lp kH s.data.toList 0 0 0) := un HL
       have Hz := H_ hz
       have Hlt := H_ hlt2
       generalize b + q * 2 ^ 16 = b2 at *
       clear hsh hz hlt2 HL
       go_wp2_with fail
       refine (un HN2).mono ?_
       rintro e w2 ⟨rfl, rfl⟩
       go_wp2
       go_roundw
       case rel =>
        exact ⟨2, b2, 2, by omega, rfl, rfl, by omega, un Hlt, un Hz, un HL2, un Hi2, un Hl2⟩
       case measure =>
        simp [World.iterPos, un Hi2, un Hit]
     ·rw [if_neg hcp] at hL
      have hcp' : ((c : Int) == p) = false := by rw [beq_eq_false_iff_ne]; omega
      have HL := H_ (tl_none (un Hnl) hL.symm)
      clear hL Hi1 Hl1 hpl HN hx hnm hq3 hcp
      generalize wr.putObj w.heap.size (.stringIter s (p + 1)) = W1 at *
      generalize (x.toNat : Int) = n at *
      go_wp2_with fail
      refine (un HN2).mono ?_
      rintro e w2 ⟨rfl, rfl⟩
      go_wp2
      refine bodyPost_ret (v := .tuple #[.int .i64 0, .int .i64 0, nos ((at_ : Int) + p) n]) (by simp [results, Tryz.results178, go_sem]) rfl ?_
      exact told_no (un Hl2) (un HL) (isErr_sign _ _ _)
   ·have hbig := dec_big s p (by omega)
    have hnone : kH.nm (at' s p) = none := by
     cases hq : kH.nm (at' s p) with
     | none => rfl
     | some q => exact absurd (un Hm _ q hq).2.1 hx
    have hno : ¬ (at' s p = 61 /\ 2 <= p) := fun h => hx (by rw [h.1]; decide)
    rw [lp, hnone] at hL
    dsimp only at hL
    rw [if_neg hno] at hL
    have HN1 := un HN (Utf8.decode s p).1 (Utf8.decode s p).2
    rw [nv_big hbig] at HN1
    have hne : (((Utf8.decode s p).1 : Int) == 61) = false := by rw [beq_eq_false_iff_ne]; omega
    have Hl2 := H_ ((un Hl1) (Utf8.decode s p).2)
    have HL := H_ (tl_none (un Hnl) hL.symm)
    have HN2 := H_ HN1
    clear hL Hi1 Hl1 hpl HN1 HN hx hbig hnone hno
    generalize (Utf8.decode s p).2 = d at *
    generalize wr.putObj w.heap.size (.stringIter s (p + d)) = W1 at *
    generalize ((Utf8.decode s p).1 : Int) = n at *
    go_wp2_with fail
    refine (un HN2).mono ?_
    rintro e w2 ⟨rfl, rfl⟩
    go_wp2
    refine bodyPost_ret (v := .tuple #[.int .i64 0, .int .i64 0, nos ((at_ : Int) + p) n]) (by simp [results, Tryz.results178, go_sem]) rfl ?_
    exact told_no (un Hl2) (un HL) (isErr_sign _ _ _)
  ·have hpe : p = 2 := by omega
   subst hpe
   have hnx := fun ty => run_next_over wr w.heap.size s 2 ty hit (by rw [un Hs]; omega)
   have hL := un Hlp
   rw [List.drop_of_length_le (by simp [un Hs]), lp] at hL
   have ht := tl_some (un Hnl) hL.symm
   have gb := ((un Hg).below (Nat.le_refl _) (un Hbl)).bi
   have hwh := fun c hc => whole_any kH B c 4 wr ((un Hc).below hBl (un Hbl)) rfl (by omega) hc
   have Hwh := H_ hwh
   clear hit hL hwh hpl hlt hp
   obtain rfl | rfl | rfl : c = 0 \/ c = 1 \/ c = 2 := by omega
   ·have hW : Hid (Calls Tryz.prog 180 #[.pointer (some ⟨B, 0, none⟩), .int .i64 0] wr fun e w' => e = .returned (.int .i64 0) /\ w' = wr) := un Hwh 0 (by omega)
    have ht2 : tl kH s.data.toList = if b % 16777216 = 0 then some (b, 0) else none := ht
    have hand : bits .and .i64 (b : Int) 16777215 = ((b % 16777216 : Nat) : Int) := and_mask b 24 (by omega) (by decide)
    clear Hwh ht
    by_cases hz : b % 16777216 = 0
    ·rw [hz] at hand
     rw [if_pos hz] at ht2
     have Ht := H_ ht2
     clear ht2 hz
     go_wp2_with fail
     refine (un hW).mono ?_
     rintro e w2 ⟨rfl, rfl⟩
     go_wp2
     refine bodyPost_ret (v := .tuple #[.int .i64 b, .int .i64 0, .nilIface]) (by simp [results, Tryz.results178, go_sem]) rfl ?_
     exact told_yes (un Hbl) (un Ht)
    ·rw [if_neg hz] at ht2
     have hnz : (((b % 16777216 : Nat) : Int) == 0) = false := by rw [beq_eq_false_iff_ne]; omega
     have Ht := H_ ht2
     clear ht2 hz
     generalize ((b % 16777216 : Nat) : Int) = r at *
     go_wp2_with fail
     refine (un hW).mono ?_
     rintro e w2 ⟨rfl, rfl⟩
     go_wp2
     go_quiet (fail)
     go_wp2
     refine bodyPost_ret (v := .tuple #[.int .i64 0, .int .i64 0, flt ((at_ : Int) + 0 - 1) a.b]) (by simp [results, Tryz.results178, go_sem]) rfl ?_
     exact told_no (below_drewN (un Hbl) _) (un Ht) (isErr_bits _ _)
   ·have hW : Hid (Calls Tryz.prog 180 #[.pointer (some ⟨B, 0, none⟩), .int .i64 1] wr fun e w' => e = .returned (.int .i64 0) /\ w' = wr) := un Hwh 1 (by omega)
    have ht2 : tl kH s.data.toList = if b % 16777216 = 0 then some (b, 1) else none := ht
    have hand : bits .and .i64 (b : Int) 16777215 = ((b % 16777216 : Nat) : Int) := and_mask b 24 (by omega) (by decide)
    clear Hwh ht
    by_cases hz : b % 16777216 = 0
    ·rw [hz] at hand
     rw [if_pos hz] at ht2
     have Ht := H_ ht2
     clear ht2 hz
     go_wp2_with fail
     refine (un hW).mono ?_
     rintro e w2 ⟨rfl, rfl⟩
     go_wp2
     refine bodyPost_ret (v := .tuple #[.int .i64 b, .int .i64 1, .nilIface]) (by simp [results, Tryz.results178, go_sem]) rfl ?_
     exact told_yes (un Hbl) (un Ht)
    ·rw [if_neg hz] at ht2
     have hnz : (((b % 16777216 : Nat) : Int) == 0) = false := by rw [beq_eq_false_iff_ne]; omega
     have Ht := H_ ht2
     clear ht2 hz
     generalize ((b % 16777216 : Nat) : Int) = r at *
     go_wp2_with fail
     refine (un hW).mono ?_
     rintro e w2 ⟨rfl, rfl⟩
     go_wp2
     go_quiet (fail)
     go_wp2
     refine bodyPost_ret (v := .tuple #[.int .i64 0, .int .i64 0, flt ((at_ : Int) + 1 - 1) a.b]) (by simp [results, Tryz.results178, go_sem]) rfl ?_
     exact told_no (below_drewN (un Hbl) _) (un Ht) (isErr_bits _ _)
   ·have hW : Hid (Calls Tryz.prog 180 #[.pointer (some ⟨B, 0, none⟩), .int .i64 2] wr fun e w' => e = .returned (.int .i64 1) /\ w' = wr) := un Hwh 2 (by omega)
    have ht2 : tl kH s.data.toList = if b % 65536 = 0 then some (b, 2) else none := ht
    have hand : bits .and .i64 (b : Int) 65535 = ((b % 65536 : Nat) : Int) := and_mask b 16 (by omega) (by decide)
    clear Hwh ht
    by_cases hz : b % 65536 = 0
    ·rw [hz] at hand
     rw [if_pos hz] at ht2
     have Ht := H_ ht2
     clear ht2 hz
     go_wp2_with fail
     refine (un hW).mono ?_
     rintro e w2 ⟨rfl, rfl⟩
     go_wp2
     refine bodyPost_ret (v := .tuple #[.int .i64 b, .int .i64 2, .nilIface]) (by simp [results, Tryz.results178, go_sem]) rfl ?_
     exact told_yes (un Hbl) (un Ht)
    ·rw [if_neg hz] at ht2
     have hnz : (((b % 65536 : Nat) : Int) == 0) = false := by rw [beq_eq_false_iff_ne]; omega
     have Ht := H_ ht2
     clear ht2 hz
     generalize ((b % 65536 : Nat) : Int) = r at *
     go_wp2_with fail
     refine (un hW).mono ?_
     rintro e w2 ⟨rfl, rfl⟩
     go_wp2
     go_quiet (fail)
     go_wp2
     refine bodyPost_ret (v := .tuple #[.int .i64 0, .int .i64 0, flt ((at_ : Int) + 2 - 1) a.b]) (by simp [results, Tryz.results178, go_sem]) rfl ?_
     exact told_no (below_drewN (un Hbl) _) (un Ht) (isErr_bits _ _)
end Go.Proofs.YtjhnblgamodekaaGreatDoor.C
