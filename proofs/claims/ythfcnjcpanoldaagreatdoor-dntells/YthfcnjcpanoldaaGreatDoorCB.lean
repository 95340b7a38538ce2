/-
  Several texts in one: CTold, CIter, CPrint, CLaws, Round, CRead, CDoor. Each says what it proves, and its conditions.
-/
import Derived.Test.YthfcnjcpanoldaaGreatDoorCA
import Derived.Deep.RegionWith
import Derived.Deep.QuietTactic
import Derived.BigQuiet
import Derived.RangeFuncNested
import Derived.RangeFuncBound
import Derived.RangeFuncCalls
import Derived.RangeFuncLeaves
import Derived.Shelf.Abstract
import Derived.Shelf.RegionOpen
import Derived.WalkKit
import Derived.OwnWalkIn
import Derived.TacticsInMore
import Derived.LoopNIn
import Derived.LoopIn
import Derived.RangeFuncBox
import Derived.Deep.Light
import Derived.StillTailTactics
import Derived.OrdersIn
/-
  What code.coder.told answers: the bits of a group of signs. Conditions: the package-level variables hold what the program's text lays ('Glob').
-/
namespace Go.Proofs.YthfcnjcpanoldaaGreatDoor.C
open Go Go.RowKit Cd
attribute [local go_sem] Oper.semAt_some

/-- what told leaves. -/
def ToldPost (k : Kd) (g : List UInt8) (a : Ad) (w : World) (e : Ending) (w' : World) : Prop := Below w.heap.size w w' ∧
  ((∃ b c : Nat, tl k g = some (b, c) ∧ e = .returned (.tuple #[.int .i64 b, .int .i64 c, .nilIface])) ∨ (tl k g = none ∧ ∃ v, e = .returned (.tuple #[.int .i64 0, .int .i64 0, v]) ∧ IsErr a v))
theorem told_yes {k : Kd} {g : List UInt8} {a : Ad} {w w' : World} {b c : Nat} (hb : Below w.heap.size w w') (h : tl k g = some (b, c)) : ToldPost k g a w (.returned (.tuple #[.int .i64 b, .int .i64 c, .nilIface])) w' := ⟨hb, .inl ⟨b, c, h, rfl⟩⟩
theorem told_no {k : Kd} {g : List UInt8} {a : Ad} {w w' : World} {v : Value} (hb : Below w.heap.size w w') (h : tl k g = none) (hv : IsErr a v) : ToldPost k g a w (.returned (.tuple #[.int .i64 0, .int .i64 0, v])) w' := ⟨hb, .inr ⟨h, v, rfl, hv⟩⟩
theorem below_drewN {B : Nat} {u w : World} (h : Below B u w) (n : Nat) : Below B u (w.drewN n) := ⟨h.os, h.tape, h.output, h.size, h.block⟩
theorem isErr_cut (a : Ad) (k : Int) : IsErr a (flt k a.c) := .inl ⟨k, rfl⟩
theorem isErr_end (a : Ad) (k : Int) : IsErr a (flt k a.e) := .inr (.inl ⟨k, rfl⟩)
theorem isErr_bits (a : Ad) (k : Int) : IsErr a (flt k a.b) := .inr (.inr (.inl ⟨k, rfl⟩))
theorem isErr_sign (a : Ad) (k n : Int) : IsErr a (nos k n) := .inr (.inr (.inr ⟨k, n, rfl⟩))

set_option maxRecDepth 100000 in
theorem told_short (k : Kd) (B at_ : Nat) (s : ByteArray) (a : Ad) (w : World) (g : Glob a w) (hc : Cod k w B) (hs : s.size < k.wd) (h4 : k.wd ≤ 4) (hat : at_ ≤ 10000) :
    Calls Tryz.prog 144 #[.pointer (some ⟨B, 0, none⟩), .int .i64 at_, .string s] w (ToldPost k s.data.toList a w) := by
  have hw := hc.wi
  have ht : tl k s.data.toList = none := by
    unfold tl
    rw [if_pos (by simpa using hs)]
  have hs' : (s.size : Int) < k.wd := by omega
  have hs4 : (s.size : Int) ≤ 4 := by omega
  have gc := g.cu
  generalize k.wd = N at *
  have Ht := hide ht
  clear g hc ht hs h4
  have hat' : (at_ : Int) ≤ 10000 := by omega
  go_enter Tryz.func144, Tryz.ntmps144
  go_wp2
  go_region
  all_goals
    go_wp2
    refine bodyPost_ret (v := .tuple #[.int .i64 0, .int .i64 0, flt ((at_ : Int) + s.size) a.c]) (by simp [results, Tryz.results144, go_sem]) rfl ?_
    exact told_no ((Below.refl _ _).drew) (unhide Ht) (isErr_cut _ _)

/-- where the signs are gone through. -/
structure Tin (k : Kd) (s : ByteArray) (w : World) (p b c : Nat) (wr : World) : Prop where
  pl : c ≤ p
  hb : b < 16777216
  md : b % 2 ^ (24 - k.bt * p) = 0
  lp' : lp k (s.data.toList.drop p) p b c = lp k s.data.toList 0 0 0
  it : wr.heap[w.heap.size]? = some (.stringIter s p)
  bel : Below w.heap.size w wr
theorem tl_none {k : Kd} {g : List UInt8} (h : ¬ g.length < k.wd) (hl : lp k g 0 0 0 = none) : tl k g = none := by
  unfold tl
  rw [if_neg h, hl]
  rfl
theorem tl_some {k : Kd} {g : List UInt8} {b c : Nat} (h : ¬ g.length < k.wd) (hl : lp k g 0 0 0 = some (b, c)) : tl k g = if b % 2 ^ (24 - 8 * (c * k.bt / 8)) = 0 then some (b, c) else none := by
  unfold tl
  rw [if_neg h, hl]
  rfl
theorem nv_some {k : Kd} {x : UInt8} {m : Nat} (hx : x.toNat < 128) (h : k.nm x = some m) : nv k x.toNat = ((m : Int), true) := by
  unfold nv
  rw [if_pos hx, UInt8.ofNat_toNat, h]
theorem nv_none {k : Kd} {x : UInt8} (h : k.nm x = none) : nv k x.toNat = (0, false) := by
  unfold nv
  split
  · rw [UInt8.ofNat_toNat, h]
  · rfl
theorem nv_big {k : Kd} {n : Nat} (h : 128 ≤ n) : nv k n = (0, false) := by
  unfold nv
  rw [if_neg (by omega)]
/-- what is put into bits that are still 0. -/
theorem or_put (b n sh T : Nat) (hT : b % 2 ^ (sh + T) = 0) (hn : n < 2 ^ T) (hb : b < 16777216) (hs : sh + T ≤ 24) : bits .or .i64 (b : Int) ((n * 2 ^ sh : Nat) : Int) = ((b + n * 2 ^ sh : Nat) : Int) := by
  have hlt : n * 2 ^ sh < 2 ^ (sh + T) := by rw [Nat.pow_add, Nat.mul_comm]; exact Nat.mul_lt_mul_of_pos_left hn (Nat.two_pow_pos _)
  have hle : 2 ^ (sh + T) ≤ 2 ^ 24 := Nat.pow_le_pow_right (by decide) hs
  have e : b = b / 2 ^ (sh + T) * 2 ^ (sh + T) := by have := Nat.div_add_mod b (2 ^ (sh + T)); rw [Nat.mul_comm] at this; omega
  have := or_lo (b / 2 ^ (sh + T)) (n * 2 ^ sh) (sh + T) hlt (by rw [← e]; omega)
  rwa [← e] at this
theorem put_mod (b n sh T : Nat) (hT : b % 2 ^ (sh + T) = 0) : (b + n * 2 ^ sh) % 2 ^ sh = 0 := by
  have h1 : 2 ^ sh ∣ b := Nat.dvd_trans ⟨2 ^ T, Nat.pow_add 2 sh T⟩ (Nat.dvd_of_mod_eq_zero hT)
  exact Nat.mod_eq_zero_of_dvd (Nat.dvd_add h1 ⟨n, Nat.mul_comm _ _⟩)
theorem more_mod {b T p : Nat} (h : b % 2 ^ (24 - T * p) = 0) : b % 2 ^ (24 - T * (p + 1)) = 0 := by
  have hle : 24 - T * (p + 1) ≤ 24 - T * p := by rw [Nat.mul_succ]; omega
  exact Nat.mod_eq_zero_of_dvd (Nat.dvd_trans (Nat.pow_dvd_pow 2 hle) (Nat.dvd_of_mod_eq_zero h))
theorem put_lt (b n sh T : Nat) (hT : b % 2 ^ (sh + T) = 0) (hn : n < 2 ^ T) (hb : b < 2 ^ 24) (hs : sh + T ≤ 24) : b + n * 2 ^ sh < 2 ^ 24 := by
  have hlt : n * 2 ^ sh < 2 ^ (sh + T) := by rw [Nat.pow_add, Nat.mul_comm]; exact Nat.mul_lt_mul_of_pos_left hn (Nat.two_pow_pos _)
  obtain ⟨q, hq⟩ := Nat.dvd_of_mod_eq_zero hT
  have e24 : 2 ^ 24 = 2 ^ (sh + T) * 2 ^ (24 - (sh + T)) := by rw [← Nat.pow_add]; congr 1; omega
  rw [e24] at hb ⊢
  rw [hq] at hb ⊢
  have hq' := Nat.lt_of_mul_lt_mul_left hb
  calc 2 ^ (sh + T) * q + n * 2 ^ sh < 2 ^ (sh + T) * q + 2 ^ (sh + T) := by omega
    _ = 2 ^ (sh + T) * (q + 1) := by rw [Nat.mul_succ]
    _ ≤ _ := Nat.mul_le_mul_left _ hq'

set_option maxRecDepth 100000 in
set_option maxHeartbeats 8000000 in
theorem toldB (B at_ : Nat) (s : ByteArray) (a : Ad) (w : World) (g : Glob a w) (hc : Cod kB w B) (hs : s.size = 4) (hat : at_ ≤ 10000) (hm : ∀ x m, kB.nm x = some m → m < 64 ∧ x.toNat < 128 ∧ x ≠ 61) :
    Calls Tryz.prog 144 #[.pointer (some ⟨B, 0, none⟩), .int .i64 at_, .string s] w (ToldPost kB s.data.toList a w) := by
  have hw : w.cell? ⟨B, 193, none⟩ = some (.int .i64 4) := hc.wi
  have hs' : (s.size : Int) = 4 := by omega
  have hat' : (at_ : Int) ≤ 10000 := by omega
  have hnl : ¬ s.data.toList.length < kB.wd := by show ¬ s.data.toList.length < 4; simp; show 4 ≤ s.size; omega
  have hBl := hc.lt
  have Hg := hide g
  have Hnl := hide hnl
  have Hm := hide hm
  have Hc := hide hc
  have Hs := hide hs
  clear g hnl hm hc hat hs
  go_enter Tryz.func144, Tryz.ntmps144
  go_wp2
  go_loopw [6, 7] (fun u6 u7 wr => ∃ p b c : Nat, p ≤ 4 ∧ u6 = .int .i64 (b : Int) ∧ u7 = .int .i64 (c : Int) ∧ Tin kB s w p b c wr)
    (fun _ _ wr => 4 - wr.iterPos w.heap.size)
  case atStart =>
    exact ⟨0, 0, 0, Nat.zero_le _, rfl, rfl, Nat.le_refl _, by omega, by simp, rfl, World.iter_heap w s 0, (Below.refl _ _).alloc (Nat.le_refl _) _⟩
  case round =>
    obtain ⟨p, b, c, hp, rfl, rfl, hpl, hbb, hmd, hlp, hit, hbl⟩ := hrel
    have Hpl := hide hpl
    have Hbb := hide hbb
    have Hmd := hide hmd
    have Hlp := hide hlp
    have Hit := hide hit
    have Hbl := hide hbl
    have hbb' : (b : Int) ≤ 16777215 := by omega
    have hcc : (c : Int) ≤ 4 := by omega
    clear hmd hlp hbl hbb
    by_cases hlt : p < 4
    · have hps : p < s.size := by rw [unhide Hs]; exact hlt
      have hnx := fun ty => run_next_at wr w.heap.size s p ty hit hps
      have hdr := drop_at s p hps
      have hi1 : ∀ d, (wr.putObj w.heap.size (.stringIter s (p + d))).heap[w.heap.size]? = some (.stringIter s (p + d)) := fun d => World.putObj_heap_same (Array.getElem?_eq_some_iff.1 hit).1
      have hl1 : ∀ d, Below w.heap.size w (wr.putObj w.heap.size (.stringIter s (p + d))) := fun d => putObj_below (unhide Hbl) (Nat.le_refl _)
      have hL := unhide Hlp
      rw [hdr] at hL
      have hnum : ∀ n d, Calls Tryz.prog 147 #[.pointer (some ⟨B, 0, none⟩), .int .i32 (n : Nat)] (wr.putObj w.heap.size (.stringIter s (p + d))) fun e w' => e = .returned (.tuple #[.int .i64 (nv kB n).1, .bool (nv kB n).2]) ∧ w' = (wr.putObj w.heap.size (.stringIter s (p + d))) :=
        fun n d => number_any kB B n _ ((unhide Hc).below hBl (hl1 d)) (fun x m h => by have := (unhide Hm x m h).1; omega)
      have Hi1 := hide hi1
      have Hl1 := hide hl1
      have HN := hide hnum
      clear hi1 hl1 hnum hit hdr hps
      by_cases hx : (at' s p).toNat < 128
      · rw [dec_ascii s p hx] at hnx
        dsimp only at hnx
        generalize at' s p = x at *
        rw [lp] at hL
        cases hnm : kB.nm x with
        | none =>
          rw [hnm] at hL
          dsimp only at hL
          have HN1 := unhide HN x.toNat 1
          rw [nv_none hnm] at HN1
          by_cases hf : x = 61
          · subst hf
            clear hx
            have hnx' : ∀ ty, (Instr.next (.pointer (some ⟨w.heap.size, 0, none⟩)) true ty).run Tryz.prog wr = .ok (.tuple #[.bool true, .int .i64 p, .int .i32 61]) (wr.putObj w.heap.size (.stringIter s (p + 1))) := hnx
            clear hnx
            have HN2 : Hid (Calls Tryz.prog 147 #[.pointer (some ⟨B, 0, none⟩), .int .i32 61] (wr.putObj w.heap.size (.stringIter s (p + 1))) fun e w' => e = .returned (.tuple #[.int .i64 0, .bool false]) ∧ w' = (wr.putObj w.heap.size (.stringIter s (p + 1)))) := HN1
            clear HN1 HN
            by_cases h2 : 2 ≤ p
            · rw [if_pos ⟨rfl, h2⟩] at hL
              have h2' : (2 : Int) ≤ p := by omega
              have Hi2 := hide ((unhide Hi1) 1)
              have Hl2 := hide ((unhide Hl1) 1)
              have HL := hide hL
              clear hL Hi1 Hl1 hpl
              generalize wr.putObj w.heap.size (.stringIter s (p + 1)) = W1 at *
              go_wp2_with fail
              refine (unhide HN2).mono ?_
              rintro e w2 ⟨rfl, rfl⟩
              go_wp2
              go_roundw
              case rel =>
                exact ⟨p + 1, b, c, by omega, rfl, rfl, by have := unhide Hpl; omega, unhide Hbb, more_mod (unhide Hmd), unhide HL, unhide Hi2, unhide Hl2⟩
              case measure =>
                simp [World.iterPos, unhide Hi2, unhide Hit]
                omega
            · rw [if_neg (fun h => h2 h.2)] at hL
              have h2' : ¬ (2 : Int) ≤ p := by omega
              have Hl2 := hide ((unhide Hl1) 1)
              have HL := hide (tl_none (unhide Hnl) hL.symm)
              clear hL Hi1 Hl1 hpl
              generalize wr.putObj w.heap.size (.stringIter s (p + 1)) = W1 at *
              go_wp2_with fail
              refine (unhide HN2).mono ?_
              rintro e w2 ⟨rfl, rfl⟩
              go_wp2
              refine bodyPost_ret (v := .tuple #[.int .i64 0, .int .i64 0, nos ((at_ : Int) + p) 61]) (by simp [results, Tryz.results144, go_sem]) rfl ?_
              exact told_no (unhide Hl2) (unhide HL) (isErr_sign _ _ _)
          · rw [if_neg (fun h => hf h.1)] at hL
            have hne : ((x.toNat : Int) == 61) = false := by
              rw [beq_eq_false_iff_ne]
              intro h
              exact hf (UInt8.toNat.inj (by show x.toNat = 61; omega))
            have Hl2 := hide ((unhide Hl1) 1)
            have HL := hide (tl_none (unhide Hnl) hL.symm)
            have HN2 := hide HN1
            clear hL Hi1 Hl1 hpl HN1 HN hf hx hnm
            generalize wr.putObj w.heap.size (.stringIter s (p + 1)) = W1 at *
            generalize (x.toNat : Int) = n at *
            go_wp2_with fail
            refine (unhide HN2).mono ?_
            rintro e w2 ⟨rfl, rfl⟩
            go_wp2
            refine bodyPost_ret (v := .tuple #[.int .i64 0, .int .i64 0, nos ((at_ : Int) + p) n]) (by simp [results, Tryz.results144, go_sem]) rfl ?_
            exact told_no (unhide Hl2) (unhide HL) (isErr_sign _ _ _)
        | some q =>
          obtain ⟨hq1, _, hq3⟩ := unhide Hm x q hnm
          rw [hnm] at hL
          dsimp only at hL
          have hne : ((x.toNat : Int) == 61) = false := by
            rw [beq_eq_false_iff_ne]
            intro h
            exact hq3 (UInt8.toNat.inj (by show x.toNat = 61; omega))
          have HN2 := unhide HN x.toNat 1
          rw [nv_some hx hnm] at HN2
          replace HN2 := hide HN2
          have Hl2 := hide ((unhide Hl1) 1)
          have Hi2 := hide ((unhide Hi1) 1)
          by_cases hcp : c = p
          · subst hcp
            rw [if_pos rfl] at hL
            have HL := hide hL
            have hbi : (wr.putObj w.heap.size (.stringIter s (c + 1))).cell? ⟨B, 194, none⟩ = some (.int .i64 6) := ((unhide Hc).below hBl (unhide Hl2)).bi
            clear hL Hi1 Hl1 hpl HN hx hnm hq3
            generalize wr.putObj w.heap.size (.stringIter s (c + 1)) = W1 at *
            generalize (x.toNat : Int) = n at *
            obtain rfl | rfl | rfl | rfl : c = 0 ∨ c = 1 ∨ c = 2 ∨ c = 3 := by omega
            · have hsh : (q : Int) * 262144 = ((q * 2 ^ 18 : Nat) : Int) := by omega
              have hw1 : wrap64 ((q : Int) * 262144) = (q : Int) * 262144 := by unfold wrap64; omega
              have hor := or_put b q 18 6 (unhide Hmd) (by omega) (unhide Hbb) (by omega)
              have hz := put_mod b q 18 6 (unhide Hmd)
              have hlt2 := put_lt b q 18 6 (unhide Hmd) (by omega) (unhide Hbb) (by omega)
              rw [← hsh] at hor
              have HL2 : Hid (lp kB (s.data.toList.drop (0 + 1)) (0 + 1) (b + q * 2 ^ 18) (0 + 1) = lp kB s.data.toList 0 0 0) := unhide HL
              have Hz := hide hz
              have Hlt := hide hlt2
              generalize b + q * 2 ^ 18 = b2 at *
              clear hsh hz hlt2 HL
              go_wp2_with fail
              refine (unhide HN2).mono ?_
              rintro e w2 ⟨rfl, rfl⟩
              go_wp2
              go_roundw
              case rel =>
                exact ⟨1, b2, 1, by omega, rfl, rfl, by omega, unhide Hlt, unhide Hz, unhide HL2, unhide Hi2, unhide Hl2⟩
              case measure =>
                simp [World.iterPos, unhide Hi2, unhide Hit]
            · have hsh : (q : Int) * 4096 = ((q * 2 ^ 12 : Nat) : Int) := by omega
              have hw1 : wrap64 ((q : Int) * 4096) = (q : Int) * 4096 := by unfold wrap64; omega
              have hor := or_put b q 12 6 (unhide Hmd) (by omega) (unhide Hbb) (by omega)
              have hz := put_mod b q 12 6 (unhide Hmd)
              have hlt2 := put_lt b q 12 6 (unhide Hmd) (by omega) (unhide Hbb) (by omega)
              rw [← hsh] at hor
              have HL2 : Hid (lp kB (s.data.toList.drop (1 + 1)) (1 + 1) (b + q * 2 ^ 12) (1 + 1) = lp kB s.data.toList 0 0 0) := unhide HL
              have Hz := hide hz
              have Hlt := hide hlt2
              generalize b + q * 2 ^ 12 = b2 at *
              clear hsh hz hlt2 HL
              go_wp2_with fail
              refine (unhide HN2).mono ?_
              rintro e w2 ⟨rfl, rfl⟩
              go_wp2
              go_roundw
              case rel =>
                exact ⟨2, b2, 2, by omega, rfl, rfl, by omega, unhide Hlt, unhide Hz, unhide HL2, unhide Hi2, unhide Hl2⟩
              case measure =>
                simp [World.iterPos, unhide Hi2, unhide Hit]
            · have hsh : (q : Int) * 64 = ((q * 2 ^ 6 : Nat) : Int) := by omega
              have hw1 : wrap64 ((q : Int) * 64) = (q : Int) * 64 := by unfold wrap64; omega
              have hor := or_put b q 6 6 (unhide Hmd) (by omega) (unhide Hbb) (by omega)
              have hz := put_mod b q 6 6 (unhide Hmd)
              have hlt2 := put_lt b q 6 6 (unhide Hmd) (by omega) (unhide Hbb) (by omega)
              rw [← hsh] at hor
              have HL2 : Hid (lp kB (s.data.toList.drop (2 + 1)) (2 + 1) (b + q * 2 ^ 6) (2 + 1) = lp kB s.data.toList 0 0 0) := unhide HL
              have Hz := hide hz
              have Hlt := hide hlt2
              generalize b + q * 2 ^ 6 = b2 at *
              clear hsh hz hlt2 HL
              go_wp2_with fail
              refine (unhide HN2).mono ?_
              rintro e w2 ⟨rfl, rfl⟩
              go_wp2
              go_roundw
              case rel =>
                exact ⟨3, b2, 3, by omega, rfl, rfl, by omega, unhide Hlt, unhide Hz, unhide HL2, unhide Hi2, unhide Hl2⟩
              case measure =>
                simp [World.iterPos, unhide Hi2, unhide Hit]
            · have hsh : (q : Int) = ((q * 2 ^ 0 : Nat) : Int) := by omega
              have hw1 : wrap64 ((q : Int)) = (q : Int) := by unfold wrap64; omega
              have hor := or_put b q 0 6 (unhide Hmd) (by omega) (unhide Hbb) (by omega)
              have hz := put_mod b q 0 6 (unhide Hmd)
              have hlt2 := put_lt b q 0 6 (unhide Hmd) (by omega) (unhide Hbb) (by omega)
              rw [← hsh] at hor
              have HL2 : Hid (lp kB (s.data.toList.drop (3 + 1)) (3 + 1) (b + q * 2 ^ 0) (3 + 1) = lp kB s.data.toList 0 0 0) := unhide HL
              have Hz := hide hz
              have Hlt := hide hlt2
              generalize b + q * 2 ^ 0 = b2 at *
              clear hsh hz hlt2 HL
              go_wp2_with fail
              refine (unhide HN2).mono ?_
              rintro e w2 ⟨rfl, rfl⟩
              go_wp2
              go_roundw
              case rel =>
                exact ⟨4, b2, 4, by omega, rfl, rfl, by omega, unhide Hlt, unhide Hz, unhide HL2, unhide Hi2, unhide Hl2⟩
              case measure =>
                simp [World.iterPos, unhide Hi2, unhide Hit]
          · rw [if_neg hcp] at hL
            have hcp' : ((c : Int) == p) = false := by rw [beq_eq_false_iff_ne]; omega
            have HL := hide (tl_none (unhide Hnl) hL.symm)
            clear hL Hi1 Hl1 hpl HN hx hnm hq3 hcp
            generalize wr.putObj w.heap.size (.stringIter s (p + 1)) = W1 at *
            generalize (x.toNat : Int) = n at *
            go_wp2_with fail
            refine (unhide HN2).mono ?_
            rintro e w2 ⟨rfl, rfl⟩
            go_wp2
            refine bodyPost_ret (v := .tuple #[.int .i64 0, .int .i64 0, nos ((at_ : Int) + p) n]) (by simp [results, Tryz.results144, go_sem]) rfl ?_
            exact told_no (unhide Hl2) (unhide HL) (isErr_sign _ _ _)
      · have hbig := dec_big s p (by omega)
        have hnone : kB.nm (at' s p) = none := by
          cases hq : kB.nm (at' s p) with
          | none => rfl
          | some q => exact absurd (unhide Hm _ q hq).2.1 hx
        have hno : ¬ (at' s p = 61 ∧ 2 ≤ p) := fun h => hx (by rw [h.1]; decide)
        rw [lp, hnone] at hL
        dsimp only at hL
        rw [if_neg hno] at hL
        have HN1 := unhide HN (Utf8.decode s p).1 (Utf8.decode s p).2
        rw [nv_big hbig] at HN1
        have hne : (((Utf8.decode s p).1 : Int) == 61) = false := by rw [beq_eq_false_iff_ne]; omega
        have Hl2 := hide ((unhide Hl1) (Utf8.decode s p).2)
        have HL := hide (tl_none (unhide Hnl) hL.symm)
        have HN2 := hide HN1
        clear hL Hi1 Hl1 hpl HN1 HN hx hbig hnone hno
        generalize (Utf8.decode s p).2 = d at *
        generalize wr.putObj w.heap.size (.stringIter s (p + d)) = W1 at *
        generalize ((Utf8.decode s p).1 : Int) = n at *
        go_wp2_with fail
        refine (unhide HN2).mono ?_
        rintro e w2 ⟨rfl, rfl⟩
        go_wp2
        refine bodyPost_ret (v := .tuple #[.int .i64 0, .int .i64 0, nos ((at_ : Int) + p) n]) (by simp [results, Tryz.results144, go_sem]) rfl ?_
        exact told_no (unhide Hl2) (unhide HL) (isErr_sign _ _ _)
    · have hpe : p = 4 := by omega
      subst hpe
      have hnx := fun ty => run_next_over wr w.heap.size s 4 ty hit (by rw [unhide Hs]; omega)
      have hL := unhide Hlp
      rw [List.drop_of_length_le (by simp [unhide Hs]), lp] at hL
      have ht := tl_some (unhide Hnl) hL.symm
      have gb := ((unhide Hg).below (Nat.le_refl _) (unhide Hbl)).bi
      have hwh := fun c hc => whole_any kB B c 6 wr ((unhide Hc).below hBl (unhide Hbl)) rfl (by omega) hc
      have Hwh := hide hwh
      clear hit hL hwh hpl hlt hp
      obtain rfl | rfl | rfl | rfl | rfl : c = 0 ∨ c = 1 ∨ c = 2 ∨ c = 3 ∨ c = 4 := by omega
      · have hW : Hid (Calls Tryz.prog 146 #[.pointer (some ⟨B, 0, none⟩), .int .i64 0] wr fun e w' => e = .returned (.int .i64 0) ∧ w' = wr) := unhide Hwh 0 (by omega)
        have ht2 : tl kB s.data.toList = if b % 16777216 = 0 then some (b, 0) else none := ht
        have hand : bits .and .i64 (b : Int) 16777215 = ((b % 16777216 : Nat) : Int) := and_mask b 24 (by omega) (by decide)
        clear Hwh ht
        by_cases hz : b % 16777216 = 0
        · rw [hz] at hand
          rw [if_pos hz] at ht2
          have Ht := hide ht2
          clear ht2 hz
          go_wp2_with fail
          refine (unhide hW).mono ?_
          rintro e w2 ⟨rfl, rfl⟩
          go_wp2
          refine bodyPost_ret (v := .tuple #[.int .i64 b, .int .i64 0, .nilIface]) (by simp [results, Tryz.results144, go_sem]) rfl ?_
          exact told_yes (unhide Hbl) (unhide Ht)
        · rw [if_neg hz] at ht2
          have hnz : (((b % 16777216 : Nat) : Int) == 0) = false := by rw [beq_eq_false_iff_ne]; omega
          have Ht := hide ht2
          clear ht2 hz
          generalize ((b % 16777216 : Nat) : Int) = r at *
          go_wp2_with fail
          refine (unhide hW).mono ?_
          rintro e w2 ⟨rfl, rfl⟩
          go_wp2
          go_quiet (fail)
          go_wp2
          refine bodyPost_ret (v := .tuple #[.int .i64 0, .int .i64 0, flt ((at_ : Int) + 0 - 1) a.b]) (by simp [results, Tryz.results144, go_sem]) rfl ?_
          exact told_no (below_drewN (unhide Hbl) _) (unhide Ht) (isErr_bits _ _)
      · have hW : Hid (Calls Tryz.prog 146 #[.pointer (some ⟨B, 0, none⟩), .int .i64 1] wr fun e w' => e = .returned (.int .i64 0) ∧ w' = wr) := unhide Hwh 1 (by omega)
        have ht2 : tl kB s.data.toList = if b % 16777216 = 0 then some (b, 1) else none := ht
        have hand : bits .and .i64 (b : Int) 16777215 = ((b % 16777216 : Nat) : Int) := and_mask b 24 (by omega) (by decide)
        clear Hwh ht
        by_cases hz : b % 16777216 = 0
        · rw [hz] at hand
          rw [if_pos hz] at ht2
          have Ht := hide ht2
          clear ht2 hz
          go_wp2_with fail
          refine (unhide hW).mono ?_
          rintro e w2 ⟨rfl, rfl⟩
          go_wp2
          refine bodyPost_ret (v := .tuple #[.int .i64 b, .int .i64 1, .nilIface]) (by simp [results, Tryz.results144, go_sem]) rfl ?_
          exact told_yes (unhide Hbl) (unhide Ht)
        · rw [if_neg hz] at ht2
          have hnz : (((b % 16777216 : Nat) : Int) == 0) = false := by rw [beq_eq_false_iff_ne]; omega
          have Ht := hide ht2
          clear ht2 hz
          generalize ((b % 16777216 : Nat) : Int) = r at *
          go_wp2_with fail
          refine (unhide hW).mono ?_
          rintro e w2 ⟨rfl, rfl⟩
          go_wp2
          go_quiet (fail)
          go_wp2
          refine bodyPost_ret (v := .tuple #[.int .i64 0, .int .i64 0, flt ((at_ : Int) + 1 - 1) a.b]) (by simp [results, Tryz.results144, go_sem]) rfl ?_
          exact told_no (below_drewN (unhide Hbl) _) (unhide Ht) (isErr_bits _ _)
      · have hW : Hid (Calls Tryz.prog 146 #[.pointer (some ⟨B, 0, none⟩), .int .i64 2] wr fun e w' => e = .returned (.int .i64 1) ∧ w' = wr) := unhide Hwh 2 (by omega)
        have ht2 : tl kB s.data.toList = if b % 65536 = 0 then some (b, 2) else none := ht
        have hand : bits .and .i64 (b : Int) 65535 = ((b % 65536 : Nat) : Int) := and_mask b 16 (by omega) (by decide)
        clear Hwh ht
        by_cases hz : b % 65536 = 0
        · rw [hz] at hand
          rw [if_pos hz] at ht2
          have Ht := hide ht2
          clear ht2 hz
          go_wp2_with fail
          refine (unhide hW).mono ?_
          rintro e w2 ⟨rfl, rfl⟩
          go_wp2
          refine bodyPost_ret (v := .tuple #[.int .i64 b, .int .i64 2, .nilIface]) (by simp [results, Tryz.results144, go_sem]) rfl ?_
          exact told_yes (unhide Hbl) (unhide Ht)
        · rw [if_neg hz] at ht2
          have hnz : (((b % 65536 : Nat) : Int) == 0) = false := by rw [beq_eq_false_iff_ne]; omega
          have Ht := hide ht2
          clear ht2 hz
          generalize ((b % 65536 : Nat) : Int) = r at *
          go_wp2_with fail
          refine (unhide hW).mono ?_
          rintro e w2 ⟨rfl, rfl⟩
          go_wp2
          go_quiet (fail)
          go_wp2
          refine bodyPost_ret (v := .tuple #[.int .i64 0, .int .i64 0, flt ((at_ : Int) + 2 - 1) a.b]) (by simp [results, Tryz.results144, go_sem]) rfl ?_
          exact told_no (below_drewN (unhide Hbl) _) (unhide Ht) (isErr_bits _ _)
      · have hW : Hid (Calls Tryz.prog 146 #[.pointer (some ⟨B, 0, none⟩), .int .i64 3] wr fun e w' => e = .returned (.int .i64 2) ∧ w' = wr) := unhide Hwh 3 (by omega)
        have ht2 : tl kB s.data.toList = if b % 256 = 0 then some (b, 3) else none := ht
        have hand : bits .and .i64 (b : Int) 255 = ((b % 256 : Nat) : Int) := and_mask b 8 (by omega) (by decide)
        clear Hwh ht
        by_cases hz : b % 256 = 0
        · rw [hz] at hand
          rw [if_pos hz] at ht2
          have Ht := hide ht2
          clear ht2 hz
          go_wp2_with fail
          refine (unhide hW).mono ?_
          rintro e w2 ⟨rfl, rfl⟩
          go_wp2
          refine bodyPost_ret (v := .tuple #[.int .i64 b, .int .i64 3, .nilIface]) (by simp [results, Tryz.results144, go_sem]) rfl ?_
          exact told_yes (unhide Hbl) (unhide Ht)
        · rw [if_neg hz] at ht2
          have hnz : (((b % 256 : Nat) : Int) == 0) = false := by rw [beq_eq_false_iff_ne]; omega
          have Ht := hide ht2
          clear ht2 hz
          generalize ((b % 256 : Nat) : Int) = r at *
          go_wp2_with fail
          refine (unhide hW).mono ?_
          rintro e w2 ⟨rfl, rfl⟩
          go_wp2
          go_quiet (fail)
          go_wp2
          refine bodyPost_ret (v := .tuple #[.int .i64 0, .int .i64 0, flt ((at_ : Int) + 3 - 1) a.b]) (by simp [results, Tryz.results144, go_sem]) rfl ?_
          exact told_no (below_drewN (unhide Hbl) _) (unhide Ht) (isErr_bits _ _)
      · have hW : Hid (Calls Tryz.prog 146 #[.pointer (some ⟨B, 0, none⟩), .int .i64 4] wr fun e w' => e = .returned (.int .i64 3) ∧ w' = wr) := unhide Hwh 4 (by omega)
        have ht2 : tl kB s.data.toList = if b % 1 = 0 then some (b, 4) else none := ht
        have hand : bits .and .i64 (b : Int) 0 = ((b % 1 : Nat) : Int) := and_mask b 0 (by omega) (by decide)
        clear Hwh ht
        by_cases hz : b % 1 = 0
        · rw [hz] at hand
          rw [if_pos hz] at ht2
          have Ht := hide ht2
          clear ht2 hz
          go_wp2_with fail
          refine (unhide hW).mono ?_
          rintro e w2 ⟨rfl, rfl⟩
          go_wp2
          refine bodyPost_ret (v := .tuple #[.int .i64 b, .int .i64 4, .nilIface]) (by simp [results, Tryz.results144, go_sem]) rfl ?_
          exact told_yes (unhide Hbl) (unhide Ht)
        · rw [if_neg hz] at ht2
          have hnz : (((b % 1 : Nat) : Int) == 0) = false := by rw [beq_eq_false_iff_ne]; omega
          have Ht := hide ht2
          clear ht2 hz
          generalize ((b % 1 : Nat) : Int) = r at *
          go_wp2_with fail
          refine (unhide hW).mono ?_
          rintro e w2 ⟨rfl, rfl⟩
          go_wp2
          go_quiet (fail)
          go_wp2
          refine bodyPost_ret (v := .tuple #[.int .i64 0, .int .i64 0, flt ((at_ : Int) + 4 - 1) a.b]) (by simp [results, Tryz.results144, go_sem]) rfl ?_
          exact told_no (below_drewN (unhide Hbl) _) (unhide Ht) (isErr_bits _ _)

set_option maxRecDepth 100000 in
set_option maxHeartbeats 8000000 in
theorem toldH (B at_ : Nat) (s : ByteArray) (a : Ad) (w : World) (g : Glob a w) (hc : Cod kH w B) (hs : s.size = 2) (hat : at_ ≤ 10000) (hm : ∀ x m, kH.nm x = some m → m < 16 ∧ x.toNat < 128 ∧ x ≠ 61) :
    Calls Tryz.prog 144 #[.pointer (some ⟨B, 0, none⟩), .int .i64 at_, .string s] w (ToldPost kH s.data.toList a w) := by
  have hw : w.cell? ⟨B, 193, none⟩ = some (.int .i64 2) := hc.wi
  have hs' : (s.size : Int) = 2 := by omega
  have hat' : (at_ : Int) ≤ 10000 := by omega
  have hnl : ¬ s.data.toList.length < kH.wd := by show ¬ s.data.toList.length < 2; simp; show 2 ≤ s.size; omega
  have hBl := hc.lt
  have Hg := hide g
  have Hnl := hide hnl
  have Hm := hide hm
  have Hc := hide hc
  have Hs := hide hs
  clear g hnl hm hc hat hs
  go_enter Tryz.func144, Tryz.ntmps144
  go_wp2
  go_loopw [6, 7] (fun u6 u7 wr => ∃ p b c : Nat, p ≤ 2 ∧ u6 = .int .i64 (b : Int) ∧ u7 = .int .i64 (c : Int) ∧ Tin kH s w p b c wr)
    (fun _ _ wr => 2 - wr.iterPos w.heap.size)
  case atStart =>
    exact ⟨0, 0, 0, Nat.zero_le _, rfl, rfl, Nat.le_refl _, by omega, by simp, rfl, World.iter_heap w s 0, (Below.refl _ _).alloc (Nat.le_refl _) _⟩
  case round =>
    obtain ⟨p, b, c, hp, rfl, rfl, hpl, hbb, hmd, hlp, hit, hbl⟩ := hrel
    have Hpl := hide hpl
    have Hbb := hide hbb
    have Hmd := hide hmd
    have Hlp := hide hlp
    have Hit := hide hit
    have Hbl := hide hbl
    have hbb' : (b : Int) ≤ 16777215 := by omega
    have hcc : (c : Int) ≤ 2 := by omega
    clear hmd hlp hbl hbb
    by_cases hlt : p < 2
    · have hps : p < s.size := by rw [unhide Hs]; exact hlt
      have hnx := fun ty => run_next_at wr w.heap.size s p ty hit hps
      have hdr := drop_at s p hps
      have hi1 : ∀ d, (wr.putObj w.heap.size (.stringIter s (p + d))).heap[w.heap.size]? = some (.stringIter s (p + d)) := fun d => World.putObj_heap_same (Array.getElem?_eq_some_iff.1 hit).1
      have hl1 : ∀ d, Below w.heap.size w (wr.putObj w.heap.size (.stringIter s (p + d))) := fun d => putObj_below (unhide Hbl) (Nat.le_refl _)
      have hL := unhide Hlp
      rw [hdr] at hL
      have hnum : ∀ n d, Calls Tryz.prog 147 #[.pointer (some ⟨B, 0, none⟩), .int .i32 (n : Nat)] (wr.putObj w.heap.size (.stringIter s (p + d))) fun e w' => e = .returned (.tuple #[.int .i64 (nv kH n).1, .bool (nv kH n).2]) ∧ w' = (wr.putObj w.heap.size (.stringIter s (p + d))) :=
        fun n d => number_any kH B n _ ((unhide Hc).below hBl (hl1 d)) (fun x m h => by have := (unhide Hm x m h).1; omega)
      have Hi1 := hide hi1
      have Hl1 := hide hl1
      have HN := hide hnum
      clear hi1 hl1 hnum hit hdr hps
      by_cases hx : (at' s p).toNat < 128
      · rw [dec_ascii s p hx] at hnx
        dsimp only at hnx
        generalize at' s p = x at *
        rw [lp] at hL
        cases hnm : kH.nm x with
        | none =>
          rw [hnm] at hL
          dsimp only at hL
          have HN1 := unhide HN x.toNat 1
          rw [nv_none hnm] at HN1
          by_cases hf : x = 61
          · subst hf
            clear hx
            have hnx' : ∀ ty, (Instr.next (.pointer (some ⟨w.heap.size, 0, none⟩)) true ty).run Tryz.prog wr = .ok (.tuple #[.bool true, .int .i64 p, .int .i32 61]) (wr.putObj w.heap.size (.stringIter s (p + 1))) := hnx
            clear hnx
            have HN2 : Hid (Calls Tryz.prog 147 #[.pointer (some ⟨B, 0, none⟩), .int .i32 61] (wr.putObj w.heap.size (.stringIter s (p + 1))) fun e w' => e = .returned (.tuple #[.int .i64 0, .bool false]) ∧ w' = (wr.putObj w.heap.size (.stringIter s (p + 1)))) := HN1
            clear HN1 HN
            by_cases h2 : 2 ≤ p
            · omega
            · rw [if_neg (fun h => h2 h.2)] at hL
              have h2' : ¬ (2 : Int) ≤ p := by omega
              have Hl2 := hide ((unhide Hl1) 1)
              have HL := hide (tl_none (unhide Hnl) hL.symm)
              clear hL Hi1 Hl1 hpl
              generalize wr.putObj w.heap.size (.stringIter s (p + 1)) = W1 at *
              go_wp2_with fail
              refine (unhide HN2).mono ?_
              rintro e w2 ⟨rfl, rfl⟩
              go_wp2
              refine bodyPost_ret (v := .tuple #[.int .i64 0, .int .i64 0, nos ((at_ : Int) + p) 61]) (by simp [results, Tryz.results144, go_sem]) rfl ?_
              exact told_no (unhide Hl2) (unhide HL) (isErr_sign _ _ _)
          · rw [if_neg (fun h => hf h.1)] at hL
            have hne : ((x.toNat : Int) == 61) = false := by
              rw [beq_eq_false_iff_ne]
              intro h
              exact hf (UInt8.toNat.inj (by show x.toNat = 61; omega))
            have Hl2 := hide ((unhide Hl1) 1)
            have HL := hide (tl_none (unhide Hnl) hL.symm)
            have HN2 := hide HN1
            clear hL Hi1 Hl1 hpl HN1 HN hf hx hnm
            generalize wr.putObj w.heap.size (.stringIter s (p + 1)) = W1 at *
            generalize (x.toNat : Int) = n at *
            go_wp2_with fail
            refine (unhide HN2).mono ?_
            rintro e w2 ⟨rfl, rfl⟩
            go_wp2
            refine bodyPost_ret (v := .tuple #[.int .i64 0, .int .i64 0, nos ((at_ : Int) + p) n]) (by simp [results, Tryz.results144, go_sem]) rfl ?_
            exact told_no (unhide Hl2) (unhide HL) (isErr_sign _ _ _)
        | some q =>
          obtain ⟨hq1, _, hq3⟩ := unhide Hm x q hnm
          rw [hnm] at hL
          dsimp only at hL
          have hne : ((x.toNat : Int) == 61) = false := by
            rw [beq_eq_false_iff_ne]
            intro h
            exact hq3 (UInt8.toNat.inj (by show x.toNat = 61; omega))
          have HN2 := unhide HN x.toNat 1
          rw [nv_some hx hnm] at HN2
          replace HN2 := hide HN2
          have Hl2 := hide ((unhide Hl1) 1)
          have Hi2 := hide ((unhide Hi1) 1)
          by_cases hcp : c = p
          · subst hcp
            rw [if_pos rfl] at hL
            have HL := hide hL
            have hbi : (wr.putObj w.heap.size (.stringIter s (c + 1))).cell? ⟨B, 194, none⟩ = some (.int .i64 4) := ((unhide Hc).below hBl (unhide Hl2)).bi
            clear hL Hi1 Hl1 hpl HN hx hnm hq3
            generalize wr.putObj w.heap.size (.stringIter s (c + 1)) = W1 at *
            generalize (x.toNat : Int) = n at *
            obtain rfl | rfl : c = 0 ∨ c = 1 := by omega
            · have hsh : (q : Int) * 1048576 = ((q * 2 ^ 20 : Nat) : Int) := by omega
              have hw1 : wrap64 ((q : Int) * 1048576) = (q : Int) * 1048576 := by unfold wrap64; omega
              have hor := or_put b q 20 4 (unhide Hmd) (by omega) (unhide Hbb) (by omega)
              have hz := put_mod b q 20 4 (unhide Hmd)
              have hlt2 := put_lt b q 20 4 (unhide Hmd) (by omega) (unhide Hbb) (by omega)
              rw [← hsh] at hor
              have HL2 : Hid (lp kH (s.data.toList.drop (0 + 1)) (0 + 1) (b + q * 2 ^ 20) (0 + 1) = lp kH s.data.toList 0 0 0) := unhide HL
              have Hz := hide hz
              have Hlt := hide hlt2
              generalize b + q * 2 ^ 20 = b2 at *
              clear hsh hz hlt2 HL
              go_wp2_with fail
              refine (unhide HN2).mono ?_
              rintro e w2 ⟨rfl, rfl⟩
              go_wp2
              go_roundw
              case rel =>
                exact ⟨1, b2, 1, by omega, rfl, rfl, by omega, unhide Hlt, unhide Hz, unhide HL2, unhide Hi2, unhide Hl2⟩
              case measure =>
                simp [World.iterPos, unhide Hi2, unhide Hit]
            · have hsh : (q : Int) * 65536 = ((q * 2 ^ 16 : Nat) : Int) := by omega
              have hw1 : wrap64 ((q : Int) * 65536) = (q : Int) * 65536 := by unfold wrap64; omega
              have hor := or_put b q 16 4 (unhide Hmd) (by omega) (unhide Hbb) (by omega)
              have hz := put_mod b q 16 4 (unhide Hmd)
              have hlt2 := put_lt b q 16 4 (unhide Hmd) (by omega) (unhide Hbb) (by omega)
              rw [← hsh] at hor
              have HL2 : Hid (lp kH (s.data.toList.drop (1 + 1)) (1 + 1) (b + q * 2 ^ 16) (1 + 1) = lp kH s.data.toList 0 0 0) := unhide HL
              have Hz := hide hz
              have Hlt := hide hlt2
              generalize b + q * 2 ^ 16 = b2 at *
              clear hsh hz hlt2 HL
              go_wp2_with fail
              refine (unhide HN2).mono ?_
              rintro e w2 ⟨rfl, rfl⟩
              go_wp2
              go_roundw
              case rel =>
                exact ⟨2, b2, 2, by omega, rfl, rfl, by omega, unhide Hlt, unhide Hz, unhide HL2, unhide Hi2, unhide Hl2⟩
              case measure =>
                simp [World.iterPos, unhide Hi2, unhide Hit]
          · rw [if_neg hcp] at hL
            have hcp' : ((c : Int) == p) = false := by rw [beq_eq_false_iff_ne]; omega
            have HL := hide (tl_none (unhide Hnl) hL.symm)
            clear hL Hi1 Hl1 hpl HN hx hnm hq3 hcp
            generalize wr.putObj w.heap.size (.stringIter s (p + 1)) = W1 at *
            generalize (x.toNat : Int) = n at *
            go_wp2_with fail
            refine (unhide HN2).mono ?_
            rintro e w2 ⟨rfl, rfl⟩
            go_wp2
            refine bodyPost_ret (v := .tuple #[.int .i64 0, .int .i64 0, nos ((at_ : Int) + p) n]) (by simp [results, Tryz.results144, go_sem]) rfl ?_
            exact told_no (unhide Hl2) (unhide HL) (isErr_sign _ _ _)
      · have hbig := dec_big s p (by omega)
        have hnone : kH.nm (at' s p) = none := by
          cases hq : kH.nm (at' s p) with
          | none => rfl
          | some q => exact absurd (unhide Hm _ q hq).2.1 hx
        have hno : ¬ (at' s p = 61 ∧ 2 ≤ p) := fun h => hx (by rw [h.1]; decide)
        rw [lp, hnone] at hL
        dsimp only at hL
        rw [if_neg hno] at hL
        have HN1 := unhide HN (Utf8.decode s p).1 (Utf8.decode s p).2
        rw [nv_big hbig] at HN1
        have hne : (((Utf8.decode s p).1 : Int) == 61) = false := by rw [beq_eq_false_iff_ne]; omega
        have Hl2 := hide ((unhide Hl1) (Utf8.decode s p).2)
        have HL := hide (tl_none (unhide Hnl) hL.symm)
        have HN2 := hide HN1
        clear hL Hi1 Hl1 hpl HN1 HN hx hbig hnone hno
        generalize (Utf8.decode s p).2 = d at *
        generalize wr.putObj w.heap.size (.stringIter s (p + d)) = W1 at *
        generalize ((Utf8.decode s p).1 : Int) = n at *
        go_wp2_with fail
        refine (unhide HN2).mono ?_
        rintro e w2 ⟨rfl, rfl⟩
        go_wp2
        refine bodyPost_ret (v := .tuple #[.int .i64 0, .int .i64 0, nos ((at_ : Int) + p) n]) (by simp [results, Tryz.results144, go_sem]) rfl ?_
        exact told_no (unhide Hl2) (unhide HL) (isErr_sign _ _ _)
    · have hpe : p = 2 := by omega
      subst hpe
      have hnx := fun ty => run_next_over wr w.heap.size s 2 ty hit (by rw [unhide Hs]; omega)
      have hL := unhide Hlp
      rw [List.drop_of_length_le (by simp [unhide Hs]), lp] at hL
      have ht := tl_some (unhide Hnl) hL.symm
      have gb := ((unhide Hg).below (Nat.le_refl _) (unhide Hbl)).bi
      have hwh := fun c hc => whole_any kH B c 4 wr ((unhide Hc).below hBl (unhide Hbl)) rfl (by omega) hc
      have Hwh := hide hwh
      clear hit hL hwh hpl hlt hp
      obtain rfl | rfl | rfl : c = 0 ∨ c = 1 ∨ c = 2 := by omega
      · have hW : Hid (Calls Tryz.prog 146 #[.pointer (some ⟨B, 0, none⟩), .int .i64 0] wr fun e w' => e = .returned (.int .i64 0) ∧ w' = wr) := unhide Hwh 0 (by omega)
        have ht2 : tl kH s.data.toList = if b % 16777216 = 0 then some (b, 0) else none := ht
        have hand : bits .and .i64 (b : Int) 16777215 = ((b % 16777216 : Nat) : Int) := and_mask b 24 (by omega) (by decide)
        clear Hwh ht
        by_cases hz : b % 16777216 = 0
        · rw [hz] at hand
          rw [if_pos hz] at ht2
          have Ht := hide ht2
          clear ht2 hz
          go_wp2_with fail
          refine (unhide hW).mono ?_
          rintro e w2 ⟨rfl, rfl⟩
          go_wp2
          refine bodyPost_ret (v := .tuple #[.int .i64 b, .int .i64 0, .nilIface]) (by simp [results, Tryz.results144, go_sem]) rfl ?_
          exact told_yes (unhide Hbl) (unhide Ht)
        · rw [if_neg hz] at ht2
          have hnz : (((b % 16777216 : Nat) : Int) == 0) = false := by rw [beq_eq_false_iff_ne]; omega
          have Ht := hide ht2
          clear ht2 hz
          generalize ((b % 16777216 : Nat) : Int) = r at *
          go_wp2_with fail
          refine (unhide hW).mono ?_
          rintro e w2 ⟨rfl, rfl⟩
          go_wp2
          go_quiet (fail)
          go_wp2
          refine bodyPost_ret (v := .tuple #[.int .i64 0, .int .i64 0, flt ((at_ : Int) + 0 - 1) a.b]) (by simp [results, Tryz.results144, go_sem]) rfl ?_
          exact told_no (below_drewN (unhide Hbl) _) (unhide Ht) (isErr_bits _ _)
      · have hW : Hid (Calls Tryz.prog 146 #[.pointer (some ⟨B, 0, none⟩), .int .i64 1] wr fun e w' => e = .returned (.int .i64 0) ∧ w' = wr) := unhide Hwh 1 (by omega)
        have ht2 : tl kH s.data.toList = if b % 16777216 = 0 then some (b, 1) else none := ht
        have hand : bits .and .i64 (b : Int) 16777215 = ((b % 16777216 : Nat) : Int) := and_mask b 24 (by omega) (by decide)
        clear Hwh ht
        by_cases hz : b % 16777216 = 0
        · rw [hz] at hand
          rw [if_pos hz] at ht2
          have Ht := hide ht2
          clear ht2 hz
          go_wp2_with fail
          refine (unhide hW).mono ?_
          rintro e w2 ⟨rfl, rfl⟩
          go_wp2
          refine bodyPost_ret (v := .tuple #[.int .i64 b, .int .i64 1, .nilIface]) (by simp [results, Tryz.results144, go_sem]) rfl ?_
          exact told_yes (unhide Hbl) (unhide Ht)
        · rw [if_neg hz] at ht2
          have hnz : (((b % 16777216 : Nat) : Int) == 0) = false := by rw [beq_eq_false_iff_ne]; omega
          have Ht := hide ht2
          clear ht2 hz
          generalize ((b % 16777216 : Nat) : Int) = r at *
          go_wp2_with fail
          refine (unhide hW).mono ?_
          rintro e w2 ⟨rfl, rfl⟩
          go_wp2
          go_quiet (fail)
          go_wp2
          refine bodyPost_ret (v := .tuple #[.int .i64 0, .int .i64 0, flt ((at_ : Int) + 1 - 1) a.b]) (by simp [results, Tryz.results144, go_sem]) rfl ?_
          exact told_no (below_drewN (unhide Hbl) _) (unhide Ht) (isErr_bits _ _)
      · have hW : Hid (Calls Tryz.prog 146 #[.pointer (some ⟨B, 0, none⟩), .int .i64 2] wr fun e w' => e = .returned (.int .i64 1) ∧ w' = wr) := unhide Hwh 2 (by omega)
        have ht2 : tl kH s.data.toList = if b % 65536 = 0 then some (b, 2) else none := ht
        have hand : bits .and .i64 (b : Int) 65535 = ((b % 65536 : Nat) : Int) := and_mask b 16 (by omega) (by decide)
        clear Hwh ht
        by_cases hz : b % 65536 = 0
        · rw [hz] at hand
          rw [if_pos hz] at ht2
          have Ht := hide ht2
          clear ht2 hz
          go_wp2_with fail
          refine (unhide hW).mono ?_
          rintro e w2 ⟨rfl, rfl⟩
          go_wp2
          refine bodyPost_ret (v := .tuple #[.int .i64 b, .int .i64 2, .nilIface]) (by simp [results, Tryz.results144, go_sem]) rfl ?_
          exact told_yes (unhide Hbl) (unhide Ht)
        · rw [if_neg hz] at ht2
          have hnz : (((b % 65536 : Nat) : Int) == 0) = false := by rw [beq_eq_false_iff_ne]; omega
          have Ht := hide ht2
          clear ht2 hz
          generalize ((b % 65536 : Nat) : Int) = r at *
          go_wp2_with fail
          refine (unhide hW).mono ?_
          rintro e w2 ⟨rfl, rfl⟩
          go_wp2
          go_quiet (fail)
          go_wp2
          refine bodyPost_ret (v := .tuple #[.int .i64 0, .int .i64 0, flt ((at_ : Int) + 2 - 1) a.b]) (by simp [results, Tryz.results144, go_sem]) rfl ?_
          exact told_no (below_drewN (unhide Hbl) _) (unhide Ht) (isErr_bits _ _)
end Go.Proofs.YthfcnjcpanoldaaGreatDoor.C

/-
  The iterator of package code: 'groups' hands over a text's pieces of one length, each with its place. Conditions: none.
-/
namespace Go.Proofs.YthfcnjcpanoldaaGreatDoor.C
open Go Go.RowKit Go.Shelf Cd
attribute [local go_sem] Oper.semAt_some

/-- a piece of a text: its place. -/
structure Pc (s : ByteArray) where
  p : Nat
  hp : p < s.size
/-- its bytes. -/
abbrev Pc.g {s : ByteArray} (n : Nat) (x : Pc s) : ByteArray := s.extract x.p (min (x.p + n) s.size)
/-- the pieces from a place on. -/
def al (s : ByteArray) (n : Nat) : Nat → Nat → List (Pc s)
  | 0, _ => []
  | f + 1, p => if h : p < s.size then ⟨p, h⟩ :: al s n f (p + n) else []
def all (s : ByteArray) (n : Nat) : List (Pc s) := al s n s.size 0
theorem al_cons (s : ByteArray) (n f p : Nat) (hn : 1 ≤ n) (h : p < s.size) (hf : s.size ≤ p + f) : ∃ f', f = f' + 1 ∧ al s n f p = ⟨p, h⟩ :: al s n f' (p + n) ∧ s.size ≤ p + n + f' := by
  cases f with
  | zero => omega
  | succ f => exact ⟨f, rfl, by rw [al, dif_pos h], by omega⟩
theorem al_end (s : ByteArray) (n f p : Nat) (h : ¬ p < s.size) : al s n f p = [] := by
  cases f with
  | zero => rfl
  | succ f => rw [al, dif_neg h]

theorem groups_any (s : ByteArray) (n : Nat) (w : World) :
    Calls Tryz.prog 66 #[.string s, .int .i64 n] w fun e w' => e = .returned (.func (.func 91) #[] #[.pointer (some ⟨w.heap.size, 0, none⟩), .pointer (some ⟨w.heap.size + 1, 0, none⟩)]) ∧ w' = (w.alloc (.cells #[.string s] 9)).alloc (.cells #[.int .i64 n] 3) := by
  go_enter Tryz.func66, Tryz.ntmps66
  go_wp2
  go_ret
  exact ⟨rfl, rfl⟩

/-- what a round must keep for the iterator: its own two boxes. -/
def Two (p q : Nat) (W W' : World) : Prop := W'.heap[p]? = W.heap[p]? ∧ W'.heap[q]? = W.heap[q]?
theorem Two.trans {p q : Nat} {A B C : World} (h : Two p q A B) (k : Two p q B C) : Two p q A C := ⟨k.1.trans h.1, k.2.trans h.2⟩
theorem Two.book {p q : Nat} {w : World} (hp : p < w.heap.size) (hq : q < w.heap.size) (W : World) (l : Nat) (o o' : Obj) (hl : w.heap.size ≤ l) (_ : W.heap[l]? = some o) (_ : o.isCells = false) (_ : o.isWalk = false) : Two p q W (W.putObj l o') :=
  ⟨World.putObj_heap_other (by omega), World.putObj_heap_other (by omega)⟩

set_option maxRecDepth 100000 in
set_option maxHeartbeats 2000000 in
theorem groups1_stops (m : Nat) (hm : 1 ≤ m) (Bs Bn n : Nat) (s : ByteArray) (w : World) (hn : 1 ≤ n) (hn4 : n ≤ 4) (hs : s.size ≤ 2000)
    (hBs : w.cell? ⟨Bs, 0, none⟩ = some (.string s)) (hBn : w.cell? ⟨Bn, 0, none⟩ = some (.int .i64 n)) :
    SeqStopsK Fence.wide m Tryz.prog 91 #[.pointer (some ⟨Bs, 0, none⟩), .pointer (some ⟨Bn, 0, none⟩)] (fun x : Pc s => #[.int .i64 x.p, .string (x.g n)]) (Two Bs Bn)
      (fun xs => xs = all s n) (fun pre => pre <+: all s n) s.size w := fun l J Jx W hW hJ hJx hY h0 => by
  have hbs := (hW.cell (p := ⟨Bs, 0, none⟩) (lt_of_cell hBs)).trans hBs
  have hbn := (hW.cell (p := ⟨Bn, 0, none⟩) (lt_of_cell hBn)).trans hBn
  clear hBs hBn hW
  refine callsIn_of_wp Tryz.func91 rfl trivial ?_ rfl
  simp only [Tryz.ntmps91, List.size_toArray, List.length_cons, List.length_nil, Nat.reduceAdd, Nat.reduceSub, Array.replicate_succ, Array.replicate_zero, List.push_toArray, List.append_toArray, List.nil_append, List.cons_append]
  gi_wp2
  gi_loopw [4] (fun i wr => ∃ (pre : List (Pc s)) (f p : Nat), pre ++ al s n f p = all s n ∧ s.size ≤ p + f ∧ pre.length ≤ p ∧ p ≤ s.size + 4 ∧ i = .int .i64 (p : Int) ∧ J pre wr ∧ wr.cell? ⟨Bs, 0, none⟩ = some (.string s) ∧ wr.cell? ⟨Bn, 0, none⟩ = some (.int .i64 n))
    (fun i _ => s.size - (intOf i).toNat)
  case atStart => exact ⟨[], s.size, 0, rfl, by omega, Nat.le_refl _, by omega, rfl, h0, hbs, hbn⟩
  case round =>
    obtain ⟨pre, f, p, hl, hf, hpl, hp4, rfl, hJs, ha, ht⟩ := hrel
    by_cases hlt : p < s.size
    · obtain ⟨f', rfl, hal, hf'⟩ := al_cons s n f p hn hlt hf
      rw [hal] at hl
      obtain ⟨fn, tmps, assign, body, hy, hR⟩ := hY _ ⟨p, hlt⟩ _ hJs (by omega)
      have Hl := hide hl
      have Hf := hide hf'
      have Hpl := hide hpl
      have Hlt := hide hlt
      have hlt' : (p : Int) < s.size := by omega
      have hp' : (p : Int) ≤ 2000 := by omega
      have hn' : (n : Int) ≤ 4 := by omega
      have hs' : (s.size : Int) ≤ 2000 := by omega
      clear hl hal hf hf' hpl hbs hbn
      by_cases hq : p + n ≤ s.size
      · have hsl := fun wx => run_slice_string (P := Tryz.prog) (w := wx) 9 s .i64 .i64 (p : Int) ((p : Int) + n) Tryz.underlying9 (by omega) (by omega) (by omega)
        rw [show ((p : Int)).toNat = p by omega, show ((p : Int) + n).toNat = p + n by omega] at hsl
        have hg : Pc.g n (⟨p, hlt⟩ : Pc s) = s.extract p (p + n) := by show s.extract p (min (p + n) s.size) = _; rw [Nat.min_eq_left hq]
        rw [hg] at hy
        have hq' : (p : Int) + n ≤ s.size := by omega
        clear hg
        gi_wp2
        refine hR.mono ?_
        rintro e W3 (⟨rfl, hJ3, hk3⟩ | ⟨rfl, hJx3⟩)
        · have h3s := (World.cell?_of_block (a := ⟨Bs, 0, none⟩) hk3.1).trans ha
          have h3n := (World.cell?_of_block (a := ⟨Bn, 0, none⟩) hk3.2).trans ht
          clear hk3
          gi_wp2
          go_roundw
          case rel =>
            refine ⟨_, f', p + n, ?_, unhide Hf, ?_, by omega, by simp, hJ3, h3s, h3n⟩
            · rw [List.append_assoc]
              exact unhide Hl
            · have := unhide Hpl
              simp
              omega
          case measure => simp [intOf]; omega
        · gi_wp2
          refine bodyPost_ret (results_none rfl _ _ _) rfl ?_
          exact ⟨⟨_, rfl⟩, .inr ⟨_, ⟨al s n f' (p + n), by rw [List.append_assoc]; exact unhide Hl⟩, hJx3⟩⟩
      · have hsl := fun wx => run_slice_string (P := Tryz.prog) (w := wx) 9 s .i64 .i64 (p : Int) (s.size : Int) Tryz.underlying9 (by omega) (by omega) (by omega)
        rw [show ((p : Int)).toNat = p by omega, show ((s.size : Int)).toNat = s.size by omega] at hsl
        have hg : Pc.g n (⟨p, hlt⟩ : Pc s) = s.extract p s.size := by show s.extract p (min (p + n) s.size) = _; rw [Nat.min_eq_right (by omega)]
        rw [hg] at hy
        have hq' : ¬ (p : Int) + n ≤ s.size := by omega
        clear hg
        gi_wp2
        refine hR.mono ?_
        rintro e W3 (⟨rfl, hJ3, hk3⟩ | ⟨rfl, hJx3⟩)
        · have h3s := (World.cell?_of_block (a := ⟨Bs, 0, none⟩) hk3.1).trans ha
          have h3n := (World.cell?_of_block (a := ⟨Bn, 0, none⟩) hk3.2).trans ht
          clear hk3
          gi_wp2
          go_roundw
          case rel =>
            refine ⟨_, f', p + n, ?_, unhide Hf, ?_, by omega, by simp, hJ3, h3s, h3n⟩
            · rw [List.append_assoc]
              exact unhide Hl
            · have := unhide Hpl
              simp
              omega
          case measure => simp [intOf]; omega
        · gi_wp2
          refine bodyPost_ret (results_none rfl _ _ _) rfl ?_
          exact ⟨⟨_, rfl⟩, .inr ⟨_, ⟨al s n f' (p + n), by rw [List.append_assoc]; exact unhide Hl⟩, hJx3⟩⟩
    · have hge : ¬ (p : Int) < s.size := by omega
      rw [al_end s n f p hlt, List.append_nil] at hl
      subst hl
      clear hbs hbn hf hpl
      gi_wp2
      go_end0
      first | exact ⟨⟨_, rfl⟩, .inl ⟨_, rfl, hJs⟩⟩ | exact ⟨⟨_, rfl⟩, .inl hJs⟩
end Go.Proofs.YthfcnjcpanoldaaGreatDoor.C

/-
  What code.coder.print answers: a text's signs. Conditions: none.
-/
namespace Go.Proofs.YthfcnjcpanoldaaGreatDoor.C
open Go Go.RowKit Go.Shelf Cd
attribute [local go_sem] Oper.semAt_some

theorem conv_nil (w : World) : (convert 85 9 (.slice none 0 0)).run Tryz.prog w = .ok (.string ⟨#[]⟩) w := by kernel_rfl
theorem nums_str (l : List UInt8) : strOfNums (l.map fun x => (x.toNat : Int)) = ⟨l.toArray⟩ := by
  unfold strOfNums
  congr 1
  simp [List.map_map]
  conv => rhs; rw [← List.map_id l]
  exact List.map_congr_left fun x _ => by simp
theorem conv_row {w : World} {base k : Nat} {sl : Value} {l : List UInt8} (ho : w.ownsRow base 5 1 sl k (cells l)) (hk : l.length = k) :
    (convert 85 9 sl).run Tryz.prog w = .ok (.string ⟨l.toArray⟩) w := by
  rcases ho.2 with ⟨rfl, h0⟩ | ⟨g, cap, cur, rfl, hg, hc, h1, h2, h3, h4⟩
  · have : l = [] := List.length_eq_zero_iff.1 (by omega)
    subst this
    exact conv_nil w
  · rw [← nums_str]
    refine run_convert_bytes_arg w _ _ Tryz.underlying85 Tryz.underlying5 g 0 k cap (l.map fun x => (x.toNat : Int)) (by simpa using hk) (fun i hi => ?_) _ Tryz.underlying9
    have hi' : i < l.length := by omega
    have := ho.cells (g := g) rfl i (.int .u8 (l[i].toNat : Int)) (by simp [cells, List.getElem?_eq_getElem hi'])
    rw [Addr.add_lit] at this
    rw [this]
    simp [List.getD_eq_getElem?_getD, List.getElem?_eq_getElem hi']

/-- what is printed of pieces. -/
def prt (k : Kd) {s : ByteArray} (l : List (Pc s)) : List UInt8 := l.flatMap fun x => gr k (x.g k.bs).data.toList
theorem prt_snoc (k : Kd) {s : ByteArray} (l : List (Pc s)) (x : Pc s) : prt k (l ++ [x]) = prt k l ++ gr k (x.g k.bs).data.toList := by simp [prt]
theorem gr_length (k : Kd) (g : List UInt8) : (gr k g).length = k.wd := by simp [gr]
theorem prt_length (k : Kd) {s : ByteArray} (l : List (Pc s)) : (prt k l).length = k.wd * l.length := by
  induction l with
  | nil => rfl
  | cons x l ih =>
    have : prt k (x :: l) = gr k (x.g k.bs).data.toList ++ prt k l := rfl
    rw [this, List.length_append, gr_length, ih, List.length_cons, Nat.mul_succ]
    omega

/-- what lies in memory while the pieces are gone through: the coder's place, the signs, the iterator's two boxes. -/
structure Pin (k : Kd) (B : Nat) (s : ByteArray) (w : World) (out : List UInt8) (v : Value) (W : World) : Prop where
  bx : W.heap[w.heap.size]? = some (.cells #[.pointer (some ⟨B, 0, none⟩)] 59)
  bv : W.heap[w.heap.size + 1]? = some (.cells #[v] 85)
  own : W.ownsRow (w.heap.size + 4) 5 1 v out.length (cells out)
  bel : Below w.heap.size w W
  size : w.heap.size + 4 ≤ W.heap.size
theorem Pin.grown {k : Kd} {B : Nat} {s : ByteArray} {w W W' : World} {out : List UInt8} {v : Value} {row : Option Nat} (h : Pin k B s w out v W) (hg : W.grownBy W' row) (hr : ∀ r, row = some r → w.heap.size + 4 ≤ r ∧ ∃ o, W.heap[r]? = some o ∧ o.isCells = false) : Pin k B s w out v W' := by
  have hz := h.size
  have hk : ∀ k, k < w.heap.size + 4 → W'.heap[k]? = W.heap[k]? := fun k hk => hg.block k (by omega) (fun e => by have := (hr k e.symm).1; omega)
  refine ⟨(hk _ (by omega)).trans h.bx, (hk _ (by omega)).trans h.bv, h.own.kept hg ?_, ⟨hg.os.trans h.bel.os, hg.tape.trans h.bel.tape, hg.output.trans h.bel.output, Nat.le_trans h.bel.size hg.size, fun k hk' => (hk k (by omega)).trans (h.bel.block k hk')⟩, Nat.le_trans hz hg.size⟩
  rcases h.own.2 with ⟨rfl, _⟩ | ⟨g, cap, cur, rfl, _, hgb, _⟩
  · exact .inl rfl
  · refine .inr fun e' => ?_
    obtain ⟨_, o, ho, hc⟩ := hr g (by simpa [Value.ownBlock] using e'.symm)
    rw [hgb] at ho; cases ho; cases hc
theorem Pin.cl {k : Kd} {B : Nat} {s : ByteArray} {w W : World} {out : List UInt8} {v : Value} (h : Pin k B s w out v W) : W.cell? ⟨w.heap.size, 0, none⟩ = some (.pointer (some ⟨B, 0, none⟩)) ∧ W.cell? ⟨w.heap.size + 1, 0, none⟩ = some v ∧ W.frozen? ⟨w.heap.size + 1, 0, none⟩ = false := by
  have h1 := h.bx
  have h2 := h.bv
  simp [World.cell?, World.frozen?, h1, h2]
/-- the signs grow. -/
theorem Pin.put {k : Kd} {B : Nat} {s : ByteArray} {w W W' : World} {out more : List UInt8} {v v' : Value} (h : Pin k B s w out v W) (hb : Bel (w.heap.size + 4) W W') (ho : W'.ownsRow (w.heap.size + 4) 5 1 v' (out ++ more).length (cells (out ++ more))) :
    Pin k B s w (out ++ more) v' (W'.setCell ⟨w.heap.size + 1, 0, none⟩ v') := by
  have hz := h.size
  have hk : ∀ k, k < w.heap.size + 4 → W'.heap[k]? = W.heap[k]? := fun k hk => hb.1.block k hk
  refine ⟨(Below.heap_setCell _ _ _ _ (by show w.heap.size ≠ w.heap.size + 1; omega)).trans ((hk _ (by omega)).trans h.bx), heap_setCell_same W' _ 0 _ _ _ ((hk _ (by omega)).trans h.bv), ?_, (h.bel.trans (hb.1.mono (by omega))).setCell (by show w.heap.size ≤ w.heap.size + 1; omega) _, by simp; have := hb.1.size; omega⟩
  exact ownsRow_setCell_below ho (by show w.heap.size + 1 < w.heap.size + 4; omega) _

theorem own_form {w : World} {base n : Nat} {v : Value} {xs : List Value} (h : w.ownsRow base 5 1 v n xs) (hn : 0 < n) : ∃ g cap, v = .slice (some ⟨g, 0, none⟩) n cap := by
  rcases h.2 with ⟨_, h0⟩ | ⟨g, cap, _, rfl, _⟩
  · omega
  · exact ⟨g, cap, rfl⟩
theorem bel_frozen {B : Nat} {w w' : World} (h : Below B w w') {a : Addr} (ha : a.block < B) : w'.frozen? a = w.frozen? a := by
  simp [World.frozen?, h.block _ ha]
theorem piece_size {s : ByteArray} {n : Nat} (x : Pc s) (hn : 1 ≤ n) : 1 ≤ (x.g n).size ∧ (x.g n).size ≤ n := by
  have := x.hp
  rw [ByteArray.size_extract]
  omega
def PPost (k : Kd) (s : ByteArray) (w : World) (e : Ending) (w' : World) : Prop := e = .returned (.string ⟨(prt k (all s k.bs)).toArray⟩) ∧ Below w.heap.size w w'
theorem finP {w V : World} {D : Nat} {tmps : Array Value} {v : Value} {R : Ending → World → Prop} (hV : V.heap[D]? = some (.deferred (some []))) (hD : w.heap.size ≤ D) (hb : Below w.heap.size w V) (t4 : tmps.getD 4 undef = v)
    (hp : ∀ V', Below w.heap.size w V' → R (.returned v) V') :
    bodyPostM Fence.wide 3 Tryz.prog Tryz.f45 R Exit.ret { tmps, defers := [{ target := .collected D, args := #[] }] } V := by
  refine ⟨by simp, .inl ⟨_, _, rfl, run_takeDeferred hV, ?_⟩⟩
  refine ⟨v, ?_, hp _ (putObj_below hb hD)⟩
  subst t4
  simp [results, Tryz.results45, go_sem]
/-- what add does, at any kind. -/
def Adds (k : Kd) : Prop := ∀ (B : Nat) (s : ByteArray) (w : World) (base : Nat) (v : Value) (m : Nat) (xs : List Value), 1 ≤ s.size → s.size ≤ k.bs → Cod k w B → B < base → w.ownsRow base 5 1 v m xs → m ≤ 100000 → base ≤ w.heap.size →
    Calls Tryz.prog 67 #[.pointer (some ⟨B, 0, none⟩), v, .string s] w (AddPost k s.data.toList base m xs w)
theorem adds_B : Adds kB := addB
theorem adds_H : Adds kH := addH

set_option maxRecDepth 100000 in
set_option maxHeartbeats 2000000 in
theorem print_any (k : Kd) (hA : Adds k) (B : Nat) (s : ByteArray) (w : World) (hc : Cod k w B) (hs : s.size ≤ 2000) (hk : 1 ≤ k.bs) (hk4 : k.bs ≤ 4) (hw1 : 1 ≤ k.wd) (hw4 : k.wd ≤ 4) :
    Calls Tryz.prog 45 #[.pointer (some ⟨B, 0, none⟩), .string s] w (PPost k s w) := by
  have hby := hc.by'
  have hlt := hc.lt
  refine (callsIn_wide (n := 3)).1 ?_
  refine callsIn_of_wp_marks Tryz.func45 rfl trivial ?_ rfl
  simp only [Tryz.ntmps45, List.size_toArray, List.length_cons, List.length_nil, Nat.reduceAdd, Nat.reduceSub, Array.replicate_succ, Array.replicate_zero, List.push_toArray, List.append_toArray, List.nil_append, List.cons_append]
  refine wpIn_wide.2 ?_
  have hby2 : ((w.alloc (.cells #[.pointer (some ⟨B, 0, none⟩)] 59)).alloc (.cells #[.slice none 0 0] 85)).cell? ⟨B, 192, none⟩ = some (.int .i64 k.bs) := by
    rw [World.cell?_alloc_lt _ _ _ (by simp; omega), World.cell?_alloc_lt _ _ _ hlt]; exact hby
  have Hc := hide hc
  clear hby hc
  go_wp2_with fail
  refine (groups_any s k.bs _).mono ?_
  rintro e w' ⟨rfl, rfl⟩
  go_wp2
  obtain ⟨W0, hW0⟩ : ∃ W0, W0 = (((w.alloc (.cells #[.pointer (some ⟨B, 0, none⟩)] 59)).alloc (.cells #[.slice none 0 0] 85)).alloc (.cells #[.string s] 9)).alloc (.cells #[.int .i64 k.bs] 3) := ⟨_, rfl⟩
  have hz : W0.heap.size = w.heap.size + 4 := by rw [hW0]; simp
  have hSt : Pin k B s w [] (.slice none 0 0) W0 := by
    rw [hW0]
    refine ⟨?_, ?_, World.ownsRow_nil _ _ _ _, ?_, by simp⟩
    · rw [Below.heap_alloc _ _ _ (by simp <;> omega), Below.heap_alloc _ _ _ (by simp <;> omega), Below.heap_alloc _ _ _ (by simp)]; exact World.alloc_heap_new _ _
    · rw [Below.heap_alloc _ _ _ (by simp <;> omega), Below.heap_alloc _ _ _ (by simp)]; have := World.alloc_heap_new (w.alloc (.cells #[.pointer (some ⟨B, 0, none⟩)] 59)) (.cells #[.slice none 0 0] 85); rwa [World.size_alloc] at this
    · repeat (refine Below.alloc ?_ (by simp <;> omega) _)
      exact Below.refl _ _
  have hBs : W0.cell? ⟨w.heap.size + 2, 0, none⟩ = some (.string s) := by
    rw [hW0, World.cell?_alloc_lt _ _ _ (by simp), World.cell?_alloc_at _ _ _ _ (by simp)]
    rfl
  have hBn : W0.cell? ⟨w.heap.size + 3, 0, none⟩ = some (.int .i64 k.bs) := by
    rw [hW0, World.cell?_alloc_at _ _ _ _ (by simp)]
    rfl
  rw [← hW0]
  clear hW0 hby2
  refine (wpIn_wide (n := 3)).1 ?_
  refine wpIn_rangeFunc_ownF rfl (by omega) (gf := 91) (lb := #[.pointer (some ⟨w.heap.size + 2, 0, none⟩), .pointer (some ⟨w.heap.size + 3, 0, none⟩)]) rfl trivial (enters_of Tryz.func91 (by kernel_rfl) rfl)
    (groups1_stops (3 - 1) (by omega) (w.heap.size + 2) (w.heap.size + 3) k.bs s W0 hk hk4 hs hBs hBn) Two.trans (fun W l o o' hl h1 h2 h3 => Two.book (w := W0) (by omega) (by omega) W l o o' hl h1 h2 h3) (Below.refl _ _) (fun _ => rfl)
    (fun pre W => ∃ v, Pin k B s w (prt k pre) v W) (fun _ _ _ => False)
    (fun pre A B' row hs hg hr => by
      obtain ⟨v, h⟩ := hs
      exact ⟨v, h.grown hg (fun r e => ⟨by have := (hr r e).1; omega, (hr r e).2⟩)⟩)
    (fun _ _ _ _ _ hs _ _ => hs.elim)
    ⟨_, hSt⟩
    (fun x => { tmps := #[.pointer (some ⟨B, 0, none⟩), .string s, .pointer (some ⟨w.heap.size, 0, none⟩), undef, .string ⟨#[]⟩, .pointer (some ⟨w.heap.size + 1, 0, none⟩), undef, .string (x.g k.bs), .string s, .pointer (some ⟨B, 0, none⟩), .pointer (some ⟨B, 0, none⟩), .pointer (some ⟨B, 192, none⟩), .int .i64 k.bs, .func (.func 91) #[] #[.pointer (some ⟨w.heap.size + 2, 0, none⟩), .pointer (some ⟨w.heap.size + 3, 0, none⟩)], .int .i64 x.p, .string (x.g k.bs), undef, undef, undef, undef, undef, undef], defers := [] }) ?assign ?body ?done ?stop
  case assign =>
    intro l x W K hK
    gi_wp2
    exact hK
  case body =>
    rintro l pre x W ⟨v, hv⟩ hN
    go_light
    obtain ⟨c0, c1, c2⟩ := hv.cl
    have hcW := (unhide Hc).below hlt hv.bel
    have hps := piece_size x hk
    have hlen := prt_length k pre
    have H := hA B (x.g k.bs) W (w.heap.size + 4) v _ _ (by omega) (by omega) hcW (by omega) hv.own (by rw [hlen]; have : k.wd * pre.length ≤ 4 * 2000 := Nat.mul_le_mul hw4 (by omega); omega) hv.size
    have Hv := hide hv
    have HA := hide H
    clear hv H hN hSt hBs hBn hz hlen hcW hps
    gi_wp2_with fail
    refine ⟨trivial, (CallsIn.inRound _ (callsIn_wide.2 (unhide HA))).mono ?_⟩
    rintro e w' ⟨v', rfl, hown, hbl⟩
    have hP := (unhide Hv).put (more := gr k (x.g k.bs).data.toList) hbl (by rw [List.length_append, gr_length, cells_append]; exact hown)
    rw [← prt_snoc] at hP
    obtain ⟨g', cap', rfl⟩ := own_form hown (by omega)
    have hz := (unhide Hv).size
    have d1 := (hbl.1.cell (p := ⟨w.heap.size + 1, 0, none⟩) (by show w.heap.size + 1 < w.heap.size + 4; omega)).trans c1
    have d2 := (bel_frozen hbl.1 (a := ⟨w.heap.size + 1, 0, none⟩) (by show w.heap.size + 1 < w.heap.size + 4; omega)).trans c2
    have HP := hide hP
    have HK := hide (hbl.2.trans (KeepsOthers.setCell w' ⟨w.heap.size + 1, 0, none⟩ (.slice (some ⟨g', 0, none⟩) ((prt k pre).length + k.wd) cap')))
    have HT : Hid (Two (w.heap.size + 2) (w.heap.size + 3) W (w'.setCell ⟨w.heap.size + 1, 0, none⟩ (.slice (some ⟨g', 0, none⟩) ((prt k pre).length + k.wd) cap'))) :=
      ⟨(Below.heap_setCell _ _ _ _ (by show w.heap.size + 2 ≠ w.heap.size + 1; omega)).trans (hbl.1.block _ (by omega)), (Below.heap_setCell _ _ _ _ (by show w.heap.size + 3 ≠ w.heap.size + 1; omega)).trans (hbl.1.block _ (by omega))⟩
    clear hown hbl hP
    gi_wp2
    exact ⟨unhide HK, unhide HT, _, unhide HP⟩
  case done =>
    rintro D ys W hD rfl ⟨v, hv⟩ hK
    obtain ⟨c0, c1, c2⟩ := hv.cl
    have hcv := conv_row hv.own rfl
    have HK := hide hK
    have Hv := hide hv
    clear hK hv hSt hBs hBn
    go_wp2
    refine finP (unhide HK) (by omega) (unhide Hv).bel rfl fun V' hb => ⟨rfl, hb⟩
  case stop =>
    rintro D cd pre W hD hpre h hK
    exact h.elim
end Go.Proofs.YthfcnjcpanoldaaGreatDoor.C

/-
  Laws of base64 and digits: they are read from what is printed of them, and printed as they were read. Conditions: none.
-/
namespace Go.Proofs.YthfcnjcpanoldaaGreatDoor.Cd

theorem nx_sx (n : Nat) (h : n < 64) : nx (sx n) = some n := by
  have : ∀ i : Fin 64, nx (sx i.val) = some i.val := by decide +kernel
  exact this ⟨n, h⟩
theorem nh_dx (n : Nat) (h : n < 16) : nh (dx n) = some n := by
  have : ∀ i : Fin 16, nh (dx i.val) = some i.val := by decide +kernel
  exact this ⟨n, h⟩
theorem u8_all {p : UInt8 → Prop} (h : ∀ i : Fin 256, p (UInt8.ofNat i.val)) (x : UInt8) : p x := by
  have := h ⟨x.toNat, x.toNat_lt⟩
  rwa [UInt8.ofNat_toNat] at this
theorem nx_some {x : UInt8} {n : Nat} (h : nx x = some n) : n < 64 ∧ sx n = x := by
  have : ∀ x : UInt8, ((nx x).map fun n => decide (n < 64 ∧ sx n = x)) ≠ some false := u8_all (by decide +kernel)
  have := this x
  rw [h] at this
  simpa using this
theorem nh_some {x : UInt8} {n : Nat} (h : nh x = some n) : n < 16 := by
  have : ∀ x : UInt8, ((nh x).map fun n => decide (n < 16)) ≠ some false := u8_all (by decide +kernel)
  have := this x
  rw [h] at this
  simpa using this
theorem nx_ok (x : UInt8) (n : Nat) (h : nx x = some n) : n < 64 ∧ x.toNat < 128 ∧ x ≠ 61 := by
  have : ∀ x : UInt8, ((nx x).map fun n => decide (n < 64 ∧ x.toNat < 128 ∧ x ≠ 61)) ≠ some false := u8_all (by decide +kernel)
  have := this x
  rw [h] at this
  simpa using this
theorem nh_ok (x : UInt8) (n : Nat) (h : nh x = some n) : n < 16 ∧ x.toNat < 128 ∧ x ≠ 61 := by
  have : ∀ x : UInt8, ((nh x).map fun n => decide (n < 16 ∧ x.toNat < 128 ∧ x ≠ 61)) ≠ some false := u8_all (by decide +kernel)
  have := this x
  rw [h] at this
  simpa using this

theorem chs_nil (n f : Nat) : chs n f [] = [] := by cases f <;> simp [chs]
theorem chs_more (n : Nat) (hn : 1 ≤ n) : ∀ (f g : Nat) (l : List UInt8), l.length ≤ f → l.length ≤ g → chs n f l = chs n g l
  | 0, g, l, h, _ => by
    have : l = [] := List.length_eq_zero_iff.1 (by omega)
    subst this
    rw [chs_nil, chs_nil]
  | f + 1, 0, l, _, h => by
    have : l = [] := List.length_eq_zero_iff.1 (by omega)
    subst this
    rw [chs_nil, chs_nil]
  | f + 1, g + 1, l, h1, h2 => by
    rw [chs, chs]
    split
    · rfl
    · rename_i hl
      have : 1 ≤ l.length := List.length_pos_iff.2 hl
      rw [chs_more n hn f g (l.drop n) (by rw [List.length_drop]; omega) (by rw [List.length_drop]; omega)]
theorem chs_step (n : Nat) (hn : 1 ≤ n) (l : List UInt8) (hl : l ≠ []) : chs n l.length l = l.take n :: chs n (l.drop n).length (l.drop n) := by
  obtain ⟨f, hf⟩ : ∃ f, l.length = f + 1 := ⟨l.length - 1, by have := List.length_pos_iff.2 hl; omega⟩
  rw [hf, chs, if_neg hl]
  congr 1
  exact chs_more n hn _ _ _ (by rw [List.length_drop]; omega) (Nat.le_refl _)
theorem chs_empty (n : Nat) (hn : 1 ≤ n) (l : List UInt8) : (chs n l.length l).isEmpty = l.isEmpty := by
  cases l with
  | nil => rfl
  | cons x l => rw [chs_step n hn (x :: l) (by simp)]; rfl

theorem enc_nil (k : Kd) : enc k [] = [] := rfl
theorem enc_step (k : Kd) (hk : 1 ≤ k.bs) (l : List UInt8) (hl : l ≠ []) : enc k l = gr k (l.take k.bs) ++ enc k (l.drop k.bs) := by
  unfold enc
  rw [chs_step k.bs hk l hl, List.flatMap_cons]
theorem dec_nil (k : Kd) : dec k [] = some [] := rfl
theorem dec_step (k : Kd) (hk : 1 ≤ k.wd) (l : List UInt8) (hl : l ≠ []) : dec k l = (stp k (l.drop k.wd).isEmpty (l.take k.wd)).bind fun t => (dec k (l.drop k.wd)).map (t ++ ·) := by
  unfold dec
  rw [chs_step k.wd hk l hl, dcs, chs_empty k.wd hk]

theorem enc_B3 (a b c : UInt8) (r : List UInt8) : enc kB (a :: b :: c :: r) = gr kB [a, b, c] ++ enc kB r := enc_step kB (by decide) _ (by simp)
theorem enc_B2 (a b : UInt8) : enc kB [a, b] = gr kB [a, b] := by rw [enc_step kB (by decide) _ (by simp)]; simp [kB, enc_nil]
theorem enc_B1 (a : UInt8) : enc kB [a] = gr kB [a] := by rw [enc_step kB (by decide) _ (by simp)]; simp [kB, enc_nil]
theorem enc_H1 (a : UInt8) (r : List UInt8) : enc kH (a :: r) = gr kH [a] ++ enc kH r := enc_step kH (by decide) _ (by simp)
theorem dec_B4 (x y z u : UInt8) (r : List UInt8) : dec kB (x :: y :: z :: u :: r) = (stp kB r.isEmpty [x, y, z, u]).bind fun t => (dec kB r).map (t ++ ·) := dec_step kB (by decide) _ (by simp)
theorem dec_H2 (x y : UInt8) (r : List UInt8) : dec kH (x :: y :: r) = (stp kH r.isEmpty [x, y]).bind fun t => (dec kH r).map (t ++ ·) := dec_step kH (by decide) _ (by simp)

theorem gr_B3 (a b c : UInt8) : gr kB [a, b, c] = [sx (pk [a, b, c] / 262144 % 64), sx (pk [a, b, c] / 4096 % 64), sx (pk [a, b, c] / 64 % 64), sx (pk [a, b, c] % 64)] := by
  simp [gr, kB, List.range_succ]
theorem gr_B2 (a b : UInt8) : gr kB [a, b] = [sx (pk [a, b] / 262144 % 64), sx (pk [a, b] / 4096 % 64), sx (pk [a, b] / 64 % 64), 61] := by
  simp [gr, kB, List.range_succ]
theorem gr_B1 (a : UInt8) : gr kB [a] = [sx (pk [a] / 262144 % 64), sx (pk [a] / 4096 % 64), 61, 61] := by
  simp [gr, kB, List.range_succ]
theorem gr_H1 (a : UInt8) : gr kH [a] = [dx (a.toNat / 16), dx (a.toNat % 16)] := by
  have h1 : pk [a] / 1048576 % 16 = a.toNat / 16 := by show a.toNat * 65536 / 1048576 % 16 = _; have := a.toNat_lt; omega
  have h2 : pk [a] / 65536 % 16 = a.toNat % 16 := by show a.toNat * 65536 / 65536 % 16 = _; omega
  simp [gr, kH, List.range_succ, h1, h2]

theorem nx61 : nx 61 = none := by decide
theorem stp_B4 (last : Bool) {x y z u : UInt8} {i j k m : Nat} (h1 : nx x = some i) (h2 : nx y = some j) (h3 : nx z = some k) (h4 : nx u = some m) :
    stp kB last [x, y, z, u] = some (unp (i * 262144 + j * 4096 + k * 64 + m) 3) := by
  simp [stp, tl, lp, kB, h1, h2, h3, h4, Nat.mod_one]
theorem stp_B3 (last : Bool) {x y z : UInt8} {i j k : Nat} (h1 : nx x = some i) (h2 : nx y = some j) (h3 : nx z = some k) :
    stp kB last [x, y, z, 61] = if (i * 262144 + j * 4096 + k * 64) % 256 = 0 ∧ last = true then some (unp (i * 262144 + j * 4096 + k * 64) 2) else none := by
  simp [stp, tl, lp, kB, h1, h2, h3, nx61]
  by_cases h : (i * 262144 + j * 4096 + k * 64) % 256 = 0 <;> cases last <;> simp [h]
theorem stp_B2 (last : Bool) {x y : UInt8} {i j : Nat} (h1 : nx x = some i) (h2 : nx y = some j) :
    stp kB last [x, y, 61, 61] = if (i * 262144 + j * 4096) % 65536 = 0 ∧ last = true then some (unp (i * 262144 + j * 4096) 1) else none := by
  simp [stp, tl, lp, kB, h1, h2, nx61]
  by_cases h : (i * 262144 + j * 4096) % 65536 = 0 <;> cases last <;> simp [h]
theorem stp_H2 (last : Bool) {x y : UInt8} {i j : Nat} (h1 : nh x = some i) (h2 : nh y = some j) :
    stp kH last [x, y] = some (unp (i * 1048576 + j * 65536) 1) := by
  have : (i * 1048576 + j * 65536) % 65536 = 0 := by omega
  simp [stp, tl, lp, kH, h1, h2, this]
theorem unp1 (b : Nat) : unp b 1 = [UInt8.ofNat (b / 65536)] := by simp [unp, List.range_succ]
theorem unp2 (b : Nat) : unp b 2 = [UInt8.ofNat (b / 65536), UInt8.ofNat (b / 256)] := by simp [unp, List.range_succ]
theorem unp3 (b : Nat) : unp b 3 = [UInt8.ofNat (b / 65536), UInt8.ofNat (b / 256), UInt8.ofNat b] := by simp [unp, List.range_succ]
theorem ofNat_eq {n : Nat} {a : UInt8} (h : n % 256 = a.toNat) : UInt8.ofNat n = a := UInt8.toNat.inj (by simpa using h)

/-- what is told has been told. -/
theorem back_B : ∀ l : List UInt8, dec kB (enc kB l) = some l
  | [] => rfl
  | [a] => by
    have ha := a.toNat_lt
    have e : pk [a] = a.toNat * 65536 := rfl
    rw [enc_B1, gr_B1, dec_B4, stp_B2 _ (nx_sx _ (by omega)) (nx_sx _ (by omega)), if_pos ⟨by rw [e]; omega, rfl⟩, unp1, dec_nil]
    simp only [Option.bind_some, Option.map_some, List.append_nil]
    rw [ofNat_eq (a := a) (by rw [e]; omega)]
  | [a, b] => by
    have ha := a.toNat_lt
    have hb := b.toNat_lt
    have e : pk [a, b] = a.toNat * 65536 + b.toNat * 256 := rfl
    rw [enc_B2, gr_B2, dec_B4, stp_B3 _ (nx_sx _ (by omega)) (nx_sx _ (by omega)) (nx_sx _ (by omega)), if_pos ⟨by rw [e]; omega, rfl⟩, unp2, dec_nil]
    simp only [Option.bind_some, Option.map_some, List.append_nil]
    rw [ofNat_eq (a := a) (by rw [e]; omega), ofNat_eq (a := b) (by rw [e]; omega)]
  | a :: b :: c :: r => by
    have ha := a.toNat_lt
    have hb := b.toNat_lt
    have hc := c.toNat_lt
    have e : pk [a, b, c] = a.toNat * 65536 + b.toNat * 256 + c.toNat := rfl
    rw [enc_B3, gr_B3, List.cons_append, List.cons_append, List.cons_append, List.cons_append, List.nil_append, dec_B4, stp_B4 _ (nx_sx _ (by omega)) (nx_sx _ (by omega)) (nx_sx _ (by omega)) (nx_sx _ (by omega)), unp3, back_B r]
    simp only [Option.bind_some, Option.map_some, List.cons_append, List.nil_append]
    rw [ofNat_eq (a := a) (by rw [e]; omega), ofNat_eq (a := b) (by rw [e]; omega), ofNat_eq (a := c) (by rw [e]; omega)]
theorem back_H : ∀ l : List UInt8, dec kH (enc kH l) = some l
  | [] => rfl
  | a :: r => by
    have ha := a.toNat_lt
    rw [enc_H1, gr_H1, List.cons_append, List.cons_append, List.nil_append, dec_H2, stp_H2 _ (nh_dx _ (by omega)) (nh_dx _ (by omega)), unp1, back_H r]
    simp only [Option.bind_some, Option.map_some, List.cons_append, List.nil_append]
    rw [ofNat_eq (a := a) (by omega)]

theorem stp_inv {last : Bool} {x y z u : UInt8} {t : List UInt8} (h : stp kB last [x, y, z, u] = some t) :
    (∃ a b c, t = [a, b, c] ∧ gr kB [a, b, c] = [x, y, z, u]) ∨ (last = true ∧ ((∃ a b, t = [a, b] ∧ gr kB [a, b] = [x, y, z, u]) ∨ ∃ a, t = [a] ∧ gr kB [a] = [x, y, z, u])) := by
  cases h1 : nx x with
  | none => simp [stp, tl, lp, kB, h1] at h
  | some i =>
  cases h2 : nx y with
  | none => simp [stp, tl, lp, kB, h1, h2] at h
  | some j =>
  obtain ⟨i1, e1⟩ := nx_some h1
  obtain ⟨j1, e2⟩ := nx_some h2
  cases h3 : nx z with
  | none =>
    have hz : z = 61 := by
      by_cases hz : z = 61
      · exact hz
      · simp [stp, tl, lp, kB, h1, h2, h3, hz] at h
    subst hz
    cases h4 : nx u with
    | some m => simp [stp, tl, lp, kB, h1, h2, h3, h4] at h
    | none =>
      have hu : u = 61 := by
        by_cases hu : u = 61
        · exact hu
        · simp [stp, tl, lp, kB, h1, h2, h3, h4, hu] at h
      subst hu
      rw [stp_B2 last h1 h2] at h
      split at h
      · rename_i hc
        refine .inr ⟨hc.2, .inr ?_⟩
        rw [unp1] at h
        refine ⟨_, (Option.some.inj h).symm, ?_⟩
        rw [gr_B1]
        have e : pk [UInt8.ofNat ((i * 262144 + j * 4096) / 65536)] = i * 262144 + j * 4096 := by
          show (UInt8.ofNat _).toNat * 65536 = _
          simp only [UInt8.toNat_ofNat']
          omega
        rw [e, show (i * 262144 + j * 4096) / 262144 % 64 = i by omega, show (i * 262144 + j * 4096) / 4096 % 64 = j by omega, e1, e2]
      · cases h
  | some k =>
    obtain ⟨k1, e3⟩ := nx_some h3
    cases h4 : nx u with
    | none =>
      have hu : u = 61 := by
        by_cases hu : u = 61
        · exact hu
        · simp [stp, tl, lp, kB, h1, h2, h3, h4, hu] at h
      subst hu
      rw [stp_B3 last h1 h2 h3] at h
      split at h
      · rename_i hc
        refine .inr ⟨hc.2, .inl ?_⟩
        rw [unp2] at h
        refine ⟨_, _, (Option.some.inj h).symm, ?_⟩
        rw [gr_B2]
        have e : pk [UInt8.ofNat ((i * 262144 + j * 4096 + k * 64) / 65536), UInt8.ofNat ((i * 262144 + j * 4096 + k * 64) / 256)] = i * 262144 + j * 4096 + k * 64 := by
          show (UInt8.ofNat _).toNat * 65536 + (UInt8.ofNat _).toNat * 256 = _
          simp only [UInt8.toNat_ofNat']
          omega
        rw [e, show (i * 262144 + j * 4096 + k * 64) / 262144 % 64 = i by omega, show (i * 262144 + j * 4096 + k * 64) / 4096 % 64 = j by omega, show (i * 262144 + j * 4096 + k * 64) / 64 % 64 = k by omega, e1, e2, e3]
      · cases h
    | some m =>
      obtain ⟨m1, e4⟩ := nx_some h4
      rw [stp_B4 last h1 h2 h3 h4, unp3] at h
      refine .inl ⟨_, _, _, (Option.some.inj h).symm, ?_⟩
      rw [gr_B3]
      have e : pk [UInt8.ofNat ((i * 262144 + j * 4096 + k * 64 + m) / 65536), UInt8.ofNat ((i * 262144 + j * 4096 + k * 64 + m) / 256), UInt8.ofNat (i * 262144 + j * 4096 + k * 64 + m)] = i * 262144 + j * 4096 + k * 64 + m := by
        show (UInt8.ofNat _).toNat * 65536 + (UInt8.ofNat _).toNat * 256 + (UInt8.ofNat _).toNat = _
        simp only [UInt8.toNat_ofNat']
        omega
      rw [e, show (i * 262144 + j * 4096 + k * 64 + m) / 262144 % 64 = i by omega, show (i * 262144 + j * 4096 + k * 64 + m) / 4096 % 64 = j by omega, show (i * 262144 + j * 4096 + k * 64 + m) / 64 % 64 = k by omega, show (i * 262144 + j * 4096 + k * 64 + m) % 64 = m by omega, e1, e2, e3, e4]
theorem dec_short (k : Kd) (hk : 1 ≤ k.wd) (l : List UInt8) (hl : l ≠ []) (h : l.length < k.wd) : dec k l = none := by
  rw [dec_step k hk l hl]
  have : tl k (l.take k.wd) = none := by
    unfold tl
    rw [if_pos (by rw [List.length_take]; omega)]
  simp [stp, this]
/-- what is told has just that base64. -/
theorem told_B : ∀ (l t : List UInt8), dec kB l = some t → enc kB t = l
  | [], t, h => by rw [dec_nil] at h; cases h; rfl
  | [x], t, h => by rw [dec_short kB (by decide) _ (by simp) (by simp [kB])] at h; cases h
  | [x, y], t, h => by rw [dec_short kB (by decide) _ (by simp) (by simp [kB])] at h; cases h
  | [x, y, z], t, h => by rw [dec_short kB (by decide) _ (by simp) (by simp [kB])] at h; cases h
  | x :: y :: z :: u :: r, t, h => by
    rw [dec_B4] at h
    cases h1 : stp kB r.isEmpty [x, y, z, u] with
    | none => rw [h1] at h; cases h
    | some t1 =>
      rw [h1, Option.bind_some] at h
      cases h2 : dec kB r with
      | none => rw [h2] at h; cases h
      | some t2 =>
        rw [h2, Option.map_some] at h
        obtain rfl := Option.some.inj h
        have ih := told_B r t2 h2
        rcases stp_inv h1 with ⟨a, b, c, rfl, hg⟩ | ⟨hl, ⟨a, b, rfl, hg⟩ | ⟨a, rfl, hg⟩⟩
        · rw [List.cons_append, List.cons_append, List.cons_append, List.nil_append, enc_B3, hg, ih]
          rfl
        · have : r = [] := by simpa using hl
          subst this
          rw [dec_nil] at h2
          cases h2
          rw [List.append_nil, enc_B2, hg]
        · have : r = [] := by simpa using hl
          subst this
          rw [dec_nil] at h2
          cases h2
          rw [List.append_nil, enc_B1, hg]
theorem told_H : ∀ (l t : List UInt8), dec kH l = some t → 2 * t.length = l.length
  | [], t, h => by rw [dec_nil] at h; cases h; rfl
  | [x], t, h => by rw [dec_short kH (by decide) _ (by simp) (by simp [kH])] at h; cases h
  | x :: y :: r, t, h => by
    rw [dec_H2] at h
    cases h1 : nh x with
    | none => simp [stp, tl, lp, kH, h1] at h
    | some i =>
    cases h2 : nh y with
    | none => simp [stp, tl, lp, kH, h1, h2] at h
    | some j =>
      rw [stp_H2 _ h1 h2, Option.bind_some] at h
      cases h3 : dec kH r with
      | none => rw [h3] at h; cases h
      | some t2 =>
        rw [h3, Option.map_some, unp1] at h
        obtain rfl := Option.some.inj h
        have := told_H r t2 h3
        simp
        omega
theorem gr_len (k : Kd) (g : List UInt8) : (gr k g).length = k.wd := by simp [gr]
theorem size_B : ∀ l : List UInt8, (enc kB l).length = 4 * ((l.length + 2) / 3)
  | [] => rfl
  | [a] => by rw [enc_B1, gr_len]; show 4 = _; simp
  | [a, b] => by rw [enc_B2, gr_len]; show 4 = _; simp
  | a :: b :: c :: r => by
    rw [enc_B3, List.length_append, gr_len, size_B r]
    show 4 + _ = _
    simp
    omega
theorem size_H : ∀ l : List UInt8, (enc kH l).length = 2 * l.length
  | [] => rfl
  | a :: r => by
    rw [enc_H1, List.length_append, gr_len, size_H r]
    show 2 + _ = _
    simp
    omega
theorem join_B : ∀ (s t : List UInt8), s.length % 3 = 0 → enc kB (s ++ t) = enc kB s ++ enc kB t
  | [], t, _ => rfl
  | [a], t, h => by simp at h
  | [a, b], t, h => by simp at h
  | a :: b :: c :: r, t, h => by
    rw [List.cons_append, List.cons_append, List.cons_append, enc_B3, enc_B3, join_B r t (by simp at h; omega), List.append_assoc]
theorem join_H : ∀ (s t : List UInt8), enc kH (s ++ t) = enc kH s ++ enc kH t
  | [], t => rfl
  | a :: r, t => by rw [List.cons_append, enc_H1, enc_H1, join_H r t, List.append_assoc]
theorem apart_B {s t : List UInt8} : enc kB s = enc kB t ↔ s = t :=
  ⟨fun h => by have := back_B s; rw [h, back_B] at this; exact (Option.some.inj this).symm, fun h => by rw [h]⟩
theorem apart_H {s t : List UInt8} : enc kH s = enc kH t ↔ s = t :=
  ⟨fun h => by have := back_H s; rw [h, back_H] at this; exact (Option.some.inj this).symm, fun h => by rw [h]⟩
/-- great letters. -/
def up (x : UInt8) : UInt8 := if 97 ≤ x.toNat ∧ x.toNat ≤ 102 then UInt8.ofNat (x.toNat - 32) else x
theorem nh_up (n : Nat) (h : n < 16) : nh (up (dx n)) = some n := by
  have : ∀ i : Fin 16, nh (up (dx i.val)) = some i.val := by decide +kernel
  exact this ⟨n, h⟩
theorem cases_H : ∀ l : List UInt8, dec kH ((enc kH l).map up) = some l
  | [] => rfl
  | a :: r => by
    have ha := a.toNat_lt
    rw [enc_H1, gr_H1, List.cons_append, List.cons_append, List.nil_append, List.map_cons, List.map_cons, dec_H2, stp_H2 _ (nh_up _ (by omega)) (nh_up _ (by omega)), unp1, cases_H r]
    simp only [Option.bind_some, Option.map_some, List.cons_append, List.nil_append]
    rw [ofNat_eq (a := a) (by omega)]
end Go.Proofs.YthfcnjcpanoldaaGreatDoor.Cd

/-
  A region that draws its order, inside a round of a range over a function, at the fence that asks nothing: what the plain laws give. Conditions: the region defers nothing.
-/
namespace Go.Proofs.YthfcnjcpanoldaaGreatDoor
open Go

section
variable {P : Program} {ops : Array Oper} {Q : Exit → Act → World → Prop} {lp m : Nat}

theorem operIn_round {o : Oper} {a : Act} {w : World} {K : Act → World → Prop} (hd : ∀ c, o.op ≠ .defer c) (h : o.wp P a w K Q) : o.wpIn (Fence.wide.inRound lp) m P a w K Q := by
  unfold Oper.wpIn
  refine ⟨fun _ _ => trivial, ?_⟩
  rw [Oper.semAt_eq _ _ _ hd]
  unfold Oper.wp at h
  generalize (execOp a.eval o).run P w = r at *
  cases r with
  | ok x w' =>
    cases x with
    | value v => exact h
    | skip => exact h
    | defer d => exact h
    | enter f args => exact ⟨(fun e => by cases e), CallsIn.inRound lp (callsIn_wide.2 h)⟩
    | row r args =>
      refine ⟨(fun e => by cases e), fun c cs _ => ?_⟩
      obtain ⟨v, w1, hr, s⟩ := h c cs
      exact ⟨v, w1, hr, stepsIn_wide.2 s⟩
    | _ => exact h.elim
  | halt x w' =>
    cases x with
    | panic v => exact h
    | _ => exact h.elim

theorem opsIn_round (hd : ∀ (i : Nat) (o : Oper), ops[i]? = some o → ∀ c, o.op ≠ .defer c) (hL : ¬ LetsOut Q) : ∀ (is : List Nat) (a : Act) (w : World), wpOps P ops Q is a w → wpOpsIn (Fence.wide.inRound lp) m P ops Q is a w
  | [], _, _, h => h
  | i :: rest, a, w, h => by
    simp only [wpOps, wpOpsIn] at h ⊢
    cases ho : ops[i]? with
    | none => rw [ho] at h; exact opsIn_round hd hL rest a w h
    | some o =>
      rw [ho] at h
      simp only at h ⊢
      split
      · rename_i hw
        rw [if_pos hw] at h
        rcases h with h | h
        · exact Oper.wpIn_mono (fun a w h => opsIn_round hd hL rest a w h) (operIn_round (hd i o ho) h)
        · exact absurd h.2 hL
      · rename_i hw
        rw [if_neg hw] at h
        exact ⟨fun _ _ => trivial, opsIn_round hd hL rest _ w h⟩

theorem regionIn_round {id : Nat} {a : Act} {w : World} (hm : P.follows .mixedOrders = true) (hd : ∀ (i : Nat) (o : Oper), ops[i]? = some o → ∀ c, o.op ≠ .defer c) (hL : ¬ LetsOut Q)
    (h : wpAny P .any ops Q ops.size (Array.replicate ops.size false) a w.drew) : (Code.region id ops true).wpIn (Fence.wide.inRound lp) m P Q a w :=
  wpIn_region_draw fun t => by
    simp only [Region.schedule, hm, Bool.true_or, if_true]
    exact opsIn_round hd hL _ a _ (wpAny_sound ops.size t _ a _ h)

/-- no operation of the list defers. -/
def noDefer (l : List Oper) : Bool := l.all fun o => match o.op with | .defer _ => false | _ => true
theorem noDefer_spec {l : List Oper} (h : noDefer l = true) (i : Nat) (o : Oper) (ho : l.toArray[i]? = some o) (c : Call) : o.op ≠ .defer c := by
  intro e
  have hm : o ∈ l := List.mem_of_getElem? (by simpa using ho)
  have := List.all_eq_true.1 h o hm
  rw [e] at this
  cases this

/-- Reads first, in the text's order, then the tail from the k-th operation on. -/
theorem regionIn_tail {id : Nat} {a : Act} {w : World} {l : List Oper} (k : Nat) (hm : P.follows .mixedOrders = true) (hB : Region.lexTailB .any l.toArray k = true) (hd : noDefer l = true) (hL : ¬ LetsOut Q)
    (h : wpStill P l.toArray w.drew (fun a' => wpList P l.toArray Q (l.drop k) a' w.drew) (l.take k) a) : (Code.region id l.toArray true).wpIn (Fence.wide.inRound lp) m P Q a w := by
  refine regionIn_round hm (fun i o ho c => noDefer_spec hd i o ho c) hL ?_
  simp only [Region.lexTailB, Bool.and_eq_true, decide_eq_true_eq] at hB
  obtain ⟨⟨⟨⟨h1, h2⟩, h3⟩, h4⟩, h5⟩ := hB
  have hk : k < l.length := by simpa using h2
  have e1 : (l.take k).length = k := by simp; omega
  have e2 : (l.drop k).length = l.toArray.size - k := by simp
  have inv : HeadInv .any l.toArray k (Array.replicate l.toArray.size false) :=
    ⟨by simp, (fun j oj _ hl => by rw [getD_replicate_false] at hl; cases hl), fun t _ ht => getD_in (by simpa using ht) (getD_replicate_false _ _)⟩
  have H := wpAnyL_lex (md := .any) (g := l.toArray.size - k) h1 h3 h4 h2 (l.take k) 0 _ a
    (fun j hj => by rw [e1] at hj; simp [hj]) (by simpa using e1) inv (by rw [e1]; exact h5) h
  have R := wpAny_of_head (Q' := Q) (g := l.toArray.size - k) (fun listed a' hq => by
    have := wpAny_of_seq (md := .any) (Q' := Q) (l.drop k) k listed a' w.drew (fun j => by simp [List.getElem?_drop]) (by rw [e2]; exact hq.1) hq.2
    rwa [e2] at this) _ _ _ H
  rw [e1, show k + (l.toArray.size - k) = l.toArray.size by omega] at R
  exact R

end
end Go.Proofs.YthfcnjcpanoldaaGreatDoor

/-
  What code.coder.read answers: the text that has some signs. Conditions: the package-level variables hold what the program's text lays ('Glob').
-/
namespace Go.Proofs.YthfcnjcpanoldaaGreatDoor.C
open Go Go.RowKit Go.Shelf Cd
attribute [local go_sem] Oper.semAt_some

/-- a post that holds where nothing leaves. -/
def only (Q : Exit → Act → World → Prop) : Exit → Act → World → Prop
  | .normal, a, w => Q .normal a w
  | _, _, _ => False
/-- reads, one by one; shut, so that nothing looks ahead. -/
structure Wst (P : Program) (ops : Array Oper) (w : World) (Q : Act → Prop) (l : List Oper) (a : Act) : Prop where
  out : wpStill P ops w Q l a
theorem wst_do {P : Program} {ops : Array Oper} {w : World} {Q : Act → Prop} {a : Act} {o : Oper} {rest : List Oper} (hg : Region.wanted o (yielded ops a.tmps) = true)
    (h : ∀ K : Act → Prop, Shut (∀ a, Wst P ops w Q rest a → K a) → o.still P a w K) : Wst P ops w Q (o :: rest) a :=
  ⟨wpStill_step fun K hK => by rw [if_pos hg]; exact h K (fun a h => hK a h.out)⟩
theorem wst_skip {P : Program} {ops : Array Oper} {w : World} {Q : Act → Prop} {a : Act} {o : Oper} {rest : List Oper} (hg : Region.wanted o (yielded ops a.tmps) = false)
    (h : Wst P ops w Q rest (a.put o.dst undef)) : Wst P ops w Q (o :: rest) a :=
  ⟨wpStill_step fun K hK => by rw [if_neg (by rw [hg]; simp)]; exact hK _ h.out⟩
theorem wst_nil {P : Program} {ops : Array Oper} {w : World} {Q : Act → Prop} {a : Act} (h : Q a) : Wst P ops w Q [] a := ⟨wpStill_nil h⟩
theorem regionIn_tail_n {P : Program} {Q : Exit → Act → World → Prop} {lp m id : Nat} {a : Act} {w : World} {l : List Oper} (k : Nat) (hm : P.follows .mixedOrders = true) (hB : Region.lexTailB .any l.toArray k = true) (hd : noDefer l = true)
    (h : Wst P l.toArray w.drew (fun a' => wpList P l.toArray (only Q) (l.drop k) a' w.drew) (l.take k) a) : (Code.region id l.toArray true).wpIn (Fence.wide.inRound lp) m P Q a w :=
  wpIn_mono (regionIn_tail k hm hB hd (by rintro ⟨a, w, h⟩; exact h) h.out) (fun e a w h => by cases e <;> first | exact h | exact h.elim)
theorem region_tail {P : Program} {Q : Exit → Act → World → Prop} {id : Nat} {a : Act} {w : World} {l : List Oper} (k : Nat) (hm : P.follows .mixedOrders = true) (hB : Region.lexTailB .any l.toArray k = true)
    (h : wpStill P l.toArray w.drew (fun a' => wpList P l.toArray Q (l.drop k) a' w.drew) (l.take k) a) : (Code.region id l.toArray true).wp P Q a w := wp_region_still_tail k hm hB h

theorem region_tail_n {P : Program} {Q : Exit → Act → World → Prop} {id : Nat} {a : Act} {w : World} {l : List Oper} (k : Nat) (hm : P.follows .mixedOrders = true) (hB : Region.lexTailB .any l.toArray k = true)
    (h : Wst P l.toArray w.drew (fun a' => wpList P l.toArray (only Q) (l.drop k) a' w.drew) (l.take k) a) : (Code.region id l.toArray true).wp P Q a w :=
  wp_mono (region_tail k hm hB h.out) (fun e a w h => by cases e <;> first | exact h | exact h.elim)

/-- what told does, at any kind. -/
def Tolds (k : Kd) : Prop := ∀ (B at_ : Nat) (s : ByteArray) (a : Ad) (w : World), Glob a w → Cod k w B → s.size ≤ k.wd → at_ ≤ 10000 →
    Calls Tryz.prog 144 #[.pointer (some ⟨B, 0, none⟩), .int .i64 at_, .string s] w (ToldPost k s.data.toList a w)
theorem tolds_B : Tolds kB := fun B at_ s a w g hc hs hat => by
  by_cases h : s.size < 4
  · exact told_short kB B at_ s a w g hc h (by decide) hat
  · exact toldB B at_ s a w g hc (by have : s.size ≤ 4 := hs; omega) hat nx_ok
theorem tolds_H : Tolds kH := fun B at_ s a w g hc hs hat => by
  by_cases h : s.size < 2
  · exact told_short kH B at_ s a w g hc h (by decide) hat
  · exact toldH B at_ s a w g hc (by have : s.size ≤ 2 := hs; omega) hat nh_ok

theorem lp_bound (k : Kd) (hm : ∀ x m, k.nm x = some m → m < 2 ^ k.bt) : ∀ (l : List UInt8) (i b c : Nat), (i + l.length) * k.bt ≤ 24 → b % 2 ^ (24 - k.bt * i) = 0 → b < 2 ^ 24 → ∀ b' c', lp k l i b c = some (b', c') → b' < 2 ^ 24 ∧ c' ≤ c + l.length
  | [], i, b, c, _, _, hb, b', c', h => by rw [lp] at h; cases h; exact ⟨hb, Nat.le_refl _⟩
  | x :: r, i, b, c, hi, hmd, hb, b', c', h => by
    have hi' : (i + 1 + r.length) * k.bt ≤ 24 := by rw [List.length_cons, ← Nat.add_assoc, Nat.add_right_comm] at hi; exact hi
    rw [lp] at h
    cases hx : k.nm x with
    | none =>
      rw [hx] at h
      dsimp only at h
      split at h
      · obtain ⟨h1, h2⟩ := lp_bound k hm r (i + 1) b c hi' (more_mod hmd) hb b' c' h
        exact ⟨h1, by rw [List.length_cons]; omega⟩
      · cases h
    | some n =>
      rw [hx] at h
      dsimp only at h
      split at h
      · have h6 : k.bt * (i + 1) ≤ 24 := by
          refine Nat.le_trans ?_ hi'
          rw [Nat.mul_comm]
          exact Nat.mul_le_mul_right _ (by omega)
        have e : 24 - k.bt * i = 24 - k.bt * (i + 1) + k.bt := by rw [Nat.mul_succ] at h6 ⊢; omega
        rw [e] at hmd
        obtain ⟨h1, h2⟩ := lp_bound k hm r (i + 1) _ (c + 1) hi' (put_mod b n _ _ hmd) (put_lt b n _ _ hmd (hm x n hx) hb (by rw [← e]; omega)) b' c' h
        exact ⟨h1, by rw [List.length_cons]; omega⟩
      · cases h
theorem tl_bound (k : Kd) (hm : ∀ x m, k.nm x = some m → m < 2 ^ k.bt) (hwt : k.wd * k.bt ≤ 24) (g : List UInt8) (hg : g.length ≤ k.wd) {b c : Nat} (h : tl k g = some (b, c)) : b < 16777216 ∧ c ≤ k.wd := by
  unfold tl at h
  split at h
  · cases h
  · cases hl : lp k g 0 0 0 with
    | none => rw [hl] at h; cases h
    | some r =>
      rw [hl, Option.bind_some] at h
      split at h
      · cases h
        have := lp_bound k hm g 0 0 0 (by rw [Nat.zero_add]; exact Nat.le_trans (Nat.mul_le_mul_right _ hg) hwt) (by simp) (by decide) b c hl
        exact ⟨this.1, by omega⟩
      · cases h
/-- the bytes of a piece, of pieces. -/
def one (k : Kd) {s : ByteArray} (x : Pc s) : Option (List UInt8) := stp k (!decide (x.p + k.wd < s.size)) (x.g k.wd).data.toList
def rds (k : Kd) {s : ByteArray} : List (Pc s) → Option (List UInt8)
  | [] => some []
  | x :: l => (one k x).bind fun t => (rds k l).map (t ++ ·)
/-- so much has been read. -/
def Rd (k : Kd) {s : ByteArray} (pre : List (Pc s)) (out : List UInt8) : Prop := out.length ≤ 3 * pre.length ∧ ∀ tail, rds k (pre ++ tail) = (rds k tail).map (out ++ ·)
theorem rd_nil (k : Kd) (s : ByteArray) : Rd k ([] : List (Pc s)) [] := ⟨Nat.le_refl _, fun tail => by simp⟩
theorem Rd.snoc {k : Kd} {s : ByteArray} {pre : List (Pc s)} {out t : List UInt8} {x : Pc s} (h : Rd k pre out) (hx : one k x = some t) (ht : t.length ≤ 3) : Rd k (pre ++ [x]) (out ++ t) := by
  refine ⟨by have := h.1; simp; omega, fun tail => ?_⟩
  rw [List.append_assoc, h.2, List.singleton_append, rds, hx, Option.bind_some, Option.map_map]
  congr 1
  funext l
  simp
theorem Rd.fail {k : Kd} {s : ByteArray} {pre : List (Pc s)} {out : List UInt8} {x : Pc s} (h : Rd k pre out) (hx : one k x = none) (tail : List (Pc s)) : rds k (pre ++ [x] ++ tail) = none := by
  rw [List.append_assoc, h.2, List.singleton_append, rds, hx]
  rfl

/-- what lies in memory while the groups are gone through. -/
structure Rin (B : Nat) (s : ByteArray) (w : World) (out : List UInt8) (v err : Value) (W : World) : Prop where
  bc : W.heap[w.heap.size]? = some (.cells #[.pointer (some ⟨B, 0, none⟩)] 59)
  bs : W.heap[w.heap.size + 1]? = some (.cells #[.string s] 9)
  bv : W.heap[w.heap.size + 2]? = some (.cells #[v] 85)
  be : W.heap[w.heap.size + 3]? = some (.cells #[err] 45)
  own : W.ownsRow (w.heap.size + 6) 5 1 v out.length (cells out)
  bel : Below w.heap.size w W
  size : w.heap.size + 6 ≤ W.heap.size
theorem Rin.cl {B : Nat} {s : ByteArray} {w W : World} {out : List UInt8} {v err : Value} (h : Rin B s w out v err W) :
    W.cell? ⟨w.heap.size, 0, none⟩ = some (.pointer (some ⟨B, 0, none⟩)) ∧ W.cell? ⟨w.heap.size + 1, 0, none⟩ = some (.string s) ∧ W.cell? ⟨w.heap.size + 2, 0, none⟩ = some v ∧ W.cell? ⟨w.heap.size + 3, 0, none⟩ = some err ∧ W.frozen? ⟨w.heap.size + 2, 0, none⟩ = false ∧ W.frozen? ⟨w.heap.size + 3, 0, none⟩ = false := by
  have h1 := h.bc
  have h2 := h.bs
  have h3 := h.bv
  have h4 := h.be
  simp [World.cell?, World.frozen?, h1, h2, h3, h4]
theorem Rin.grown {B : Nat} {s : ByteArray} {w W W' : World} {out : List UInt8} {v err : Value} {row : Option Nat} (h : Rin B s w out v err W) (hg : W.grownBy W' row) (hr : ∀ r, row = some r → w.heap.size + 6 ≤ r ∧ ∃ o, W.heap[r]? = some o ∧ o.isCells = false) : Rin B s w out v err W' := by
  have hz := h.size
  have hk : ∀ k, k < w.heap.size + 6 → W'.heap[k]? = W.heap[k]? := fun k hk => hg.block k (by omega) (fun e => by have := (hr k e.symm).1; omega)
  refine ⟨(hk _ (by omega)).trans h.bc, (hk _ (by omega)).trans h.bs, (hk _ (by omega)).trans h.bv, (hk _ (by omega)).trans h.be, h.own.kept hg ?_, ⟨hg.os.trans h.bel.os, hg.tape.trans h.bel.tape, hg.output.trans h.bel.output, Nat.le_trans h.bel.size hg.size, fun k hk' => (hk k (by omega)).trans (h.bel.block k hk')⟩, Nat.le_trans hz hg.size⟩
  rcases h.own.2 with ⟨rfl, _⟩ | ⟨g, cap, cur, rfl, _, hgb, _⟩
  · exact .inl rfl
  · refine .inr fun e' => ?_
    obtain ⟨_, o, ho, hc⟩ := hr g (by simpa [Value.ownBlock] using e'.symm)
    rw [hgb] at ho; cases ho; cases hc
theorem own_below {w w' : World} {b n : Nat} {v : Value} {xs : List Value} (h : w.ownsRow b 5 1 v n xs) (hb : Below w.heap.size w w') : w'.ownsRow b 5 1 v n xs :=
  h.kept (row := none) ⟨hb.os, hb.tape, hb.output, hb.size, fun k hk _ => hb.block k hk⟩ (by cases hv : v.ownBlock with | none => exact .inl rfl | some r => exact .inr (by simp))
theorem Rin.below {B : Nat} {s : ByteArray} {w W W' : World} {out : List UInt8} {v err : Value} (h : Rin B s w out v err W) (hb : Below W.heap.size W W') : Rin B s w out v err W' := by
  have hz := h.size
  have hk : ∀ k, k < w.heap.size + 6 → W'.heap[k]? = W.heap[k]? := fun k hk => hb.block k (by omega)
  exact ⟨(hk _ (by omega)).trans h.bc, (hk _ (by omega)).trans h.bs, (hk _ (by omega)).trans h.bv, (hk _ (by omega)).trans h.be, own_below h.own hb, h.bel.trans (hb.mono (by omega)), Nat.le_trans hz hb.size⟩
theorem Rin.drew {B : Nat} {s : ByteArray} {w W : World} {out : List UInt8} {v err : Value} (h : Rin B s w out v err W) : Rin B s w out v err W.drew := h.below (Below.refl _ _).drew
theorem Rin.setE {B : Nat} {s : ByteArray} {w W : World} {out : List UInt8} {v err : Value} (h : Rin B s w out v err W) (m : Value) : Rin B s w out v m (W.setCell ⟨w.heap.size + 3, 0, none⟩ m) := by
  have o : ∀ k, k ≠ w.heap.size + 3 → (W.setCell ⟨w.heap.size + 3, 0, none⟩ m).heap[k]? = W.heap[k]? := fun k hk => Below.heap_setCell _ _ _ _ hk
  exact ⟨(o _ (by omega)).trans h.bc, (o _ (by omega)).trans h.bs, (o _ (by omega)).trans h.bv, heap_setCell_same W _ 0 _ _ _ h.be, ownsRow_setCell_below h.own (by show w.heap.size + 3 < _; omega) _, h.bel.setCell (by show w.heap.size ≤ w.heap.size + 3; omega) _, by simp; exact h.size⟩
theorem Rin.put {B : Nat} {s : ByteArray} {w W W' : World} {out more : List UInt8} {v v' err : Value} (h : Rin B s w out v err W) (hb : Bel (w.heap.size + 6) W W') (ho : W'.ownsRow (w.heap.size + 6) 5 1 v' (out.length + more.length) (cells out ++ cells more)) :
    Rin B s w (out ++ more) v' err (W'.setCell ⟨w.heap.size + 2, 0, none⟩ v') := by
  have hz := h.size
  have hk : ∀ k, k < w.heap.size + 6 → W'.heap[k]? = W.heap[k]? := fun k hk => hb.1.block k hk
  have o : ∀ k, k ≠ w.heap.size + 2 → (W'.setCell ⟨w.heap.size + 2, 0, none⟩ v').heap[k]? = W'.heap[k]? := fun k hk => Below.heap_setCell _ _ _ _ hk
  refine ⟨(o _ (by omega)).trans ((hk _ (by omega)).trans h.bc), (o _ (by omega)).trans ((hk _ (by omega)).trans h.bs), heap_setCell_same W' _ 0 _ _ _ ((hk _ (by omega)).trans h.bv), (o _ (by omega)).trans ((hk _ (by omega)).trans h.be), ?_, (h.bel.trans (hb.1.mono (by omega))).setCell (by show w.heap.size ≤ w.heap.size + 2; omega) _, by simp; have := hb.1.size; omega⟩
  rw [List.length_append, cells_append]
  exact ownsRow_setCell_below ho (by show w.heap.size + 2 < w.heap.size + 6; omega) _

theorem keepsO {W W' : World} (h : Below W.heap.size W W') : KeepsOthers W W' := ⟨h.size, fun k _ hk _ => (h.block k (Array.getElem?_eq_some_iff.1 hk).1).trans hk⟩
theorem own_slice {w : World} {base n : Nat} {v : Value} {xs : List Value} (h : w.ownsRow base 5 1 v n xs) : ∃ a l c, v = .slice a l c := by
  rcases h.2 with ⟨rfl, _⟩ | ⟨g, cap, _, rfl, _⟩
  · exact ⟨_, _, _, rfl⟩
  · exact ⟨_, _, _, rfl⟩
/-- what read leaves. -/
def ReadPost (k : Kd) (s : ByteArray) (a : Ad) (w : World) (e : Ending) (w' : World) : Prop := Below w.heap.size w w' ∧
  ((∃ t, rds k (all s k.wd) = some t ∧ e = .returned (.tuple #[.string ⟨t.toArray⟩, .nilIface])) ∨ (rds k (all s k.wd) = none ∧ ∃ v, e = .returned (.tuple #[.string ⟨#[]⟩, v]) ∧ IsErr a v))
def rinv (k : Kd) (B : Nat) (s : ByteArray) (w : World) (pre : List (Pc s)) (W : World) : Prop := ∃ out v, Rd k pre out ∧ Rin B s w out v .nilIface W
def rout (k : Kd) (B : Nat) (s : ByteArray) (a : Ad) (w : World) (cd : Code) (pre : List (Pc s)) (W : World) : Prop := cd = .exit 0 ∧ ∃ l x out v err, pre = l ++ [x] ∧ Rd k l out ∧ one k x = none ∧ IsErr a err ∧ Rin B s w out v err W

theorem finR {w V : World} {D : Nat} {tmps : Array Value} {v u : Value} {R : Ending → World → Prop} (hV : V.heap[D]? = some (.deferred (some []))) (hD : w.heap.size ≤ D) (hb : Below w.heap.size w V) (t4 : tmps.getD 4 undef = v) (t5 : tmps.getD 5 undef = u)
    (hp : ∀ V', Below w.heap.size w V' → R (.returned (.tuple #[v, u])) V') :
    Exit.noGoto (bodyPostM Fence.wide 3 Tryz.prog Tryz.f140 R) Exit.ret { tmps, defers := [{ target := .collected D, args := #[] }] } V := by
  refine ⟨by simp, .inl ⟨_, _, rfl, run_takeDeferred hV, ?_⟩⟩
  refine ⟨.tuple #[v, u], ?_, hp _ (putObj_below hb hD)⟩
  subst t4
  subst t5
  simp [results, Tryz.results140, go_sem]
set_option linter.unusedSimpArgs false in
set_option maxRecDepth 100000 in
set_option maxHeartbeats 4000000 in
theorem read_any (k : Kd) (hT : Tolds k) (B : Nat) (s : ByteArray) (a : Ad) (w : World) (g : Glob a w) (hc : Cod k w B) (hs : s.size ≤ 2000) (hk : 1 ≤ k.wd) (hk4 : k.wd ≤ 4) (hbt : k.bt ≤ 6) (hwt : k.wd * k.bt ≤ 24) (hnm : ∀ x m, k.nm x = some m → m < 2 ^ k.bt) :
    Calls Tryz.prog 140 #[.pointer (some ⟨B, 0, none⟩), .string s] w (ReadPost k s a w) := by
  have hwi := hc.wi
  have hlt := hc.lt
  refine (callsIn_wide (n := 3)).1 ?_
  refine callsIn_of_wp_marks Tryz.func140 rfl trivial ?_ rfl
  simp only [Tryz.ntmps140, List.size_toArray, List.length_cons, List.length_nil, Nat.reduceAdd, Nat.reduceSub, Array.replicate_succ, Array.replicate_zero, List.push_toArray, List.append_toArray, List.nil_append, List.cons_append]
  refine wpIn_wide.2 ?_
  have hwi2 : ((((w.alloc (.cells #[.pointer (some ⟨B, 0, none⟩)] 59)).alloc (.cells #[.string s] 9)).alloc (.cells #[.slice none 0 0] 85)).alloc (.cells #[.nilIface] 45)).cell? ⟨B, 193, none⟩ = some (.int .i64 k.wd) := by
    rw [World.cell?_alloc_lt _ _ _ (by simp; omega), World.cell?_alloc_lt _ _ _ (by simp; omega), World.cell?_alloc_lt _ _ _ (by simp; omega), World.cell?_alloc_lt _ _ _ hlt]; exact hwi
  have Hc := hide hc
  have Hg0 := hide g
  clear hwi hc
  have hmx : Tryz.prog.follows .mixedOrders = true := by kernel_rfl
  go_wp2
  refine wp_scope_straight ?_
  go_wp2
  refine wp_label ?_
  go_wp2
  refine region_tail 5 hmx (by kernel_rfl) ?_
  simp only [List.take_succ_cons, List.take_zero, List.drop_succ_cons, List.drop_zero]
  repeat still_step
  refine wpStill_nil ?_
  go_wp2_with fail
  refine (groups_any s k.wd _).mono ?_
  rintro e w' ⟨rfl, rfl⟩
  go_wp2
  obtain ⟨W0, hW0⟩ : ∃ W0, W0 = ((((((w.alloc (.cells #[.pointer (some ⟨B, 0, none⟩)] 59)).alloc (.cells #[.string s] 9)).alloc (.cells #[.slice none 0 0] 85)).alloc (.cells #[.nilIface] 45)).alloc (.cells #[.string s] 9)).alloc (.cells #[.int .i64 k.wd] 3)).drew := ⟨_, rfl⟩
  have hz : W0.heap.size = w.heap.size + 6 := by rw [hW0]; simp
  have hSt : Rin B s w [] (.slice none 0 0) .nilIface W0 := by
    rw [hW0]
    refine Rin.drew ?_
    refine ⟨?_, ?_, ?_, ?_, World.ownsRow_nil _ _ _ _, ?_, by simp⟩
    · rw [Below.heap_alloc _ _ _ (by simp <;> omega), Below.heap_alloc _ _ _ (by simp <;> omega), Below.heap_alloc _ _ _ (by simp <;> omega), Below.heap_alloc _ _ _ (by simp <;> omega), Below.heap_alloc _ _ _ (by simp <;> omega)]
      exact World.alloc_heap_new _ _
    · rw [Below.heap_alloc _ _ _ (by simp <;> omega), Below.heap_alloc _ _ _ (by simp <;> omega), Below.heap_alloc _ _ _ (by simp <;> omega), Below.heap_alloc _ _ _ (by simp <;> omega)]
      have := World.alloc_heap_new (w.alloc (.cells #[.pointer (some ⟨B, 0, none⟩)] 59)) (.cells #[.string s] 9); rwa [World.size_alloc] at this
    · rw [Below.heap_alloc _ _ _ (by simp <;> omega), Below.heap_alloc _ _ _ (by simp <;> omega), Below.heap_alloc _ _ _ (by simp <;> omega)]
      have := World.alloc_heap_new ((w.alloc (.cells #[.pointer (some ⟨B, 0, none⟩)] 59)).alloc (.cells #[.string s] 9)) (.cells #[.slice none 0 0] 85); rwa [World.size_alloc, World.size_alloc] at this
    · rw [Below.heap_alloc _ _ _ (by simp <;> omega), Below.heap_alloc _ _ _ (by simp <;> omega)]
      have := World.alloc_heap_new (((w.alloc (.cells #[.pointer (some ⟨B, 0, none⟩)] 59)).alloc (.cells #[.string s] 9)).alloc (.cells #[.slice none 0 0] 85)) (.cells #[.nilIface] 45); rwa [World.size_alloc, World.size_alloc, World.size_alloc] at this
    · repeat (refine Below.alloc ?_ (by simp <;> omega) _)
      exact Below.refl _ _
  have hBs : W0.cell? ⟨w.heap.size + 4, 0, none⟩ = some (.string s) := by
    rw [hW0]
    show (World.alloc _ _).cell? _ = _
    rw [World.cell?_alloc_lt _ _ _ (by simp), World.cell?_alloc_at _ _ _ _ (by simp)]
    rfl
  have hBn : W0.cell? ⟨w.heap.size + 5, 0, none⟩ = some (.int .i64 k.wd) := by
    rw [hW0]
    show (World.alloc _ _).cell? _ = _
    rw [World.cell?_alloc_at _ _ _ _ (by simp)]
    rfl
  rw [← hW0]
  clear hW0 hwi2
  refine (wpIn_wide (n := 3)).1 ?_
  refine wpIn_rangeFunc_ownF rfl (by omega) (gf := 91) (lb := #[.pointer (some ⟨w.heap.size + 4, 0, none⟩), .pointer (some ⟨w.heap.size + 5, 0, none⟩)]) rfl trivial (enters_of Tryz.func91 (by kernel_rfl) rfl)
    (groups1_stops (3 - 1) (by omega) (w.heap.size + 4) (w.heap.size + 5) k.wd s W0 hk hk4 hs hBs hBn) Two.trans (fun W l o o' hl h1 h2 h3 => Two.book (w := W0) (by omega) (by omega) W l o o' hl h1 h2 h3) (Below.refl _ _) (fun _ => rfl)
    (rinv k B s w) (rout k B s a w)
    (fun pre A B' row hs hg hr => by
      obtain ⟨out, v, h1, h⟩ := hs
      exact ⟨out, v, h1, h.grown hg (fun r e => ⟨by have := (hr r e).1; omega, (hr r e).2⟩)⟩)
    (fun cd pre A B' row hs hg hr => by
      obtain ⟨e1, l, x, out, v, err, h1, h2, h3, h4, h⟩ := hs
      exact ⟨e1, l, x, out, v, err, h1, h2, h3, h4, h.grown hg (fun r e => ⟨by have := (hr r e).1; omega, (hr r e).2⟩)⟩)
    ⟨[], _, rd_nil k s, hSt⟩
    (fun x => { tmps := #[.pointer (some ⟨B, 0, none⟩), .string s, .pointer (some ⟨w.heap.size, 0, none⟩), .pointer (some ⟨w.heap.size + 1, 0, none⟩), .string ⟨#[]⟩, .nilIface, .pointer (some ⟨w.heap.size + 2, 0, none⟩), .pointer (some ⟨w.heap.size + 3, 0, none⟩), .int .i64 x.p, .string (x.g k.wd), undef, undef, .string s, .pointer (some ⟨B, 0, none⟩), .pointer (some ⟨B, 0, none⟩), .pointer (some ⟨B, 193, none⟩), .int .i64 k.wd, .func (.func 91) #[] #[.pointer (some ⟨w.heap.size + 4, 0, none⟩), .pointer (some ⟨w.heap.size + 5, 0, none⟩)], .int .i64 x.p, .string (x.g k.wd), undef, undef, undef, undef, undef, undef, undef, undef, undef, undef, undef, undef, undef, undef, undef, undef, undef, undef, undef, undef, undef, undef, undef, undef, undef, undef, undef, undef, undef, undef, undef, undef, undef, undef, undef, undef, undef, undef, undef, undef, undef, undef, undef, undef, undef, undef, undef, undef, undef, undef, undef], defers := [] }) ?assign ?body ?done ?stop
  case assign =>
    intro l x W K hK
    gi_wp2
    exact hK
  case body =>
    rintro l pre x W ⟨out, v, hrd, hin⟩ hN
    go_light
    have hcW := (unhide Hc).below hlt hin.bel
    have hps := piece_size x hk
    have hxp := x.hp
    have H := hT B x.p (x.g k.wd) a W (g.below (Nat.le_refl _) hin.bel) hcW hps.2 (by omega)
    have hx : one k x = stp k (!decide (x.p + k.wd < s.size)) (x.g k.wd).data.toList := rfl
    unfold stp at hx
    obtain ⟨c0, c1, c2, c3, c4, c5⟩ := hin.cl
    cases htl : tl k (x.g k.wd).data.toList with
    | none =>
      rw [htl] at hx
      have H' := hide (H.mono (R' := fun e w' => ∃ xv, e = .returned (.tuple #[.int .i64 0, .int .i64 0, .iface 212 xv]) ∧ IsErr a (.iface 212 xv) ∧ Below W.heap.size W w') (fun e w' ⟨hb, he⟩ => by
        rcases he with ⟨b, c, h1, _⟩ | ⟨_, v1, h2, h3⟩
        · rw [htl] at h1; cases h1
        · obtain ⟨xv, rfl⟩ := h3.form
          exact ⟨xv, h2, h3, hb⟩))
      have Hin := hide hin
      have Hx : Hid (one k x = none) := hx
      have Hrd := hide hrd
      clear H hin hx hrd htl hN hSt hBs hBn hz hcW hps hxp g
      gi_wp2_with fail
      refine ⟨trivial, (CallsIn.inRound _ (callsIn_wide.2 (unhide H'))).mono ?_⟩
      rintro e w' ⟨xv, rfl, herr, hb⟩
      have hi1 := (unhide Hin).below hb
      have hi2 := hi1.setE (.iface 212 xv)
      obtain ⟨d0, d1, d2, d3, d4, d5⟩ := hi1.cl
      obtain ⟨e0, e1, e2, e3, e4, e5⟩ := hi2.cl
      have Hi1 := hide hi1
      have Hi2 := hide hi2
      have He := hide herr
      have HK := hide ((keepsO hb).trans (KeepsOthers.setCell w' ⟨w.heap.size + 3, 0, none⟩ (.iface 212 xv)))
      clear hi1 hi2 herr hb c0 c1 c2 c3 c4 c5
      gi_wp2
      refine regionIn_tail_n 20 hmx (by kernel_rfl) (by kernel_rfl) ?_
      simp only [List.take_succ_cons, List.take_zero, List.drop_succ_cons, List.drop_zero]
      refine wst_do (by kernel_rfl) (fun K hK => ?_)
      go_simp
      refine hK.out _ ?_
      clear hK K
      refine wst_do (by kernel_rfl) (fun K hK => ?_)
      go_simp
      refine hK.out _ ?_
      clear hK K
      refine wst_do (by kernel_rfl) (fun K hK => ?_)
      go_simp
      refine hK.out _ ?_
      clear hK K
      refine wst_skip (by kernel_rfl) ?_
      simp only [Act.put, List.setIfInBounds_toArray, List.set_cons_zero, List.set_cons_succ, List.getElem_toArray, List.getElem_cons_zero, List.getElem_cons_succ]
      refine wst_skip (by kernel_rfl) ?_
      simp only [Act.put, List.setIfInBounds_toArray, List.set_cons_zero, List.set_cons_succ, List.getElem_toArray, List.getElem_cons_zero, List.getElem_cons_succ]
      refine wst_skip (by kernel_rfl) ?_
      simp only [Act.put, List.setIfInBounds_toArray, List.set_cons_zero, List.set_cons_succ, List.getElem_toArray, List.getElem_cons_zero, List.getElem_cons_succ]
      refine wst_skip (by kernel_rfl) ?_
      simp only [Act.put, List.setIfInBounds_toArray, List.set_cons_zero, List.set_cons_succ, List.getElem_toArray, List.getElem_cons_zero, List.getElem_cons_succ]
      refine wst_skip (by kernel_rfl) ?_
      simp only [Act.put, List.setIfInBounds_toArray, List.set_cons_zero, List.set_cons_succ, List.getElem_toArray, List.getElem_cons_zero, List.getElem_cons_succ]
      refine wst_skip (by kernel_rfl) ?_
      simp only [Act.put, List.setIfInBounds_toArray, List.set_cons_zero, List.set_cons_succ, List.getElem_toArray, List.getElem_cons_zero, List.getElem_cons_succ]
      refine wst_do (by kernel_rfl) (fun K hK => ?_)
      go_simp
      refine hK.out _ ?_
      clear hK K
      refine wst_do (by kernel_rfl) (fun K hK => ?_)
      go_simp
      refine hK.out _ ?_
      clear hK K
      refine wst_skip (by kernel_rfl) ?_
      simp only [Act.put, List.setIfInBounds_toArray, List.set_cons_zero, List.set_cons_succ, List.getElem_toArray, List.getElem_cons_zero, List.getElem_cons_succ]
      refine wst_skip (by kernel_rfl) ?_
      simp only [Act.put, List.setIfInBounds_toArray, List.set_cons_zero, List.set_cons_succ, List.getElem_toArray, List.getElem_cons_zero, List.getElem_cons_succ]
      refine wst_skip (by kernel_rfl) ?_
      simp only [Act.put, List.setIfInBounds_toArray, List.set_cons_zero, List.set_cons_succ, List.getElem_toArray, List.getElem_cons_zero, List.getElem_cons_succ]
      refine wst_skip (by kernel_rfl) ?_
      simp only [Act.put, List.setIfInBounds_toArray, List.set_cons_zero, List.set_cons_succ, List.getElem_toArray, List.getElem_cons_zero, List.getElem_cons_succ]
      refine wst_skip (by kernel_rfl) ?_
      simp only [Act.put, List.setIfInBounds_toArray, List.set_cons_zero, List.set_cons_succ, List.getElem_toArray, List.getElem_cons_zero, List.getElem_cons_succ]
      refine wst_skip (by kernel_rfl) ?_
      simp only [Act.put, List.setIfInBounds_toArray, List.set_cons_zero, List.set_cons_succ, List.getElem_toArray, List.getElem_cons_zero, List.getElem_cons_succ]
      refine wst_skip (by kernel_rfl) ?_
      simp only [Act.put, List.setIfInBounds_toArray, List.set_cons_zero, List.set_cons_succ, List.getElem_toArray, List.getElem_cons_zero, List.getElem_cons_succ]
      refine wst_skip (by kernel_rfl) ?_
      simp only [Act.put, List.setIfInBounds_toArray, List.set_cons_zero, List.set_cons_succ, List.getElem_toArray, List.getElem_cons_zero, List.getElem_cons_succ]
      refine wst_skip (by kernel_rfl) ?_
      simp only [Act.put, List.setIfInBounds_toArray, List.set_cons_zero, List.set_cons_succ, List.getElem_toArray, List.getElem_cons_zero, List.getElem_cons_succ]
      refine wst_nil ?_
      go_wp2
      simp only [only]
      gi_wp2
      exact ⟨(unhide HK).trans (KeepsOthers.drew _), rfl, pre, x, out, v, _, rfl, unhide Hrd, unhide Hx, unhide He, (unhide Hi2).drew⟩
    | some r =>
      obtain ⟨b, c⟩ := r
      rw [htl, Option.bind_some] at hx
      dsimp only at hx
      have H' := hide (H.mono (R' := fun e w' => e = .returned (.tuple #[.int .i64 b, .int .i64 c, .nilIface]) ∧ Below W.heap.size W w') (fun e w' ⟨hb, he⟩ => by
        rcases he with ⟨b', c', h1, h2⟩ | ⟨h1, _⟩
        · rw [htl] at h1; cases h1; exact ⟨h2, hb⟩
        · rw [htl] at h1; cases h1))
      obtain ⟨hb24, hc4⟩ := tl_bound k hnm hwt (x.g k.wd).data.toList (by rw [Array.length_toList]; exact hps.2) htl
      replace hc4 : c ≤ 4 := by omega
      have h24 : c * k.bt / 8 ≤ 3 := by have : c * k.bt ≤ 4 * 6 := Nat.mul_le_mul hc4 hbt; omega
      have Hlen : Hid ((unp b (c * k.bt / 8)).length ≤ 3) := by show _ ≤ _; simp [unp]; exact h24
      have Hin := hide hin
      have Hrd := hide hrd
      have hprl := hin.size
      have hpre : pre.length ≤ 2000 := by omega
      by_cases hcw : c < k.wd
      · by_cases hlast : x.p + k.wd < s.size
        · rw [if_pos ⟨hcw, by simp [hlast]⟩] at hx
          have Hx := hide hx
          have gE := (g.below (Nat.le_refl _) hin.bel)
          have Hg := hide gE
          have hcw' : (c : Int) < k.wd := by omega
          have hl' : (x.p : Int) + k.wd < s.size := by omega
          have hp2 : (x.p : Int) ≤ 2000 := by omega
          have hw2 : (k.wd : Int) ≤ 4 := by omega
          clear H hin hx hrd htl hN hSt hBs hBn hz hcW hps hxp g gE
          gi_wp2_with fail
          refine ⟨trivial, (CallsIn.inRound _ (callsIn_wide.2 (unhide H'))).mono ?_⟩
          rintro e w' ⟨rfl, hb⟩
          have hi1 := (unhide Hin).below hb
          have hi2 := hi1.setE .nilIface
          obtain ⟨d0, d1, d2, d3, d4, d5⟩ := hi1.cl
          obtain ⟨e0, e1, e2, e3, e4, e5⟩ := hi2.cl
          have f0 : (w'.setCell ⟨w.heap.size + 3, 0, none⟩ .nilIface).cell? ⟨B, 193, none⟩ = some (.int .i64 k.wd) := ((unhide Hc).below hlt hi2.bel).wi
          have Hi2 := hide hi2
          have HK := hide ((keepsO hb).trans (KeepsOthers.setCell w' ⟨w.heap.size + 3, 0, none⟩ .nilIface))
          have HT2 : Hid (Two (w.heap.size + 4) (w.heap.size + 5) W (w'.setCell ⟨w.heap.size + 3, 0, none⟩ .nilIface)) :=
            ⟨(Below.heap_setCell _ _ _ _ (by show w.heap.size + 4 ≠ w.heap.size + 3; omega)).trans (hb.block _ (by have := (unhide Hin).size; omega)), (Below.heap_setCell _ _ _ _ (by show w.heap.size + 5 ≠ w.heap.size + 3; omega)).trans (hb.block _ (by have := (unhide Hin).size; omega))⟩
          have g0 : (w'.setCell ⟨w.heap.size + 3, 0, none⟩ .nilIface).cell? ⟨9, 0, none⟩ = some (.iface 219 (.pointer (some a.e))) := ((unhide Hg0).below (Nat.le_refl _) hi2.bel).en
          clear hi1 hi2 hb c0 c1 c2 c3 c4 c5 d0 d1 d2
          gi_wp2
          refine regionIn_tail_n 20 hmx (by kernel_rfl) (by kernel_rfl) ?_
          simp only [List.take_succ_cons, List.take_zero, List.drop_succ_cons, List.drop_zero]
          refine wst_do (by kernel_rfl) (fun K hK => ?_)
          go_simp
          refine hK.out _ ?_
          clear hK K
          refine wst_do (by kernel_rfl) (fun K hK => ?_)
          go_simp
          refine hK.out _ ?_
          clear hK K
          refine wst_do (by kernel_rfl) (fun K hK => ?_)
          go_simp
          refine hK.out _ ?_
          clear hK K
          refine wst_do (by kernel_rfl) (fun K hK => ?_)
          go_simp
          refine hK.out _ ?_
          clear hK K
          refine wst_do (by kernel_rfl) (fun K hK => ?_)
          go_simp
          refine hK.out _ ?_
          clear hK K
          refine wst_do (by kernel_rfl) (fun K hK => ?_)
          go_simp
          refine hK.out _ ?_
          clear hK K
          refine wst_do (by kernel_rfl) (fun K hK => ?_)
          go_simp
          refine hK.out _ ?_
          clear hK K
          refine wst_do (by kernel_rfl) (fun K hK => ?_)
          go_simp
          refine hK.out _ ?_
          clear hK K
          refine wst_do (by kernel_rfl) (fun K hK => ?_)
          go_simp
          refine hK.out _ ?_
          clear hK K
          refine wst_do (by kernel_rfl) (fun K hK => ?_)
          go_simp
          refine hK.out _ ?_
          clear hK K
          refine wst_do (by kernel_rfl) (fun K hK => ?_)
          go_simp
          refine hK.out _ ?_
          clear hK K
          refine wst_do (by kernel_rfl) (fun K hK => ?_)
          go_simp
          refine hK.out _ ?_
          clear hK K
          refine wst_do (by kernel_rfl) (fun K hK => ?_)
          go_simp
          refine hK.out _ ?_
          clear hK K
          refine wst_do (by kernel_rfl) (fun K hK => ?_)
          go_simp
          refine hK.out _ ?_
          clear hK K
          refine wst_do (by kernel_rfl) (fun K hK => ?_)
          go_simp
          refine hK.out _ ?_
          clear hK K
          refine wst_do (by kernel_rfl) (fun K hK => ?_)
          go_simp
          refine hK.out _ ?_
          clear hK K
          refine wst_do (by kernel_rfl) (fun K hK => ?_)
          go_simp
          refine hK.out _ ?_
          clear hK K
          refine wst_do (by kernel_rfl) (fun K hK => ?_)
          go_simp
          refine hK.out _ ?_
          clear hK K
          refine wst_do (by kernel_rfl) (fun K hK => ?_)
          go_simp
          refine hK.out _ ?_
          clear hK K
          refine wst_do (by kernel_rfl) (fun K hK => ?_)
          go_simp
          refine hK.out _ ?_
          clear hK K
          refine wst_nil ?_
          go_wp2
          simp only [only]
          gi_wp2
          refine regionIn_tail_n 9 hmx (by kernel_rfl) (by kernel_rfl) ?_
          simp only [List.take_succ_cons, List.take_zero, List.drop_succ_cons, List.drop_zero]
          refine wst_do (by kernel_rfl) (fun K hK => ?_)
          go_simp
          refine hK.out _ ?_
          clear hK K
          refine wst_do (by kernel_rfl) (fun K hK => ?_)
          go_simp
          refine hK.out _ ?_
          clear hK K
          refine wst_do (by kernel_rfl) (fun K hK => ?_)
          go_simp
          refine hK.out _ ?_
          clear hK K
          refine wst_do (by kernel_rfl) (fun K hK => ?_)
          go_simp
          refine hK.out _ ?_
          clear hK K
          refine wst_do (by kernel_rfl) (fun K hK => ?_)
          go_simp
          refine hK.out _ ?_
          clear hK K
          refine wst_do (by kernel_rfl) (fun K hK => ?_)
          go_simp
          refine hK.out _ ?_
          clear hK K
          refine wst_do (by kernel_rfl) (fun K hK => ?_)
          go_simp
          refine hK.out _ ?_
          clear hK K
          refine wst_do (by kernel_rfl) (fun K hK => ?_)
          go_simp
          refine hK.out _ ?_
          clear hK K
          refine wst_do (by kernel_rfl) (fun K hK => ?_)
          go_simp
          refine hK.out _ ?_
          clear hK K
          refine wst_nil ?_
          go_wp2
          simp only [only]
          have hi3 := (unhide Hi2).drew.drew.setE (flt ((x.p : Int) + k.wd) a.e)
          obtain ⟨p0, p1, p2, p3, p4, p5⟩ := hi3.cl
          have Hi3 := hide hi3
          clear hi3
          gi_wp2
          exact ⟨(((unhide HK).trans (KeepsOthers.drew _)).trans (KeepsOthers.drew _)).trans (KeepsOthers.setCell _ _ _), rfl, pre, x, out, v, _, rfl, unhide Hrd, unhide Hx, isErr_end _ _, unhide Hi3⟩
        · rw [if_neg (fun h => by simp [hlast] at h)] at hx
          have Hx := hide hx
          have hcw' : (c : Int) < k.wd := by omega
          have hl' : ¬ (x.p : Int) + k.wd < s.size := by omega
          have hp2 : (x.p : Int) ≤ 2000 := by omega
          have hw2 : (k.wd : Int) ≤ 4 := by omega
          clear H hin hx htl hN hSt hBs hBn hz hcW hps hxp g
          gi_wp2_with fail
          refine ⟨trivial, (CallsIn.inRound _ (callsIn_wide.2 (unhide H'))).mono ?_⟩
          rintro e w' ⟨rfl, hb⟩
          have hi1 := (unhide Hin).below hb
          have hi2 := hi1.setE .nilIface
          obtain ⟨d0, d1, d2, d3, d4, d5⟩ := hi1.cl
          obtain ⟨e0, e1, e2, e3, e4, e5⟩ := hi2.cl
          have f0 : (w'.setCell ⟨w.heap.size + 3, 0, none⟩ .nilIface).cell? ⟨B, 193, none⟩ = some (.int .i64 k.wd) := ((unhide Hc).below hlt hi2.bel).wi
          have Hi2 := hide hi2
          have HK := hide ((keepsO hb).trans (KeepsOthers.setCell w' ⟨w.heap.size + 3, 0, none⟩ .nilIface))
          have HT2 : Hid (Two (w.heap.size + 4) (w.heap.size + 5) W (w'.setCell ⟨w.heap.size + 3, 0, none⟩ .nilIface)) :=
            ⟨(Below.heap_setCell _ _ _ _ (by show w.heap.size + 4 ≠ w.heap.size + 3; omega)).trans (hb.block _ (by have := (unhide Hin).size; omega)), (Below.heap_setCell _ _ _ _ (by show w.heap.size + 5 ≠ w.heap.size + 3; omega)).trans (hb.block _ (by have := (unhide Hin).size; omega))⟩
          have HW := hide (whole_any k B c k.bt (w'.setCell ⟨w.heap.size + 3, 0, none⟩ .nilIface).drew.drew ((unhide Hc).below hlt hi2.drew.drew.bel) rfl hbt hc4)
          have HU := hide (unpack_any b (c * k.bt / 8) (w'.setCell ⟨w.heap.size + 3, 0, none⟩ .nilIface).drew.drew (w.heap.size + 6) v _ _ hb24 h24 hi2.drew.drew.own (by have := (unhide Hrd).1; omega) hi2.drew.drew.size)
          clear hi1 hi2 hb c0 c1 c2 c3 c4 c5 d0 d1 d2
          gi_wp2
          refine regionIn_tail_n 20 hmx (by kernel_rfl) (by kernel_rfl) ?_
          simp only [List.take_succ_cons, List.take_zero, List.drop_succ_cons, List.drop_zero]
          refine wst_do (by kernel_rfl) (fun K hK => ?_)
          go_simp
          refine hK.out _ ?_
          clear hK K
          refine wst_do (by kernel_rfl) (fun K hK => ?_)
          go_simp
          refine hK.out _ ?_
          clear hK K
          refine wst_do (by kernel_rfl) (fun K hK => ?_)
          go_simp
          refine hK.out _ ?_
          clear hK K
          refine wst_do (by kernel_rfl) (fun K hK => ?_)
          go_simp
          refine hK.out _ ?_
          clear hK K
          refine wst_do (by kernel_rfl) (fun K hK => ?_)
          go_simp
          refine hK.out _ ?_
          clear hK K
          refine wst_do (by kernel_rfl) (fun K hK => ?_)
          go_simp
          refine hK.out _ ?_
          clear hK K
          refine wst_do (by kernel_rfl) (fun K hK => ?_)
          go_simp
          refine hK.out _ ?_
          clear hK K
          refine wst_do (by kernel_rfl) (fun K hK => ?_)
          go_simp
          refine hK.out _ ?_
          clear hK K
          refine wst_do (by kernel_rfl) (fun K hK => ?_)
          go_simp
          refine hK.out _ ?_
          clear hK K
          refine wst_do (by kernel_rfl) (fun K hK => ?_)
          go_simp
          refine hK.out _ ?_
          clear hK K
          refine wst_do (by kernel_rfl) (fun K hK => ?_)
          go_simp
          refine hK.out _ ?_
          clear hK K
          refine wst_do (by kernel_rfl) (fun K hK => ?_)
          go_simp
          refine hK.out _ ?_
          clear hK K
          refine wst_do (by kernel_rfl) (fun K hK => ?_)
          go_simp
          refine hK.out _ ?_
          clear hK K
          refine wst_do (by kernel_rfl) (fun K hK => ?_)
          go_simp
          refine hK.out _ ?_
          clear hK K
          refine wst_do (by kernel_rfl) (fun K hK => ?_)
          go_simp
          refine hK.out _ ?_
          clear hK K
          refine wst_do (by kernel_rfl) (fun K hK => ?_)
          go_simp
          refine hK.out _ ?_
          clear hK K
          refine wst_do (by kernel_rfl) (fun K hK => ?_)
          go_simp
          refine hK.out _ ?_
          clear hK K
          refine wst_do (by kernel_rfl) (fun K hK => ?_)
          go_simp
          refine hK.out _ ?_
          clear hK K
          refine wst_do (by kernel_rfl) (fun K hK => ?_)
          go_simp
          refine hK.out _ ?_
          clear hK K
          refine wst_do (by kernel_rfl) (fun K hK => ?_)
          go_simp
          refine hK.out _ ?_
          clear hK K
          refine wst_nil ?_
          go_wp2
          simp only [only]
          gi_wp2
          refine regionIn_tail_n 5 hmx (by kernel_rfl) (by kernel_rfl) ?_
          simp only [List.take_succ_cons, List.take_zero, List.drop_succ_cons, List.drop_zero]
          refine wst_do (by kernel_rfl) (fun K hK => ?_)
          go_simp
          refine hK.out _ ?_
          clear hK K
          refine wst_do (by kernel_rfl) (fun K hK => ?_)
          go_simp
          refine hK.out _ ?_
          clear hK K
          refine wst_do (by kernel_rfl) (fun K hK => ?_)
          go_simp
          refine hK.out _ ?_
          clear hK K
          refine wst_do (by kernel_rfl) (fun K hK => ?_)
          go_simp
          refine hK.out _ ?_
          clear hK K
          refine wst_do (by kernel_rfl) (fun K hK => ?_)
          go_simp
          refine ⟨_, unhide HW, hK.out _ ?_⟩
          clear hK K
          refine wst_nil ?_
          go_wp2_with fail
          refine (unhide HU).mono ?_
          rintro e w2 ⟨v', rfl, hown, hbl⟩
          have hP := (unhide Hi2).drew.drew.put hbl hown
          obtain ⟨sa, sn, sc, rfl⟩ := own_slice hown
          have hz := (unhide Hi2).size
          have m1 := (hbl.1.cell (p := ⟨w.heap.size + 2, 0, none⟩) (by show w.heap.size + 2 < w.heap.size + 6; omega)).trans e2
          have m2 := (bel_frozen hbl.1 (a := ⟨w.heap.size + 2, 0, none⟩) (by show w.heap.size + 2 < w.heap.size + 6; omega)).trans e4
          have HP := hide hP
          have HK2 := hide (((((unhide HK).trans (KeepsOthers.drew _)).trans (KeepsOthers.drew _)).trans hbl.2).trans (KeepsOthers.setCell w2 ⟨w.heap.size + 2, 0, none⟩ (.slice sa sn sc)))
          have HT3 : Hid (Two (w.heap.size + 4) (w.heap.size + 5) W (w2.setCell ⟨w.heap.size + 2, 0, none⟩ (.slice sa sn sc))) :=
            (unhide HT2).trans ⟨(Below.heap_setCell _ _ _ _ (by show w.heap.size + 4 ≠ w.heap.size + 2; omega)).trans (hbl.1.block _ (by omega)), (Below.heap_setCell _ _ _ _ (by show w.heap.size + 5 ≠ w.heap.size + 2; omega)).trans (hbl.1.block _ (by omega))⟩
          clear hown hbl hP hz
          go_wp2
          simp only [only]
          gi_wp2
          exact ⟨unhide HK2, unhide HT3, _, _, (unhide Hrd).snoc (unhide Hx) (unhide Hlen), unhide HP⟩
      · rw [if_neg (fun h => hcw h.1)] at hx
        have Hx := hide hx
        have hcw' : ¬ (c : Int) < k.wd := by omega
        clear H hin hx htl hN hSt hBs hBn hz hcW hps hxp g
        gi_wp2_with fail
        refine ⟨trivial, (CallsIn.inRound _ (callsIn_wide.2 (unhide H'))).mono ?_⟩
        rintro e w' ⟨rfl, hb⟩
        have hi1 := (unhide Hin).below hb
        have hi2 := hi1.setE .nilIface
        obtain ⟨d0, d1, d2, d3, d4, d5⟩ := hi1.cl
        obtain ⟨e0, e1, e2, e3, e4, e5⟩ := hi2.cl
        have f0 : (w'.setCell ⟨w.heap.size + 3, 0, none⟩ .nilIface).cell? ⟨B, 193, none⟩ = some (.int .i64 k.wd) := ((unhide Hc).below hlt hi2.bel).wi
        have Hi2 := hide hi2
        have HK := hide ((keepsO hb).trans (KeepsOthers.setCell w' ⟨w.heap.size + 3, 0, none⟩ .nilIface))
        have HT2 : Hid (Two (w.heap.size + 4) (w.heap.size + 5) W (w'.setCell ⟨w.heap.size + 3, 0, none⟩ .nilIface)) :=
          ⟨(Below.heap_setCell _ _ _ _ (by show w.heap.size + 4 ≠ w.heap.size + 3; omega)).trans (hb.block _ (by have := (unhide Hin).size; omega)), (Below.heap_setCell _ _ _ _ (by show w.heap.size + 5 ≠ w.heap.size + 3; omega)).trans (hb.block _ (by have := (unhide Hin).size; omega))⟩
        have HW := hide (whole_any k B c k.bt (w'.setCell ⟨w.heap.size + 3, 0, none⟩ .nilIface).drew.drew ((unhide Hc).below hlt hi2.drew.drew.bel) rfl hbt hc4)
        have HU := hide (unpack_any b (c * k.bt / 8) (w'.setCell ⟨w.heap.size + 3, 0, none⟩ .nilIface).drew.drew (w.heap.size + 6) v _ _ hb24 h24 hi2.drew.drew.own (by have := (unhide Hrd).1; omega) hi2.drew.drew.size)
        clear hi1 hi2 hb c0 c1 c2 c3 c4 c5 d0 d1 d2
        gi_wp2
        refine regionIn_tail_n 20 hmx (by kernel_rfl) (by kernel_rfl) ?_
        simp only [List.take_succ_cons, List.take_zero, List.drop_succ_cons, List.drop_zero]
        refine wst_do (by kernel_rfl) (fun K hK => ?_)
        go_simp
        refine hK.out _ ?_
        clear hK K
        refine wst_do (by kernel_rfl) (fun K hK => ?_)
        go_simp
        refine hK.out _ ?_
        clear hK K
        refine wst_do (by kernel_rfl) (fun K hK => ?_)
        go_simp
        refine hK.out _ ?_
        clear hK K
        refine wst_do (by kernel_rfl) (fun K hK => ?_)
        go_simp
        refine hK.out _ ?_
        clear hK K
        refine wst_do (by kernel_rfl) (fun K hK => ?_)
        go_simp
        refine hK.out _ ?_
        clear hK K
        refine wst_do (by kernel_rfl) (fun K hK => ?_)
        go_simp
        refine hK.out _ ?_
        clear hK K
        refine wst_do (by kernel_rfl) (fun K hK => ?_)
        go_simp
        refine hK.out _ ?_
        clear hK K
        refine wst_do (by kernel_rfl) (fun K hK => ?_)
        go_simp
        refine hK.out _ ?_
        clear hK K
        refine wst_do (by kernel_rfl) (fun K hK => ?_)
        go_simp
        refine hK.out _ ?_
        clear hK K
        refine wst_do (by kernel_rfl) (fun K hK => ?_)
        go_simp
        refine hK.out _ ?_
        clear hK K
        refine wst_do (by kernel_rfl) (fun K hK => ?_)
        go_simp
        refine hK.out _ ?_
        clear hK K
        refine wst_skip (by kernel_rfl) ?_
        simp only [Act.put, List.setIfInBounds_toArray, List.set_cons_zero, List.set_cons_succ, List.getElem_toArray, List.getElem_cons_zero, List.getElem_cons_succ]
        refine wst_skip (by kernel_rfl) ?_
        simp only [Act.put, List.setIfInBounds_toArray, List.set_cons_zero, List.set_cons_succ, List.getElem_toArray, List.getElem_cons_zero, List.getElem_cons_succ]
        refine wst_skip (by kernel_rfl) ?_
        simp only [Act.put, List.setIfInBounds_toArray, List.set_cons_zero, List.set_cons_succ, List.getElem_toArray, List.getElem_cons_zero, List.getElem_cons_succ]
        refine wst_skip (by kernel_rfl) ?_
        simp only [Act.put, List.setIfInBounds_toArray, List.set_cons_zero, List.set_cons_succ, List.getElem_toArray, List.getElem_cons_zero, List.getElem_cons_succ]
        refine wst_skip (by kernel_rfl) ?_
        simp only [Act.put, List.setIfInBounds_toArray, List.set_cons_zero, List.set_cons_succ, List.getElem_toArray, List.getElem_cons_zero, List.getElem_cons_succ]
        refine wst_skip (by kernel_rfl) ?_
        simp only [Act.put, List.setIfInBounds_toArray, List.set_cons_zero, List.set_cons_succ, List.getElem_toArray, List.getElem_cons_zero, List.getElem_cons_succ]
        refine wst_skip (by kernel_rfl) ?_
        simp only [Act.put, List.setIfInBounds_toArray, List.set_cons_zero, List.set_cons_succ, List.getElem_toArray, List.getElem_cons_zero, List.getElem_cons_succ]
        refine wst_skip (by kernel_rfl) ?_
        simp only [Act.put, List.setIfInBounds_toArray, List.set_cons_zero, List.set_cons_succ, List.getElem_toArray, List.getElem_cons_zero, List.getElem_cons_succ]
        refine wst_skip (by kernel_rfl) ?_
        simp only [Act.put, List.setIfInBounds_toArray, List.set_cons_zero, List.set_cons_succ, List.getElem_toArray, List.getElem_cons_zero, List.getElem_cons_succ]
        refine wst_nil ?_
        go_wp2
        simp only [only]
        gi_wp2
        refine regionIn_tail_n 5 hmx (by kernel_rfl) (by kernel_rfl) ?_
        simp only [List.take_succ_cons, List.take_zero, List.drop_succ_cons, List.drop_zero]
        refine wst_do (by kernel_rfl) (fun K hK => ?_)
        go_simp
        refine hK.out _ ?_
        clear hK K
        refine wst_do (by kernel_rfl) (fun K hK => ?_)
        go_simp
        refine hK.out _ ?_
        clear hK K
        refine wst_do (by kernel_rfl) (fun K hK => ?_)
        go_simp
        refine hK.out _ ?_
        clear hK K
        refine wst_do (by kernel_rfl) (fun K hK => ?_)
        go_simp
        refine hK.out _ ?_
        clear hK K
        refine wst_do (by kernel_rfl) (fun K hK => ?_)
        go_simp
        refine ⟨_, unhide HW, hK.out _ ?_⟩
        clear hK K
        refine wst_nil ?_
        go_wp2_with fail
        refine (unhide HU).mono ?_
        rintro e w2 ⟨v', rfl, hown, hbl⟩
        have hP := (unhide Hi2).drew.drew.put hbl hown
        obtain ⟨sa, sn, sc, rfl⟩ := own_slice hown
        have hz := (unhide Hi2).size
        have m1 := (hbl.1.cell (p := ⟨w.heap.size + 2, 0, none⟩) (by show w.heap.size + 2 < w.heap.size + 6; omega)).trans e2
        have m2 := (bel_frozen hbl.1 (a := ⟨w.heap.size + 2, 0, none⟩) (by show w.heap.size + 2 < w.heap.size + 6; omega)).trans e4
        have HP := hide hP
        have HK2 := hide (((((unhide HK).trans (KeepsOthers.drew _)).trans (KeepsOthers.drew _)).trans hbl.2).trans (KeepsOthers.setCell w2 ⟨w.heap.size + 2, 0, none⟩ (.slice sa sn sc)))
        have HT3 : Hid (Two (w.heap.size + 4) (w.heap.size + 5) W (w2.setCell ⟨w.heap.size + 2, 0, none⟩ (.slice sa sn sc))) :=
          (unhide HT2).trans ⟨(Below.heap_setCell _ _ _ _ (by show w.heap.size + 4 ≠ w.heap.size + 2; omega)).trans (hbl.1.block _ (by omega)), (Below.heap_setCell _ _ _ _ (by show w.heap.size + 5 ≠ w.heap.size + 2; omega)).trans (hbl.1.block _ (by omega))⟩
        clear hown hbl hP hz
        go_wp2
        simp only [only]
        gi_wp2
        exact ⟨unhide HK2, unhide HT3, _, _, (unhide Hrd).snoc (unhide Hx) (unhide Hlen), unhide HP⟩
  case done =>
    rintro D ys W hD rfl ⟨out, v, hrd, hin⟩ hK
    obtain ⟨c0, c1, c2, c3, c4, c5⟩ := hin.cl
    have hcv := conv_row hin.own rfl
    have HK := hide hK
    have Hin := hide hin
    have Hr : Hid (rds k (all s k.wd) = some out) := by
      have := hrd.2 []
      rw [List.append_nil] at this
      show _ = _
      rw [this]
      simp [rds]
    clear hK hin hrd hSt hBs hBn
    go_wp2
    refine finR (v := .string ⟨out.toArray⟩) (u := .nilIface) (unhide HK) (by omega) (unhide Hin).bel rfl rfl fun V' hb => ⟨hb, .inl ⟨out, unhide Hr, rfl⟩⟩
  case stop =>
    rintro D cd pre W hD hpre ⟨rfl, l, x, out, v, err, rfl, hrd, hx, he, hin⟩ hK
    obtain ⟨xv, rfl⟩ := he.form
    refine wpIn_exit ?_
    obtain ⟨c0, c1, c2, c3, c4, c5⟩ := hin.cl
    have Hr : Hid (rds k (all s k.wd) = none) := by
      obtain ⟨t, ht⟩ := hpre
      show _ = _
      rw [← ht]
      exact hrd.fail hx t
    have HK := hide hK
    have Hin := hide hin
    have He := hide he
    clear hK hin hrd hx hpre hSt hBs hBn he
    go_wp2
    refine region_tail_n 2 hmx (by kernel_rfl) ?_
    simp only [List.take_succ_cons, List.take_zero, List.drop_succ_cons, List.drop_zero]
    refine wst_do (by kernel_rfl) (fun K hK => ?_)
    go_simp
    refine hK.out _ ?_
    clear hK K
    refine wst_do (by kernel_rfl) (fun K hK => ?_)
    go_simp
    refine hK.out _ ?_
    clear hK K
    refine wst_nil ?_
    go_wp2
    simp only [only]
    go_wp2
    refine finR (v := .string ⟨#[]⟩) (u := .iface 212 xv) (unhide HK) (by omega) (unhide Hin).bel.drew rfl rfl fun V' hb => ⟨hb, .inr ⟨unhide Hr, _, rfl, unhide He⟩⟩
end Go.Proofs.YthfcnjcpanoldaaGreatDoor.C

/-
  What code.Base, Unbase, Hex and Unhex answer, at every text of at most two thousand bytes. Conditions: the package-level variables hold what the program's text lays ('Glob').
-/
namespace Go.Proofs.YthfcnjcpanoldaaGreatDoor.C
open Go Go.RowKit Cd

theorem piece_list {s : ByteArray} (n : Nat) (x : Pc s) : (x.g n).data.toList = (s.data.toList.drop x.p).take n := by
  have hp := x.hp
  show ((s.extract x.p (min (x.p + n) s.size)).data).toList = _
  rw [ByteArray.data_extract, Array.toList_extract, List.extract_eq_take_drop]
  have hl : (s.data.toList.drop x.p).length = s.size - x.p := by rw [List.length_drop, Array.length_toList]; rfl
  by_cases h : x.p + n ≤ s.size
  · rw [Nat.min_eq_left h, Nat.add_sub_cancel_left]
  · rw [Nat.min_eq_right (by omega), List.take_of_length_le (by omega), List.take_of_length_le (by omega)]
theorem drop_ne {s : ByteArray} {p : Nat} : s.data.toList.drop p = [] ↔ ¬ p < s.size := by
  rw [List.drop_eq_nil_iff, Array.length_toList]
  show s.size ≤ p ↔ _
  omega
theorem al_chs (s : ByteArray) (n : Nat) : ∀ f p, (al s n f p).map (fun x => (x.g n).data.toList) = chs n f (s.data.toList.drop p)
  | 0, _ => rfl
  | f + 1, p => by
    rw [al, chs]
    by_cases h : p < s.size
    · rw [dif_pos h, if_neg (fun e => (drop_ne.1 e) h), List.map_cons, piece_list, al_chs s n f (p + n), List.drop_drop]
    · rw [dif_neg h, if_pos (drop_ne.2 h), List.map_nil]
theorem prt_enc (k : Kd) (s : ByteArray) : prt k (all s k.bs) = enc k s.data.toList := by
  have h := al_chs s k.bs s.size 0
  rw [List.drop_zero] at h
  have e : enc k s.data.toList = (chs k.bs s.size s.data.toList).flatMap (gr k) := rfl
  rw [e, ← h, List.flatMap_map]
  rfl
theorem rds_dcs (k : Kd) (hk : 1 ≤ k.wd) (s : ByteArray) : ∀ f p, s.size ≤ p + f → rds k (al s k.wd f p) = dcs k (chs k.wd f (s.data.toList.drop p))
  | 0, _, _ => rfl
  | f + 1, p, hf => by
    rw [al, chs]
    by_cases h : p < s.size
    · rw [dif_pos h, if_neg (fun e => (drop_ne.1 e) h), rds, dcs, rds_dcs k hk s f (p + k.wd) (by omega), List.drop_drop]
      have hl : (chs k.wd f (s.data.toList.drop (p + k.wd))).isEmpty = !decide (p + k.wd < s.size) := by
        by_cases h2 : p + k.wd < s.size
        · rw [decide_eq_true h2]
          obtain ⟨f', rfl⟩ : ∃ f', f = f' + 1 := ⟨f - 1, by omega⟩
          rw [chs, if_neg (fun e => (drop_ne.1 e) h2)]
          rfl
        · rw [decide_eq_false h2, drop_ne.2 h2, chs_nil]
          rfl
      unfold one
      rw [hl, piece_list]
    · rw [dif_neg h, if_pos (drop_ne.2 h)]
      rfl
theorem rds_dec (k : Kd) (hk : 1 ≤ k.wd) (s : ByteArray) : rds k (all s k.wd) = dec k s.data.toList := by
  unfold all dec
  rw [rds_dcs k hk s s.size 0 (by omega), List.drop_zero]
  rfl

/-- what Unbase and Unhex answer. -/
def und (k : Kd) (s : ByteArray) : ByteArray × Int := match dec k s.data.toList with
  | some t => (⟨t.toArray⟩, 0)
  | none => (⟨#[]⟩, 50)
set_option maxRecDepth 100000 in
theorem answer_any (k : Kd) (B : Nat) (s : ByteArray) (a : Ad) (w : World) (g : Glob a w) (hk : 1 ≤ k.wd) (H : Calls Tryz.prog 140 #[.pointer (some ⟨B, 0, none⟩), .string s] w (ReadPost k s a w)) :
    Calls Tryz.prog 136 #[.pointer (some ⟨B, 0, none⟩), .string s] w fun e w' => e = .returned (.tuple #[.string (und k s).1, .int .i64 (und k s).2]) ∧ Below w.heap.size w w' := by
  unfold ReadPost at H
  rw [rds_dec k hk s] at H
  unfold und
  cases hd : dec k s.data.toList with
  | none =>
    rw [hd] at H
    have H' := hide (H.mono (R' := fun e w' => ∃ xv, e = .returned (.tuple #[.string ⟨#[]⟩, .iface 212 xv]) ∧ IsErr a (.iface 212 xv) ∧ Below w.heap.size w w') (fun e w' ⟨hb, he⟩ => by
      rcases he with ⟨t, h1, _⟩ | ⟨_, v1, h2, h3⟩
      · cases h1
      · obtain ⟨xv, rfl⟩ := h3.form
        exact ⟨xv, h2, h3, hb⟩))
    have Hg := hide g
    clear H g hd
    go_enter Tryz.func136, Tryz.ntmps136
    go_wp2_with fail
    refine (unhide H').mono ?_
    rintro e w1 ⟨xv, rfl, he, hb⟩
    have H2 := hide (errnoOf_any _ a w1 ((unhide Hg).below (Nat.le_refl _) hb) he)
    have HB := hide hb
    clear he hb
    go_wp2_with fail
    refine (unhide H2).mono ?_
    rintro e w2 ⟨rfl, hb⟩
    have HB2 := hide hb
    clear hb
    go_wp2
    go_ret2
    exact ⟨rfl, (unhide HB).trans ((unhide HB2).mono (unhide HB).size)⟩
  | some t =>
    rw [hd] at H
    have H' := hide (H.mono (R' := fun e w' => e = .returned (.tuple #[.string ⟨t.toArray⟩, .nilIface]) ∧ Below w.heap.size w w') (fun e w' ⟨hb, he⟩ => by
      rcases he with ⟨t', h1, h2⟩ | ⟨h1, _⟩
      · cases h1; exact ⟨h2, hb⟩
      · cases h1))
    dsimp only
    generalize (⟨t.toArray⟩ : ByteArray) = u at *
    clear H g hd
    go_enter Tryz.func136, Tryz.ntmps136
    go_wp2_with fail
    refine (unhide H').mono ?_
    rintro e w1 ⟨rfl, hb⟩
    have HB := hide hb
    clear hb
    go_wp2
    go_ret2
    exact ⟨rfl, unhide HB⟩

/-- what Base and Hex answer. -/
def pri (k : Kd) (s : ByteArray) : ByteArray := ⟨(enc k s.data.toList).toArray⟩
theorem hex_any (s : ByteArray) (w : World) (hs : s.size ≤ 2000) :
    Calls Tryz.prog 28 #[.string s] w fun e w' => e = .returned (.string (pri kH s)) ∧ Below w.heap.size w w' := by
  have H := hide (hexCoder_any w)
  go_enter Tryz.func28, Tryz.ntmps28
  go_wp2_with fail
  refine (unhide H).mono ?_
  rintro e w1 ⟨rfl, hc, hb⟩
  have HP := hide (print_any kH adds_H w.heap.size s w1 (codH hc) hs (by decide) (by decide) (by decide) (by decide))
  have HB := hide hb
  clear hc hb
  go_wp2_with fail
  refine (unhide HP).mono ?_
  rintro e w2 ⟨rfl, hb⟩
  rw [prt_enc]
  have HB2 := hide hb
  clear hb
  go_wp2
  go_ret
  exact ⟨rfl, (unhide HB).trans ((unhide HB2).mono (unhide HB).size)⟩
theorem unhex_any (s : ByteArray) (a : Ad) (w : World) (g : Glob a w) (hs : s.size ≤ 2000) :
    Calls Tryz.prog 133 #[.string s] w fun e w' => e = .returned (.tuple #[.string (und kH s).1, .int .i64 (und kH s).2]) ∧ Below w.heap.size w w' := by
  have H := hide (hexCoder_any w)
  have Hg := hide g
  clear g
  go_enter Tryz.func133, Tryz.ntmps133
  go_wp2_with fail
  refine (unhide H).mono ?_
  rintro e w1 ⟨rfl, hc, hb⟩
  have gw := (unhide Hg).below (Nat.le_refl _) hb
  have HP := hide (answer_any kH w.heap.size s a w1 gw (by decide) (read_any kH tolds_H w.heap.size s a w1 gw (codH hc) hs (by decide) (by decide) (by decide) (by decide) (fun x m h => (nh_ok x m h).1)))
  have HB := hide hb
  clear hc hb gw
  go_wp2_with fail
  refine (unhide HP).mono ?_
  rintro e w2 ⟨rfl, hb⟩
  have HB2 := hide hb
  clear hb
  go_wp2
  go_ret2
  exact ⟨rfl, (unhide HB).trans ((unhide HB2).mono (unhide HB).size)⟩
end Go.Proofs.YthfcnjcpanoldaaGreatDoor.C
