/- Several texts in one: FRef3, FRef4, URef1. Each says what it proves, and its conditions. -/
import Derived.Test.YtjhnblgamodekaaGreatDoorG37
set_option linter.unusedSimpArgs false
set_option maxHeartbeats 8000000
set_option maxRecDepth 100000
/-
 What the document's own IsName of layer 8 answers. Conditions: none.
-/
namespace Go.Proofs.YtjhnblgamodekaaGreatDoor.F
open Go Go.RowKit Go.Shelf Fp
open D (H_ un refIsType_any)
open Dp (isTy tyL)
attribute [local go_sem] Oper.semAt_some
def tst (b : Bool) (l : List UInt8) : Bool := if b then tyL l else opt l
def chk (b : Bool) (l : List UInt8) : Bool := match cutB 59 l with
 | none => tst b l
 | some (x, y) => tst b x && (spl 59 y).all opt
theorem chk_no {b : Bool} {l : List UInt8} (h : 59 ∉ l) : chk b l = tst b l := by
 unfold chk
 rw [(cutB_none 59 l).2 h]
theorem chk_false (l : List UInt8) : chk false l = (spl 59 l).all opt := by
 unfold chk
 rw [spl_cut]
 cases cutB 59 l with
 | none => simp [tst]
 | some q => simp [tst]
theorem chk_at {b : Bool} {x y : List UInt8} (h : 59 ∉ x) : chk b (x ++ 59 :: y) = (tst b x && chk false y) := by
 rw [chk_false]
 unfold chk
 rw [cutB_at 59 x y h]
theorem nmL_chk (l : List UInt8) : nmL l = (decide (l.length <= 30) && chk true l) := by
 unfold nmL chk
 cases cutB 59 l with
 | none => rfl
 | some q => rfl
theorem drop_split {l : List UInt8} {fr i : Nat} (hf : fr <= i) (hi : i < l.length) : l.drop fr = (l.take i).drop fr ++ l[i] :: l.drop (i + 1) := by
 have h1 : l = l.take i ++ (l[i] :: l.drop (i + 1)) := by rw [<- List.drop_eq_getElem_cons hi, List.take_append_drop]
 have h2 := congrArg (List.drop fr) h1
 rw [List.drop_append_of_le_length (by rw [List.length_take]; omega)] at h2
 exact h2
structure Ni (s : ByteArray) (fr i n : Nat) (r : Bool) : Prop where
 z : n = 0 -> fr = 0
 no : 59 ∉ (s.data.toList.take i).drop fr
 eq : chk (decide (n = 0)) (s.data.toList.drop fr) = r
theorem Ni.step {s : ByteArray} {fr i n : Nat} {r : Bool} (h : Ni s fr i n r) (hf : fr <= i) (hi : i < s.size) (hy : s[i] ≠ 59) : Ni s fr (i + 1) n r := by
 refine ⟨h.z, fun hm => ?_, h.eq⟩
 have hll : i < s.data.toList.length := by rw [Array.length_toList]; exact hi
 rw [List.take_succ_eq_append_getElem hll, List.drop_append_of_le_length (by rw [List.length_take]; omega)] at hm
 rcases List.mem_append.1 hm with hm | hm
 ·exact h.no hm
 ·simp at hm
  exact hy hm.symm
theorem Ni.cut {s : ByteArray} {fr i n : Nat} {r : Bool} (h : Ni s fr i n r) (hf : fr <= i) (hi : i < s.size) (hy : s[i] = 59) : r = (tst (decide (n = 0)) ((s.data.toList.take i).drop fr) && chk false (s.data.toList.drop (i + 1))) := by
 have hll : i < s.data.toList.length := by rw [Array.length_toList]; exact hi
 rw [<- h.eq, drop_split hf hll, show s.data.toList[i] = 59 from hy, chk_at h.no]
theorem Ni.next {s : ByteArray} {fr i n : Nat} {r : Bool} (h : Ni s fr i n r) (hf : fr <= i) (hi : i < s.size) (hy : s[i] = 59) (ht : tst (decide (n = 0)) ((s.data.toList.take i).drop fr) = true) : Ni s (i + 1) (i + 1) (n + 1) r := by
 refine ⟨fun e => by omega, ?_, ?_⟩
 ·rw [List.drop_eq_nil_of_le (by rw [List.length_take]; omega)]; simp
 ·rw [h.cut hf hi hy, ht, Bool.true_and]
  simp
theorem Ni.end {s : ByteArray} {fr i n : Nat} {r : Bool} (h : Ni s fr i n r) (hi : i = s.size) : r = tst (decide (n = 0)) ((s.data.toList.take i).drop fr) := by
 have hl : s.data.toList.length = s.size := Array.length_toList
 have hno := h.no
 rw [List.take_of_length_le (by omega)] at hno ⊢
 rw [<- h.eq, chk_no hno]
theorem ext_data (s : ByteArray) (a b : Nat) : (s.extract a b).data.toList = (s.data.toList.take b).drop a := by
 rw [ByteArray.data_extract, Array.toList_extract]
 simp [List.extract, List.take_drop]
 rcases Nat.lt_or_ge a b with h | h
 ·rw [show a + (b - a) = b by omega]
 ·rw [show b - a = 0 by omega]
  simp
  omega
theorem ext_sizeR (s : ByteArray) (a b : Nat) : (s.extract a b).size <= s.size := by
 rw [ByteArray.size_extract]; omega
theorem refIsName_any (s : ByteArray) (w : World) (hs : s.size <= 2000) :
  Calls Tryz.prog 19 #[.string s] w fun e w' => e = .returned (.bool (okName s)) /\ w' = w := by
 have HT := H_ fun x W (h : ByteArray.size x <= 2000) => refIsType_any x W h
 have HO := H_ fun x W (h : ByteArray.size x <= 2000) => refOption_any x W h
 have hl : s.data.toList.length = s.size := Array.length_toList
 obtain ⟨r, hr⟩ : ∃ r, chk true s.data.toList = r := ⟨_, rfl⟩
 have hR : okName s = (decide (s.size <= 30) && r) := by
  show nmL _ = _
  rw [nmL_chk, hl, hr]
 rw [hR]
 have h0 := H_ (show Ni s 0 0 0 r from ⟨fun _ => rfl, by simp, by rw [List.drop_zero]; simpa using hr⟩)
 clear hR hr hl
 go_enter Tryz.func19, Tryz.ntmps19
 go_wp2
 go_loopw [3, 4, 5] (fun f p ix wr => ∃ fr n i : Nat, f = .int .i64 (fr : Int) /\ p = .int .i64 (n : Int) /\ ix = .int .i64 (i : Int) /\ n <= i /\ i <= s.size + 1 /\ fr <= i /\ ((i <= s.size /\ Hid (Ni s fr i n r)) \/ (i = s.size + 1 /\ Hid (r = true))) /\ wr = w)
  (fun _ _ ix _ => s.size + 1 - (intOf ix).toNat)
 case atStart => exact ⟨0, 0, 0, rfl, rfl, rfl, Nat.le_refl _, Nat.zero_le _, Nat.le_refl _, .inl ⟨Nat.zero_le _, h0⟩, rfl⟩
 case round =>
  obtain ⟨fr, n, i, rfl, rfl, rfl, hni, his, hfi, hO, rfl⟩ := hrel
  clear h0
  have hi' : (i : Int) <= 2001 := by omega
  have hn' : (n : Int) <= 2001 := by omega
  have hf' : (fr : Int) <= 2001 := by omega
  rcases hO with ⟨hle, hO⟩ | ⟨heq, hre⟩
  ·have hle' : (i : Int) <= s.size := by omega
   have hx1 := ext_sizeR s 0 i
   have hx2 := ext_sizeR s fr i
   have hx3 : (fr : Int) <= i := by omega
   have hty : ∀ W, Calls Tryz.prog 34 #[.string (s.extract 0 i)] W fun e w' => e = .returned (.bool (tyL ((s.data.toList.take i).drop 0))) /\ w' = W := fun W => by
    rw [<- ext_data]; exact (un HT) _ W (by omega)
   have hop : ∀ W, Calls Tryz.prog 35 #[.string (s.extract fr i)] W fun e w' => e = .returned (.bool (opt ((s.data.toList.take i).drop fr))) /\ w' = W := fun W => by
    rw [<- ext_data]; exact (un HO) _ W (by omega)
   by_cases hlt : i < s.size
   ·have hlt' : (i : Int) < s.size := by omega
    obtain ⟨y, hy⟩ : ∃ y, s[i] = y := ⟨_, rfl⟩
    by_cases hp : y = 59
    ·have hpe : ((y.toNat : Int) != 59) = false := by rw [hp]; rfl
     rcases Nat.eq_zero_or_pos n with hn0 | hn0
     ·skip
      subst hn0
      obtain rfl : fr = 0 := (un hO).z rfl
      have HC := H_ hty
      have hE := (un hO).cut hfi hlt (by rw [hy, hp])
      have hN := (un hO).next hfi hlt (by rw [hy, hp])
      rw [show decide (0 = 0) = true from rfl] at hE hN
      have hT : tst true ((s.data.toList.take i).drop 0) = tyL ((s.data.toList.take i).drop 0) := rfl
      rw [hT] at hE hN
      clear hT hty hop
      generalize tyL ((s.data.toList.take i).drop 0) = bb at *
      cases bb
      ·obtain rfl : r = false := hE.trans rfl
       clear hE hO HT HO hN
       go_wp2_with fail
       refine ((un HC) _).mono ?_
       rintro e w1 ⟨rfl, rfl⟩
       go_wp2
       go_ret
       exact ⟨by simp, rfl⟩
      ·have hnx := H_ (hN rfl)
       clear hE hN hO HT HO
       go_wp2_with fail
       refine ((un HC) _).mono ?_
       rintro e w1 ⟨rfl, rfl⟩
       go_wp2
       go_roundw
       case rel => exact ⟨i + 1, 0 + 1, i + 1, by simp, by simp, by simp, by omega, by omega, by omega, .inl ⟨by omega, hnx⟩, by first | rfl | trivial⟩
       case measure => first | (simp [intOf]; done) | (simp [intOf]; omega)
     ·skip
      have hz1 : ((n : Int) == 0) = false := by rw [beq_eq_false_iff_ne]; omega
      have hz2 : (0 : Int) < n := by omega
      have HC := H_ hop
      have hE := (un hO).cut hfi hlt (by rw [hy, hp])
      have hN := (un hO).next hfi hlt (by rw [hy, hp])
      rw [show decide (n = 0) = false from decide_eq_false (by omega)] at hE hN
      have hT : tst false ((s.data.toList.take i).drop fr) = opt ((s.data.toList.take i).drop fr) := rfl
      rw [hT] at hE hN
      clear hT hty hop
      generalize opt ((s.data.toList.take i).drop fr) = bb at *
      cases bb
      ·obtain rfl : r = false := hE.trans rfl
       clear hE hO HT HO hN
       go_wp2_with fail
       refine ((un HC) _).mono ?_
       rintro e w1 ⟨rfl, rfl⟩
       go_wp2
       go_ret
       exact ⟨by simp, rfl⟩
      ·have hnx := H_ (hN rfl)
       clear hE hN hO HT HO
       go_wp2_with fail
       refine ((un HC) _).mono ?_
       rintro e w1 ⟨rfl, rfl⟩
       go_wp2
       go_roundw
       case rel => exact ⟨i + 1, n + 1, i + 1, by simp, by simp, by simp, by omega, by omega, by omega, .inl ⟨by omega, hnx⟩, by first | rfl | trivial⟩
       case measure => first | (simp [intOf]; done) | (simp [intOf]; omega)
    ·have hpe : ((y.toNat : Int) != 59) = true := by
      rw [bne_iff_ne]
      exact fun e => hp (UInt8.toNat_inj.1 (by show y.toNat = 59; omega))
     have hnx := H_ ((un hO).step hfi hlt (by rw [hy]; exact hp))
     clear hp hO hty hop HT HO
     go_wp2
     go_roundw
     case rel => exact ⟨fr, n, i + 1, rfl, rfl, by simp, by omega, by omega, by omega, .inl ⟨by omega, hnx⟩, by first | rfl | trivial⟩
     case measure => first | (simp [intOf]; done) | (simp [intOf]; omega)
   ·have hge : ¬ (i : Int) < s.size := by omega
    rcases Nat.eq_zero_or_pos n with hn0 | hn0
    ·skip
     subst hn0
     obtain rfl : fr = 0 := (un hO).z rfl
     have HC := H_ hty
     have hE := (un hO).end (by omega)
     rw [show decide (0 = 0) = true from rfl] at hE
     have hT : tst true ((s.data.toList.take i).drop 0) = tyL ((s.data.toList.take i).drop 0) := rfl
     rw [hT] at hE
     clear hT hty hop
     generalize tyL ((s.data.toList.take i).drop 0) = bb at *
     cases bb
     ·obtain rfl : r = false := hE.trans rfl
      clear hE hO HT HO
      go_wp2_with fail
      refine ((un HC) _).mono ?_
      rintro e w1 ⟨rfl, rfl⟩
      go_wp2
      go_ret
      exact ⟨by simp, rfl⟩
     ·have hre := H_ (show r = true from hE)
      clear hE hO HT HO
      go_wp2_with fail
      refine ((un HC) _).mono ?_
      rintro e w1 ⟨rfl, rfl⟩
      go_wp2
      go_roundw
      case rel => exact ⟨i + 1, 0 + 1, i + 1, by simp, by simp, by simp, by omega, by omega, by omega, .inr ⟨by omega, hre⟩, by first | rfl | trivial⟩
      case measure => first | (simp [intOf]; done) | (simp [intOf]; omega)
    ·skip
     have hz1 : ((n : Int) == 0) = false := by rw [beq_eq_false_iff_ne]; omega
     have hz2 : (0 : Int) < n := by omega
     have HC := H_ hop
     have hE := (un hO).end (by omega)
     rw [show decide (n = 0) = false from decide_eq_false (by omega)] at hE
     have hT : tst false ((s.data.toList.take i).drop fr) = opt ((s.data.toList.take i).drop fr) := rfl
     rw [hT] at hE
     clear hT hty hop
     generalize opt ((s.data.toList.take i).drop fr) = bb at *
     cases bb
     ·obtain rfl : r = false := hE.trans rfl
      clear hE hO HT HO
      go_wp2_with fail
      refine ((un HC) _).mono ?_
      rintro e w1 ⟨rfl, rfl⟩
      go_wp2
      go_ret
      exact ⟨by simp, rfl⟩
     ·have hre := H_ (show r = true from hE)
      clear hE hO HT HO
      go_wp2_with fail
      refine ((un HC) _).mono ?_
      rintro e w1 ⟨rfl, rfl⟩
      go_wp2
      go_roundw
      case rel => exact ⟨i + 1, n + 1, i + 1, by simp, by simp, by simp, by omega, by omega, by omega, .inr ⟨by omega, hre⟩, by first | rfl | trivial⟩
      case measure => first | (simp [intOf]; done) | (simp [intOf]; omega)
  ·obtain rfl : r = true := un hre
   have hge : ¬ (i : Int) <= s.size := by omega
   clear hre HT HO
   go_wp2
   go_ret
   refine ⟨?_, rfl⟩
   rw [show decide (s.size <= 30) = decide ((s.size : Int) <= 30) from decide_eq_decide.2 (by omega)]
   rfl
end Go.Proofs.YtjhnblgamodekaaGreatDoor.F
/-
 What the document's own bare of layer 8 answers, and right for filters that have others in them. Conditions: none.
-/
namespace Go.Proofs.YtjhnblgamodekaaGreatDoor.F
open Go Go.RowKit Go.Shelf Fp
open D (H_ un)
attribute [local go_sem] Oper.semAt_some
def bareD (d : Fd) : Bool := (d.v.toList == ([] : List UInt8)) && (((d.sn : Int) == 0) && (d.f.toList == ([] : List UInt8)))
theorem refBare_any (d : Fd) (w : World) :
  Calls Tryz.prog 50 #[d.val] w fun e w' => e = .returned (.bool (bareD d)) /\ Below w.heap.size w w' := by
 obtain ⟨dk, da, dv, dsa, dsn, dsc, df, dla, dln, dlc⟩ := d
 unfold bareD
 dsimp only
 generalize h1 : (dv.toList == ([] : List UInt8)) = b1
 generalize h2 : ((dsn : Int) == 0) = b2
 generalize h3 : (df.toList == ([] : List UInt8)) = b3
 have hb0 := H_ ((Below.refl w.heap.size w).alloc (Nat.le_refl _) (Fd.obj ⟨dk, da, dv, dsa, dsn, dsc, df, dla, dln, dlc⟩))
 cases b1 <;> cases b2 <;> cases b3 <;>
 ·go_enter Tryz.func50, Tryz.ntmps50
  go_wp2
  go_ret
  exact ⟨rfl, un hb0⟩
def RRight (n : Nat) : Prop := ∀ (F : Fl n) (w : World) (p : Nat -> Prop) (d : Fd) (deep : Nat), deep <= 1000 -> FNode n w p d F ->
 Calls Tryz.prog 28 #[d.val, .int .i64 (deep : Int)] w fun o w' => o = .returned (.bool (right n deep F)) /\ Below w.heap.size w w'
theorem fitS_bare (k : Int) (a v f : ByteArray) (l : List ByteArray) (m : Nat) : fitS k a v l f m = ((a.toList == ([] : List UInt8)) && ((v.toList == ([] : List UInt8)) && (((l.length : Int) == 0) && (f.toList == ([] : List UInt8)))) && (decide (1 <= m) && (decide (m <= 8) && (decide (k ≠ 2) || decide (m = 1))))) := by
 unfold fitS
 rw [size0, size0, size0, len0]
 generalize (a.toList == ([] : List UInt8)) = b1
 generalize (v.toList == ([] : List UInt8)) = b2
 generalize (f.toList == ([] : List UInt8)) = b3
 generalize ((l.length : Int) == 0) = b4
 rw [Bool.eq_iff_iff]
 simp only [Bool.and_eq_true, Bool.or_eq_true, decide_eq_true_eq]
 by_cases hk : k = 2
 ·rw [if_pos hk]
  constructor
  ·rintro ⟨⟨⟨h1, h2⟩, h3, h4⟩, h5, h6⟩
   exact ⟨⟨h3, h4, h5, h6⟩, by omega, by omega, .inr (by omega)⟩
  ·rintro ⟨⟨h3, h4, h5, h6⟩, h1, h2, h7⟩
   exact ⟨⟨⟨by omega, by omega⟩, h3, h4⟩, h5, h6⟩
 ·rw [if_neg hk]
  constructor
  ·rintro ⟨⟨⟨h1, h2⟩, h3, h4⟩, h5, h6⟩
   exact ⟨⟨h3, h4, h5, h6⟩, by omega, by omega, .inl hk⟩
  ·rintro ⟨⟨h3, h4, h5, h6⟩, h1, h2, h7⟩
   exact ⟨⟨⟨by omega, by omega⟩, h3, h4⟩, h5, h6⟩
theorem all_upto {α : Type} {f : α -> Bool} {l : List α} (h : ∀ (i : Nat) (x : α), l[i]? = some x -> f x = true) : l.all f = true := by
 rw [List.all_eq_true]
 intro x hx
 obtain ⟨i, hi, rfl⟩ := List.getElem_of_mem hx
 exact h i _ (List.getElem?_eq_getElem hi)
theorem refRight_set (n : Nat) (ih : RRight n) (F : Fl (n + 1)) (w : World) (p : Nat -> Prop) (d : Fd) (deep : Nat) (hd1 : 0 < deep) (hd2 : deep <= 1000) (hN : FNode (n + 1) w p d F) (hk1 : 0 <= d.k) (hk2 : d.k <= 2) :
  Calls Tryz.prog 28 #[d.val, .int .i64 (deep : Int)] w fun o w' => o = .returned (.bool (right (n + 1) deep F)) /\ Below w.heap.size w w' := by
 obtain ⟨W0, hW0⟩ : ∃ W0, W0 = w.alloc d.obj := ⟨_, rfl⟩
 have hb0 : Below w.heap.size w W0 := by rw [hW0]; exact (Below.refl _ _).alloc (Nat.le_refl _) _
 have hq0 : W0.heap[w.heap.size]? = some (.cells d.cs 25 (0, 0)) := by rw [hW0]; exact World.alloc_heap_new _ _
 have hI := hN.is
 have hsl := hN.sm.ln
 have hbr := fun W => refBare_any d W
 have hkk : d.k = 0 \/ d.k = 1 \/ d.k = 2 := by omega
 have hset : isSet d.k = true := by rcases hkk with h | h | h <;> rw [h] <;> rfl
 have hS : right (n + 1) deep F = ((d.a.toList == ([] : List UInt8)) && bareD d && (decide (1 <= d.ln) && (decide (d.ln <= 8) && (decide (d.k ≠ 2) || decide (d.ln = 1)))) && (ls F).all (right n (deep - 1))) := by
  rw [right, decide_eq_true hd1, Bool.true_and]
  unfold fitF fitB
  rw [<- hI.k, if_pos hset, fitS_bare, <- hI.a, <- hI.v, <- hI.f, <- hI.ln, <- hI.sn]
  rfl
 have hNb := hN.below hb0
 have HN := H_ hNb
 have HS := H_ hS
 have HB := H_ hb0
 have HQ := H_ hq0
 have HI := H_ ih
 have HL := H_ (And.intro hI.ln hsl)
 have HBr := H_ hbr
 have hdd : (deep : Int) <= 1000 := by omega
 have hdd1 : (1 : Int) <= deep := by omega
 have HD := H_ (show ((deep - 1 : Nat) : Int) = (deep : Int) - 1 by omega)
 have hdl : (d.ln : Int) <= 1000 := by have := hI.ln; omega
 obtain ⟨⟨c0, c1, c2, c3, c4, c5⟩, _⟩ := box6 hq0
 generalize hbb : bareD d = bb at *
 clear hN hI hsl hbr hset hS hNb hb0 hq0 ih hbb
 obtain ⟨dk, da, dv, dsa, dsn, dsc, df, dla, dln, dlc⟩ := d
 dsimp only at *
 have hW1 := hW0.symm
 dsimp only [Fd.obj, Fd.cs] at hW1
 clear hW0
 generalize hda : (da.toList == ([] : List UInt8)) = b1 at *
 go_enter Tryz.func28, Tryz.ntmps28
 go_wp2
 go_loopw [5] (fun ix wr => ∃ j : Nat, j <= dln /\ ix = .int .i64 (j : Int) /\ Hid (∀ i x, i < j -> (ls F)[i]? = some x -> right n (deep - 1) x = true) /\ Hid (Below W0.heap.size W0 wr))
  (fun ix _ => dln - (intOf ix).toNat)
 case atStart => exact ⟨0, Nat.zero_le _, rfl, H_ (fun i x h => by omega), H_ (Below.refl _ _)⟩
 case round =>
  clear c0 c1 c2 c3 c4 c5
  obtain ⟨j, hj, rfl, hpre, hb⟩ := hrel
  have hq := ((un hb).block _ (Array.getElem?_eq_some_iff.1 (un HQ)).1).trans (un HQ)
  obtain ⟨⟨c0, c1, c2, c3, c4, c5⟩, _⟩ := box6 hq
  dsimp only at c0 c1 c2 c3 c4 c5
  by_cases hlt : j < dln
  ·have hltF : j < (ls F).length := by have := (un HL).1; omega
   obtain ⟨g, off, ha⟩ := (un HN).kids
   have ha := ha.resolve_right (fun e => by rw [e] at hltF; cases hltF)
   obtain ⟨⟨k1, a1, v1, sa1, sn1, sc1, f1, la1, ln1, lc1⟩, ⟨u0, u1, u2, u3, u4, u5⟩, hN1⟩ := ((un HN).below (un hb)).kid ha hltF
   dsimp only at ha u0 u1 u2 u3 u4 u5
   subst ha
   have hC := (un HI) (ls F)[j] wr _ _ (deep - 1) (by omega) hN1
   rw [un HD] at hC
   have E1 := H_ (List.getElem?_eq_getElem hltF)
   generalize (ls F)[j] = Fj at *
   obtain ⟨bj, hbj⟩ : ∃ b, right n (deep - 1) Fj = b := ⟨_, rfl⟩
   rw [hbj] at hC
   have HJ := H_ hbj
   have HC := H_ hC
   have hlt1 : (j : Int) < dln := by omega
   clear hN1 hC hbj hq HI
   go_wp2_with fail
   refine (un HC).mono ?_
   rintro o w2 ⟨rfl, hb2⟩
   have HZ := H_ ((un hb).trans (hb2.mono (un hb).size))
   clear hb2 HC u0 u1 u2 u3 u4 u5 c0 c1 c2 c3 c4 c5
   cases bj
   ·have HF := H_ (show right (n + 1) deep F = false by
     rw [un HS, show (ls F).all (right n (deep - 1)) = false from by
      rw [List.all_eq_false]
      exact ⟨Fj, List.mem_of_getElem? (un E1), by rw [un HJ]; simp⟩, Bool.and_false])
    go_wp2
    go_ret
    rw [un HF]
    exact ⟨rfl, (un HB).trans ((un HZ).mono (un HB).size)⟩
   ·skip
    go_wp2
    go_roundw
    case rel =>
     refine ⟨j + 1, by omega, by simp, H_ (fun i x hi hx => ?_), HZ⟩
     by_cases e : i = j
     ·subst e
      rw [un E1] at hx
      cases hx
      exact un HJ
     ·exact un hpre i x (by omega) hx
    case measure => simp [intOf]; omega
  ·have hge : ¬ (j : Int) < dln := by omega
   have HA := H_ (all_upto (f := right n (deep - 1)) fun i x hx => un hpre i x (by have := (List.getElem?_eq_some_iff.1 hx).1; have := (un HL).1; omega) hx)
   clear hpre hq
   cases b1
   ·clear HBr
    go_wp2
    go_ret
    refine ⟨?_, (un HB).trans ((un hb).mono (un HB).size)⟩
    rw [un HS]
    rfl
   ·skip
    cases bb
    ·go_wp2_with fail
     refine ((un HBr) _).mono ?_
     rintro o w2 ⟨rfl, hb2⟩
     have HZ := H_ ((un hb).trans (hb2.mono (un hb).size))
     clear hb2 HBr c0 c1 c2 c3 c4 c5
     go_wp2
     go_ret
     refine ⟨?_, (un HB).trans ((un HZ).mono (un HB).size)⟩
     rw [un HS]
     rfl
    ·skip
     go_wp2_with fail
     refine ((un HBr) _).mono ?_
     rintro o w2 ⟨rfl, hb2⟩
     have HZ := H_ ((un hb).trans (hb2.mono (un hb).size))
     have hq2 := ((un HZ).block _ (Array.getElem?_eq_some_iff.1 (un HQ)).1).trans (un HQ)
     obtain ⟨⟨x0, _, _, _, _, _⟩, _⟩ := box6 hq2
     dsimp only at x0
     clear hb2 HBr c0 c1 c2 c3 c4 c5 hq2
     have hV := un HS
     rw [un HA] at hV
     clear HS HA
     rw [show decide (1 <= dln) = decide ((1 : Int) <= dln) from decide_eq_decide.2 (by omega), show decide (dln <= 8) = decide ((dln : Int) <= 8) from decide_eq_decide.2 (by omega), show decide (dk ≠ 2) = (dk != 2) from by rw [Bool.eq_iff_iff]; simp, show decide (dln = 1) = ((dln : Int) == 1) from by rw [Bool.eq_iff_iff]; simp; omega] at hV
     generalize hq2 : (dk != 2) = q2 at *
     generalize hq11 : ((dln : Int) == 1) = q11 at *
     by_cases h1 : (1 : Int) <= dln <;> by_cases h8 : (dln : Int) <= 8 <;> cases q2 <;> cases q11
     all_goals try (exfalso; simp at hq11; omega)
     all_goals
      simp only [h1, h8, decide_true, decide_false, Bool.true_and, Bool.and_true, Bool.true_or, Bool.or_true, Bool.false_or, Bool.or_false, Bool.false_and, Bool.and_false] at hV
      have HV := H_ hV
      clear hV
      go_wp2
      go_ret
      refine ⟨?_, (un HB).trans ((un HZ).mono (un HB).size)⟩
      first | (rw [un HV]; done) | (rw [un HV]; rfl)
end Go.Proofs.YtjhnblgamodekaaGreatDoor.F
/-
 What the document's own answers of layer 4 say: sign, Bytes, one. Conditions: none.
-/
namespace Go.Proofs.YtjhnblgamodekaaGreatDoor.U
open Go Go.RowKit
theorem refSign_any (n : Int) (w : World) :
  Calls Tryz.prog 155 #[.int .i64 n] w fun e w' => e = .returned (.bool (isg n)) /\ w' = w := by
 unfold isg
 by_cases a : 0 <= n
 ·by_cases c : n <= 1114111
  ·by_cases d : n < 55296
   ·rw [decide_eq_true ⟨a, c, .inl d⟩]
    go_enter Tryz.func155, Tryz.ntmps155
    go_wp2
    go_ret
    exact ⟨rfl, rfl⟩
   ·by_cases f : 57343 < n
    ·rw [decide_eq_true ⟨a, c, .inr (by omega)⟩]
     go_enter Tryz.func155, Tryz.ntmps155
     go_wp2
     go_ret
     exact ⟨rfl, rfl⟩
    ·rw [decide_eq_false (by omega)]
     go_enter Tryz.func155, Tryz.ntmps155
     go_wp2
     go_ret
     exact ⟨rfl, rfl⟩
  ·rw [decide_eq_false (by omega)]
   go_enter Tryz.func155, Tryz.ntmps155
   go_wp2
   go_ret
   exact ⟨rfl, rfl⟩
 ·rw [decide_eq_false (by omega)]
  go_enter Tryz.func155, Tryz.ntmps155
  go_wp2
  go_ret
  exact ⟨rfl, rfl⟩
theorem convL (W : World) (l : List UInt8) (b k : Nat) (cs : Array Value) (hb : W.heap.size = b) (hk : l.length = k) (hc : (cells l).toArray = cs) :
  (convert 113 9 (.slice (some ⟨b, 0, none⟩) k k)).run Tryz.prog (W.alloc (.cells cs 5)) = .ok (.string ⟨l.toArray⟩) (W.alloc (.cells cs 5)) := by
 subst hk
 subst hc
 subst hb
 rw [<- nums_str]
 refine run_convert_bytes_arg _ _ _ Tryz.underlying113 Tryz.underlying5 W.heap.size 0 l.length l.length (l.map fun x => (x.toNat : Int)) (by simp) (fun i hi => ?_) _ Tryz.underlying9
 rw [World.cell?_alloc_at _ _ _ _ rfl, Nat.zero_add]
 simp [cells, List.getD_eq_getElem?_getD, List.getElem?_eq_getElem hi]
abbrev str (l : List UInt8) : ByteArray := ⟨l.toArray⟩
theorem refBytes_any (n : Nat) (w : World) (h : n <= 1114111) :
  Calls Tryz.prog 156 #[.int .i64 n] w fun e w' => e = .returned (.string (str (Ut.enc n))) /\ Below w.heap.size w w' := by
 by_cases h1 : n < 128
 ·have hl : (cells (Ut.enc n)).toArray = #[.int .u8 n] := by
   unfold Ut.enc
   rw [if_pos h1]
   simp only [cells, List.map_cons, List.map_nil, Ut.bn n (by omega)]
  have k1 := fun W b hb => convL W (Ut.enc n) b 1 _ hb (by rw [Ut.enc_length, if_pos h1]) hl
  have d1 : (n : Int) < 128 := by omega
  clear hl
  go_enter Tryz.func156, Tryz.ntmps156
  go_wp2
  go_ret
  exact ⟨rfl, (Below.refl _ _).alloc (Nat.le_refl _) _⟩
 by_cases h2 : n < 2048
 ·have hl : (cells (Ut.enc n)).toArray = #[.int .u8 (192 + (n : Int) / 64), .int .u8 (128 + (n : Int) % 64)] := by
   unfold Ut.enc
   rw [if_neg (by omega), if_pos h2]
   simp only [cells, List.map_cons, List.map_nil, Ut.bn _ (show 192 + n / 64 < 256 by omega), Ut.bn _ (show 128 + n % 64 < 256 by omega)]
   rfl
  have k1 := fun W b hb => convL W (Ut.enc n) b 2 _ hb (by rw [Ut.enc_length, if_neg h1, if_pos h2]) hl
  have d1 : decide ((n : Int) < 128) = false := decide_eq_false (by omega)
  have d2 : decide ((n : Int) < 2048) = true := decide_eq_true (by omega)
  have d3 : (192 + (n : Int) / 64) % 256 = 192 + n / 64 := by omega
  have hn : (n : Int) <= 1114111 := by omega
  clear hl
  go_enter Tryz.func156, Tryz.ntmps156
  go_wp2
  go_ret
  exact ⟨rfl, (Below.refl _ _).alloc (Nat.le_refl _) _⟩
 by_cases h3 : n < 65536
 ·have hl : (cells (Ut.enc n)).toArray = #[.int .u8 (224 + (n : Int) / 4096), .int .u8 (128 + (n : Int) / 64 % 64), .int .u8 (128 + (n : Int) % 64)] := by
   unfold Ut.enc
   rw [if_neg (by omega), if_neg (by omega), if_pos h3]
   simp only [cells, List.map_cons, List.map_nil, Ut.bn _ (show 224 + n / 4096 < 256 by omega), Ut.bn _ (show 128 + n / 64 % 64 < 256 by omega), Ut.bn _ (show 128 + n % 64 < 256 by omega)]
   rfl
  have k1 := fun W b hb => convL W (Ut.enc n) b 3 _ hb (by rw [Ut.enc_length, if_neg h1, if_neg h2, if_pos h3]) hl
  have d1 : decide ((n : Int) < 128) = false := decide_eq_false (by omega)
  have d2 : decide ((n : Int) < 2048) = false := decide_eq_false (by omega)
  have d3 : decide ((n : Int) < 65536) = true := decide_eq_true (by omega)
  have d4 : (224 + (n : Int) / 4096) % 256 = 224 + n / 4096 := by omega
  have hn : (n : Int) <= 1114111 := by omega
  clear hl
  go_enter Tryz.func156, Tryz.ntmps156
  go_wp2
  go_ret
  exact ⟨rfl, (Below.refl _ _).alloc (Nat.le_refl _) _⟩
 ·have hl : (cells (Ut.enc n)).toArray = #[.int .u8 (240 + (n : Int) / 262144), .int .u8 (128 + (n : Int) / 4096 % 64), .int .u8 (128 + (n : Int) / 64 % 64), .int .u8 (128 + (n : Int) % 64)] := by
   unfold Ut.enc
   rw [if_neg (by omega), if_neg (by omega), if_neg (by omega)]
   simp only [cells, List.map_cons, List.map_nil, Ut.bn _ (show 240 + n / 262144 < 256 by omega), Ut.bn _ (show 128 + n / 4096 % 64 < 256 by omega), Ut.bn _ (show 128 + n / 64 % 64 < 256 by omega), Ut.bn _ (show 128 + n % 64 < 256 by omega)]
   rfl
  have k1 := fun W b hb => convL W (Ut.enc n) b 4 _ hb (by rw [Ut.enc_length, if_neg h1, if_neg h2, if_neg h3]) hl
  have d1 : decide ((n : Int) < 128) = false := decide_eq_false (by omega)
  have d2 : decide ((n : Int) < 2048) = false := decide_eq_false (by omega)
  have d3 : decide ((n : Int) < 65536) = false := decide_eq_false (by omega)
  have d4 : (240 + (n : Int) / 262144) % 256 = 240 + n / 262144 := by omega
  have hn : (n : Int) <= 1114111 := by omega
  clear hl
  go_enter Tryz.func156, Tryz.ntmps156
  go_wp2
  go_ret
  exact ⟨rfl, (Below.refl _ _).alloc (Nat.le_refl _) _⟩
end Go.Proofs.YtjhnblgamodekaaGreatDoor.U
