/- What the document's own right of layer 8 answers for filters that compare; and Right. Conditions: none. -/
import Derived.Test.YtjhnblgamodekaaGreatDoorG38
set_option linter.unusedSimpArgs false
set_option maxHeartbeats 8000000
set_option maxRecDepth 100000
namespace Go.Proofs.YtjhnblgamodekaaGreatDoor.F
open Go Go.RowKit Go.Shelf Fp
open D (H_ un)
attribute [local go_sem] Oper.semAt_some
def bareB (v : ByteArray) (z : Nat) (f : ByteArray) : Bool := (v.toList == ([] : List UInt8)) && (((z : Int) == 0) && (f.toList == ([] : List UInt8)))
def fin (k : Int) (v : ByteArray) (z : Nat) (f : ByteArray) : Bool := if k = 7 then bareB v z f else if k = 4 then !bareB v z f else ((z : Int) == 0) && (f.toList == ([] : List UInt8))
theorem fit_doc (k : Int) (hk : k = 3 \/ k = 5 \/ k = 6 \/ k = 8 \/ k = 7 \/ k = 4) (a v f : ByteArray) (l : List ByteArray) (m : Nat) :
  fitB k a v l f m = (okName a && (decide (m = 0) && (decide (v.size <= 60) && (decide (f.size <= 60) && (decide (l.length <= 4) && (l.all okP && fin k v l.length f)))))) := by
 have h1 : l.length = 0 -> l.all okP = true := fun h => by rw [List.eq_nil_of_length_eq_zero h]; rfl
 unfold fitB fitV fitU fin bareB
 rw [<- size0, <- size0, <- len0]
 generalize okName a = b0 at *
 generalize l.all okP = b1 at *
 generalize l.length = z at *
 generalize v.size = x at *
 generalize f.size = y at *
 rcases hk with rfl | rfl | rfl | rfl | rfl | rfl <;> cases b0 <;> cases b1 <;> simp [isSet] at h1 ⊢ <;> (try rw [Bool.eq_iff_iff]) <;> (try simp) <;> omega
theorem right_doc {n : Nat} (deep : Nat) (hd : 0 < deep) (F : Fl (n + 1)) (hk : kd F = 3 \/ kd F = 5 \/ kd F = 6 \/ kd F = 8 \/ kd F = 7 \/ kd F = 4) :
  right (n + 1) deep F = (okName (nm F) && (decide ((ls F).length = 0) && (decide ((va F).size <= 60) && (decide ((fi F).size <= 60) && (decide ((an F).length <= 4) && ((an F).all okP && fin (kd F) (va F) (an F).length (fi F))))))) := by
 rw [right, decide_eq_true hd, Bool.true_and]
 unfold fitF
 rw [fit_doc _ hk]
 by_cases h : (ls F).length = 0
 ·rw [List.eq_nil_of_length_eq_zero h]; simp
 ·rw [decide_eq_false h]; simp
theorem okP_doc (x : ByteArray) : okP x = (!(x.toList == ([] : List UInt8)) && decide ((x.size : Int) <= 60)) := by
 unfold okP
 rw [<- size0, show decide ((x.size : Int) <= 60) = decide (x.size <= 60) from decide_eq_decide.2 (by omega)]
 simp
theorem refRight_val (n : Nat) (F : Fl (n + 1)) (w : World) (p : Nat -> Prop) (d : Fd) (deep : Nat) (hd1 : 0 < deep) (hd2 : deep <= 1000) (hN : FNode (n + 1) w p d F) (hk : d.k = 3 \/ d.k = 5 \/ d.k = 6 \/ d.k = 8 \/ d.k = 7 \/ d.k = 4) :
  Calls Tryz.prog 28 #[d.val, .int .i64 (deep : Int)] w fun o w' => o = .returned (.bool (right (n + 1) deep F)) /\ Below w.heap.size w w' := by
 obtain ⟨W0, hW0⟩ : ∃ W0, W0 = w.alloc d.obj := ⟨_, rfl⟩
 have hb0 : Below w.heap.size w W0 := by rw [hW0]; exact (Below.refl _ _).alloc (Nat.le_refl _) _
 have hq0 : W0.heap[w.heap.size]? = some (.cells d.cs 25 (0, 0)) := by rw [hW0]; exact World.alloc_heap_new _ _
 have hI := hN.is
 have hsl := hN.sm.ln
 have hsn := hN.sm.sn
 have hsa := hN.sm.a
 have hbr := fun W => refBare_any d W
 have hnm := fun W => refIsName_any d.a W (by rw [hI.a]; exact hsa)
 have hS := right_doc deep hd1 F (by rw [<- hI.k]; exact hk)
 rw [<- hI.k, <- hI.a, <- hI.v, <- hI.f, <- hI.ln, <- hI.sn] at hS
 have HT := H_ (hN.strs.below hb0)
 have HS := H_ hS
 have HB := H_ hb0
 have HQ := H_ hq0
 have HL := H_ hI.sn
 have HNm := H_ hnm
 have hdd : (deep : Int) <= 1000 := by omega
 have hdd1 : (1 : Int) <= deep := by omega
 have hdn : (d.sn : Int) <= 1000 := by have := hI.sn; omega
 have hdl : (d.ln : Int) <= 1000 := by have := hI.ln; omega
 have hvs : (d.v.size : Int) <= 1000 := by have := hN.sm.v; rw [<- hI.v] at this; omega
 have hfs : (d.f.size : Int) <= 1000 := by have := hN.sm.f; rw [<- hI.f] at this; omega
 have hk1 : 3 <= d.k := by omega
 have hk2 : d.k <= 8 := by omega
 obtain ⟨⟨c0, c1, c2, c3, c4, c5⟩, _⟩ := box6 hq0
 have hbb : bareB d.v d.sn d.f = bareD d := rfl
 generalize bareD d = bb at *
 generalize hbn : okName d.a = bn at *
 have HBr := H_ hbr
 clear hN hI hsl hsn hsa hbr hnm hS hb0 hq0 hbn
 obtain ⟨dk, da, dv, dsa, dsn, dsc, df, dla, dln, dlc⟩ := d
 dsimp only at *
 have hW1 := hW0.symm
 dsimp only [Fd.obj, Fd.cs] at hW1
 clear hW0
 have HE : bn = false \/ bn = true := by cases bn <;> simp
 rcases HE with rfl | rfl
 ·have HF := H_ (show right (n + 1) deep F = false from by rw [un HS]; simp)
  clear HS HT hk
  go_enter Tryz.func28, Tryz.ntmps28
  go_wp2_with fail
  refine ((un HNm) _).mono ?_
  rintro o w1 ⟨rfl, hw1⟩
  rw [hw1]
  clear hw1
  go_wp2
  go_ret
  rw [un HF]
  exact ⟨rfl, un HB⟩
 by_cases h1 : dln = 0
 case neg =>
  have h1n : (0 : Int) < dln := by omega
  have HF := H_ (show right (n + 1) deep F = false from by rw [un HS, show decide (dln = 0) = false from decide_eq_false (by omega)]; simp)
  clear HS HT hk
  go_enter Tryz.func28, Tryz.ntmps28
  go_wp2_with fail
  refine ((un HNm) _).mono ?_
  rintro o w1 ⟨rfl, hw1⟩
  rw [hw1]
  clear hw1
  go_wp2
  go_ret
  rw [un HF]
  exact ⟨rfl, un HB⟩
 have h1n : ¬ (0 : Int) < dln := by omega
 have Hh1 := H_ h1
 clear h1
 by_cases h2 : dv.size <= 60
 case neg =>
  have h2n : (60 : Int) < dv.size := by omega
  have HF := H_ (show right (n + 1) deep F = false from by rw [un HS, show decide (dv.size <= 60) = false from decide_eq_false (by omega)]; simp)
  clear HS HT hk
  go_enter Tryz.func28, Tryz.ntmps28
  go_wp2_with fail
  refine ((un HNm) _).mono ?_
  rintro o w1 ⟨rfl, hw1⟩
  rw [hw1]
  clear hw1
  go_wp2
  go_ret
  rw [un HF]
  exact ⟨rfl, un HB⟩
 have h2n : ¬ (60 : Int) < dv.size := by omega
 have Hh2 := H_ h2
 clear h2
 by_cases h3 : df.size <= 60
 case neg =>
  have h3n : (60 : Int) < df.size := by omega
  have HF := H_ (show right (n + 1) deep F = false from by rw [un HS, show decide (df.size <= 60) = false from decide_eq_false (by omega)]; simp)
  clear HS HT hk
  go_enter Tryz.func28, Tryz.ntmps28
  go_wp2_with fail
  refine ((un HNm) _).mono ?_
  rintro o w1 ⟨rfl, hw1⟩
  rw [hw1]
  clear hw1
  go_wp2
  go_ret
  rw [un HF]
  exact ⟨rfl, un HB⟩
 have h3n : ¬ (60 : Int) < df.size := by omega
 have Hh3 := H_ h3
 clear h3
 by_cases h4 : dsn <= 4
 case neg =>
  have h4n : (4 : Int) < dsn := by omega
  have HF := H_ (show right (n + 1) deep F = false from by rw [un HS, show decide (dsn <= 4) = false from decide_eq_false (by omega)]; simp)
  clear HS HT hk
  go_enter Tryz.func28, Tryz.ntmps28
  go_wp2_with fail
  refine ((un HNm) _).mono ?_
  rintro o w1 ⟨rfl, hw1⟩
  rw [hw1]
  clear hw1
  go_wp2
  go_ret
  rw [un HF]
  exact ⟨rfl, un HB⟩
 have h4n : ¬ (4 : Int) < dsn := by omega
 have Hh4 := H_ h4
 clear h4
 have hV := un HS
 rw [decide_eq_true (un Hh1), decide_eq_true (un Hh2), decide_eq_true (un Hh3), decide_eq_true (un Hh4)] at hV
 simp only [Bool.true_and] at hV
 have HV := H_ hV
 clear hV HS
 go_enter Tryz.func28, Tryz.ntmps28
 go_wp2_with fail
 refine ((un HNm) _).mono ?_
 rintro o w1 ⟨rfl, hw1⟩
 rw [hw1]
 clear hw1
 go_wp2
 go_loopw [7] (fun ix wr => ∃ j : Nat, j <= dsn /\ ix = .int .i64 (j : Int) /\ Hid (∀ (i : Nat) x, i < j -> (an F)[i]? = some x -> okP x = true) /\ Hid (Below W0.heap.size W0 wr))
  (fun ix _ => dsn - (intOf ix).toNat)
 case atStart => exact ⟨0, Nat.zero_le _, rfl, H_ (fun i x h => by omega), H_ (Below.refl _ _)⟩
 case round =>
  clear c0 c1 c2 c3 c4 c5 HNm hW1
  obtain ⟨j, hj, rfl, hpre, hb⟩ := hrel
  have hq := ((un hb).block _ (Array.getElem?_eq_some_iff.1 (un HQ)).1).trans (un HQ)
  obtain ⟨⟨c0, c1, c2, c3, c4, c5⟩, _⟩ := box6 hq
  dsimp only at c0 c1 c2 c3 c4 c5
  clear hq
  by_cases hlt : j < dsn
  ·have hltF : j < (an F).length := by have := un HL; omega
   obtain ⟨g, off, ha, u0⟩ := ((un HT).below (un hb)).at hltF
   subst ha
   have E1 := H_ (List.getElem?_eq_getElem hltF)
   generalize (an F)[j] = x at *
   have hox := okP_doc x
   have hlt1 : (j : Int) < dsn := by omega
   generalize hx0 : (x.toList == ([] : List UInt8)) = q at *
   by_cases hxs : (x.size : Int) <= 60
   ·rw [decide_eq_true hxs] at hox
    have hxn : ¬ (60 : Int) < x.size := by omega
    cases q
    ·have HJ := H_ (show okP x = true from hox)
     clear hox hk
     go_wp2
     go_roundw
     case rel =>
      refine ⟨j + 1, by omega, by simp, H_ (fun i y hi hy => ?_), hb⟩
      by_cases e : i = j
      ·subst e
       rw [un E1] at hy
       cases hy
       exact un HJ
      ·exact un hpre i y (by omega) hy
     case measure => simp [intOf]; omega
    ·have HF := H_ (show right (n + 1) deep F = false by
      rw [un HV, show (an F).all okP = false from by
       rw [List.all_eq_false]
       exact ⟨x, List.mem_of_getElem? (un E1), by rw [hox]; simp⟩]; simp)
     clear hox hk
     go_wp2
     go_ret
     rw [un HF]
     exact ⟨rfl, (un HB).trans ((un hb).mono (un HB).size)⟩
   ·rw [decide_eq_false hxs] at hox
    have hxn : (60 : Int) < x.size := by omega
    have HF := H_ (show right (n + 1) deep F = false by
     rw [un HV, show (an F).all okP = false from by
      rw [List.all_eq_false]
      exact ⟨x, List.mem_of_getElem? (un E1), by rw [hox]; simp⟩]; simp)
    clear hox hk
    cases q
    all_goals
     go_wp2
     go_ret
     rw [un HF]
     exact ⟨rfl, (un HB).trans ((un hb).mono (un HB).size)⟩
  ·have hge : ¬ (j : Int) < dsn := by omega
   have hA := all_upto (f := okP) (l := an F) fun i x hx => un hpre i x (by have := (List.getElem?_eq_some_iff.1 hx).1; have := un HL; omega) hx
   have hV := un HV
   rw [hA, Bool.true_and] at hV
   clear hpre HV hA HT HL
   generalize hz0 : ((dsn : Int) == 0) = z0 at *
   generalize hf0 : (df.toList == ([] : List UInt8)) = f0 at *
   unfold fin at hV
   rw [hz0, hf0, hbb] at hV
   clear hbb
   rcases hk with rfl | rfl | rfl | rfl | rfl | rfl
   iterate 4
    ·simp at hV
     have HV := H_ hV
     clear hV HBr
     cases z0 <;> cases f0 <;>
     ·go_wp2
      go_ret
      refine ⟨?_, (un HB).trans ((un hb).mono (un HB).size)⟩
      rw [un HV]
      rfl
   all_goals
    clear hz0 hf0
    rw [show dln = 0 from un Hh1] at HBr
    cases bb
   all_goals
    simp at hV
    have HV := H_ hV
    clear hV
    go_wp2_with fail
    refine ((un HBr) _).mono ?_
    rintro o w2 ⟨rfl, hb2⟩
    have HZ := H_ ((un hb).trans (hb2.mono (un hb).size))
    clear hb2 HBr c0 c1 c2 c3 c4 c5
    go_wp2
    go_ret
    refine ⟨?_, (un HB).trans ((un HZ).mono (un HB).size)⟩
    first | (rw [un HV]; done) | (rw [un HV]; rfl) | (rw [un HV]; simp)
end Go.Proofs.YtjhnblgamodekaaGreatDoor.F
