/- Several texts in one: FRef8, FRef9. Each says what it proves, and its conditions. -/
import Derived.Test.YtjhnblgamodekaaGreatDoorG44
set_option linter.unusedSimpArgs false
set_option linter.unusedVariables false
set_option maxHeartbeats 8000000
set_option maxRecDepth 100000
/-
 What the document's own text of layer 8 answers for filters that compare; text and Print for every filter. Conditions: none.
-/
namespace Go.Proofs.YtjhnblgamodekaaGreatDoor.F
open Go Go.RowKit Go.Shelf Fp
open D (H_ un)
open Dp (jn)
open E (pri)
attribute [local go_sem] Oper.semAt_some
def pst (x : ByteArray) : List UInt8 := pv x ++ [42]
theorem jn_stars (b : List UInt8) : ∀ (xs : List ByteArray) (a : List UInt8), jn 42 (a :: (xs.map pv ++ [b])) = a ++ 42 :: ((xs.map pst).flatten ++ b)
 | [], a => by rw [List.map_nil, List.nil_append, Dp.jn_cons, Dp.jn_one]; rfl
 | x :: xs, a => by
  rw [List.map_cons, List.cons_append, Dp.jn_cons, jn_stars b xs (pv x), List.map_cons, List.flatten_cons]
  simp [pst]
theorem pieces_stars (v : ByteArray) (xs : List ByteArray) (f : ByteArray) : Fp.pieces v xs f = pv v ++ 42 :: ((xs.map pst).flatten ++ pv f) := jn_stars (pv f) xs (pv v)
theorem right_fit {n kk : Nat} {F : Fl (n + 1)} (h : right (n + 1) kk F = true) : fitF F = true := by
 rw [right] at h
 simp only [Bool.and_eq_true] at h
 exact h.1.2
theorem leaf_ls {n : Nat} {F : Fl (n + 1)} (h : fitF F = true) (hs : isSet (kd F) = false) : (ls F).length = 0 := by
 unfold fitF fitB at h
 rw [hs] at h
 simp only [Bool.false_eq_true, if_false] at h
 split at h
 ·unfold fitU at h
  simp only [Bool.and_eq_true, decide_eq_true_eq] at h
  exact h.2
 ·split at h
  ·unfold fitV at h
   simp only [Bool.and_eq_true, decide_eq_true_eq] at h
   exact h.2
  ·cases h
theorem no_set {k : Int} (h1 : 3 <= k) : isSet k = false := by
 unfold isSet
 simp
 omega
theorem kinds_of {n : Nat} {F : Fl (n + 1)} (h : fitF F = true) : 0 <= kd F /\ kd F <= 8 := by
 unfold fitF fitB at h
 split at h
 ·rename_i hs
  unfold isSet at hs
  simp at hs
  omega
 ·split at h
  ·omega
  ·split at h
   ·omega
   ·cases h
theorem txt_val (n kk : Nat) (F : Fl (n + 1)) (w : World) (p : Nat -> Prop) (d : Fd) (hr : right (n + 1) kk F = true) (hN : FNode (n + 1) w p d F) (hk : d.k = 3 \/ d.k = 5 \/ d.k = 6 \/ d.k = 8 \/ d.k = 7) :
  Calls Tryz.prog 25 #[d.val] w fun o w' => o = .returned (.string ⟨(text (n + 1) F).toArray⟩) /\ Below w.heap.size w w' := by
 obtain ⟨W0, hW0⟩ : ∃ W0, W0 = w.alloc d.obj := ⟨_, rfl⟩
 have hb0 : Below w.heap.size w W0 := by rw [hW0]; exact (Below.refl _ _).alloc (Nat.le_refl _) _
 have hq0 : W0.heap[w.heap.size]? = some (.cells d.cs 25 (0, 0)) := by rw [hW0]; exact World.alloc_heap_new _ _
 have hI := hN.is
 have hf := right_fit hr
 have hns : isSet (kd F) = false := no_set (by rw [<- hI.k]; omega)
 have hl0 := leaf_ls hf hns
 obtain ⟨ha30, hv60, hf60, hn4, hx60⟩ := fit_item hf hns
 have hpv := pv_len (va F)
 have hFi := fun W => E.refFilter_any d.v W (by rw [hI.v]; exact hN.sm.v)
 have hT : text (n + 1) F = 40 :: ((d.a.data.toList ++ (sgn d.k ++ (pri false d.v).data.toList)) ++ [41]) := by
  rw [text, if_neg (by rw [hns]; simp), if_neg (by rw [<- hI.k]; omega), <- hI.k, hI.a, hI.v]
 have h7 : d.k = 7 -> (pri false d.v).data.toList = [] := fun e => by
  have : fitV (kd F) (nm F) (va F) (an F) (fi F) (ls F).length = true := by
   unfold fitF fitB at hf
   rw [hns] at hf
   simp only [Bool.false_eq_true, if_false] at hf
   rw [if_neg (by rw [<- hI.k]; omega), if_pos (by rw [<- hI.k]; omega)] at hf
   exact hf
  unfold fitV at this
  rw [if_pos (by rw [<- hI.k]; exact e)] at this
  simp only [Bool.and_eq_true, decide_eq_true_eq] at this
  rw [hI.v]
  exact (pv_nil _).2 (by omega)
 have hpz : ((pri false d.v).size : Int) <= 180 := by
  have h1 : (pri false (va F)).size = (pv (va F)).length := Array.length_toList.symm
  rw [hI.v]
  omega
 have hae : d.a.data.toList.length = d.a.size := Array.length_toList
 have haz : (d.a.size : Int) <= 30 := by rw [hI.a]; omega
 have hln : ¬ (0 : Int) < d.ln := by have := hI.ln; omega
 have HFi := H_ hFi
 have HB := H_ hb0
 have HQ := H_ hq0
 have HT := H_ hT
 have H7 := H_ h7
 have HK := H_ hk
 obtain ⟨⟨c0, c1, c2, c3, c4, c5⟩, _⟩ := box6 hq0
 clear hN hI hFi hb0 hq0 hT h7 hr hf hns hl0 ha30 hv60 hf60 hn4 hx60 hpv hk hae
 obtain ⟨dk, da, dv, dsa, dsn, dsc, df, dla, dln, dlc⟩ := d
 dsimp only at *
 have hW1 := hW0.symm
 dsimp only [Fd.obj, Fd.cs] at hW1
 clear hW0
 go_enter Tryz.func25, Tryz.ntmps25
 go_wp2
 go_loopw [3, 4] (fun su ix wr => su = .string ⟨#[]⟩ /\ ix = .int .i64 0 /\ Hid (Below W0.heap.size W0 wr))
  (fun _ _ _ => 0)
 case atStart => exact ⟨rfl, rfl, H_ (Below.refl _ _)⟩
 case round =>
  clear c0 c1 c2 c3 c4 c5 hW1
  obtain ⟨rfl, rfl, hb⟩ := hrel
  have hq := ((un hb).block _ (Array.getElem?_eq_some_iff.1 (un HQ)).1).trans (un HQ)
  obtain ⟨⟨c0, c1, c2, c3, c4, c5⟩, _⟩ := box6 hq
  dsimp only at c0 c1 c2 c3 c4 c5
  clear hq
  go_wp2_with fail
  refine ((un HFi) _).mono ?_
  rintro o w2 ⟨rfl, hb2⟩
  have HZ := H_ ((un hb).trans (hb2.mono (un hb).size))
  have hq2 := ((un HZ).block _ (Array.getElem?_eq_some_iff.1 (un HQ)).1).trans (un HQ)
  clear c0 c1 c2 c3 c4 c5
  obtain ⟨⟨c0, c1, c2, c3, c4, c5⟩, _⟩ := box6 hq2
  dsimp only at c0 c1 c2 c3 c4 c5
  clear hb2 HFi hq2 hb
  generalize pri false dv = pz at *
  have z0 : ((⟨#[40]⟩ : ByteArray).size : Int) = 1 := rfl
  have z1 : ((⟨#[41]⟩ : ByteArray).size : Int) = 1 := rfl
  have za : ((⟨#[40]⟩ ++ da : ByteArray).size : Int) <= 31 := by rw [ByteArray.size_append]; omega
  rcases (un HK) with e | e | e | e | e
  ·have HT2 : Hid ((⟨#[40]⟩ ++ da ++ ⟨#[61]⟩ ++ pz ++ ⟨#[41]⟩ : ByteArray) = ⟨(text (n + 1) F).toArray⟩) := H_ (by
    rw [un HT, e]
    refine ByteArray.ext (Array.ext' ?_)
    rw [E.data_app, E.data_app, E.data_app, E.data_app]
    simp [sgn])
   have z2 : ((⟨#[61]⟩ : ByteArray).size : Int) = 1 := rfl
   have zb : ((⟨#[40]⟩ ++ da ++ ⟨#[61]⟩ : ByteArray).size : Int) <= 33 := by rw [ByteArray.size_append]; omega
   have zc : ((⟨#[40]⟩ ++ da ++ ⟨#[61]⟩ ++ pz : ByteArray).size : Int) <= 233 := by rw [ByteArray.size_append]; omega
   subst e
   clear HK HT H7
   go_wp2
   go_ret
   rw [<- un HT2]
   exact ⟨rfl, (un HB).trans ((un HZ).mono (un HB).size)⟩
  ·have HT2 : Hid ((⟨#[40]⟩ ++ da ++ ⟨#[62, 61]⟩ ++ pz ++ ⟨#[41]⟩ : ByteArray) = ⟨(text (n + 1) F).toArray⟩) := H_ (by
    rw [un HT, e]
    refine ByteArray.ext (Array.ext' ?_)
    rw [E.data_app, E.data_app, E.data_app, E.data_app]
    simp [sgn])
   have z2 : ((⟨#[62, 61]⟩ : ByteArray).size : Int) = 2 := rfl
   have zb : ((⟨#[40]⟩ ++ da ++ ⟨#[62, 61]⟩ : ByteArray).size : Int) <= 33 := by rw [ByteArray.size_append]; omega
   have zc : ((⟨#[40]⟩ ++ da ++ ⟨#[62, 61]⟩ ++ pz : ByteArray).size : Int) <= 233 := by rw [ByteArray.size_append]; omega
   subst e
   clear HK HT H7
   go_wp2
   go_ret
   rw [<- un HT2]
   exact ⟨rfl, (un HB).trans ((un HZ).mono (un HB).size)⟩
  ·have HT2 : Hid ((⟨#[40]⟩ ++ da ++ ⟨#[60, 61]⟩ ++ pz ++ ⟨#[41]⟩ : ByteArray) = ⟨(text (n + 1) F).toArray⟩) := H_ (by
    rw [un HT, e]
    refine ByteArray.ext (Array.ext' ?_)
    rw [E.data_app, E.data_app, E.data_app, E.data_app]
    simp [sgn])
   have z2 : ((⟨#[60, 61]⟩ : ByteArray).size : Int) = 2 := rfl
   have zb : ((⟨#[40]⟩ ++ da ++ ⟨#[60, 61]⟩ : ByteArray).size : Int) <= 33 := by rw [ByteArray.size_append]; omega
   have zc : ((⟨#[40]⟩ ++ da ++ ⟨#[60, 61]⟩ ++ pz : ByteArray).size : Int) <= 233 := by rw [ByteArray.size_append]; omega
   subst e
   clear HK HT H7
   go_wp2
   go_ret
   rw [<- un HT2]
   exact ⟨rfl, (un HB).trans ((un HZ).mono (un HB).size)⟩
  ·have HT2 : Hid ((⟨#[40]⟩ ++ da ++ ⟨#[126, 61]⟩ ++ pz ++ ⟨#[41]⟩ : ByteArray) = ⟨(text (n + 1) F).toArray⟩) := H_ (by
    rw [un HT, e]
    refine ByteArray.ext (Array.ext' ?_)
    rw [E.data_app, E.data_app, E.data_app, E.data_app]
    simp [sgn])
   have z2 : ((⟨#[126, 61]⟩ : ByteArray).size : Int) = 2 := rfl
   have zb : ((⟨#[40]⟩ ++ da ++ ⟨#[126, 61]⟩ : ByteArray).size : Int) <= 33 := by rw [ByteArray.size_append]; omega
   have zc : ((⟨#[40]⟩ ++ da ++ ⟨#[126, 61]⟩ ++ pz : ByteArray).size : Int) <= 233 := by rw [ByteArray.size_append]; omega
   subst e
   clear HK HT H7
   go_wp2
   go_ret
   rw [<- un HT2]
   exact ⟨rfl, (un HB).trans ((un HZ).mono (un HB).size)⟩
  ·have HT2 : Hid ((⟨#[40]⟩ ++ da ++ ⟨#[61, 42, 41]⟩ : ByteArray) = ⟨(text (n + 1) F).toArray⟩) := H_ (by
    rw [un HT, un H7 e, e]
    refine ByteArray.ext (Array.ext' ?_)
    rw [E.data_app, E.data_app]
    simp [sgn])
   have z2 : ((⟨#[61, 42, 41]⟩ : ByteArray).size : Int) = 3 := rfl
   subst e
   clear HK HT H7
   go_wp2
   go_ret
   rw [<- un HT2]
   exact ⟨rfl, (un HB).trans ((un HZ).mono (un HB).size)⟩
theorem txt_subs (n kk : Nat) (F : Fl (n + 1)) (w : World) (p : Nat -> Prop) (d : Fd) (hk6 : kk <= 6) (hr : right (n + 1) kk F = true) (hN : FNode (n + 1) w p d F) (hk : d.k = 4) :
  Calls Tryz.prog 25 #[d.val] w fun o w' => o = .returned (.string ⟨(text (n + 1) F).toArray⟩) /\ Below w.heap.size w w' := by
 obtain ⟨W0, hW0⟩ : ∃ W0, W0 = w.alloc d.obj := ⟨_, rfl⟩
 have hb0 : Below w.heap.size w W0 := by rw [hW0]; exact (Below.refl _ _).alloc (Nat.le_refl _) _
 have hq0 : W0.heap[w.heap.size]? = some (.cells d.cs 25 (0, 0)) := by rw [hW0]; exact World.alloc_heap_new _ _
 have hI := hN.is
 have hf := right_fit hr
 have hns : isSet (kd F) = false := no_set (by rw [<- hI.k]; omega)
 have hl0 := leaf_ls hf hns
 obtain ⟨ha30, hv60, hf60, hn4, hx60⟩ := fit_item hf hns
 have hpv := pv_len (va F)
 have hFi := fun W => E.refFilter_any d.v W (by rw [hI.v]; exact hN.sm.v)
 have htl := text_long (n + 1) kk F hr
 have htm := tl_mono hk6
 have h6 : tl 6 <= 100000000 := by decide
 have hT : text (n + 1) F = 40 :: ((d.a.data.toList ++ 61 :: ((pri false d.v).data.toList ++ 42 :: (((an F).map pst).flatten ++ (pri false d.f).data.toList))) ++ [41]) := by
  rw [text, if_neg (by rw [hns]; simp), if_pos (by rw [<- hI.k]; exact hk), pieces_stars, hI.a, hI.v, hI.f]
 obtain ⟨P, hP⟩ : ∃ P : ByteArray, P = ⟨#[40]⟩ ++ d.a ++ ⟨#[61]⟩ ++ pri false d.v ++ ⟨#[42]⟩ := ⟨_, rfl⟩
 have hPd : P.data.toList = 40 :: (d.a.data.toList ++ 61 :: ((pri false d.v).data.toList ++ [42])) := by
  rw [hP, E.data_app, E.data_app, E.data_app, E.data_app]
  simp
 have hT2 : text (n + 1) F = P.data.toList ++ ((an F).map pst).flatten ++ (pri false d.f).data.toList ++ [41] := by
  rw [hT, hPd]
  simp
 have hPl : P.data.toList.length + (((an F).map pst).flatten).length <= 100000000 := by
  rw [hT2] at htl
  simp only [List.length_append, List.length_cons, List.length_nil] at htl
  omega
 have hpz : ((pri false d.v).size : Int) <= 180 := by
  have h1 : (pri false (va F)).size = (pv (va F)).length := Array.length_toList.symm
  rw [hI.v]
  omega
 have hpf : ((pri false d.f).size : Int) <= 180 := by
  have h1 : (pri false (fi F)).size = (pv (fi F)).length := Array.length_toList.symm
  have h2 := pv_len (fi F)
  rw [hI.f]
  omega
 have haz : (d.a.size : Int) <= 30 := by rw [hI.a]; omega
 have hln : ¬ (0 : Int) < d.ln := by have := hI.ln; omega
 have hsn : (d.sn : Int) <= 1000 := by have := hI.sn; omega
 have hFf := fun W => E.refFilter_any d.f W (by rw [hI.f]; exact hN.sm.f)
 have HFi := H_ hFi
 have HFf := H_ hFf
 have HB := H_ hb0
 have HQ := H_ hq0
 have HT := H_ hT2
 have HP := H_ hP
 have HPl := H_ hPl
 have HX := H_ hx60
 have HL := H_ hI.sn
 have HS := H_ (hN.strs.below hb0)
 obtain ⟨⟨c0, c1, c2, c3, c4, c5⟩, _⟩ := box6 hq0
 clear hN hI hFi hFf hb0 hq0 hT hT2 hP hPd hPl hr hf hns hl0 ha30 hv60 hf60 hn4 hx60 hpv htl htm h6
 obtain ⟨dk, da, dv, dsa, dsn, dsc, df, dla, dln, dlc⟩ := d
 dsimp only at *
 have hW1 := hW0.symm
 dsimp only [Fd.obj, Fd.cs] at hW1
 clear hW0
 subst hk
 go_enter Tryz.func25, Tryz.ntmps25
 go_wp2
 go_loopw [3, 4] (fun su ix wr => su = .string ⟨#[]⟩ /\ ix = .int .i64 0 /\ Hid (Below W0.heap.size W0 wr))
  (fun _ _ _ => 0)
 case atStart => exact ⟨rfl, rfl, H_ (Below.refl _ _)⟩
 case round =>
  clear c0 c1 c2 c3 c4 c5 hW1
  obtain ⟨rfl, rfl, hb⟩ := hrel
  have hq := ((un hb).block _ (Array.getElem?_eq_some_iff.1 (un HQ)).1).trans (un HQ)
  obtain ⟨⟨c0, c1, c2, c3, c4, c5⟩, _⟩ := box6 hq
  dsimp only at c0 c1 c2 c3 c4 c5
  clear hq
  go_wp2_with fail
  refine ((un HFi) _).mono ?_
  rintro o w2 ⟨rfl, hb2⟩
  have HZ := H_ ((un hb).trans (hb2.mono (un hb).size))
  have hq2 := ((un HZ).block _ (Array.getElem?_eq_some_iff.1 (un HQ)).1).trans (un HQ)
  clear c0 c1 c2 c3 c4 c5
  obtain ⟨⟨c0, c1, c2, c3, c4, c5⟩, _⟩ := box6 hq2
  dsimp only at c0 c1 c2 c3 c4 c5
  clear hb2 HFi hq2 hb
  generalize pri false dv = pz at *
  generalize pri false df = pf at *
  have z0 : ((⟨#[40]⟩ : ByteArray).size : Int) = 1 := rfl
  have z1 : ((⟨#[61]⟩ : ByteArray).size : Int) = 1 := rfl
  have z2 : ((⟨#[42]⟩ : ByteArray).size : Int) = 1 := rfl
  have za : ((⟨#[40]⟩ ++ da : ByteArray).size : Int) <= 31 := by rw [ByteArray.size_append]; omega
  have zb : ((⟨#[40]⟩ ++ da ++ ⟨#[61]⟩ : ByteArray).size : Int) <= 32 := by rw [ByteArray.size_append]; omega
  have zc : ((⟨#[40]⟩ ++ da ++ ⟨#[61]⟩ ++ pz : ByteArray).size : Int) <= 232 := by rw [ByteArray.size_append]; omega
  go_wp2
  have hPe := (un HP).symm
  go_loopw [6, 7] (fun su ix wr => ∃ (j : Nat) (S : ByteArray), j <= dsn /\ su = .string S /\ ix = .int .i64 (j : Int) /\ Hid (S.data.toList = P.data.toList ++ (((an F).take j).map pst).flatten) /\ Hid (Below W0.heap.size W0 wr))
   (fun _ ix _ => dsn - (intOf ix).toNat)
  case atStart => exact ⟨0, _, Nat.zero_le _, rfl, rfl, H_ (by rw [un HP]; simp), HZ⟩
  case round =>
   clear c0 c1 c2 c3 c4 c5 z0 z1 za zb zc hPe hpz haz HP HZ
   obtain ⟨j, S, hj, rfl, rfl, hS, hb⟩ := hrel
   have hq := ((un hb).block _ (Array.getElem?_eq_some_iff.1 (un HQ)).1).trans (un HQ)
   obtain ⟨⟨c0, c1, c2, c3, c4, c5⟩, _⟩ := box6 hq
   dsimp only at c0 c1 c2 c3 c4 c5
   clear hq
   have hSz : (S.size : Int) <= 100000000 := by
    have h1 := size_data (un hS)
    have h2 := flat_take pst (an F) j
    have := un HPl
    rw [List.length_append] at h1
    omega
   by_cases hlt : j < dsn
   ·have hltF : j < (an F).length := by have := un HL; omega
    obtain ⟨g, off, ha, u0⟩ := ((un HS).below (un hb)).at hltF
    subst ha
    have hnx := flat_next pst (an F) j _ (List.getElem?_eq_getElem hltF)
    have hxs := (un HX) _ (List.getElem_mem hltF)
    generalize (an F)[j] = x at *
    have HC := H_ fun W => E.refFilter_any x W (by omega)
    have hxl := pv_len x
    have hxe : (pri false x).size = (pv x).length := Array.length_toList.symm
    obtain ⟨px, hpx⟩ : ∃ px, px = pri false x := ⟨_, rfl⟩
    have hpz1 : (px.size : Int) <= 180 := by rw [hpx]; omega
    have HS2 : Hid ((S ++ px ++ ⟨#[42]⟩ : ByteArray).data.toList = P.data.toList ++ (((an F).take (j + 1)).map pst).flatten) := H_ (by
     rw [E.data_app, E.data_app, un hS, hnx, hpx]
     simp [pst, pv])
    rw [<- hpx] at HC
    have zs : ((S ++ px : ByteArray).size : Int) <= 100000200 := by rw [ByteArray.size_append]; omega
    have hlt1 : (j : Int) < dsn := by omega
    clear hnx hxs hxl hxe hpx HFf
    go_wp2_with fail
    refine ((un HC) _).mono ?_
    rintro o w3 ⟨rfl, hb3⟩
    have HY := H_ ((un hb).trans (hb3.mono (un hb).size))
    clear hb3 HC u0 c0 c1 c2 c3 c4 c5
    go_wp2
    go_roundw
    case rel => exact ⟨j + 1, _, by omega, rfl, by simp, HS2, HY⟩
    case measure => simp [intOf]; omega
   ·have hge : ¬ (j : Int) < dsn := by omega
    have HT2 : Hid ((S ++ pf ++ ⟨#[41]⟩ : ByteArray) = ⟨(text (n + 1) F).toArray⟩) := H_ (by
     rw [un HT]
     refine ByteArray.ext (Array.ext' ?_)
     rw [E.data_app, E.data_app, un hS, List.take_of_length_le (by have := un HL; omega)])
    have z3 : ((⟨#[41]⟩ : ByteArray).size : Int) = 1 := rfl
    have zs : ((S ++ pf : ByteArray).size : Int) <= 100000200 := by rw [ByteArray.size_append]; omega
    clear HS hS HT HX HL
    go_wp2_with fail
    refine ((un HFf) _).mono ?_
    rintro o w3 ⟨rfl, hb3⟩
    have HY := H_ ((un hb).trans (hb3.mono (un hb).size))
    clear hb3 HFf c0 c1 c2 c3 c4 c5
    go_wp2
    go_ret
    rw [<- un HT2]
    exact ⟨rfl, (un HB).trans ((un HY).mono (un HB).size)⟩
theorem refText_any : ∀ n, TxIs n
 | 0 => fun _ F => Empty.elim F
 | n + 1 => by
  intro kk F w p d hk6 hr hN
  have h := kinds_of (right_fit hr)
  rw [<- hN.is.k] at h
  by_cases h2 : d.k <= 2
  ·exact txt_set n (refText_any n) kk F w p d hk6 hr hN (by omega) h2
  ·by_cases h4 : d.k = 4
   ·exact txt_subs n kk F w p d hk6 hr hN h4
   ·exact txt_val n kk F w p d hr hN (by omega)
theorem refPrint_any (n : Nat) (F : Fl (n + 1)) (w : World) (p : Nat -> Prop) (d : Fd) (hN : FNode (n + 1) w p d F) :
  Calls Tryz.prog 8 #[d.val] w fun o w' => o = .returned (prtF F) /\ Below w.heap.size w w' := by
 obtain ⟨W0, hW0⟩ : ∃ W0, W0 = w.alloc d.obj := ⟨_, rfl⟩
 have hb0 : Below w.heap.size w W0 := by rw [hW0]; exact (Below.refl _ _).alloc (Nat.le_refl _) _
 have hq0 : W0.heap[w.heap.size]? = some (.cells d.cs 25 (0, 0)) := by rw [hW0]; exact World.alloc_heap_new _ _
 have hR := refRight_any (n + 1) F W0 p d (hN.below hb0)
 have hTx := fun (W : World) (h : Below w.heap.size w W) (hr : right (n + 1) 6 F = true) => refText_any (n + 1) 6 F W p d (Nat.le_refl _) hr (hN.below h)
 unfold prtF
 generalize right (n + 1) 6 F = b at *
 have HR := H_ hR
 have HTx := H_ hTx
 have HB := H_ hb0
 have HQ := H_ hq0
 obtain ⟨⟨c0, c1, c2, c3, c4, c5⟩, _⟩ := box6 hq0
 clear hN hb0 hq0 hR hTx
 obtain ⟨dk, da, dv, dsa, dsn, dsc, df, dla, dln, dlc⟩ := d
 dsimp only at *
 have hW1 := hW0.symm
 dsimp only [Fd.obj, Fd.cs] at hW1
 clear hW0
 cases b
 ·rw [if_neg (by simp)]
  go_enter Tryz.func8, Tryz.ntmps8
  go_wp2_with fail
  refine (un HR).mono ?_
  rintro o w1 ⟨rfl, hb⟩
  have HZ := H_ ((un HB).trans (hb.mono (un HB).size))
  clear hb HR hW1 c0 c1 c2 c3 c4 c5
  go_wp2
  go_ret2
  exact ⟨rfl, un HZ⟩
 ·rw [if_pos rfl]
  go_enter Tryz.func8, Tryz.ntmps8
  go_wp2_with fail
  refine (un HR).mono ?_
  rintro o w1 ⟨rfl, hb⟩
  have HZ := H_ ((un HB).trans (hb.mono (un HB).size))
  have hq := (hb.block _ (Array.getElem?_eq_some_iff.1 (un HQ)).1).trans (un HQ)
  clear hb HR hW1 c0 c1 c2 c3 c4 c5
  obtain ⟨⟨c0, c1, c2, c3, c4, c5⟩, _⟩ := box6 hq
  dsimp only at c0 c1 c2 c3 c4 c5
  clear hq
  go_wp2_with fail
  refine ((un HTx) _ (un HZ) (by simp)).mono ?_
  rintro o w2 ⟨rfl, hb⟩
  have HY := H_ ((un HZ).trans (hb.mono (un HZ).size))
  clear hb HTx c0 c1 c2 c3 c4 c5
  go_wp2
  go_ret2
  exact ⟨rfl, un HY⟩
end Go.Proofs.YtjhnblgamodekaaGreatDoor.F
/-
 What the document's own Names of layer 8 answers. Conditions: none.
-/
namespace Go.Proofs.YtjhnblgamodekaaGreatDoor.F
open Go Go.RowKit Go.Shelf Fp
open D (H_ un)
attribute [local go_sem] Oper.semAt_some
theorem names_leaf {n : Nat} {F : Fl (n + 1)} (h : fitF F = true) (hs : isSet (kd F) = false) : names (n + 1) F = [nm F] := by
 have h0 := leaf_ls h hs
 have h1 := (name_size (leaf_name h hs).1).1
 rw [names, if_neg (by omega), List.eq_nil_of_length_eq_zero h0]
 rfl
theorem fitS_of {n : Nat} {F : Fl (n + 1)} (h : fitF F = true) (hs : isSet (kd F) = true) : (nm F).size = 0 /\ 0 < (ls F).length /\ (ls F).length <= 8 := by
 unfold fitF fitB at h
 rw [if_pos hs] at h
 unfold fitS at h
 simp only [Bool.and_eq_true, decide_eq_true_eq] at h
 refine ⟨h.1.2.1, h.1.1.1, ?_⟩
 have := h.1.1.2
 split at this <;> omega
theorem names_many : ∀ (n d : Nat) (F : Fl n), right n d F = true -> 0 < (names n F).length /\ (names n F).length <= most d
 | 0, _, t, _ => Empty.elim t
 | n + 1, d, F, h => by
  have hf := right_fit h
  rw [right] at h
  simp only [Bool.and_eq_true, decide_eq_true_eq, List.all_eq_true] at h
  obtain ⟨⟨hd, _⟩, hk⟩ := h
  obtain ⟨d', rfl⟩ : ∃ d', d = d' + 1 := ⟨d - 1, by omega⟩
  cases hs : isSet (kd F) with
  | false =>
   rw [names_leaf hf hs, most]
   simp
  | true =>
   obtain ⟨h1, h2, h3⟩ := fitS_of hf hs
   rw [names, if_pos h1, List.nil_append, most]
   have key : ∀ l : List (Fl n), (∀ x ∈ l, 0 < (names n x).length /\ (names n x).length <= most d') -> l.length <= ((l.map (names n)).flatten).length /\ ((l.map (names n)).flatten).length <= l.length * most d' := by
    intro l
    induction l with
    | nil => intro _; simp
    | cons x l ih =>
     intro hx
     have h1 := hx x (by simp)
     have h2 := ih (fun y hy => hx y (by simp [hy]))
     rw [List.map_cons, List.flatten_cons, List.length_append, List.length_cons, Nat.succ_mul]
     omega
   obtain ⟨h4, h5⟩ := key (ls F) (fun x hx => names_many n d' x (hk x hx))
   have h6 : (ls F).length * most d' <= 8 * most d' := Nat.mul_le_mul h3 (Nat.le_refl _)
   omega
theorem flatn_take {α β : Type} (f : α -> List β) (l : List α) (j : Nat) : (((l.take j).map f).flatten).length <= ((l.map f).flatten).length := by
 have h : (l.map f).flatten = ((l.take j).map f).flatten ++ ((l.drop j).map f).flatten := by
  rw [<- List.flatten_append, <- List.map_append, List.take_append_drop]
 rw [h, List.length_append]
 omega
theorem flatn_next {α β : Type} (f : α -> List β) (l : List α) (j : Nat) (x : α) (h : l[j]? = some x) : ((l.take (j + 1)).map f).flatten = ((l.take j).map f).flatten ++ f x := by
 obtain ⟨hj, hx⟩ := List.getElem?_eq_some_iff.1 h
 rw [List.take_succ_eq_append_getElem hj, List.map_append, List.flatten_append, hx]
 simp
def NmPost (L : List ByteArray) (w : World) (e : Ending) (W : World) : Prop := Below w.heap.size w W /\ ∃ a c, e = .returned (.slice a L.length c) /\ Strs W (fun b => w.heap.size <= b) a L
def nmsOf (n : Nat) (F : Fl n) : List ByteArray := if right n 6 F then names n F else []
def NmIs (n : Nat) : Prop := ∀ (F : Fl n) (w : World) (p : Nat -> Prop) (d : Fd), FNode n w p d F ->
 Calls Tryz.prog 17 #[d.val] w (NmPost (nmsOf n F) w)
theorem refNames_no (n : Nat) (F : Fl (n + 1)) (w : World) (p : Nat -> Prop) (d : Fd) (hN : FNode (n + 1) w p d F) (h : right (n + 1) 6 F = false) :
  Calls Tryz.prog 17 #[d.val] w (NmPost [] w) := by
 obtain ⟨W0, hW0⟩ : ∃ W0, W0 = w.alloc d.obj := ⟨_, rfl⟩
 have hb0 : Below w.heap.size w W0 := by rw [hW0]; exact (Below.refl _ _).alloc (Nat.le_refl _) _
 have hq0 : W0.heap[w.heap.size]? = some (.cells d.cs 25 (0, 0)) := by rw [hW0]; exact World.alloc_heap_new _ _
 have hR := refRight_any (n + 1) F W0 p d (hN.below hb0)
 rw [h] at hR
 have HR := H_ hR
 have HB := H_ hb0
 have HQ := H_ hq0
 obtain ⟨⟨c0, c1, c2, c3, c4, c5⟩, _⟩ := box6 hq0
 clear hN hb0 hq0 hR h
 obtain ⟨dk, da, dv, dsa, dsn, dsc, df, dla, dln, dlc⟩ := d
 dsimp only at *
 have hW1 := hW0.symm
 dsimp only [Fd.obj, Fd.cs] at hW1
 clear hW0
 go_enter Tryz.func17, Tryz.ntmps17
 go_wp2_with fail
 refine (un HR).mono ?_
 rintro o w1 ⟨rfl, hb⟩
 have HZ := H_ hb
 have hq := (hb.block _ (Array.getElem?_eq_some_iff.1 (un HQ)).1).trans (un HQ)
 clear hb HR hW1 c0 c1 c2 c3 c4 c5
 obtain ⟨⟨c0, c1, c2, c3, c4, c5⟩, _⟩ := box6 hq
 dsimp only at c0 c1 c2 c3 c4 c5
 clear hq
 go_wp2
 go_ret
 exact ⟨(un HB).trans ((un HZ).mono (un HB).size), none, 0, rfl, .inl rfl⟩
theorem refNames_leaf (n : Nat) (F : Fl (n + 1)) (w : World) (p : Nat -> Prop) (d : Fd) (hN : FNode (n + 1) w p d F) (h : right (n + 1) 6 F = true) (hk : 2 < d.k) :
  Calls Tryz.prog 17 #[d.val] w (NmPost (names (n + 1) F) w) := by
 obtain ⟨W0, hW0⟩ : ∃ W0, W0 = w.alloc d.obj := ⟨_, rfl⟩
 have hb0 : Below w.heap.size w W0 := by rw [hW0]; exact (Below.refl _ _).alloc (Nat.le_refl _) _
 have hq0 : W0.heap[w.heap.size]? = some (.cells d.cs 25 (0, 0)) := by rw [hW0]; exact World.alloc_heap_new _ _
 have hR := refRight_any (n + 1) F W0 p d (hN.below hb0)
 rw [h] at hR
 have hnm : names (n + 1) F = [d.a] := by rw [hN.is.a]; exact names_leaf (right_fit h) (no_set (by rw [<- hN.is.k]; omega))
 rw [hnm]
 have HR := H_ hR
 have HB := H_ hb0
 have HQ := H_ hq0
 obtain ⟨⟨c0, c1, c2, c3, c4, c5⟩, _⟩ := box6 hq0
 clear hN hb0 hq0 hR h hnm
 obtain ⟨dk, da, dv, dsa, dsn, dsc, df, dla, dln, dlc⟩ := d
 dsimp only at *
 have hW1 := hW0.symm
 dsimp only [Fd.obj, Fd.cs] at hW1
 clear hW0
 go_enter Tryz.func17, Tryz.ntmps17
 go_wp2_with fail
 refine (un HR).mono ?_
 rintro o w1 ⟨rfl, hb⟩
 have HZ := H_ hb
 have hq := (hb.block _ (Array.getElem?_eq_some_iff.1 (un HQ)).1).trans (un HQ)
 clear hb HR hW1 c0 c1 c2 c3 c4 c5
 obtain ⟨⟨c0, c1, c2, c3, c4, c5⟩, _⟩ := box6 hq
 dsimp only at c0 c1 c2 c3 c4 c5
 clear hq
 have HY := H_ ((un HB).trans ((un HZ).mono (un HB).size))
 have hzz := (un HY).size
 go_wp2
 go_ret
 refine ⟨(un HY).alloc (un HY).size _, _, _, rfl, .inr ⟨w1.heap.size, 0, rfl, (un HY).size, fun i x hi => ?_⟩⟩
 match i, hi with
 | 0, hi => cases hi; rw [World.cell?_alloc_at _ _ _ _ rfl]; rfl
theorem refNames_set (n : Nat) (ih : NmIs n) (F : Fl (n + 1)) (w : World) (p : Nat -> Prop) (d : Fd) (hN : FNode (n + 1) w p d F) (h : right (n + 1) 6 F = true) (hk1 : 0 <= d.k) (hk2 : d.k <= 2) :
  Calls Tryz.prog 17 #[d.val] w (NmPost (names (n + 1) F) w) := by
 obtain ⟨W0, hW0⟩ : ∃ W0, W0 = w.alloc d.obj := ⟨_, rfl⟩
 have hb0 : Below w.heap.size w W0 := by rw [hW0]; exact (Below.refl _ _).alloc (Nat.le_refl _) _
 have hq0 : W0.heap[w.heap.size]? = some (.cells d.cs 25 (0, 0)) := by rw [hW0]; exact World.alloc_heap_new _ _
 have hR := refRight_any (n + 1) F W0 p d (hN.below hb0)
 rw [h] at hR
 have hI := hN.is
 have hfs := fitS_of (right_fit h) (set_of (by rw [<- hI.k]; exact hk1) (by rw [<- hI.k]; exact hk2))
 obtain ⟨X, hX⟩ : ∃ X, X = ((ls F).map (names n)).flatten := ⟨_, rfl⟩
 have hnX : names (n + 1) F = X := by rw [names, if_pos hfs.1, List.nil_append, hX]
 have hXl : X.length <= 1000000 := by
  have h1 := (names_many (n + 1) 6 F h).2
  have h2 : most 6 <= 1000000 := by decide
  rw [hnX] at h1
  omega
 have hkids : ∀ x ∈ ls F, right n 6 x = true := by
  rw [right] at h
  simp only [Bool.and_eq_true, decide_eq_true_eq, List.all_eq_true] at h
  exact fun x hx => right_mono n 5 6 x (by omega) (h.2 x hx)
 rw [hnX]
 have hdl : (d.ln : Int) <= 1000 := by have := hI.ln; have := hN.sm.ln; omega
 have HR := H_ hR
 have HB := H_ hb0
 have HQ := H_ hq0
 have HN := H_ (hN.below hb0)
 have HI := H_ ih
 have HL := H_ hI.ln
 have HX := H_ hX
 have HXl := H_ hXl
 have HK := H_ hkids
 obtain ⟨⟨c0, c1, c2, c3, c4, c5⟩, _⟩ := box6 hq0
 clear hN hb0 hq0 hR h hI hfs hX hXl hkids ih hnX
 obtain ⟨dk, da, dv, dsa, dsn, dsc, df, dla, dln, dlc⟩ := d
 dsimp only at *
 have hW1 := hW0.symm
 dsimp only [Fd.obj, Fd.cs] at hW1
 clear hW0
 go_enter Tryz.func17, Tryz.ntmps17
 go_wp2_with fail
 refine (un HR).mono ?_
 rintro o w1 ⟨rfl, hb⟩
 have HZ := H_ hb
 have hq := (hb.block _ (Array.getElem?_eq_some_iff.1 (un HQ)).1).trans (un HQ)
 clear hb HR hW1 c0 c1 c2 c3 c4 c5
 obtain ⟨⟨c0, c1, c2, c3, c4, c5⟩, _⟩ := box6 hq
 dsimp only at c0 c1 c2 c3 c4 c5
 clear hq
 have HO0 : Hid (w1.ownsRow W0.heap.size 9 1 (.slice none 0 0) 0 (strs [])) := H_ (World.ownsRow_nil _ _ _ _)
 obtain ⟨i0, hi0, hz0, hz1, hz2⟩ := infoS
 go_wp2
 go_loopw [3, 4] (fun u ix wr => ∃ (j : Nat) (xs : List ByteArray), j <= dln /\ ix = .int .i64 (j : Int) /\ Hid (xs = (((ls F).take j).map (names n)).flatten) /\ Hid (wr.ownsRow W0.heap.size 9 1 u xs.length (strs xs)) /\ Hid (Below W0.heap.size W0 wr))
  (fun _ ix _ => dln - (intOf ix).toNat)
 case atStart => exact ⟨0, [], Nat.zero_le _, rfl, H_ (by simp), HO0, HZ⟩
 case round =>
  clear c0 c1 c2 c3 c4 c5 HO0 HZ
  obtain ⟨j, xs, hj, rfl, hxs, hown, hb⟩ := hrel
  have hq := ((un hb).block _ (Array.getElem?_eq_some_iff.1 (un HQ)).1).trans (un HQ)
  obtain ⟨⟨c0, c1, c2, c3, c4, c5⟩, _⟩ := box6 hq
  dsimp only at c0 c1 c2 c3 c4 c5
  clear hq
  by_cases hlt : j < dln
  ·have hltF : j < (ls F).length := by have := un HL; omega
   obtain ⟨g, off, ha⟩ := (un HN).kids
   have ha := ha.resolve_right (fun e => by rw [e] at hltF; cases hltF)
   obtain ⟨⟨k1, a1, v1, sa1, sn1, sc1, f1, la1, ln1, lc1⟩, ⟨u0, u1, u2, u3, u4, u5⟩, hN1⟩ := ((un HN).below (un hb)).kid ha hltF
   dsimp only at ha u0 u1 u2 u3 u4 u5
   subst ha
   have hr1 := (un HK) _ (List.getElem_mem hltF)
   have hC := (un HI) (ls F)[j] wr _ _ hN1
   have hnx := flatn_next (names n) (ls F) j _ (List.getElem?_eq_getElem hltF)
   have hnz := flatn_take (names n) (ls F) (j + 1)
   rw [<- (show X = _ from un HX)] at hnz
   rw [hnx, List.length_append, <- (show xs = _ from un hxs)] at hnz
   generalize (ls F)[j] = Fj at *
   unfold nmsOf at hC
   rw [if_pos hr1] at hC
   have hyp := (names_many n 6 Fj hr1).1
   generalize names n Fj = ys at *
   have Hnx : Hid (xs ++ ys = (((ls F).take (j + 1)).map (names n)).flatten) := H_ (by rw [hnx, <- (show xs = _ from un hxs)])
   have HC := H_ hC
   have hlt1 : (j : Int) < dln := by omega
   have hXl := un HXl
   have hxyl : xs.length + ys.length <= 1000000 := by omega
   clear hN1 hC HI hnx hnz hr1 hXl hxs HK
   go_wp2_with fail
   refine (un HC).mono ?_
   rintro o w2 ⟨hb2, av, cv, rfl, hst⟩
   have HZ := H_ ((un hb).trans (hb2.mono (un hb).size))
   have HO2 := H_ (own_below (un hown) hb2)
   have hzz := (un HZ).size
   obtain ⟨gy, oy, rfl, _, hcy⟩ := hst.resolve_left (fun e => by rw [e] at hyp; cases hyp)
   have HN2 := H_ (news_of hcy)
   clear hb2 HC u0 u1 u2 u3 u4 u5 c0 c1 c2 c3 c4 c5 hown hcy hst
   go_wp2_with (at_builtin; refine wpList_append_lies _ rfl (.tmp 21) (.tmp 27) 22 rfl W0.heap.size 9 i0 (.string ⟨#[]⟩) 1 16 Tryz.underlying22 hi0 hz0 hz1 hz2 rfl (by omega) _ xs.length _ rfl (un HO2) ⟨gy, oy, none⟩ ys.length cv (strs ys) rfl (strs_len ys) (un HN2) (strs_one ys) hyp (by unfold maxLen; omega) (by omega) hzz w2.heap.size rfl ?_; intro g1 cp w4 hown hgrow hat hglt; replace hown := H_ hown; replace hgrow := H_ (grow_of (un HZ) (Nat.le_refl _) (Nat.le_refl _) (un HO2) hgrow); clear hat hglt hzz)
   go_roundw
   case rel =>
    refine ⟨j + 1, xs ++ ys, by omega, by simp, Hnx, ?_, ?_⟩
    ·rw [List.length_append, <- strs_app]
     exact hown
    ·exact hgrow
   case measure => simp [intOf]; omega
  ·have hge : ¬ (j : Int) < dln := by omega
   have HXX : Hid (xs = X) := H_ (by rw [un hxs, List.take_of_length_le (by have := un HL; omega)]; exact (un HX).symm)
   clear HI HN hxs HK HX
   go_wp2
   go_ret
   rw [<- (show xs = X from un HXX)]
   obtain ⟨sa, sc, rfl, hst⟩ := own_strs (un hown) rfl
   exact ⟨(un HB).trans ((un hb).mono (un HB).size), sa, sc, rfl, hst.imp fun b h _ => Nat.le_trans (un HB).size h⟩
theorem refNames_any : ∀ n, NmIs n
 | 0 => fun F => Empty.elim F
 | n + 1 => by
  intro F w p d hN
  unfold nmsOf
  cases h : right (n + 1) 6 F with
  | false => exact refNames_no n F w p d hN h
  | true =>
   have hk := kinds_of (right_fit h)
   rw [<- hN.is.k] at hk
   rw [if_pos rfl]
   by_cases h2 : d.k <= 2
   ·exact refNames_set n (refNames_any n) F w p d hN h (by omega) h2
   ·exact refNames_leaf n F w p d hN h (by omega)
end Go.Proofs.YtjhnblgamodekaaGreatDoor.F
