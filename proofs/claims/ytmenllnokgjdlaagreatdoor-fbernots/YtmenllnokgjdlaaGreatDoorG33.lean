/- Several texts in one: FText, FDoor, FOpen, Pure, PureLaws, TvPure, GPure. Each says what it proves, and its conditions. -/
import Derived.Test.YtmenllnokgjdlaaGreatDoorG32
import Derived.Deep.Strs
set_option linter.unusedSimpArgs false
set_option maxHeartbeats 4000000
set_option maxRecDepth 100000
/-
 What printer.text of package filt answers at a right filter, and filt.Print. Conditions: the package-level variables hold what the program's text lays.
-/
namespace Go.Proofs.YtmenllnokgjdlaaGreatDoor.F
open Go Go.RowKit Go.Shelf Fp
open D (H_ un)
open Dp (jn)
open E (pri)
attribute [local go_sem] Oper.semAt_some
def tl : Nat -> Nat
 | 0 => 0
 | d + 1 => 8 * tl d + 2000
theorem fit_bounds {n : Nat} {F : Fl (n + 1)} (h : fitF F = true) : (ls F).length <= 8 /\ hasSgn (kd F) = true \/ (kd F = 4 /\ ls F = []) := by
 unfold fitF fitB at h
 split at h
 ·rename_i hs
  left
  unfold fitS at h
  simp only [Bool.and_eq_true, decide_eq_true_eq] at h
  refine ⟨by have := h.1.1.2; split at this <;> omega, ?_⟩
  unfold isSet at hs
  simp only [Bool.or_eq_true, beq_iff_eq] at hs
  rcases hs with (h1 | h1) | h1 <;> rw [h1] <;> rfl
 ·split at h
  ·rename_i h4
   unfold fitU at h
   simp only [Bool.and_eq_true, decide_eq_true_eq] at h
   exact .inr ⟨h4, List.eq_nil_of_length_eq_zero h.2⟩
  ·split at h
   ·rename_i hk
    left
    unfold fitV at h
    simp only [Bool.and_eq_true, decide_eq_true_eq] at h
    refine ⟨by omega, ?_⟩
    rcases hk with h1 | h1 | h1 | h1 | h1 <;> rw [h1] <;> rfl
   ·cases h
theorem sgn_len (k : Int) : (sgn k).length <= 2 := by
 unfold sgn
 repeat' split
 all_goals simp
theorem fit_item {n : Nat} {F : Fl (n + 1)} (h : fitF F = true) (hs : isSet (kd F) = false) : (Fp.nm F).size <= 30 /\ (va F).size <= 60 /\ (fi F).size <= 60 /\ (an F).length <= 4 /\ (∀ x ∈ an F, x.size <= 60) := by
 have hn := (leaf_name h hs).1
 have := (name_size hn).2
 unfold fitF fitB at h
 rw [hs] at h
 simp only [Bool.false_eq_true, if_false] at h
 split at h
 ·unfold fitU at h
  simp only [Bool.and_eq_true, decide_eq_true_eq, List.all_eq_true] at h
  refine ⟨this, by omega, by omega, by omega, fun x hx => ?_⟩
  have := h.1.1.1.2 x hx
  unfold okP at this
  simp at this
  exact this.2
 ·split at h
  ·unfold fitV at h
   simp only [Bool.and_eq_true, decide_eq_true_eq] at h
   have h1 := h.1.1.2
   have h2 := h.1.2
   refine ⟨this, by split at h1 <;> omega, by omega, by omega, fun x hx => ?_⟩
   rw [List.eq_nil_of_length_eq_zero h2.1] at hx
   cases hx
  ·cases h
theorem text_long : ∀ (n d : Nat) (F : Fl n), right n d F = true -> (text n F).length <= tl d
 | 0, _, t, _ => Empty.elim t
 | n + 1, d, F, h => by
  rw [right] at h
  simp only [Bool.and_eq_true, decide_eq_true_eq, List.all_eq_true] at h
  obtain ⟨⟨hd, hf⟩, hk⟩ := h
  obtain ⟨d', rfl⟩ : ∃ d', d = d' + 1 := ⟨d - 1, by omega⟩
  rw [text, tl]
  cases hs : isSet (kd F) with
  | true =>
   rw [if_pos rfl]
   have hl : (ls F).length <= 8 := by
    rcases fit_bounds hf with h1 | h1
    ·exact h1.1
    ·rw [h1.2]; simp
   have key : ∀ l : List (Fl n), (∀ x ∈ l, (text n x).length <= tl d') -> ((l.map (text n)).flatten).length <= l.length * tl d' := by
    intro l
    induction l with
    | nil => intro _; simp
    | cons x l ih =>
     intro hx
     have h1 := hx x (by simp)
     have h2 := ih (fun y hy => hx y (by simp [hy]))
     rw [List.map_cons, List.flatten_cons, List.length_append, List.length_cons, Nat.succ_mul]
     omega
   have h3 := key (ls F) (fun x hx => text_long n d' x (hk x hx))
   have h4 : (ls F).length * tl d' <= 8 * tl d' := Nat.mul_le_mul hl (Nat.le_refl _)
   have h5 := sgn_len (kd F)
   simp only [List.length_cons, List.length_append, List.length_nil]
   omega
  | false =>
   obtain ⟨h1, h2, h3, h4, h5⟩ := fit_item hf hs
   simp only [Bool.false_eq_true, if_false]
   have hv := pv_len (va F)
   have hn := E.len_toList (Fp.nm F)
   split
   ·have hp := Dp.jn_len 42 180 (pv (va F) :: ((an F).map pv ++ [pv (fi F)])) fun x hx' => by
     rcases List.mem_cons.1 hx' with rfl | h
     ·omega
     ·rcases List.mem_append.1 h with h | h
      ·obtain ⟨s, hs, rfl⟩ := List.mem_map.1 h
       have := pv_len s
       have := h5 s hs
       omega
      ·simp at h; subst h; have := pv_len (fi F); omega
    simp only [List.length_cons, List.length_append, List.length_map, List.length_nil] at hp
    have h6 : ((an F).length + (0 + 1) + 1) * (180 + 1) <= 6 * 181 := Nat.mul_le_mul (by omega) (Nat.le_refl _)
    simp only [List.length_cons, List.length_append, List.length_nil, Fp.pieces]
    omega
   ·have := sgn_len (kd F)
    simp only [List.length_cons, List.length_append, List.length_nil]
    omega
theorem tl_mono {d d' : Nat} (h : d <= d') : tl d <= tl d' := by
 induction h with
 | refl => exact Nat.le_refl _
 | step _ ih => rw [tl]; omega
def TextIs (n : Nat) : Prop := ∀ (k : Nat) (F : Fl n) (w : World) (p : Nat -> Prop) (d : Fd) (B : Nat), k <= 6 -> right n k F = true -> FNode n w p d F -> SignsAt w B ->
 Calls Tryz.prog 51 #[.agg #[.map (some B)], d.val] w fun e w' => e = .returned (.string ⟨(text n F).toArray⟩) /\ Below w.heap.size w w'
theorem text_set (n : Nat) (ih : TextIs n) (kk : Nat) (F : Fl (n + 1)) (w : World) (p : Nat -> Prop) (d : Fd) (B : Nat) (hk6 : kk <= 6) (hr : right (n + 1) kk F = true) (hN : FNode (n + 1) w p d F) (hB : SignsAt w B) (hs : isSet (kd F) = true) :
  Calls Tryz.prog 51 #[.agg #[.map (some B)], d.val] w fun e w' => e = .returned (.string ⟨(text (n + 1) F).toArray⟩) /\ Below w.heap.size w w' := by
 have htl := text_long (n + 1) kk F hr
 have htm := tl_mono hk6
 have h6 : tl 6 <= 100000000 := by decide
 have hr' := hr
 rw [right] at hr'
 simp only [Bool.and_eq_true, decide_eq_true_eq, List.all_eq_true] at hr'
 obtain ⟨⟨hd0, hf⟩, hkr⟩ := hr'
 have hls : (ls F).length <= 8 /\ hasSgn (kd F) = true := by
  rcases fit_bounds hf with h | h
  ·exact h
  ·rw [h.1] at hs; cases hs
 rw [text, if_pos hs] at htl ⊢
 obtain ⟨k, a, v, sa, sn, sc, f, la, ln, lc⟩ := d
 have hI := hN.is
 have hkd : k = kd F := hI.k
 have hln : ln = (ls F).length := hI.ln
 rw [<- hkd] at hls htl hs ⊢
 obtain ⟨sg, hsg⟩ : ∃ sg : ByteArray, sg = ⟨(sgn k).toArray⟩ := ⟨_, rfl⟩
 have hb0 : Below w.heap.size w ((w.alloc (.cells #[.map (some B)] 75)).alloc (.cells #[.int .i64 k, .string a, .string v, .slice sa sn sc, .string f, .slice la ln lc] 25)) := ((Below.refl _ _).alloc (Nat.le_refl _) _).alloc (by simp) _
 have hbx : At ((w.alloc (.cells #[.map (some B)] 75)).alloc (.cells #[.int .i64 k, .string a, .string v, .slice sa sn sc, .string f, .slice la ln lc] 25)) (w.heap.size + 1) 0 ⟨k, a, v, sa, sn, sc, f, la, ln, lc⟩ := by
  have := At.new (w.alloc (.cells #[.map (some B)] 75)) ⟨k, a, v, sa, sn, sc, f, la, ln, lc⟩
  rwa [World.size_alloc] at this
 have hbp : ((w.alloc (.cells #[.map (some B)] 75)).alloc (.cells #[.int .i64 k, .string a, .string v, .slice sa sn sc, .string f, .slice la ln lc] 25)).cell? ⟨w.heap.size, 0, none⟩ = some (.map (some B)) := by
  rw [World.cell?_alloc_lt _ _ _ (by simp), World.cell?_alloc_at _ _ _ _ rfl]; rfl
 obtain ⟨W1, hW1⟩ : ∃ W1, W1 = (w.alloc (.cells #[.map (some B)] 75)).alloc (.cells #[.int .i64 k, .string a, .string v, .slice sa sn sc, .string f, .slice la ln lc] 25) := ⟨_, rfl⟩
 rw [<- hW1] at hb0 hbx hbp
 have hlk := (hB.below hb0).look k hls.2
 rw [<- hsg] at hlk
 have HIS := H_ fun W => isSet_any k W
 rw [hs] at HIS
 obtain ⟨i0, hi0, hz0, hz1, hz2⟩ := infoS
 have HN := H_ hN
 have HB := H_ hB
 have HKR := H_ hkr
 have HLN := H_ hln
 have HTL := H_ htl
 have HSG := H_ hsg
 have IH := H_ ih
 have hl8 : (ln : Int) <= 8 := by omega
 have hd1 : kk - 1 <= 6 := by omega
 obtain ⟨c0, c1, c2, c3, c4, c5⟩ := hbx
 dsimp only at c0 c1 c2 c3 c4 c5
 have HB0 := H_ hb0
 have hlt1 : w.heap.size + 1 < W1.heap.size := D.lt_cell c0
 have hown1 := World.ownsRow_lit (base := w.heap.size + 2) (e := 9) (size := 1) W1 #[.string sg] 1 (by omega) (by decide) rfl
 clear hN hB hkr hln htl hsg ih hf hr hI hkd hs hls hb0
 go_enter Tryz.func51, Tryz.ntmps51
 go_wp2_with fail
 refine ((un HIS) _).mono ?_
 rintro e w1 ⟨rfl, rfl⟩
 rw [<- hW1]
 clear hW1
 have hb2 : Below w.heap.size w (W1.alloc (.cells #[.string sg] 9)) := (un HB0).alloc (un HB0).size _
 have key : ∀ i u, W1.cell? ⟨w.heap.size + 1, i, none⟩ = some u -> (W1.alloc (.cells #[.string sg] 9)).cell? ⟨w.heap.size + 1, i, none⟩ = some u := fun i u h => by rw [World.cell?_alloc_lt _ _ _ (D.lt_cell h)]; exact h
 have y5 := key _ _ c5
 have HP2 : Hid ((W1.alloc (.cells #[.string sg] 9)).cell? ⟨w.heap.size, 0, none⟩ = some (.map (some B))) := H_ (by rw [World.cell?_alloc_lt _ _ _ (D.lt_cell hbp)]; exact hbp)
 have HB2 := H_ hb2
 have HO2 := H_ hown1
 clear hb2 hown1 key
 go_wp2
 go_loopw [5, 21] (fun sl ix wr => ∃ j : Nat, j <= ln /\ ix = .int .i64 (j : Int) /\ Hid (wr.ownsRow (w.heap.size + 2) 9 1 sl (j + 1) (strs (sg :: ((ls F).take j).map fun x => (⟨(text n x).toArray⟩ : ByteArray)))) /\ Hid (Below w.heap.size w wr) /\ Hid (wr.cell? ⟨w.heap.size, 0, none⟩ = some (.map (some B))))
  (fun _ ix _ => ln - (intOf ix).toNat)
 case atStart => exact ⟨0, Nat.zero_le _, rfl, HO2, HB2, HP2⟩
 case round =>
  obtain ⟨j, hj, rfl, ho, hb, hp⟩ := hrel
  clear HO2 HB2 HP2 y5 c0 c1 c2 c3 c4 c5 hbp hlk
  by_cases hlt : j < ln
  ·have hltx : j < (ls F).length := by have := un HLN; omega
   obtain ⟨g, off, hla⟩ := (un HN).kids
   have hla := hla.resolve_right (fun e => by rw [e] at hltx; cases hltx)
   obtain ⟨⟨k1, a1, v1, sa1, sn1, sc1, f1, la1, ln1, lc1⟩, ⟨q0, q1, q2, q3, q4, q5⟩, hN1⟩ := ((un HN).below (un hb)).kid hla hltx
   dsimp only at q0 q1 q2 q3 q4 q5 hla
   have htk := List.take_succ_eq_append_getElem hltx
   have hrx := (un HKR) (ls F)[j] (List.getElem_mem hltx)
   obtain ⟨x, hx⟩ : ∃ x, (ls F)[j] = x := ⟨_, rfl⟩
   rw [hx] at hN1 htk hrx
   have HC := H_ fun o => (un IH) (kk - 1) x (wr.alloc o) p _ B hd1 hrx (hN1.below ((Below.refl _ _).alloc (Nat.le_refl _) o)) ((un HB).below ((un hb).alloc (un hb).size o))
   have HT := H_ htk
   have hp' := un hp
   have z0 : ∀ o, (wr.alloc o).cell? ⟨w.heap.size, 0, none⟩ = some (.map (some B)) := fun o => by rw [World.cell?_alloc_lt _ _ _ (D.lt_cell hp')]; exact hp'
   have hlt' : (j : Int) < ln := by omega
   obtain ⟨tx, htx⟩ : ∃ tx : ByteArray, tx = ⟨(text n x).toArray⟩ := ⟨_, rfl⟩
   rw [<- htx] at HC
   have HTX := H_ htx
   clear hx htk hrx hN1 htx hp'
   subst hla
   go_wp2_with fail
   refine ((un HC) _).mono ?_
   rintro e w2 ⟨rfl, hb2⟩
   have hbr : Below wr.heap.size wr w2 := ((Below.refl _ _).alloc (Nat.le_refl _) _).trans (hb2.mono (by simp))
   have HO := H_ ((own_below (un ho) hbr).alloc (.cells #[.string tx] 9))
   have HB2 := H_ ((un hb).trans (hbr.mono (un hb).size))
   have HP2 := H_ ((hbr.cell (D.lt_cell (un hp))).trans (un hp))
   have hzs : w.heap.size + 2 <= w2.heap.size := by have := hbr.size; have := ((un ho).form (by omega)); obtain ⟨_, _, _, h1, h2⟩ := this; omega
   clear hb2 ho hb hp hbr
   go_wp2_with (at_builtin; refine wpList_append_lies _ rfl (.tmp 25) (.tmp 29) 22 rfl (w.heap.size + 2) 9 i0 (.string ⟨#[]⟩) 1 16 Tryz.underlying22 hi0 hz0 hz1 hz2 rfl (by omega) _ (j + 1) _ rfl (un HO) ⟨w2.heap.size, 0, none⟩ 1 1 [.string tx] rfl rfl (cells_new w2 _ _) (by simp [Value.oneCell']) (by omega) (by unfold maxLen; omega) (by omega) (by simp; omega) (w2.heap.size + 1) (by simp) ?_; intro gg cp w5 hown hgrow hat2 hglt)
   have hB5 : Below w.heap.size w w5 := by
    have h1 : Below w.heap.size w (w2.alloc (.cells #[.string tx] 9)) := (un HB2).alloc (un HB2).size _
    exact ⟨hgrow.os.trans h1.os, hgrow.tape.trans h1.tape, hgrow.output.trans h1.output, Nat.le_trans h1.size hgrow.size, fun k' hk' => (hgrow.block k' (Nat.lt_of_lt_of_le hk' h1.size) (fun e => by have := ((un HO).lt k' e.symm).1; omega)).trans (h1.block k' hk')⟩
   have hP5 : w5.cell? ⟨w.heap.size, 0, none⟩ = some (.map (some B)) := by
    have h1 := D.lt_cell (un HP2)
    have h2 : (w2.alloc (.cells #[.string tx] 9)).cell? ⟨w.heap.size, 0, none⟩ = some (.map (some B)) := by rw [World.cell?_alloc_lt _ _ _ h1]; exact un HP2
    exact (World.cell?_of_block (hgrow.block _ (D.lt_cell h2) (fun e => by have := ((un HO).lt _ e.symm).1; simp at this; omega))).trans h2
   have HB5 := H_ hB5
   have HP5 := H_ hP5
   have HO5 := H_ hown
   clear hB5 hP5 hown hgrow hat2 hglt HO HB2 HP2 z0
   go_roundw
   case rel =>
    refine ⟨j + 1, by omega, by simp, ?_, HB5, HP5⟩
    have := un HO5
    rw [un HT]
    rw [un HTX] at this
    exact H_ (by simpa [strs] using this)
   case measure => simp [intOf]; omega
  ·have hge : ¬ (j : Int) < ln := by omega
   have hje : j = (ls F).length := by have := un HLN; omega
   have ho' := un ho
   rw [hje, List.take_length] at ho'
   obtain ⟨gg, cp, hsl, _, _⟩ := ho'.form (by omega)
   subst hsl
   obtain ⟨hc1, hc2, hc3⟩ := own_cells (sg :: (ls F).map fun x => (⟨(text n x).toArray⟩ : ByteArray)) ho'
   have hE := enclosed_any gg 0 cp (sg :: (ls F).map fun x => (⟨(text n x).toArray⟩ : ByteArray)) wr hc1 hc2 (by simp; have := un HLN; omega) (by simpa using hc3) (by
    have := un HTL
    rw [show (List.map (fun x : ByteArray => x.data.toList) (sg :: (ls F).map fun x => (⟨(text n x).toArray⟩ : ByteArray))).flatten = sgn k ++ ((ls F).map (text n)).flatten by
     rw [un HSG]; simp [Function.comp_def]]
    simp only [List.length_cons, List.length_append, List.length_nil] at this ⊢
    omega)
   rw [show (List.map (fun x : ByteArray => x.data.toList) (sg :: (ls F).map fun x => (⟨(text n x).toArray⟩ : ByteArray))).flatten = sgn k ++ ((ls F).map (text n)).flatten by
     rw [un HSG]; simp [Function.comp_def]] at hE
   rw [show (sg :: (ls F).map fun x => (⟨(text n x).toArray⟩ : ByteArray)).length = (ls F).length + 1 by simp] at hE
   have HE := H_ hE
   have HBw := H_ (show Below w.heap.size w wr from un hb)
   clear hE hc1 hc2 hc3 ho' ho hb hp
   go_wp2_with fail
   refine (un HE).mono ?_
   rintro e w6 ⟨rfl, hb6⟩
   have HB6 := H_ ((un HBw).trans (hb6.mono (un HBw).size))
   clear hb6
   go_wp2
   go_ret
   exact ⟨by simp, un HB6⟩
theorem text_subs (n : Nat) (kk : Nat) (F : Fl (n + 1)) (w : World) (p : Nat -> Prop) (d : Fd) (B : Nat) (hk6 : kk <= 6) (hr : right (n + 1) kk F = true) (hN : FNode (n + 1) w p d F) (hs : kd F = 4) :
  Calls Tryz.prog 51 #[.agg #[.map (some B)], d.val] w fun e w' => e = .returned (.string ⟨(text (n + 1) F).toArray⟩) /\ Below w.heap.size w w' := by
 have htl := text_long (n + 1) kk F hr
 have htm := tl_mono hk6
 have h6 : tl 6 <= 100000000 := by decide
 have hss : isSet (kd F) = false := by rw [hs]; rfl
 have hS1 : Sm1 F := by
  have h0 := hr
  rw [right] at h0
  simp only [Bool.and_eq_true, decide_eq_true_eq] at h0
  obtain ⟨_, h2, h3, h4, h5⟩ := fit_item h0.1.2 hss
  exact ⟨by omega, by omega, by omega, fun x hx => by have := h5 x hx; omega⟩
 rw [text, if_neg (by rw [hss]; simp), if_pos hs] at htl ⊢
 have hI := hN.is
 obtain ⟨k, a, v, sa, sn, sc, f, la, ln, lc⟩ := d
 have hkd : k = 4 := hI.k.trans hs
 have hnm : a = Fp.nm F := hI.a
 subst hkd
 have hb0 : Below w.heap.size w ((w.alloc (.cells #[.map (some B)] 75)).alloc (.cells #[.int .i64 4, .string a, .string v, .slice sa sn sc, .string f, .slice la ln lc] 25)) := ((Below.refl _ _).alloc (Nat.le_refl _) _).alloc (by simp) _
 have hbx : At ((w.alloc (.cells #[.map (some B)] 75)).alloc (.cells #[.int .i64 4, .string a, .string v, .slice sa sn sc, .string f, .slice la ln lc] 25)) (w.heap.size + 1) 0 ⟨4, a, v, sa, sn, sc, f, la, ln, lc⟩ := by
  have := At.new (w.alloc (.cells #[.map (some B)] 75)) ⟨4, a, v, sa, sn, sc, f, la, ln, lc⟩
  rwa [World.size_alloc] at this
 obtain ⟨V, hV⟩ : ∃ V, V = (w.alloc (.cells #[.map (some B)] 75)).alloc (.cells #[.int .i64 4, .string a, .string v, .slice sa sn sc, .string f, .slice la ln lc] 25) := ⟨_, rfl⟩
 rw [<- hV] at hb0 hbx
 obtain ⟨ps, hps⟩ : ∃ ps : ByteArray, ps = ⟨(Fp.pieces (va F) (an F) (fi F)).toArray⟩ := ⟨_, rfl⟩
 have HC := H_ fun z : Kw V => Kw.call z ((pieces_any F z.w p ⟨4, a, v, sa, sn, sc, f, la, ln, lc⟩ hI hS1 (hN.strs.below (hb0.trans (z.b.mono hb0.size)))).mono fun e w' ⟨he, hb⟩ => ⟨he, hb⟩)
 rw [<- hps] at HC
 have HIS := H_ fun W => isSet_any 4 W
 have hfl : (List.map (fun x : ByteArray => x.data.toList) [a, ⟨#[61]⟩, ps]).flatten = (Fp.nm F).data.toList ++ 61 :: Fp.pieces (va F) (an F) (fi F) := by rw [hps, hnm]; simp
 have HE := H_ fun (z : Kw V) => enclosed_any z.w.heap.size 0 3 [a, ⟨#[61]⟩, ps] (z.w.alloc (.cells #[.string a, .string ⟨#[61]⟩, .string ps] 9)) (fun j x h => by
   rw [World.cell?_alloc_at _ _ _ _ rfl]
   match j, h with
   | 0, h => cases h; rfl
   | 1, h => cases h; rfl
   | 2, h => cases h; rfl) (by simp) (by simp) (by simp) (by
   rw [hfl]
   simp only [List.length_cons, List.length_append, List.length_nil] at htl ⊢
   omega)
 rw [hfl] at HE
 obtain ⟨c0, c1, c2, c3, c4, c5⟩ := hbx
 dsimp only at c0 c1 c2 c3 c4 c5
 have q0 := fun z : Kw V => Kw.cell z c0 (D.lt_cell c0)
 have q1 := fun z : Kw V => Kw.cell z c1 (D.lt_cell c1)
 have q2 := fun z : Kw V => Kw.cell z c2 (D.lt_cell c2)
 have q3 := fun z : Kw V => Kw.cell z c3 (D.lt_cell c3)
 have q4 := fun z : Kw V => Kw.cell z c4 (D.lt_cell c4)
 have q5 := fun z : Kw V => Kw.cell z c5 (D.lt_cell c5)
 have hne : Nonempty (Kw V) := kwNonempty V
 have HB0 := H_ hb0
 have HVw := H_ hV
 clear hN hI hps hfl htl hnm hs hss hr hb0 hV hS1
 go_enter Tryz.func51, Tryz.ntmps51
 go_wp2_with fail
 refine ((un HIS) _).mono ?_
 rintro e w1 ⟨rfl, rfl⟩
 rw [<- un HVw]
 go_wp2_with fail
 refine wp_region_kw 4 (by kernel_rfl) (by kernel_rfl) ?_
 simp only [List.take_succ_cons, List.take_zero, List.drop_succ_cons, List.drop_zero]
 repeat (go_big_quiet_step (first | with_reducible exact (un HC) _))
 refine wpQuiet_nil ?_
 rintro w' ⟨z, rfl⟩
 go_wp2_with fail
 refine ((un HE) z).mono ?_
 rintro e w2 ⟨rfl, hb⟩
 have HB2 := H_ ((un HB0).trans ((z.b.trans ((((Below.refl z.w.heap.size z.w).alloc (Nat.le_refl _) _).trans (hb.mono (by simp))).mono z.b.size)).mono (un HB0).size))
 clear hb
 go_wp2
 simp only [onlyN]
 go_wp2
 go_ret
 exact ⟨by simp, un HB2⟩
theorem text_item (n : Nat) (kk : Nat) (F : Fl (n + 1)) (w : World) (p : Nat -> Prop) (d : Fd) (B : Nat) (hk6 : kk <= 6) (hr : right (n + 1) kk F = true) (hN : FNode (n + 1) w p d F) (hB : SignsAt w B) (hs4 : kd F ≠ 4) (hss : isSet (kd F) = false) :
  Calls Tryz.prog 51 #[.agg #[.map (some B)], d.val] w fun e w' => e = .returned (.string ⟨(text (n + 1) F).toArray⟩) /\ Below w.heap.size w w' := by
 have htl := text_long (n + 1) kk F hr
 have htm := tl_mono hk6
 have h6 : tl 6 <= 100000000 := by decide
 have hr' := hr
 rw [right] at hr'
 simp only [Bool.and_eq_true, decide_eq_true_eq, List.all_eq_true] at hr'
 have hf := hr'.1.2
 have hsn : hasSgn (kd F) = true := by
  rcases fit_bounds hf with h | h
  ·exact h.2
  ·exact absurd h.1 hs4
 have hva := (fit_item hf hss).2.1
 rw [text, if_neg (by rw [hss]; simp), if_neg hs4] at htl ⊢
 have hI := hN.is
 obtain ⟨k, a, v, sa, sn, sc, f, la, ln, lc⟩ := d
 have hkd : k = kd F := hI.k
 have hnm : a = Fp.nm F := hI.a
 have hv : v = va F := hI.v
 rw [<- hkd] at hss hs4 hsn htl ⊢
 have k4 : (k == 4) = false := beq_eq_false_iff_ne.2 hs4
 have hb0 : Below w.heap.size w ((w.alloc (.cells #[.map (some B)] 75)).alloc (.cells #[.int .i64 k, .string a, .string v, .slice sa sn sc, .string f, .slice la ln lc] 25)) := ((Below.refl _ _).alloc (Nat.le_refl _) _).alloc (by simp) _
 have hbx : At ((w.alloc (.cells #[.map (some B)] 75)).alloc (.cells #[.int .i64 k, .string a, .string v, .slice sa sn sc, .string f, .slice la ln lc] 25)) (w.heap.size + 1) 0 ⟨k, a, v, sa, sn, sc, f, la, ln, lc⟩ := by
  have := At.new (w.alloc (.cells #[.map (some B)] 75)) ⟨k, a, v, sa, sn, sc, f, la, ln, lc⟩
  rwa [World.size_alloc] at this
 obtain ⟨V, hV⟩ : ∃ V, V = (w.alloc (.cells #[.map (some B)] 75)).alloc (.cells #[.int .i64 k, .string a, .string v, .slice sa sn sc, .string f, .slice la ln lc] 25) := ⟨_, rfl⟩
 rw [<- hV] at hb0 hbx
 obtain ⟨ps, hps⟩ : ∃ ps : ByteArray, ps = pri false v := ⟨_, rfl⟩
 obtain ⟨sg, hsg⟩ : ∃ sg : ByteArray, sg = ⟨(sgn k).toArray⟩ := ⟨_, rfl⟩
 have HC := H_ fun z : Kw V => Kw.call z (E.filter_any v z.w (by rw [hv]; omega))
 rw [<- hps] at HC
 have q9 := fun z : Kw V => ((hB.below hb0).below z.b).look k hsn
 rw [<- hsg] at q9
 have HIS := H_ fun W => isSet_any k W
 rw [hss] at HIS
 have hfl : (List.map (fun x : ByteArray => x.data.toList) [a, sg, ps]).flatten = (Fp.nm F).data.toList ++ (sgn k ++ pv (va F)) := by rw [hps, hsg, hnm, hv]; simp [pv]
 have HE := H_ fun (z : Kw V) => enclosed_any z.w.heap.size 0 3 [a, sg, ps] (z.w.alloc (.cells #[.string a, .string sg, .string ps] 9)) (fun j x h => by
   rw [World.cell?_alloc_at _ _ _ _ rfl]
   match j, h with
   | 0, h => cases h; rfl
   | 1, h => cases h; rfl
   | 2, h => cases h; rfl) (by simp) (by simp) (by simp) (by
   rw [hfl]
   simp only [List.length_cons, List.length_append, List.length_nil] at htl ⊢
   omega)
 rw [hfl] at HE
 obtain ⟨c0, c1, c2, c3, c4, c5⟩ := hbx
 dsimp only at c0 c1 c2 c3 c4 c5
 have hbp : V.cell? ⟨w.heap.size, 0, none⟩ = some (.map (some B)) := by
  rw [hV, World.cell?_alloc_lt _ _ _ (by simp), World.cell?_alloc_at _ _ _ _ rfl]; rfl
 have q6 := fun z : Kw V => Kw.cell z hbp (D.lt_cell hbp)
 have q0 := fun z : Kw V => Kw.cell z c0 (D.lt_cell c0)
 have q1 := fun z : Kw V => Kw.cell z c1 (D.lt_cell c1)
 have q2 := fun z : Kw V => Kw.cell z c2 (D.lt_cell c2)
 have q3 := fun z : Kw V => Kw.cell z c3 (D.lt_cell c3)
 have q4 := fun z : Kw V => Kw.cell z c4 (D.lt_cell c4)
 have q5 := fun z : Kw V => Kw.cell z c5 (D.lt_cell c5)
 have hne : Nonempty (Kw V) := kwNonempty V
 have HB0 := H_ hb0
 have HVw := H_ hV
 clear hN hI hps hsg hfl htl hnm hss hr hb0 hV hr' hf hsn hva hkd hv hs4 hB hbp
 go_enter Tryz.func51, Tryz.ntmps51
 go_wp2_with fail
 refine ((un HIS) _).mono ?_
 rintro e w1 ⟨rfl, rfl⟩
 rw [<- un HVw]
 go_wp2_with fail
 refine wp_region_kw 10 (by kernel_rfl) (by kernel_rfl) ?_
 simp only [List.take_succ_cons, List.take_zero, List.drop_succ_cons, List.drop_zero]
 repeat (go_big_quiet_step (first | with_reducible exact (un HC) _))
 refine wpQuiet_nil ?_
 rintro w' ⟨z, rfl⟩
 go_wp2_with fail
 refine ((un HE) z).mono ?_
 rintro e w2 ⟨rfl, hb⟩
 have HB2 := H_ ((un HB0).trans ((z.b.trans ((((Below.refl z.w.heap.size z.w).alloc (Nat.le_refl _) _).trans (hb.mono (by simp))).mono z.b.size)).mono (un HB0).size))
 clear hb
 go_wp2
 simp only [onlyN]
 go_wp2
 go_ret
 exact ⟨by simp, un HB2⟩
theorem text_any : ∀ n, TextIs n
 | 0 => fun _ F => Empty.elim F
 | n + 1 => by
  have ih := text_any n
  intro k F w p d B hk hr hN hB
  cases hs : isSet (kd F) with
  | true => exact text_set n ih k F w p d B hk hr hN hB hs
  | false =>
   by_cases h4 : kd F = 4
   ·exact text_subs n k F w p d B hk hr hN h4
   ·exact text_item n k F w p d B hk hr hN hB h4 hs
end Go.Proofs.YtmenllnokgjdlaaGreatDoor.F
/-
 What filt.Print answers. Conditions: the package-level variables hold what the program's text lays.
-/
namespace Go.Proofs.YtmenllnokgjdlaaGreatDoor.F
open Go Go.RowKit Go.Shelf Fp
open D (H_ un)
attribute [local go_sem] Oper.semAt_some
def prtF {n : Nat} (F : Fl (n + 1)) : Value := if right (n + 1) 6 F then .tuple #[.string ⟨(text (n + 1) F).toArray⟩, .int .i64 0] else .tuple #[.string ⟨#[]⟩, .int .i64 80]
theorem print_any (n : Nat) (F : Fl (n + 1)) (A : Ad) (w : World) (p : Nat -> Prop) (d : Fd) (g : Glob A w) (hN : FNode (n + 1) w p d F) (hn : n <= 99) :
  Calls Tryz.prog 29 #[d.val] w fun e w' => e = .returned (prtF F) /\ Below w.heap.size w w' := by
 have hb0 : Below w.heap.size w (w.alloc d.obj) := (Below.refl _ _).alloc (Nat.le_refl _) _
 have hbx := At.new w d
 have H := H_ (check_any n F A (w.alloc d.obj) p d (g.alloc d.obj) (hN.below hb0) hn)
 have HT := H_ fun (W : World) (B : Nat) (hb : Below w.heap.size w W) (hB : SignsAt W B) (hr : right (n + 1) 6 F = true) => text_any (n + 1) 6 F W p d B (Nat.le_refl _) hr (hN.below hb) hB
 have HG := H_ g
 have HB := H_ hb0
 have HX := H_ hbx
 obtain ⟨k, a, v, sa, sn, sc, f, la, ln, lc⟩ := d
 unfold prtF
 cases hr : right (n + 1) 6 F
 ·rw [hr] at H
  clear hN hb0 hbx g HT
  rw [if_neg (by simp)]
  go_enter Tryz.func29, Tryz.ntmps29
  go_wp2_with fail
  refine (un H).mono ?_
  rintro e w1 ⟨hb, hp⟩
  rw [if_neg (by simp)] at hp
  obtain ⟨u, rfl, hE⟩ := hp
  obtain ⟨T, x, rfl⟩ := hE.form
  have HB1 := H_ ((un HB).trans (hb.mono (un HB).size))
  have HO := H_ (errnoOf_any _ A w1 ((un HG).next (un HB1)) hE)
  clear hb hE H
  go_wp2_with fail
  refine (un HO).mono ?_
  rintro e w2 ⟨rfl, hb⟩
  have HB2 := H_ ((un HB1).trans (hb.mono (un HB1).size))
  clear hb
  go_wp2
  go_ret2
  exact ⟨rfl, un HB2⟩
 ·rw [hr] at H
  have HR := H_ hr
  clear hN hb0 hbx g hr
  rw [if_pos rfl]
  obtain ⟨tx, htx⟩ : ∃ tx : ByteArray, tx = ⟨(text (n + 1) F).toArray⟩ := ⟨_, rfl⟩
  rw [<- htx] at HT ⊢
  clear htx
  go_enter Tryz.func29, Tryz.ntmps29
  go_wp2_with fail
  refine (un H).mono ?_
  rintro e w1 ⟨hb, hp⟩
  rw [if_pos rfl] at hp
  subst hp
  have hB1 := (un HB).trans (hb.mono (un HB).size)
  have hS : At w1.drew w.heap.size 0 ⟨k, a, v, sa, sn, sc, f, la, ln, lc⟩ := ((un HX).of (hb.block _ (un HX).lt)).of rfl
  have HB1 := H_ (show Below w.heap.size w w1.drew from hB1.drew)
  clear hb H hB1
  go_wp2_with fail
  refine wp_region_held (S := fun w' => At w' w.heap.size 0 ⟨k, a, v, sa, sn, sc, f, la, ln, lc⟩) (by kernel_rfl) ?_
  change wpAnyH _ _ _ _ _ 6 #[false, false, false, false, false, false] _ w1.drew
  refine wpAnyH_take (i := 2) (v := .agg #[.int .i64 k, .string a, .string v, .slice sa sn sc, .string f, .slice la ln lc]) rfl (by kernel_rfl) (by kernel_rfl) (by kernel_rfl) (fun _ _ _ h => h) (Or.inl ⟨by kernel_rfl, by
   intro w2 hS1
   obtain ⟨c0, c1, c2, c3, c4, c5⟩ := hS1
   dsimp only at c0 c1 c2 c3 c4 c5
   go_simp
   try rfl⟩) hS ?_
  simp only [Act.put, nrm]
  refine rdyy 0 rfl (fun K hK => ?_)
  rw [if_pos (by kernel_rfl)]
  go_wp2_with fail
  refine (signs_any _).mono ?_
  rintro e w2 ⟨rfl, hb, hsg⟩
  have hS2 : At w2 w.heap.size 0 ⟨k, a, v, sa, sn, sc, f, la, ln, lc⟩ := hS.of (hb.block _ hS.lt)
  have HB2 := H_ ((un HB1).trans (hb.mono (un HB1).size))
  have HTT := H_ ((un HT) w2 _ (un HB2) hsg (un HR))
  generalize w1.drew.heap.size = bb at *
  clear hb hsg HT
  go_wp2
  refine hK.out _ _ hS2 (fun _ => ?_)
  clear hK K
  simp only [Act.put, nrm]
  refine tkk 1 (.agg #[.map (some bb)]) rfl (by intro w3 hS1; go_simp; try rfl) hS2 ?_
  simp only [Act.put, nrm]
  refine rdyy 3 rfl (fun K hK => ?_)
  rw [if_pos (by kernel_rfl)]
  go_wp2_with fail
  refine (un HTT).mono ?_
  rintro e w3 ⟨rfl, hb⟩
  have hS3 : At w3 w.heap.size 0 ⟨k, a, v, sa, sn, sc, f, la, ln, lc⟩ := hS2.of (hb.block _ hS2.lt)
  have HB3 := H_ ((un HB2).trans (hb.mono (un HB2).size))
  clear hb HTT
  go_wp2
  refine hK.out _ _ hS3 (fun _ => ?_)
  clear hK K
  simp only [Act.put, nrm]
  refine tkk 4 (.string tx) rfl (by intro w4 hS1; go_simp; try rfl) hS3 ?_
  simp only [Act.put, nrm]
  refine tkk 5 (.int .i64 0) rfl (by intro w4 hS1; go_simp; try rfl) hS3 ?_
  simp only [Act.put, nrm]
  refine wpAnyH_done (by kernel_rfl) ?_ _
  go_wp2
  go_ret2
  exact ⟨rfl, un HB3⟩
end Go.Proofs.YtmenllnokgjdlaaGreatDoor.F
/-
 What the law file's Cut leaves of a filter that lies in memory, and a filter among the arguments of a law, opened. Conditions: none.
-/
namespace Go.Proofs.YtmenllnokgjdlaaGreatDoor.F
open Go Go.RowKit Go.Shelf Go.Deep Go.ChangeShapes Fp
section
variable {H : Type} {enc : TypeId × Value -> H} {P : Program} {w : World} {base : Nat} {spare : Nat -> Bool} {held : Bool}
end
end Go.Proofs.YtmenllnokgjdlaaGreatDoor.F
/-
 Lengths as plain numbers and lists of bytes: least bytes, what bytes tell. Plain mathematics; no program. Conditions: none.
-/
namespace Sz
def wd (n : Nat) : Nat := if n = 0 then 0 else if n < 256 then 1 else if n < 65536 then 2 else if n < 16777216 then 3 else 4
def be : Nat -> Nat -> List UInt8
 | 0, _ => []
 | k + 1, n => UInt8.ofNat (n / 256 ^ k) :: be k n
def least (n : Nat) : List UInt8 := if n < 128 then [UInt8.ofNat n] else UInt8.ofNat (128 + wd n) :: be (wd n) n
def numFrom (m : Nat) (l : List UInt8) : Nat := l.foldl (fun a b => 256 * a + b.toNat) m
theorem numFrom_snoc (m : Nat) (l : List UInt8) (x : UInt8) : numFrom m (l ++ [x]) = 256 * numFrom m l + x.toNat := by simp [numFrom]
theorem numFrom_lt (m : Nat) (l : List UInt8) : numFrom m l < (m + 1) * 256 ^ l.length := by
 induction l generalizing m with
 | nil => simp [numFrom]
 | cons x l ih =>
  have h := ih (256 * m + x.toNat)
  have hx : x.toNat < 256 := x.toNat_lt
  have e : numFrom m (x :: l) = numFrom (256 * m + x.toNat) l := rfl
  rw [e, List.length_cons, Nat.pow_succ]
  have h2 : (256 * m + x.toNat + 1) * 256 ^ l.length <= ((m + 1) * 256) * 256 ^ l.length := Nat.mul_le_mul_right _ (by omega)
  have h3 : (m + 1) * 256 * 256 ^ l.length = (m + 1) * (256 ^ l.length * 256) := by rw [Nat.mul_assoc, Nat.mul_comm 256]
  omega
theorem numFrom_step (m : Nat) (l : List UInt8) (c : Nat) (hl : l.length < c) (hm : (m + 1) * 256 ^ c <= 4294967296) : 256 * numFrom m l + 255 < 4294967296 := by
 have h := numFrom_lt m l
 have h2 : (m + 1) * 256 ^ (l.length + 1) <= (m + 1) * 256 ^ c := Nat.mul_le_mul_left _ (Nat.pow_le_pow_right (by omega) hl)
 rw [Nat.pow_succ] at h2
 have h3 : (m + 1) * (256 ^ l.length * 256) = (m + 1) * 256 ^ l.length * 256 := by rw [Nat.mul_assoc]
 omega
def dec (l : List UInt8) (a : Int) : Int × Int × Int :=
 if a < 0 \/ (l.length : Int) <= a then (0, 0, 10)
 else if (l.getD a.toNat 0).toNat < 128 then ((l.getD a.toNat 0).toNat, a + 1, 0)
 else if (l.getD a.toNat 0).toNat = 128 \/ 132 < (l.getD a.toNat 0).toNat then (0, 0, 11)
 else if l.length - (a.toNat + 1) < (l.getD a.toNat 0).toNat - 128 then (0, 0, 10)
 else if 16777215 < numFrom 0 ((l.drop (a.toNat + 1)).take ((l.getD a.toNat 0).toNat - 128)) then (0, 0, 12)
 else (numFrom 0 ((l.drop (a.toNat + 1)).take ((l.getD a.toNat 0).toNat - 128)), a + 1 + ((l.getD a.toNat 0).toNat - 128 : Nat), 0)
end Sz
/-
 Laws on least bytes and on what bytes tell: plain mathematics; no program. Conditions: none.
-/
namespace Sz
theorem wd_le (n : Nat) : wd n <= 4 := by
 unfold wd; repeat (split <;> try omega)
theorem lt_pow_wd (n : Nat) (h : n < 4294967296) : n < 256 ^ wd n := by
 unfold wd
 split
 ·omega
 ·split
  ·omega
  ·split
   ·omega
   ·split <;> omega
theorem wd_min (n c : Nat) (hc : c <= 4) (h : n < 256 ^ c) : wd n <= c := by
 have hc' : c = 0 \/ c = 1 \/ c = 2 \/ c = 3 \/ c = 4 := by omega
 unfold wd
 rcases hc' with rfl | rfl | rfl | rfl | rfl <;> simp at h <;> repeat (split <;> try omega)
theorem be_length (k n : Nat) : (be k n).length = k := by
 induction k with
 | zero => rfl
 | succ k ih => simp [be, ih]
theorem numFrom_be (k n m : Nat) : numFrom m (be k n) = m * 256 ^ k + n % 256 ^ k := by
 induction k generalizing m with
 | zero => simp [be, numFrom, Nat.mod_one]
 | succ k ih =>
  have e : numFrom m (be (k + 1) n) = numFrom (256 * m + (UInt8.ofNat (n / 256 ^ k)).toNat) (be k n) := rfl
  have hx : (UInt8.ofNat (n / 256 ^ k)).toNat = n / 256 ^ k % 256 := by simp
  rw [e, ih, hx, Nat.mod_pow_succ, Nat.pow_succ, Nat.add_mul]
  have a1 : 256 * m * 256 ^ k = m * (256 ^ k * 256) := by rw [Nat.mul_comm 256 m, Nat.mul_assoc, Nat.mul_comm 256]
  have a2 : n / 256 ^ k % 256 * 256 ^ k = 256 ^ k * (n / 256 ^ k % 256) := Nat.mul_comm _ _
  omega
theorem numFrom_inj : ∀ (a b : List UInt8) (m m' : Nat), a.length = b.length -> numFrom m a = numFrom m' b -> m = m' /\ a = b
 | [], [], _, _, _, h => ⟨h, rfl⟩
 | x :: a, y :: b, m, m', hl, h => by
  have h' : numFrom (256 * m + x.toNat) a = numFrom (256 * m' + y.toNat) b := h
  obtain ⟨e1, e2⟩ := numFrom_inj a b _ _ (by simpa using hl) h'
  have hx := x.toNat_lt
  have hy := y.toNat_lt
  have e3 : x = y := UInt8.toNat.inj (by omega)
  exact ⟨by omega, by rw [e2, e3]⟩
 | [], _ :: _, _, _, hl, _ => by simp at hl
 | _ :: _, [], _, _, hl, _ => by simp at hl
theorem least_length (n : Nat) : (least n).length = if n < 128 then 1 else 1 + wd n := by
 unfold least
 split
 ·rfl
 ·simp [be_length]; omega
theorem dec_shape (l : List UInt8) (a n p E : Int) (h : dec l a = (n, p, E)) : (E ≠ 0 -> n = 0 /\ p = 0) /\ (E = 0 -> ∃ k n' p' : Nat, a = k /\ n = n' /\ p = p' /\ k < p' /\ p' <= l.length /\ n' <= 16777215 /\
  (least n').length <= p' - k /\ (((least n').length = p' - k) ↔ (l.drop k).take (p' - k) = least n')) := by
 unfold dec at h
 by_cases h0 : a < 0 \/ (l.length : Int) <= a
 ·rw [if_pos h0] at h
  cases h
  exact ⟨fun _ => ⟨rfl, rfl⟩, fun e => by cases e⟩
 ·rw [if_neg h0] at h
  obtain ⟨k, rfl⟩ := Int.eq_ofNat_of_zero_le (show 0 <= a by omega)
  have hk : k < l.length := by omega
  have hx : l.getD (k : Int).toNat 0 = l[k] := by simp [List.getD_eq_getElem?_getD, hk]
  rw [hx, Int.toNat_natCast] at h
  have hd : l.drop k = l[k] :: l.drop (k + 1) := List.drop_eq_getElem_cons hk
  have hlt := l[k].toNat_lt
  by_cases h1 : l[k].toNat < 128
  ·rw [if_pos h1] at h
   cases h
   have el : least l[k].toNat = [l[k]] := by unfold least; rw [if_pos h1]; simp
   refine ⟨fun e => absurd rfl e, fun _ => ⟨k, l[k].toNat, k + 1, rfl, rfl, rfl, by omega, by omega, by omega, ?_, ?_⟩⟩
   ·rw [el]; simp
   ·rw [el, hd, show k + 1 - k = 1 by omega]; exact ⟨fun _ => rfl, fun _ => rfl⟩
  ·rw [if_neg h1] at h
   by_cases h2 : l[k].toNat = 128 \/ 132 < l[k].toNat
   ·rw [if_pos h2] at h
    cases h
    exact ⟨fun _ => ⟨rfl, rfl⟩, fun e => by cases e⟩
   ·rw [if_neg h2] at h
    by_cases h3 : l.length - (k + 1) < l[k].toNat - 128
    ·rw [if_pos h3] at h
     cases h
     exact ⟨fun _ => ⟨rfl, rfl⟩, fun e => by cases e⟩
    ·rw [if_neg h3] at h
     obtain ⟨c, hc⟩ : ∃ c, c = l[k].toNat - 128 := ⟨l[k].toNat - 128, Eq.refl _⟩
     rw [<- hc] at h h3
     obtain ⟨bs, hbs⟩ : ∃ bs, bs = (l.drop (k + 1)).take c := ⟨_, rfl⟩
     rw [<- hbs] at h
     have hbl : bs.length = c := by rw [hbs]; simp; omega
     by_cases h4 : 16777215 < numFrom 0 bs
     ·rw [if_pos h4] at h
      cases h
      exact ⟨fun _ => ⟨rfl, rfl⟩, fun e => by cases e⟩
     ·rw [if_neg h4] at h
      cases h
      have hN := numFrom_lt 0 bs
      rw [hbl] at hN
      have hxe : l[k] = UInt8.ofNat (128 + c) := UInt8.toNat.inj (by simp; omega)
      have htk : (l.drop k).take (k + 1 + c - k) = UInt8.ofNat (128 + c) :: bs := by
       rw [hd, show k + 1 + c - k = c + 1 by omega, List.take_succ_cons, <- hbs, hxe]
      refine ⟨fun e => absurd rfl e, fun _ => ⟨k, numFrom 0 bs, k + 1 + c, rfl, rfl, by simp, by omega, by omega, by omega, ?_, ?_⟩⟩
      ·rw [least_length]
       have := wd_min (numFrom 0 bs) c (by omega) (by omega)
       split <;> omega
      ·rw [htk]
       constructor
       ·intro hl
        rw [least_length] at hl
        unfold least
        by_cases h5 : numFrom 0 bs < 128
        ·rw [if_pos h5] at hl; omega
        ·rw [if_neg h5] at hl ⊢
         have hw : wd (numFrom 0 bs) = c := by omega
         rw [hw]
         have hb := numFrom_inj bs (be c (numFrom 0 bs)) 0 0 (by rw [be_length, hbl]) (by rw [numFrom_be, Nat.zero_mul, Nat.zero_add, Nat.mod_eq_of_lt (by omega)])
         rw [<- hb.2]
       ·intro he
        rw [<- he]
        simp [hbl]
        omega
end Sz
/-
 Trees of tags as plain data (so many levels at most), their bytes, and what is read of bytes: plain mathematics; no program. Conditions: none.
-/
namespace Tv
def Tr : Nat -> Type
 | 0 => Empty
 | n + 1 => Int × ByteArray × List (Tr n)
def mk {n : Nat} (t : Int) (d : ByteArray) (ks : List (Tr n)) : Tr (n + 1) := (t, d, ks)
def tag {n : Nat} (T : Tr (n + 1)) : Int := (show Int × ByteArray × List (Tr n) from T).1
def dat {n : Nat} (T : Tr (n + 1)) : ByteArray := (show Int × ByteArray × List (Tr n) from T).2.1
def kids {n : Nat} (T : Tr (n + 1)) : List (Tr n) := (show Int × ByteArray × List (Tr n) from T).2.2
@[simp] theorem tag_mk {n : Nat} (t : Int) (d : ByteArray) (ks : List (Tr n)) : tag (mk t d ks) = t := rfl
@[simp] theorem dat_mk {n : Nat} (t : Int) (d : ByteArray) (ks : List (Tr n)) : dat (mk t d ks) = d := rfl
@[simp] theorem kids_mk {n : Nat} (t : Int) (d : ByteArray) (ks : List (Tr n)) : kids (mk t d ks) = ks := rfl
def isIn (t : Int) : Bool := decide (t / 32 % 2 = 1)
def fitB (t : Int) (d : Nat) (k : Nat) : Bool := decide (0 <= t /\ t <= 255 /\ t % 32 ≠ 31 /\ (isIn t = true -> d = 0) /\ (isIn t = false -> k = 0))
def shape : (n : Nat) -> Nat -> Tr n -> Bool
 | 0, _, t => Empty.elim t
 | n + 1, k, T => decide (0 < k) && fitB (tag T) (dat T).size (kids T).length && (kids T).all (shape n (k - 1))
def count : (n : Nat) -> Tr n -> Nat
 | 0, t => Empty.elim t
 | n + 1, T => 1 + ((kids T).map (count n)).sum
def enc : (n : Nat) -> Tr n -> List UInt8
 | 0, t => Empty.elim t
 | n + 1, T => UInt8.ofNat (tag T).toNat :: (Sz.least ((dat T).data.toList ++ ((kids T).map (enc n)).flatten).length ++ ((dat T).data.toList ++ ((kids T).map (enc n)).flatten))
def body {n : Nat} (T : Tr (n + 1)) : List UInt8 := (dat T).data.toList ++ ((kids T).map (enc n)).flatten
theorem enc_succ {n : Nat} (T : Tr (n + 1)) : enc (n + 1) T = UInt8.ofNat (tag T).toNat :: (Sz.least (body T).length ++ body T) := rfl
def small : (n : Nat) -> Tr n -> Bool
 | 0, t => Empty.elim t
 | n + 1, T => decide ((dat T).size <= 9000) && (kids T).all (small n)
def allB {α : Type} (f : α -> α -> Bool) : List α -> List α -> Bool
 | [], [] => true
 | x :: xs, y :: ys => f x y && allB f xs ys
 | _, _ => false
def same : (n : Nat) -> Tr n -> Tr n -> Bool
 | 0, t, _ => Empty.elim t
 | n + 1, A, B => decide (tag A = tag B) && ((dat A).data.toList == (dat B).data.toList) && allB (same n) (kids A) (kids B)
def okL {α : Type} (f : Nat -> α -> Option Nat) : Nat -> List α -> Option Nat
 | c, [] => some c
 | c, x :: xs => (f c x).bind fun c' => okL f c' xs
def okT : (n : Nat) -> Nat -> Nat -> Tr n -> Option Nat
 | 0, _, _, t => Empty.elim t
 | n + 1, c, deep, T => if c < 200 /\ deep <= 12 /\ fitB (tag T) (dat T).size (kids T).length = true then okL (fun c' x => okT n c' (deep + 1) x) (c + 1) (kids T) else none
def right {n : Nat} (T : Tr n) : Bool := shape n 12 T && decide (count n T <= 200) && decide ((enc n T).length <= 4000)
def readL {α : Type} (rd : Nat -> Nat -> Except Int (α × Nat × Nat)) : Nat -> Nat -> Nat -> Nat -> Except Int (List α × Nat)
 | 0, _, _, c => .ok ([], c)
 | f + 1, p, stop, c =>
  if p < stop then
   match rd p c with
   | .error e => .error e
   | .ok (x, nx, c') =>
    match readL rd f nx stop c' with
    | .error e => .error e
    | .ok (xs, c'') => .ok (x :: xs, c'')
  else .ok ([], c)
def headT (l : List UInt8) (p stop : Nat) : Except Int (Nat × Nat × Nat) :=
 if p = stop then .error 10
 else if (l.getD p 0).toNat % 32 = 31 then .error 20
 else if (Sz.dec (l.take stop) ((p : Int) + 1)).2.2 ≠ 0 then .error (Sz.dec (l.take stop) ((p : Int) + 1)).2.2
 else if (stop : Int) - (Sz.dec (l.take stop) ((p : Int) + 1)).2.1 < (Sz.dec (l.take stop) ((p : Int) + 1)).1 then .error 10
 else .ok ((l.getD p 0).toNat, (Sz.dec (l.take stop) ((p : Int) + 1)).2.1.toNat, (Sz.dec (l.take stop) ((p : Int) + 1)).2.1.toNat + (Sz.dec (l.take stop) ((p : Int) + 1)).1.toNat)
def readT (l : List UInt8) : (k : Nat) -> Nat -> Nat -> Nat -> Except Int (Tr (k + 1) × Nat × Nat)
 | 0, _, _, _ => .error 21
 | k + 1, p, stop, c =>
  if c = 200 then .error 21
  else
   match headT l p stop with
   | .error e => .error e
   | .ok (t, a, b) =>
    if isIn t = true then
     match readL (fun q c' => readT l k q b c') (b - a) a b (c + 1) with
     | .error e => .error e
     | .ok (ks, c') => .ok (mk t ⟨#[]⟩ ks, b, c')
    else .ok (mk t ⟨((l.drop a).take (b - a)).toArray⟩ [], b, c + 1)
end Tv
/-
 Filters' trees, plainly: what tree a filter has, what filter is read of a tree, and that these tell each other; what the document says of layer 9, and what follows. Conditions: none.
-/
namespace Go.Proofs.YtmenllnokgjdlaaGreatDoor.Gp
open Fp (Fl kd nm va an fi ls isSet fitF fitB)
open Tv (Tr)
def tg (k : Int) : Int := if k = 7 then 135 else 160 + k
def lf {n : Nat} (t : Int) (d : ByteArray) : Tr (n + 1) := Tv.mk t d []
def pcs {n : Nat} (v : ByteArray) (l : List ByteArray) (f : ByteArray) : List (Tr (n + 1)) :=
 (if v.size = 0 then [] else [lf 128 v]) ++ (l.map (lf 129) ++ (if f.size = 0 then [] else [lf 130 f]))
def tree : (n : Nat) -> Fl n -> Tr (n + 2)
 | 0, F => Empty.elim F
 | n + 1, F =>
  if kd F = 7 then lf 135 (nm F)
  else if isSet (kd F) then Tv.mk (tg (kd F)) ⟨#[]⟩ ((ls F).map (tree n))
  else if kd F = 4 then Tv.mk 164 ⟨#[]⟩ [lf 4 (nm F), Tv.mk 48 ⟨#[]⟩ (pcs (va F) (an F) (fi F))]
  else Tv.mk (tg (kd F)) ⟨#[]⟩ [lf 4 (nm F), lf 4 (va F)]
def up : (n : Nat) -> Tr n -> Tr (n + 1)
 | 0, t => Empty.elim t
 | n + 1, T => Tv.mk (Tv.tag T) (Tv.dat T) ((Tv.kids T).map (up n))
def datN : (n : Nat) -> Tr n -> ByteArray
 | 0, t => Empty.elim t
 | _ + 1, T => Tv.dat T
def tagN : (n : Nat) -> Tr n -> Int
 | 0, t => Empty.elim t
 | _ + 1, T => Tv.tag T
def kidsN : (n : Nat) -> Tr n -> List (Tr (n - 1))
 | 0, t => Empty.elim t
 | _ + 1, T => Tv.kids T
def kindT (t : Int) : Option Int := if t = 135 then some 7 else if 160 <= t /\ t <= 168 /\ t ≠ 167 then some (t - 160) else none
def put (s : ByteArray × List ByteArray × ByteArray) (t : Int) (d : ByteArray) : ByteArray × List ByteArray × ByteArray :=
 if t = 128 then (d, s.2.1, s.2.2) else if t = 129 then (s.1, s.2.1 ++ [d], s.2.2) else if t = 130 then (s.1, s.2.1, d) else s
def take {n : Nat} (ks : List (Tr n)) : ByteArray × List ByteArray × ByteArray := ks.foldl (fun s x => put s (tagN n x) (datN n x)) (⟨#[]⟩, [], ⟨#[]⟩)
def asked {n m : Nat} (k : Int) (T : Tr (n + 1)) : Option (Fl (m + 1)) :=
 if k = 7 then some (Fp.mk 7 (Tv.dat T) ⟨#[]⟩ [] ⟨#[]⟩ [])
 else match Tv.kids T with
  | [x, y] => if k ≠ 4 then some (Fp.mk k (datN n x) (datN n y) [] ⟨#[]⟩ [])
   else if 6 < (kidsN n y).length then none
   else some (Fp.mk 4 (datN n x) (take (kidsN n y)).1 (take (kidsN n y)).2.1 (take (kidsN n y)).2.2 [])
  | _ => none
abbrev up2 (n : Nat) (T : Tr n) : Tr (n + 2) := up (n + 1) (up n T)
def cond {n : Nat} (k : Int) (T : Tr (n + 1)) : Option (Fl (n + 1)) := match (asked k T : Option (Fl (n + 1))) with
 | none => none
 | some f => if fitF f = true /\ Tv.same (n + 3) (tree (n + 1) f) (up2 (n + 1) T) = true then some f else none
def mpT {α β : Type} (f : α -> Option β) : List α -> Option (List β)
 | [] => some []
 | x :: r => match f x, mpT f r with
  | some a, some b => some (a :: b)
  | _, _ => none
def rd : (n : Nat) -> Nat -> Tr n -> Option (Fl n)
 | 0, _, t => Empty.elim t
 | n + 1, d, T => match kindT (Tv.tag T) with
  | none => none
  | some k => if 6 < d then none
   else if isSet k then
    if (Tv.dat T).size ≠ 0 then none
    else match mpT (rd n (d + 1)) (Tv.kids T) with
     | none => none
     | some l => if l.length = 0 \/ (if k = 2 then 1 else 8) < l.length then none else some (Fp.mk k ⟨#[]⟩ ⟨#[]⟩ [] ⟨#[]⟩ l)
   else cond k T
theorem mpT_some {α β : Type} {f : α -> Option β} : ∀ {xs : List α} {l : List β}, mpT f xs = some l -> l.length = xs.length /\ ∀ (i : Nat) x y, xs[i]? = some x -> l[i]? = some y -> f x = some y
 | [], l, h => by cases h; exact ⟨rfl, fun i x y h => by simp at h⟩
 | x :: xs, l, h => by
  rw [mpT] at h
  cases h1 : f x with
  | none => rw [h1] at h; cases h
  | some a =>
   cases h2 : mpT f xs with
   | none => rw [h1, h2] at h; cases h
   | some b =>
    rw [h1, h2] at h
    cases h
    obtain ⟨h3, h4⟩ := mpT_some h2
    refine ⟨by simp [h3], fun i u v hu hv => ?_⟩
    cases i with
    | zero => simp at hu hv; subst hu; subst hv; exact h1
    | succ i => exact h4 i u v (by simpa using hu) (by simpa using hv)
theorem kindT_tg {k : Int} (h0 : 0 <= k) (h1 : k <= 8) : kindT (tg k) = some k := by
 unfold kindT tg
 by_cases h7 : k = 7
 ·subst h7; rfl
 ·rw [if_neg h7, if_neg (by omega), if_pos (by omega)]
  congr 1
  omega
theorem tg_kindT {t k : Int} (h : kindT t = some k) : tg k = t /\ 0 <= k /\ k <= 8 := by
 unfold kindT at h
 split at h
 ·cases h; rename_i h1; subst h1; exact ⟨rfl, by omega, by omega⟩
 ·split at h
  ·cases h
   rename_i h1
   unfold tg
   rw [if_neg (by omega)]
   omega
  ·cases h
theorem fit_kind {n : Nat} {F : Fl (n + 1)} (h : fitF F = true) : 0 <= kd F /\ kd F <= 8 := by
 unfold fitF fitB at h
 split at h
 ·rename_i hs
  unfold isSet at hs
  simp at hs
  omega
 ·split at h
  ·omega
  ·split at h
   ·omega
   ·cases h
theorem asked_ls {n m : Nat} {k : Int} {T : Tr (n + 1)} {f : Fl (m + 1)} (h : asked k T = some f) : ls f = [] /\ (kd f = k) := by
 unfold asked at h
 split at h
 ·cases h; rename_i h7; exact ⟨rfl, h7.symm⟩
 ·split at h
  ·split at h
   ·cases h; exact ⟨rfl, rfl⟩
   ·rename_i h4
    split at h
    ·cases h
    ·cases h; exact ⟨rfl, (Classical.not_not.1 h4).symm⟩
  ·cases h
end Go.Proofs.YtmenllnokgjdlaaGreatDoor.Gp
