/- Several texts in one: GIter, GSigns. Each says what it proves, and its conditions. -/
import Derived.Test.YtmenllnokgjdlaaGreatDoorG39
set_option linter.unusedSimpArgs false
set_option maxHeartbeats 4000000
set_option maxRecDepth 100000
/-
 The makers in a maker (inside), and what a filter of pieces asks for (pieces), one by one. Conditions: none.
-/
namespace Go.Proofs.YtmenllnokgjdlaaGreatDoor.G
open Go Go.RowKit Go.Shelf Gp
open D (H_ un)
open F (But At FNode Strs Is)
open Fp (Fl kd nm va an fi ls)
attribute [local go_sem] Oper.semAt_some
abbrev mval (d : FD) (B : Nat) : Value := .agg (mcs d B)
abbrev mobj (d : FD) (B : Nat) : Obj := .cells (mcs d B) 80
theorem box7 {W : World} {b B : Nat} {d : FD} {T : TypeId} (h : W.heap[b]? = some (.cells (mcs d B) T (0, 0))) :
  W.cell? ⟨b, 0, none⟩ = some (.int .i64 d.k) /\ W.cell? ⟨b, 1, none⟩ = some (.string d.a) /\ W.cell? ⟨b, 2, none⟩ = some (.string d.v) /\ W.cell? ⟨b, 3, none⟩ = some (.slice d.sa d.sn d.sc) /\ W.cell? ⟨b, 4, none⟩ = some (.string d.f) /\ W.cell? ⟨b, 5, none⟩ = some (.slice d.la d.ln d.lc) /\ W.cell? ⟨b, 6, none⟩ = some (.map (some B)) := by
 refine ⟨?_, ?_, ?_, ?_, ?_, ?_, ?_⟩ <;> simp [World.cell?, h]
theorem inside_any (d : FD) (B : Nat) (w : World) :
  Calls Tryz.prog 79 #[mval d B] w fun e w' => e = .returned (.func (.func 116) #[] #[.pointer (some ⟨w.heap.size, 0, none⟩)]) /\ w' = w.alloc (mobj d B) := by
 obtain ⟨k, a, v, sa, sn, sc, f, la, ln, lc⟩ := d
 go_enter Tryz.func79, Tryz.ntmps79
 go_wp2
 go_ret
 exact ⟨rfl, rfl⟩
theorem pieces_any (d : FD) (B : Nat) (w : World) :
  Calls Tryz.prog 81 #[mval d B] w fun e w' => e = .returned (.func (.func 117) #[] #[.pointer (some ⟨w.heap.size, 0, none⟩)]) /\ w' = w.alloc (mobj d B) := by
 obtain ⟨k, a, v, sa, sn, sc, f, la, ln, lc⟩ := d
 go_enter Tryz.func81, Tryz.ntmps81
 go_wp2
 go_ret
 exact ⟨rfl, rfl⟩
theorem inside1_any {n : Nat} (F : Fl (n + 1)) (w0 : World) (d : FD) (B bm l : Nat) (hN : FNode (n + 1) w0 (fun b => b < w0.heap.size) d F)
  (J : Nat -> World -> Prop) (hJ : ∀ j X Y, Below X.heap.size X Y -> J j X -> J j Y)
  (hJw : ∀ j X, J j X -> Below w0.heap.size w0 X /\ X.heap[bm]? = some (.cells (mcs d B) 80 (0, 0)))
  (hY : ∀ j (x : FD) (G : Fl n) W m, J j W -> (ls F)[j]? = some G -> FNode n W (fun b => b < w0.heap.size) x G -> YieldAt Fence.wide m Tryz.prog l #[mval x B] W fun e W2 => e = .returned (.bool true) /\ J (j + 1) W2)
  (W : World) (h0 : J 0 W) :
  CallsIn Fence.wide 6 Tryz.prog 116 #[.func (.yield l) #[] #[], .pointer (some ⟨bm, 0, none⟩)] W fun e W' => (∃ v, e = .returned v) /\ J (ls F).length W' := by
 have hln : d.ln = (ls F).length := hN.is.ln
 have hk' : (d.ln : Int) <= 1000 := by have := hN.sm.ln; omega
 obtain ⟨_, _, _, _, _, x5, x6⟩ := box7 (hJw 0 W h0).2
 have HN := H_ hN
 have HJ := H_ hJ
 have HJw := H_ hJw
 have HY := H_ hY
 have H0 := H_ h0
 have HL := H_ hln
 obtain ⟨k, a, v, sa, sn, sc, f, la, ln, lc⟩ := d
 dsimp only at x5 x6 hk' HL
 clear hN hJ hJw hY h0 hln
 refine callsIn_of_wp Tryz.func116 rfl trivial ?_ rfl
 simp only [Tryz.ntmps116, List.size_toArray, List.length_cons, List.length_nil, Nat.reduceAdd, Nat.reduceSub, Array.replicate_succ, Array.replicate_zero, List.push_toArray, List.append_toArray, List.nil_append, List.cons_append]
 gi_wp2
 gi_loopw [9] (fun i wr => ∃ j : Nat, j <= ln /\ i = .int .i64 (j : Int) /\ Hid (J j wr)) (fun i _ => ln - (intOf i).toNat)
 case atStart => exact ⟨0, Nat.zero_le _, rfl, H0⟩
 case round =>
  obtain ⟨j, hj, rfl, hjj⟩ := hrel
  clear x5 x6 H0
  have hln := un HL
  by_cases hlt : j < ln
  ·have hltx : j < (ls F).length := by omega
   obtain ⟨hbw, hbm⟩ := (un HJw) j wr (un hjj)
   obtain ⟨g, off, hla⟩ := (un HN).kids
   have hla : la = some ⟨g, off, none⟩ := hla.resolve_right (fun e => by rw [e] at hltx; cases hltx)
   have hNw := (un HN).of (W' := wr) (fun b hb _ => hbw.block b hb)
   obtain ⟨⟨k1, a1, v1, sa1, sn1, sc1, f1, la1, ln1, lc1⟩, ⟨q0, q1, q2, q3, q4, q5⟩, hN1⟩ := hNw.kid hla hltx
   dsimp only at q0 q1 q2 q3 q4 q5
   have hal := (Below.refl wr.heap.size wr).alloc (Nat.le_refl _) (fobj ⟨k1, a1, v1, sa1, sn1, sc1, f1, la1, ln1, lc1⟩)
   obtain ⟨fn, tmps, assign, body, hy, hRd⟩ := (un HY) j ⟨k1, a1, v1, sa1, sn1, sc1, f1, la1, ln1, lc1⟩ (ls F)[j] (wr.alloc (fobj ⟨k1, a1, v1, sa1, sn1, sc1, f1, la1, ln1, lc1⟩)) 5 ((un HJ) j _ _ hal (un hjj)) (List.getElem?_eq_getElem hltx) (hN1.below hal)
   have m6 := (box7 hbm).2.2.2.2.2.2
   have m6a : ∀ o, (wr.alloc o).cell? ⟨bm, 6, none⟩ = some (.map (some B)) := fun o => by rw [World.cell?_alloc_lt _ _ _ (D.lt_cell m6)]; exact m6
   have hlt' : (j : Int) < ln := by omega
   subst hla
   clear hbw hbm hNw hN1 hal hjj HY HJw HJ HN hln
   gi_wp2
   refine hRd.mono ?_
   rintro e W3 ⟨rfl, hj3⟩
   have HJ3 := H_ hj3
   clear hRd hj3
   gi_wp2
   go_roundw
   case rel => exact ⟨j + 1, by omega, by simp, HJ3⟩
   case measure => simp [intOf]; omega
  ·have hge : ¬ (j : Int) < ln := by omega
   have hje : j = (ls F).length := by omega
   subst hje
   clear hln HY HJw HJ HN
   gi_wp2
   go_end0
   exact ⟨⟨_, rfl⟩, un hjj⟩
def psL (v : ByteArray) (l : List ByteArray) (f : ByteArray) : List (Int × ByteArray) := (if v.size = 0 then [] else [(128, v)]) ++ (l.map (fun x => (129, x)) ++ (if f.size = 0 then [] else [(130, f)]))
theorem pcs_psL {n : Nat} (v : ByteArray) (l : List ByteArray) (f : ByteArray) : (pcs v l f : List (Tv.Tr (n + 1))) = (psL v l f).map fun q => lf q.1 q.2 := by
 unfold pcs psL
 rw [List.map_append, List.map_append, List.map_map]
 by_cases h1 : v.size = 0 <;> by_cases h2 : f.size = 0 <;> simp [h1, h2, Function.comp_def]
def c0 (v : ByteArray) : Nat := if v.size = 0 then 0 else 1
theorem psL_first {v : ByteArray} {l : List ByteArray} {f : ByteArray} (h : ¬ v.size = 0) : (psL v l f)[0]? = some (128, v) := by
 unfold psL; rw [if_neg h]; rfl
theorem psL_mid {v : ByteArray} {l : List ByteArray} {f : ByteArray} {j : Nat} (h : j < l.length) : (psL v l f)[c0 v + j]? = some (129, l[j]) := by
 unfold psL c0
 by_cases hv : v.size = 0
 ·rw [if_pos hv, if_pos hv, List.nil_append, Nat.zero_add, List.getElem?_append_left (by rw [List.length_map]; exact h), List.getElem?_map, List.getElem?_eq_getElem h]; rfl
 ·rw [if_neg hv, if_neg hv, List.getElem?_append_right (by simp), List.getElem?_append_left (by simp; omega), List.getElem?_map]
  simp only [List.length_singleton, Nat.add_sub_cancel_left]
  rw [List.getElem?_eq_getElem h]; rfl
theorem psL_last {v : ByteArray} {l : List ByteArray} {f : ByteArray} (h : ¬ f.size = 0) : (psL v l f)[c0 v + l.length]? = some (130, f) := by
 unfold psL c0
 by_cases hv : v.size = 0
 ·rw [if_pos hv, if_pos hv, if_neg h]; simp
 ·rw [if_neg hv, if_neg hv, if_neg h, List.getElem?_append_right (by simp), List.getElem?_append_right (by simp)]; simp
theorem psL_len {v : ByteArray} {l : List ByteArray} {f : ByteArray} : (psL v l f).length = c0 v + l.length + (if f.size = 0 then 0 else 1) := by
 unfold psL c0
 by_cases hv : v.size = 0 <;> by_cases hf : f.size = 0 <;> simp [hv, hf] <;> omega
theorem no_size {x : ByteArray} (h : x.size = 0) : x = ⟨#[]⟩ := by
 cases x with
 | mk d => congr 1; exact Array.eq_empty_of_size_eq_zero h
theorem list_ne {x : ByteArray} (h : ¬ x.size = 0) : (¬ x.toList = []) /\ x.toList.isEmpty = false := by
 have : ¬ x.toList = [] := fun e => h (by rw [ByteArray.toList_eq] at e; have := congrArg List.length e; simpa using this)
 exact ⟨this, by cases hx : x.toList with
  | nil => exact absurd hx this
  | cons y ys => rfl⟩
theorem pieces1_any {n : Nat} (F : Fl (n + 1)) (w0 : World) (d : FD) (B bm l : Nat) (hN : FNode (n + 1) w0 (fun b => b < w0.heap.size) d F)
  (J : Nat -> World -> Prop)
  (hJw : ∀ j X, J j X -> Below w0.heap.size w0 X /\ X.heap[bm]? = some (.cells (mcs d B) 80 (0, 0)))
  (hY : ∀ j (t : Int) (x : ByteArray) W m, J j W -> (psL (va F) (an F) (fi F))[j]? = some (t, x) -> YieldAt Fence.wide m Tryz.prog l #[.int .i64 t, .string x] W fun e W2 => e = .returned (.bool true) /\ J (j + 1) W2)
  (W : World) (h0 : J 0 W) :
  CallsIn Fence.wide 6 Tryz.prog 117 #[.func (.yield l) #[] #[], .pointer (some ⟨bm, 0, none⟩)] W fun e W' => (∃ v, e = .returned v) /\ J (psL (va F) (an F) (fi F)).length W' := by
 have hI := hN.is
 have hva : d.v = va F := hI.v
 have hfi : d.f = fi F := hI.f
 have hsn : d.sn = (an F).length := hI.sn
 have hk' : (d.sn : Int) <= 1000 := by have := hN.sm.sn; omega
 have hst := hN.strs
 obtain ⟨k, a, v, sa, sn, sc, f, la, ln, lc⟩ := d
 dsimp only at hva hfi hsn hk' hst
 rw [<- hva, <- hfi] at hY ⊢
 generalize an F = xs at *
 clear hI hN hva hfi
 have HS := H_ hst
 have HN := H_ hsn
 have HJw := H_ hJw
 have HY := H_ hY
 have H0 := H_ h0
 clear hst hsn hJw hY h0
 have key : ∀ j X, Hid (J j X) -> X.cell? ⟨bm, 2, none⟩ = some (.string v) /\ X.cell? ⟨bm, 3, none⟩ = some (.slice sa sn sc) /\ X.cell? ⟨bm, 4, none⟩ = some (.string f) := fun j X h => by
  obtain ⟨_, _, x2, x3, x4, _, _⟩ := box7 ((un HJw) j X (un h)).2
  exact ⟨x2, x3, x4⟩
 have KEY := H_ key
 clear key
 refine callsIn_of_wp Tryz.func117 rfl trivial ?_ rfl
 simp only [Tryz.ntmps117, List.size_toArray, List.length_cons, List.length_nil, Nat.reduceAdd, Nat.reduceSub, Array.replicate_succ, Array.replicate_zero, List.push_toArray, List.append_toArray, List.nil_append, List.cons_append]
 by_cases hv : v.size = 0
 ·obtain rfl := no_size hv
  have HC : Hid (J (0 + 0) W) := H0
  obtain ⟨x2, x3, x4⟩ := (un KEY) _ _ HC
  gi_wp2_with fail
  refine ⟨fun f h => (by cases h), ?_⟩
  gi_wp2
  gi_loopw [21] (fun i wr => ∃ j : Nat, j <= sn /\ i = .int .i64 (j : Int) /\ Hid (J (0 + j) wr)) (fun i _ => sn - (intOf i).toNat)
  case atStart => exact ⟨0, Nat.zero_le _, rfl, HC⟩
  case round =>
   obtain ⟨j, hj, rfl, hjj⟩ := hrel
   clear x2 x3 x4 HC
   by_cases hlt : j < sn
   ·have hltx : j < xs.length := by have := un HN; omega
    obtain ⟨g, off, hsa, q0⟩ := ((un HS).of (W' := wr) (fun b hb _ => ((un HJw) _ _ (un hjj)).1.block b hb)).at hltx
    obtain ⟨fn, tmps, assign, body, hy, hRd⟩ := (un HY) _ _ _ wr 5 (un hjj) (by
     have := psL_mid (v := (⟨#[]⟩ : ByteArray)) (f := f) hltx
     rw [show c0 (⟨#[]⟩ : ByteArray) = 0 from rfl] at this
     exact this)
    have hlt' : (j : Int) < sn := by omega
    subst hsa
    clear hjj
    gi_wp2
    refine hRd.mono ?_
    rintro e W3 ⟨rfl, hj3⟩
    have HJ3 : Hid (J (0 + (j + 1)) W3) := H_ hj3
    clear hRd hj3 q0 hy
    gi_wp2
    go_roundw
    case rel => exact ⟨j + 1, by omega, by simp, HJ3⟩
    case measure => simp [intOf]; omega
   ·have hge : ¬ (j : Int) < sn := by omega
    have hje : j = xs.length := by have := un HN; omega
    subst hje
    obtain ⟨x2, x3, x4⟩ := (un KEY) _ _ hjj
    by_cases hf : f.size = 0
    ·have hln : (psL (⟨#[]⟩ : ByteArray) xs f).length = 0 + xs.length := by rw [psL_len, show c0 (⟨#[]⟩ : ByteArray) = 0 from rfl, if_pos hf, Nat.add_zero]
     have HF := H_ (show J (psL (⟨#[]⟩ : ByteArray) xs f).length wr by rw [hln]; exact un hjj)
     obtain rfl := no_size hf
     clear hln HY hf
     gi_wp2
     go_end0
     exact ⟨⟨_, rfl⟩, un HF⟩
    ·have hln : (psL (⟨#[]⟩ : ByteArray) xs f).length = 0 + xs.length + 1 := by rw [psL_len, show c0 (⟨#[]⟩ : ByteArray) = 0 from rfl, if_neg hf]
     obtain ⟨ne1, ne2⟩ := list_ne hf
     obtain ⟨fn, tmps, assign, body, hy, hRd⟩ := (un HY) _ _ _ wr 5 (un hjj) (by
      have := psL_last (v := (⟨#[]⟩ : ByteArray)) (l := xs) hf
      rw [show c0 (⟨#[]⟩ : ByteArray) = 0 from rfl] at this
      exact this)
     have HLN := H_ hln
     clear hln
     gi_wp2
     refine hRd.mono ?_
     rintro e W3 ⟨rfl, hj3⟩
     rw [<- un HLN] at hj3
     have HJ3 := H_ hj3
     clear hRd hj3
     gi_wp2
     go_end0
     exact ⟨⟨_, rfl⟩, un HJ3⟩
 ·obtain ⟨nv1, nv2⟩ := list_ne hv
  obtain ⟨x2, x3, x4⟩ := (un KEY) _ _ H0
  obtain ⟨fn, tmps, assign, body, hy, hRd⟩ := (un HY) 0 _ _ W 5 (un H0) (psL_first hv)
  gi_wp2
  refine hRd.mono ?_
  rintro e W3 ⟨rfl, hj3⟩
  have HC : Hid (J (1 + 0) W3) := H_ hj3
  clear hRd hj3 hy x2 x3 x4
  obtain ⟨x2, x3, x4⟩ := (un KEY) _ _ HC
  gi_wp2
  gi_loopw [21] (fun i wr => ∃ j : Nat, j <= sn /\ i = .int .i64 (j : Int) /\ Hid (J (1 + j) wr)) (fun i _ => sn - (intOf i).toNat)
  case atStart => exact ⟨0, Nat.zero_le _, rfl, HC⟩
  case round =>
   obtain ⟨j, hj, rfl, hjj⟩ := hrel
   clear x2 x3 x4 HC
   by_cases hlt : j < sn
   ·have hltx : j < xs.length := by have := un HN; omega
    obtain ⟨g, off, hsa, q0⟩ := ((un HS).of (W' := wr) (fun b hb _ => ((un HJw) _ _ (un hjj)).1.block b hb)).at hltx
    obtain ⟨fn, tmps, assign, body, hy, hRd⟩ := (un HY) _ _ _ wr 5 (un hjj) (by
     have := psL_mid (v := v) (f := f) hltx
     rw [show c0 v = 1 from if_neg hv] at this
     exact this)
    have hlt' : (j : Int) < sn := by omega
    subst hsa
    clear hjj
    gi_wp2
    refine hRd.mono ?_
    rintro e W3 ⟨rfl, hj3⟩
    have HJ3 : Hid (J (1 + (j + 1)) W3) := H_ hj3
    clear hRd hj3 q0 hy
    gi_wp2
    go_roundw
    case rel => exact ⟨j + 1, by omega, by simp, HJ3⟩
    case measure => simp [intOf]; omega
   ·have hge : ¬ (j : Int) < sn := by omega
    have hje : j = xs.length := by have := un HN; omega
    subst hje
    obtain ⟨x2, x3, x4⟩ := (un KEY) _ _ hjj
    by_cases hf : f.size = 0
    ·have hln : (psL v xs f).length = 1 + xs.length := by rw [psL_len, show c0 v = 1 from if_neg hv, if_pos hf, Nat.add_zero]
     have HF := H_ (show J (psL v xs f).length wr by rw [hln]; exact un hjj)
     obtain rfl := no_size hf
     clear hln HY hf
     gi_wp2
     go_end0
     exact ⟨⟨_, rfl⟩, un HF⟩
    ·have hln : (psL v xs f).length = 1 + xs.length + 1 := by rw [psL_len, show c0 v = 1 from if_neg hv, if_neg hf]
     obtain ⟨ne1, ne2⟩ := list_ne hf
     obtain ⟨fn, tmps, assign, body, hy, hRd⟩ := (un HY) _ _ _ wr 5 (un hjj) (by
      have := psL_last (v := v) (l := xs) hf
      rw [show c0 v = 1 from if_neg hv] at this
      exact this)
     have HLN := H_ hln
     clear hln
     gi_wp2
     refine hRd.mono ?_
     rintro e W3 ⟨rfl, hj3⟩
     rw [<- un HLN] at hj3
     have HJ3 := H_ hj3
     clear hRd hj3
     gi_wp2
     go_end0
     exact ⟨⟨_, rfl⟩, un HJ3⟩
end Go.Proofs.YtmenllnokgjdlaaGreatDoor.G
/-
 The maps of fber.tags and of fber.kinds, and what is looked up in them. Conditions: none.
-/
namespace Go.Proofs.YtmenllnokgjdlaaGreatDoor.G
open Go Go.RowKit Go.Shelf Go.Maps Gp
open D (H_ un)
open F (lawI zeroI Dt kI wpList_insert_own kI_same)
def hasTag (k : Int) : Bool := k == 0 || k == 1 || k == 2 || k == 3 || k == 4 || k == 5 || k == 6 || k == 7 || k == 8
def SD : Dt := (((((((((DataW.map [] : Dt).put (kI 0) (.lit (.int .i64 160))).put (kI 1) (.lit (.int .i64 161))).put (kI 2) (.lit (.int .i64 162))).put (kI 3) (.lit (.int .i64 163))).put (kI 4) (.lit (.int .i64 164))).put (kI 5) (.lit (.int .i64 165))).put (kI 6) (.lit (.int .i64 166))).put (kI 7) (.lit (.int .i64 135))).put (kI 8) (.lit (.int .i64 168))
theorem sd_at (k : Int) (h : hasTag k = true) (z : Dt) : SD.atKey (kI k) z = .lit (.int .i64 (tg k)) := by
 unfold hasTag at h
 simp only [Bool.or_eq_true, beq_iff_eq] at h
 rcases h with ((((((((h | h) | h) | h) | h) | h) | h) | h) | h) <;> subst h <;> rfl
theorem sd_has (k : Int) : Maps.has SD (kI k) = hasTag k := by
 have hne : ∀ j, k ≠ j -> kI k ≠ kI j := fun j h e => h (by cases e; rfl)
 unfold hasTag
 by_cases h0 : k = 0
 ·subst h0; rfl
 by_cases h1 : k = 1
 ·subst h1; rfl
 by_cases h2 : k = 2
 ·subst h2; rfl
 by_cases h3 : k = 3
 ·subst h3; rfl
 by_cases h4 : k = 4
 ·subst h4; rfl
 by_cases h5 : k = 5
 ·subst h5; rfl
 by_cases h6 : k = 6
 ·subst h6; rfl
 by_cases h7 : k = 7
 ·subst h7; rfl
 by_cases h8 : k = 8
 ·subst h8; rfl
 unfold SD
 rw [has_put_other (hne 8 h8), has_put_other (hne 7 h7), has_put_other (hne 6 h6), has_put_other (hne 5 h5), has_put_other (hne 4 h4), has_put_other (hne 3 h3), has_put_other (hne 2 h2), has_put_other (hne 1 h1), has_put_other (hne 0 h0)]
 have e : ∀ j, k ≠ j -> (k == j) = false := fun j h => beq_eq_false_iff_ne.2 h
 rw [e 0 h0, e 1 h1, e 2 h2, e 3 h3, e 4 h4, e 5 h5, e 6 h6, e 7 h7, e 8 h8]
 rfl
def TagsAt (W : World) (B : Nat) : Prop := W.ownsMap Tryz.prog 3 (plainElem Tryz.prog 3) B 9 SD
theorem TagsAt.below {W W' : World} {B : Nat} (h : TagsAt W B) (hb : Below W.heap.size W W') : TagsAt W' B :=
 World.ownsMap.kept (row := none) h ⟨hb.os, hb.tape, hb.output, hb.size, fun k hk _ => hb.block k hk⟩ (by simp)
theorem TagsAt.look {W : World} {B : Nat} (h : TagsAt W B) (k : Int) (hk : hasTag k = true) : (Instr.lookup 77 (.map (some B)) (.int .i64 k) false).run Tryz.prog W = .ok (.int .i64 (tg k)) W := by
 have hwf : (Lit.int .i64 k).wf = true := by
  unfold hasTag at hk
  simp only [Bool.or_eq_true, beq_iff_eq] at hk
  rcases hk with ((((((((h | h) | h) | h) | h) | h) | h) | h) | h) <;> subst h <;> decide
 obtain ⟨v, ps, h1, h2⟩ := World.ownsMap.lookup h lawI Tryz.underlying77 (zeroI W) (plainElem_int Tryz.underlying3 (by decide)) (keyOf_int_mk Tryz.underlying3 hwf)
 obtain ⟨s, rfl, h3, _⟩ := plainElem_int_inv Tryz.underlying3 h2
 rw [sd_at k hk] at h3
 simp only [Prod.mk.injEq, DataW.lit.injEq, Lit.int.injEq] at h3
 rw [h1, h3.1.2]
theorem tags_any (w : World) : Calls Tryz.prog 52 #[] w fun e w' => e = .returned (.map (some w.heap.size)) /\ Below w.heap.size w w' /\ TagsAt w' w.heap.size := by
 have hmm := @run_makeMap Tryz.prog
 have hown0 := World.ownsMap_made w Tryz.prog 3 (plainElem (H := Unit) Tryz.prog 3)
 have hg0 : w.grownBy (w.alloc (.map #[] 0)) (some w.heap.size) := (World.grownBy_alloc w _ none).but _
 go_enter Tryz.func52, Tryz.ntmps52
 go_wp2_with (first | (refine wpList_insert_own _ rfl _ _ _ 77 rfl 3 3 lawI Tryz.underlying77 (plainElem (H := Unit) Tryz.prog 3) w.heap.size 0 _ rfl hown0 (by decide) _ _ _ rfl rfl (keyOf_int_mk Tryz.underlying3 (by decide)) _ [] (plainElem_int Tryz.underlying3 (by decide)) ?_; intro w1 hown1 hq1; have hg1 := hg0.andThen hq1 (by simp); clear hown0 hg0 hq1) | (refine wpList_insert_own _ rfl _ _ _ 77 rfl 3 3 lawI Tryz.underlying77 (plainElem (H := Unit) Tryz.prog 3) w.heap.size 1 _ rfl hown1 (by decide) _ _ _ rfl rfl (keyOf_int_mk Tryz.underlying3 (by decide)) _ [] (plainElem_int Tryz.underlying3 (by decide)) ?_; intro w2 hown2 hq2; have hg2 := hg1.andThen hq2 (by simp); clear hown1 hg1 hq2) | (refine wpList_insert_own _ rfl _ _ _ 77 rfl 3 3 lawI Tryz.underlying77 (plainElem (H := Unit) Tryz.prog 3) w.heap.size 2 _ rfl hown2 (by decide) _ _ _ rfl rfl (keyOf_int_mk Tryz.underlying3 (by decide)) _ [] (plainElem_int Tryz.underlying3 (by decide)) ?_; intro w3 hown3 hq3; have hg3 := hg2.andThen hq3 (by simp); clear hown2 hg2 hq3) | (refine wpList_insert_own _ rfl _ _ _ 77 rfl 3 3 lawI Tryz.underlying77 (plainElem (H := Unit) Tryz.prog 3) w.heap.size 3 _ rfl hown3 (by decide) _ _ _ rfl rfl (keyOf_int_mk Tryz.underlying3 (by decide)) _ [] (plainElem_int Tryz.underlying3 (by decide)) ?_; intro w4 hown4 hq4; have hg4 := hg3.andThen hq4 (by simp); clear hown3 hg3 hq4) | (refine wpList_insert_own _ rfl _ _ _ 77 rfl 3 3 lawI Tryz.underlying77 (plainElem (H := Unit) Tryz.prog 3) w.heap.size 4 _ rfl hown4 (by decide) _ _ _ rfl rfl (keyOf_int_mk Tryz.underlying3 (by decide)) _ [] (plainElem_int Tryz.underlying3 (by decide)) ?_; intro w5 hown5 hq5; have hg5 := hg4.andThen hq5 (by simp); clear hown4 hg4 hq5) | (refine wpList_insert_own _ rfl _ _ _ 77 rfl 3 3 lawI Tryz.underlying77 (plainElem (H := Unit) Tryz.prog 3) w.heap.size 5 _ rfl hown5 (by decide) _ _ _ rfl rfl (keyOf_int_mk Tryz.underlying3 (by decide)) _ [] (plainElem_int Tryz.underlying3 (by decide)) ?_; intro w6 hown6 hq6; have hg6 := hg5.andThen hq6 (by simp); clear hown5 hg5 hq6) | (refine wpList_insert_own _ rfl _ _ _ 77 rfl 3 3 lawI Tryz.underlying77 (plainElem (H := Unit) Tryz.prog 3) w.heap.size 6 _ rfl hown6 (by decide) _ _ _ rfl rfl (keyOf_int_mk Tryz.underlying3 (by decide)) _ [] (plainElem_int Tryz.underlying3 (by decide)) ?_; intro w7 hown7 hq7; have hg7 := hg6.andThen hq7 (by simp); clear hown6 hg6 hq7) | (refine wpList_insert_own _ rfl _ _ _ 77 rfl 3 3 lawI Tryz.underlying77 (plainElem (H := Unit) Tryz.prog 3) w.heap.size 7 _ rfl hown7 (by decide) _ _ _ rfl rfl (keyOf_int_mk Tryz.underlying3 (by decide)) _ [] (plainElem_int Tryz.underlying3 (by decide)) ?_; intro w8 hown8 hq8; have hg8 := hg7.andThen hq8 (by simp); clear hown7 hg7 hq8) | (refine wpList_insert_own _ rfl _ _ _ 77 rfl 3 3 lawI Tryz.underlying77 (plainElem (H := Unit) Tryz.prog 3) w.heap.size 8 _ rfl hown8 (by decide) _ _ _ rfl rfl (keyOf_int_mk Tryz.underlying3 (by decide)) _ [] (plainElem_int Tryz.underlying3 (by decide)) ?_; intro w9 hown9 hq9; have hg9 := hg8.andThen hq9 (by simp); clear hown8 hg8 hq9))
 go_ret
 exact ⟨rfl, ⟨hg9.os, hg9.tape, hg9.output, hg9.size, fun k hk => hg9.block k hk (fun e => by cases e; omega)⟩, hown9⟩
theorem hasTag_iff (k : Int) : hasTag k = true ↔ 0 <= k /\ k <= 8 := by
 unfold hasTag
 simp only [Bool.or_eq_true, beq_iff_eq]
 omega
theorem kindT_of (k : Int) (h : hasTag k = true) : kindT (tg k) = some k := kindT_tg ((hasTag_iff k).1 h).1 ((hasTag_iff k).1 h).2
theorem kindT_some (t : Int) (k : Int) (h : kindT t = some k) : hasTag k = true /\ tg k = t := ⟨(hasTag_iff k).2 (tg_kindT h).2, (tg_kindT h).1⟩
theorem kI_ne {l l' : Int} (h : l ≠ l') : kI l ≠ kI l' := fun e => h (by cases e; rfl)
structure Told (left : Lit -> Bool) (D : Dt) : Prop where
 m : IsMap D
 sub : ∀ x, left (kI x) = true -> hasTag x = true
 has : ∀ l, Maps.has D (kI l) = match kindT l with | some k => !left (kI k) | none => false
 at_ : ∀ l k z, kindT l = some k -> left (kI k) = false -> D.atKey (kI l) z = .lit (.int .i64 k)
theorem told_first : Told (Maps.has SD) (.map []) := by
 refine ⟨isMap_empty, fun x h => by rw [sd_has] at h; exact h, fun l => ?_, fun l k z h h2 => ?_⟩
 ·cases h : kindT l with
  | none => rfl
  | some k =>
   have := (kindT_some l k h).1
   simp only [sd_has, this]
   rfl
 ·rw [sd_has, (kindT_some l k h).1] at h2
  cases h2
theorem Told.step {left : Lit -> Bool} {D : Dt} (T : Told left D) (x : Int) (hx : left (kI x) = true) : Told (fun z => left z && !z.sameKey (kI x)) (D.put (kI (tg x)) (.lit (.int .i64 x))) := by
 have hsx := T.sub x hx
 have hk : WideAt.IsKeyLit (kI (tg x)) := trivial
 refine ⟨T.m.put _ _, fun y h => ?_, fun l => ?_, fun l k z h h2 => ?_⟩
 ·simp only [Bool.and_eq_true] at h
  exact T.sub y h.1
 ·by_cases hl : l = tg x
  ·subst hl
   rw [has_put_same T.m hk, kindT_of x hsx]
   simp [kI_same]
  ·rw [has_put_other (kI_ne hl), T.has]
   cases h : kindT l with
   | none => rfl
   | some k =>
    have hkx : k ≠ x := fun e => hl (by rw [<- (kindT_some l k h).2, e])
    simp [kI_same, hkx]
 ·by_cases hl : l = tg x
  ·subst hl
   rw [kindT_of x hsx] at h
   cases h
   rw [atKey_put_same T.m hk]
  ·have hkx : k ≠ x := fun e => hl (by rw [<- (kindT_some l k h).2, e])
   rw [atKey_put_other (kI_ne hl)]
   refine T.at_ l k z h ?_
   simpa [kI_same, hkx] using h2
def KindsAt (W : World) (B : Nat) : Prop := ∃ n D, W.ownsMap Tryz.prog 3 (plainElem Tryz.prog 3) B n D /\ Told (fun _ => false) D
theorem KindsAt.below {W W' : World} {B : Nat} (h : KindsAt W B) (hb : Below W.heap.size W W') : KindsAt W' B := by
 obtain ⟨n, D, h1, h2⟩ := h
 exact ⟨n, D, World.ownsMap.kept (row := none) h1 ⟨hb.os, hb.tape, hb.output, hb.size, fun k hk _ => hb.block k hk⟩ (by simp), h2⟩
theorem KindsAt.look {W : World} {B : Nat} (h : KindsAt W B) (t : Int) (hwf : (Lit.int .i64 t).wf = true) : (Instr.lookup 77 (.map (some B)) (.int .i64 t) true).run Tryz.prog W = .ok (.tuple #[.int .i64 ((kindT t).getD 0), .bool (kindT t).isSome]) W := by
 obtain ⟨n, D, h1, T⟩ := h
 obtain ⟨v, ps, h2, h3⟩ := World.ownsMap.look_ok h1 lawI Tryz.underlying77 (zeroI W) (plainElem_int Tryz.underlying3 (by decide)) (keyOf_int_mk Tryz.underlying3 hwf)
 obtain ⟨a, rfl, h4, _⟩ := plainElem_int_inv Tryz.underlying3 h3
 rw [h2]
 have hh := T.has t
 cases hk : kindT t with
 | none =>
  rw [hk] at hh
  simp only at hh
  rw [show Maps.has D (kI t) = false from hh]
  rw [show D.atKey (kI t) (.lit (.int .i64 0)) = .lit (.int .i64 0) from atKey_of_not_has hh _] at h4
  cases h4
  rfl
 | some k =>
  rw [hk] at hh
  simp only [Bool.not_false] at hh
  rw [show Maps.has D (kI t) = true from hh]
  rw [show D.atKey (kI t) (.lit (.int .i64 0)) = .lit (.int .i64 k) from T.at_ _ k _ hk rfl] at h4
  cases h4
  rfl
theorem kinds_any (w : World) : Calls Tryz.prog 58 #[] w fun e w' => e = .returned (.map (some w.heap.size)) /\ Below w.heap.size w w' /\ KindsAt w' w.heap.size := by
 have hmm := @run_makeMap Tryz.prog
 have hown0 := World.ownsMap_made w Tryz.prog 3 (plainElem (H := Unit) Tryz.prog 3)
 have HS := H_ fun W => tags_any W
 go_enter Tryz.func58, Tryz.ntmps58
 go_wp2_with fail
 refine ((un HS) _).mono ?_
 rintro e w1 ⟨rfl, hb1, hS⟩
 rw [World.size_alloc] at hb1 hS ⊢
 have hown1 := hown0.kept (row := none) ⟨hb1.os, hb1.tape, hb1.output, by have := hb1.size; simpa using this, fun k hk _ => hb1.block k (by simpa using hk)⟩ (by simp)
 have hbw : Below w.heap.size w w1 := ((Below.refl _ _).alloc (Nat.le_refl _) _).trans (hb1.mono (by omega))
 have hlt1 : w.heap.size + 1 < w1.heap.size := hS.lt
 clear hown0 hb1 HS
 have hrg := hS
 unfold TagsAt at hrg
 go_wp2_with (at_range; refine wpList_range_own _ rfl _ 77 rfl 3 3 lawI Tryz.underlying77 (plainElem (H := Unit) Tryz.prog 3) (w.heap.size + 1) 9 SD rfl hrg ?_; intro w0 hrg0 hg0 hs0)
 go_frame
 have hown2 := hown1.kept hg0 (by simp)
 have hB0 : Below w.heap.size w w0 := ⟨hg0.os.trans hbw.os, hg0.tape.trans hbw.tape, hg0.output.trans hbw.output, Nat.le_trans hbw.size hg0.size, fun k hk => (hg0.block k (Nat.lt_of_lt_of_le hk hbw.size) (by simp)).trans (hbw.block k hk)⟩
 obtain ⟨r, hr⟩ : ∃ r, r = w1.heap.size := ⟨_, rfl⟩
 rw [<- hr] at hrg0 hlt1 ⊢
 have hsz : size SD = 9 := rfl
 rw [hsz] at hrg0
 have hrn : w.heap.size ≠ r := by omega
 clear hS hrg hown1 hbw hg0 hs0 hr hmm hsz
 go_loopw [2] (fun _ wr => ∃ left cnt n D, wr.ranges Tryz.prog 3 (plainElem (H := Unit) Tryz.prog 3) (w.heap.size + 1) r 9 SD left cnt /\ wr.ownsMap Tryz.prog 3 (plainElem (H := Unit) Tryz.prog 3) w.heap.size n D /\ Hid (n + cnt <= 9) /\ Hid (Told left D) /\ Hid (Below w.heap.size w wr)) (fun _ wr => wr.rangeLeft (w.heap.size + 1) r)
 case atStart => exact ⟨_, 9, 0, _, hrg0, hown2, H_ (Nat.le_refl _), H_ told_first, H_ hB0⟩
 case round =>
  obtain ⟨left, cnt, n, D, hrg, hown, hnc, hT, hb⟩ := hrel
  clear hrg0 hown2 hB0
  go_wp2_with (at_next; refine wpList_next_ranges_ii _ rfl _ rfl 3 3 .i64 .i64 lawI Tryz.underlying3 Tryz.underlying3 (w.heap.size + 1) r 9 SD left cnt rfl hrg ?_ ?_)
  ·intro _ hl0
   have hT2 := un hT
   rw [show left = fun _ => false from funext hl0] at hT2
   have HT := H_ hT2
   clear hT hT2 hrg hnc
   go_wp2
   go_ret
   exact ⟨rfl, un hb, n, D, hown, un HT⟩
  ·intro x c w2 cnt2 hwx hwc hlx hat hrg1 hlt hg1 hs1 hen
   have hown1 := hown.kept hg1 (fun e => hrn (by cases e; rfl))
   have hcx : tg x = c := by
    have := hat (.lit (.int .i64 0))
    rw [show DataW.atKey SD (Lit.int IntKind.i64 x) (.lit (.int .i64 0)) = .lit (.int .i64 (tg x)) from sd_at x ((un hT).sub x hlx) _] at this
    simpa using this
   have hst := (un hT).step x hlx
   rw [hcx] at hst
   have HST := H_ hst
   have hn8 : n + cnt <= 9 := un hnc
   have hb2 : Below w.heap.size w w2 := ⟨hg1.os.trans (un hb).os, hg1.tape.trans (un hb).tape, hg1.output.trans (un hb).output, Nat.le_trans (un hb).size hg1.size, fun k hk => (hg1.block k (Nat.lt_of_lt_of_le hk (un hb).size) (fun e => by cases e; omega)).trans ((un hb).block k hk)⟩
   have HB2 := H_ hb2
   have hmx : n < maxLen := by unfold maxLen; omega
   have hms := hrg.left_eq
   clear hst hb2 hcx hat hT hb hown
   go_wp2_with (at_mapUpdate; refine wpList_mapUpdate_own _ rfl _ _ _ 77 rfl 3 3 lawI Tryz.underlying77 (plainElem (H := Unit) Tryz.prog 3) w.heap.size n D rfl hown1 hmx _ _ _ rfl rfl (keyOf_int_mk Tryz.underlying3 hwc) _ [] (plainElem_int Tryz.underlying3 hwx) ?_; intro w3 hown3 hg3; go_frame)
   have hrg3 := hrg1.kept hg3 (fun e => by have := Option.some.inj e; omega) (fun e => by have := Option.some.inj e; omega)
   go_roundw
   case rel => exact ⟨_, cnt2, n + 1, _, hrg3, hown3, H_ (by omega), HST, H_ ⟨hg3.os.trans (un HB2).os, hg3.tape.trans (un HB2).tape, hg3.output.trans (un HB2).output, Nat.le_trans (un HB2).size hg3.size, fun k hk => (hg3.block k (Nat.lt_of_lt_of_le hk (un HB2).size) (fun e => by cases e; omega)).trans ((un HB2).block k hk)⟩⟩
   case measure =>
    rw [hrg3.left_eq, hms]
    exact hlt
end Go.Proofs.YtmenllnokgjdlaaGreatDoor.G
