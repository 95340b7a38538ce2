/- Several texts in one: DIter, FShelf, FSplit, FPass, FSigns. Each says what it proves, and its conditions. -/
import Derived.Test.YtjhnblgamodekaaGreatDoorG19
import Derived.Maps.StringElems
set_option linter.unusedSimpArgs false
set_option maxHeartbeats 2000000
set_option maxRecDepth 100000
/-
 The iterator of package dn: 'cutter.pieces' hands over a text's pieces, each with its number. Conditions: none.
-/
namespace Go.Proofs.YtjhnblgamodekaaGreatDoor.D
open Go Go.RowKit Go.Shelf Dp
attribute [local go_sem] Oper.semAt_some
structure Pk where
 i : Nat
 fr : Nat
 to : Nat
abbrev Pk.g (s : ByteArray) (x : Pk) : ByteArray := s.extract x.fr x.to
def pk (s : ByteArray) (c : UInt8) : Nat -> Nat -> Nat -> Nat -> List Pk
 | 0, i, fr, _ => [⟨i, fr, s.size⟩]
 | f + 1, i, fr, p => if h : p < s.size then (if s[p] = c then ⟨i, fr, p⟩ :: pk s c f (i + 1) (p + 1) (nx s p) else pk s c f i fr (nx s p)) else [⟨i, fr, s.size⟩]
def pks (s : ByteArray) (c : UInt8) : List Pk := pk s c s.size 0 0 0
theorem pk_end (s : ByteArray) (c : UInt8) (f i fr p : Nat) (h : ¬ p < s.size) : pk s c f i fr p = [⟨i, fr, s.size⟩] := by
 cases f with
 | zero => rfl
 | succ f => rw [pk, dif_neg h]
theorem pk_step (s : ByteArray) (c : UInt8) (f i fr p : Nat) (h : p < s.size) (hf : s.size <= p + f) : ∃ f', f = f' + 1 /\ s.size <= nx s p + f' /\
  pk s c f i fr p = if s[p] = c then ⟨i, fr, p⟩ :: pk s c f' (i + 1) (p + 1) (nx s p) else pk s c f' i fr (nx s p) := by
 cases f with
 | zero => omega
 | succ f => exact ⟨f, rfl, by have := nx_lt h; omega, by rw [pk, dif_pos h]⟩
theorem ext_list (s : ByteArray) (a b : Nat) : (s.extract a b).data.toList = (s.data.toList.take b).drop a := by
 rw [ByteArray.data_extract, Array.toList_extract, List.extract_eq_take_drop, List.drop_take]
theorem td_snoc {s : ByteArray} {a p : Nat} (h : p < s.size) (ha : a <= p) : (s.data.toList.take (p + 1)).drop a = (s.data.toList.take p).drop a ++ [s[p]] := by
 have hl : p < s.data.toList.length := by rw [Array.length_toList]; exact h
 rw [List.take_succ_eq_append_getElem hl, List.drop_append_of_le_length (by rw [List.length_take]; omega)]
 rfl
theorem pk_sp (s : ByteArray) (c : UInt8) (hc : c ≠ 92) : ∀ (f i fr p : Nat), s.size <= p + f -> fr <= p -> p <= s.size -> (pk s c f i fr p).map (fun x => (x.g s).data.toList) = sp c false ((s.data.toList.take p).drop fr) (s.data.toList.drop p)
 | 0, i, fr, p, hf, h1, h2 => by
  have : p = s.size := by omega
  subst this
  rw [drop_out (by omega), sp, pk]
  rw [List.map_cons, List.map_nil, ext_list]
 | f + 1, i, fr, p, hf, h1, h2 => by
  by_cases h : p < s.size
  ·have hn := nx_lt h
   rw [pk, dif_pos h, drop_at h, sp]
   by_cases hx : s[p] = c
   ·rw [if_pos hx, if_pos hx]
    have hnx : nx s p = p + 1 := by unfold nx; rw [dif_pos h, if_neg (by rw [hx]; exact hc)]
    rw [List.map_cons, hnx, pk_sp s c hc f (i + 1) (p + 1) (p + 1) (by omega) (Nat.le_refl _) (by omega)]
    have e : List.drop (p + 1) (List.take (p + 1) s.data.toList) = [] := List.drop_of_length_le (by rw [List.length_take]; omega)
    rw [e, ext_list]
   ·rw [if_neg hx, if_neg hx]
    by_cases h9 : s[p] = 92
    ·have hnx : nx s p = min (p + 2) s.size := by unfold nx; rw [dif_pos h, if_pos h9]
     rw [h9, show ((92 : UInt8) == 92) = true from rfl, pk_sp s c hc f i fr (nx s p) (by omega) (by omega) (by omega), hnx]
     by_cases h3 : p + 1 < s.size
     ·rw [Nat.min_eq_left (by omega), drop_at h3, sp, td_snoc h3 (by omega), td_snoc h (by omega), h9]
     ·have e : s.size = p + 1 := by omega
      rw [Nat.min_eq_right (by omega), e, drop_out (j := p + 1) (by omega), sp, sp, td_snoc h (by omega), h9]
    ·have hnx : nx s p = p + 1 := by unfold nx; rw [dif_pos h, if_neg h9]
     rw [show (s[p] == 92) = false by simpa using h9, pk_sp s c hc f i fr (nx s p) (by omega) (by omega) (by omega), hnx, td_snoc h (by omega)]
  ·have : p = s.size := by omega
   subst this
   rw [drop_out (by omega), sp, pk, dif_neg h]
   rw [List.map_cons, List.map_nil, ext_list]
theorem pks_pcs (s : ByteArray) (c : UInt8) (hc : c ≠ 92) : (pks s c).map (fun x => (x.g s).data.toList) = pcs c s.data.toList := by
 have := pk_sp s c hc s.size 0 0 0 (by omega) (Nat.le_refl _) (Nat.zero_le _)
 rw [List.drop_zero] at this
 exact this
abbrev It (Pr : Pk -> Prop) := { x : Pk // Pr x }
abbrev vals {Pr : Pk -> Prop} (l : List (It Pr)) : List Pk := l.map Subtype.val
abbrev cb (s : ByteArray) (c : UInt8) : Obj := .cells #[.string s, .int .u8 c.toNat] 164
theorem pieces_any (s : ByteArray) (c : UInt8) (w : World) :
  Calls Tryz.prog 101 #[.agg #[.string s, .int .u8 c.toNat]] w fun e w' => e = .returned (.func (.func 124) #[] #[.pointer (some ⟨w.heap.size, 0, none⟩)]) /\ w' = w.alloc (cb s c) := by
 go_enter Tryz.func101, Tryz.ntmps101
 go_wp2
 go_ret
 exact ⟨rfl, rfl⟩
theorem region_only {F : Fence} {n : Nat} {P : Program} {Q : Exit -> Act -> World -> Prop} {id : Nat} {a : Act} {w : World} {l : List Oper} (hm : P.follows .mixedOrders = true)
  (h : wpAnyIn F n P .any l.toArray (C.only Q) l.toArray.size (Array.replicate l.toArray.size false) a w.drew) : (Code.region id l.toArray true).wpIn F n P Q a w :=
 wpIn_mono (wpIn_region_any hm h) (fun e a w h => by cases e <;> first | exact h | exact h.elim)
theorem pieces1_stops (Pr : Pk -> Prop) (m : Nat) (hm : 1 <= m) (Bs : Nat) (s : ByteArray) (c : UInt8) (w : World) (hs : s.size <= 10000) (hPr : ∀ x ∈ pks s c, Pr x)
  (hBs : w.cell? ⟨Bs, 0, none⟩ = some (.string s)) (hBc : w.cell? ⟨Bs, 1, none⟩ = some (.int .u8 c.toNat)) :
  SeqStopsK Fence.wide m Tryz.prog 124 #[.pointer (some ⟨Bs, 0, none⟩)] (fun x : It Pr => #[.int .i64 x.1.i, .string (x.1.g s)]) (C.Two Bs Bs)
   (fun xs => vals xs = pks s c) (fun pre => vals pre <+: pks s c) (s.size + 1) w := fun l J Jx W hW hJ hJx hY h0 => by
 have hbs := (hW.cell (p := ⟨Bs, 0, none⟩) (lt_cell hBs)).trans hBs
 have hbc := (hW.cell (p := ⟨Bs, 1, none⟩) (lt_cell hBc)).trans hBc
 have hJb : Hid (∀ pre A B, J pre A -> Below A.heap.size A B -> J pre B) := H_ fun pre A B h hb => hJ pre A B none h ⟨hb.os, hb.tape, hb.output, hb.size, fun k hk _ => hb.block k hk⟩ (fun r e => by cases e)
 have HE := H_ fun W => end_any s W
 have HH := H_ fun p hp W => has_any s p c W hp
 have HP := H_ fun a b hab hb W => piece_any s a b W hab hb
 have HN := H_ fun p hp W => next_any s p W hs hp
 have HY := H_ hY
 have HPr := H_ hPr
 clear hPr
 clear hBs hBc hW hJ hJx hY
 refine callsIn_of_wp Tryz.func124 rfl trivial ?_ rfl
 simp only [Tryz.ntmps124, List.size_toArray, List.length_cons, List.length_nil, Nat.reduceAdd, Nat.reduceSub, Array.replicate_succ, Array.replicate_zero, List.push_toArray, List.append_toArray, List.nil_append, List.cons_append]
 gi_wp2
 gi_loopw [3, 4, 5] (fun a b d wr => ∃ (pre : List (It Pr)) (f i fr p : Nat), Hid (vals pre ++ pk s c f i fr p = pks s c) /\ Hid (s.size <= p + f) /\ pre.length = i /\ i <= fr /\ fr <= p /\ p <= s.size /\ a = .int .i64 (i : Int) /\ b = .int .i64 (fr : Int) /\ d = .int .i64 (p : Int) /\ J pre wr /\ wr.cell? ⟨Bs, 0, none⟩ = some (.string s) /\ wr.cell? ⟨Bs, 1, none⟩ = some (.int .u8 c.toNat))
  (fun _ _ d _ => s.size - (intOf d).toNat)
 case atStart => exact ⟨[], s.size, 0, 0, 0, H_ rfl, H_ (by omega), rfl, Nat.le_refl _, Nat.le_refl _, by omega, rfl, rfl, rfl, h0, hbs, hbc⟩
 case round =>
  obtain ⟨pre, f, i, fr, p, hl, hf, hpl, hif, hfp, hp4, rfl, rfl, rfl, hJs, ha, hc'⟩ := hrel
  clear hbs hbc h0
  gi_wp2_with fail
  refine ⟨trivial, (callsIn_wide.2 ((un HE) _)).mono ?_⟩
  rintro e w1 ⟨rfl, hb⟩
  have ha1 := (hb.cell (p := ⟨Bs, 0, none⟩) (lt_cell ha)).trans ha
  have hc1 := (hb.cell (p := ⟨Bs, 1, none⟩) (lt_cell hc')).trans hc'
  have hJ1 := H_ ((un hJb) _ _ _ hJs hb)
  clear hb ha hc' hJs
  have hpi : (p : Int) <= 10000 := by omega
  by_cases hlt : p < s.size
  ·have hlt' : (p : Int) < s.size := by omega
   obtain ⟨f', rfl, hf', hpk⟩ := pk_step s c f i fr p hlt (un hf)
   have hnx := nx_lt hlt
   have HH' := H_ ((un HH) p hlt)
   by_cases hx : s[p] = c
   ·rw [decide_eq_true hx] at HH'
    rw [if_pos hx] at hpk
    have HP' := H_ ((un HP) fr p hfp hp4)
    have HN' := H_ ((un HN) p hlt)
    have Hl : Hid (vals pre ++ ⟨i, fr, p⟩ :: pk s c f' (i + 1) (p + 1) (nx s p) = pks s c) := H_ (by rw [<- hpk]; exact un hl)
    have Hf := H_ hf'
    have Hnx := H_ hnx
    clear hl hf hf' hpk hx hnx HH HP HN
    generalize nx s p = q at *
    gi_wp2_with fail
    refine ⟨trivial, (callsIn_wide.2 ((un HH') _)).mono ?_⟩
    rintro e w2 ⟨rfl, hb⟩
    have ha2 := (hb.cell (p := ⟨Bs, 0, none⟩) (lt_cell ha1)).trans ha1
    have hc2 := (hb.cell (p := ⟨Bs, 1, none⟩) (lt_cell hc1)).trans hc1
    have hJ2 := H_ ((un hJb) _ _ _ (un hJ1) hb)
    clear hb ha1 hc1 hJ1 HH'
    gi_wp2_with fail
    refine ⟨trivial, (callsIn_wide.2 ((un HP') _)).mono ?_⟩
    rintro e w3 ⟨rfl, hb⟩
    have ha3 := (hb.cell (p := ⟨Bs, 0, none⟩) (lt_cell ha2)).trans ha2
    have hJ3 := (un hJb) _ _ _ (un hJ2) hb
    have hc3 := (hb.cell (p := ⟨Bs, 1, none⟩) (lt_cell hc2)).trans hc2
    clear hb ha2 hc2 hJ2 HP'
    obtain ⟨fn, tmps, assign, body, hy, hR⟩ := (un HY) _ ⟨⟨i, fr, p⟩, (un HPr) _ (by rw [<- un Hl]; simp)⟩ _ hJ3 (by omega)
    dsimp only at hy
    gi_wp2
    refine hR.mono ?_
    rintro e W3 (⟨rfl, hJ4, hk3⟩ | ⟨rfl, hJx3⟩)
    ·have ha4 := (World.cell?_of_block (a := ⟨Bs, 0, none⟩) hk3.1).trans ha3
     have hc4 := (World.cell?_of_block (a := ⟨Bs, 1, none⟩) hk3.1).trans hc3
     clear hk3 ha3 hc3 hy hR hJ3
     gi_wp2_with fail
     refine ⟨trivial, (callsIn_wide.2 ((un HN') _)).mono ?_⟩
     rintro e w5 ⟨rfl, hb⟩
     have ha5 := (hb.cell (p := ⟨Bs, 0, none⟩) (lt_cell ha4)).trans ha4
     have hc5 := (hb.cell (p := ⟨Bs, 1, none⟩) (lt_cell hc4)).trans hc4
     have hJ5 := H_ ((un hJb) _ _ _ hJ4 hb)
     clear hb ha4 hc4 hJ4 HN'
     gi_wp2
     go_roundw
     case rel =>
      have := un Hnx
      refine ⟨pre ++ [⟨⟨i, fr, p⟩, (un HPr) _ (by rw [<- un Hl]; simp)⟩], f', i + 1, p + 1, q, H_ (by rw [vals, List.map_append, List.append_assoc]; exact un Hl), Hf, by simp; omega, by omega, by omega, by omega, by simp, by simp, rfl, un hJ5, ha5, hc5⟩
     case measure =>
      have := un Hnx
      simp [intOf]
      omega
    ·gi_wp2
     refine bodyPost_ret (results_none rfl _ _ _) rfl ?_
     exact ⟨⟨_, rfl⟩, .inr ⟨_, ⟨pk s c f' (i + 1) (p + 1) q, by rw [vals, List.map_append, List.append_assoc]; exact un Hl⟩, hJx3⟩⟩
   ·rw [decide_eq_false hx] at HH'
    rw [if_neg hx] at hpk
    have HN' := H_ ((un HN) p hlt)
    have Hl : Hid (vals pre ++ pk s c f' i fr (nx s p) = pks s c) := H_ (by rw [<- hpk]; exact un hl)
    have Hf := H_ hf'
    have Hnx := H_ hnx
    clear hl hf hf' hpk hx hnx HH HP HN
    generalize nx s p = q at *
    gi_wp2_with fail
    refine ⟨trivial, (callsIn_wide.2 ((un HH') _)).mono ?_⟩
    rintro e w2 ⟨rfl, hb⟩
    have ha2 := (hb.cell (p := ⟨Bs, 0, none⟩) (lt_cell ha1)).trans ha1
    have hc2 := (hb.cell (p := ⟨Bs, 1, none⟩) (lt_cell hc1)).trans hc1
    have hJ2 := H_ ((un hJb) _ _ _ (un hJ1) hb)
    clear hb ha1 hc1 hJ1 HH'
    gi_wp2_with fail
    refine ⟨trivial, (callsIn_wide.2 ((un HN') _)).mono ?_⟩
    rintro e w5 ⟨rfl, hb⟩
    have ha5 := (hb.cell (p := ⟨Bs, 0, none⟩) (lt_cell ha2)).trans ha2
    have hc5 := (hb.cell (p := ⟨Bs, 1, none⟩) (lt_cell hc2)).trans hc2
    have hJ5 := H_ ((un hJb) _ _ _ (un hJ2) hb)
    clear hb ha2 hc2 hJ2 HN'
    gi_wp2
    go_roundw
    case rel =>
     have := un Hnx
     refine ⟨pre, f', i, fr, q, Hl, Hf, by omega, by omega, by omega, by omega, rfl, rfl, rfl, un hJ5, ha5, hc5⟩
    case measure =>
     have := un Hnx
     simp [intOf]
     omega
  ·have hge : ¬ (p : Int) < s.size := by omega
   have Hl : Hid (vals pre ++ [⟨i, fr, s.size⟩] = pks s c) := H_ (by rw [<- pk_end s c f i fr p hlt]; exact un hl)
   clear hl hf HH HN
   have HP' := H_ ((un HP) fr s.size (by omega) (Nat.le_refl _))
   gi_wp2_with fail
   refine region_only (by kernel_rfl) ?_
   change wpAnyIn _ _ _ _ _ _ 10 #[false, false, false, false, false, false, false, false, false, false] _ w1.drew
   have hax0 : w1.drew.cell? ⟨Bs, 0, none⟩ = some (.string s) := ha1
   have hJx0 := H_ ((un hJb) _ _ _ (un hJ1) (Below.refl _ _).drew)
   clear ha1 hc1 hJ1
   generalize w1.drew = x0 at *
   refine wpAnyIn_take (i := 0) (v := .func (.yield l) #[] #[]) rfl rfl (by kernel_rfl) (by kernel_rfl) (by kernel_rfl) (fun _ _ _ h => h) ⟨Or.inl ⟨by kernel_rfl, by intro w1; go_simp; try rfl⟩, fun _ => rfl⟩ ?_
   simp only [Act.put, nrm]
   refine wpAnyIn_take (i := 1) (v := .int .i64 i) rfl rfl (by kernel_rfl) (by kernel_rfl) (by kernel_rfl) (fun _ _ _ h => h) ⟨Or.inl ⟨by kernel_rfl, by intro w1; go_simp; try rfl⟩, fun _ => rfl⟩ ?_
   simp only [Act.put, nrm]
   refine wpAnyIn_take (i := 2) (v := .pointer (some ⟨Bs, 0, none⟩)) rfl rfl (by kernel_rfl) (by kernel_rfl) (by kernel_rfl) (fun _ _ _ h => h) ⟨Or.inl ⟨by kernel_rfl, by intro w1; go_simp; try rfl⟩, fun _ => rfl⟩ ?_
   simp only [Act.put, nrm]
   refine wpAnyIn_take (i := 4) (v := .int .i64 fr) rfl rfl (by kernel_rfl) (by kernel_rfl) (by kernel_rfl) (fun _ _ _ h => h) ⟨Or.inl ⟨by kernel_rfl, by intro w1; go_simp; try rfl⟩, fun _ => rfl⟩ ?_
   simp only [Act.put, nrm]
   refine wpAnyIn_take (i := 5) (v := .pointer (some ⟨Bs, 0, none⟩)) rfl rfl (by kernel_rfl) (by kernel_rfl) (by kernel_rfl) (fun _ _ _ h => h) ⟨Or.inl ⟨by kernel_rfl, by intro w1; go_simp; try rfl⟩, fun _ => rfl⟩ ?_
   simp only [Act.put, nrm]
   refine wpAnyIn_ready (rs := [3, 6]) (by kernel_rfl) (by simp) (AllReadyIn.cons rfl (fun K hK => ?_) (AllReadyIn.cons rfl (fun K hK => ?_) AllReadyIn.nil))
   ·rw [if_pos (by kernel_rfl)]
    gi_wp2
    try (simp only [Act.put, nrm])
    refine wpAnyIn_ready (rs := [6]) (by kernel_rfl) (by simp) (AllReadyIn.cons rfl (fun K hK => ?_) AllReadyIn.nil)
    rw [if_pos (by kernel_rfl)]
    gi_wp2
    try (simp only [Act.put, nrm])
    refine wpAnyIn_ready (rs := [7]) (by kernel_rfl) (by simp) (AllReadyIn.cons rfl (fun K hK => ?_) AllReadyIn.nil)
    rw [if_pos (by kernel_rfl)]
    gi_wp2_with fail
    refine ⟨trivial, (callsIn_wide.2 ((un HE) _)).mono ?_⟩
    rintro e x1 ⟨rfl, hb⟩
    have hax1 := (hb.cell (p := ⟨Bs, 0, none⟩) (lt_cell hax0)).trans hax0
    have hJx1 := H_ ((un hJb) _ _ _ (un hJx0) hb)
    clear hb hax0 hJx0
    gi_wp2
    try (simp only [Act.put, nrm])
    refine wpAnyIn_ready (rs := [8]) (by kernel_rfl) (by simp) (AllReadyIn.cons rfl (fun K hK => ?_) AllReadyIn.nil)
    rw [if_pos (by kernel_rfl)]
    gi_wp2_with fail
    refine ⟨trivial, (callsIn_wide.2 ((un HP') _)).mono ?_⟩
    rintro e x2 ⟨rfl, hb⟩
    have hax2 := (hb.cell (p := ⟨Bs, 0, none⟩) (lt_cell hax1)).trans hax1
    have hJx2 := H_ ((un hJb) _ _ _ (un hJx1) hb)
    clear hb hax1 hJx1
    gi_wp2
    try (simp only [Act.put, nrm])
    refine wpAnyIn_ready (rs := [9]) (by kernel_rfl) (by simp) (AllReadyIn.cons rfl (fun K hK => ?_) AllReadyIn.nil)
    rw [if_pos (by kernel_rfl)]
    obtain ⟨fn, tmps, assign, body, hy, hR⟩ := (un HY) _ ⟨⟨i, fr, s.size⟩, (un HPr) _ (by rw [<- un Hl]; simp)⟩ _ (un hJx2) (by omega)
    dsimp only at hy
    gi_wp2
    refine hR.mono ?_
    rintro e W3 (⟨rfl, hJ4, hk3⟩ | ⟨rfl, hJx3⟩)
    ·gi_wp2
     refine wpAnyIn_done (by kernel_rfl) ?_ _
     simp only [C.only]
     gi_wp2
     go_end0
     exact ⟨⟨_, rfl⟩, .inl ⟨_, by rw [vals, List.map_append]; exact (un Hl), hJ4⟩⟩
    ·gi_wp2
     refine wpAnyIn_done (by kernel_rfl) ?_ _
     simp only [C.only]
     gi_wp2
     go_end0
     exact ⟨⟨_, rfl⟩, .inr ⟨_, ⟨[], by rw [List.append_nil, vals, List.map_append]; exact un Hl⟩, hJx3⟩⟩
   ·rw [if_pos (by kernel_rfl)]
    gi_wp2
    try (simp only [Act.put, nrm])
    refine wpAnyIn_ready (rs := [3, 7]) (by kernel_rfl) (by simp) (AllReadyIn.cons rfl (fun K hK => ?_) (AllReadyIn.cons rfl (fun K hK => ?_) AllReadyIn.nil))
    ·rw [if_pos (by kernel_rfl)]
     gi_wp2
     try (simp only [Act.put, nrm])
     refine wpAnyIn_ready (rs := [7]) (by kernel_rfl) (by simp) (AllReadyIn.cons rfl (fun K hK => ?_) AllReadyIn.nil)
     rw [if_pos (by kernel_rfl)]
     gi_wp2_with fail
     refine ⟨trivial, (callsIn_wide.2 ((un HE) _)).mono ?_⟩
     rintro e x1 ⟨rfl, hb⟩
     have hax1 := (hb.cell (p := ⟨Bs, 0, none⟩) (lt_cell hax0)).trans hax0
     have hJx1 := H_ ((un hJb) _ _ _ (un hJx0) hb)
     clear hb hax0 hJx0
     gi_wp2
     try (simp only [Act.put, nrm])
     refine wpAnyIn_ready (rs := [8]) (by kernel_rfl) (by simp) (AllReadyIn.cons rfl (fun K hK => ?_) AllReadyIn.nil)
     rw [if_pos (by kernel_rfl)]
     gi_wp2_with fail
     refine ⟨trivial, (callsIn_wide.2 ((un HP') _)).mono ?_⟩
     rintro e x2 ⟨rfl, hb⟩
     have hax2 := (hb.cell (p := ⟨Bs, 0, none⟩) (lt_cell hax1)).trans hax1
     have hJx2 := H_ ((un hJb) _ _ _ (un hJx1) hb)
     clear hb hax1 hJx1
     gi_wp2
     try (simp only [Act.put, nrm])
     refine wpAnyIn_ready (rs := [9]) (by kernel_rfl) (by simp) (AllReadyIn.cons rfl (fun K hK => ?_) AllReadyIn.nil)
     rw [if_pos (by kernel_rfl)]
     obtain ⟨fn, tmps, assign, body, hy, hR⟩ := (un HY) _ ⟨⟨i, fr, s.size⟩, (un HPr) _ (by rw [<- un Hl]; simp)⟩ _ (un hJx2) (by omega)
     dsimp only at hy
     gi_wp2
     refine hR.mono ?_
     rintro e W3 (⟨rfl, hJ4, hk3⟩ | ⟨rfl, hJx3⟩)
     ·gi_wp2
      refine wpAnyIn_done (by kernel_rfl) ?_ _
      simp only [C.only]
      gi_wp2
      go_end0
      exact ⟨⟨_, rfl⟩, .inl ⟨_, by rw [vals, List.map_append]; exact (un Hl), hJ4⟩⟩
     ·gi_wp2
      refine wpAnyIn_done (by kernel_rfl) ?_ _
      simp only [C.only]
      gi_wp2
      go_end0
      exact ⟨⟨_, rfl⟩, .inr ⟨_, ⟨[], by rw [List.append_nil, vals, List.map_append]; exact un Hl⟩, hJx3⟩⟩
    ·rw [if_pos (by kernel_rfl)]
     gi_wp2_with fail
     refine ⟨trivial, (callsIn_wide.2 ((un HE) _)).mono ?_⟩
     rintro e x1 ⟨rfl, hb⟩
     have hax1 := (hb.cell (p := ⟨Bs, 0, none⟩) (lt_cell hax0)).trans hax0
     have hJx1 := H_ ((un hJb) _ _ _ (un hJx0) hb)
     clear hb hax0 hJx0
     gi_wp2
     try (simp only [Act.put, nrm])
     refine wpAnyIn_ready (rs := [3]) (by kernel_rfl) (by simp) (AllReadyIn.cons rfl (fun K hK => ?_) AllReadyIn.nil)
     rw [if_pos (by kernel_rfl)]
     gi_wp2
     try (simp only [Act.put, nrm])
     refine wpAnyIn_ready (rs := [8]) (by kernel_rfl) (by simp) (AllReadyIn.cons rfl (fun K hK => ?_) AllReadyIn.nil)
     rw [if_pos (by kernel_rfl)]
     gi_wp2_with fail
     refine ⟨trivial, (callsIn_wide.2 ((un HP') _)).mono ?_⟩
     rintro e x2 ⟨rfl, hb⟩
     have hax2 := (hb.cell (p := ⟨Bs, 0, none⟩) (lt_cell hax1)).trans hax1
     have hJx2 := H_ ((un hJb) _ _ _ (un hJx1) hb)
     clear hb hax1 hJx1
     gi_wp2
     try (simp only [Act.put, nrm])
     refine wpAnyIn_ready (rs := [9]) (by kernel_rfl) (by simp) (AllReadyIn.cons rfl (fun K hK => ?_) AllReadyIn.nil)
     rw [if_pos (by kernel_rfl)]
     obtain ⟨fn, tmps, assign, body, hy, hR⟩ := (un HY) _ ⟨⟨i, fr, s.size⟩, (un HPr) _ (by rw [<- un Hl]; simp)⟩ _ (un hJx2) (by omega)
     dsimp only at hy
     gi_wp2
     refine hR.mono ?_
     rintro e W3 (⟨rfl, hJ4, hk3⟩ | ⟨rfl, hJx3⟩)
     ·gi_wp2
      refine wpAnyIn_done (by kernel_rfl) ?_ _
      simp only [C.only]
      gi_wp2
      go_end0
      exact ⟨⟨_, rfl⟩, .inl ⟨_, by rw [vals, List.map_append]; exact (un Hl), hJ4⟩⟩
     ·gi_wp2
      refine wpAnyIn_done (by kernel_rfl) ?_ _
      simp only [C.only]
      gi_wp2
      go_end0
      exact ⟨⟨_, rfl⟩, .inr ⟨_, ⟨[], by rw [List.append_nil, vals, List.map_append]; exact un Hl⟩, hJx3⟩⟩
end Go.Proofs.YtjhnblgamodekaaGreatDoor.D
/-
 strings.Index, strings.Cut, strings.Contains, strings.Clone at a separator of one byte. Conditions: the bounds that each statement names.
-/
namespace Go.Proofs.YtjhnblgamodekaaGreatDoor.F
open Go Go.RowKit Go.Shelf Fp
open D (H_ un ext_list)
attribute [local go_sem] Oper.semAt_some
theorem idx_cut (c : UInt8) : ∀ l : List UInt8, match cutB c l with
  | none => Lib.indexByte l c = -1
  | some (k, t) => Lib.indexByte l c = k.length /\ k.length + 1 + t.length = l.length
 | [] => rfl
 | x :: r => by
  have ih := idx_cut c r
  rw [cutB]
  by_cases h : x = c
  ·subst h
   rw [if_pos rfl]
   exact ⟨by rw [Lib.indexByte]; simp, by simp; omega⟩
  ·rw [if_neg h]
   have hb : (x == c) = false := by simpa using h
   cases hc : cutB c r with
   | none =>
    rw [hc] at ih
    show Lib.indexByte (x :: r) c = -1
    rw [Lib.indexByte, hb, ih]
    rfl
   | some q =>
    rw [hc] at ih
    show Lib.indexByte (x :: r) c = ((x :: q.1).length : Int) /\ _
    rw [Lib.indexByte, hb, ih.1]
    have h1 : ((q.1.length : Int) == -1) = false := by rw [beq_eq_false_iff_ne]; omega
    rw [h1]
    refine ⟨by simp, ?_⟩
    have := ih.2
    simp only [List.length_cons]
    omega
theorem indexByte_any (c : UInt8) (s : ByteArray) (w : World) :
  Calls Tryz.prog 118 #[.string s, .int .u8 c.toNat] w fun e w' => e = .returned (.int .i64 (Lib.indexByte s.data.toList c)) /\ w' = w := by
 have hx := @run_callFunc_extern Tryz.prog 143 _ Extern.BytealgIndexByte.indexByte Tryz.func143 (by kernel_rfl) (by kernel_rfl) (by kernel_rfl) (by kernel_rfl)
 have hr := fun w => Lib.run_indexByteString (P := Tryz.prog) s c.toNat w
 rw [show (c.toNat : Int).toNat.toUInt8 = c by simp] at hr
 generalize Lib.indexByte s.data.toList c = n at *
 go_enter Tryz.func118, Tryz.ntmps118
 go_wp2
 go_ret
 exact ⟨rfl, rfl⟩
theorem index0_any (c : UInt8) (s : ByteArray) (w : World) :
  Calls Tryz.prog 99 #[.string s, .string ⟨#[c]⟩] w fun e w' => e = .returned (.int .i64 (Lib.indexByte s.data.toList c)) /\ w' = w := by
 have H := H_ fun W => indexByte_any c s W
 have hl : (⟨#[c]⟩ : ByteArray).toList = [c] := by rw [ByteArray.toList_eq]
 have hg : (⟨#[c]⟩ : ByteArray)[0]'(by show 0 < 1; decide) = c := rfl
 cases h : (([c] : List UInt8) == s.toList)
 ·generalize Lib.indexByte s.data.toList c = n at *
  go_enter Tryz.func99, Tryz.ntmps99
  go_wp2_with fail
  refine ((un H) _).mono ?_
  rintro e w1 ⟨rfl, rfl⟩
  go_wp2
  go_ret
  exact ⟨rfl, rfl⟩
 ·have e : Lib.indexByte s.data.toList c = 0 := by
   have : ([c] : List UInt8) = s.toList := by simpa using h
   rw [<- ByteArray.toList_eq, <- this]
   simp [Lib.indexByte]
  rw [e]
  clear e H
  go_enter Tryz.func99, Tryz.ntmps99
  go_wp2
  go_ret
  exact ⟨rfl, rfl⟩
theorem index_any (c : UInt8) (s : ByteArray) (w : World) :
  Calls Tryz.prog 131 #[.string s, .string ⟨#[c]⟩] w fun e w' => e = .returned (.int .i64 (Lib.indexByte s.data.toList c)) /\ w' = w := by
 have H := H_ fun W => index0_any c s W
 generalize Lib.indexByte s.data.toList c = n at *
 go_enter Tryz.func131, Tryz.ntmps131
 go_wp2_with fail
 refine ((un H) _).mono ?_
 rintro e w1 ⟨rfl, rfl⟩
 go_wp2
 go_ret
 exact ⟨rfl, rfl⟩
theorem contains_any (c : UInt8) (s : ByteArray) (w : World) :
  Calls Tryz.prog 137 #[.string s, .string ⟨#[c]⟩] w fun e w' => e = .returned (.bool (decide (c ∈ s.data.toList))) /\ w' = w := by
 have H := H_ fun W => index_any c s W
 have hi := idx_cut c s.data.toList
 have hn := cutB_none c s.data.toList
 cases h : cutB c s.data.toList with
 | none =>
  rw [h] at hi
  rw [show Lib.indexByte s.data.toList c = -1 from hi] at H
  rw [decide_eq_false (hn.1 h)]
  clear hi hn h
  go_enter Tryz.func137, Tryz.ntmps137
  go_wp2_with fail
  refine ((un H) _).mono ?_
  rintro e w1 ⟨rfl, rfl⟩
  go_wp2
  go_ret
  exact ⟨rfl, rfl⟩
 | some q =>
  obtain ⟨k, t⟩ := q
  rw [h] at hi hn
  rw [hi.1] at H
  rw [decide_eq_true (Classical.byContradiction fun hm => by have := hn.2 hm; cases this)]
  have hk : (0 : Int) <= k.length := by omega
  generalize (k.length : Int) = n at *
  clear hi hn h
  go_enter Tryz.func137, Tryz.ntmps137
  go_wp2_with fail
  refine ((un H) _).mono ?_
  rintro e w1 ⟨rfl, rfl⟩
  go_wp2
  go_ret
  exact ⟨rfl, rfl⟩
theorem take_drop_of {c : UInt8} {s : ByteArray} {k t : List UInt8} (h : cutB c s.data.toList = some (k, t)) : s.extract 0 k.length = ⟨k.toArray⟩ /\ s.extract (k.length + 1) s.size = ⟨t.toArray⟩ := by
 have e := (cutB_some _ _ _ _ h).1
 have hz : s.size = s.data.toList.length := (Array.length_toList).symm
 constructor
 ·refine ByteArray.ext (Array.ext' ?_)
  rw [ext_list, e]
  simp
 ·refine ByteArray.ext (Array.ext' ?_)
  rw [ext_list, hz, List.take_length, e]
  simp
theorem cut0_none (c : UInt8) (s : ByteArray) (w : World) (h : cutB c s.data.toList = none) :
  Calls Tryz.prog 78 #[.string s, .string ⟨#[c]⟩] w fun e w' => e = .returned (.tuple #[.string s, .string ⟨#[]⟩, .bool false]) /\ Below w.heap.size w w' := by
 have H := H_ fun W => index0_any c s W
 have hi := idx_cut c s.data.toList
 rw [h] at hi
 rw [show Lib.indexByte s.data.toList c = -1 from hi] at H
 clear hi h
 go_enter Tryz.func78, Tryz.ntmps78
 go_wp2_with fail
 refine ((un H) _).mono ?_
 rintro e w1 ⟨rfl, rfl⟩
 go_wp2
 go_ret3
 exact ⟨rfl, Below.refl _ _⟩
theorem cut0_some (c : UInt8) (s : ByteArray) (k t : List UInt8) (w : World) (hs : s.size <= 100000000) (h : cutB c s.data.toList = some (k, t)) :
  Calls Tryz.prog 78 #[.string s, .string ⟨#[c]⟩] w fun e w' => e = .returned (.tuple #[.string ⟨k.toArray⟩, .string ⟨t.toArray⟩, .bool true]) /\ Below w.heap.size w w' := by
 have H := H_ fun W => index0_any c s W
 have hi := idx_cut c s.data.toList
 rw [h] at hi
 obtain ⟨h1, h2⟩ : Lib.indexByte s.data.toList c = k.length /\ k.length + 1 + t.length = s.data.toList.length := hi
 rw [h1] at H
 rw [Array.length_toList] at h2
 obtain ⟨e1, e2⟩ := take_drop_of h
 rw [<- e1, <- e2]
 have h2' : k.length + 1 + t.length = s.size := h2
 clear h h1 e1 e2 h2
 obtain ⟨n, hn⟩ : ∃ n, k.length = n := ⟨_, rfl⟩
 rw [hn] at H h2' ⊢
 clear hn
 have hn1 : (n : Int) <= s.size := by omega
 have hn2 : (n : Int) + 1 <= s.size := by omega
 have hn3 : (n : Int) <= 100000000 := by omega
 have hc1 : ((⟨#[c]⟩ : ByteArray).size : Int) = 1 := rfl
 clear h2' hs
 have hmx : Tryz.prog.follows .mixedOrders = true := by kernel_rfl
 go_enter Tryz.func78, Tryz.ntmps78
 go_wp2_with fail
 refine ((un H) _).mono ?_
 rintro e w1 ⟨rfl, rfl⟩
 clear H
 go_wp2
 go_quiet (fail)
 go_wp2
 go_ret3
 exact ⟨rfl, U.below_drewN (Below.refl _ _) _⟩
theorem cut_none (c : UInt8) (s : ByteArray) (w : World) (h : cutB c s.data.toList = none) :
  Calls Tryz.prog 54 #[.string s, .string ⟨#[c]⟩] w fun e w' => e = .returned (.tuple #[.string s, .string ⟨#[]⟩, .bool false]) /\ Below w.heap.size w w' := by
 have H := H_ fun W => cut0_none c s W h
 clear h
 go_enter Tryz.func54, Tryz.ntmps54
 go_wp2_with fail
 refine ((un H) _).mono ?_
 rintro e w1 ⟨rfl, hb⟩
 have HB := H_ hb
 clear hb
 go_wp2
 go_ret3
 exact ⟨rfl, un HB⟩
theorem cut_some (c : UInt8) (s : ByteArray) (k t : List UInt8) (w : World) (hs : s.size <= 100000000) (h : cutB c s.data.toList = some (k, t)) :
  Calls Tryz.prog 54 #[.string s, .string ⟨#[c]⟩] w fun e w' => e = .returned (.tuple #[.string ⟨k.toArray⟩, .string ⟨t.toArray⟩, .bool true]) /\ Below w.heap.size w w' := by
 have H := H_ fun W => cut0_some c s k t W hs h
 generalize (⟨k.toArray⟩ : ByteArray) = kk at *
 generalize (⟨t.toArray⟩ : ByteArray) = tt at *
 clear h hs
 go_enter Tryz.func54, Tryz.ntmps54
 go_wp2_with fail
 refine ((un H) _).mono ?_
 rintro e w1 ⟨rfl, hb⟩
 have HB := H_ hb
 clear hb
 go_wp2
 go_ret3
 exact ⟨rfl, un HB⟩
theorem clone_any (s : ByteArray) (w : World) (hs : s.size <= 10000) : Calls Tryz.prog 32 #[.string s] w fun e w' => e = .returned (.string s) /\ Below w.heap.size w w' := by
 have H := clone0_any s w (by omega)
 go_enter Tryz.func32, Tryz.ntmps32
 go_wp2_with (go_at_call 53; refine H.mono ?_; rintro e w' ⟨rfl, hb⟩)
 go_ret
 exact ⟨rfl, hb⟩
end Go.Proofs.YtjhnblgamodekaaGreatDoor.F
/-
 strings.SplitSeq at a separator of one byte: its iterator hands over a text's pieces. Conditions: the text has at most 100000000 bytes.
-/
namespace Go.Proofs.YtjhnblgamodekaaGreatDoor.F
open Go Go.RowKit Go.Shelf Fp
open D (H_ un ext_list)
attribute [local go_sem] Oper.semAt_some
def Kpt (S : Nat -> Prop) (A B : World) : Prop := A.heap.size <= B.heap.size /\ ∀ k, S k -> k < A.heap.size -> B.heap[k]? = A.heap[k]?
theorem Kpt.refl (S : Nat -> Prop) (A : World) : Kpt S A A := ⟨Nat.le_refl _, fun _ _ _ => rfl⟩
theorem Kpt.trans {S : Nat -> Prop} {A B C : World} (h : Kpt S A B) (k : Kpt S B C) : Kpt S A C := ⟨Nat.le_trans h.1 k.1, fun i hs hl => (k.2 i hs (Nat.lt_of_lt_of_le hl h.1)).trans (h.2 i hs hl)⟩
theorem Kpt.of_but {S : Nat -> Prop} {A B : World} {b : Nat} (h : But b A B) (hS : ¬ S b) : Kpt S A B := ⟨h.size, fun k hs hl => h.block k hl (fun e => hS (e ▸ hs))⟩
theorem Kpt.of_below {S : Nat -> Prop} {A B : World} (h : Below A.heap.size A B) : Kpt S A B := ⟨h.size, fun k _ hl => h.block k hl⟩
def spb (c : UInt8) (s : ByteArray) : List ByteArray := (spl c s.data.toList).map fun l => ⟨l.toArray⟩
theorem spb_cut (c : UInt8) (s : ByteArray) : spb c s = match cutB c s.data.toList with
  | none => [s]
  | some (a, b) => ⟨a.toArray⟩ :: spb c ⟨b.toArray⟩ := by
 unfold spb
 rw [spl_cut]
 cases h : cutB c s.data.toList with
 | none => rfl
 | some q => rfl
structure Box3 (B : Nat) (c : UInt8) (s : ByteArray) (W : World) : Prop where
 bs : W.heap[B]? = some (.cells #[.string s] 9 (0, 0))
 bc : W.heap[B + 1]? = some (.cells #[.string ⟨#[c]⟩] 9 (0, 0))
 bz : W.heap[B + 2]? = some (.cells #[.int .i64 0] 3 (0, 0))
theorem Box3.kept {B : Nat} {c : UInt8} {s : ByteArray} {W W' : World} (h : Box3 B c s W) (hk : Kpt (fun k => B <= k /\ k < B + 3) W W') : Box3 B c s W' :=
 ⟨(hk.2 _ ⟨Nat.le_refl _, by omega⟩ (Array.getElem?_eq_some_iff.1 h.bs).1).trans h.bs, (hk.2 _ ⟨by omega, by omega⟩ (Array.getElem?_eq_some_iff.1 h.bc).1).trans h.bc, (hk.2 _ ⟨by omega, by omega⟩ (Array.getElem?_eq_some_iff.1 h.bz).1).trans h.bz⟩
theorem Box3.cells {B : Nat} {c : UInt8} {s : ByteArray} {W : World} (h : Box3 B c s W) : (W.cell? ⟨B, 0, none⟩ = some (.string s) /\ W.cell? ⟨B + 1, 0, none⟩ = some (.string ⟨#[c]⟩) /\ W.cell? ⟨B + 2, 0, none⟩ = some (.int .i64 0)) /\ W.frozen? ⟨B, 0, none⟩ = false := by
 obtain ⟨h1, h2, h3⟩ := h
 refine ⟨⟨?_, ?_, ?_⟩, ?_⟩ <;> simp [World.cell?, World.frozen?, h1, h2, h3]
theorem heap_set (W : World) (b i : Nat) (cs : Array Value) (t : TypeId) (v : Value) (h : W.heap[b]? = some (.cells cs t (0, 0))) : (W.setCell ⟨b, i, none⟩ v).heap[b]? = some (.cells (cs.setIfInBounds i v) t (0, 0)) := heap_setCell_same W b i cs t v h
theorem Box3.set {B : Nat} {c : UInt8} {s : ByteArray} {W : World} (h : Box3 B c s W) (t : ByteArray) : Box3 B c t (W.setCell ⟨B, 0, none⟩ (.string t)) :=
 ⟨heap_set W B 0 _ _ _ h.bs, (Below.heap_setCell _ _ _ _ (by show B + 1 ≠ B; omega)).trans h.bc, (Below.heap_setCell _ _ _ _ (by show B + 2 ≠ B; omega)).trans h.bz⟩
theorem splitSeq_any (c : UInt8) (s : ByteArray) (w : World) :
  Calls Tryz.prog 81 #[.string s, .string ⟨#[c]⟩] w fun e w' => e = .returned (.func (.func 129) #[] #[.pointer (some ⟨w.heap.size + 1, 0, none⟩), .pointer (some ⟨w.heap.size, 0, none⟩), .pointer (some ⟨w.heap.size + 1 + 1, 0, none⟩)]) /\
   Below w.heap.size w w' /\ w'.heap.size = w.heap.size + 3 /\ Box3 w.heap.size c s w' := by
 have K : ∀ w, Calls Tryz.prog 103 #[.string s, .string ⟨#[c]⟩, .int .i64 0] w fun e w' => e = .returned (.func (.func 129) #[] #[.pointer (some ⟨w.heap.size + 1, 0, none⟩), .pointer (some ⟨w.heap.size, 0, none⟩), .pointer (some ⟨w.heap.size + 1 + 1, 0, none⟩)]) /\
   w' = ((w.alloc (.cells #[.string s] 9)).alloc (.cells #[.string ⟨#[c]⟩] 9)).alloc (.cells #[.int .i64 0] 3) := by
  intro w
  go_enter Tryz.func103, Tryz.ntmps103
  go_wp2
  go_ret
  exact ⟨rfl, rfl⟩
 have H := H_ K
 clear K
 go_enter Tryz.func81, Tryz.ntmps81
 go_wp2_with fail
 refine ((un H) _).mono ?_
 rintro e w1 ⟨rfl, rfl⟩
 go_wp2
 go_ret
 refine ⟨rfl, (((Below.refl _ _).alloc (Nat.le_refl _) _).alloc (by simp) _).alloc (by simp; omega) _, by simp, ?_, ?_, ?_⟩
 ·rw [Below.heap_alloc _ _ _ (by simp; omega), Below.heap_alloc _ _ _ (by simp)]; exact World.alloc_heap_new _ _
 ·rw [Below.heap_alloc _ _ _ (by simp)]; have := World.alloc_heap_new (w.alloc (.cells #[.string s] 9)) (.cells #[.string ⟨#[c]⟩] 9); rwa [World.size_alloc] at this
 ·have := World.alloc_heap_new ((w.alloc (.cells #[.string s] 9)).alloc (.cells #[.string ⟨#[c]⟩] 9)) (.cells #[.int .i64 0] 3); rwa [World.size_alloc, World.size_alloc] at this
def Gone (G Gx : List ByteArray -> ByteArray -> Prop) (J Jx : List ByteArray -> World -> Prop) (S : Nat -> Prop) (p : List ByteArray) (x : ByteArray) (W : World) (e : Ending) (W2 : World) : Prop :=
 (e = .returned (.bool true) /\ G p x /\ J (p ++ [x]) W2 /\ Kpt S W W2) \/ (e = .returned (.bool false) /\ Gx p x /\ Jx (p ++ [x]) W2)
def Split (G Gx : List ByteArray -> ByteArray -> Prop) (J Jx : List ByteArray -> World -> Prop) (l : List ByteArray) (W' : World) : Prop :=
 ((∀ q x, q ++ [x] <+: l -> G q x) /\ J l W') \/ (∃ q x, q ++ [x] <+: l /\ Gx q x /\ Jx (q ++ [x]) W')
theorem split1_any (c : UInt8) (s : ByteArray) (B l : Nat) (hs : s.size <= 100000000) (G Gx : List ByteArray -> ByteArray -> Prop) (J Jx : List ByteArray -> World -> Prop)
  (hJ : ∀ p A A', But B A A' -> J p A -> J p A')
  (hY : ∀ p x W m, J p W -> p ++ [x] <+: spb c s -> YieldAt Fence.wide m Tryz.prog l #[.string x] W (Gone G Gx J Jx (fun k => B <= k /\ k < B + 3) p x W))
  (W : World) (h0 : J [] W) (hB : Box3 B c s W) :
  CallsIn Fence.wide 6 Tryz.prog 129 #[.func (.yield l) #[] #[], .pointer (some ⟨B + 1, 0, none⟩), .pointer (some ⟨B, 0, none⟩), .pointer (some ⟨B + 1 + 1, 0, none⟩)] W fun e W' => (∃ v, e = .returned v) /\ Split G Gx J Jx (spb c s) W' := by
 have HB := H_ hB
 obtain ⟨⟨c0, c1, c2⟩, _⟩ := hB.cells
 have HJ := H_ hJ
 have HY := H_ hY
 have hc1 : ((⟨#[c]⟩ : ByteArray).size : Int) = 1 := rfl
 clear hJ hY hB
 refine callsIn_of_wp Tryz.func129 rfl trivial ?_ rfl
 simp only [Tryz.ntmps129, List.size_toArray, List.length_cons, List.length_nil, Nat.reduceAdd, Nat.reduceSub, Array.replicate_succ, Array.replicate_zero, List.push_toArray, List.append_toArray, List.nil_append, List.cons_append]
 gi_wp2
 gi_loopw [7] (fun _ wr => ∃ (pre : List ByteArray) (r : ByteArray), Hid (pre ++ spb c r = spb c s) /\ Hid (r.size <= 100000000) /\ Hid (∀ q x, q ++ [x] <+: pre -> G q x) /\ Hid (J pre wr) /\ Hid (Box3 B c r wr)) (fun _ wr => match wr.cell? ⟨B, 0, none⟩ with | some (.string r) => r.size | _ => 0)
 case atStart => exact ⟨[], s, H_ rfl, H_ hs, H_ (fun q x h => by have := h.length_le; simp at this), H_ h0, HB⟩
 case round =>
  obtain ⟨pre, r, hpre, hr, hG, hj, hB⟩ := hrel
  clear HB h0 c0 c1 c2
  obtain ⟨⟨c0, c1, c2⟩, f0⟩ := (un hB).cells
  have HI := H_ fun W => index_any c r W
  have hcut := idx_cut c r.data.toList
  have hsp := spb_cut c r
  cases hq : cutB c r.data.toList with
  | none =>
   rw [hq] at hcut hsp
   rw [show Lib.indexByte r.data.toList c = -1 from hcut] at HI
   have hsp : spb c r = [r] := hsp
   have hp1 : pre ++ [r] = spb c s := by rw [<- hsp]; exact un hpre
   have hp2 : pre ++ [r] <+: spb c s := hp1 ▸ List.prefix_rfl
   obtain ⟨fn, tmps, assign, body, hy, hRd⟩ := (un HY) pre r wr 5 (un hj) hp2
   have HP := H_ hp1
   clear hcut hsp hp1 hp2 HY HJ
   gi_wp2_with fail
   refine ⟨trivial, (callsIn_wide.2 ((un HI) _)).mono ?_⟩
   rintro e w1 ⟨rfl, rfl⟩
   gi_wp2
   refine hRd.mono ?_
   rintro e W3 (⟨rfl, hg, hj3, _⟩ | ⟨rfl, hg, hx3⟩)
   ·gi_wp2
    go_end0
    refine ⟨⟨_, rfl⟩, .inl ⟨fun q x hpx => ?_, (un HP) ▸ hj3⟩⟩
    rw [<- un HP] at hpx
    rcases List.prefix_concat_iff.1 hpx with h | h
    ·have h2 := List.append_inj' h rfl
     have h3 : x = r := by simpa using h2.2
     rw [h2.1, h3]; exact hg
    ·exact (un hG) q x h
   ·gi_wp2
    go_end0
    exact ⟨⟨_, rfl⟩, .inr ⟨pre, r, (un HP) ▸ List.prefix_rfl, hg, hx3⟩⟩
  | some q =>
   obtain ⟨a, b⟩ := q
   rw [hq] at hcut hsp
   obtain ⟨h1, h2⟩ : Lib.indexByte r.data.toList c = a.length /\ a.length + 1 + b.length = r.data.toList.length := hcut
   rw [h1] at HI
   rw [Array.length_toList] at h2
   have h2' : a.length + 1 + b.length = r.size := h2
   have hsp : spb c r = ⟨a.toArray⟩ :: spb c ⟨b.toArray⟩ := hsp
   have hpn : (pre ++ [⟨a.toArray⟩]) ++ spb c ⟨b.toArray⟩ = spb c s := by rw [List.append_assoc, List.singleton_append, <- hsp]; exact un hpre
   have hp2 : pre ++ [⟨a.toArray⟩] <+: spb c s := by rw [<- hpn]; exact List.prefix_append _ _
   obtain ⟨e1, e2⟩ := take_drop_of hq
   have hbz : (⟨b.toArray⟩ : ByteArray).size = b.length := by show b.toArray.size = _; simp
   obtain ⟨fn, tmps, assign, body, hy, hRd⟩ := (un HY) pre (r.extract 0 a.length) wr 5 (un hj) (by rw [e1]; exact hp2)
   obtain ⟨n, hn⟩ : ∃ n, a.length = n := ⟨_, rfl⟩
   rw [hn] at HI h2' e1 e2 hy hRd
   have hrz := un hr
   have hn1 : (n : Int) <= r.size := by omega
   have hn2 : (n : Int) + 1 <= r.size := by omega
   have hn3 : (n : Int) <= 100000000 := by omega
   have HS : Hid ((⟨b.toArray⟩ : ByteArray).size < r.size) := H_ (by omega)
   have HE := H_ (And.intro e1 e2)
   have HP := H_ (And.intro hpn hp2)
   clear hsp hpn hp2 h1 h2 h2' e1 e2 hq hn hrz hbz
   gi_wp2_with fail
   refine ⟨trivial, (callsIn_wide.2 ((un HI) _)).mono ?_⟩
   rintro e w1 ⟨rfl, rfl⟩
   gi_wp2
   refine hRd.mono ?_
   rintro e W3 (⟨rfl, hg, hj3, hk3⟩ | ⟨rfl, hg, hx3⟩)
   ·have hB3 := (un hB).kept hk3
    obtain ⟨⟨d0, d1, d2⟩, g0⟩ := hB3.cells
    have HB3 := H_ hB3
    have HJ3 := H_ hj3
    have HG3 := H_ hg
    clear hB3 hj3 hg hk3
    gi_wp2
    go_roundw
    case rel =>
     obtain ⟨e1, e2⟩ := un HE
     refine ⟨pre ++ [⟨a.toArray⟩], ⟨b.toArray⟩, H_ (un HP).1, H_ (by have := un HS; have := un hr; omega), H_ fun q x hpx => ?_, ?_, ?_⟩
     ·rcases List.prefix_concat_iff.1 hpx with h | h
      ·have h2 := List.append_inj' h rfl
       have h3 : x = ⟨a.toArray⟩ := by simpa using h2.2
       rw [h2.1, h3, <- e1]; exact un HG3
      ·exact (un hG) q x h
     ·rw [<- e1]
      exact H_ ((un HJ) _ _ _ ((But.refl _ _).setCell 0 _) (un HJ3))
     ·rw [e2]
      exact H_ ((un HB3).set _)
    case measure =>
     obtain ⟨e1, e2⟩ := un HE
     have h1 := un HS
     have h2 := ((un HB3).set (r.extract (n + 1) r.size)).cells.1.1
     have h3 := (un hB).cells.1.1
     rw [e2] at h2
     simp only [e2, h2, h3]
     exact h1
   ·have hp2 := (un HP).2
    obtain ⟨e1, e2⟩ := un HE
    rw [e1] at hg hx3
    have HX := H_ (And.intro hp2 (And.intro hg hx3))
    clear hg hx3 hp2 e1 e2
    gi_wp2
    refine bodyPost_ret (results_none rfl _ _ _) rfl ?_
    exact ⟨⟨_, rfl⟩, .inr ⟨pre, ⟨a.toArray⟩, (un HX).1, (un HX).2.1, (un HX).2.2⟩⟩
end Go.Proofs.YtjhnblgamodekaaGreatDoor.F
/-
 How filt.pass goes through the filters in a filter, and filt.all's iterator. Conditions: none.
-/
namespace Go.Proofs.YtjhnblgamodekaaGreatDoor.F
open Go Go.RowKit Go.Shelf Fp
open D (H_ un)
attribute [local go_sem] Oper.semAt_some
structure Pv where
 deep : Nat
 ok : Bool
 nm : ByteArray
def vis : (n : Nat) -> Nat -> Fl n -> List Pv
 | 0, _, t => Empty.elim t
 | n + 1, deep, F => ⟨deep, fitF F, Fp.nm F⟩ :: ((ls F).map (vis n (deep + 1))).flatten
theorem vis_right : ∀ (n deep : Nat) (F : Fl n), right n (7 - deep) F = (vis n deep F).all fun q => decide (q.deep <= 6) && q.ok
 | 0, _, t => Empty.elim t
 | n + 1, deep, F => by
  rw [right, vis, List.all_cons, List.all_flatten, List.all_map]
  congr 1
  ·congr 1
   show decide (0 < 7 - deep) = decide (deep <= 6)
   exact decide_eq_decide.2 (by omega)
  ·congr 1
   funext x
   rw [show 7 - deep - 1 = 7 - (deep + 1) by omega]
   exact vis_right n (deep + 1) x
def nxN (s : List ByteArray) (q : Pv) : List ByteArray := if q.nm.size = 0 then s else s ++ [q.nm]
theorem vis_names : ∀ (n deep : Nat) (F : Fl n) (s : List ByteArray), (vis n deep F).foldl nxN s = s ++ names n F
 | 0, _, t, _ => Empty.elim t
 | n + 1, deep, F, s => by
  have key : ∀ (l : List (Fl n)) (s : List ByteArray), ((l.map (vis n (deep + 1))).flatten).foldl nxN s = s ++ (l.map (names n)).flatten := by
   intro l
   induction l with
   | nil => intro s; simp
   | cons x l ih =>
    intro s
    rw [List.map_cons, List.flatten_cons, List.foldl_append, vis_names n (deep + 1) x, ih, List.map_cons, List.flatten_cons, List.append_assoc]
  rw [vis, List.foldl_cons, key, names, <- List.append_assoc]
  congr 1
  unfold nxN
  simp only
  split <;> simp
def Kf (Lo l : Nat) (A B : World) : Prop := A.heap.size <= B.heap.size /\ ∀ k, k < A.heap.size -> k ≠ l -> (k < Lo \/ ∃ cs, A.heap[k]? = some (.cells cs 25 (0, 0))) -> B.heap[k]? = A.heap[k]?
theorem Kf.refl (Lo l : Nat) (A : World) : Kf Lo l A A := ⟨Nat.le_refl _, fun _ _ _ _ => rfl⟩
theorem Kf.trans {Lo l : Nat} {A B C : World} (h : Kf Lo l A B) (k : Kf Lo l B C) : Kf Lo l A C := ⟨Nat.le_trans h.1 k.1, fun i hi hn ho => by
 have e := h.2 i hi hn ho
 exact (k.2 i (Nat.lt_of_lt_of_le hi h.1) hn (ho.imp id fun ⟨cs, hc⟩ => ⟨cs, e.trans hc⟩)).trans e⟩
theorem Kf.of_but {Lo l : Nat} {A B : World} (h : But l A B) : Kf Lo l A B := ⟨h.size, fun k hk hn _ => h.block k hk hn⟩
theorem Kf.of_below {Lo l : Nat} {A B : World} (h : Below A.heap.size A B) : Kf Lo l A B := ⟨h.size, fun k hk _ _ => h.block k hk⟩
theorem Kf.alloc {Lo l : Nat} {A B : World} (h : Kf Lo l A B) (o : Obj) : Kf Lo l A (B.alloc o) := h.trans (Kf.of_below ((Below.refl _ _).alloc (Nat.le_refl _) o))
def PrV (Lo : Nat) (q : Pv) (d : Fd) (W : World) : Prop := ∃ (n : Nat) (F : Fl (n + 1)), Is d F /\ Sm F /\ Strs W (fun b => b < Lo) d.sa (an F) /\ q.ok = fitF F /\ q.nm = Fp.nm F
def Took {σ : Type} (G Gx : σ -> Pv -> Prop) (nx : σ -> Pv -> σ) (J Jx : σ -> World -> Prop) (Lo l : Nat) (s : σ) (q : Pv) (W : World) (e : Ending) (W2 : World) : Prop :=
 (e = .returned (.bool true) /\ G s q /\ J (nx s q) W2 /\ Kf Lo l W W2) \/ (e = .returned (.bool false) /\ Gx s q /\ Jx (nx s q) W2)
def Ran {σ : Type} (G Gx : σ -> Pv -> Prop) (nx : σ -> Pv -> σ) (J Jx : σ -> World -> Prop) (Lo l : Nat) (s : σ) (L : List Pv) (W : World) (e : Ending) (W' : World) : Prop :=
 (e = .returned (.bool true) /\ (∀ L1 q L2, L = L1 ++ q :: L2 -> G (L1.foldl nx s) q) /\ J (L.foldl nx s) W' /\ Kf Lo l W W') \/
 (e = .returned (.bool false) /\ ∃ L1 q L2, L = L1 ++ q :: L2 /\ Gx (L1.foldl nx s) q /\ Jx (nx (L1.foldl nx s) q) W')
theorem goods_app {σ : Type} {G : σ -> Pv -> Prop} {nx : σ -> Pv -> σ} {s : σ} {A B : List Pv} (hA : ∀ L1 q L2, A = L1 ++ q :: L2 -> G (L1.foldl nx s) q) (hB : ∀ L1 q L2, B = L1 ++ q :: L2 -> G (L1.foldl nx (A.foldl nx s)) q) :
  ∀ L1 q L2, A ++ B = L1 ++ q :: L2 -> G (L1.foldl nx s) q := by
 intro L1 q L2 h
 rcases List.append_eq_append_iff.1 h with ⟨c, h1, h2⟩ | ⟨c, h1, h2⟩
 ·rw [h1, List.foldl_append]
  exact hB c q L2 h2
 ·cases c with
  | nil =>
   rw [List.append_nil] at h1
   rw [h1] at hB
   rw [List.nil_append] at h2
   exact hB [] q L2 h2.symm
  | cons y c =>
   rw [List.cons_append] at h2
   obtain ⟨rfl, _⟩ := List.cons.inj h2
   exact hA L1 q c h1
theorem pass_any {σ : Type} (Lo l : Nat) (hLo : Lo <= l) (G Gx : σ -> Pv -> Prop) (nx : σ -> Pv -> σ) (J Jx : σ -> World -> Prop) (hJ : ∀ s A o, J s A -> J s (A.alloc o)) (hJX : ∀ s A, J s A -> l < A.heap.size)
  (Ok : σ -> Pv -> Prop)
  (hY : ∀ s q d W m, J s W -> Ok s q -> PrV Lo q d W -> YieldAt Fence.wide m Tryz.prog l #[.int .i64 q.deep, d.val] W (Took G Gx nx J Jx Lo l s q W)) :
  ∀ (n : Nat) (F : Fl n) (s : σ) (deep : Nat) (W : World) (d : Fd), (∀ L1 q L2, vis n deep F = L1 ++ q :: L2 -> Ok (L1.foldl nx s) q) -> FNode n W (fun b => b < Lo) d F -> J s W -> deep <= 1000 - n -> n <= 100 ->
   Calls Tryz.prog 52 #[d.val, .int .i64 deep, .func (.yield l) #[] #[]] W (Ran G Gx nx J Jx Lo l s (vis n deep F) W) := by
 intro n
 induction n with
 | zero => intro F; exact Empty.elim F
 | succ n ih =>
  intro F s deep W d hok hN hj hdp hn
  have HOK := H_ hok
  clear hok
  obtain ⟨k, a, v, sa, sn, sc, f, la, ln, lc⟩ := d
  have hI := hN.is
  have hln : ln = (ls F).length := hI.ln
  have hk' : (ln : Int) <= 1000 := by have := hN.sm.ln; omega
  have hyv := hY s ⟨deep, fitF F, Fp.nm F⟩ ⟨k, a, v, sa, sn, sc, f, la, ln, lc⟩ (W.alloc (.cells #[.int .i64 k, .string a, .string v, .slice sa sn sc, .string f, .slice la ln lc] 25)) 4 (hJ _ _ _ hj) ((un HOK) [] _ _ (by rw [vis]; rfl))
   ⟨n, F, hI, hN.sm, hN.strs.of (fun b _ hl => Below.heap_alloc W _ b hl), rfl, rfl⟩
  have HN := H_ hN
  have IH := H_ ih
  have HY := H_ hY
  have HI := H_ hln
  clear ih hN hY hI hln
  obtain ⟨fn, tmps, assign, body, hy, hR⟩ := hyv
  dsimp only at hy
  refine (callsIn_wide (n := 5)).1 ?_
  refine callsIn_of_wp Tryz.func52 rfl trivial ?_ rfl
  simp only [Tryz.ntmps52, List.size_toArray, List.length_cons, List.length_nil, Nat.reduceAdd, Nat.reduceSub, Array.replicate_succ, Array.replicate_zero, List.push_toArray, List.append_toArray, List.nil_append, List.cons_append]
  gi_wp2
  refine hR.mono ?_
  rintro e W2 (⟨rfl, hg, hj2, hlow⟩ | ⟨rfl, hg, hx⟩)
  ·have hbox : W2.heap[W.heap.size]? = some (.cells #[.int .i64 k, .string a, .string v, .slice sa sn sc, .string f, .slice la ln lc] 25 (0, 0)) :=
    (hlow.2 _ (by simp) (fun e => by have := hJX _ _ hj; omega) (.inr ⟨_, World.alloc_heap_new W _⟩)).trans (World.alloc_heap_new W _)
   have b5 := (At.box (d := ⟨k, a, v, sa, sn, sc, f, la, ln, lc⟩) hbox).c5
   have hlow2 : Kf Lo l W W2 := ((Kf.refl _ _ W).alloc _).trans hlow
   have HG := H_ hg
   clear hR hg hlow hbox
   gi_wp2
   gi_loopw [17] (fun y wr => ∃ i : Nat, i <= (ls F).length /\ y = .int .i64 i /\ Hid (∀ L1 q L2, ((⟨deep, fitF F, Fp.nm F⟩ : Pv) :: (((ls F).take i).map (vis n (deep + 1))).flatten) = L1 ++ q :: L2 -> G (L1.foldl nx s) q) /\ J (((⟨deep, fitF F, Fp.nm F⟩ : Pv) :: (((ls F).take i).map (vis n (deep + 1))).flatten).foldl nx s) wr /\ Kf Lo l W wr)
    (fun y _ => (ls F).length - (intOf y).toNat)
   case atStart =>
    refine ⟨0, Nat.zero_le _, rfl, ?_, hj2, hlow2⟩
    show ∀ L1 q L2, _
    intro L1 q L2 h
    cases L1 with
    | nil => obtain ⟨rfl, _⟩ := List.cons.inj h; exact un HG
    | cons y L1 => simp at h
   case round =>
    obtain ⟨i, hi, rfl, hgs, hj3, hlow3⟩ := hrel
    clear b5 hlow2 hj2 hy
    have hln := un HI
    by_cases hlt : i < (ls F).length
    ·obtain ⟨g, off, ha⟩ := (un HN).kids
     have ha : la = some ⟨g, off, none⟩ := ha.resolve_right (fun e => by rw [e] at hlt; cases hlt)
     have hNr := (un HN).of (W' := wr) (fun b hb hl => hlow3.2 b hl (by omega) (.inl hb))
     obtain ⟨⟨k', a', v', sa', sn', sc', f', la', ln', lc'⟩, hat, hNi⟩ := hNr.kid ha hlt
     obtain ⟨c0, c1, c2, c3, c4, c5⟩ := hat
     dsimp only at c0 c1 c2 c3 c4 c5
     have H := H_ (fun o => by
      have := (un IH) (ls F)[i] (((⟨deep, fitF F, Fp.nm F⟩ : Pv) :: (((ls F).take i).map (vis n (deep + 1))).flatten).foldl nx s) (deep + 1) (wr.alloc o) _ (fun L1 q L2 e => by
       rw [<- List.foldl_append]
       exact (un HOK) _ q (L2 ++ (((ls F).drop (i + 1)).map (vis n (deep + 1))).flatten) (by
        rw [vis]
        conv => lhs; rw [<- List.take_append_drop i (ls F), List.drop_eq_getElem_cons hlt]
        rw [List.map_append, List.map_cons, List.flatten_append, List.flatten_cons, e]
        simp)) (hNi.of (W' := wr.alloc o) fun b _ hl => Below.heap_alloc wr o b hl) (hJ _ _ _ hj3) (by omega) (by omega)
      rw [Int.natCast_add] at this
      exact this)
     have htk : ((⟨deep, fitF F, Fp.nm F⟩ : Pv) :: (((ls F).take (i + 1)).map (vis n (deep + 1))).flatten) = ((⟨deep, fitF F, Fp.nm F⟩ : Pv) :: (((ls F).take i).map (vis n (deep + 1))).flatten) ++ vis n (deep + 1) (ls F)[i] := by
      rw [List.take_succ_eq_append_getElem hlt, List.map_append, List.flatten_append, List.cons_append]
      simp
     have htot : vis (n + 1) deep F = ((⟨deep, fitF F, Fp.nm F⟩ : Pv) :: (((ls F).take (i + 1)).map (vis n (deep + 1))).flatten) ++ (((ls F).drop (i + 1)).map (vis n (deep + 1))).flatten := by
      rw [vis, List.cons_append, <- List.flatten_append, <- List.map_append, List.take_append_drop]
     have hlt' : (i : Int) < ln := by omega
     have hd1 : (deep : Int) <= 1000 := by omega
     subst ha
     have HT := H_ htk
     have HT2 := H_ htot
     clear hNi hNr htk htot hln
     gi_wp2_with fail
     refine ⟨trivial, (callsIn_wide.2 ((un H) _)).mono ?_⟩
     rintro e W3 (⟨rfl, hs2, hj4, hlow4⟩ | ⟨rfl, L1, q, L2, hs2, hg2, hx⟩)
     ·have Hs := H_ (goods_app (un hgs) hs2)
      rw [<- List.foldl_append, <- un HT] at hj4
      rw [<- un HT] at Hs
      clear hgs hs2 H
      gi_wp2
      go_roundw
      case rel => exact ⟨i + 1, by omega, by simp, Hs, hj4, hlow3.trans (((Kf.refl _ _ wr).alloc _).trans hlow4)⟩
      case measure => simp [intOf]; omega
     ·have Hs : Hid (∃ L1 q L2, vis (n + 1) deep F = L1 ++ q :: L2 /\ Gx (L1.foldl nx s) q /\ Jx (nx (L1.foldl nx s) q) W3) := H_ ⟨((⟨deep, fitF F, Fp.nm F⟩ : Pv) :: (((ls F).take i).map (vis n (deep + 1))).flatten) ++ L1, q, L2 ++ (((ls F).drop (i + 1)).map (vis n (deep + 1))).flatten, by
       rw [un HT2, un HT, hs2]; simp, by rw [List.foldl_append]; exact hg2, by rw [List.foldl_append]; exact hx⟩
      clear hgs hs2 H hg2 hx
      gi_wp2
      go_ret
      exact .inr ⟨rfl, un Hs⟩
    ·have hge : ¬ (i : Int) < ln := by omega
     have hfin : ((⟨deep, fitF F, Fp.nm F⟩ : Pv) :: (((ls F).take i).map (vis n (deep + 1))).flatten) = vis (n + 1) deep F := by rw [List.take_of_length_le (by omega), vis]
     rw [hfin] at hj3 hgs
     clear hfin hln
     gi_wp2
     go_ret
     exact .inl ⟨rfl, un hgs, hj3, hlow3⟩
  ·have Hs : Hid (∃ L1 q L2, vis (n + 1) deep F = L1 ++ q :: L2 /\ Gx (L1.foldl nx s) q /\ Jx (nx (L1.foldl nx s) q) W2) := H_ ⟨[], _, _, rfl, hg, hx⟩
   clear hR hg hx
   gi_wp2
   go_ret
   exact .inr ⟨rfl, un Hs⟩
theorem all_any (d : Fd) (w : World) :
  Calls Tryz.prog 31 #[d.val] w fun e w' => e = .returned (.func (.func 51) #[] #[.pointer (some ⟨w.heap.size, 0, none⟩)]) /\ w' = w.alloc d.obj := by
 obtain ⟨k, a, v, sa, sn, sc, f, la, ln, lc⟩ := d
 go_enter Tryz.func31, Tryz.ntmps31
 go_wp2
 go_ret
 exact ⟨rfl, rfl⟩
theorem all1_any {σ : Type} (n Lo l Bx : Nat) (hLo : Lo <= l) (F : Fl (n + 1)) (G Gx : σ -> Pv -> Prop) (nx : σ -> Pv -> σ) (J Jx : σ -> World -> Prop) (hJ : ∀ s A o, J s A -> J s (A.alloc o)) (hJX : ∀ s A, J s A -> l < A.heap.size)
  (Ok : σ -> Pv -> Prop)
  (hY : ∀ s q d W m, J s W -> Ok s q -> PrV Lo q d W -> YieldAt Fence.wide m Tryz.prog l #[.int .i64 q.deep, d.val] W (Took G Gx nx J Jx Lo l s q W))
  (s : σ) (W : World) (d : Fd) (hok : ∀ L1 q L2, vis (n + 1) 1 F = L1 ++ q :: L2 -> Ok (L1.foldl nx s) q) (hN : FNode (n + 1) W (fun b => b < Lo) d F) (hn : n <= 99) (hj : J s W) (hB : At W Bx 0 d) :
  CallsIn Fence.wide 6 Tryz.prog 51 #[.func (.yield l) #[] #[], .pointer (some ⟨Bx, 0, none⟩)] W fun e W' => (∃ v, e = .returned v) /\ ∃ e', Ran G Gx nx J Jx Lo l s (vis (n + 1) 1 F) W e' W' := by
 have H := pass_any Lo l hLo G Gx nx J Jx hJ hJX Ok hY (n + 1) F s 1 W d hok hN hj (by omega) (by omega)
 obtain ⟨k, a, v, sa, sn, sc, f, la, ln, lc⟩ := d
 obtain ⟨c0, c1, c2, c3, c4, c5⟩ := hB
 dsimp only at c0 c1 c2 c3 c4 c5
 rw [show ((1 : Nat) : Int) = 1 from rfl] at H
 clear hY hN hok
 refine callsIn_of_wp Tryz.func51 rfl trivial ?_ rfl
 simp only [Tryz.ntmps51, List.size_toArray, List.length_cons, List.length_nil, Nat.reduceAdd, Nat.reduceSub, Array.replicate_succ, Array.replicate_zero, List.push_toArray, List.append_toArray, List.nil_append, List.cons_append]
 gi_wp2_with fail
 refine ⟨trivial, (callsIn_wide.2 H).mono ?_⟩
 rintro e W3 (⟨rfl, h1, h2, h3⟩ | ⟨rfl, h1⟩)
 ·gi_wp2
  go_end0
  exact ⟨⟨_, rfl⟩, .returned (.bool true), .inl ⟨rfl, h1, h2, h3⟩⟩
 ·gi_wp2
  go_end0
  exact ⟨⟨_, rfl⟩, .returned (.bool false), .inr ⟨rfl, h1⟩⟩
end Go.Proofs.YtjhnblgamodekaaGreatDoor.F
/-
 The maps of filt.signs and of filt.kinds, and what is looked up in them. Conditions: none.
-/
namespace Go.Proofs.YtjhnblgamodekaaGreatDoor.F
open Go Go.RowKit Go.Shelf Go.Maps Fp
open D (H_ un)
theorem lawI : Keyed Tryz.prog 3 := int_keyed Tryz.underlying3
theorem lawS : Keyed Tryz.prog 9 := string_keyed Tryz.underlying9
theorem zeroS (w : World) : (zeroValue 9).run Tryz.prog w = .ok (.string ⟨#[]⟩) w := by kernel_rfl
theorem zeroI (w : World) : (zeroValue 3).run Tryz.prog w = .ok (.int .i64 0) w := by kernel_rfl
abbrev Dt := DataW Unit
def hasSgn (k : Int) : Bool := k == 0 || k == 1 || k == 2 || k == 3 || k == 5 || k == 6 || k == 8 || k == 7
abbrev kI (k : Int) : Lit := .int .i64 k
abbrev kS (l : List UInt8) : Lit := .string l
def SD : Dt := ((((((((DataW.map [] : Dt).put (kI 0) (.lit (.string [38]))).put (kI 1) (.lit (.string [124]))).put (kI 2) (.lit (.string [33]))).put (kI 3) (.lit (.string [61]))).put (kI 5) (.lit (.string [62, 61]))).put (kI 6) (.lit (.string [60, 61]))).put (kI 8) (.lit (.string [126, 61]))).put (kI 7) (.lit (.string [61, 42]))
theorem sd_at (k : Int) (h : hasSgn k = true) (z : Dt) : SD.atKey (kI k) z = .lit (.string (sgn k)) := by
 unfold hasSgn at h
 simp only [Bool.or_eq_true, beq_iff_eq] at h
 rcases h with ((((((h | h) | h) | h) | h) | h) | h) | h <;> subst h <;> rfl
theorem sd_has (k : Int) : Maps.has SD (kI k) = hasSgn k := by
 have hne : ∀ j, k ≠ j -> kI k ≠ kI j := fun j h e => h (by cases e; rfl)
 unfold hasSgn
 by_cases h0 : k = 0
 ·subst h0; rfl
 by_cases h1 : k = 1
 ·subst h1; rfl
 by_cases h2 : k = 2
 ·subst h2; rfl
 by_cases h3 : k = 3
 ·subst h3; rfl
 by_cases h5 : k = 5
 ·subst h5; rfl
 by_cases h6 : k = 6
 ·subst h6; rfl
 by_cases h8 : k = 8
 ·subst h8; rfl
 by_cases h7 : k = 7
 ·subst h7; rfl
 unfold SD
 rw [has_put_other (hne 7 h7), has_put_other (hne 8 h8), has_put_other (hne 6 h6), has_put_other (hne 5 h5), has_put_other (hne 3 h3), has_put_other (hne 2 h2), has_put_other (hne 1 h1), has_put_other (hne 0 h0)]
 have e : ∀ j, k ≠ j -> (k == j) = false := fun j h => beq_eq_false_iff_ne.2 h
 rw [e 0 h0, e 1 h1, e 2 h2, e 3 h3, e 5 h5, e 6 h6, e 7 h7, e 8 h8]
 rfl
def SignsAt (W : World) (B : Nat) : Prop := W.ownsMap Tryz.prog 3 (plainElem Tryz.prog 9) B 8 SD
theorem SignsAt.below {W W' : World} {B : Nat} (h : SignsAt W B) (hb : Below W.heap.size W W') : SignsAt W' B :=
 World.ownsMap.kept (row := none) h ⟨hb.os, hb.tape, hb.output, hb.size, fun k hk _ => hb.block k hk⟩ (by simp)
theorem SignsAt.look {W : World} {B : Nat} (h : SignsAt W B) (k : Int) (hk : hasSgn k = true) : (Instr.lookup 45 (.map (some B)) (.int .i64 k) false).run Tryz.prog W = .ok (.string ⟨(sgn k).toArray⟩) W := by
 have hwf : (Lit.int .i64 k).wf = true := by
  unfold hasSgn at hk
  simp only [Bool.or_eq_true, beq_iff_eq] at hk
  rcases hk with ((((((h | h) | h) | h) | h) | h) | h) | h <;> subst h <;> decide
 obtain ⟨v, ps, h1, h2⟩ := World.ownsMap.lookup h lawI Tryz.underlying45 (zeroS W) (plainElem_string Tryz.underlying9 (by decide)) (keyOf_int_mk Tryz.underlying3 hwf)
 obtain ⟨s, rfl, h3, _⟩ := plainElem_string_inv Tryz.underlying9 h2
 rw [sd_at k hk] at h3
 simp only [Prod.mk.injEq, DataW.lit.injEq, Lit.string.injEq] at h3
 rw [h1, h3.1]
theorem wpList_insert_own {H : Type} {P : Program} (w : World) {ops : Array Oper} {rest : List Oper} {o : Oper} {a : Act} {Q : Exit -> Act -> World -> Prop}
  (hg : o.guard = none) (m x v : Operand) (t : TypeId) (hop : o.op = Op.insert t m x v)
  (k e : TypeId) (K : Keyed P k) (ht : P.underlying t = some (.map k e)) (R : Value -> Option (DataW H × List MemPlace)) (b n : Nat) (D : DataW H)
  (hm : a.eval m = .map (some b)) (hown : w.ownsMap P k R b n D) (hn : n < maxLen) (key val : Value) (kl : Lit) (hx : a.eval x = key) (hv : a.eval v = val) (hkey : keyOf P k key = some kl)
  (d : DataW H) (ps : List MemPlace) (hval : R val = some (d, ps))
  (hK : ∀ w', w'.ownsMap P k R b (n + 1) (D.put kl d) -> w.grownBy w' (some b) -> wpList P ops Q rest (a.put o.dst undef) w') :
  wpList P ops Q (o :: rest) a w := by
 refine wpList_plain hg fun K' hK' => ?_
 obtain ⟨w', hrun, r1, r2⟩ := hown.update K ht hn hkey hval
 unfold Oper.wp
 simp [execOp, hop, hm, hx, hv, hrun, Result.andThen]
 exact hK' _ _ (hK w' r1 r2)
theorem signs_any (w : World) : Calls Tryz.prog 23 #[] w fun e w' => e = .returned (.map (some w.heap.size)) /\ Below w.heap.size w w' /\ SignsAt w' w.heap.size := by
 have hmm := @run_makeMap Tryz.prog
 have hown0 := World.ownsMap_made w Tryz.prog 3 (plainElem (H := Unit) Tryz.prog 9)
 have hg0 : w.grownBy (w.alloc (.map #[] 0)) (some w.heap.size) := (World.grownBy_alloc w _ none).but _
 go_enter Tryz.func23, Tryz.ntmps23
 go_wp2_with (first | (refine wpList_insert_own _ rfl _ _ _ 45 rfl 3 9 lawI Tryz.underlying45 (plainElem (H := Unit) Tryz.prog 9) w.heap.size 0 _ rfl hown0 (by decide) _ _ _ rfl rfl (keyOf_int_mk Tryz.underlying3 (by decide)) _ [] (plainElem_string Tryz.underlying9 (by decide)) ?_; intro w1 hown1 hq1; have hg1 := hg0.andThen hq1 (by simp); clear hown0 hg0 hq1) | (refine wpList_insert_own _ rfl _ _ _ 45 rfl 3 9 lawI Tryz.underlying45 (plainElem (H := Unit) Tryz.prog 9) w.heap.size 1 _ rfl hown1 (by decide) _ _ _ rfl rfl (keyOf_int_mk Tryz.underlying3 (by decide)) _ [] (plainElem_string Tryz.underlying9 (by decide)) ?_; intro w2 hown2 hq2; have hg2 := hg1.andThen hq2 (by simp); clear hown1 hg1 hq2) | (refine wpList_insert_own _ rfl _ _ _ 45 rfl 3 9 lawI Tryz.underlying45 (plainElem (H := Unit) Tryz.prog 9) w.heap.size 2 _ rfl hown2 (by decide) _ _ _ rfl rfl (keyOf_int_mk Tryz.underlying3 (by decide)) _ [] (plainElem_string Tryz.underlying9 (by decide)) ?_; intro w3 hown3 hq3; have hg3 := hg2.andThen hq3 (by simp); clear hown2 hg2 hq3) | (refine wpList_insert_own _ rfl _ _ _ 45 rfl 3 9 lawI Tryz.underlying45 (plainElem (H := Unit) Tryz.prog 9) w.heap.size 3 _ rfl hown3 (by decide) _ _ _ rfl rfl (keyOf_int_mk Tryz.underlying3 (by decide)) _ [] (plainElem_string Tryz.underlying9 (by decide)) ?_; intro w4 hown4 hq4; have hg4 := hg3.andThen hq4 (by simp); clear hown3 hg3 hq4) | (refine wpList_insert_own _ rfl _ _ _ 45 rfl 3 9 lawI Tryz.underlying45 (plainElem (H := Unit) Tryz.prog 9) w.heap.size 4 _ rfl hown4 (by decide) _ _ _ rfl rfl (keyOf_int_mk Tryz.underlying3 (by decide)) _ [] (plainElem_string Tryz.underlying9 (by decide)) ?_; intro w5 hown5 hq5; have hg5 := hg4.andThen hq5 (by simp); clear hown4 hg4 hq5) | (refine wpList_insert_own _ rfl _ _ _ 45 rfl 3 9 lawI Tryz.underlying45 (plainElem (H := Unit) Tryz.prog 9) w.heap.size 5 _ rfl hown5 (by decide) _ _ _ rfl rfl (keyOf_int_mk Tryz.underlying3 (by decide)) _ [] (plainElem_string Tryz.underlying9 (by decide)) ?_; intro w6 hown6 hq6; have hg6 := hg5.andThen hq6 (by simp); clear hown5 hg5 hq6) | (refine wpList_insert_own _ rfl _ _ _ 45 rfl 3 9 lawI Tryz.underlying45 (plainElem (H := Unit) Tryz.prog 9) w.heap.size 6 _ rfl hown6 (by decide) _ _ _ rfl rfl (keyOf_int_mk Tryz.underlying3 (by decide)) _ [] (plainElem_string Tryz.underlying9 (by decide)) ?_; intro w7 hown7 hq7; have hg7 := hg6.andThen hq7 (by simp); clear hown6 hg6 hq7) | (refine wpList_insert_own _ rfl _ _ _ 45 rfl 3 9 lawI Tryz.underlying45 (plainElem (H := Unit) Tryz.prog 9) w.heap.size 7 _ rfl hown7 (by decide) _ _ _ rfl rfl (keyOf_int_mk Tryz.underlying3 (by decide)) _ [] (plainElem_string Tryz.underlying9 (by decide)) ?_; intro w8 hown8 hq8; have hg8 := hg7.andThen hq8 (by simp); clear hown7 hg7 hq8))
 go_ret
 exact ⟨rfl, ⟨hg8.os, hg8.tape, hg8.output, hg8.size, fun k hk => hg8.block k hk (fun e => by cases e; omega)⟩, hown8⟩
def kindS (l : List UInt8) : Option Int := if l = [38] then some 0 else if l = [124] then some 1 else if l = [33] then some 2 else if l = [61] then some 3 else if l = [62, 61] then some 5 else if l = [60, 61] then some 6 else if l = [126, 61] then some 8 else if l = [61, 42] then some 7 else none
theorem kindS_sgn (k : Int) (h : hasSgn k = true) : kindS (sgn k) = some k := by
 unfold hasSgn at h
 simp only [Bool.or_eq_true, beq_iff_eq] at h
 rcases h with ((((((h | h) | h) | h) | h) | h) | h) | h <;> subst h <;> rfl
theorem kindS_some (l : List UInt8) (k : Int) (h : kindS l = some k) : hasSgn k = true /\ sgn k = l := by
 unfold kindS at h
 repeat' (split at h; rename_i he; cases h; subst he; exact ⟨rfl, rfl⟩)
 cases h
theorem kS_ne {l l' : List UInt8} (h : l ≠ l') : kS l ≠ kS l' := fun e => h (by cases e; rfl)
theorem kI_same (x y : Int) : (kI x).sameKey (kI y) = decide (x = y) := by
 show (Lit.int _ _).sameKey (Lit.int _ _) = _
 by_cases h : x = y
 ·subst h; rw [decide_eq_true rfl]; simp [Lit.sameKey]
 ·rw [decide_eq_false h]; simp [Lit.sameKey, h]
structure Told (left : Lit -> Bool) (D : Dt) : Prop where
 m : IsMap D
 sub : ∀ x, left (kI x) = true -> hasSgn x = true
 has : ∀ l, Maps.has D (kS l) = match kindS l with | some k => !left (kI k) | none => false
 at_ : ∀ l k z, kindS l = some k -> left (kI k) = false -> D.atKey (kS l) z = .lit (.int .i64 k)
theorem told_first : Told (Maps.has SD) (.map []) := by
 refine ⟨isMap_empty, fun x h => by rw [sd_has] at h; exact h, fun l => ?_, fun l k z h h2 => ?_⟩
 ·cases h : kindS l with
  | none => rfl
  | some k =>
   have := (kindS_some l k h).1
   simp only [sd_has, this]
   rfl
 ·rw [sd_has, (kindS_some l k h).1] at h2
  cases h2
theorem Told.step {left : Lit -> Bool} {D : Dt} (T : Told left D) (x : Int) (hx : left (kI x) = true) : Told (fun z => left z && !z.sameKey (kI x)) (D.put (kS (sgn x)) (.lit (.int .i64 x))) := by
 have hsx := T.sub x hx
 have hk : WideAt.IsKeyLit (kS (sgn x)) := trivial
 refine ⟨T.m.put _ _, fun y h => ?_, fun l => ?_, fun l k z h h2 => ?_⟩
 ·simp only [Bool.and_eq_true] at h
  exact T.sub y h.1
 ·by_cases hl : l = sgn x
  ·subst hl
   rw [has_put_same T.m hk, kindS_sgn x hsx]
   simp [kI_same]
  ·rw [has_put_other (kS_ne hl), T.has]
   cases h : kindS l with
   | none => rfl
   | some k =>
    have hkx : k ≠ x := fun e => hl (by rw [<- (kindS_some l k h).2, e])
    simp [kI_same, hkx]
 ·by_cases hl : l = sgn x
  ·subst hl
   rw [kindS_sgn x hsx] at h
   cases h
   rw [atKey_put_same T.m hk]
  ·have hkx : k ≠ x := fun e => hl (by rw [<- (kindS_some l k h).2, e])
   rw [atKey_put_other (kS_ne hl)]
   refine T.at_ l k z h ?_
   simpa [kI_same, hkx] using h2
def KindsAt (W : World) (B : Nat) : Prop := ∃ n D, W.ownsMap Tryz.prog 9 (plainElem Tryz.prog 3) B n D /\ Told (fun _ => false) D
theorem KindsAt.below {W W' : World} {B : Nat} (h : KindsAt W B) (hb : Below W.heap.size W W') : KindsAt W' B := by
 obtain ⟨n, D, h1, h2⟩ := h
 exact ⟨n, D, World.ownsMap.kept (row := none) h1 ⟨hb.os, hb.tape, hb.output, hb.size, fun k hk _ => hb.block k hk⟩ (by simp), h2⟩
theorem KindsAt.of {W W' : World} {B : Nat} (h : KindsAt W B) (hb : W'.heap[B]? = W.heap[B]?) : KindsAt W' B := by
 obtain ⟨n, D, ⟨es, c, h1, h3⟩, h2⟩ := h
 exact ⟨n, D, ⟨es, c, hb.trans h1, h3⟩, h2⟩
theorem KindsAt.look {W : World} {B : Nat} (h : KindsAt W B) (s : ByteArray) (hs : s.size <= maxLen) : (Instr.lookup 73 (.map (some B)) (.string s) true).run Tryz.prog W = .ok (.tuple #[.int .i64 ((kindS s.data.toList).getD 0), .bool (kindS s.data.toList).isSome]) W := by
 obtain ⟨n, D, h1, T⟩ := h
 obtain ⟨v, ps, h2, h3⟩ := World.ownsMap.look_ok h1 lawS Tryz.underlying73 (zeroI W) (plainElem_int Tryz.underlying3 (by decide)) (Go.WideMaps.keyOf_string_mk Tryz.underlying9 hs)
 obtain ⟨a, rfl, h4, _⟩ := plainElem_int_inv Tryz.underlying3 h3
 rw [h2]
 have hh := T.has s.data.toList
 cases hk : kindS s.data.toList with
 | none =>
  rw [hk] at hh
  simp only at hh
  rw [show Maps.has D (Lit.string s.data.toList) = false from hh]
  rw [show D.atKey (Lit.string s.data.toList) (.lit (.int .i64 0)) = .lit (.int .i64 0) from atKey_of_not_has hh _] at h4
  cases h4
  rfl
 | some k =>
  rw [hk] at hh
  simp only [Bool.not_false] at hh
  rw [show Maps.has D (Lit.string s.data.toList) = true from hh]
  rw [show D.atKey (Lit.string s.data.toList) (.lit (.int .i64 0)) = .lit (.int .i64 k) from T.at_ _ k _ hk rfl] at h4
  cases h4
  rfl
theorem kinds_any (w : World) : Calls Tryz.prog 44 #[] w fun e w' => e = .returned (.map (some w.heap.size)) /\ Below w.heap.size w w' /\ KindsAt w' w.heap.size := by
 have hmm := @run_makeMap Tryz.prog
 have hown0 := World.ownsMap_made w Tryz.prog 9 (plainElem (H := Unit) Tryz.prog 3)
 have HS := H_ fun W => signs_any W
 go_enter Tryz.func44, Tryz.ntmps44
 go_wp2_with fail
 refine ((un HS) _).mono ?_
 rintro e w1 ⟨rfl, hb1, hS⟩
 rw [World.size_alloc] at hb1 hS ⊢
 have hown1 := hown0.kept (row := none) ⟨hb1.os, hb1.tape, hb1.output, by have := hb1.size; simpa using this, fun k hk _ => hb1.block k (by simpa using hk)⟩ (by simp)
 have hbw : Below w.heap.size w w1 := ((Below.refl _ _).alloc (Nat.le_refl _) _).trans (hb1.mono (by omega))
 have hlt1 : w.heap.size + 1 < w1.heap.size := hS.lt
 clear hown0 hb1 HS
 have hrg := hS
 unfold SignsAt at hrg
 go_wp2_with (at_range; refine wpList_range_own _ rfl _ 45 rfl 3 9 lawI Tryz.underlying45 (plainElem (H := Unit) Tryz.prog 9) (w.heap.size + 1) 8 SD rfl hrg ?_; intro w0 hrg0 hg0 hs0)
 go_frame
 have hown2 := hown1.kept hg0 (by simp)
 have hB0 : Below w.heap.size w w0 := ⟨hg0.os.trans hbw.os, hg0.tape.trans hbw.tape, hg0.output.trans hbw.output, Nat.le_trans hbw.size hg0.size, fun k hk => (hg0.block k (Nat.lt_of_lt_of_le hk hbw.size) (by simp)).trans (hbw.block k hk)⟩
 obtain ⟨r, hr⟩ : ∃ r, r = w1.heap.size := ⟨_, rfl⟩
 rw [<- hr] at hrg0 hlt1 ⊢
 have hsz : size SD = 8 := rfl
 rw [hsz] at hrg0
 have hrn : w.heap.size ≠ r := by omega
 clear hS hrg hown1 hbw hg0 hs0 hr hmm hsz
 go_loopw [2] (fun _ wr => ∃ left cnt n D, wr.ranges Tryz.prog 3 (plainElem (H := Unit) Tryz.prog 9) (w.heap.size + 1) r 8 SD left cnt /\ wr.ownsMap Tryz.prog 9 (plainElem (H := Unit) Tryz.prog 3) w.heap.size n D /\ Hid (n + cnt <= 8) /\ Hid (Told left D) /\ Hid (Below w.heap.size w wr)) (fun _ wr => wr.rangeLeft (w.heap.size + 1) r)
 case atStart => exact ⟨_, 8, 0, _, hrg0, hown2, H_ (Nat.le_refl _), H_ told_first, H_ hB0⟩
 case round =>
  obtain ⟨left, cnt, n, D, hrg, hown, hnc, hT, hb⟩ := hrel
  clear hrg0 hown2 hB0
  go_wp2_with (at_next; refine wpList_next_ranges_is _ rfl _ rfl 3 9 .i64 lawI Tryz.underlying3 Tryz.underlying9 (w.heap.size + 1) r 8 SD left cnt rfl hrg ?_ ?_)
  ·intro _ hl0
   have hT2 := un hT
   rw [show left = fun _ => false from funext hl0] at hT2
   have HT := H_ hT2
   clear hT hT2 hrg hnc
   go_wp2
   go_ret
   exact ⟨rfl, un hb, n, D, hown, un HT⟩
  ·intro x c w2 cnt2 hwx hwc hlx hat hrg1 hlt hg1 hs1 hen
   have hown1 := hown.kept hg1 (fun e => hrn (by cases e; rfl))
   have hcx : sgn x = c.data.toList := by
    have := hat (.lit (.int .i64 0))
    rw [show DataW.atKey SD (Lit.int IntKind.i64 x) (.lit (.int .i64 0)) = .lit (.string (sgn x)) from sd_at x ((un hT).sub x hlx) _] at this
    simpa using this
   have hst := (un hT).step x hlx
   rw [hcx] at hst
   have HST := H_ hst
   have hn8 : n + cnt <= 8 := un hnc
   have hb2 : Below w.heap.size w w2 := ⟨hg1.os.trans (un hb).os, hg1.tape.trans (un hb).tape, hg1.output.trans (un hb).output, Nat.le_trans (un hb).size hg1.size, fun k hk => (hg1.block k (Nat.lt_of_lt_of_le hk (un hb).size) (fun e => by cases e; omega)).trans ((un hb).block k hk)⟩
   have HB2 := H_ hb2
   have hmx : n < maxLen := by unfold maxLen; omega
   have hms := hrg.left_eq
   clear hst hb2 hcx hat hT hb hown
   go_wp2_with (at_mapUpdate; refine wpList_mapUpdate_own _ rfl _ _ _ 73 rfl 9 3 lawS Tryz.underlying73 (plainElem (H := Unit) Tryz.prog 3) w.heap.size n D rfl hown1 hmx _ _ _ rfl rfl (Go.WideMaps.keyOf_string_mk Tryz.underlying9 hwc) _ [] (plainElem_int Tryz.underlying3 hwx) ?_; intro w3 hown3 hg3; go_frame)
   have hrg3 := hrg1.kept hg3 (fun e => by have := Option.some.inj e; omega) (fun e => by have := Option.some.inj e; omega)
   go_roundw
   case rel => exact ⟨_, cnt2, n + 1, _, hrg3, hown3, H_ (by omega), HST, H_ ⟨hg3.os.trans (un HB2).os, hg3.tape.trans (un HB2).tape, hg3.output.trans (un HB2).output, Nat.le_trans (un HB2).size hg3.size, fun k hk => (hg3.block k (Nat.lt_of_lt_of_le hk (un HB2).size) (fun e => by cases e; omega)).trans ((un HB2).block k hk)⟩⟩
   case measure =>
    rw [hrg3.left_eq, hms]
    exact hlt
end Go.Proofs.YtjhnblgamodekaaGreatDoor.F
