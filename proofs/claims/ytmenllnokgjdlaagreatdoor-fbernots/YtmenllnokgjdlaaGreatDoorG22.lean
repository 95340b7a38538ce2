/- Several texts in one: DIter, FShelf, FSplit. Each says what it proves, and its conditions. -/
import Derived.Test.YtmenllnokgjdlaaGreatDoorG21
set_option linter.unusedSimpArgs false
set_option maxHeartbeats 2000000
set_option maxRecDepth 100000
/-
 The iterator of package dn: 'cutter.pieces' hands over a text's pieces, each with its number. Conditions: none.
-/
namespace Go.Proofs.YtmenllnokgjdlaaGreatDoor.D
open Go Go.RowKit Go.Shelf Dp
attribute [local go_sem] Oper.semAt_some
structure Pk where
 i : Nat
 fr : Nat
 to : Nat
abbrev Pk.g (s : ByteArray) (x : Pk) : ByteArray := s.extract x.fr x.to
def pk (s : ByteArray) (c : UInt8) : Nat -> Nat -> Nat -> Nat -> List Pk
 | 0, i, fr, _ => [⟨i, fr, s.size⟩]
 | f + 1, i, fr, p => if h : p < s.size then (if s[p] = c then ⟨i, fr, p⟩ :: pk s c f (i + 1) (p + 1) (nx s p) else pk s c f i fr (nx s p)) else [⟨i, fr, s.size⟩]
def pks (s : ByteArray) (c : UInt8) : List Pk := pk s c s.size 0 0 0
theorem pk_end (s : ByteArray) (c : UInt8) (f i fr p : Nat) (h : ¬ p < s.size) : pk s c f i fr p = [⟨i, fr, s.size⟩] := by
 cases f with
 | zero => rfl
 | succ f => rw [pk, dif_neg h]
theorem pk_step (s : ByteArray) (c : UInt8) (f i fr p : Nat) (h : p < s.size) (hf : s.size <= p + f) : ∃ f', f = f' + 1 /\ s.size <= nx s p + f' /\
  pk s c f i fr p = if s[p] = c then ⟨i, fr, p⟩ :: pk s c f' (i + 1) (p + 1) (nx s p) else pk s c f' i fr (nx s p) := by
 cases f with
 | zero => omega
 | succ f => exact ⟨f, rfl, by have := nx_lt h; omega, by rw [pk, dif_pos h]⟩
theorem ext_list (s : ByteArray) (a b : Nat) : (s.extract a b).data.toList = (s.data.toList.take b).drop a := by
 rw [ByteArray.data_extract, Array.toList_extract, List.extract_eq_take_drop, List.drop_take]
theorem td_snoc {s : ByteArray} {a p : Nat} (h : p < s.size) (ha : a <= p) : (s.data.toList.take (p + 1)).drop a = (s.data.toList.take p).drop a ++ [s[p]] := by
 have hl : p < s.data.toList.length := by rw [Array.length_toList]; exact h
 rw [List.take_succ_eq_append_getElem hl, List.drop_append_of_le_length (by rw [List.length_take]; omega)]
 rfl
theorem pk_sp (s : ByteArray) (c : UInt8) (hc : c ≠ 92) : ∀ (f i fr p : Nat), s.size <= p + f -> fr <= p -> p <= s.size -> (pk s c f i fr p).map (fun x => (x.g s).data.toList) = sp c false ((s.data.toList.take p).drop fr) (s.data.toList.drop p)
 | 0, i, fr, p, hf, h1, h2 => by
  have : p = s.size := by omega
  subst this
  rw [drop_out (by omega), sp, pk]
  rw [List.map_cons, List.map_nil, ext_list]
 | f + 1, i, fr, p, hf, h1, h2 => by
  by_cases h : p < s.size
  ·have hn := nx_lt h
   rw [pk, dif_pos h, drop_at h, sp]
   by_cases hx : s[p] = c
   ·rw [if_pos hx, if_pos hx]
    have hnx : nx s p = p + 1 := by unfold nx; rw [dif_pos h, if_neg (by rw [hx]; exact hc)]
    rw [List.map_cons, hnx, pk_sp s c hc f (i + 1) (p + 1) (p + 1) (by omega) (Nat.le_refl _) (by omega)]
    have e : List.drop (p + 1) (List.take (p + 1) s.data.toList) = [] := List.drop_of_length_le (by rw [List.length_take]; omega)
    rw [e, ext_list]
   ·rw [if_neg hx, if_neg hx]
    by_cases h9 : s[p] = 92
    ·have hnx : nx s p = min (p + 2) s.size := by unfold nx; rw [dif_pos h, if_pos h9]
     rw [h9, show ((92 : UInt8) == 92) = true from rfl, pk_sp s c hc f i fr (nx s p) (by omega) (by omega) (by omega), hnx]
     by_cases h3 : p + 1 < s.size
     ·rw [Nat.min_eq_left (by omega), drop_at h3, sp, td_snoc h3 (by omega), td_snoc h (by omega), h9]
     ·have e : s.size = p + 1 := by omega
      rw [Nat.min_eq_right (by omega), e, drop_out (j := p + 1) (by omega), sp, sp, td_snoc h (by omega), h9]
    ·have hnx : nx s p = p + 1 := by unfold nx; rw [dif_pos h, if_neg h9]
     rw [show (s[p] == 92) = false by simpa using h9, pk_sp s c hc f i fr (nx s p) (by omega) (by omega) (by omega), hnx, td_snoc h (by omega)]
  ·have : p = s.size := by omega
   subst this
   rw [drop_out (by omega), sp, pk, dif_neg h]
   rw [List.map_cons, List.map_nil, ext_list]
theorem pks_pcs (s : ByteArray) (c : UInt8) (hc : c ≠ 92) : (pks s c).map (fun x => (x.g s).data.toList) = pcs c s.data.toList := by
 have := pk_sp s c hc s.size 0 0 0 (by omega) (Nat.le_refl _) (Nat.zero_le _)
 rw [List.drop_zero] at this
 exact this
abbrev It (Pr : Pk -> Prop) := { x : Pk // Pr x }
abbrev vals {Pr : Pk -> Prop} (l : List (It Pr)) : List Pk := l.map Subtype.val
abbrev cb (s : ByteArray) (c : UInt8) : Obj := .cells #[.string s, .int .u8 c.toNat] 284
theorem pieces_any (s : ByteArray) (c : UInt8) (w : World) :
  Calls Tryz.prog 193 #[.agg #[.string s, .int .u8 c.toNat]] w fun e w' => e = .returned (.func (.func 213) #[] #[.pointer (some ⟨w.heap.size, 0, none⟩)]) /\ w' = w.alloc (cb s c) := by
 go_enter Tryz.func193, Tryz.ntmps193
 go_wp2
 go_ret
 exact ⟨rfl, rfl⟩
theorem region_only {F : Fence} {n : Nat} {P : Program} {Q : Exit -> Act -> World -> Prop} {id : Nat} {a : Act} {w : World} {l : List Oper} (hm : P.follows .mixedOrders = true)
  (h : wpAnyIn F n P .any l.toArray (C.only Q) l.toArray.size (Array.replicate l.toArray.size false) a w.drew) : (Code.region id l.toArray true).wpIn F n P Q a w :=
 wpIn_mono (wpIn_region_any hm h) (fun e a w h => by cases e <;> first | exact h | exact h.elim)
theorem pieces1_stops (Pr : Pk -> Prop) (m : Nat) (hm : 1 <= m) (Bs : Nat) (s : ByteArray) (c : UInt8) (w : World) (hs : s.size <= 10000) (hPr : ∀ x ∈ pks s c, Pr x)
  (hBs : w.cell? ⟨Bs, 0, none⟩ = some (.string s)) (hBc : w.cell? ⟨Bs, 1, none⟩ = some (.int .u8 c.toNat)) :
  SeqStopsK Fence.wide m Tryz.prog 213 #[.pointer (some ⟨Bs, 0, none⟩)] (fun x : It Pr => #[.int .i64 x.1.i, .string (x.1.g s)]) (C.Two Bs Bs)
   (fun xs => vals xs = pks s c) (fun pre => vals pre <+: pks s c) (s.size + 1) w := fun l J Jx W hW hJ hJx hY h0 => by
 have hbs := (hW.cell (p := ⟨Bs, 0, none⟩) (lt_cell hBs)).trans hBs
 have hbc := (hW.cell (p := ⟨Bs, 1, none⟩) (lt_cell hBc)).trans hBc
 have hJb : Hid (∀ pre A B, J pre A -> Below A.heap.size A B -> J pre B) := H_ fun pre A B h hb => hJ pre A B none h ⟨hb.os, hb.tape, hb.output, hb.size, fun k hk _ => hb.block k hk⟩ (fun r e => by cases e)
 have HE := H_ fun W => end_any s W
 have HH := H_ fun p hp W => has_any s p c W hp
 have HP := H_ fun a b hab hb W => piece_any s a b W hab hb
 have HN := H_ fun p hp W => next_any s p W hs hp
 have HY := H_ hY
 have HPr := H_ hPr
 clear hPr
 clear hBs hBc hW hJ hJx hY
 refine callsIn_of_wp Tryz.func213 rfl trivial ?_ rfl
 simp only [Tryz.ntmps213, List.size_toArray, List.length_cons, List.length_nil, Nat.reduceAdd, Nat.reduceSub, Array.replicate_succ, Array.replicate_zero, List.push_toArray, List.append_toArray, List.nil_append, List.cons_append]
 gi_wp2
 gi_loopw [3, 4, 5] (fun a b d wr => ∃ (pre : List (It Pr)) (f i fr p : Nat), Hid (vals pre ++ pk s c f i fr p = pks s c) /\ Hid (s.size <= p + f) /\ pre.length = i /\ i <= fr /\ fr <= p /\ p <= s.size /\ a = .int .i64 (i : Int) /\ b = .int .i64 (fr : Int) /\ d = .int .i64 (p : Int) /\ J pre wr /\ wr.cell? ⟨Bs, 0, none⟩ = some (.string s) /\ wr.cell? ⟨Bs, 1, none⟩ = some (.int .u8 c.toNat))
  (fun _ _ d _ => s.size - (intOf d).toNat)
 case atStart => exact ⟨[], s.size, 0, 0, 0, H_ rfl, H_ (by omega), rfl, Nat.le_refl _, Nat.le_refl _, by omega, rfl, rfl, rfl, h0, hbs, hbc⟩
 case round =>
  obtain ⟨pre, f, i, fr, p, hl, hf, hpl, hif, hfp, hp4, rfl, rfl, rfl, hJs, ha, hc'⟩ := hrel
  clear hbs hbc h0
  gi_wp2_with fail
  refine ⟨trivial, (callsIn_wide.2 ((un HE) _)).mono ?_⟩
  rintro e w1 ⟨rfl, hb⟩
  have ha1 := (hb.cell (p := ⟨Bs, 0, none⟩) (lt_cell ha)).trans ha
  have hc1 := (hb.cell (p := ⟨Bs, 1, none⟩) (lt_cell hc')).trans hc'
  have hJ1 := H_ ((un hJb) _ _ _ hJs hb)
  clear hb ha hc' hJs
  have hpi : (p : Int) <= 10000 := by omega
  by_cases hlt : p < s.size
  ·have hlt' : (p : Int) < s.size := by omega
   obtain ⟨f', rfl, hf', hpk⟩ := pk_step s c f i fr p hlt (un hf)
   have hnx := nx_lt hlt
   have HH' := H_ ((un HH) p hlt)
   by_cases hx : s[p] = c
   ·rw [decide_eq_true hx] at HH'
    rw [if_pos hx] at hpk
    have HP' := H_ ((un HP) fr p hfp hp4)
    have HN' := H_ ((un HN) p hlt)
    have Hl : Hid (vals pre ++ ⟨i, fr, p⟩ :: pk s c f' (i + 1) (p + 1) (nx s p) = pks s c) := H_ (by rw [<- hpk]; exact un hl)
    have Hf := H_ hf'
    have Hnx := H_ hnx
    clear hl hf hf' hpk hx hnx HH HP HN
    generalize nx s p = q at *
    gi_wp2_with fail
    refine ⟨trivial, (callsIn_wide.2 ((un HH') _)).mono ?_⟩
    rintro e w2 ⟨rfl, hb⟩
    have ha2 := (hb.cell (p := ⟨Bs, 0, none⟩) (lt_cell ha1)).trans ha1
    have hc2 := (hb.cell (p := ⟨Bs, 1, none⟩) (lt_cell hc1)).trans hc1
    have hJ2 := H_ ((un hJb) _ _ _ (un hJ1) hb)
    clear hb ha1 hc1 hJ1 HH'
    gi_wp2_with fail
    refine ⟨trivial, (callsIn_wide.2 ((un HP') _)).mono ?_⟩
    rintro e w3 ⟨rfl, hb⟩
    have ha3 := (hb.cell (p := ⟨Bs, 0, none⟩) (lt_cell ha2)).trans ha2
    have hJ3 := (un hJb) _ _ _ (un hJ2) hb
    have hc3 := (hb.cell (p := ⟨Bs, 1, none⟩) (lt_cell hc2)).trans hc2
    clear hb ha2 hc2 hJ2 HP'
    obtain ⟨fn, tmps, assign, body, hy, hR⟩ := (un HY) _ ⟨⟨i, fr, p⟩, (un HPr) _ (by rw [<- un Hl]; simp)⟩ _ hJ3 (by omega)
    dsimp only at hy
    gi_wp2
    refine hR.mono ?_
    rintro e W3 (⟨rfl, hJ4, hk3⟩ | ⟨rfl, hJx3⟩)
    ·have ha4 := (World.cell?_of_block (a := ⟨Bs, 0, none⟩) hk3.1).trans ha3
     have hc4 := (World.cell?_of_block (a := ⟨Bs, 1, none⟩) hk3.1).trans hc3
     clear hk3 ha3 hc3 hy hR hJ3
     gi_wp2_with fail
     refine ⟨trivial, (callsIn_wide.2 ((un HN') _)).mono ?_⟩
     rintro e w5 ⟨rfl, hb⟩
     have ha5 := (hb.cell (p := ⟨Bs, 0, none⟩) (lt_cell ha4)).trans ha4
     have hc5 := (hb.cell (p := ⟨Bs, 1, none⟩) (lt_cell hc4)).trans hc4
     have hJ5 := H_ ((un hJb) _ _ _ hJ4 hb)
     clear hb ha4 hc4 hJ4 HN'
     gi_wp2
     go_roundw
     case rel =>
      have := un Hnx
      refine ⟨pre ++ [⟨⟨i, fr, p⟩, (un HPr) _ (by rw [<- un Hl]; simp)⟩], f', i + 1, p + 1, q, H_ (by rw [vals, List.map_append, List.append_assoc]; exact un Hl), Hf, by simp; omega, by omega, by omega, by omega, by simp, by simp, rfl, un hJ5, ha5, hc5⟩
     case measure =>
      have := un Hnx
      simp [intOf]
      omega
    ·gi_wp2
     refine bodyPost_ret (results_none rfl _ _ _) rfl ?_
     exact ⟨⟨_, rfl⟩, .inr ⟨_, ⟨pk s c f' (i + 1) (p + 1) q, by rw [vals, List.map_append, List.append_assoc]; exact un Hl⟩, hJx3⟩⟩
   ·rw [decide_eq_false hx] at HH'
    rw [if_neg hx] at hpk
    have HN' := H_ ((un HN) p hlt)
    have Hl : Hid (vals pre ++ pk s c f' i fr (nx s p) = pks s c) := H_ (by rw [<- hpk]; exact un hl)
    have Hf := H_ hf'
    have Hnx := H_ hnx
    clear hl hf hf' hpk hx hnx HH HP HN
    generalize nx s p = q at *
    gi_wp2_with fail
    refine ⟨trivial, (callsIn_wide.2 ((un HH') _)).mono ?_⟩
    rintro e w2 ⟨rfl, hb⟩
    have ha2 := (hb.cell (p := ⟨Bs, 0, none⟩) (lt_cell ha1)).trans ha1
    have hc2 := (hb.cell (p := ⟨Bs, 1, none⟩) (lt_cell hc1)).trans hc1
    have hJ2 := H_ ((un hJb) _ _ _ (un hJ1) hb)
    clear hb ha1 hc1 hJ1 HH'
    gi_wp2_with fail
    refine ⟨trivial, (callsIn_wide.2 ((un HN') _)).mono ?_⟩
    rintro e w5 ⟨rfl, hb⟩
    have ha5 := (hb.cell (p := ⟨Bs, 0, none⟩) (lt_cell ha2)).trans ha2
    have hc5 := (hb.cell (p := ⟨Bs, 1, none⟩) (lt_cell hc2)).trans hc2
    have hJ5 := H_ ((un hJb) _ _ _ (un hJ2) hb)
    clear hb ha2 hc2 hJ2 HN'
    gi_wp2
    go_roundw
    case rel =>
     have := un Hnx
     refine ⟨pre, f', i, fr, q, Hl, Hf, by omega, by omega, by omega, by omega, rfl, rfl, rfl, un hJ5, ha5, hc5⟩
    case measure =>
     have := un Hnx
     simp [intOf]
     omega
  ·have hge : ¬ (p : Int) < s.size := by omega
   have Hl : Hid (vals pre ++ [⟨i, fr, s.size⟩] = pks s c) := H_ (by rw [<- pk_end s c f i fr p hlt]; exact un hl)
   clear hl hf HH HN
   have HP' := H_ ((un HP) fr s.size (by omega) (Nat.le_refl _))
   gi_wp2_with fail
   refine region_only (by kernel_rfl) ?_
   change wpAnyIn _ _ _ _ _ _ 10 #[false, false, false, false, false, false, false, false, false, false] _ w1.drew
   have hax0 : w1.drew.cell? ⟨Bs, 0, none⟩ = some (.string s) := ha1
   have hJx0 := H_ ((un hJb) _ _ _ (un hJ1) (Below.refl _ _).drew)
   clear ha1 hc1 hJ1
   generalize w1.drew = x0 at *
   refine wpAnyIn_take (i := 0) (v := .func (.yield l) #[] #[]) rfl rfl (by kernel_rfl) (by kernel_rfl) (by kernel_rfl) (fun _ _ _ h => h) ⟨Or.inl ⟨by kernel_rfl, by intro w1; go_simp; try rfl⟩, fun _ => rfl⟩ ?_
   simp only [Act.put, nrm]
   refine wpAnyIn_take (i := 1) (v := .int .i64 i) rfl rfl (by kernel_rfl) (by kernel_rfl) (by kernel_rfl) (fun _ _ _ h => h) ⟨Or.inl ⟨by kernel_rfl, by intro w1; go_simp; try rfl⟩, fun _ => rfl⟩ ?_
   simp only [Act.put, nrm]
   refine wpAnyIn_take (i := 2) (v := .pointer (some ⟨Bs, 0, none⟩)) rfl rfl (by kernel_rfl) (by kernel_rfl) (by kernel_rfl) (fun _ _ _ h => h) ⟨Or.inl ⟨by kernel_rfl, by intro w1; go_simp; try rfl⟩, fun _ => rfl⟩ ?_
   simp only [Act.put, nrm]
   refine wpAnyIn_take (i := 4) (v := .int .i64 fr) rfl rfl (by kernel_rfl) (by kernel_rfl) (by kernel_rfl) (fun _ _ _ h => h) ⟨Or.inl ⟨by kernel_rfl, by intro w1; go_simp; try rfl⟩, fun _ => rfl⟩ ?_
   simp only [Act.put, nrm]
   refine wpAnyIn_take (i := 5) (v := .pointer (some ⟨Bs, 0, none⟩)) rfl rfl (by kernel_rfl) (by kernel_rfl) (by kernel_rfl) (fun _ _ _ h => h) ⟨Or.inl ⟨by kernel_rfl, by intro w1; go_simp; try rfl⟩, fun _ => rfl⟩ ?_
   simp only [Act.put, nrm]
   refine wpAnyIn_ready (rs := [3, 6]) (by kernel_rfl) (by simp) (AllReadyIn.cons rfl (fun K hK => ?_) (AllReadyIn.cons rfl (fun K hK => ?_) AllReadyIn.nil))
   ·rw [if_pos (by kernel_rfl)]
    gi_wp2
    try (simp only [Act.put, nrm])
    refine wpAnyIn_ready (rs := [6]) (by kernel_rfl) (by simp) (AllReadyIn.cons rfl (fun K hK => ?_) AllReadyIn.nil)
    rw [if_pos (by kernel_rfl)]
    gi_wp2
    try (simp only [Act.put, nrm])
    refine wpAnyIn_ready (rs := [7]) (by kernel_rfl) (by simp) (AllReadyIn.cons rfl (fun K hK => ?_) AllReadyIn.nil)
    rw [if_pos (by kernel_rfl)]
    gi_wp2_with fail
    refine ⟨trivial, (callsIn_wide.2 ((un HE) _)).mono ?_⟩
    rintro e x1 ⟨rfl, hb⟩
    have hax1 := (hb.cell (p := ⟨Bs, 0, none⟩) (lt_cell hax0)).trans hax0
    have hJx1 := H_ ((un hJb) _ _ _ (un hJx0) hb)
    clear hb hax0 hJx0
    gi_wp2
    try (simp only [Act.put, nrm])
    refine wpAnyIn_ready (rs := [8]) (by kernel_rfl) (by simp) (AllReadyIn.cons rfl (fun K hK => ?_) AllReadyIn.nil)
    rw [if_pos (by kernel_rfl)]
    gi_wp2_with fail
    refine ⟨trivial, (callsIn_wide.2 ((un HP') _)).mono ?_⟩
    rintro e x2 ⟨rfl, hb⟩
    have hax2 := (hb.cell (p := ⟨Bs, 0, none⟩) (lt_cell hax1)).trans hax1
    have hJx2 := H_ ((un hJb) _ _ _ (un hJx1) hb)
    clear hb hax1 hJx1
    gi_wp2
    try (simp only [Act.put, nrm])
    refine wpAnyIn_ready (rs := [9]) (by kernel_rfl) (by simp) (AllReadyIn.cons rfl (fun K hK => ?_) AllReadyIn.nil)
    rw [if_pos (by kernel_rfl)]
    obtain ⟨fn, tmps, assign, body, hy, hR⟩ := (un HY) _ ⟨⟨i, fr, s.size⟩, (un HPr) _ (by rw [<- un Hl]; simp)⟩ _ (un hJx2) (by omega)
    dsimp only at hy
    gi_wp2
    refine hR.mono ?_
    rintro e W3 (⟨rfl, hJ4, hk3⟩ | ⟨rfl, hJx3⟩)
    ·gi_wp2
     refine wpAnyIn_done (by kernel_rfl) ?_ _
     simp only [C.only]
     gi_wp2
     go_end0
     exact ⟨⟨_, rfl⟩, .inl ⟨_, by rw [vals, List.map_append]; exact (un Hl), hJ4⟩⟩
    ·gi_wp2
     refine wpAnyIn_done (by kernel_rfl) ?_ _
     simp only [C.only]
     gi_wp2
     go_end0
     exact ⟨⟨_, rfl⟩, .inr ⟨_, ⟨[], by rw [List.append_nil, vals, List.map_append]; exact un Hl⟩, hJx3⟩⟩
   ·rw [if_pos (by kernel_rfl)]
    gi_wp2
    try (simp only [Act.put, nrm])
    refine wpAnyIn_ready (rs := [3, 7]) (by kernel_rfl) (by simp) (AllReadyIn.cons rfl (fun K hK => ?_) (AllReadyIn.cons rfl (fun K hK => ?_) AllReadyIn.nil))
    ·rw [if_pos (by kernel_rfl)]
     gi_wp2
     try (simp only [Act.put, nrm])
     refine wpAnyIn_ready (rs := [7]) (by kernel_rfl) (by simp) (AllReadyIn.cons rfl (fun K hK => ?_) AllReadyIn.nil)
     rw [if_pos (by kernel_rfl)]
     gi_wp2_with fail
     refine ⟨trivial, (callsIn_wide.2 ((un HE) _)).mono ?_⟩
     rintro e x1 ⟨rfl, hb⟩
     have hax1 := (hb.cell (p := ⟨Bs, 0, none⟩) (lt_cell hax0)).trans hax0
     have hJx1 := H_ ((un hJb) _ _ _ (un hJx0) hb)
     clear hb hax0 hJx0
     gi_wp2
     try (simp only [Act.put, nrm])
     refine wpAnyIn_ready (rs := [8]) (by kernel_rfl) (by simp) (AllReadyIn.cons rfl (fun K hK => ?_) AllReadyIn.nil)
     rw [if_pos (by kernel_rfl)]
     gi_wp2_with fail
     refine ⟨trivial, (callsIn_wide.2 ((un HP') _)).mono ?_⟩
     rintro e x2 ⟨rfl, hb⟩
     have hax2 := (hb.cell (p := ⟨Bs, 0, none⟩) (lt_cell hax1)).trans hax1
     have hJx2 := H_ ((un hJb) _ _ _ (un hJx1) hb)
     clear hb hax1 hJx1
     gi_wp2
     try (simp only [Act.put, nrm])
     refine wpAnyIn_ready (rs := [9]) (by kernel_rfl) (by simp) (AllReadyIn.cons rfl (fun K hK => ?_) AllReadyIn.nil)
     rw [if_pos (by kernel_rfl)]
     obtain ⟨fn, tmps, assign, body, hy, hR⟩ := (un HY) _ ⟨⟨i, fr, s.size⟩, (un HPr) _ (by rw [<- un Hl]; simp)⟩ _ (un hJx2) (by omega)
     dsimp only at hy
     gi_wp2
     refine hR.mono ?_
     rintro e W3 (⟨rfl, hJ4, hk3⟩ | ⟨rfl, hJx3⟩)
     ·gi_wp2
      refine wpAnyIn_done (by kernel_rfl) ?_ _
      simp only [C.only]
      gi_wp2
      go_end0
      exact ⟨⟨_, rfl⟩, .inl ⟨_, by rw [vals, List.map_append]; exact (un Hl), hJ4⟩⟩
     ·gi_wp2
      refine wpAnyIn_done (by kernel_rfl) ?_ _
      simp only [C.only]
      gi_wp2
      go_end0
      exact ⟨⟨_, rfl⟩, .inr ⟨_, ⟨[], by rw [List.append_nil, vals, List.map_append]; exact un Hl⟩, hJx3⟩⟩
    ·rw [if_pos (by kernel_rfl)]
     gi_wp2_with fail
     refine ⟨trivial, (callsIn_wide.2 ((un HE) _)).mono ?_⟩
     rintro e x1 ⟨rfl, hb⟩
     have hax1 := (hb.cell (p := ⟨Bs, 0, none⟩) (lt_cell hax0)).trans hax0
     have hJx1 := H_ ((un hJb) _ _ _ (un hJx0) hb)
     clear hb hax0 hJx0
     gi_wp2
     try (simp only [Act.put, nrm])
     refine wpAnyIn_ready (rs := [3]) (by kernel_rfl) (by simp) (AllReadyIn.cons rfl (fun K hK => ?_) AllReadyIn.nil)
     rw [if_pos (by kernel_rfl)]
     gi_wp2
     try (simp only [Act.put, nrm])
     refine wpAnyIn_ready (rs := [8]) (by kernel_rfl) (by simp) (AllReadyIn.cons rfl (fun K hK => ?_) AllReadyIn.nil)
     rw [if_pos (by kernel_rfl)]
     gi_wp2_with fail
     refine ⟨trivial, (callsIn_wide.2 ((un HP') _)).mono ?_⟩
     rintro e x2 ⟨rfl, hb⟩
     have hax2 := (hb.cell (p := ⟨Bs, 0, none⟩) (lt_cell hax1)).trans hax1
     have hJx2 := H_ ((un hJb) _ _ _ (un hJx1) hb)
     clear hb hax1 hJx1
     gi_wp2
     try (simp only [Act.put, nrm])
     refine wpAnyIn_ready (rs := [9]) (by kernel_rfl) (by simp) (AllReadyIn.cons rfl (fun K hK => ?_) AllReadyIn.nil)
     rw [if_pos (by kernel_rfl)]
     obtain ⟨fn, tmps, assign, body, hy, hR⟩ := (un HY) _ ⟨⟨i, fr, s.size⟩, (un HPr) _ (by rw [<- un Hl]; simp)⟩ _ (un hJx2) (by omega)
     dsimp only at hy
     gi_wp2
     refine hR.mono ?_
     rintro e W3 (⟨rfl, hJ4, hk3⟩ | ⟨rfl, hJx3⟩)
     ·gi_wp2
      refine wpAnyIn_done (by kernel_rfl) ?_ _
      simp only [C.only]
      gi_wp2
      go_end0
      exact ⟨⟨_, rfl⟩, .inl ⟨_, by rw [vals, List.map_append]; exact (un Hl), hJ4⟩⟩
     ·gi_wp2
      refine wpAnyIn_done (by kernel_rfl) ?_ _
      simp only [C.only]
      gi_wp2
      go_end0
      exact ⟨⟨_, rfl⟩, .inr ⟨_, ⟨[], by rw [List.append_nil, vals, List.map_append]; exact un Hl⟩, hJx3⟩⟩
end Go.Proofs.YtmenllnokgjdlaaGreatDoor.D
/-
 strings.Index, strings.Cut, strings.Contains, strings.Clone at a separator of one byte. Conditions: the bounds that each statement names.
-/
namespace Go.Proofs.YtmenllnokgjdlaaGreatDoor.F
open Go Go.RowKit Go.Shelf Fp
open D (H_ un ext_list)
attribute [local go_sem] Oper.semAt_some
theorem idx_cut (c : UInt8) : ∀ l : List UInt8, match cutB c l with
  | none => Lib.indexByte l c = -1
  | some (k, t) => Lib.indexByte l c = k.length /\ k.length + 1 + t.length = l.length
 | [] => rfl
 | x :: r => by
  have ih := idx_cut c r
  rw [cutB]
  by_cases h : x = c
  ·subst h
   rw [if_pos rfl]
   exact ⟨by rw [Lib.indexByte]; simp, by simp; omega⟩
  ·rw [if_neg h]
   have hb : (x == c) = false := by simpa using h
   cases hc : cutB c r with
   | none =>
    rw [hc] at ih
    show Lib.indexByte (x :: r) c = -1
    rw [Lib.indexByte, hb, ih]
    rfl
   | some q =>
    rw [hc] at ih
    show Lib.indexByte (x :: r) c = ((x :: q.1).length : Int) /\ _
    rw [Lib.indexByte, hb, ih.1]
    have h1 : ((q.1.length : Int) == -1) = false := by rw [beq_eq_false_iff_ne]; omega
    rw [h1]
    refine ⟨by simp, ?_⟩
    have := ih.2
    simp only [List.length_cons]
    omega
theorem indexByte_any (c : UInt8) (s : ByteArray) (w : World) :
  Calls Tryz.prog 207 #[.string s, .int .u8 c.toNat] w fun e w' => e = .returned (.int .i64 (Lib.indexByte s.data.toList c)) /\ w' = w := by
 have hx := @run_callFunc_extern Tryz.prog 222 _ Extern.BytealgIndexByte.indexByte Tryz.func222 (by kernel_rfl) (by kernel_rfl) (by kernel_rfl) (by kernel_rfl)
 have hr := fun w => Lib.run_indexByteString (P := Tryz.prog) s c.toNat w
 rw [show (c.toNat : Int).toNat.toUInt8 = c by simp] at hr
 generalize Lib.indexByte s.data.toList c = n at *
 go_enter Tryz.func207, Tryz.ntmps207
 go_wp2
 go_ret
 exact ⟨rfl, rfl⟩
theorem index0_any (c : UInt8) (s : ByteArray) (w : World) :
  Calls Tryz.prog 191 #[.string s, .string ⟨#[c]⟩] w fun e w' => e = .returned (.int .i64 (Lib.indexByte s.data.toList c)) /\ w' = w := by
 have H := H_ fun W => indexByte_any c s W
 have hl : (⟨#[c]⟩ : ByteArray).toList = [c] := by rw [ByteArray.toList_eq]
 have hg : (⟨#[c]⟩ : ByteArray)[0]'(by show 0 < 1; decide) = c := rfl
 cases h : (([c] : List UInt8) == s.toList)
 ·generalize Lib.indexByte s.data.toList c = n at *
  go_enter Tryz.func191, Tryz.ntmps191
  go_wp2_with fail
  refine ((un H) _).mono ?_
  rintro e w1 ⟨rfl, rfl⟩
  go_wp2
  go_ret
  exact ⟨rfl, rfl⟩
 ·have e : Lib.indexByte s.data.toList c = 0 := by
   have : ([c] : List UInt8) = s.toList := by simpa using h
   rw [<- ByteArray.toList_eq, <- this]
   simp [Lib.indexByte]
  rw [e]
  clear e H
  go_enter Tryz.func191, Tryz.ntmps191
  go_wp2
  go_ret
  exact ⟨rfl, rfl⟩
theorem index_any (c : UInt8) (s : ByteArray) (w : World) :
  Calls Tryz.prog 197 #[.string s, .string ⟨#[c]⟩] w fun e w' => e = .returned (.int .i64 (Lib.indexByte s.data.toList c)) /\ w' = w := by
 have H := H_ fun W => index0_any c s W
 generalize Lib.indexByte s.data.toList c = n at *
 go_enter Tryz.func197, Tryz.ntmps197
 go_wp2_with fail
 refine ((un H) _).mono ?_
 rintro e w1 ⟨rfl, rfl⟩
 go_wp2
 go_ret
 exact ⟨rfl, rfl⟩
theorem take_drop_of {c : UInt8} {s : ByteArray} {k t : List UInt8} (h : cutB c s.data.toList = some (k, t)) : s.extract 0 k.length = ⟨k.toArray⟩ /\ s.extract (k.length + 1) s.size = ⟨t.toArray⟩ := by
 have e := (cutB_some _ _ _ _ h).1
 have hz : s.size = s.data.toList.length := (Array.length_toList).symm
 constructor
 ·refine ByteArray.ext (Array.ext' ?_)
  rw [ext_list, e]
  simp
 ·refine ByteArray.ext (Array.ext' ?_)
  rw [ext_list, hz, List.take_length, e]
  simp
theorem cut0_none (c : UInt8) (s : ByteArray) (w : World) (h : cutB c s.data.toList = none) :
  Calls Tryz.prog 173 #[.string s, .string ⟨#[c]⟩] w fun e w' => e = .returned (.tuple #[.string s, .string ⟨#[]⟩, .bool false]) /\ Below w.heap.size w w' := by
 have H := H_ fun W => index0_any c s W
 have hi := idx_cut c s.data.toList
 rw [h] at hi
 rw [show Lib.indexByte s.data.toList c = -1 from hi] at H
 clear hi h
 go_enter Tryz.func173, Tryz.ntmps173
 go_wp2_with fail
 refine ((un H) _).mono ?_
 rintro e w1 ⟨rfl, rfl⟩
 go_wp2
 go_ret3
 exact ⟨rfl, Below.refl _ _⟩
theorem cut0_some (c : UInt8) (s : ByteArray) (k t : List UInt8) (w : World) (hs : s.size <= 100000000) (h : cutB c s.data.toList = some (k, t)) :
  Calls Tryz.prog 173 #[.string s, .string ⟨#[c]⟩] w fun e w' => e = .returned (.tuple #[.string ⟨k.toArray⟩, .string ⟨t.toArray⟩, .bool true]) /\ Below w.heap.size w w' := by
 have H := H_ fun W => index0_any c s W
 have hi := idx_cut c s.data.toList
 rw [h] at hi
 obtain ⟨h1, h2⟩ : Lib.indexByte s.data.toList c = k.length /\ k.length + 1 + t.length = s.data.toList.length := hi
 rw [h1] at H
 rw [Array.length_toList] at h2
 obtain ⟨e1, e2⟩ := take_drop_of h
 rw [<- e1, <- e2]
 have h2' : k.length + 1 + t.length = s.size := h2
 clear h h1 e1 e2 h2
 obtain ⟨n, hn⟩ : ∃ n, k.length = n := ⟨_, rfl⟩
 rw [hn] at H h2' ⊢
 clear hn
 have hn1 : (n : Int) <= s.size := by omega
 have hn2 : (n : Int) + 1 <= s.size := by omega
 have hn3 : (n : Int) <= 100000000 := by omega
 have hc1 : ((⟨#[c]⟩ : ByteArray).size : Int) = 1 := rfl
 clear h2' hs
 have hmx : Tryz.prog.follows .mixedOrders = true := by kernel_rfl
 go_enter Tryz.func173, Tryz.ntmps173
 go_wp2_with fail
 refine ((un H) _).mono ?_
 rintro e w1 ⟨rfl, rfl⟩
 clear H
 go_wp2
 go_quiet (fail)
 go_wp2
 go_ret3
 exact ⟨rfl, U.below_drewN (Below.refl _ _) _⟩
theorem cut_none (c : UInt8) (s : ByteArray) (w : World) (h : cutB c s.data.toList = none) :
  Calls Tryz.prog 156 #[.string s, .string ⟨#[c]⟩] w fun e w' => e = .returned (.tuple #[.string s, .string ⟨#[]⟩, .bool false]) /\ Below w.heap.size w w' := by
 have H := H_ fun W => cut0_none c s W h
 clear h
 go_enter Tryz.func156, Tryz.ntmps156
 go_wp2_with fail
 refine ((un H) _).mono ?_
 rintro e w1 ⟨rfl, hb⟩
 have HB := H_ hb
 clear hb
 go_wp2
 go_ret3
 exact ⟨rfl, un HB⟩
theorem cut_some (c : UInt8) (s : ByteArray) (k t : List UInt8) (w : World) (hs : s.size <= 100000000) (h : cutB c s.data.toList = some (k, t)) :
  Calls Tryz.prog 156 #[.string s, .string ⟨#[c]⟩] w fun e w' => e = .returned (.tuple #[.string ⟨k.toArray⟩, .string ⟨t.toArray⟩, .bool true]) /\ Below w.heap.size w w' := by
 have H := H_ fun W => cut0_some c s k t W hs h
 generalize (⟨k.toArray⟩ : ByteArray) = kk at *
 generalize (⟨t.toArray⟩ : ByteArray) = tt at *
 clear h hs
 go_enter Tryz.func156, Tryz.ntmps156
 go_wp2_with fail
 refine ((un H) _).mono ?_
 rintro e w1 ⟨rfl, hb⟩
 have HB := H_ hb
 clear hb
 go_wp2
 go_ret3
 exact ⟨rfl, un HB⟩
theorem clone_any (s : ByteArray) (w : World) (hs : s.size <= 10000) : Calls Tryz.prog 115 #[.string s] w fun e w' => e = .returned (.string s) /\ Below w.heap.size w w' := by
 have H := clone0_any s w (by omega)
 go_enter Tryz.func115, Tryz.ntmps115
 go_wp2_with (go_at_call 146; refine H.mono ?_; rintro e w' ⟨rfl, hb⟩)
 go_ret
 exact ⟨rfl, hb⟩
end Go.Proofs.YtmenllnokgjdlaaGreatDoor.F
/-
 strings.SplitSeq at a separator of one byte: its iterator hands over a text's pieces. Conditions: the text has at most 100000000 bytes.
-/
namespace Go.Proofs.YtmenllnokgjdlaaGreatDoor.F
open Go Go.RowKit Go.Shelf Fp
open D (H_ un ext_list)
attribute [local go_sem] Oper.semAt_some
def Kpt (S : Nat -> Prop) (A B : World) : Prop := A.heap.size <= B.heap.size /\ ∀ k, S k -> k < A.heap.size -> B.heap[k]? = A.heap[k]?
theorem Kpt.refl (S : Nat -> Prop) (A : World) : Kpt S A A := ⟨Nat.le_refl _, fun _ _ _ => rfl⟩
theorem Kpt.trans {S : Nat -> Prop} {A B C : World} (h : Kpt S A B) (k : Kpt S B C) : Kpt S A C := ⟨Nat.le_trans h.1 k.1, fun i hs hl => (k.2 i hs (Nat.lt_of_lt_of_le hl h.1)).trans (h.2 i hs hl)⟩
theorem Kpt.of_but {S : Nat -> Prop} {A B : World} {b : Nat} (h : But b A B) (hS : ¬ S b) : Kpt S A B := ⟨h.size, fun k hs hl => h.block k hl (fun e => hS (e ▸ hs))⟩
def spb (c : UInt8) (s : ByteArray) : List ByteArray := (spl c s.data.toList).map fun l => ⟨l.toArray⟩
theorem spb_cut (c : UInt8) (s : ByteArray) : spb c s = match cutB c s.data.toList with
  | none => [s]
  | some (a, b) => ⟨a.toArray⟩ :: spb c ⟨b.toArray⟩ := by
 unfold spb
 rw [spl_cut]
 cases h : cutB c s.data.toList with
 | none => rfl
 | some q => rfl
structure Box3 (B : Nat) (c : UInt8) (s : ByteArray) (W : World) : Prop where
 bs : W.heap[B]? = some (.cells #[.string s] 9 (0, 0))
 bc : W.heap[B + 1]? = some (.cells #[.string ⟨#[c]⟩] 9 (0, 0))
 bz : W.heap[B + 2]? = some (.cells #[.int .i64 0] 3 (0, 0))
theorem Box3.kept {B : Nat} {c : UInt8} {s : ByteArray} {W W' : World} (h : Box3 B c s W) (hk : Kpt (fun k => B <= k /\ k < B + 3) W W') : Box3 B c s W' :=
 ⟨(hk.2 _ ⟨Nat.le_refl _, by omega⟩ (Array.getElem?_eq_some_iff.1 h.bs).1).trans h.bs, (hk.2 _ ⟨by omega, by omega⟩ (Array.getElem?_eq_some_iff.1 h.bc).1).trans h.bc, (hk.2 _ ⟨by omega, by omega⟩ (Array.getElem?_eq_some_iff.1 h.bz).1).trans h.bz⟩
theorem Box3.lt {B : Nat} {c : UInt8} {s : ByteArray} {W : World} (h : Box3 B c s W) : B + 2 < W.heap.size := (Array.getElem?_eq_some_iff.1 h.bz).1
theorem Box3.cells {B : Nat} {c : UInt8} {s : ByteArray} {W : World} (h : Box3 B c s W) : (W.cell? ⟨B, 0, none⟩ = some (.string s) /\ W.cell? ⟨B + 1, 0, none⟩ = some (.string ⟨#[c]⟩) /\ W.cell? ⟨B + 2, 0, none⟩ = some (.int .i64 0)) /\ W.frozen? ⟨B, 0, none⟩ = false := by
 obtain ⟨h1, h2, h3⟩ := h
 refine ⟨⟨?_, ?_, ?_⟩, ?_⟩ <;> simp [World.cell?, World.frozen?, h1, h2, h3]
theorem heap_set (W : World) (b i : Nat) (cs : Array Value) (t : TypeId) (v : Value) (h : W.heap[b]? = some (.cells cs t (0, 0))) : (W.setCell ⟨b, i, none⟩ v).heap[b]? = some (.cells (cs.setIfInBounds i v) t (0, 0)) := heap_setCell_same W b i cs t v h
theorem Box3.set {B : Nat} {c : UInt8} {s : ByteArray} {W : World} (h : Box3 B c s W) (t : ByteArray) : Box3 B c t (W.setCell ⟨B, 0, none⟩ (.string t)) :=
 ⟨heap_set W B 0 _ _ _ h.bs, (Below.heap_setCell _ _ _ _ (by show B + 1 ≠ B; omega)).trans h.bc, (Below.heap_setCell _ _ _ _ (by show B + 2 ≠ B; omega)).trans h.bz⟩
theorem splitSeq_any (c : UInt8) (s : ByteArray) (w : World) :
  Calls Tryz.prog 176 #[.string s, .string ⟨#[c]⟩] w fun e w' => e = .returned (.func (.func 218) #[] #[.pointer (some ⟨w.heap.size + 1, 0, none⟩), .pointer (some ⟨w.heap.size, 0, none⟩), .pointer (some ⟨w.heap.size + 1 + 1, 0, none⟩)]) /\
   Below w.heap.size w w' /\ w'.heap.size = w.heap.size + 3 /\ Box3 w.heap.size c s w' := by
 have K : ∀ w, Calls Tryz.prog 195 #[.string s, .string ⟨#[c]⟩, .int .i64 0] w fun e w' => e = .returned (.func (.func 218) #[] #[.pointer (some ⟨w.heap.size + 1, 0, none⟩), .pointer (some ⟨w.heap.size, 0, none⟩), .pointer (some ⟨w.heap.size + 1 + 1, 0, none⟩)]) /\
   w' = ((w.alloc (.cells #[.string s] 9)).alloc (.cells #[.string ⟨#[c]⟩] 9)).alloc (.cells #[.int .i64 0] 3) := by
  intro w
  go_enter Tryz.func195, Tryz.ntmps195
  go_wp2
  go_ret
  exact ⟨rfl, rfl⟩
 have H := H_ K
 clear K
 go_enter Tryz.func176, Tryz.ntmps176
 go_wp2_with fail
 refine ((un H) _).mono ?_
 rintro e w1 ⟨rfl, rfl⟩
 go_wp2
 go_ret
 refine ⟨rfl, (((Below.refl _ _).alloc (Nat.le_refl _) _).alloc (by simp) _).alloc (by simp; omega) _, by simp, ?_, ?_, ?_⟩
 ·rw [Below.heap_alloc _ _ _ (by simp; omega), Below.heap_alloc _ _ _ (by simp)]; exact World.alloc_heap_new _ _
 ·rw [Below.heap_alloc _ _ _ (by simp)]; have := World.alloc_heap_new (w.alloc (.cells #[.string s] 9)) (.cells #[.string ⟨#[c]⟩] 9); rwa [World.size_alloc] at this
 ·have := World.alloc_heap_new ((w.alloc (.cells #[.string s] 9)).alloc (.cells #[.string ⟨#[c]⟩] 9)) (.cells #[.int .i64 0] 3); rwa [World.size_alloc, World.size_alloc] at this
def Gone (G Gx : List ByteArray -> ByteArray -> Prop) (J Jx : List ByteArray -> World -> Prop) (S : Nat -> Prop) (p : List ByteArray) (x : ByteArray) (W : World) (e : Ending) (W2 : World) : Prop :=
 (e = .returned (.bool true) /\ G p x /\ J (p ++ [x]) W2 /\ Kpt S W W2) \/ (e = .returned (.bool false) /\ Gx p x /\ Jx (p ++ [x]) W2)
def Split (G Gx : List ByteArray -> ByteArray -> Prop) (J Jx : List ByteArray -> World -> Prop) (l : List ByteArray) (W' : World) : Prop :=
 ((∀ q x, q ++ [x] <+: l -> G q x) /\ J l W') \/ (∃ q x, q ++ [x] <+: l /\ Gx q x /\ Jx (q ++ [x]) W')
theorem split1_any (c : UInt8) (s : ByteArray) (B l : Nat) (hs : s.size <= 100000000) (G Gx : List ByteArray -> ByteArray -> Prop) (J Jx : List ByteArray -> World -> Prop)
  (hJ : ∀ p A A', But B A A' -> J p A -> J p A')
  (hY : ∀ p x W m, J p W -> p ++ [x] <+: spb c s -> YieldAt Fence.wide m Tryz.prog l #[.string x] W (Gone G Gx J Jx (fun k => B <= k /\ k < B + 3) p x W))
  (W : World) (h0 : J [] W) (hB : Box3 B c s W) :
  CallsIn Fence.wide 6 Tryz.prog 218 #[.func (.yield l) #[] #[], .pointer (some ⟨B + 1, 0, none⟩), .pointer (some ⟨B, 0, none⟩), .pointer (some ⟨B + 1 + 1, 0, none⟩)] W fun e W' => (∃ v, e = .returned v) /\ Split G Gx J Jx (spb c s) W' := by
 have HB := H_ hB
 obtain ⟨⟨c0, c1, c2⟩, _⟩ := hB.cells
 have HJ := H_ hJ
 have HY := H_ hY
 have hc1 : ((⟨#[c]⟩ : ByteArray).size : Int) = 1 := rfl
 clear hJ hY hB
 refine callsIn_of_wp Tryz.func218 rfl trivial ?_ rfl
 simp only [Tryz.ntmps218, List.size_toArray, List.length_cons, List.length_nil, Nat.reduceAdd, Nat.reduceSub, Array.replicate_succ, Array.replicate_zero, List.push_toArray, List.append_toArray, List.nil_append, List.cons_append]
 gi_wp2
 gi_loopw [7] (fun _ wr => ∃ (pre : List ByteArray) (r : ByteArray), Hid (pre ++ spb c r = spb c s) /\ Hid (r.size <= 100000000) /\ Hid (∀ q x, q ++ [x] <+: pre -> G q x) /\ Hid (J pre wr) /\ Hid (Box3 B c r wr)) (fun _ wr => match wr.cell? ⟨B, 0, none⟩ with | some (.string r) => r.size | _ => 0)
 case atStart => exact ⟨[], s, H_ rfl, H_ hs, H_ (fun q x h => by have := h.length_le; simp at this), H_ h0, HB⟩
 case round =>
  obtain ⟨pre, r, hpre, hr, hG, hj, hB⟩ := hrel
  clear HB h0 c0 c1 c2
  obtain ⟨⟨c0, c1, c2⟩, f0⟩ := (un hB).cells
  have HI := H_ fun W => index_any c r W
  have hcut := idx_cut c r.data.toList
  have hsp := spb_cut c r
  cases hq : cutB c r.data.toList with
  | none =>
   rw [hq] at hcut hsp
   rw [show Lib.indexByte r.data.toList c = -1 from hcut] at HI
   have hsp : spb c r = [r] := hsp
   have hp1 : pre ++ [r] = spb c s := by rw [<- hsp]; exact un hpre
   have hp2 : pre ++ [r] <+: spb c s := hp1 ▸ List.prefix_rfl
   obtain ⟨fn, tmps, assign, body, hy, hRd⟩ := (un HY) pre r wr 5 (un hj) hp2
   have HP := H_ hp1
   clear hcut hsp hp1 hp2 HY HJ
   gi_wp2_with fail
   refine ⟨trivial, (callsIn_wide.2 ((un HI) _)).mono ?_⟩
   rintro e w1 ⟨rfl, rfl⟩
   gi_wp2
   refine hRd.mono ?_
   rintro e W3 (⟨rfl, hg, hj3, _⟩ | ⟨rfl, hg, hx3⟩)
   ·gi_wp2
    go_end0
    refine ⟨⟨_, rfl⟩, .inl ⟨fun q x hpx => ?_, (un HP) ▸ hj3⟩⟩
    rw [<- un HP] at hpx
    rcases List.prefix_concat_iff.1 hpx with h | h
    ·have h2 := List.append_inj' h rfl
     have h3 : x = r := by simpa using h2.2
     rw [h2.1, h3]; exact hg
    ·exact (un hG) q x h
   ·gi_wp2
    go_end0
    exact ⟨⟨_, rfl⟩, .inr ⟨pre, r, (un HP) ▸ List.prefix_rfl, hg, hx3⟩⟩
  | some q =>
   obtain ⟨a, b⟩ := q
   rw [hq] at hcut hsp
   obtain ⟨h1, h2⟩ : Lib.indexByte r.data.toList c = a.length /\ a.length + 1 + b.length = r.data.toList.length := hcut
   rw [h1] at HI
   rw [Array.length_toList] at h2
   have h2' : a.length + 1 + b.length = r.size := h2
   have hsp : spb c r = ⟨a.toArray⟩ :: spb c ⟨b.toArray⟩ := hsp
   have hpn : (pre ++ [⟨a.toArray⟩]) ++ spb c ⟨b.toArray⟩ = spb c s := by rw [List.append_assoc, List.singleton_append, <- hsp]; exact un hpre
   have hp2 : pre ++ [⟨a.toArray⟩] <+: spb c s := by rw [<- hpn]; exact List.prefix_append _ _
   obtain ⟨e1, e2⟩ := take_drop_of hq
   have hbz : (⟨b.toArray⟩ : ByteArray).size = b.length := by show b.toArray.size = _; simp
   obtain ⟨fn, tmps, assign, body, hy, hRd⟩ := (un HY) pre (r.extract 0 a.length) wr 5 (un hj) (by rw [e1]; exact hp2)
   obtain ⟨n, hn⟩ : ∃ n, a.length = n := ⟨_, rfl⟩
   rw [hn] at HI h2' e1 e2 hy hRd
   have hrz := un hr
   have hn1 : (n : Int) <= r.size := by omega
   have hn2 : (n : Int) + 1 <= r.size := by omega
   have hn3 : (n : Int) <= 100000000 := by omega
   have HS : Hid ((⟨b.toArray⟩ : ByteArray).size < r.size) := H_ (by omega)
   have HE := H_ (And.intro e1 e2)
   have HP := H_ (And.intro hpn hp2)
   clear hsp hpn hp2 h1 h2 h2' e1 e2 hq hn hrz hbz
   gi_wp2_with fail
   refine ⟨trivial, (callsIn_wide.2 ((un HI) _)).mono ?_⟩
   rintro e w1 ⟨rfl, rfl⟩
   gi_wp2
   refine hRd.mono ?_
   rintro e W3 (⟨rfl, hg, hj3, hk3⟩ | ⟨rfl, hg, hx3⟩)
   ·have hB3 := (un hB).kept hk3
    obtain ⟨⟨d0, d1, d2⟩, g0⟩ := hB3.cells
    have HB3 := H_ hB3
    have HJ3 := H_ hj3
    have HG3 := H_ hg
    clear hB3 hj3 hg hk3
    gi_wp2
    go_roundw
    case rel =>
     obtain ⟨e1, e2⟩ := un HE
     refine ⟨pre ++ [⟨a.toArray⟩], ⟨b.toArray⟩, H_ (un HP).1, H_ (by have := un HS; have := un hr; omega), H_ fun q x hpx => ?_, ?_, ?_⟩
     ·rcases List.prefix_concat_iff.1 hpx with h | h
      ·have h2 := List.append_inj' h rfl
       have h3 : x = ⟨a.toArray⟩ := by simpa using h2.2
       rw [h2.1, h3, <- e1]; exact un HG3
      ·exact (un hG) q x h
     ·rw [<- e1]
      exact H_ ((un HJ) _ _ _ ((But.refl _ _).setCell 0 _) (un HJ3))
     ·rw [e2]
      exact H_ ((un HB3).set _)
    case measure =>
     obtain ⟨e1, e2⟩ := un HE
     have h1 := un HS
     have h2 := ((un HB3).set (r.extract (n + 1) r.size)).cells.1.1
     have h3 := (un hB).cells.1.1
     rw [e2] at h2
     simp only [e2, h2, h3]
     exact h1
   ·have hp2 := (un HP).2
    obtain ⟨e1, e2⟩ := un HE
    rw [e1] at hg hx3
    have HX := H_ (And.intro hp2 (And.intro hg hx3))
    clear hg hx3 hp2 e1 e2
    gi_wp2
    refine bodyPost_ret (results_none rfl _ _ _) rfl ?_
    exact ⟨⟨_, rfl⟩, .inr ⟨pre, ⟨a.toArray⟩, (un HX).1, (un HX).2.1, (un HX).2.2⟩⟩
end Go.Proofs.YtmenllnokgjdlaaGreatDoor.F
