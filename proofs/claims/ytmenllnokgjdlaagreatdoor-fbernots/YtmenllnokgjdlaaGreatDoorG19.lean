/- Several texts in one: DIter, FShelf, Walk2, Iter, Nums, Rest, Follow. Each says what it proves, and its conditions. -/
import Derived.Test.YtmenllnokgjdlaaGreatDoorG18
set_option linter.unusedSimpArgs false
set_option maxHeartbeats 2000000
set_option maxRecDepth 100000
/-
 The iterator of package dn: 'cutter.pieces' hands over a text's pieces, each with its number. Conditions: none.
-/
namespace Go.Proofs.YtmenllnokgjdlaaGreatDoor.D
open Go Go.RowKit Go.Shelf Dp
attribute [local go_sem] Oper.semAt_some
structure Pk where
 i : Nat
 fr : Nat
 to : Nat
abbrev Pk.g (s : ByteArray) (x : Pk) : ByteArray := s.extract x.fr x.to
def pk (s : ByteArray) (c : UInt8) : Nat -> Nat -> Nat -> Nat -> List Pk
 | 0, i, fr, _ => [⟨i, fr, s.size⟩]
 | f + 1, i, fr, p => if h : p < s.size then (if s[p] = c then ⟨i, fr, p⟩ :: pk s c f (i + 1) (p + 1) (nx s p) else pk s c f i fr (nx s p)) else [⟨i, fr, s.size⟩]
def pks (s : ByteArray) (c : UInt8) : List Pk := pk s c s.size 0 0 0
theorem pk_end (s : ByteArray) (c : UInt8) (f i fr p : Nat) (h : ¬ p < s.size) : pk s c f i fr p = [⟨i, fr, s.size⟩] := by
 cases f with
 | zero => rfl
 | succ f => rw [pk, dif_neg h]
theorem pk_step (s : ByteArray) (c : UInt8) (f i fr p : Nat) (h : p < s.size) (hf : s.size <= p + f) : ∃ f', f = f' + 1 /\ s.size <= nx s p + f' /\
  pk s c f i fr p = if s[p] = c then ⟨i, fr, p⟩ :: pk s c f' (i + 1) (p + 1) (nx s p) else pk s c f' i fr (nx s p) := by
 cases f with
 | zero => omega
 | succ f => exact ⟨f, rfl, by have := nx_lt h; omega, by rw [pk, dif_pos h]⟩
theorem ext_list (s : ByteArray) (a b : Nat) : (s.extract a b).data.toList = (s.data.toList.take b).drop a := by
 rw [ByteArray.data_extract, Array.toList_extract, List.extract_eq_take_drop, List.drop_take]
theorem td_snoc {s : ByteArray} {a p : Nat} (h : p < s.size) (ha : a <= p) : (s.data.toList.take (p + 1)).drop a = (s.data.toList.take p).drop a ++ [s[p]] := by
 have hl : p < s.data.toList.length := by rw [Array.length_toList]; exact h
 rw [List.take_succ_eq_append_getElem hl, List.drop_append_of_le_length (by rw [List.length_take]; omega)]
 rfl
theorem pk_sp (s : ByteArray) (c : UInt8) (hc : c ≠ 92) : ∀ (f i fr p : Nat), s.size <= p + f -> fr <= p -> p <= s.size -> (pk s c f i fr p).map (fun x => (x.g s).data.toList) = sp c false ((s.data.toList.take p).drop fr) (s.data.toList.drop p)
 | 0, i, fr, p, hf, h1, h2 => by
  have : p = s.size := by omega
  subst this
  rw [drop_out (by omega), sp, pk]
  rw [List.map_cons, List.map_nil, ext_list]
 | f + 1, i, fr, p, hf, h1, h2 => by
  by_cases h : p < s.size
  ·have hn := nx_lt h
   rw [pk, dif_pos h, drop_at h, sp]
   by_cases hx : s[p] = c
   ·rw [if_pos hx, if_pos hx]
    have hnx : nx s p = p + 1 := by unfold nx; rw [dif_pos h, if_neg (by rw [hx]; exact hc)]
    rw [List.map_cons, hnx, pk_sp s c hc f (i + 1) (p + 1) (p + 1) (by omega) (Nat.le_refl _) (by omega)]
    have e : List.drop (p + 1) (List.take (p + 1) s.data.toList) = [] := List.drop_of_length_le (by rw [List.length_take]; omega)
    rw [e, ext_list]
   ·rw [if_neg hx, if_neg hx]
    by_cases h9 : s[p] = 92
    ·have hnx : nx s p = min (p + 2) s.size := by unfold nx; rw [dif_pos h, if_pos h9]
     rw [h9, show ((92 : UInt8) == 92) = true from rfl, pk_sp s c hc f i fr (nx s p) (by omega) (by omega) (by omega), hnx]
     by_cases h3 : p + 1 < s.size
     ·rw [Nat.min_eq_left (by omega), drop_at h3, sp, td_snoc h3 (by omega), td_snoc h (by omega), h9]
     ·have e : s.size = p + 1 := by omega
      rw [Nat.min_eq_right (by omega), e, drop_out (j := p + 1) (by omega), sp, sp, td_snoc h (by omega), h9]
    ·have hnx : nx s p = p + 1 := by unfold nx; rw [dif_pos h, if_neg h9]
     rw [show (s[p] == 92) = false by simpa using h9, pk_sp s c hc f i fr (nx s p) (by omega) (by omega) (by omega), hnx, td_snoc h (by omega)]
  ·have : p = s.size := by omega
   subst this
   rw [drop_out (by omega), sp, pk, dif_neg h]
   rw [List.map_cons, List.map_nil, ext_list]
theorem pks_pcs (s : ByteArray) (c : UInt8) (hc : c ≠ 92) : (pks s c).map (fun x => (x.g s).data.toList) = pcs c s.data.toList := by
 have := pk_sp s c hc s.size 0 0 0 (by omega) (Nat.le_refl _) (Nat.zero_le _)
 rw [List.drop_zero] at this
 exact this
abbrev It (Pr : Pk -> Prop) := { x : Pk // Pr x }
abbrev vals {Pr : Pk -> Prop} (l : List (It Pr)) : List Pk := l.map Subtype.val
abbrev cb (s : ByteArray) (c : UInt8) : Obj := .cells #[.string s, .int .u8 c.toNat] 284
theorem pieces_any (s : ByteArray) (c : UInt8) (w : World) :
  Calls Tryz.prog 193 #[.agg #[.string s, .int .u8 c.toNat]] w fun e w' => e = .returned (.func (.func 213) #[] #[.pointer (some ⟨w.heap.size, 0, none⟩)]) /\ w' = w.alloc (cb s c) := by
 go_enter Tryz.func193, Tryz.ntmps193
 go_wp2
 go_ret
 exact ⟨rfl, rfl⟩
theorem region_only {F : Fence} {n : Nat} {P : Program} {Q : Exit -> Act -> World -> Prop} {id : Nat} {a : Act} {w : World} {l : List Oper} (hm : P.follows .mixedOrders = true)
  (h : wpAnyIn F n P .any l.toArray (C.only Q) l.toArray.size (Array.replicate l.toArray.size false) a w.drew) : (Code.region id l.toArray true).wpIn F n P Q a w :=
 wpIn_mono (wpIn_region_any hm h) (fun e a w h => by cases e <;> first | exact h | exact h.elim)
theorem pieces1_stops (Pr : Pk -> Prop) (m : Nat) (hm : 1 <= m) (Bs : Nat) (s : ByteArray) (c : UInt8) (w : World) (hs : s.size <= 10000) (hPr : ∀ x ∈ pks s c, Pr x)
  (hBs : w.cell? ⟨Bs, 0, none⟩ = some (.string s)) (hBc : w.cell? ⟨Bs, 1, none⟩ = some (.int .u8 c.toNat)) :
  SeqStopsK Fence.wide m Tryz.prog 213 #[.pointer (some ⟨Bs, 0, none⟩)] (fun x : It Pr => #[.int .i64 x.1.i, .string (x.1.g s)]) (C.Two Bs Bs)
   (fun xs => vals xs = pks s c) (fun pre => vals pre <+: pks s c) (s.size + 1) w := fun l J Jx W hW hJ hJx hY h0 => by
 have hbs := (hW.cell (p := ⟨Bs, 0, none⟩) (lt_cell hBs)).trans hBs
 have hbc := (hW.cell (p := ⟨Bs, 1, none⟩) (lt_cell hBc)).trans hBc
 have hJb : Hid (∀ pre A B, J pre A -> Below A.heap.size A B -> J pre B) := H_ fun pre A B h hb => hJ pre A B none h ⟨hb.os, hb.tape, hb.output, hb.size, fun k hk _ => hb.block k hk⟩ (fun r e => by cases e)
 have HE := H_ fun W => end_any s W
 have HH := H_ fun p hp W => has_any s p c W hp
 have HP := H_ fun a b hab hb W => piece_any s a b W hab hb
 have HN := H_ fun p hp W => next_any s p W hs hp
 have HY := H_ hY
 have HPr := H_ hPr
 clear hPr
 clear hBs hBc hW hJ hJx hY
 refine callsIn_of_wp Tryz.func213 rfl trivial ?_ rfl
 simp only [Tryz.ntmps213, List.size_toArray, List.length_cons, List.length_nil, Nat.reduceAdd, Nat.reduceSub, Array.replicate_succ, Array.replicate_zero, List.push_toArray, List.append_toArray, List.nil_append, List.cons_append]
 gi_wp2
 gi_loopw [3, 4, 5] (fun a b d wr => ∃ (pre : List (It Pr)) (f i fr p : Nat), Hid (vals pre ++ pk s c f i fr p = pks s c) /\ Hid (s.size <= p + f) /\ pre.length = i /\ i <= fr /\ fr <= p /\ p <= s.size /\ a = .int .i64 (i : Int) /\ b = .int .i64 (fr : Int) /\ d = .int .i64 (p : Int) /\ J pre wr /\ wr.cell? ⟨Bs, 0, none⟩ = some (.string s) /\ wr.cell? ⟨Bs, 1, none⟩ = some (.int .u8 c.toNat))
  (fun _ _ d _ => s.size - (intOf d).toNat)
 case atStart => exact ⟨[], s.size, 0, 0, 0, H_ rfl, H_ (by omega), rfl, Nat.le_refl _, Nat.le_refl _, by omega, rfl, rfl, rfl, h0, hbs, hbc⟩
 case round =>
  obtain ⟨pre, f, i, fr, p, hl, hf, hpl, hif, hfp, hp4, rfl, rfl, rfl, hJs, ha, hc'⟩ := hrel
  clear hbs hbc h0
  gi_wp2_with fail
  refine ⟨trivial, (callsIn_wide.2 ((un HE) _)).mono ?_⟩
  rintro e w1 ⟨rfl, hb⟩
  have ha1 := (hb.cell (p := ⟨Bs, 0, none⟩) (lt_cell ha)).trans ha
  have hc1 := (hb.cell (p := ⟨Bs, 1, none⟩) (lt_cell hc')).trans hc'
  have hJ1 := H_ ((un hJb) _ _ _ hJs hb)
  clear hb ha hc' hJs
  have hpi : (p : Int) <= 10000 := by omega
  by_cases hlt : p < s.size
  ·have hlt' : (p : Int) < s.size := by omega
   obtain ⟨f', rfl, hf', hpk⟩ := pk_step s c f i fr p hlt (un hf)
   have hnx := nx_lt hlt
   have HH' := H_ ((un HH) p hlt)
   by_cases hx : s[p] = c
   ·rw [decide_eq_true hx] at HH'
    rw [if_pos hx] at hpk
    have HP' := H_ ((un HP) fr p hfp hp4)
    have HN' := H_ ((un HN) p hlt)
    have Hl : Hid (vals pre ++ ⟨i, fr, p⟩ :: pk s c f' (i + 1) (p + 1) (nx s p) = pks s c) := H_ (by rw [<- hpk]; exact un hl)
    have Hf := H_ hf'
    have Hnx := H_ hnx
    clear hl hf hf' hpk hx hnx HH HP HN
    generalize nx s p = q at *
    gi_wp2_with fail
    refine ⟨trivial, (callsIn_wide.2 ((un HH') _)).mono ?_⟩
    rintro e w2 ⟨rfl, hb⟩
    have ha2 := (hb.cell (p := ⟨Bs, 0, none⟩) (lt_cell ha1)).trans ha1
    have hc2 := (hb.cell (p := ⟨Bs, 1, none⟩) (lt_cell hc1)).trans hc1
    have hJ2 := H_ ((un hJb) _ _ _ (un hJ1) hb)
    clear hb ha1 hc1 hJ1 HH'
    gi_wp2_with fail
    refine ⟨trivial, (callsIn_wide.2 ((un HP') _)).mono ?_⟩
    rintro e w3 ⟨rfl, hb⟩
    have ha3 := (hb.cell (p := ⟨Bs, 0, none⟩) (lt_cell ha2)).trans ha2
    have hJ3 := (un hJb) _ _ _ (un hJ2) hb
    have hc3 := (hb.cell (p := ⟨Bs, 1, none⟩) (lt_cell hc2)).trans hc2
    clear hb ha2 hc2 hJ2 HP'
    obtain ⟨fn, tmps, assign, body, hy, hR⟩ := (un HY) _ ⟨⟨i, fr, p⟩, (un HPr) _ (by rw [<- un Hl]; simp)⟩ _ hJ3 (by omega)
    dsimp only at hy
    gi_wp2
    refine hR.mono ?_
    rintro e W3 (⟨rfl, hJ4, hk3⟩ | ⟨rfl, hJx3⟩)
    ·have ha4 := (World.cell?_of_block (a := ⟨Bs, 0, none⟩) hk3.1).trans ha3
     have hc4 := (World.cell?_of_block (a := ⟨Bs, 1, none⟩) hk3.1).trans hc3
     clear hk3 ha3 hc3 hy hR hJ3
     gi_wp2_with fail
     refine ⟨trivial, (callsIn_wide.2 ((un HN') _)).mono ?_⟩
     rintro e w5 ⟨rfl, hb⟩
     have ha5 := (hb.cell (p := ⟨Bs, 0, none⟩) (lt_cell ha4)).trans ha4
     have hc5 := (hb.cell (p := ⟨Bs, 1, none⟩) (lt_cell hc4)).trans hc4
     have hJ5 := H_ ((un hJb) _ _ _ hJ4 hb)
     clear hb ha4 hc4 hJ4 HN'
     gi_wp2
     go_roundw
     case rel =>
      have := un Hnx
      refine ⟨pre ++ [⟨⟨i, fr, p⟩, (un HPr) _ (by rw [<- un Hl]; simp)⟩], f', i + 1, p + 1, q, H_ (by rw [vals, List.map_append, List.append_assoc]; exact un Hl), Hf, by simp; omega, by omega, by omega, by omega, by simp, by simp, rfl, un hJ5, ha5, hc5⟩
     case measure =>
      have := un Hnx
      simp [intOf]
      omega
    ·gi_wp2
     refine bodyPost_ret (results_none rfl _ _ _) rfl ?_
     exact ⟨⟨_, rfl⟩, .inr ⟨_, ⟨pk s c f' (i + 1) (p + 1) q, by rw [vals, List.map_append, List.append_assoc]; exact un Hl⟩, hJx3⟩⟩
   ·rw [decide_eq_false hx] at HH'
    rw [if_neg hx] at hpk
    have HN' := H_ ((un HN) p hlt)
    have Hl : Hid (vals pre ++ pk s c f' i fr (nx s p) = pks s c) := H_ (by rw [<- hpk]; exact un hl)
    have Hf := H_ hf'
    have Hnx := H_ hnx
    clear hl hf hf' hpk hx hnx HH HP HN
    generalize nx s p = q at *
    gi_wp2_with fail
    refine ⟨trivial, (callsIn_wide.2 ((un HH') _)).mono ?_⟩
    rintro e w2 ⟨rfl, hb⟩
    have ha2 := (hb.cell (p := ⟨Bs, 0, none⟩) (lt_cell ha1)).trans ha1
    have hc2 := (hb.cell (p := ⟨Bs, 1, none⟩) (lt_cell hc1)).trans hc1
    have hJ2 := H_ ((un hJb) _ _ _ (un hJ1) hb)
    clear hb ha1 hc1 hJ1 HH'
    gi_wp2_with fail
    refine ⟨trivial, (callsIn_wide.2 ((un HN') _)).mono ?_⟩
    rintro e w5 ⟨rfl, hb⟩
    have ha5 := (hb.cell (p := ⟨Bs, 0, none⟩) (lt_cell ha2)).trans ha2
    have hc5 := (hb.cell (p := ⟨Bs, 1, none⟩) (lt_cell hc2)).trans hc2
    have hJ5 := H_ ((un hJb) _ _ _ (un hJ2) hb)
    clear hb ha2 hc2 hJ2 HN'
    gi_wp2
    go_roundw
    case rel =>
     have := un Hnx
     refine ⟨pre, f', i, fr, q, Hl, Hf, by omega, by omega, by omega, by omega, rfl, rfl, rfl, un hJ5, ha5, hc5⟩
    case measure =>
     have := un Hnx
     simp [intOf]
     omega
  ·have hge : ¬ (p : Int) < s.size := by omega
   have Hl : Hid (vals pre ++ [⟨i, fr, s.size⟩] = pks s c) := H_ (by rw [<- pk_end s c f i fr p hlt]; exact un hl)
   clear hl hf HH HN
   have HP' := H_ ((un HP) fr s.size (by omega) (Nat.le_refl _))
   gi_wp2_with fail
   refine region_only (by kernel_rfl) ?_
   change wpAnyIn _ _ _ _ _ _ 10 #[false, false, false, false, false, false, false, false, false, false] _ w1.drew
   have hax0 : w1.drew.cell? ⟨Bs, 0, none⟩ = some (.string s) := ha1
   have hJx0 := H_ ((un hJb) _ _ _ (un hJ1) (Below.refl _ _).drew)
   clear ha1 hc1 hJ1
   generalize w1.drew = x0 at *
   refine wpAnyIn_take (i := 0) (v := .func (.yield l) #[] #[]) rfl rfl (by kernel_rfl) (by kernel_rfl) (by kernel_rfl) (fun _ _ _ h => h) ⟨Or.inl ⟨by kernel_rfl, by intro w1; go_simp; try rfl⟩, fun _ => rfl⟩ ?_
   simp only [Act.put, nrm]
   refine wpAnyIn_take (i := 1) (v := .int .i64 i) rfl rfl (by kernel_rfl) (by kernel_rfl) (by kernel_rfl) (fun _ _ _ h => h) ⟨Or.inl ⟨by kernel_rfl, by intro w1; go_simp; try rfl⟩, fun _ => rfl⟩ ?_
   simp only [Act.put, nrm]
   refine wpAnyIn_take (i := 2) (v := .pointer (some ⟨Bs, 0, none⟩)) rfl rfl (by kernel_rfl) (by kernel_rfl) (by kernel_rfl) (fun _ _ _ h => h) ⟨Or.inl ⟨by kernel_rfl, by intro w1; go_simp; try rfl⟩, fun _ => rfl⟩ ?_
   simp only [Act.put, nrm]
   refine wpAnyIn_take (i := 4) (v := .int .i64 fr) rfl rfl (by kernel_rfl) (by kernel_rfl) (by kernel_rfl) (fun _ _ _ h => h) ⟨Or.inl ⟨by kernel_rfl, by intro w1; go_simp; try rfl⟩, fun _ => rfl⟩ ?_
   simp only [Act.put, nrm]
   refine wpAnyIn_take (i := 5) (v := .pointer (some ⟨Bs, 0, none⟩)) rfl rfl (by kernel_rfl) (by kernel_rfl) (by kernel_rfl) (fun _ _ _ h => h) ⟨Or.inl ⟨by kernel_rfl, by intro w1; go_simp; try rfl⟩, fun _ => rfl⟩ ?_
   simp only [Act.put, nrm]
   refine wpAnyIn_ready (rs := [3, 6]) (by kernel_rfl) (by simp) (AllReadyIn.cons rfl (fun K hK => ?_) (AllReadyIn.cons rfl (fun K hK => ?_) AllReadyIn.nil))
   ·rw [if_pos (by kernel_rfl)]
    gi_wp2
    try (simp only [Act.put, nrm])
    refine wpAnyIn_ready (rs := [6]) (by kernel_rfl) (by simp) (AllReadyIn.cons rfl (fun K hK => ?_) AllReadyIn.nil)
    rw [if_pos (by kernel_rfl)]
    gi_wp2
    try (simp only [Act.put, nrm])
    refine wpAnyIn_ready (rs := [7]) (by kernel_rfl) (by simp) (AllReadyIn.cons rfl (fun K hK => ?_) AllReadyIn.nil)
    rw [if_pos (by kernel_rfl)]
    gi_wp2_with fail
    refine ⟨trivial, (callsIn_wide.2 ((un HE) _)).mono ?_⟩
    rintro e x1 ⟨rfl, hb⟩
    have hax1 := (hb.cell (p := ⟨Bs, 0, none⟩) (lt_cell hax0)).trans hax0
    have hJx1 := H_ ((un hJb) _ _ _ (un hJx0) hb)
    clear hb hax0 hJx0
    gi_wp2
    try (simp only [Act.put, nrm])
    refine wpAnyIn_ready (rs := [8]) (by kernel_rfl) (by simp) (AllReadyIn.cons rfl (fun K hK => ?_) AllReadyIn.nil)
    rw [if_pos (by kernel_rfl)]
    gi_wp2_with fail
    refine ⟨trivial, (callsIn_wide.2 ((un HP') _)).mono ?_⟩
    rintro e x2 ⟨rfl, hb⟩
    have hax2 := (hb.cell (p := ⟨Bs, 0, none⟩) (lt_cell hax1)).trans hax1
    have hJx2 := H_ ((un hJb) _ _ _ (un hJx1) hb)
    clear hb hax1 hJx1
    gi_wp2
    try (simp only [Act.put, nrm])
    refine wpAnyIn_ready (rs := [9]) (by kernel_rfl) (by simp) (AllReadyIn.cons rfl (fun K hK => ?_) AllReadyIn.nil)
    rw [if_pos (by kernel_rfl)]
    obtain ⟨fn, tmps, assign, body, hy, hR⟩ := (un HY) _ ⟨⟨i, fr, s.size⟩, (un HPr) _ (by rw [<- un Hl]; simp)⟩ _ (un hJx2) (by omega)
    dsimp only at hy
    gi_wp2
    refine hR.mono ?_
    rintro e W3 (⟨rfl, hJ4, hk3⟩ | ⟨rfl, hJx3⟩)
    ·gi_wp2
     refine wpAnyIn_done (by kernel_rfl) ?_ _
     simp only [C.only]
     gi_wp2
     go_end0
     exact ⟨⟨_, rfl⟩, .inl ⟨_, by rw [vals, List.map_append]; exact (un Hl), hJ4⟩⟩
    ·gi_wp2
     refine wpAnyIn_done (by kernel_rfl) ?_ _
     simp only [C.only]
     gi_wp2
     go_end0
     exact ⟨⟨_, rfl⟩, .inr ⟨_, ⟨[], by rw [List.append_nil, vals, List.map_append]; exact un Hl⟩, hJx3⟩⟩
   ·rw [if_pos (by kernel_rfl)]
    gi_wp2
    try (simp only [Act.put, nrm])
    refine wpAnyIn_ready (rs := [3, 7]) (by kernel_rfl) (by simp) (AllReadyIn.cons rfl (fun K hK => ?_) (AllReadyIn.cons rfl (fun K hK => ?_) AllReadyIn.nil))
    ·rw [if_pos (by kernel_rfl)]
     gi_wp2
     try (simp only [Act.put, nrm])
     refine wpAnyIn_ready (rs := [7]) (by kernel_rfl) (by simp) (AllReadyIn.cons rfl (fun K hK => ?_) AllReadyIn.nil)
     rw [if_pos (by kernel_rfl)]
     gi_wp2_with fail
     refine ⟨trivial, (callsIn_wide.2 ((un HE) _)).mono ?_⟩
     rintro e x1 ⟨rfl, hb⟩
     have hax1 := (hb.cell (p := ⟨Bs, 0, none⟩) (lt_cell hax0)).trans hax0
     have hJx1 := H_ ((un hJb) _ _ _ (un hJx0) hb)
     clear hb hax0 hJx0
     gi_wp2
     try (simp only [Act.put, nrm])
     refine wpAnyIn_ready (rs := [8]) (by kernel_rfl) (by simp) (AllReadyIn.cons rfl (fun K hK => ?_) AllReadyIn.nil)
     rw [if_pos (by kernel_rfl)]
     gi_wp2_with fail
     refine ⟨trivial, (callsIn_wide.2 ((un HP') _)).mono ?_⟩
     rintro e x2 ⟨rfl, hb⟩
     have hax2 := (hb.cell (p := ⟨Bs, 0, none⟩) (lt_cell hax1)).trans hax1
     have hJx2 := H_ ((un hJb) _ _ _ (un hJx1) hb)
     clear hb hax1 hJx1
     gi_wp2
     try (simp only [Act.put, nrm])
     refine wpAnyIn_ready (rs := [9]) (by kernel_rfl) (by simp) (AllReadyIn.cons rfl (fun K hK => ?_) AllReadyIn.nil)
     rw [if_pos (by kernel_rfl)]
     obtain ⟨fn, tmps, assign, body, hy, hR⟩ := (un HY) _ ⟨⟨i, fr, s.size⟩, (un HPr) _ (by rw [<- un Hl]; simp)⟩ _ (un hJx2) (by omega)
     dsimp only at hy
     gi_wp2
     refine hR.mono ?_
     rintro e W3 (⟨rfl, hJ4, hk3⟩ | ⟨rfl, hJx3⟩)
     ·gi_wp2
      refine wpAnyIn_done (by kernel_rfl) ?_ _
      simp only [C.only]
      gi_wp2
      go_end0
      exact ⟨⟨_, rfl⟩, .inl ⟨_, by rw [vals, List.map_append]; exact (un Hl), hJ4⟩⟩
     ·gi_wp2
      refine wpAnyIn_done (by kernel_rfl) ?_ _
      simp only [C.only]
      gi_wp2
      go_end0
      exact ⟨⟨_, rfl⟩, .inr ⟨_, ⟨[], by rw [List.append_nil, vals, List.map_append]; exact un Hl⟩, hJx3⟩⟩
    ·rw [if_pos (by kernel_rfl)]
     gi_wp2_with fail
     refine ⟨trivial, (callsIn_wide.2 ((un HE) _)).mono ?_⟩
     rintro e x1 ⟨rfl, hb⟩
     have hax1 := (hb.cell (p := ⟨Bs, 0, none⟩) (lt_cell hax0)).trans hax0
     have hJx1 := H_ ((un hJb) _ _ _ (un hJx0) hb)
     clear hb hax0 hJx0
     gi_wp2
     try (simp only [Act.put, nrm])
     refine wpAnyIn_ready (rs := [3]) (by kernel_rfl) (by simp) (AllReadyIn.cons rfl (fun K hK => ?_) AllReadyIn.nil)
     rw [if_pos (by kernel_rfl)]
     gi_wp2
     try (simp only [Act.put, nrm])
     refine wpAnyIn_ready (rs := [8]) (by kernel_rfl) (by simp) (AllReadyIn.cons rfl (fun K hK => ?_) AllReadyIn.nil)
     rw [if_pos (by kernel_rfl)]
     gi_wp2_with fail
     refine ⟨trivial, (callsIn_wide.2 ((un HP') _)).mono ?_⟩
     rintro e x2 ⟨rfl, hb⟩
     have hax2 := (hb.cell (p := ⟨Bs, 0, none⟩) (lt_cell hax1)).trans hax1
     have hJx2 := H_ ((un hJb) _ _ _ (un hJx1) hb)
     clear hb hax1 hJx1
     gi_wp2
     try (simp only [Act.put, nrm])
     refine wpAnyIn_ready (rs := [9]) (by kernel_rfl) (by simp) (AllReadyIn.cons rfl (fun K hK => ?_) AllReadyIn.nil)
     rw [if_pos (by kernel_rfl)]
     obtain ⟨fn, tmps, assign, body, hy, hR⟩ := (un HY) _ ⟨⟨i, fr, s.size⟩, (un HPr) _ (by rw [<- un Hl]; simp)⟩ _ (un hJx2) (by omega)
     dsimp only at hy
     gi_wp2
     refine hR.mono ?_
     rintro e W3 (⟨rfl, hJ4, hk3⟩ | ⟨rfl, hJx3⟩)
     ·gi_wp2
      refine wpAnyIn_done (by kernel_rfl) ?_ _
      simp only [C.only]
      gi_wp2
      go_end0
      exact ⟨⟨_, rfl⟩, .inl ⟨_, by rw [vals, List.map_append]; exact (un Hl), hJ4⟩⟩
     ·gi_wp2
      refine wpAnyIn_done (by kernel_rfl) ?_ _
      simp only [C.only]
      gi_wp2
      go_end0
      exact ⟨⟨_, rfl⟩, .inr ⟨_, ⟨[], by rw [List.append_nil, vals, List.map_append]; exact un Hl⟩, hJx3⟩⟩
end Go.Proofs.YtmenllnokgjdlaaGreatDoor.D
/-
 strings.Index, strings.Cut, strings.Contains, strings.Clone at a separator of one byte. Conditions: the bounds that each statement names.
-/
namespace Go.Proofs.YtmenllnokgjdlaaGreatDoor.F
open Go Go.RowKit Go.Shelf Fp
open D (H_ un ext_list)
attribute [local go_sem] Oper.semAt_some
theorem idx_cut (c : UInt8) : ∀ l : List UInt8, match cutB c l with
  | none => Lib.indexByte l c = -1
  | some (k, t) => Lib.indexByte l c = k.length /\ k.length + 1 + t.length = l.length
 | [] => rfl
 | x :: r => by
  have ih := idx_cut c r
  rw [cutB]
  by_cases h : x = c
  ·subst h
   rw [if_pos rfl]
   exact ⟨by rw [Lib.indexByte]; simp, by simp; omega⟩
  ·rw [if_neg h]
   have hb : (x == c) = false := by simpa using h
   cases hc : cutB c r with
   | none =>
    rw [hc] at ih
    show Lib.indexByte (x :: r) c = -1
    rw [Lib.indexByte, hb, ih]
    rfl
   | some q =>
    rw [hc] at ih
    show Lib.indexByte (x :: r) c = ((x :: q.1).length : Int) /\ _
    rw [Lib.indexByte, hb, ih.1]
    have h1 : ((q.1.length : Int) == -1) = false := by rw [beq_eq_false_iff_ne]; omega
    rw [h1]
    refine ⟨by simp, ?_⟩
    have := ih.2
    simp only [List.length_cons]
    omega
theorem indexByte_any (c : UInt8) (s : ByteArray) (w : World) :
  Calls Tryz.prog 207 #[.string s, .int .u8 c.toNat] w fun e w' => e = .returned (.int .i64 (Lib.indexByte s.data.toList c)) /\ w' = w := by
 have hx := @run_callFunc_extern Tryz.prog 222 _ Extern.BytealgIndexByte.indexByte Tryz.func222 (by kernel_rfl) (by kernel_rfl) (by kernel_rfl) (by kernel_rfl)
 have hr := fun w => Lib.run_indexByteString (P := Tryz.prog) s c.toNat w
 rw [show (c.toNat : Int).toNat.toUInt8 = c by simp] at hr
 generalize Lib.indexByte s.data.toList c = n at *
 go_enter Tryz.func207, Tryz.ntmps207
 go_wp2
 go_ret
 exact ⟨rfl, rfl⟩
theorem index0_any (c : UInt8) (s : ByteArray) (w : World) :
  Calls Tryz.prog 191 #[.string s, .string ⟨#[c]⟩] w fun e w' => e = .returned (.int .i64 (Lib.indexByte s.data.toList c)) /\ w' = w := by
 have H := H_ fun W => indexByte_any c s W
 have hl : (⟨#[c]⟩ : ByteArray).toList = [c] := by rw [ByteArray.toList_eq]
 have hg : (⟨#[c]⟩ : ByteArray)[0]'(by show 0 < 1; decide) = c := rfl
 cases h : (([c] : List UInt8) == s.toList)
 ·generalize Lib.indexByte s.data.toList c = n at *
  go_enter Tryz.func191, Tryz.ntmps191
  go_wp2_with fail
  refine ((un H) _).mono ?_
  rintro e w1 ⟨rfl, rfl⟩
  go_wp2
  go_ret
  exact ⟨rfl, rfl⟩
 ·have e : Lib.indexByte s.data.toList c = 0 := by
   have : ([c] : List UInt8) = s.toList := by simpa using h
   rw [<- ByteArray.toList_eq, <- this]
   simp [Lib.indexByte]
  rw [e]
  clear e H
  go_enter Tryz.func191, Tryz.ntmps191
  go_wp2
  go_ret
  exact ⟨rfl, rfl⟩
theorem index_any (c : UInt8) (s : ByteArray) (w : World) :
  Calls Tryz.prog 197 #[.string s, .string ⟨#[c]⟩] w fun e w' => e = .returned (.int .i64 (Lib.indexByte s.data.toList c)) /\ w' = w := by
 have H := H_ fun W => index0_any c s W
 generalize Lib.indexByte s.data.toList c = n at *
 go_enter Tryz.func197, Tryz.ntmps197
 go_wp2_with fail
 refine ((un H) _).mono ?_
 rintro e w1 ⟨rfl, rfl⟩
 go_wp2
 go_ret
 exact ⟨rfl, rfl⟩
theorem take_drop_of {c : UInt8} {s : ByteArray} {k t : List UInt8} (h : cutB c s.data.toList = some (k, t)) : s.extract 0 k.length = ⟨k.toArray⟩ /\ s.extract (k.length + 1) s.size = ⟨t.toArray⟩ := by
 have e := (cutB_some _ _ _ _ h).1
 have hz : s.size = s.data.toList.length := (Array.length_toList).symm
 constructor
 ·refine ByteArray.ext (Array.ext' ?_)
  rw [ext_list, e]
  simp
 ·refine ByteArray.ext (Array.ext' ?_)
  rw [ext_list, hz, List.take_length, e]
  simp
theorem cut0_none (c : UInt8) (s : ByteArray) (w : World) (h : cutB c s.data.toList = none) :
  Calls Tryz.prog 173 #[.string s, .string ⟨#[c]⟩] w fun e w' => e = .returned (.tuple #[.string s, .string ⟨#[]⟩, .bool false]) /\ Below w.heap.size w w' := by
 have H := H_ fun W => index0_any c s W
 have hi := idx_cut c s.data.toList
 rw [h] at hi
 rw [show Lib.indexByte s.data.toList c = -1 from hi] at H
 clear hi h
 go_enter Tryz.func173, Tryz.ntmps173
 go_wp2_with fail
 refine ((un H) _).mono ?_
 rintro e w1 ⟨rfl, rfl⟩
 go_wp2
 go_ret3
 exact ⟨rfl, Below.refl _ _⟩
theorem cut0_some (c : UInt8) (s : ByteArray) (k t : List UInt8) (w : World) (hs : s.size <= 100000000) (h : cutB c s.data.toList = some (k, t)) :
  Calls Tryz.prog 173 #[.string s, .string ⟨#[c]⟩] w fun e w' => e = .returned (.tuple #[.string ⟨k.toArray⟩, .string ⟨t.toArray⟩, .bool true]) /\ Below w.heap.size w w' := by
 have H := H_ fun W => index0_any c s W
 have hi := idx_cut c s.data.toList
 rw [h] at hi
 obtain ⟨h1, h2⟩ : Lib.indexByte s.data.toList c = k.length /\ k.length + 1 + t.length = s.data.toList.length := hi
 rw [h1] at H
 rw [Array.length_toList] at h2
 obtain ⟨e1, e2⟩ := take_drop_of h
 rw [<- e1, <- e2]
 have h2' : k.length + 1 + t.length = s.size := h2
 clear h h1 e1 e2 h2
 obtain ⟨n, hn⟩ : ∃ n, k.length = n := ⟨_, rfl⟩
 rw [hn] at H h2' ⊢
 clear hn
 have hn1 : (n : Int) <= s.size := by omega
 have hn2 : (n : Int) + 1 <= s.size := by omega
 have hn3 : (n : Int) <= 100000000 := by omega
 have hc1 : ((⟨#[c]⟩ : ByteArray).size : Int) = 1 := rfl
 clear h2' hs
 have hmx : Tryz.prog.follows .mixedOrders = true := by kernel_rfl
 go_enter Tryz.func173, Tryz.ntmps173
 go_wp2_with fail
 refine ((un H) _).mono ?_
 rintro e w1 ⟨rfl, rfl⟩
 clear H
 go_wp2
 go_quiet (fail)
 go_wp2
 go_ret3
 exact ⟨rfl, U.below_drewN (Below.refl _ _) _⟩
theorem cut_none (c : UInt8) (s : ByteArray) (w : World) (h : cutB c s.data.toList = none) :
  Calls Tryz.prog 156 #[.string s, .string ⟨#[c]⟩] w fun e w' => e = .returned (.tuple #[.string s, .string ⟨#[]⟩, .bool false]) /\ Below w.heap.size w w' := by
 have H := H_ fun W => cut0_none c s W h
 clear h
 go_enter Tryz.func156, Tryz.ntmps156
 go_wp2_with fail
 refine ((un H) _).mono ?_
 rintro e w1 ⟨rfl, hb⟩
 have HB := H_ hb
 clear hb
 go_wp2
 go_ret3
 exact ⟨rfl, un HB⟩
theorem cut_some (c : UInt8) (s : ByteArray) (k t : List UInt8) (w : World) (hs : s.size <= 100000000) (h : cutB c s.data.toList = some (k, t)) :
  Calls Tryz.prog 156 #[.string s, .string ⟨#[c]⟩] w fun e w' => e = .returned (.tuple #[.string ⟨k.toArray⟩, .string ⟨t.toArray⟩, .bool true]) /\ Below w.heap.size w w' := by
 have H := H_ fun W => cut0_some c s k t W hs h
 generalize (⟨k.toArray⟩ : ByteArray) = kk at *
 generalize (⟨t.toArray⟩ : ByteArray) = tt at *
 clear h hs
 go_enter Tryz.func156, Tryz.ntmps156
 go_wp2_with fail
 refine ((un H) _).mono ?_
 rintro e w1 ⟨rfl, hb⟩
 have HB := H_ hb
 clear hb
 go_wp2
 go_ret3
 exact ⟨rfl, un HB⟩
theorem clone_any (s : ByteArray) (w : World) (hs : s.size <= 10000) : Calls Tryz.prog 115 #[.string s] w fun e w' => e = .returned (.string s) /\ Below w.heap.size w w' := by
 have H := clone0_any s w (by omega)
 go_enter Tryz.func115, Tryz.ntmps115
 go_wp2_with (go_at_call 146; refine H.mono ?_; rintro e w' ⟨rfl, hb⟩)
 go_ret
 exact ⟨rfl, hb⟩
end Go.Proofs.YtmenllnokgjdlaaGreatDoor.F
/-
 Package size's reader, step by step: has, takeFirst, checkNumber, by their contracts. Conditions: the package-level variables hold what the program's text lays.
-/
namespace Go.Proofs.YtmenllnokgjdlaaGreatDoor
open Go.RowKit
theorem below_drewN {B : Nat} {u w : World} (h : Below B u w) (n : Nat) : Below B u (w.drewN n) := ⟨h.os, h.tape, h.output, h.size, h.block⟩
theorem has_yes (s : ByteArray) (a : Int) (w : World) (h0 : 0 <= a) (h1 : a < s.size) :
  Calls Tryz.prog 205 #[.agg #[.string s], .int .i64 a] w fun e w' => e = .returned (.bool true) /\ w' = w.alloc (.cells #[.string s] 273) := by
 go_enter Tryz.func205, Tryz.ntmps205
 go_wp2
 go_ret
 exact ⟨by simp, rfl⟩
theorem has_no (s : ByteArray) (a : Int) (w : World) (h : ¬ (0 <= a /\ a < s.size)) :
  Calls Tryz.prog 205 #[.agg #[.string s], .int .i64 a] w fun e w' => e = .returned (.bool false) /\ w' = w.alloc (.cells #[.string s] 273) := by
 by_cases h0 : 0 <= a
 ·have h1 : ¬ a < s.size := fun h' => h ⟨h0, h'⟩
  clear h
  go_enter Tryz.func205, Tryz.ntmps205
  go_wp2
  go_ret
  exact ⟨by simp, rfl⟩
 ·clear h
  go_enter Tryz.func205, Tryz.ntmps205
  go_wp2
  go_ret
  exact ⟨rfl, rfl⟩
theorem checkNumber_ok (b : Nat) (s : ByteArray) (a c n : Int) (w : World) (h : Rd b s a c n w) (hn : 0 <= n) (h' : n <= 16777215) :
  Calls Tryz.prog 190 #[.pointer (some ⟨b, 0, none⟩)] w fun e w' => e = .returned .nilIface /\ w' = w := by
 obtain ⟨h0, h1, h2, h3, f2, f3⟩ := h
 go_enter Tryz.func190, Tryz.ntmps190
 go_wp2
 go_ret
 exact ⟨rfl, rfl⟩
theorem checkNumber_no (b : Nat) (s : ByteArray) (a c n : Int) (w : World) (h : Rd b s a c n w) (hn : 16777215 < n) (hn' : n < 4294967296) :
  Calls Tryz.prog 190 #[.pointer (some ⟨b, 0, none⟩)] w fun e w' => e = .returned (.iface 234 (.agg #[.int .i64 n])) /\ w' = w := by
 obtain ⟨h0, h1, h2, h3, f2, f3⟩ := h
 go_enter Tryz.func190, Tryz.ntmps190
 go_wp2
 go_ret
 exact ⟨rfl, rfl⟩
theorem takeFirst_short (b : Nat) (s : ByteArray) (a c n : Int) (aS aF : Addr) (w : World) (h : Rd b s a c n w) (g : Glob aS aF w) (ha : ¬ (0 <= a /\ a < s.size)) :
  Calls Tryz.prog 188 #[.pointer (some ⟨b, 0, none⟩)] w fun e w' => e = .returned (.iface 350 (.pointer (some aS))) /\ Below w.heap.size w w' := by
 obtain ⟨h0, h1, h2, h3, f2, f3⟩ := h
 have hg := (g.alloc (.cells #[.string s] 273)).sh
 have Ha : Hid (¬ (0 <= a /\ a < s.size)) := ha
 clear g ha
 go_enter Tryz.func188, Tryz.ntmps188
 go_wp2
 go_region_with (go_at_call 205; refine (has_no s a _ Ha.out).mono ?_; rintro e w' ⟨rfl, rfl⟩)
 all_goals
  go_wp2
  go_ret
  exact ⟨rfl, ((Below.refl _ _).alloc (Nat.le_refl _) _).drew⟩
theorem takeFirst_low (b : Nat) (s : ByteArray) (k : Nat) (c n : Int) (w : World) (h : Rd b s k c n w) (hk : k < s.size) (hl : s[k].toNat < 128) :
  Calls Tryz.prog 188 #[.pointer (some ⟨b, 0, none⟩)] w fun e w' => e = .returned .nilIface /\ Rd b s k c s[k].toNat w' /\ But b w w' := by
 have hR := h
 obtain ⟨h0, h1, h2, h3, f2, f3⟩ := h
 obtain ⟨q0, q1, q2, q3, e2, e3⟩ := hR.alloc (.cells #[.string s] 273)
 have hk' : (k : Int) < s.size := by omega
 go_enter Tryz.func188, Tryz.ntmps188
 go_wp2
 go_region_with (go_at_call 205; refine (has_yes s k _ (by omega) hk').mono ?_; rintro e w' ⟨rfl, rfl⟩)
 all_goals
  go_wp2
  go_quiet (fail)
  go_wp2
  go_ret
  exact ⟨rfl, ((hR.alloc _).drewN _).set3 _, (((But.refl _ _).alloc _).drewN _).setCell 3 _⟩
theorem takeFirst_form (b : Nat) (s : ByteArray) (k : Nat) (c n : Int) (aS aF : Addr) (w : World) (h : Rd b s k c n w) (g : Glob aS aF w) (hk : k < s.size) (hl : s[k].toNat = 128 \/ 132 < s[k].toNat) :
  Calls Tryz.prog 188 #[.pointer (some ⟨b, 0, none⟩)] w fun e w' => e = .returned (.iface 350 (.pointer (some aF))) /\ Below w.heap.size w w' := by
 have hR := h
 obtain ⟨h0, h1, h2, h3, f2, f3⟩ := h
 obtain ⟨q0, q1, q2, q3, e2, e3⟩ := hR.alloc (.cells #[.string s] 273)
 have hg := (g.alloc (.cells #[.string s] 273)).fo
 have hk' : (k : Int) < s.size := by omega
 have t0 : ¬ (s[k].toNat : Int) < 128 := by omega
 clear g
 rcases hl with hl | hl
 ·have t1 : ((s[k].toNat : Int) == 128) = true := by rw [hl]; rfl
  clear hl
  go_enter Tryz.func188, Tryz.ntmps188
  go_wp2
  go_region_with (go_at_call 205; refine (has_yes s k _ (by omega) hk').mono ?_; rintro e w' ⟨rfl, rfl⟩)
  all_goals
   go_wp2
   go_quiet (fail)
   go_wp2
   go_ret
   exact ⟨rfl, below_drewN ((Below.refl _ _).alloc (Nat.le_refl _) _) _⟩
 ·have t1 : ((s[k].toNat : Int) == 128) = false := beq_eq_false_iff_ne.2 (by omega)
  have t2 : 132 < (s[k].toNat : Int) := by omega
  clear hl
  go_enter Tryz.func188, Tryz.ntmps188
  go_wp2
  go_region_with (go_at_call 205; refine (has_yes s k _ (by omega) hk').mono ?_; rintro e w' ⟨rfl, rfl⟩)
  all_goals
   go_wp2
   go_quiet (fail)
   go_wp2
   go_ret
   exact ⟨rfl, below_drewN ((Below.refl _ _).alloc (Nat.le_refl _) _) _⟩
theorem takeFirst_long (b : Nat) (s : ByteArray) (k : Nat) (c n : Int) (w : World) (h : Rd b s k c n w) (hk : k < s.size) (hl : 128 < s[k].toNat) (hl' : s[k].toNat <= 132) :
  Calls Tryz.prog 188 #[.pointer (some ⟨b, 0, none⟩)] w fun e w' => e = .returned .nilIface /\ Rd b s k (s[k].toNat - 128) n w' /\ But b w w' := by
 have hR := h
 obtain ⟨h0, h1, h2, h3, f2, f3⟩ := h
 obtain ⟨q0, q1, q2, q3, e2, e3⟩ := hR.alloc (.cells #[.string s] 273)
 have hk' : (k : Int) < s.size := by omega
 have t0 : ¬ (s[k].toNat : Int) < 128 := by omega
 have t1 : ((s[k].toNat : Int) == 128) = false := beq_eq_false_iff_ne.2 (by omega)
 have t2 : ¬ 132 < (s[k].toNat : Int) := by omega
 have t3 : (s[k].toNat : Int) <= 132 := by omega
 clear hl hl'
 go_enter Tryz.func188, Tryz.ntmps188
 go_wp2
 go_region_with (go_at_call 205; refine (has_yes s k _ (by omega) hk').mono ?_; rintro e w' ⟨rfl, rfl⟩)
 all_goals
  go_wp2
  go_quiet (fail)
  go_wp2
  go_ret
  exact ⟨rfl, ((hR.alloc _).drewN _).set2 _, (((But.refl _ _).alloc _).drewN _).setCell 2 _⟩
end Go.Proofs.YtmenllnokgjdlaaGreatDoor
/-
 The iterator of package size's text: 'from' hands over the bytes from a place on, one by one. Conditions: none.
-/
namespace Go.Proofs.YtmenllnokgjdlaaGreatDoor
open Go.RowKit Go.Shelf
attribute [local go_sem] Oper.semAt_some
def Two (p q : Nat) (W W' : World) : Prop := W'.heap[p]? = W.heap[p]? /\ W'.heap[q]? = W.heap[q]?
theorem Two.trans {p q : Nat} {A B C : World} (h : Two p q A B) (k : Two p q B C) : Two p q A C := ⟨k.1.trans h.1, k.2.trans h.2⟩
theorem Two.book {p q : Nat} {w : World} (hp : p < w.heap.size) (hq : q < w.heap.size) (W : World) (l : Nat) (o o' : Obj) (hl : w.heap.size <= l) (_ : W.heap[l]? = some o) (_ : o.isCells = false) (_ : o.isWalk = false) : Two p q W (W.putObj l o') :=
 ⟨World.putObj_heap_other (by omega), World.putObj_heap_other (by omega)⟩
theorem getElem_drop (s : ByteArray) (k j : Nat) (h : k + j < s.size) : (s.data.toList.drop k).take (j + 1) = (s.data.toList.drop k).take j ++ [s[k + j]] := by
 have h' : j < (s.data.toList.drop k).length := by simp; have : s.size = s.data.size := rfl; omega
 rw [List.take_succ_eq_append_getElem h']
 simp
 rfl
theorem from1_stops (n : Nat) (hn : 1 <= n) (Ba Bt k : Nat) (s : ByteArray) (w : World) (hs : s.size <= maxLen) (hk : k <= s.size)
  (hBa : w.cell? ⟨Ba, 0, none⟩ = some (.int .i64 k)) (hBt : w.cell? ⟨Bt, 0, none⟩ = some (.string s)) :
  SeqStopsK Fence.wide n Tryz.prog 221 #[.pointer (some ⟨Ba, 0, none⟩), .pointer (some ⟨Bt, 0, none⟩)] (fun x : UInt8 => #[.int .u8 x.toNat]) (Two Ba Bt)
   (fun xs => xs = s.data.toList.drop k) (fun pre => pre <+: s.data.toList.drop k) (s.size - k) w := fun l J Jx W hW hJ hJx hY h0 => by
 unfold maxLen at hs
 have hba := (hW.cell (p := ⟨Ba, 0, none⟩) (lt_of_cell hBa)).trans hBa
 have hbt := (hW.cell (p := ⟨Bt, 0, none⟩) (lt_of_cell hBt)).trans hBt
 clear hBa hBt hW
 refine callsIn_of_wp Tryz.func221 rfl trivial ?_ rfl
 simp only [Tryz.ntmps221, List.size_toArray, List.length_cons, List.length_nil, Nat.reduceAdd, Nat.reduceSub, Array.replicate_succ, Array.replicate_zero, List.push_toArray, List.append_toArray, List.nil_append, List.cons_append]
 gi_wp2
 gi_loopw [4] (fun i wr => ∃ j : Nat, k + j <= s.size /\ i = .int .i64 ((k + j : Nat) : Int) /\ J ((s.data.toList.drop k).take j) wr /\ wr.cell? ⟨Ba, 0, none⟩ = some (.int .i64 k) /\ wr.cell? ⟨Bt, 0, none⟩ = some (.string s))
  (fun i _ => s.size - (intOf i).toNat)
 case atStart => exact ⟨0, hk, rfl, h0, hba, hbt⟩
 case round =>
  obtain ⟨j, hj, rfl, hJs, ha, ht⟩ := hrel
  obtain ⟨i, hi⟩ : ∃ i, i = k + j := ⟨_, rfl⟩
  have Hi : Hid (i = k + j) := hi
  rw [<- hi] at hj ⊢
  clear hi
  have hal := lt_of_cell ha
  have htl := lt_of_cell ht
  have ha1 : (wr.alloc (.cells #[.string s] 273)).cell? ⟨Ba, 0, none⟩ = some (.int .i64 k) := by rw [World.cell?_alloc_lt _ _ _ hal]; exact ha
  have ht1 : (wr.alloc (.cells #[.string s] 273)).cell? ⟨Bt, 0, none⟩ = some (.string s) := by rw [World.cell?_alloc_lt _ _ _ htl]; exact ht
  by_cases hlt : i < s.size
  ·have hJ1 : J ((s.data.toList.drop k).take j) (wr.alloc (.cells #[.string s] 273)) := hJ _ _ _ none hJs (World.grownBy_alloc _ _ none) (by intro r e; cases e)
   obtain ⟨fn, tmps, assign, body, hy, hR⟩ := hY _ s[i] _ hJ1 (by simp; have := Hi.out; omega)
   have hlt' : (i : Int) < s.size := by omega
   gi_wp2_with (refine ⟨trivial, ?_⟩; gi_at_call 205; refine (callsIn_wide.2 (has_yes s i _ (by omega) hlt')).mono ?_; rintro e w' ⟨rfl, rfl⟩)
   refine hR.mono ?_
   rintro e W3 (⟨rfl, hJ3, hk3⟩ | ⟨rfl, hJx3⟩)
   ·gi_wp2
    go_roundw
    case rel =>
     have e := Hi.out
     subst e
     rw [<- getElem_drop s k j hlt] at hJ3
     exact ⟨j + 1, by omega, by simp; omega, hJ3, (World.cell?_of_block (w := wr.alloc (.cells #[.string s] 273)) (a := ⟨Ba, 0, none⟩) hk3.1).trans ha1, (World.cell?_of_block (w := wr.alloc (.cells #[.string s] 273)) (a := ⟨Bt, 0, none⟩) hk3.2).trans ht1⟩
    case measure => simp [intOf]; omega
   ·gi_wp2
    refine bodyPost_ret (results_none rfl _ _ _) rfl ?_
    have e := Hi.out
    subst e
    rw [<- getElem_drop s k j hlt] at hJx3
    exact ⟨⟨_, rfl⟩, .inr ⟨_, List.take_prefix _ _, hJx3⟩⟩
  ·have hge : ¬ (0 <= (i : Int) /\ (i : Int) < s.size) := by omega
   have Hge : Hid (¬ (0 <= (i : Int) /\ (i : Int) < s.size)) := hge
   clear hge
   gi_wp2_with (refine ⟨trivial, ?_⟩; gi_at_call 205; refine (callsIn_wide.2 (has_no s i _ Hge.out)).mono ?_; rintro e w' ⟨rfl, rfl⟩)
   go_end0
   have e : (s.data.toList.drop k).take j = s.data.toList.drop k := List.take_of_length_le (by simp; have := Hi.out; have : s.size = s.data.size := rfl; omega)
   rw [e] at hJs
   exact ⟨⟨_, rfl⟩, .inl ⟨_, rfl, hJ _ _ _ none hJs (World.grownBy_alloc _ _ none) (by intro r e; cases e)⟩⟩
end Go.Proofs.YtmenllnokgjdlaaGreatDoor
/-
 The model's words for u32's shift and or, at bytes. Plain arithmetic. Conditions: none.
-/
namespace Go.Proofs.YtmenllnokgjdlaaGreatDoor
open Go
theorem wrap_u32 (n : Nat) (h : n < 4294967296) : IntKind.u32.wrap (n : Int) = n := by
 simp [IntKind.wrap, IntKind.signed, IntKind.bits]
 omega
theorem wrap_mul (n : Nat) (h : 256 * n < 4294967296) : IntKind.u32.wrap ((n : Int) * 256) = (256 * n : Nat) := by
 rw [show (n : Int) * 256 = ((256 * n : Nat) : Int) by omega]
 exact wrap_u32 _ h
theorem or_byte (n : Nat) (x : UInt8) (h : 256 * n < 4294967296) : bits .or .u32 ((256 * n : Nat) : Int) (x.toNat : Int) = (256 * n + x.toNat : Nat) := by
 have hx : x.toNat < 2 ^ 8 := x.toNat_lt
 have e : (256 * n) ||| x.toNat = 256 * n + x.toNat := by
  rw [show 256 * n = n <<< 8 by rw [Nat.shiftLeft_eq]; omega, Nat.shiftLeft_add_eq_or_of_lt hx]
 rw [u32_or_nat _ _ h (by omega), e]
end Go.Proofs.YtmenllnokgjdlaaGreatDoor
/-
 What size.takeRest does. Conditions: the package-level variables hold what the program's text lays.
-/
namespace Go.Proofs.YtmenllnokgjdlaaGreatDoor
open Go.RowKit Go.Shelf
attribute [local go_sem] Oper.semAt_some
theorem from_any (s : ByteArray) (a : Int) (w : World) :
  Calls Tryz.prog 206 #[.agg #[.string s], .int .i64 a] w fun e w' => e = .returned (.func (.func 221) #[] #[.pointer (some ⟨w.heap.size + 1, 0, none⟩), .pointer (some ⟨w.heap.size, 0, none⟩)]) /\
   w' = (w.alloc (.cells #[.string s] 273)).alloc (.cells #[.int .i64 a] 3) := by
 go_enter Tryz.func206, Tryz.ntmps206
 go_wp2
 go_ret
 exact ⟨rfl, rfl⟩
theorem cellK3 (w : World) (v : Value) (t : TypeId) (o2 o3 o4 : Obj) : (((((w.alloc (.cells #[v] t)).alloc o2).alloc o3).alloc o4).drew).cell? ⟨w.heap.size, 0, none⟩ = some v := by
 show ((((w.alloc (.cells #[v] t)).alloc o2).alloc o3).alloc o4).cell? _ = _
 rw [World.cell?_alloc_lt _ _ _ (by simp <;> omega), World.cell?_alloc_lt _ _ _ (by simp <;> omega), World.cell?_alloc_lt _ _ _ (by simp), World.cell?_alloc_at _ _ _ _ rfl]
 rfl
theorem cellK2 (w : World) (v : Value) (t : TypeId) (o1 o3 o4 : Obj) : (((((w.alloc o1).alloc (.cells #[v] t)).alloc o3).alloc o4).drew).cell? ⟨w.heap.size + 1, 0, none⟩ = some v := by
 show ((((w.alloc o1).alloc (.cells #[v] t)).alloc o3).alloc o4).cell? _ = _
 rw [World.cell?_alloc_lt _ _ _ (by simp <;> omega), World.cell?_alloc_lt _ _ _ (by simp), World.cell?_alloc_at _ _ _ _ (by simp)]
 rfl
theorem frozK2 (w : World) (v : Value) (t : TypeId) (o1 o3 o4 : Obj) : (((((w.alloc o1).alloc (.cells #[v] t)).alloc o3).alloc o4).drew).frozen? ⟨w.heap.size + 1, 0, none⟩ = false := by
 show ((((w.alloc o1).alloc (.cells #[v] t)).alloc o3).alloc o4).frozen? _ = _
 rw [World.frozen?_alloc_old _ _ _ (by simp <;> omega), World.frozen?_alloc_old _ _ _ (by simp)]
 simp
theorem cellK1 (w : World) (v : Value) (t : TypeId) (o1 o2 o4 : Obj) : (((((w.alloc o1).alloc o2).alloc (.cells #[v] t)).alloc o4).drew).cell? ⟨w.heap.size + 1 + 1, 0, none⟩ = some v := by
 show ((((w.alloc o1).alloc o2).alloc (.cells #[v] t)).alloc o4).cell? _ = _
 rw [World.cell?_alloc_lt _ _ _ (by simp), World.cell?_alloc_at _ _ _ _ (by simp)]
 rfl
theorem cellK0 (w : World) (v : Value) (t : TypeId) (o1 o2 o3 : Obj) : (((((w.alloc o1).alloc o2).alloc o3).alloc (.cells #[v] t)).drew).cell? ⟨w.heap.size + 1 + 1 + 1, 0, none⟩ = some v := by
 show ((((w.alloc o1).alloc o2).alloc o3).alloc (.cells #[v] t)).cell? _ = _
 rw [World.cell?_alloc_at _ _ _ _ (by simp)]
 rfl
structure St (b rb lb : Nat) (s : ByteArray) (k c : Nat) (n l : Int) (B : Nat) (w W : World) : Prop where
 rd : Rd b s k c n W
 r : W.cell? ⟨rb, 0, none⟩ = some (.pointer (some ⟨b, 0, none⟩))
 l : W.cell? ⟨lb, 0, none⟩ = some (.int .i64 l)
 lf : W.frozen? ⟨lb, 0, none⟩ = false
 but : But b w W
 size : B <= W.heap.size
theorem St.grown {b rb lb : Nat} {s : ByteArray} {k c : Nat} {n l : Int} {B : Nat} {w W W' : World} {row : Option Nat} (h : St b rb lb s k c n l B w W) (hb : b < B) (hrb : rb < B) (hlb : lb < B) (hw : w.heap.size <= B)
  (hg : W.grownBy W' row) (hr : ∀ r, row = some r -> B <= r) : St b rb lb s k c n l B w W' := by
 have e : ∀ x, x < B -> W'.heap[x]? = W.heap[x]? := fun x hx => hg.block x (Nat.lt_of_lt_of_le hx h.size) (fun e => by have := hr x e.symm; omega)
 exact ⟨h.rd.of (e _ hb), (World.cell?_of_block (w := W) (e _ hrb)).trans h.r, (World.cell?_of_block (w := W) (e _ hlb)).trans h.l, (World.frozen?_of_block (w := W) (e _ hlb)).trans h.lf,
  ⟨hg.os.trans h.but.os, hg.tape.trans h.but.tape, hg.output.trans h.but.output, Nat.le_trans h.but.size hg.size, fun x hx hn => (e x (by omega)).trans (h.but.block x hx hn)⟩, Nat.le_trans h.size hg.size⟩
theorem St.setL {b rb lb : Nat} {s : ByteArray} {k c : Nat} {n l : Int} {B : Nat} {w W : World} (h : St b rb lb s k c n l B w W) (hw : w.heap.size <= lb) (hb : b ≠ lb) (hrb : rb ≠ lb) (l' : Int) :
  St b rb lb s k c n l' B w (W.setCell ⟨lb, 0, none⟩ (.int .i64 l')) :=
 ⟨h.rd.of (Below.heap_setCell _ _ _ _ hb), (World.cell?_of_block (w := W) (a := ⟨rb, 0, none⟩) (Below.heap_setCell _ _ _ _ hrb)).trans h.r, World.cell?_setCell_same' _ _ _ (by rw [h.l]; rfl), by rw [World.frozen?_setCell]; exact h.lf,
  ⟨h.but.os, h.but.tape, h.but.output, by simpa [World.setCell] using h.but.size, fun x hx hn => (Below.heap_setCell W ⟨lb, 0, none⟩ _ x (by simp; omega)).trans (h.but.block x hx hn)⟩, by simpa [World.setCell] using h.size⟩
def RestPost (b : Nat) (s : ByteArray) (k c m : Nat) (aS : Addr) (w : World) (e : Ending) (w' : World) : Prop := But b w w' /\
   (if c <= s.size - (k + 1) then e = .returned .nilIface /\ Rd b s k c (Sz.numFrom m ((s.data.toList.drop (k + 1)).take c)) w' else e = .returned (.iface 350 (.pointer (some aS))) /\ ∃ n, Rd b s k c n w')
theorem takeRest_any (b : Nat) (s : ByteArray) (k c : Nat) (m : Nat) (aS aF : Addr) (w : World) (h : Rd b s k c m w) (g : Glob aS aF w) (hs : s.size <= maxLen) (hk : k < s.size) (hc : c <= 4) (hm : (m + 1) * 256 ^ c <= 4294967296)
  (hgb' : GB aS aF b) :
  Calls Tryz.prog 189 #[.pointer (some ⟨b, 0, none⟩)] w (RestPost b s k c m aS w) := by
 unfold maxLen at hs
 have hR := h
 have hR1 := fun o => h.alloc o
 have hR2 := fun o o' => (h.alloc o).alloc o'
 obtain ⟨h0, h1, h2, h3, f2, f3⟩ := h
 have q2 := fun o => (hR1 o).h2
 have r0 := fun o o' => (hR2 o o').h0
 have r1 := fun o o' => (hR2 o o').h1
 have hw1 : IntKind.i64.wrap ((k : Int) + 1) = (k : Int) + 1 := by rw [IntKind.wrap_i64]; omega
 refine (callsIn_wide (n := 3)).1 ?_
 refine callsIn_of_wp_marks Tryz.func189 rfl trivial ?_ rfl
 simp only [Tryz.ntmps189, List.size_toArray, List.length_cons, List.length_nil, Nat.reduceAdd, Nat.reduceSub, Array.replicate_succ, Array.replicate_zero, List.push_toArray, List.append_toArray, List.nil_append, List.cons_append]
 refine wpIn_wide.2 ?_
 go_wp2
 refine wp_scope_straight ?_
 go_wp2
 refine wp_label ?_
 go_wp2
 refine wp_mono (Q := fun e a1 w1 => match e with | .normal => a1 = { tmps := #[.pointer (some ⟨b, 0, none⟩), .pointer (some ⟨w.heap.size, 0, none⟩), .nilIface, .pointer (some ⟨w.heap.size + 1, 0, none⟩), undef, .pointer (some ⟨b, 0, none⟩), .pointer (some ⟨b, 0, none⟩), .pointer (some ⟨b, 2, none⟩), .int .i64 c,
   .pointer (some ⟨b, 0, none⟩), .pointer (some ⟨b, 0, none⟩), .pointer (some ⟨b, 0, none⟩), .agg #[.string s], .pointer (some ⟨b, 0, none⟩), .pointer (some ⟨b, 0, none⟩), .pointer (some ⟨b, 1, none⟩), .int .i64 k, .int .i64 ((k : Int) + 1),
   .func (.func 221) #[] #[.pointer (some ⟨w.heap.size + 1 + 1 + 1, 0, none⟩), .pointer (some ⟨w.heap.size + 1 + 1, 0, none⟩)], undef, undef, undef, undef, undef, undef, undef, undef, undef, undef, undef, undef, undef, undef, undef, undef, undef, undef, undef], defers := [] }
   /\ w1 = ((((w.alloc (.cells #[.pointer (some ⟨b, 0, none⟩)] 292)).alloc (.cells #[.int .i64 c] 3)).alloc (.cells #[.string s] 273)).alloc (.cells #[.int .i64 ((k : Int) + 1)] 3)).drew | _ => False) ?_ ?_
 ·go_region_with (go_at_call 206; refine (from_any s _ _).mono ?_; rintro e w' ⟨rfl, rfl⟩)
  all_goals exact ⟨rfl, rfl⟩
 intro e a1 w1 hq
 cases e with
 | normal =>
  obtain ⟨rfl, rfl⟩ := hq
  go_wp2
  clear q2 r0 r1 hw1 hR1 hR2 h0 h1 h2 h3 f2 f3
  have hbl := hR.lt
  obtain ⟨W0, hW0⟩ : ∃ W0, W0 = ((((w.alloc (.cells #[.pointer (some ⟨b, 0, none⟩)] 292)).alloc (.cells #[.int .i64 c] 3)).alloc (.cells #[.string s] 273)).alloc (.cells #[.int .i64 ((k : Int) + 1)] 3)).drew := ⟨_, rfl⟩
  have hz : W0.heap.size = w.heap.size + 4 := by rw [hW0]; simp
  have hSt : St b w.heap.size (w.heap.size + 1) s k c m c (w.heap.size + 4) w W0 := by
   rw [hW0]
   exact ⟨((((hR.alloc _).alloc _).alloc _).alloc _).drew, cellK3 _ _ _ _ _ _, cellK2 _ _ _ _ _ _, frozK2 _ _ _ _ _ _, (((((But.refl _ _).alloc _).alloc _).alloc _).alloc _).drew, by simp⟩
  have hBa : W0.cell? ⟨w.heap.size + 1 + 1 + 1, 0, none⟩ = some (.int .i64 ((k + 1 : Nat) : Int)) := by rw [hW0]; exact cellK0 _ _ _ _ _ _
  have hBt : W0.cell? ⟨w.heap.size + 1 + 1, 0, none⟩ = some (.string s) := by rw [hW0]; exact cellK1 _ _ _ _ _ _
  rw [<- hW0]
  clear hW0
  refine (wpIn_wide (n := 3)).1 ?_
  refine wpIn_rangeFunc_ownF rfl (by omega) (gf := 221) (lb := #[.pointer (some ⟨w.heap.size + 1 + 1 + 1, 0, none⟩), .pointer (some ⟨w.heap.size + 1 + 1, 0, none⟩)]) rfl trivial (enters_of Tryz.func221 (by kernel_rfl) rfl)
   (from1_stops (3 - 1) (by omega) (w.heap.size + 1 + 1 + 1) (w.heap.size + 1 + 1) (k + 1) s W0 (by unfold maxLen; exact hs) (by omega) hBa hBt) Two.trans (Two.book (by omega) (by omega)) (Below.refl _ _) (fun _ => rfl)
   (fun pre W => pre.length <= c /\ St b w.heap.size (w.heap.size + 1) s k c (Sz.numFrom m pre) ((c : Int) - pre.length) (w.heap.size + 4) w W)
   (fun cd pre' W => cd = .exit 0 /\ ∃ pre x, pre' = pre ++ [x] /\ pre.length = c /\ St b w.heap.size (w.heap.size + 1) s k c (Sz.numFrom m pre) 0 (w.heap.size + 4) w W)
   (fun pre A B row hs hg hr => ⟨hs.1, hs.2.grown (by omega) (by omega) (by omega) (by omega) hg (fun r e => by have := (hr r e).1; omega)⟩)
   (fun cd pre A B row hs hg hr => by
    obtain ⟨e1, pre, x, e2, e3, hst⟩ := hs
    exact ⟨e1, pre, x, e2, e3, hst.grown (by omega) (by omega) (by omega) (by omega) hg (fun r e => by have := (hr r e).1; omega)⟩)
   ⟨Nat.zero_le _, by simpa [Sz.numFrom] using hSt⟩
   (fun x => { tmps := #[.pointer (some ⟨b, 0, none⟩), .pointer (some ⟨w.heap.size, 0, none⟩), .nilIface, .pointer (some ⟨w.heap.size + 1, 0, none⟩), .int .u8 x.toNat, .pointer (some ⟨b, 0, none⟩), .pointer (some ⟨b, 0, none⟩), .pointer (some ⟨b, 2, none⟩), .int .i64 c,
   .pointer (some ⟨b, 0, none⟩), .pointer (some ⟨b, 0, none⟩), .pointer (some ⟨b, 0, none⟩), .agg #[.string s], .pointer (some ⟨b, 0, none⟩), .pointer (some ⟨b, 0, none⟩), .pointer (some ⟨b, 1, none⟩), .int .i64 k, .int .i64 ((k : Int) + 1),
   .func (.func 221) #[] #[.pointer (some ⟨w.heap.size + 1 + 1 + 1, 0, none⟩), .pointer (some ⟨w.heap.size + 1 + 1, 0, none⟩)], .int .u8 x.toNat, undef, undef, undef, undef, undef, undef, undef, undef, undef, undef, undef, undef, undef, undef, undef, undef, undef, undef], defers := [] }) ?assign ?body ?done ?stop
  case assign =>
   intro l x W K hK
   gi_wp2
   exact hK
  case body =>
   rintro l pre x W ⟨hpl, hst⟩ _
   go_light
   have hmx : Tryz.prog.follows .mixedOrders = true := by kernel_rfl
   obtain ⟨⟨h0, h1, h2, h3, f2, f3⟩, hr, hl, hlf, hbut, hsz⟩ := id hst
   by_cases hc0 : pre.length = c
   ·have t0 : (((c : Int) - pre.length) == 0) = true := beq_iff_eq.2 (by omega)
    gi_wp2
    exact ⟨KeepsOthers.refl _, rfl, pre, x, rfl, hc0, by rw [show (c : Int) - pre.length = 0 by omega] at hst; exact hst⟩
   ·have t0 : (((c : Int) - pre.length) == 0) = false := beq_eq_false_iff_ne.2 (by omega)
    have HN : Hid (256 * Sz.numFrom m pre < 4294967296) := by
     have := Sz.numFrom_step m pre c (by omega) hm
     show _ < _
     omega
    have Hx : Hid (x.toNat < 4294967296) := by have := x.toNat_lt; show _ < _; omega
    gi_wp2
    refine wpIn_mono (Q := fun e a1 w1 => match e with | .normal => a1 = { tmps := #[.pointer (some ⟨b, 0, none⟩), .pointer (some ⟨w.heap.size, 0, none⟩), .nilIface, .pointer (some ⟨w.heap.size + 1, 0, none⟩), .int .u8 x.toNat, .pointer (some ⟨b, 0, none⟩), .pointer (some ⟨b, 0, none⟩), .pointer (some ⟨b, 2, none⟩), .int .i64 c,
     .pointer (some ⟨b, 0, none⟩), .pointer (some ⟨b, 0, none⟩), .pointer (some ⟨b, 0, none⟩), .agg #[.string s], .pointer (some ⟨b, 0, none⟩), .pointer (some ⟨b, 0, none⟩), .pointer (some ⟨b, 1, none⟩), .int .i64 k, .int .i64 ((k : Int) + 1),
     .func (.func 221) #[] #[.pointer (some ⟨w.heap.size + 1 + 1 + 1, 0, none⟩), .pointer (some ⟨w.heap.size + 1 + 1, 0, none⟩)], .int .u8 x.toNat, .int .i64 ((c : Int) - pre.length), .bool false, .pointer (some ⟨b, 0, none⟩), .pointer (some ⟨b, 0, none⟩), .pointer (some ⟨b, 0, none⟩), .pointer (some ⟨b, 3, none⟩), .int .u32 (Sz.numFrom m pre), .int .u32 (256 * Sz.numFrom m pre : Nat), .int .u8 x.toNat, .int .u32 x.toNat, .int .u32 (Sz.numFrom m (pre ++ [x])), .pointer (some ⟨b, 0, none⟩), .pointer (some ⟨b, 3, none⟩), undef, undef, undef, undef, undef], defers := [] }
     /\ w1 = (W.setCell ⟨b, 3, none⟩ (.int .u32 (Sz.numFrom m (pre ++ [x])))).drew | _ => False) ?_ ?_
    ·refine regionIn_tail 11 hmx (by kernel_rfl) (by kernel_rfl) (by rintro ⟨a, w, h⟩; exact h) ?_
     simp only [List.take_succ_cons, List.take_zero, List.drop_succ_cons, List.drop_zero]
     repeat still_step
     refine wpStill_nil ?_
     rw [wrap_mul _ HN.out, wrap_u32 _ Hx.out, or_byte _ _ HN.out, <- Sz.numFrom_snoc]
     go_wp2
    intro e a1 w1 hq
    cases e with
    | normal =>
     obtain ⟨rfl, rfl⟩ := hq
     have hst2 : St b w.heap.size (w.heap.size + 1) s k c (Sz.numFrom m (pre ++ [x])) ((c : Int) - pre.length) (w.heap.size + 4) w (W.setCell ⟨b, 3, none⟩ (.int .u32 (Sz.numFrom m (pre ++ [x])))).drew :=
      ⟨(hst.rd.set3 _).drew, by show (W.setCell _ _).cell? _ = _; rw [World.cell?_setCell_far _ _ _ _ (by simp; omega)]; exact hr, by show (W.setCell _ _).cell? _ = _; rw [World.cell?_setCell_far _ _ _ _ (by simp; omega)]; exact hl,
       by show (W.setCell _ _).frozen? _ = _; rw [World.frozen?_setCell]; exact hlf, (hbut.setCell 3 _).drew, by simpa [World.setCell] using hsz⟩
     obtain ⟨W2, hW2⟩ : ∃ W2, W2 = (W.setCell ⟨b, 3, none⟩ (.int .u32 (Sz.numFrom m (pre ++ [x])))).drew := ⟨_, rfl⟩
     rw [<- hW2] at hst2 ⊢
     have HW2 : Hid (W2 = (W.setCell ⟨b, 3, none⟩ (.int .u32 (Sz.numFrom m (pre ++ [x])))).drew) := hW2
     clear hW2 hr hl hlf hbut hsz h0 h1 h2 h3 f2 f3 t0
     obtain ⟨⟨h0, h1, h2, h3, f2, f3⟩, hr, hl, hlf, hbut, hsz⟩ := id hst2
     have hsub : (1 : Int) <= (c : Int) - pre.length := by omega
     gi_wp2
     refine ⟨?_, ?_, ?_, ?_⟩
     ·rw [HW2.out]; exact ((KeepsOthers.setCell _ _ _).trans (KeepsOthers.drew _)).trans (KeepsOthers.setCell _ _ _)
     ·rw [HW2.out]
      exact ⟨(Below.heap_setCell _ _ _ _ (show w.heap.size + 1 + 1 + 1 ≠ w.heap.size + 1 by omega)).trans (Below.heap_setCell W _ _ _ (show w.heap.size + 1 + 1 + 1 ≠ b by omega)), (Below.heap_setCell _ _ _ _ (show w.heap.size + 1 + 1 ≠ w.heap.size + 1 by omega)).trans (Below.heap_setCell W _ _ _ (show w.heap.size + 1 + 1 ≠ b by omega))⟩
     ·simp; omega
     ·have := hst2.setL (by omega) (by omega) (by omega) ((c : Int) - pre.length - 1)
      rw [show (c : Int) - ((pre ++ [x]).length : Nat) = (c : Int) - pre.length - 1 from by rw [List.length_append]; simp; omega]
      exact this
    | _ => exact hq.elim
  case done =>
   rintro D ys W hD rfl ⟨hpl, hst⟩ hK
   have hlen : (s.data.toList.drop (k + 1)).length = s.size - (k + 1) := by simp
   have hsh := (g.but hst.but hgb').sh
   have hst' := hst.grown (by omega) (by omega) (by omega) (by omega) (grownBy_putObj' W D (.deferred none)) (fun r e => by cases e; omega)
   have hl := hst.l
   by_cases hcl : c <= s.size - (k + 1)
   ·have t0 : ¬ 0 < (c : Int) - ((s.data.toList.drop (k + 1)).length : Nat) := by omega
    have Ht : Hid ((s.data.toList.drop (k + 1)).take c = s.data.toList.drop (k + 1)) := List.take_of_length_le (by omega)
    go_wp2
    refine ⟨by simp, .inl ⟨_, _, rfl, run_takeDeferred hK, ?_⟩⟩
    refine ⟨_, results_tmp rfl _ _ _, hst'.but, ?_⟩
    rw [if_pos hcl, Ht.out]
    exact ⟨rfl, hst'.rd⟩
   ·have t0 : 0 < (c : Int) - ((s.data.toList.drop (k + 1)).length : Nat) := by omega
    go_wp2
    refine ⟨by simp, .inl ⟨_, _, rfl, run_takeDeferred hK, ?_⟩⟩
    refine ⟨_, results_tmp rfl _ _ _, hst'.but, ?_⟩
    rw [if_neg hcl]
    exact ⟨rfl, _, hst'.rd⟩
  case stop =>
   rintro D c' pre' W hD hpre ⟨rfl, pre, x, rfl, hpl, hst⟩ hK
   refine wpIn_exit ?_
   have hst' := hst.grown (by omega) (by omega) (by omega) (by omega) (grownBy_putObj' W D (.deferred none)) (fun r e => by cases e; omega)
   have hl := hst.l
   have hlen : (s.data.toList.drop (k + 1)).length = s.size - (k + 1) := by simp
   have hcl : c <= s.size - (k + 1) := by have := hpre.length_le; simp at this; omega
   have Ht : Hid ((s.data.toList.drop (k + 1)).take c = pre) := by
    obtain ⟨t, ht⟩ := hpre
    show _ = _
    rw [<- ht, List.append_assoc, List.take_append_of_le_length (by omega), List.take_of_length_le (by omega)]
   clear hpre
   go_wp2
   refine ⟨by simp, .inl ⟨_, _, rfl, run_takeDeferred hK, ?_⟩⟩
   refine ⟨_, results_tmp rfl _ _ _, hst'.but, ?_⟩
   rw [if_pos hcl, Ht.out]
   exact ⟨rfl, hst'.rd⟩
 | _ => exact hq.elim
end Go.Proofs.YtmenllnokgjdlaaGreatDoor
/-
 What (*size.reader).follow answers over the three rules that Decode hands it. Conditions: the package-level variables hold what the program's text lays.
-/
namespace Go.Proofs.YtmenllnokgjdlaaGreatDoor
open Go.RowKit
structure Rules (g : Nat) (w : World) : Prop where
 r0 : w.cell? ⟨g, 0, none⟩ = some (.func (.func 188) #[] #[])
 r1 : w.cell? ⟨g, 1, none⟩ = some (.func (.func 189) #[] #[])
 r2 : w.cell? ⟨g, 2, none⟩ = some (.func (.func 190) #[] #[])
theorem Rules.of {g : Nat} {w w' : World} (h : Rules g w) (e : w'.heap[g]? = w.heap[g]?) : Rules g w' :=
 ⟨(World.cell?_of_block (w := w) e).trans h.r0, (World.cell?_of_block (w := w) e).trans h.r1, (World.cell?_of_block (w := w) e).trans h.r2⟩
theorem Rules.but {g b : Nat} {w w' : World} (h : Rules g w) (k : But b w w') (hn : g ≠ b) : Rules g w' := h.of (k.block _ (lt_of_cell h.r0) hn)
theorem follow_first (b g : Nat) (s : ByteArray) (a c n : Int) (v : Value) (T : TypeId) (w : World) (hr : Rules g w) (h : Rd b s a c n w)
  (H : Calls Tryz.prog 188 #[.pointer (some ⟨b, 0, none⟩)] w fun e w' => e = .returned (.iface T v) /\ Below w.heap.size w w') :
  Calls Tryz.prog 187 #[.pointer (some ⟨b, 0, none⟩), .slice (some ⟨g, 0, none⟩) 3 3] w fun e w' => e = .returned (.iface 296 (.agg #[.int .i64 a, .iface T v])) /\ But b w w' := by
 have H' := H.mono (R' := fun e w' => e = .returned (.iface T v) /\ w'.cell? ⟨b, 1, none⟩ = some (.int .i64 a) /\ But b w w')
  (fun e w' ⟨he, hb⟩ => ⟨he, (h.below hb h.lt).h1, But.of_below hb⟩)
 have hr0 := hr.r0
 clear H hr h
 go_enter Tryz.func187, Tryz.ntmps187
 go_wp2
 refine wp_loop_rounds 1 ?_
 rw [rounds_succ]
 go_wp2_with (go_at_call 188; refine H'.mono ?_; rintro e w' ⟨rfl, h1, hb⟩)
 go_ret
 exact ⟨rfl, hb⟩
theorem follow_rest (b g : Nat) (s : ByteArray) (k c m : Nat) (aS aF : Addr) (w : World) (hr : Rules g w) (hgb : g ≠ b) (hg : Glob aS aF w) (hs : s.size <= maxLen) (hk : k < s.size) (hc : c <= 4) (hm : (m + 1) * 256 ^ c <= 4294967296)
  (hgb' : GB aS aF b) (hcl : ¬ c <= s.size - (k + 1))
  (H : Calls Tryz.prog 188 #[.pointer (some ⟨b, 0, none⟩)] w fun e w' => e = .returned .nilIface /\ Rd b s k c m w' /\ But b w w') :
  Calls Tryz.prog 187 #[.pointer (some ⟨b, 0, none⟩), .slice (some ⟨g, 0, none⟩) 3 3] w fun e w' => e = .returned (.iface 296 (.agg #[.int .i64 k, .iface 350 (.pointer (some aS))])) /\ But b w w' := by
 have H' := H.mono (R' := fun e w' => e = .returned .nilIface /\ Hid (Rd b s k c m w') /\ But b w w' /\ w'.cell? ⟨g, 1, none⟩ = some (.func (.func 189) #[] #[]))
  (fun e w' ⟨he, hd, hb⟩ => ⟨he, hd, hb, (hr.but hb hgb).r1⟩)
 have R : ∀ w1, Rd b s k c m w1 -> But b w w1 -> Calls Tryz.prog 189 #[.pointer (some ⟨b, 0, none⟩)] w1 fun e w' => e = .returned (.iface 350 (.pointer (some aS))) /\ w'.cell? ⟨b, 1, none⟩ = some (.int .i64 k) /\ But b w w' :=
  fun w1 hd hb => (takeRest_any b s k c m aS aF w1 hd (hg.but hb hgb') hs hk hc hm hgb').mono (fun e w' hp => by
   obtain ⟨hb', hp⟩ := hp
   rw [if_neg hcl] at hp
   obtain ⟨he, n, hd'⟩ := hp
   exact ⟨he, hd'.h1, hb.trans hb'⟩)
 have HR := R
 have hr0 := hr.r0
 clear H hr hg hcl R
 have HR' : Hid (∀ w1, Rd b s k c m w1 -> But b w w1 -> Calls Tryz.prog 189 #[.pointer (some ⟨b, 0, none⟩)] w1 fun e w' => e = .returned (.iface 350 (.pointer (some aS))) /\ w'.cell? ⟨b, 1, none⟩ = some (.int .i64 k) /\ But b w w') := HR
 clear HR
 go_enter Tryz.func187, Tryz.ntmps187
 go_wp2
 refine wp_loop_rounds 2 ?_
 rw [rounds_succ]
 go_wp2_with (go_at_call 188; refine H'.mono ?_; rintro e w1 ⟨rfl, hd1, hb1, hr1⟩)
 rw [rounds_succ]
 go_wp2_with (go_at_call 189; refine (HR'.out _ hd1.out hb1).mono ?_; rintro e w2 ⟨rfl, h1, hb⟩)
 go_ret
 exact ⟨rfl, hb⟩
theorem follow_large (b g : Nat) (s : ByteArray) (k c m : Nat) (aS aF : Addr) (w : World) (hr : Rules g w) (hgb : g ≠ b) (hg : Glob aS aF w) (hs : s.size <= maxLen) (hk : k < s.size) (hc : c <= 4) (hm : (m + 1) * 256 ^ c <= 4294967296)
  (hgb' : GB aS aF b) (hcl : c <= s.size - (k + 1)) (N : Nat) (hN : N = Sz.numFrom m ((s.data.toList.drop (k + 1)).take c)) (hN1 : 16777215 < N) (hN2 : N < 4294967296)
  (H : Calls Tryz.prog 188 #[.pointer (some ⟨b, 0, none⟩)] w fun e w' => e = .returned .nilIface /\ Rd b s k c m w' /\ But b w w') :
  Calls Tryz.prog 187 #[.pointer (some ⟨b, 0, none⟩), .slice (some ⟨g, 0, none⟩) 3 3] w fun e w' => e = .returned (.iface 296 (.agg #[.int .i64 k, .iface 234 (.agg #[.int .i64 N])])) /\ But b w w' := by
 have H' := H.mono (R' := fun e w' => e = .returned .nilIface /\ Hid (Rd b s k c m w') /\ But b w w' /\ w'.cell? ⟨g, 1, none⟩ = some (.func (.func 189) #[] #[]))
  (fun e w' ⟨he, hd, hb⟩ => ⟨he, hd, hb, (hr.but hb hgb).r1⟩)
 have HR : Hid (∀ w1, Rd b s k c m w1 -> But b w w1 -> Calls Tryz.prog 189 #[.pointer (some ⟨b, 0, none⟩)] w1 fun e w' => e = .returned .nilIface /\ Hid (Rd b s k c N w') /\ But b w w' /\ w'.cell? ⟨g, 2, none⟩ = some (.func (.func 190) #[] #[]) /\ w'.cell? ⟨b, 1, none⟩ = some (.int .i64 k)) :=
  fun w1 hd hb => (takeRest_any b s k c m aS aF w1 hd (hg.but hb hgb') hs hk hc hm hgb').mono (fun e w' hp => by
   obtain ⟨hb', hp⟩ := hp
   rw [if_pos hcl, <- hN] at hp
   obtain ⟨he, hd'⟩ := hp
   exact ⟨he, hd', hb.trans hb', (hr.but (hb.trans hb') hgb).r2, hd'.h1⟩)
 have hr0 := hr.r0
 clear H hr hg hcl hN
 go_enter Tryz.func187, Tryz.ntmps187
 go_wp2
 refine wp_loop_rounds 3 ?_
 rw [rounds_succ]
 go_wp2_with (go_at_call 188; refine H'.mono ?_; rintro e w1 ⟨rfl, hd1, hb1, hr1⟩)
 rw [rounds_succ]
 go_wp2_with (go_at_call 189; refine (HR.out _ hd1.out hb1).mono ?_; rintro e w2 ⟨rfl, hd2, hb2, hr2, h1⟩)
 rw [rounds_succ]
 go_wp2_with (go_at_call 190; refine (checkNumber_no b s k c N _ hd2.out (by omega) (by omega)).mono ?_; rintro e w3 ⟨rfl, rfl⟩)
 go_ret
 exact ⟨rfl, hb2⟩
theorem follow_ok (b g : Nat) (s : ByteArray) (k c m : Nat) (aS aF : Addr) (w : World) (hr : Rules g w) (hgb : g ≠ b) (hg : Glob aS aF w) (hs : s.size <= maxLen) (hk : k < s.size) (hc : c <= 4) (hm : (m + 1) * 256 ^ c <= 4294967296)
  (hgb' : GB aS aF b) (hcl : c <= s.size - (k + 1)) (N : Nat) (hN : N = Sz.numFrom m ((s.data.toList.drop (k + 1)).take c)) (hN1 : N <= 16777215)
  (H : Calls Tryz.prog 188 #[.pointer (some ⟨b, 0, none⟩)] w fun e w' => e = .returned .nilIface /\ Rd b s k c m w' /\ But b w w') :
  Calls Tryz.prog 187 #[.pointer (some ⟨b, 0, none⟩), .slice (some ⟨g, 0, none⟩) 3 3] w fun e w' => e = .returned .nilIface /\ Rd b s k c N w' /\ But b w w' := by
 have H' := H.mono (R' := fun e w' => e = .returned .nilIface /\ Hid (Rd b s k c m w') /\ But b w w' /\ w'.cell? ⟨g, 1, none⟩ = some (.func (.func 189) #[] #[]))
  (fun e w' ⟨he, hd, hb⟩ => ⟨he, hd, hb, (hr.but hb hgb).r1⟩)
 have HR : Hid (∀ w1, Rd b s k c m w1 -> But b w w1 -> Calls Tryz.prog 189 #[.pointer (some ⟨b, 0, none⟩)] w1 fun e w' => e = .returned .nilIface /\ Hid (Rd b s k c N w') /\ But b w w' /\ w'.cell? ⟨g, 2, none⟩ = some (.func (.func 190) #[] #[])) :=
  fun w1 hd hb => (takeRest_any b s k c m aS aF w1 hd (hg.but hb hgb') hs hk hc hm hgb').mono (fun e w' hp => by
   obtain ⟨hb', hp⟩ := hp
   rw [if_pos hcl, <- hN] at hp
   obtain ⟨he, hd'⟩ := hp
   exact ⟨he, hd', hb.trans hb', (hr.but (hb.trans hb') hgb).r2⟩)
 have hr0 := hr.r0
 clear H hr hg hcl hN
 go_enter Tryz.func187, Tryz.ntmps187
 go_wp2
 refine wp_loop_rounds 4 ?_
 rw [rounds_succ]
 go_wp2_with (go_at_call 188; refine H'.mono ?_; rintro e w1 ⟨rfl, hd1, hb1, hr1⟩)
 rw [rounds_succ]
 go_wp2_with (go_at_call 189; refine (HR.out _ hd1.out hb1).mono ?_; rintro e w2 ⟨rfl, hd2, hb2, hr2⟩)
 rw [rounds_succ]
 go_wp2_with (go_at_call 190; refine (checkNumber_ok b s k c N _ hd2.out (by omega) (by omega)).mono ?_; rintro e w3 ⟨rfl, rfl⟩)
 rw [rounds_succ]
 go_wp2
 go_ret
 exact ⟨rfl, hd2.out, hb2⟩
end Go.Proofs.YtmenllnokgjdlaaGreatDoor
