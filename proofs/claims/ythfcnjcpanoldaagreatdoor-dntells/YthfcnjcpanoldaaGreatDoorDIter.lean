/-
  The iterator of package dn: 'cutter.pieces' hands over a text's pieces, each with its number. Conditions: none.
-/
import Derived.Test.YthfcnjcpanoldaaGreatDoorDText
import Derived.Test.YthfcnjcpanoldaaGreatDoorCB
namespace Go.Proofs.YthfcnjcpanoldaaGreatDoor.D
open Go Go.RowKit Go.Shelf Dp
attribute [local go_sem] Oper.semAt_some

/-- a piece: its number, where it begins, where it ends. -/
structure Pk where
  i : Nat
  fr : Nat
  to : Nat
abbrev Pk.g (s : ByteArray) (x : Pk) : ByteArray := s.extract x.fr x.to
/-- the pieces from a place on. -/
def pk (s : ByteArray) (c : UInt8) : Nat → Nat → Nat → Nat → List Pk
  | 0, i, fr, _ => [⟨i, fr, s.size⟩]
  | f + 1, i, fr, p => if h : p < s.size then (if s[p] = c then ⟨i, fr, p⟩ :: pk s c f (i + 1) (p + 1) (nx s p) else pk s c f i fr (nx s p)) else [⟨i, fr, s.size⟩]
def pks (s : ByteArray) (c : UInt8) : List Pk := pk s c s.size 0 0 0
theorem pk_end (s : ByteArray) (c : UInt8) (f i fr p : Nat) (h : ¬ p < s.size) : pk s c f i fr p = [⟨i, fr, s.size⟩] := by
  cases f with
  | zero => rfl
  | succ f => rw [pk, dif_neg h]
theorem pk_step (s : ByteArray) (c : UInt8) (f i fr p : Nat) (h : p < s.size) (hf : s.size ≤ p + f) : ∃ f', f = f' + 1 ∧ s.size ≤ nx s p + f' ∧
    pk s c f i fr p = if s[p] = c then ⟨i, fr, p⟩ :: pk s c f' (i + 1) (p + 1) (nx s p) else pk s c f' i fr (nx s p) := by
  cases f with
  | zero => omega
  | succ f => exact ⟨f, rfl, by have := nx_lt h; omega, by rw [pk, dif_pos h]⟩
theorem ext_list (s : ByteArray) (a b : Nat) : (s.extract a b).data.toList = (s.data.toList.take b).drop a := by
  rw [ByteArray.data_extract, Array.toList_extract, List.extract_eq_take_drop, List.drop_take]
theorem td_snoc {s : ByteArray} {a p : Nat} (h : p < s.size) (ha : a ≤ p) : (s.data.toList.take (p + 1)).drop a = (s.data.toList.take p).drop a ++ [s[p]] := by
  have hl : p < s.data.toList.length := by rw [Array.length_toList]; exact h
  rw [List.take_succ_eq_append_getElem hl, List.drop_append_of_le_length (by rw [List.length_take]; omega)]
  rfl
/-- they are what the text is cut into. -/
theorem pk_sp (s : ByteArray) (c : UInt8) (hc : c ≠ 92) : ∀ (f i fr p : Nat), s.size ≤ p + f → fr ≤ p → p ≤ s.size → (pk s c f i fr p).map (fun x => (x.g s).data.toList) = sp c false ((s.data.toList.take p).drop fr) (s.data.toList.drop p)
  | 0, i, fr, p, hf, h1, h2 => by
    have : p = s.size := by omega
    subst this
    rw [drop_out (by omega), sp, pk]
    rw [List.map_cons, List.map_nil, ext_list]
  | f + 1, i, fr, p, hf, h1, h2 => by
    by_cases h : p < s.size
    · have hn := nx_lt h
      rw [pk, dif_pos h, drop_at h, sp]
      by_cases hx : s[p] = c
      · rw [if_pos hx, if_pos hx]
        have hnx : nx s p = p + 1 := by unfold nx; rw [dif_pos h, if_neg (by rw [hx]; exact hc)]
        rw [List.map_cons, hnx, pk_sp s c hc f (i + 1) (p + 1) (p + 1) (by omega) (Nat.le_refl _) (by omega)]
        have e : List.drop (p + 1) (List.take (p + 1) s.data.toList) = [] := List.drop_of_length_le (by rw [List.length_take]; omega)
        rw [e, ext_list]
      · rw [if_neg hx, if_neg hx]
        by_cases h9 : s[p] = 92
        · have hnx : nx s p = min (p + 2) s.size := by unfold nx; rw [dif_pos h, if_pos h9]
          rw [h9, show ((92 : UInt8) == 92) = true from rfl, pk_sp s c hc f i fr (nx s p) (by omega) (by omega) (by omega), hnx]
          by_cases h3 : p + 1 < s.size
          · rw [Nat.min_eq_left (by omega), drop_at h3, sp, td_snoc h3 (by omega), td_snoc h (by omega), h9]
          · have e : s.size = p + 1 := by omega
            rw [Nat.min_eq_right (by omega), e, drop_out (j := p + 1) (by omega), sp, sp, td_snoc h (by omega), h9]
        · have hnx : nx s p = p + 1 := by unfold nx; rw [dif_pos h, if_neg h9]
          rw [show (s[p] == 92) = false by simpa using h9, pk_sp s c hc f i fr (nx s p) (by omega) (by omega) (by omega), hnx, td_snoc h (by omega)]
    · have : p = s.size := by omega
      subst this
      rw [drop_out (by omega), sp, pk, dif_neg h]
      rw [List.map_cons, List.map_nil, ext_list]
theorem pks_pcs (s : ByteArray) (c : UInt8) (hc : c ≠ 92) : (pks s c).map (fun x => (x.g s).data.toList) = pcs c s.data.toList := by
  have := pk_sp s c hc s.size 0 0 0 (by omega) (Nat.le_refl _) (Nat.zero_le _)
  rw [List.drop_zero] at this
  exact this
/-- they are numbered. -/
theorem pk_num (s : ByteArray) (c : UInt8) : ∀ (f i fr p : Nat), (pk s c f i fr p).map Pk.i = List.range' i (pk s c f i fr p).length
  | 0, i, fr, p => rfl
  | f + 1, i, fr, p => by
    rw [pk]
    split
    · split
      · rw [List.map_cons, pk_num s c f (i + 1), List.length_cons, List.range'_succ]
      · exact pk_num s c f i fr _
    · rfl
theorem pks_num (s : ByteArray) (c : UInt8) (most : Nat) : (∀ x ∈ pks s c, x.i ≠ most) ↔ (pks s c).length ≤ most := by
  have h := pk_num s c s.size 0 0 0
  constructor
  · intro hx
    rcases Nat.lt_or_ge most (pks s c).length with hl | hl
    · exfalso
      have : most ∈ (pks s c).map Pk.i := by
        show most ∈ (pk s c s.size 0 0 0).map Pk.i
        rw [h, List.mem_range'_1]
        exact ⟨Nat.zero_le _, by show most < 0 + (pks s c).length; omega⟩
      obtain ⟨x, hm, he⟩ := List.mem_map.1 this
      exact hx x hm he
    · exact hl
  · intro hl x hm he
    have : x.i ∈ (pk s c s.size 0 0 0).map Pk.i := List.mem_map_of_mem hm
    rw [h, List.mem_range'_1] at this
    have h2 : (pk s c s.size 0 0 0).length = (pks s c).length := rfl
    omega

/-- a piece that is such as Pr says. -/
abbrev It (Pr : Pk → Prop) := { x : Pk // Pr x }
abbrev vals {Pr : Pk → Prop} (l : List (It Pr)) : List Pk := l.map Subtype.val
/-- the cutter in its box. -/
abbrev cb (s : ByteArray) (c : UInt8) : Obj := .cells #[.string s, .int .u8 c.toNat] 76
theorem pieces_any (s : ByteArray) (c : UInt8) (w : World) :
    Calls Tryz.prog 58 #[.agg #[.string s, .int .u8 c.toNat]] w fun e w' => e = .returned (.func (.func 82) #[] #[.pointer (some ⟨w.heap.size, 0, none⟩)]) ∧ w' = w.alloc (cb s c) := by
  go_enter Tryz.func58, Tryz.ntmps58
  go_wp2
  go_ret
  exact ⟨rfl, rfl⟩

/-- A region that draws its order, at any fence. -/
theorem region_only {F : Fence} {n : Nat} {P : Program} {Q : Exit → Act → World → Prop} {id : Nat} {a : Act} {w : World} {l : List Oper} (hm : P.follows .mixedOrders = true)
    (h : wpAnyIn F n P .any l.toArray (C.only Q) l.toArray.size (Array.replicate l.toArray.size false) a w.drew) : (Code.region id l.toArray true).wpIn F n P Q a w :=
  wpIn_mono (wpIn_region_any hm h) (fun e a w h => by cases e <;> first | exact h | exact h.elim)

set_option linter.unusedSimpArgs false in
set_option maxRecDepth 100000 in
set_option maxHeartbeats 2000000 in
theorem pieces1_stops (Pr : Pk → Prop) (m : Nat) (hm : 1 ≤ m) (Bs : Nat) (s : ByteArray) (c : UInt8) (w : World) (hs : s.size ≤ 10000) (hPr : ∀ x ∈ pks s c, Pr x)
    (hBs : w.cell? ⟨Bs, 0, none⟩ = some (.string s)) (hBc : w.cell? ⟨Bs, 1, none⟩ = some (.int .u8 c.toNat)) :
    SeqStopsK Fence.wide m Tryz.prog 82 #[.pointer (some ⟨Bs, 0, none⟩)] (fun x : It Pr => #[.int .i64 x.1.i, .string (x.1.g s)]) (C.Two Bs Bs)
      (fun xs => vals xs = pks s c) (fun pre => vals pre <+: pks s c) (s.size + 1) w := fun l J Jx W hW hJ hJx hY h0 => by
  have hbs := (hW.cell (p := ⟨Bs, 0, none⟩) (lt_cell hBs)).trans hBs
  have hbc := (hW.cell (p := ⟨Bs, 1, none⟩) (lt_cell hBc)).trans hBc
  have hJb : Hid (∀ pre A B, J pre A → Below A.heap.size A B → J pre B) := hide fun pre A B h hb => hJ pre A B none h ⟨hb.os, hb.tape, hb.output, hb.size, fun k hk _ => hb.block k hk⟩ (fun r e => by cases e)
  have HE := hide fun W => end_any s W
  have HH := hide fun p hp W => has_any s p c W hp
  have HP := hide fun a b hab hb W => piece_any s a b W hab hb
  have HN := hide fun p hp W => next_any s p W hs hp
  have HY := hide hY
  have HPr := hide hPr
  clear hPr
  clear hBs hBc hW hJ hJx hY
  refine callsIn_of_wp Tryz.func82 rfl trivial ?_ rfl
  simp only [Tryz.ntmps82, List.size_toArray, List.length_cons, List.length_nil, Nat.reduceAdd, Nat.reduceSub, Array.replicate_succ, Array.replicate_zero, List.push_toArray, List.append_toArray, List.nil_append, List.cons_append]
  gi_wp2
  gi_loopw [3, 4, 5] (fun a b d wr => ∃ (pre : List (It Pr)) (f i fr p : Nat), Hid (vals pre ++ pk s c f i fr p = pks s c) ∧ Hid (s.size ≤ p + f) ∧ pre.length = i ∧ i ≤ fr ∧ fr ≤ p ∧ p ≤ s.size ∧ a = .int .i64 (i : Int) ∧ b = .int .i64 (fr : Int) ∧ d = .int .i64 (p : Int) ∧ J pre wr ∧ wr.cell? ⟨Bs, 0, none⟩ = some (.string s) ∧ wr.cell? ⟨Bs, 1, none⟩ = some (.int .u8 c.toNat))
    (fun _ _ d _ => s.size - (intOf d).toNat)
  case atStart => exact ⟨[], s.size, 0, 0, 0, hide rfl, hide (by omega), rfl, Nat.le_refl _, Nat.le_refl _, by omega, rfl, rfl, rfl, h0, hbs, hbc⟩
  case round =>
    obtain ⟨pre, f, i, fr, p, hl, hf, hpl, hif, hfp, hp4, rfl, rfl, rfl, hJs, ha, hc'⟩ := hrel
    clear hbs hbc h0
    gi_wp2_with fail
    refine ⟨trivial, (callsIn_wide.2 ((unhide HE) _)).mono ?_⟩
    rintro e w1 ⟨rfl, hb⟩
    have ha1 := (hb.cell (p := ⟨Bs, 0, none⟩) (lt_cell ha)).trans ha
    have hc1 := (hb.cell (p := ⟨Bs, 1, none⟩) (lt_cell hc')).trans hc'
    have hJ1 := hide ((unhide hJb) _ _ _ hJs hb)
    clear hb ha hc' hJs
    have hpi : (p : Int) ≤ 10000 := by omega
    by_cases hlt : p < s.size
    · have hlt' : (p : Int) < s.size := by omega
      obtain ⟨f', rfl, hf', hpk⟩ := pk_step s c f i fr p hlt (unhide hf)
      have hnx := nx_lt hlt
      have HH' := hide ((unhide HH) p hlt)
      by_cases hx : s[p] = c
      · rw [decide_eq_true hx] at HH'
        rw [if_pos hx] at hpk
        have HP' := hide ((unhide HP) fr p hfp hp4)
        have HN' := hide ((unhide HN) p hlt)
        have Hl : Hid (vals pre ++ ⟨i, fr, p⟩ :: pk s c f' (i + 1) (p + 1) (nx s p) = pks s c) := hide (by rw [← hpk]; exact unhide hl)
        have Hf := hide hf'
        have Hnx := hide hnx
        clear hl hf hf' hpk hx hnx HH HP HN
        generalize nx s p = q at *
        gi_wp2_with fail
        refine ⟨trivial, (callsIn_wide.2 ((unhide HH') _)).mono ?_⟩
        rintro e w2 ⟨rfl, hb⟩
        have ha2 := (hb.cell (p := ⟨Bs, 0, none⟩) (lt_cell ha1)).trans ha1
        have hc2 := (hb.cell (p := ⟨Bs, 1, none⟩) (lt_cell hc1)).trans hc1
        have hJ2 := hide ((unhide hJb) _ _ _ (unhide hJ1) hb)
        clear hb ha1 hc1 hJ1 HH'
        gi_wp2_with fail
        refine ⟨trivial, (callsIn_wide.2 ((unhide HP') _)).mono ?_⟩
        rintro e w3 ⟨rfl, hb⟩
        have ha3 := (hb.cell (p := ⟨Bs, 0, none⟩) (lt_cell ha2)).trans ha2
        have hJ3 := (unhide hJb) _ _ _ (unhide hJ2) hb
        have hc3 := (hb.cell (p := ⟨Bs, 1, none⟩) (lt_cell hc2)).trans hc2
        clear hb ha2 hc2 hJ2 HP'
        obtain ⟨fn, tmps, assign, body, hy, hR⟩ := (unhide HY) _ ⟨⟨i, fr, p⟩, (unhide HPr) _ (by rw [← unhide Hl]; simp)⟩ _ hJ3 (by omega)
        dsimp only at hy
        gi_wp2
        refine hR.mono ?_
        rintro e W3 (⟨rfl, hJ4, hk3⟩ | ⟨rfl, hJx3⟩)
        · have ha4 := (World.cell?_of_block (a := ⟨Bs, 0, none⟩) hk3.1).trans ha3
          have hc4 := (World.cell?_of_block (a := ⟨Bs, 1, none⟩) hk3.1).trans hc3
          clear hk3 ha3 hc3 hy hR hJ3
          gi_wp2_with fail
          refine ⟨trivial, (callsIn_wide.2 ((unhide HN') _)).mono ?_⟩
          rintro e w5 ⟨rfl, hb⟩
          have ha5 := (hb.cell (p := ⟨Bs, 0, none⟩) (lt_cell ha4)).trans ha4
          have hc5 := (hb.cell (p := ⟨Bs, 1, none⟩) (lt_cell hc4)).trans hc4
          have hJ5 := hide ((unhide hJb) _ _ _ hJ4 hb)
          clear hb ha4 hc4 hJ4 HN'
          gi_wp2
          go_roundw
          case rel =>
            have := unhide Hnx
            refine ⟨pre ++ [⟨⟨i, fr, p⟩, (unhide HPr) _ (by rw [← unhide Hl]; simp)⟩], f', i + 1, p + 1, q, hide (by rw [vals, List.map_append, List.append_assoc]; exact unhide Hl), Hf, by simp; omega, by omega, by omega, by omega, by simp, by simp, rfl, unhide hJ5, ha5, hc5⟩
          case measure =>
            have := unhide Hnx
            simp [intOf]
            omega
        · gi_wp2
          refine bodyPost_ret (results_none rfl _ _ _) rfl ?_
          exact ⟨⟨_, rfl⟩, .inr ⟨_, ⟨pk s c f' (i + 1) (p + 1) q, by rw [vals, List.map_append, List.append_assoc]; exact unhide Hl⟩, hJx3⟩⟩
      · rw [decide_eq_false hx] at HH'
        rw [if_neg hx] at hpk
        have HN' := hide ((unhide HN) p hlt)
        have Hl : Hid (vals pre ++ pk s c f' i fr (nx s p) = pks s c) := hide (by rw [← hpk]; exact unhide hl)
        have Hf := hide hf'
        have Hnx := hide hnx
        clear hl hf hf' hpk hx hnx HH HP HN
        generalize nx s p = q at *
        gi_wp2_with fail
        refine ⟨trivial, (callsIn_wide.2 ((unhide HH') _)).mono ?_⟩
        rintro e w2 ⟨rfl, hb⟩
        have ha2 := (hb.cell (p := ⟨Bs, 0, none⟩) (lt_cell ha1)).trans ha1
        have hc2 := (hb.cell (p := ⟨Bs, 1, none⟩) (lt_cell hc1)).trans hc1
        have hJ2 := hide ((unhide hJb) _ _ _ (unhide hJ1) hb)
        clear hb ha1 hc1 hJ1 HH'
        gi_wp2_with fail
        refine ⟨trivial, (callsIn_wide.2 ((unhide HN') _)).mono ?_⟩
        rintro e w5 ⟨rfl, hb⟩
        have ha5 := (hb.cell (p := ⟨Bs, 0, none⟩) (lt_cell ha2)).trans ha2
        have hc5 := (hb.cell (p := ⟨Bs, 1, none⟩) (lt_cell hc2)).trans hc2
        have hJ5 := hide ((unhide hJb) _ _ _ (unhide hJ2) hb)
        clear hb ha2 hc2 hJ2 HN'
        gi_wp2
        go_roundw
        case rel =>
          have := unhide Hnx
          refine ⟨pre, f', i, fr, q, Hl, Hf, by omega, by omega, by omega, by omega, rfl, rfl, rfl, unhide hJ5, ha5, hc5⟩
        case measure =>
          have := unhide Hnx
          simp [intOf]
          omega
    · have hge : ¬ (p : Int) < s.size := by omega
      have Hl : Hid (vals pre ++ [⟨i, fr, s.size⟩] = pks s c) := hide (by rw [← pk_end s c f i fr p hlt]; exact unhide hl)
      clear hl hf HH HN
      have HP' := hide ((unhide HP) fr s.size (by omega) (Nat.le_refl _))
      gi_wp2_with fail
      refine region_only (by kernel_rfl) ?_
      change wpAnyIn _ _ _ _ _ _ 10 #[false, false, false, false, false, false, false, false, false, false] _ w1.drew
      have hax0 : w1.drew.cell? ⟨Bs, 0, none⟩ = some (.string s) := ha1
      have hJx0 := hide ((unhide hJb) _ _ _ (unhide hJ1) (Below.refl _ _).drew)
      clear ha1 hc1 hJ1
      generalize w1.drew = x0 at *
      refine wpAnyIn_take (i := 0) (v := .func (.yield l) #[] #[]) rfl rfl (by kernel_rfl) (by kernel_rfl) (by kernel_rfl) (fun _ _ _ h => h) ⟨Or.inl ⟨by kernel_rfl, by intro w1; go_simp; try rfl⟩, fun _ => rfl⟩ ?_
      simp only [Act.put, List.setIfInBounds_toArray, List.set_cons_zero, List.set_cons_succ, List.getElem_toArray, List.getElem_cons_zero, List.getElem_cons_succ]
      refine wpAnyIn_take (i := 1) (v := .int .i64 i) rfl rfl (by kernel_rfl) (by kernel_rfl) (by kernel_rfl) (fun _ _ _ h => h) ⟨Or.inl ⟨by kernel_rfl, by intro w1; go_simp; try rfl⟩, fun _ => rfl⟩ ?_
      simp only [Act.put, List.setIfInBounds_toArray, List.set_cons_zero, List.set_cons_succ, List.getElem_toArray, List.getElem_cons_zero, List.getElem_cons_succ]
      refine wpAnyIn_take (i := 2) (v := .pointer (some ⟨Bs, 0, none⟩)) rfl rfl (by kernel_rfl) (by kernel_rfl) (by kernel_rfl) (fun _ _ _ h => h) ⟨Or.inl ⟨by kernel_rfl, by intro w1; go_simp; try rfl⟩, fun _ => rfl⟩ ?_
      simp only [Act.put, List.setIfInBounds_toArray, List.set_cons_zero, List.set_cons_succ, List.getElem_toArray, List.getElem_cons_zero, List.getElem_cons_succ]
      refine wpAnyIn_take (i := 4) (v := .int .i64 fr) rfl rfl (by kernel_rfl) (by kernel_rfl) (by kernel_rfl) (fun _ _ _ h => h) ⟨Or.inl ⟨by kernel_rfl, by intro w1; go_simp; try rfl⟩, fun _ => rfl⟩ ?_
      simp only [Act.put, List.setIfInBounds_toArray, List.set_cons_zero, List.set_cons_succ, List.getElem_toArray, List.getElem_cons_zero, List.getElem_cons_succ]
      refine wpAnyIn_take (i := 5) (v := .pointer (some ⟨Bs, 0, none⟩)) rfl rfl (by kernel_rfl) (by kernel_rfl) (by kernel_rfl) (fun _ _ _ h => h) ⟨Or.inl ⟨by kernel_rfl, by intro w1; go_simp; try rfl⟩, fun _ => rfl⟩ ?_
      simp only [Act.put, List.setIfInBounds_toArray, List.set_cons_zero, List.set_cons_succ, List.getElem_toArray, List.getElem_cons_zero, List.getElem_cons_succ]
      refine wpAnyIn_ready (rs := [3, 6]) (by kernel_rfl) (by simp) (AllReadyIn.cons rfl (fun K hK => ?_) (AllReadyIn.cons rfl (fun K hK => ?_) AllReadyIn.nil))
      · rw [if_pos (by kernel_rfl)]
        gi_wp2
        try (simp only [Act.put, List.setIfInBounds_toArray, List.set_cons_zero, List.set_cons_succ, List.getElem_toArray, List.getElem_cons_zero, List.getElem_cons_succ])
        refine wpAnyIn_ready (rs := [6]) (by kernel_rfl) (by simp) (AllReadyIn.cons rfl (fun K hK => ?_) AllReadyIn.nil)
        rw [if_pos (by kernel_rfl)]
        gi_wp2
        try (simp only [Act.put, List.setIfInBounds_toArray, List.set_cons_zero, List.set_cons_succ, List.getElem_toArray, List.getElem_cons_zero, List.getElem_cons_succ])
        refine wpAnyIn_ready (rs := [7]) (by kernel_rfl) (by simp) (AllReadyIn.cons rfl (fun K hK => ?_) AllReadyIn.nil)
        rw [if_pos (by kernel_rfl)]
        gi_wp2_with fail
        refine ⟨trivial, (callsIn_wide.2 ((unhide HE) _)).mono ?_⟩
        rintro e x1 ⟨rfl, hb⟩
        have hax1 := (hb.cell (p := ⟨Bs, 0, none⟩) (lt_cell hax0)).trans hax0
        have hJx1 := hide ((unhide hJb) _ _ _ (unhide hJx0) hb)
        clear hb hax0 hJx0
        gi_wp2
        try (simp only [Act.put, List.setIfInBounds_toArray, List.set_cons_zero, List.set_cons_succ, List.getElem_toArray, List.getElem_cons_zero, List.getElem_cons_succ])
        refine wpAnyIn_ready (rs := [8]) (by kernel_rfl) (by simp) (AllReadyIn.cons rfl (fun K hK => ?_) AllReadyIn.nil)
        rw [if_pos (by kernel_rfl)]
        gi_wp2_with fail
        refine ⟨trivial, (callsIn_wide.2 ((unhide HP') _)).mono ?_⟩
        rintro e x2 ⟨rfl, hb⟩
        have hax2 := (hb.cell (p := ⟨Bs, 0, none⟩) (lt_cell hax1)).trans hax1
        have hJx2 := hide ((unhide hJb) _ _ _ (unhide hJx1) hb)
        clear hb hax1 hJx1
        gi_wp2
        try (simp only [Act.put, List.setIfInBounds_toArray, List.set_cons_zero, List.set_cons_succ, List.getElem_toArray, List.getElem_cons_zero, List.getElem_cons_succ])
        refine wpAnyIn_ready (rs := [9]) (by kernel_rfl) (by simp) (AllReadyIn.cons rfl (fun K hK => ?_) AllReadyIn.nil)
        rw [if_pos (by kernel_rfl)]
        obtain ⟨fn, tmps, assign, body, hy, hR⟩ := (unhide HY) _ ⟨⟨i, fr, s.size⟩, (unhide HPr) _ (by rw [← unhide Hl]; simp)⟩ _ (unhide hJx2) (by omega)
        dsimp only at hy
        gi_wp2
        refine hR.mono ?_
        rintro e W3 (⟨rfl, hJ4, hk3⟩ | ⟨rfl, hJx3⟩)
        · gi_wp2
          refine wpAnyIn_done (by kernel_rfl) ?_ _
          simp only [C.only]
          gi_wp2
          go_end0
          exact ⟨⟨_, rfl⟩, .inl ⟨_, by rw [vals, List.map_append]; exact (unhide Hl), hJ4⟩⟩
        · gi_wp2
          refine wpAnyIn_done (by kernel_rfl) ?_ _
          simp only [C.only]
          gi_wp2
          go_end0
          exact ⟨⟨_, rfl⟩, .inr ⟨_, ⟨[], by rw [List.append_nil, vals, List.map_append]; exact unhide Hl⟩, hJx3⟩⟩
      · rw [if_pos (by kernel_rfl)]
        gi_wp2
        try (simp only [Act.put, List.setIfInBounds_toArray, List.set_cons_zero, List.set_cons_succ, List.getElem_toArray, List.getElem_cons_zero, List.getElem_cons_succ])
        refine wpAnyIn_ready (rs := [3, 7]) (by kernel_rfl) (by simp) (AllReadyIn.cons rfl (fun K hK => ?_) (AllReadyIn.cons rfl (fun K hK => ?_) AllReadyIn.nil))
        · rw [if_pos (by kernel_rfl)]
          gi_wp2
          try (simp only [Act.put, List.setIfInBounds_toArray, List.set_cons_zero, List.set_cons_succ, List.getElem_toArray, List.getElem_cons_zero, List.getElem_cons_succ])
          refine wpAnyIn_ready (rs := [7]) (by kernel_rfl) (by simp) (AllReadyIn.cons rfl (fun K hK => ?_) AllReadyIn.nil)
          rw [if_pos (by kernel_rfl)]
          gi_wp2_with fail
          refine ⟨trivial, (callsIn_wide.2 ((unhide HE) _)).mono ?_⟩
          rintro e x1 ⟨rfl, hb⟩
          have hax1 := (hb.cell (p := ⟨Bs, 0, none⟩) (lt_cell hax0)).trans hax0
          have hJx1 := hide ((unhide hJb) _ _ _ (unhide hJx0) hb)
          clear hb hax0 hJx0
          gi_wp2
          try (simp only [Act.put, List.setIfInBounds_toArray, List.set_cons_zero, List.set_cons_succ, List.getElem_toArray, List.getElem_cons_zero, List.getElem_cons_succ])
          refine wpAnyIn_ready (rs := [8]) (by kernel_rfl) (by simp) (AllReadyIn.cons rfl (fun K hK => ?_) AllReadyIn.nil)
          rw [if_pos (by kernel_rfl)]
          gi_wp2_with fail
          refine ⟨trivial, (callsIn_wide.2 ((unhide HP') _)).mono ?_⟩
          rintro e x2 ⟨rfl, hb⟩
          have hax2 := (hb.cell (p := ⟨Bs, 0, none⟩) (lt_cell hax1)).trans hax1
          have hJx2 := hide ((unhide hJb) _ _ _ (unhide hJx1) hb)
          clear hb hax1 hJx1
          gi_wp2
          try (simp only [Act.put, List.setIfInBounds_toArray, List.set_cons_zero, List.set_cons_succ, List.getElem_toArray, List.getElem_cons_zero, List.getElem_cons_succ])
          refine wpAnyIn_ready (rs := [9]) (by kernel_rfl) (by simp) (AllReadyIn.cons rfl (fun K hK => ?_) AllReadyIn.nil)
          rw [if_pos (by kernel_rfl)]
          obtain ⟨fn, tmps, assign, body, hy, hR⟩ := (unhide HY) _ ⟨⟨i, fr, s.size⟩, (unhide HPr) _ (by rw [← unhide Hl]; simp)⟩ _ (unhide hJx2) (by omega)
          dsimp only at hy
          gi_wp2
          refine hR.mono ?_
          rintro e W3 (⟨rfl, hJ4, hk3⟩ | ⟨rfl, hJx3⟩)
          · gi_wp2
            refine wpAnyIn_done (by kernel_rfl) ?_ _
            simp only [C.only]
            gi_wp2
            go_end0
            exact ⟨⟨_, rfl⟩, .inl ⟨_, by rw [vals, List.map_append]; exact (unhide Hl), hJ4⟩⟩
          · gi_wp2
            refine wpAnyIn_done (by kernel_rfl) ?_ _
            simp only [C.only]
            gi_wp2
            go_end0
            exact ⟨⟨_, rfl⟩, .inr ⟨_, ⟨[], by rw [List.append_nil, vals, List.map_append]; exact unhide Hl⟩, hJx3⟩⟩
        · rw [if_pos (by kernel_rfl)]
          gi_wp2_with fail
          refine ⟨trivial, (callsIn_wide.2 ((unhide HE) _)).mono ?_⟩
          rintro e x1 ⟨rfl, hb⟩
          have hax1 := (hb.cell (p := ⟨Bs, 0, none⟩) (lt_cell hax0)).trans hax0
          have hJx1 := hide ((unhide hJb) _ _ _ (unhide hJx0) hb)
          clear hb hax0 hJx0
          gi_wp2
          try (simp only [Act.put, List.setIfInBounds_toArray, List.set_cons_zero, List.set_cons_succ, List.getElem_toArray, List.getElem_cons_zero, List.getElem_cons_succ])
          refine wpAnyIn_ready (rs := [3]) (by kernel_rfl) (by simp) (AllReadyIn.cons rfl (fun K hK => ?_) AllReadyIn.nil)
          rw [if_pos (by kernel_rfl)]
          gi_wp2
          try (simp only [Act.put, List.setIfInBounds_toArray, List.set_cons_zero, List.set_cons_succ, List.getElem_toArray, List.getElem_cons_zero, List.getElem_cons_succ])
          refine wpAnyIn_ready (rs := [8]) (by kernel_rfl) (by simp) (AllReadyIn.cons rfl (fun K hK => ?_) AllReadyIn.nil)
          rw [if_pos (by kernel_rfl)]
          gi_wp2_with fail
          refine ⟨trivial, (callsIn_wide.2 ((unhide HP') _)).mono ?_⟩
          rintro e x2 ⟨rfl, hb⟩
          have hax2 := (hb.cell (p := ⟨Bs, 0, none⟩) (lt_cell hax1)).trans hax1
          have hJx2 := hide ((unhide hJb) _ _ _ (unhide hJx1) hb)
          clear hb hax1 hJx1
          gi_wp2
          try (simp only [Act.put, List.setIfInBounds_toArray, List.set_cons_zero, List.set_cons_succ, List.getElem_toArray, List.getElem_cons_zero, List.getElem_cons_succ])
          refine wpAnyIn_ready (rs := [9]) (by kernel_rfl) (by simp) (AllReadyIn.cons rfl (fun K hK => ?_) AllReadyIn.nil)
          rw [if_pos (by kernel_rfl)]
          obtain ⟨fn, tmps, assign, body, hy, hR⟩ := (unhide HY) _ ⟨⟨i, fr, s.size⟩, (unhide HPr) _ (by rw [← unhide Hl]; simp)⟩ _ (unhide hJx2) (by omega)
          dsimp only at hy
          gi_wp2
          refine hR.mono ?_
          rintro e W3 (⟨rfl, hJ4, hk3⟩ | ⟨rfl, hJx3⟩)
          · gi_wp2
            refine wpAnyIn_done (by kernel_rfl) ?_ _
            simp only [C.only]
            gi_wp2
            go_end0
            exact ⟨⟨_, rfl⟩, .inl ⟨_, by rw [vals, List.map_append]; exact (unhide Hl), hJ4⟩⟩
          · gi_wp2
            refine wpAnyIn_done (by kernel_rfl) ?_ _
            simp only [C.only]
            gi_wp2
            go_end0
            exact ⟨⟨_, rfl⟩, .inr ⟨_, ⟨[], by rw [List.append_nil, vals, List.map_append]; exact unhide Hl⟩, hJx3⟩⟩
end Go.Proofs.YthfcnjcpanoldaaGreatDoor.D
