/-
  What the law file's Cut gives of a tree that lies in memory: so deep, so many, so long. Conditions: none.
-/
import Derived.Test.YthibodkemnkjeaaDoorTShown
import Derived.Deep.RegionLaw
namespace Go.Proofs.YthibodkemnkjeaaDoor
open Go.RowKit Tv T Go.Shelf

/-- what is left of a text. -/
abbrev cutD (d : ByteArray) : ByteArray := d.extract 0 (min (d.size : Int) 4000).toNat
/-- the value v in world W, cut at so many levels, is the tree T. -/
def CutOf : (k : Nat) → World → Value → Tr k → Prop
  | 0, _, _, t => Empty.elim t
  | k + 1, W, v, T => ∃ d a len cap, v = .agg #[.int .i64 (tag T), .string d, .slice a len cap] ∧ d.size ≤ maxLen ∧ len ≤ maxLen ∧ dat T = cutD d ∧ (kids T).length = (if k = 0 then 0 else min len 60) ∧
      (kids T = [] ∨ ∃ g off, a = some ⟨g, off, none⟩ ∧ ∀ (i : Nat) x, (kids T)[i]? = some x → ∃ t' d' a' l' c', W.cell? ⟨g, off + i * 3, none⟩ = some (.int .i64 t') ∧ W.cell? ⟨g, off + i * 3 + 1, none⟩ = some (.string d') ∧ W.cell? ⟨g, off + i * 3 + 2, none⟩ = some (.slice a' l' c') ∧ CutOf k W (.agg #[.int .i64 t', .string d', .slice a' l' c']) x)
theorem CutOf.below : ∀ {k : Nat} {W W' : World} {v : Value} {T : Tr k}, CutOf k W v T → Below W.heap.size W W' → CutOf k W' v T
  | 0, _, _, _, t, _, _ => Empty.elim t
  | k + 1, W, W', v, T, ⟨d, a, len, cap, hv, hd, hl, hdt, hn, h⟩, hb => by
    refine ⟨d, a, len, cap, hv, hd, hl, hdt, hn, ?_⟩
    rcases h with h | ⟨g, off, ha, hx⟩
    · exact .inl h
    · refine .inr ⟨g, off, ha, fun i x hi => ?_⟩
      obtain ⟨t', d', a', l', c', h0, h1, h2, h3⟩ := hx i x hi
      exact ⟨t', d', a', l', c', (hb.cell (lt_of_cell h0)).trans h0, (hb.cell (lt_of_cell h1)).trans h1, (hb.cell (lt_of_cell h2)).trans h2, h3.below hb⟩
theorem CutOf.drew {k : Nat} {W : World} {v : Value} {T : Tr k} (h : CutOf k W v T) : CutOf k W.drew v T := h.below ⟨rfl, rfl, rfl, Nat.le_refl _, fun _ _ => rfl⟩
theorem cutD_size (d : ByteArray) : (cutD d).size ≤ 4000 := by rw [ByteArray.size_extract]; omega

/-- what cutAt leaves. -/
def CutPost (W : World) (k : Nat) (T : Tr k) (e : Ending) (V : World) : Prop := Below W.heap.size W V ∧ ∃ v, e = .returned v ∧ Node k V (fun b => W.heap.size ≤ b) v T

/-- the three boxes of cutAt. -/
abbrev threeK (W : World) (t : Int) (d : ByteArray) (a : Option Addr) (len cap : Nat) : World := ((W.alloc (.cells #[.int .i64 t, .string d, .slice a len cap] 24)).alloc (.cells #[.int .i64 0, .string ⟨#[]⟩, .slice none 0 0] 24)).alloc (.cells #[.int .i64 t, .string (cutD d), .slice none 0 0] 24)
/-- what the loop keeps. -/
structure InvK (k : Nat) (W : World) (t : Int) (d : ByteArray) (a : Option Addr) (len cap : Nat) (sl : Value) (pre : List (Tr k)) (V : World) : Prop where
  b0 : V.heap[W.heap.size]? = some (.cells #[.int .i64 t, .string d, .slice a len cap] 24 (0, 0))
  b1 : V.heap[W.heap.size + 1]? = some (.cells #[.int .i64 0, .string ⟨#[]⟩, .slice none 0 0] 24 (0, 0))
  b2 : V.heap[W.heap.size + 1 + 1]? = some (.cells #[.int .i64 t, .string (cutD d), sl] 24 (0, 0))
  bel : Below W.heap.size W V
  gr : Grow k V (W.heap.size + 3) sl pre
  sz : W.heap.size + 3 ≤ V.heap.size
theorem InvK.first (k : Nat) (W : World) (t : Int) (d : ByteArray) (a : Option Addr) (len cap : Nat) : InvK k W t d a len cap (.slice none 0 0) [] (threeK W t d a len cap) := by
  have h : (threeK W t d a len cap).heap = ((W.heap.push (.cells #[.int .i64 t, .string d, .slice a len cap] 24)).push (.cells #[.int .i64 0, .string ⟨#[]⟩, .slice none 0 0] 24)).push (.cells #[.int .i64 t, .string (cutD d), .slice none 0 0] 24) := rfl
  refine ⟨?_, ?_, ?_, (((Below.refl _ _).alloc (Nat.le_refl _) _).alloc (by simp) _).alloc (by simp; omega) _, Grow.nil _ _ _, by simp⟩
  · rw [Below.heap_alloc _ _ _ (by simp; omega), Below.heap_alloc _ _ _ (by simp)]; exact World.alloc_heap_new W _
  · rw [h]; simp [Array.getElem_push]
  · rw [h]; simp [Array.getElem_push]
theorem InvK.drew {k : Nat} {W : World} {t : Int} {d : ByteArray} {a : Option Addr} {len cap : Nat} {sl : Value} {pre : List (Tr k)} {V : World} (h : InvK k W t d a len cap sl pre V) : InvK k W t d a len cap sl pre V.drew :=
  ⟨h.b0, h.b1, h.b2, ⟨h.bel.os, h.bel.tape, h.bel.output, h.bel.size, h.bel.block⟩, h.gr.of fun _ _ _ => rfl, h.sz⟩
/-- a tree more: behind the call (w2), the new list's box (w3), the append (w4), the store. -/
theorem InvK.snoc {k : Nat} {W : World} {t : Int} {d : ByteArray} {a : Option Addr} {len cap : Nat} {sl : Value} {pre : List (Tr k)} {V w2 w4 : World} {vs : List (Value × Value × Value)} {c0 c1 c2 : Value} {T : Tr k} {gg cp : Nat}
    (h : InvK k W t d a len cap sl pre V) (hvl : vs.length = pre.length)
    (hNs : ∀ (i : Nat) v T, vs[i]? = some v → pre[i]? = some T → Node k V (fun b => W.heap.size + 3 ≤ b ∧ some b ≠ sl.ownBlock) (.agg #[v.1, v.2.1, v.2.2]) T)
    (hb : Below V.heap.size V w2) (hN : Node k w2 (fun b => V.heap.size ≤ b) (.agg #[c0, c1, c2]) T)
    (hown : w4.ownsRow (W.heap.size + 3) 24 3 (.slice (some ⟨gg, 0, none⟩) (pre.length + 1) cp) (pre.length + 1) (vs.flatMap trip ++ [c0, c1, c2]))
    (hgrow : (w2.alloc (.cells #[c0, c1, c2] 24)).grownBy w4 sl.ownBlock) (hat : sl.ownBlock = some gg ∨ gg = w2.heap.size + 1) :
    InvK k W t d a len cap (.slice (some ⟨gg, 0, none⟩) (pre.length + 1) cp) (pre ++ [T]) (w4.setCell ⟨W.heap.size + 1 + 1, 2, none⟩ (.slice (some ⟨gg, 0, none⟩) (pre.length + 1) cp)) := by
  have hb3 : Below V.heap.size V (w2.alloc (.cells #[c0, c1, c2] 24)) := hb.alloc hb.size _
  have hob : ∀ g', sl.ownBlock = some g' → W.heap.size + 3 ≤ g' ∧ g' < V.heap.size := fun g' hg' => h.gr.lt hg'
  have keep : ∀ x, x < W.heap.size + 3 → w4.heap[x]? = V.heap[x]? := fun x hx => by
    have hlt : x < V.heap.size := by have := h.sz; omega
    refine (hgrow.block x (Nat.lt_of_lt_of_le hlt hb3.size) (fun e => ?_)).trans (hb3.block x hlt)
    have := (hob x e.symm).1
    omega
  have hz4 : V.heap.size ≤ w4.heap.size := Nat.le_trans hb3.size hgrow.size
  refine ⟨?_, ?_, ?_, ?_, ?_, ?_⟩
  · exact (Below.heap_setCell _ _ _ _ (by show W.heap.size ≠ W.heap.size + 1 + 1; omega)).trans ((keep _ (by omega)).trans h.b0)
  · exact (Below.heap_setCell _ _ _ _ (by show W.heap.size + 1 ≠ W.heap.size + 1 + 1; omega)).trans ((keep _ (by omega)).trans h.b1)
  · have := heap_setCell_same w4 (W.heap.size + 1 + 1) 2 _ _ (.slice (some ⟨gg, 0, none⟩) (pre.length + 1) cp) ((keep _ (by omega)).trans h.b2)
    exact this
  · refine Below.setCell ?_ (p := ⟨W.heap.size + 1 + 1, 2, none⟩) (by show W.heap.size ≤ W.heap.size + 1 + 1; omega) _
    exact ⟨hgrow.os.trans (hb3.os.trans h.bel.os), hgrow.tape.trans (hb3.tape.trans h.bel.tape), hgrow.output.trans (hb3.output.trans h.bel.output), Nat.le_trans h.bel.size hz4, fun x hx => (keep x (by omega)).trans (h.bel.block x hx)⟩
  · refine grow_snoc (W := w2.alloc (.cells #[c0, c1, c2] 24)) (lo := V.heap.size) (sl := sl) hvl (fun i v T hv hT => (hNs i v T hv hT).below hb3) (ownsRow_setCell_below hown (a := ⟨W.heap.size + 1 + 1, 2, none⟩) (by show W.heap.size + 1 + 1 < _; omega) _) ?_ ?_ (hN.below ((Below.refl _ _).alloc (Nat.le_refl _) _)) h.sz (fun g' hg' => (hob g' hg').2)
    · intro b hb1 hb2 hb3' _
      exact (Below.heap_setCell _ _ _ _ (by show b ≠ W.heap.size + 1 + 1; omega)).trans (hgrow.block b hb2 hb3')
    · rcases hat with hat | hat
      · exact .inl hat
      · exact .inr (by rw [hat]; simp)
  · rw [size_setCell]; exact Nat.le_trans h.sz hz4

theorem InvK.keep4 {k : Nat} {W : World} {t : Int} {d : ByteArray} {a : Option Addr} {len cap : Nat} {sl : Value} {pre : List (Tr k)} {V w2 w4 : World} {o : Obj} (h : InvK k W t d a len cap sl pre V) (hb : Below V.heap.size V w2) (hgrow : (w2.alloc o).grownBy w4 sl.ownBlock) :
    w4.heap[W.heap.size + 1 + 1]? = some (.cells #[.int .i64 t, .string (cutD d), sl] 24 (0, 0)) := by
  have hb3 : Below V.heap.size V (w2.alloc o) := hb.alloc hb.size _
  have hlt : W.heap.size + 1 + 1 < V.heap.size := by have := h.sz; omega
  refine (hgrow.block _ (Nat.lt_of_lt_of_le hlt hb3.size) (fun e => ?_)).trans ((hb3.block _ hlt).trans h.b2)
  have := (h.gr.lt e.symm).1
  omega

theorem owns_below {W V : World} {base : Nat} {e : TypeId} {size : Nat} {v : Value} {n : Nat} {xs : List Value} (h : W.ownsRow base e size v n xs) (hb : Below W.heap.size W V) : V.ownsRow base e size v n xs :=
  h.kept (row := none) ⟨hb.os, hb.tape, hb.output, hb.size, fun k hk _ => hb.block k hk⟩ (by cases hv : v.ownBlock <;> simp)
theorem newCells (w : World) (c0 c1 c2 : Value) : ∀ (j : Nat) (u : Value), [c0, c1, c2][j]? = some u → (w.alloc (.cells #[c0, c1, c2] 24)).cell? ((⟨w.heap.size, 0, none⟩ : Addr).add j) = some u := by
  intro j u h
  rw [Addr.add_lit, Nat.zero_add, World.cell?_alloc_at _ _ _ _ rfl]
  match j, h with
  | 0, h => exact h
  | 1, h => exact h
  | 2, h => exact h
theorem drawnB {W V : World} (h : Below W.drew.heap.size W.drew V) : Below W.heap.size W V := ⟨h.os, h.tape, h.output, h.size, h.block⟩

/-- the activation behind cutAt's first reading. -/
abbrev actK (S : Nat) (k : Nat) (t : Int) (d : ByteArray) (a : Option Addr) (len cap : Nat) : Act :=
  { defers := [], tmps := #[.agg #[.int .i64 t, .string d, .slice a len cap], .int .i64 ((k : Int) + 1), .pointer (some ⟨S, 0, none⟩), undef, .pointer (some ⟨S + 1, 0, none⟩), .pointer (some ⟨S + 1 + 1, 0, none⟩), undef, .pointer (some ⟨S, 0, none⟩), .int .i64 t, .pointer (some ⟨S, 1, none⟩), .string d, .pointer (some ⟨S, 1, none⟩), .string d, .int .i64 d.size, .int .i64 (min (d.size : Int) 4000), .string (cutD d), .agg #[.int .i64 t, .string (cutD d), .slice none 0 0], undef, undef, undef, undef, undef, undef, undef, undef, undef, undef, undef, undef, undef, undef, undef, undef, undef, undef, undef, undef, undef, undef, undef, undef, undef, undef, undef, undef, undef] }

set_option maxRecDepth 100000 in
set_option maxHeartbeats 4000000 in
theorem cutAt_any : ∀ (k : Nat) (T : Tr k) (W : World) (v : Value), k ≤ 13 → CutOf k W v T → Calls Tryd.prog 27 #[v, .int .i64 (k : Int)] W (CutPost W k T) := by
  intro k
  induction k with
  | zero => intro T; exact Empty.elim T
  | succ k ih =>
    intro T W v hk13 hC
    obtain ⟨d, a, len, cap, rfl, hd, hl, hdt, hn, hks⟩ := hC
    rw [show (((k + 1 : Nat)) : Int) = (k : Int) + 1 by omega]
    have IH := hide ih
    have HN := hide hn
    have HD := hide hdt
    have HK := hide hks
    have hk0 : (k : Int) ≤ 12 := by omega
    obtain ⟨i0, hi0, hz0, hz1, hz2⟩ := info_parts infoNode
    clear ih hn hdt hks hd hl
    go_enter Tryd.func27, Tryd.ntmps27
    go_wp2_with fail
    refine wp_mono (Q := fun e a1 V => match e with | .normal => a1 = actK W.heap.size k (tag T) d a len cap ∧ V = (threeK W (tag T) d a len cap).drew | _ => False) ?_ ?_
    · go_region
      all_goals exact ⟨rfl, rfl⟩
    intro e a1 V hq
    cases e with
    | normal =>
      obtain ⟨rfl, rfl⟩ := hq
      have hI0 := hide (InvK.first k W (tag T) d a len cap).drew
      generalize (threeK W (tag T) d a len cap).drew = W0 at *
      go_wp2
      go_loopw [6] (fun y wr => ∃ (i : Nat) (sl : Value), i ≤ (kids T).length ∧ y = .int .i64 i ∧ Hid (InvK k W (tag T) d a len cap sl ((kids T).take i) wr)) (fun y _ => (kids T).length - (intOf y).toNat)
      case atStart => exact ⟨0, .slice none 0 0, Nat.zero_le _, rfl, hI0⟩
      case round =>
        obtain ⟨i, sl, hi, rfl, hI⟩ := hrel
        clear hI0
        obtain ⟨⟨e0, e1, e2⟩, _⟩ := cells3 (unhide hI).b0
        by_cases hlt : i < (kids T).length
        · have hne : kids T ≠ [] := fun e => by rw [e] at hlt; cases hlt
          have hkn := unhide HN
          obtain ⟨hk1, hl1, hl2⟩ : k ≠ 0 ∧ i < len ∧ i < 60 := by
            by_cases hk1 : k = 0
            · rw [if_pos hk1] at hkn; omega
            · rw [if_neg hk1] at hkn; omega
          obtain ⟨g, off, rfl, hx⟩ := (unhide HK).resolve_left hne
          obtain ⟨t', d', a', l', c', x0, x1, x2, hCi⟩ := hx i _ (List.getElem?_eq_getElem hlt)
          have hIu := unhide hI
          obtain ⟨pre, hpre⟩ : ∃ pre, pre = (kids T).take i := ⟨_, rfl⟩
          have hpl : pre.length = i := by rw [hpre, List.length_take]; omega
          have hnx : (kids T).take (i + 1) = pre ++ [(kids T)[i]] := by rw [hpre, List.take_succ_eq_append_getElem hlt]
          rw [← hpre] at hIu
          generalize hx9 : (kids T)[i] = X at *
          subst hpl
          obtain ⟨sla, slc, rfl⟩ := hIu.gr.form
          obtain ⟨vs, hvl, ho, hNs⟩ := hIu.gr
          have bel := hIu.bel
          have s0 := (bel.cell (lt_of_cell x0)).trans x0
          have s1 := (bel.cell (lt_of_cell x1)).trans x1
          have s2 := (bel.cell (lt_of_cell x2)).trans x2
          obtain ⟨⟨o0, o1, o2⟩, _⟩ := cells3 hIu.b2
          have HC := hide ((unhide IH) X wr.drew _ (by omega) (hCi.below bel).drew)
          have hlt1 : ((pre.length : Nat) : Int) < len := by omega
          have hlt2 : ((pre.length : Nat) : Int) < 60 := by omega
          have hlt3 : (1 : Int) < (k : Int) + 1 := by omega
          have hwk : IntKind.i64.wrap (k : Int) = k := by rw [IntKind.wrap_i64]; omega
          have HI := hide hIu
          have HV := hide hvl
          have HO := hide ho
          have HNs := hide hNs
          have Hnx := hide hnx
          have Hpre := hide hpre
          clear hIu hvl ho hNs hnx hpre hx9 hI x0 x1 x2 hCi bel hx hkn hne hl1 hl2
          go_wp2_with fail
          go_region_law (first
            | (refine step_append_lies _ rfl (.tmp 33) (.tmp 42) 22 rfl (W.heap.size + 3) 24 i0 zeroN 3 48 Tryd.underlying22 hi0 hz0 hz1 hz2 rfl (by omega) (.slice sla pre.length slc) pre.length (vs.flatMap trip) (by simp [Act.eval]) (unhide ho2) ⟨w2.heap.size, 0, none⟩ 1 1 [.int .i64 vt, .string vd, .slice va vl vc] (by simp [Act.eval]) rfl (newCells w2 _ _ _) (by simp [Value.oneCell']) (by omega) (by unfold maxLen; omega) (by omega) (by simp; omega) (w2.heap.size + 1) (by simp) ?_
               intro gg cp w4 hown hgrow hat hglt
               obtain ⟨⟨q0, q1, q2⟩, r0, r1, r2⟩ := cells3 ((unhide HI).keep4 (unhide hbw) hgrow)
               replace hown := hide hown
               replace hgrow := hide hgrow
               replace hat := hide hat)
            | (go_simp
               refine (HC : Calls Tryd.prog 27 #[.agg #[.int .i64 t', .string d', .slice a' l' c'], .int .i64 (k : Int)] wr.drew (CutPost wr.drew k X)).mono (fun e w2 hp => ?_)
               obtain ⟨hb2, v2, rfl, hN2⟩ := (hp : CutPost wr.drew k X e w2)
               obtain ⟨vt, vd, va, vl, vc, rfl⟩ := hN2.agg
               have hbw := hide (drawnB hb2)
               have hzw : wr.heap.size ≤ w2.heap.size := (unhide hbw).size
               have hzr : W.heap.size + 3 ≤ wr.heap.size := (unhide HI).sz
               have ho2 := hide ((owns_below (unhide HO) (unhide hbw)).alloc (.cells #[.int .i64 vt, .string vd, .slice va vl vc] 24))
               have p2 : w2.cell? ⟨W.heap.size + 1 + 1, 2, none⟩ = some (.slice sla pre.length slc) := ((unhide hbw).cell (by show W.heap.size + 1 + 1 < _; omega)).trans o2
               have p3 : ∀ o, (w2.alloc o).cell? ⟨W.heap.size + 1 + 1, 2, none⟩ = some (.slice sla pre.length slc) := fun o => (((Below.refl w2.heap.size w2).alloc (Nat.le_refl _) o).cell (by show W.heap.size + 1 + 1 < _; omega)).trans p2
               replace hN2 := hide hN2
               clear hb2))
          all_goals (
            have HZ := hide ((unhide HI).snoc (unhide HV) (unhide HNs) (unhide hbw) (unhide hN2) (unhide hown) (unhide hgrow) (unhide hat))
            have HZ2 := hide (((unhide Hnx).symm ▸ (unhide HZ) : InvK k W (tag T) d (some ⟨g, off, none⟩) len cap _ ((kids T).take (pre.length + 1)) _))
            clear HZ hown hgrow hat ho2 hN2 hbw HI HV HO HNs Hnx Hpre HC p2 p3 q0 q1 q2 r0 r1 r2 s0 s1 s2 o0 o1 o2 e0 e1 e2
            go_wp2
            go_roundw
            case rel => exact ⟨pre.length + 1, _, by omega, by simp, HZ2⟩
            case measure => simp [intOf]; omega)
        · have hkn := unhide HN
          have hie : i = (kids T).length := by omega
          subst hie
          have hIu := unhide hI
          rw [List.take_of_length_le (Nat.le_refl _)] at hIu
          obtain ⟨sla, slc, rfl⟩ := hIu.gr.form
          have hk4 : (kids T).length ≤ 4000 := by rw [hkn]; split <;> omega
          have hF := hIu.gr.node (tag T) (cutD d) (by have := cutD_size d; omega) hk4
          rw [show mk (tag T) (cutD d) (kids T) = T by rw [← unhide HD]; rfl] at hF
          obtain ⟨⟨f0, f1, f2⟩, f3, f4, f5⟩ := cells3 hIu.b1
          obtain ⟨⟨o0, o1, o2⟩, _⟩ := cells3 hIu.b2
          have HF := hide hF
          have HB := hide hIu.bel
          have hcs : ¬ (((kids T).length : Nat) : Int) < len ∨ ((((kids T).length : Nat) : Int) < len ∧ ¬ (((kids T).length : Nat) : Int) < 60) ∨ ((((kids T).length : Nat) : Int) < len ∧ (((kids T).length : Nat) : Int) < 60 ∧ ¬ (1 : Int) < (k : Int) + 1) := by
            by_cases hk1 : k = 0
            · subst hk1; omega
            · rw [if_neg hk1] at hkn; omega
          clear hIu hF hI hkn hk4 hlt hi HK
          rcases hcs with c1 | ⟨c1, c2⟩ | ⟨c1, c2, c3⟩
          · go_wp2_with fail
            refine bodyPost_ret (v := .agg #[.int .i64 (tag T), .string (cutD d), .slice sla (kids T).length slc]) (by simp [results, Tryd.results27, go_sem, f0, f1, f2]) rfl ?_
            exact ⟨set3n (unhide HB) (by omega) _ _ _, _, rfl, (set3_node (unhide HF) (by omega) _ _ _).imp fun b hb _ => by omega⟩
          · go_wp2_with fail
            refine bodyPost_ret (v := .agg #[.int .i64 (tag T), .string (cutD d), .slice sla (kids T).length slc]) (by simp [results, Tryd.results27, go_sem, f0, f1, f2]) rfl ?_
            exact ⟨set3n (unhide HB) (by omega) _ _ _, _, rfl, (set3_node (unhide HF) (by omega) _ _ _).imp fun b hb _ => by omega⟩
          · go_wp2_with fail
            refine bodyPost_ret (v := .agg #[.int .i64 (tag T), .string (cutD d), .slice sla (kids T).length slc]) (by simp [results, Tryd.results27, go_sem, f0, f1, f2]) rfl ?_
            exact ⟨set3n (unhide HB) (by omega) _ _ _, _, rfl, (set3_node (unhide HF) (by omega) _ _ _).imp fun b hb _ => by omega⟩
    | _ => exact hq.elim

set_option maxRecDepth 100000 in
theorem Cut_any (T : Tr 13) (W : World) (v : Value) (hC : CutOf 13 W v T) : Calls Tryd.prog 13 #[v] W (CutPost W 13 T) := by
  have hC' := hC
  obtain ⟨d, a, len, cap, rfl, _, _, _, _, _⟩ := hC
  have hb0 : Below W.heap.size W ((W.alloc (.cells #[.int .i64 (tag T), .string d, .slice a len cap] 24)).alloc (.cells #[.int .i64 0, .string ⟨#[]⟩, .slice none 0 0] 24)) := ((Below.refl _ _).alloc (Nat.le_refl _) _).alloc (by simp) _
  have hq : ((W.alloc (.cells #[.int .i64 (tag T), .string d, .slice a len cap] 24)).alloc (.cells #[.int .i64 0, .string ⟨#[]⟩, .slice none 0 0] 24)).heap[W.heap.size + 1]? = some (.cells #[.int .i64 0, .string ⟨#[]⟩, .slice none 0 0] 24 (0, 0)) := by
    have := World.alloc_heap_new (W.alloc (.cells #[.int .i64 (tag T), .string d, .slice a len cap] 24)) (.cells #[.int .i64 0, .string ⟨#[]⟩, .slice none 0 0] 24)
    rwa [World.size_alloc] at this
  have hsz : ((W.alloc (.cells #[.int .i64 (tag T), .string d, .slice a len cap] 24)).alloc (.cells #[.int .i64 0, .string ⟨#[]⟩, .slice none 0 0] 24)).heap.size = W.heap.size + 2 := by simp
  have H : Calls Tryd.prog 27 #[.agg #[.int .i64 (tag T), .string d, .slice a len cap], .int .i64 13] _ _ := cutAt_any 13 T _ _ (Nat.le_refl _) (hC'.below hb0)
  have HQ := hide hq
  have HS := hide hsz
  have HB := hide hb0
  clear hC' hq hsz hb0
  go_enter Tryd.func13, Tryd.ntmps13
  go_wp2_with fail
  refine H.mono ?_
  rintro e w2 ⟨hb2, v2, rfl, hN2⟩
  obtain ⟨vt, vd, va, vl, vc, rfl⟩ := hN2.agg
  have hz := unhide HS
  obtain ⟨⟨f0, f1, f2⟩, f3, f4, f5⟩ := cells3 ((hb2.block (W.heap.size + 1) (by omega)).trans (unhide HQ))
  have HB2 := hide ((unhide HB).trans (hb2.mono (unhide HB).size))
  rw [hz] at hN2
  have HN := hide hN2
  clear hb2 hN2 H HQ HS HB hz
  go_wp2_with fail
  refine bodyPost_ret (v := .agg #[.int .i64 vt, .string vd, .slice va vl vc]) (by simp [results, Tryd.results13, go_sem, f0, f1, f2]) rfl ?_
  exact ⟨set3n (unhide HB2) (by omega) _ _ _, _, rfl, (set3_node (unhide HN) (by omega) _ _ _).imp fun b hb _ => by omega⟩
end Go.Proofs.YthibodkemnkjeaaDoor
