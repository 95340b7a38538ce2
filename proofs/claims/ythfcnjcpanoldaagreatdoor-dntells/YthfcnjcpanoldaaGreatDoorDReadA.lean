/-
  What dn.readAll answers, over parts and over parts that stand together; readRdn, read. Conditions: the package-level variables hold what the program's text lays ('Glob').
-/
import Derived.Test.YthfcnjcpanoldaaGreatDoorDGrow
namespace Go.Proofs.YthfcnjcpanoldaaGreatDoor.D
open Go Go.RowKit Go.Shelf Dp
attribute [local go_sem] Oper.semAt_some

theorem row_put {W : World} {D : Nat} {base : Nat} {e : TypeId} {k : Nat} {v : Value} {n : Nat} {us : List Value} {o' : Obj} {x : Option (List Deferred)} (ho : W.ownsRow base e k v n us) (hD : W.heap[D]? = some (.deferred x)) : (W.putObj D o').ownsRow base e k v n us := by
  refine ⟨ho.1, ?_⟩
  rcases ho.2 with h | ⟨g, cap, cur, e, hg, hc, h⟩
  · exact .inl h
  · exact .inr ⟨g, cap, cur, e, hg, (World.putObj_heap_other (fun e => by subst e; rw [hc] at hD; cases hD)).trans hc, h⟩
theorem Own.put {W : World} {D : Nat} {u : Value} {r : Rd} {o' : Obj} {x : Option (List Deferred)} (h : Own W u r) (hD : W.heap[D]? = some (.deferred x)) : Own (W.putObj D o') u r :=
  h.of fun b c hb => World.putObj_heap_other (fun e => by subst e; rw [hb] at hD; cases hD)
theorem Owns.put {W : World} {D : Nat} {us : List Value} {d : Nm} {o' : Obj} {x : Option (List Deferred)} (h : Owns W us d) (hD : W.heap[D]? = some (.deferred x)) : Owns (W.putObj D o') us d :=
  h.of fun b c hb => World.putObj_heap_other (fun e => by subst e; rw [hb] at hD; cases hD)
theorem Owns.grown {W W' : World} {us : List Value} {d : Nm} {row : Option Nat} (h : Owns W us d) (hg : W.grownBy W' row) (hr : ∀ r, row = some r → ∃ o, W.heap[r]? = some o ∧ o.isCells = false) : Owns W' us d :=
  h.of fun b c hb => hg.block b (Array.getElem?_eq_some_iff.1 hb).1 (fun e => by
    obtain ⟨o, ho, hc⟩ := hr b e.symm
    rw [hb] at ho; cases ho; cases hc)
theorem Owns.below {W W' : World} {us : List Value} {d : Nm} (h : Owns W us d) (hb : Below W.heap.size W W') : Owns W' us d := h.of fun b _ hc => hb.block b (Array.getElem?_eq_some_iff.1 hc).1
/-- what is read of all pieces. -/
theorem rdAll_some {α : Type} {f : List UInt8 → Option α} {s : ByteArray} {c : UInt8} {most : Nat} {l : List α} (hc : c ≠ 92) (h : mp f ((pks s c).map fun x => (x.g s).data.toList) = some l) (hn : ∀ x ∈ pks s c, x.i ≠ most) : rdAll f most (pcs c s.data.toList) = some l := by
  rw [← pks_pcs s c hc, rdAll, List.length_map, if_pos ((pks_num s c most).1 hn), h]
theorem rdAll_many {α : Type} {f : List UInt8 → Option α} {s : ByteArray} {c : UInt8} {most : Nat} (hc : c ≠ 92) (hn : ∃ x ∈ pks s c, x.i = most) : rdAll f most (pcs c s.data.toList) = none := by
  rw [← pks_pcs s c hc, rdAll, List.length_map, if_neg]
  intro h
  obtain ⟨x, hx, he⟩ := hn
  exact (pks_num s c most).2 h x hx he
theorem rdAll_bad {α : Type} {f : List UInt8 → Option α} {s : ByteArray} {c : UInt8} {most : Nat} (hc : c ≠ 92) {xs t : List Pk} {x : Pk} (he : xs ++ [x] ++ t = pks s c) (hx : f (x.g s).data.toList = none) : rdAll f most (pcs c s.data.toList) = none := by
  rw [← pks_pcs s c hc, rdAll]
  split
  · rw [← he, List.map_append, List.map_append]
    exact mp_bad f _ _ _ hx
  · rfl

/-- what the rounds keep, and how they are left. -/
def invA (s : ByteArray) (most : Nat) (w : World) (pre : List (It fun x => (x.g s).size ≤ 1000)) (W : World) : Prop := ∃ us l sl, mp rdA ((vals pre).map fun x => (x.g s).data.toList) = some l ∧ (∀ x ∈ vals pre, x.i ≠ most) ∧ us = flatA l ∧ Lin 39 40 122 2 most 77 w us l.length sl .nilIface W
def outA (s : ByteArray) (most : Nat) (a : Ad) (w : World) (cd : Code) (pre : List (It fun x => (x.g s).size ≤ 1000)) (W : World) : Prop := cd = .exit 0 ∧ ((∃ l x, vals pre = l ++ [x] ∧ rdA (x.g s).data.toList = none) ∨ ∃ x ∈ vals pre, x.i = most) ∧ ∃ us n sl T xv, Er1 a (.iface T xv) ∧ Lin 39 40 122 2 most 77 w us n sl (.iface T xv) W
theorem endA {V : World} {D : Nat} {tmps : Array Value} {v u : Value} {R : Ending → World → Prop} (hV : V.heap[D]? = some (.deferred (some []))) (t6 : tmps.getD 6 undef = v) (t7 : tmps.getD 7 undef = u)
    (hp : R (.returned (.tuple #[v, u])) (V.putObj D (.deferred none))) :
    Exit.noGoto (bodyPostM Fence.wide 3 Tryz.prog Tryz.f76 R) Exit.ret { tmps, defers := [{ target := .collected D, args := #[] }] } V := by
  refine ⟨by simp, .inl ⟨_, _, rfl, run_takeDeferred hV, ?_⟩⟩
  refine ⟨.tuple #[v, u], ?_, hp⟩
  subst t6
  subst t7
  simp [results, Tryz.results76, go_sem]

set_option linter.unusedSimpArgs false in
set_option maxRecDepth 100000 in
set_option maxHeartbeats 4000000 in
theorem readAllA_any (s : ByteArray) (c : UInt8) (most : Nat) (a : Ad) (w : World) (g : Glob a w) (hs : s.size ≤ 5000) (hc : c ≠ 92) (hP : ∀ x ∈ pks s c, (x.g s).size ≤ 1000) :
    Calls Tryz.prog 76 #[.agg #[.string s, .int .u8 c.toNat], .int .i64 (most : Int), .func (.func 77) #[] #[]] w (RdPost (.slice none 0 0) (fun W v l => Own W v l) (Er1 a) (rdAll rdA most (pcs c s.data.toList)) w) := by
  refine (callsIn_wide (n := 3)).1 ?_
  refine callsIn_of_wp_marks Tryz.func76 rfl trivial ?_ rfl
  simp only [Tryz.ntmps76, List.size_toArray, List.length_cons, List.length_nil, Nat.reduceAdd, Nat.reduceSub, Array.replicate_succ, Array.replicate_zero, List.push_toArray, List.append_toArray, List.nil_append, List.cons_append]
  refine wpIn_wide.2 ?_
  have hmx : Tryz.prog.follows .mixedOrders = true := by kernel_rfl
  have Hg := hide g
  have HP := hide hP
  have Hc := hide hc
  clear g hP hc
  go_wp2
  refine wp_scope_straight ?_
  go_wp2
  refine wp_label ?_
  go_wp2_with fail
  refine (pieces_any s c _).mono ?_
  rintro e w' ⟨rfl, rfl⟩
  go_wp2
  obtain ⟨W0, hW0⟩ : ∃ W0, W0 = (((((w.alloc (.cells #[.string s, .int .u8 c.toNat] 76)).alloc (.cells #[.int .i64 (most : Int)] 3)).alloc (.cells #[.func (.func 77) #[] #[]] 122)).alloc (.cells #[.slice none 0 0] 40)).alloc (.cells #[.nilIface] 45)).alloc (cb s c) := ⟨_, rfl⟩
  have hz : W0.heap.size = w.heap.size + 6 := by rw [hW0]; simp
  have hSt : Lin 39 40 122 2 most 77 w [] 0 (.slice none 0 0) .nilIface W0 := by
    rw [hW0]
    refine ⟨?_, ?_, ?_, ?_, World.ownsRow_nil _ _ _ _, ?_, by simp⟩
    · rw [Below.heap_alloc _ _ _ (by simp <;> omega), Below.heap_alloc _ _ _ (by simp <;> omega), Below.heap_alloc _ _ _ (by simp <;> omega), Below.heap_alloc _ _ _ (by simp)]; have := World.alloc_heap_new (w.alloc (.cells #[.string s, .int .u8 c.toNat] 76)) (.cells #[.int .i64 (most : Int)] 3); rwa [World.size_alloc] at this
    · rw [Below.heap_alloc _ _ _ (by simp <;> omega), Below.heap_alloc _ _ _ (by simp <;> omega), Below.heap_alloc _ _ _ (by simp)]; have := World.alloc_heap_new ((w.alloc (.cells #[.string s, .int .u8 c.toNat] 76)).alloc (.cells #[.int .i64 (most : Int)] 3)) (.cells #[.func (.func 77) #[] #[]] 122); rwa [World.size_alloc, World.size_alloc] at this
    · rw [Below.heap_alloc _ _ _ (by simp <;> omega), Below.heap_alloc _ _ _ (by simp)]; have := World.alloc_heap_new (((w.alloc (.cells #[.string s, .int .u8 c.toNat] 76)).alloc (.cells #[.int .i64 (most : Int)] 3)).alloc (.cells #[.func (.func 77) #[] #[]] 122)) (.cells #[.slice none 0 0] 40); rwa [World.size_alloc, World.size_alloc, World.size_alloc] at this
    · rw [Below.heap_alloc _ _ _ (by simp)]; have := World.alloc_heap_new ((((w.alloc (.cells #[.string s, .int .u8 c.toNat] 76)).alloc (.cells #[.int .i64 (most : Int)] 3)).alloc (.cells #[.func (.func 77) #[] #[]] 122)).alloc (.cells #[.slice none 0 0] 40)) (.cells #[.nilIface] 45); rwa [World.size_alloc, World.size_alloc, World.size_alloc, World.size_alloc] at this
    · repeat (refine Below.alloc ?_ (by simp <;> omega) _)
      exact Below.refl _ _
  have hBs : W0.cell? ⟨w.heap.size + 5, 0, none⟩ = some (.string s) ∧ W0.cell? ⟨w.heap.size + 5, 1, none⟩ = some (.int .u8 (c.toNat : Int)) := by
    rw [hW0, World.cell?_alloc_at _ _ _ _ (by simp), World.cell?_alloc_at _ _ _ _ (by simp)]
    exact ⟨rfl, rfl⟩
  rw [← hW0]
  clear hW0
  refine (wpIn_wide (n := 3)).1 ?_
  refine wpIn_rangeFunc_ownF rfl (by omega) (gf := 82) (lb := #[.pointer (some ⟨w.heap.size + 5, 0, none⟩)]) rfl trivial (enters_of Tryz.func82 (by kernel_rfl) rfl)
    (pieces1_stops (fun x => (x.g s).size ≤ 1000) (3 - 1) (by omega) (w.heap.size + 5) s c W0 (by omega) (unhide HP) hBs.1 hBs.2) C.Two.trans (fun W l o o' hl h1 h2 h3 => C.Two.book (w := W0) (by omega) (by omega) W l o o' hl h1 h2 h3) (Below.refl _ _) (fun _ => rfl)
    (invA s most w) (outA s most a w)
    (fun pre A B' row hs hg hr => by
      obtain ⟨us, l, sl, h1, h2, h3, h4⟩ := hs
      exact ⟨us, l, sl, h1, h2, h3, h4.grown hg (fun r e => ⟨by have := (hr r e).1; omega, (hr r e).2⟩)⟩)
    (fun cd pre A B' row hs hg hr => by
      obtain ⟨e1, e2, us, n, sl, T, xv, h1, h4⟩ := hs
      exact ⟨e1, e2, us, n, sl, T, xv, h1, h4.grown hg (fun r e => ⟨by have := (hr r e).1; omega, (hr r e).2⟩)⟩)
    ⟨[], [], _, rfl, by simp, rfl, hSt⟩
    (fun x => { tmps := #[.agg #[.string s, .int .u8 (c.toNat : Int)], .int .i64 (most : Int), .func (.func 77) #[] #[], .pointer (some ⟨w.heap.size, 0, none⟩), .pointer (some ⟨w.heap.size + 1, 0, none⟩), .pointer (some ⟨w.heap.size + 1 + 1, 0, none⟩), .slice none 0 0, .nilIface, .pointer (some ⟨w.heap.size + 1 + 1 + 1, 0, none⟩), .pointer (some ⟨w.heap.size + 1 + 1 + 1 + 1, 0, none⟩), .int .i64 x.1.i, .string (x.1.g s), undef, undef, .agg #[.string s, .int .u8 (c.toNat : Int)], .func (.func 82) #[] #[.pointer (some ⟨w.heap.size + 1 + 1 + 1 + 1 + 1, 0, none⟩)], .int .i64 x.1.i, .string (x.1.g s), undef, undef, undef, undef, undef, undef, undef, undef, undef, undef, undef, undef, undef, undef, undef, undef, undef, undef, undef, undef, undef, undef, undef, undef, undef, undef], defers := [] }) ?assign ?body ?done ?stop
  case assign =>
    intro l x W K hK
    gi_wp2
    exact hK
  case body =>
    rintro l pre x W ⟨us, lst, sl, hmp, hno, hlies, hin⟩ hN
    go_light
    have hpl : lst.length ≤ 5001 := by
      have := mp_len rdA _ _ hmp
      rw [List.length_map, List.length_map] at this
      omega
    have H := readAva_any (x.1.g s) a W ((unhide Hg).below (Nat.le_refl _) hin.bel) x.2
    have Hsn : Hid (vals (pre ++ [x]) = vals pre ++ [x.1]) := hide (by rw [vals, List.map_append]; rfl)
    cases hr : rdA (x.1.g s).data.toList with
    | none =>
      rw [hr] at H
      have H' := hide (H.mono (R' := fun e w' => ∃ T xv, e = .returned (.tuple #[(.agg #[.string ⟨#[]⟩, .string ⟨#[]⟩]), .iface T xv]) ∧ Er0 a (.iface T xv) ∧ Below W.heap.size W w') (fun e w' ⟨hb, he⟩ => by
        rcases he with ⟨_, _, h, _⟩ | ⟨_, T, xv, h1, h2⟩
        · cases h
        · exact ⟨T, xv, h1, h2, hb⟩))
      have Hin := hide hin
      obtain ⟨⟨c1, c2⟩, c3, c4, f3, f4⟩ := hin.cl
      have Hr := hide hr
      clear H hr hin hlies hno hmp hN hSt hBs hz hpl
      generalize x.1.g s = xg at H' ⊢
      gi_wp2_with fail
      refine ⟨trivial, (E.inR (unhide H')).mono ?_⟩
      rintro e w' ⟨T, xv, rfl, he, hb⟩
      have hin1 := (unhide Hin).below (hb.alloc hb.size (.cells #[.string ⟨#[]⟩, .string ⟨#[]⟩] 39))
      have HK1 := hide ((Kl.below (w := w) (unhide Hin).size (hb.alloc hb.size (.cells #[.string ⟨#[]⟩, .string ⟨#[]⟩] 39))).trans (Kl.set _ (flt x.1.i (.iface T xv)) 4 (by omega)))
      have Hin2 := hide (hin1.setE (flt x.1.i (.iface T xv)))
      clear c1 c2 c3 c4 f3 f4
      obtain ⟨⟨c1, c2⟩, c3, c4, f3, f4⟩ := hin1.cl
      have He := hide he
      clear hin1 hb he H'
      gi_wp2
      exact ⟨(unhide HK1).1, rfl, .inl ⟨vals pre, x.1, unhide Hsn, unhide Hr⟩, _, _, _, _, _, .inr ⟨_, _, unhide He, rfl⟩, unhide Hin2⟩
    | some el =>
      rw [hr] at H
      have Hmp2 : Hid (mp rdA ((vals (pre ++ [x])).map fun x => (x.g s).data.toList) = some (lst ++ [el])) := hide (by rw [unhide Hsn, List.map_append, List.map_cons, List.map_nil, mp_snoc _ _ _ _ hmp, hr]; rfl)
      have H' := hide (H.mono (R' := fun e w' => e = .returned (.tuple #[.agg #[.string el.1, .string el.2], .nilIface]) ∧ Below W.heap.size W w') (fun e w' ⟨hb, he⟩ => by
        rcases he with ⟨_, v, h, h1, h2⟩ | ⟨h, _⟩
        · cases h
          exact ⟨by rw [h1, h2], hb⟩
        · cases h))
      have Hin := hide hin
      obtain ⟨⟨c1, c2⟩, c3, c4, f3, f4⟩ := hin.cl
      have Hno := hide hno
      have Hlies := hide hlies
      clear H hr hin hlies hno hmp hN hSt hBs hz
      obtain ⟨i0, hi0, hz0, hz1, hz2⟩ := infoA
      obtain ⟨ek, ev⟩ := el
      dsimp only at H'
      generalize x.1.g s = xg at H' ⊢
      by_cases hi : x.1.i = most
      · have hib : ((x.1.i : Int) == (most : Int)) = true := by rw [hi]; simp
        gi_wp2_with fail
        refine ⟨trivial, (E.inR (unhide H')).mono ?_⟩
        rintro e w' ⟨rfl, hb⟩
        have hin1 := (unhide Hin).below (hb.alloc hb.size (.cells #[.string ek, .string ev] 39))
        have gc := ((unhide Hg).below (Nat.le_refl _) hin1.bel).vc
        have HK1 := hide ((Kl.below (w := w) (unhide Hin).size (hb.alloc hb.size (.cells #[.string ek, .string ev] 39))).trans (Kl.set _ (sen a.c) 4 (by omega)))
        have Hin2 := hide (hin1.setE (sen a.c))
        clear c1 c2 c3 c4 f3 f4
        obtain ⟨⟨c1, c2⟩, c3, c4, f3, f4⟩ := hin1.cl
        clear hin1 hb H' hi
        gi_wp2
        exact ⟨(unhide HK1).1, rfl, .inr ⟨x.1, by rw [unhide Hsn]; simp, by have := hib; rw [beq_iff_eq] at this; omega⟩, _, _, _, _, _, .inl rfl, unhide Hin2⟩
      · have hib : ((x.1.i : Int) == (most : Int)) = false := by rw [beq_eq_false_iff_ne]; omega
        have Hno2 : Hid (∀ y ∈ vals (pre ++ [x]), y.i ≠ most) := hide (fun y hy => by
          rw [unhide Hsn] at hy
          rcases List.mem_append.1 hy with h | h
          · exact (unhide Hno) y h
          · rw [List.mem_singleton.1 h]; exact hi)
        gi_wp2_with fail
        refine ⟨trivial, (E.inR (unhide H')).mono ?_⟩
        rintro e w' ⟨rfl, hb⟩
        have hin1 := (unhide Hin).below (hb.alloc hb.size (.cells #[.string ek, .string ev] 39))
        have Hin1 := hide hin1
        have HK1 := hide (Kl.below (w := w) (unhide Hin).size (hb.alloc hb.size (.cells #[.string ek, .string ev] 39)))
        have hnw := C.news (w'.alloc (.cells #[.string ek, .string ev] 39)) [.string ek, .string ev] 39
        rw [World.size_alloc] at hnw
        have HN := hide hnw
        have HO := hide (hin1.own.alloc (.cells ([.string ek, .string ev] : List Value).toArray 39))
        have hsz := hin1.size
        rw [World.size_alloc] at hsz
        clear c1 c2 c3 c4 f3 f4
        obtain ⟨⟨c1, c2⟩, c3, c4, f3, f4⟩ := hin1.cl
        clear hin1 hb H' hi hnw
        gi_wp2_with (first
          | (gi_at_builtin; refine wpListIn_append_own _ rfl (.tmp 36) (.tmp 38) 40 rfl (w.heap.size + 6) 39 i0 (.agg #[.string ⟨#[]⟩, .string ⟨#[]⟩]) 2 32 Tryz.underlying40 hi0 hz0 hz1 hz2 rfl (by omega) sl lst.length us rfl (unhide HO) ⟨w'.heap.size + 1, 0, none⟩ 1 1 [.string ek, .string ev] rfl rfl (unhide HN) (by simp [Value.oneCell']) (by unfold maxLen; omega) (by omega) (by simp; omega) ?_; intro v' w2 hown hgrow _; obtain ⟨p1, p2, d1, d2⟩ := (unhide Hin1).app hgrow hown; have HL := hide (show us ++ [.string ek, .string ev] = flatA (lst ++ [(ek, ev)]) by rw [flatA_snoc, ← unhide Hlies]); obtain ⟨g', cap', rfl, _⟩ := hown.form (by omega); have HQ := hide p1; have HKT := hide ((unhide HK1).trans p2); clear hown hgrow p1 p2 c1 c2 c3 c4 f3 f4 HO HN)
          | gi_in)
        have hq := unhide HQ
        exact ⟨(unhide HKT).1, (unhide HKT).2, _, _, _, unhide Hmp2, unhide Hno2, unhide HL, by rw [List.length_append]; exact hq⟩
  case done =>
    rintro D ys W hD hys ⟨us, lst, sl, hmp, hno, hlies, hin⟩ hK
    have hys : vals ys = pks s c := hys
    rw [hys] at hmp hno
    have Hrr := hide (rdAll_some (unhide Hc) hmp hno)
    obtain ⟨⟨c1, c2⟩, c3, c4, f3, f4⟩ := hin.cl
    have HK := hide hK
    have Hin := hide hin
    have Hlies := hide hlies
    have hform : ∃ aa nn cc, sl = .slice aa nn cc := by
      rcases hin.own.2 with ⟨rfl, _⟩ | ⟨g, cap, cur, rfl, _⟩ <;> exact ⟨_, _, _, rfl⟩
    obtain ⟨sa, sn, sc, rfl⟩ := hform
    clear hK hin hlies hmp hno hSt hBs hys
    go_wp2
    refine endA (unhide HK) rfl rfl ⟨C.putObj_below (unhide Hin).bel (by omega), .inl ⟨_, _, unhide Hrr, rfl, ⟨_, by have := row_put (o' := .deferred none) (unhide Hin).own (unhide HK); rwa [unhide Hlies] at this⟩⟩⟩
  case stop =>
    rintro D cd pre W hD hpre ⟨rfl, hwhy, us, n, sl, T, xv, he, hin⟩ hK
    have hpre : vals pre <+: pks s c := hpre
    have Hrr : Hid (rdAll rdA most (pcs c s.data.toList) = none) := by
      obtain ⟨t, ht⟩ := hpre
      rcases hwhy with ⟨l, x, e1, e2⟩ | ⟨x, hx, e1⟩
      · exact hide (rdAll_bad (unhide Hc) (by rw [← e1]; exact ht) e2)
      · exact hide (rdAll_many (unhide Hc) ⟨x, by rw [← ht]; exact List.mem_append_left _ hx, e1⟩)
    refine wpIn_exit ?_
    obtain ⟨⟨c1, c2⟩, c3, c4, f3, f4⟩ := hin.cl
    have HK := hide hK
    have Hin := hide hin
    have He := hide he
    clear hK hin he hwhy hpre hSt hBs
    go_wp2
    go_quiet (fail)
    go_wp2
    refine endA (v := .slice none 0 0) (u := .iface T xv) (unhide HK) rfl rfl ⟨C.putObj_below (U.below_drewN (unhide Hin).bel _) (by omega), .inr ⟨unhide Hrr, _, _, rfl, unhide He⟩⟩

theorem finR {V : World} {B : Nat} {tmps : Array Value} {u er : Value} {R : Ending → World → Prop} (t2 : tmps[2]?.getD undef = .pointer (some ⟨B, 0, none⟩)) (t3 : tmps[3]?.getD undef = er) (hc0 : V.cell? ⟨B, 0, none⟩ = some u)
    (hp : R (.returned (.tuple #[.agg #[u], er])) V) :
    bodyPost Tryz.prog Tryz.f54 R Exit.ret { tmps, defers := [] } V := by
  refine bodyPost_ret (v := .tuple #[.agg #[u], er]) ?_ rfl hp
  simp [results, Tryz.results54, go_sem, t2, t3, hc0]
theorem set1_cell {V : World} {B : Nat} {a0 : Value} {t : TypeId} (h : V.heap[B]? = some (.cells #[a0] t (0, 0))) (x : Value) : (V.setCell ⟨B, 0, none⟩ x).cell? ⟨B, 0, none⟩ = some x := by
  have h1 := heap_setCell_same V B 0 _ _ x h
  simp [World.cell?, h1]
set_option maxRecDepth 100000 in
set_option maxHeartbeats 2000000 in
theorem readRdn_any (s : ByteArray) (a : Ad) (w : World) (g : Glob a w) (hs : s.size ≤ 5000) (hq : ∀ q ∈ pcs 43 s.data.toList, q.length ≤ 1000) :
    Calls Tryz.prog 54 #[.string s] w (RdPost (.agg #[.slice none 0 0]) (fun W v r => ∃ u, v = .agg #[u] ∧ Own W u r) (Er1 a) (rdR s.data.toList) w) := by
  obtain ⟨W0, hW0⟩ : ∃ W0, W0 = w.alloc (.cells #[.slice none 0 0] 42) := ⟨_, rfl⟩
  have HB := hide (show Below w.heap.size w W0 by rw [hW0]; exact (Below.refl w.heap.size w).alloc (Nat.le_refl _) _)
  have hx : W0.heap[w.heap.size]? = some (.cells #[.slice none 0 0] 42 (0, 0)) := by rw [hW0]; exact World.alloc_heap_new _ _
  have Hx := hide hx
  have H := readAllA_any s 43 3 a W0 (g.below (Nat.le_refl _) (unhide HB)) hs (by decide) (fun x hxm => by
    have h1 : (x.g s).data.toList ∈ pcs 43 s.data.toList := by rw [← pks_pcs s 43 (by decide)]; exact List.mem_map_of_mem hxm
    have := hq _ h1
    rwa [Array.length_toList] at this)
  have cl : Hid (∀ W, Below W0.heap.size W0 W → W.heap[w.heap.size]? = some (.cells #[.slice none 0 0] 42 (0, 0)) ∧ W.cell? ⟨w.heap.size, 0, none⟩ = some (.slice none 0 0) ∧ W.frozen? ⟨w.heap.size, 0, none⟩ = false) := hide fun W hb => by
    have := (hb.block _ (Array.getElem?_eq_some_iff.1 hx).1).trans hx
    simp [World.cell?, World.frozen?, this]
  have hrd : rdR s.data.toList = rdAll rdA 3 (pcs 43 s.data.toList) := rfl
  rw [← hrd] at H
  clear hx g hrd hq
  have HH := hide H
  clear H
  cases hr : rdR s.data.toList with
  | none =>
    rw [hr] at HH
    clear hr
    go_enter Tryz.func54, Tryz.ntmps54
    go_wp2_with fail
    rw [← hW0]
    refine (unhide HH).mono ?_
    rintro e w1 ⟨hb, ⟨_, _, hf, _⟩ | ⟨_, T, x, rfl, he⟩⟩
    · cases hf
    have HB1 := hide ((unhide HB).trans (hb.mono (unhide HB).size))
    obtain ⟨hlx, c0, f0⟩ := (unhide cl) _ hb
    have Hlx := hide hlx
    have He := hide he
    clear hb hW0 HH hlx he
    go_wp2
    exact finR rfl rfl (set1_cell (unhide Hlx) _) ⟨(unhide HB1).setCell (Nat.le_refl _) _, .inr ⟨rfl, _, _, rfl, unhide He⟩⟩
  | some r =>
    rw [hr] at HH
    clear hr
    go_enter Tryz.func54, Tryz.ntmps54
    go_wp2_with fail
    rw [← hW0]
    refine (unhide HH).mono ?_
    rintro e w1 ⟨hb, ⟨r', v, hf, rfl, ho⟩ | ⟨hf, _⟩⟩
    case inr => cases hf
    cases hf
    obtain ⟨ua, uc, rfl⟩ := ho.form
    have HB1 := hide ((unhide HB).trans (hb.mono (unhide HB).size))
    obtain ⟨hlx, c0, f0⟩ := (unhide cl) _ hb
    have Hlx := hide hlx
    have Ho := hide ho
    clear hb hW0 HH hlx ho
    go_wp2
    refine finR rfl rfl (set1_cell (unhide Hlx) _) ⟨(unhide HB1).setCell (Nat.le_refl _) _, .inl ⟨_, _, rfl, rfl, _, rfl, (unhide Ho).of fun b c hbc => ?_⟩⟩
    refine Below.heap_setCell _ _ _ _ (fun e => ?_)
    have e : b = w.heap.size := e
    subst e
    rw [unhide Hlx] at hbc
    cases hbc
end Go.Proofs.YthfcnjcpanoldaaGreatDoor.D
