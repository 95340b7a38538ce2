/-
  What dn.readAll answers over parts that stand together, and dn.read. Conditions: the package-level variables hold what the program's text lays ('Glob').
-/
import Derived.Test.YthfcnjcpanoldaaGreatDoorDReadA
namespace Go.Proofs.YthfcnjcpanoldaaGreatDoor.D
open Go Go.RowKit Go.Shelf Dp
attribute [local go_sem] Oper.semAt_some

/-- what the rounds keep, and how they are left. -/
def invR (s : ByteArray) (most : Nat) (w : World) (pre : List (It fun x => ∀ q ∈ pcs 43 (x.g s).data.toList, q.length ≤ 1000)) (W : World) : Prop := ∃ us l sl, mp rdR ((vals pre).map fun x => (x.g s).data.toList) = some l ∧ (∀ x ∈ vals pre, x.i ≠ most) ∧ Owns W us l ∧ Lin 42 22 77 1 most 54 w us l.length sl .nilIface W
def outR (s : ByteArray) (most : Nat) (a : Ad) (w : World) (cd : Code) (pre : List (It fun x => ∀ q ∈ pcs 43 (x.g s).data.toList, q.length ≤ 1000)) (W : World) : Prop := cd = .exit 0 ∧ ((∃ l x, vals pre = l ++ [x] ∧ rdR (x.g s).data.toList = none) ∨ ∃ x ∈ vals pre, x.i = most) ∧ ∃ us n sl T xv, Er2 a (.iface T xv) ∧ Lin 42 22 77 1 most 54 w us n sl (.iface T xv) W
theorem endR {V : World} {D : Nat} {tmps : Array Value} {v u : Value} {R : Ending → World → Prop} (hV : V.heap[D]? = some (.deferred (some []))) (t6 : tmps.getD 6 undef = v) (t7 : tmps.getD 7 undef = u)
    (hp : R (.returned (.tuple #[v, u])) (V.putObj D (.deferred none))) :
    Exit.noGoto (bodyPostM Fence.wide 3 Tryz.prog Tryz.f53 R) Exit.ret { tmps, defers := [{ target := .collected D, args := #[] }] } V := by
  refine ⟨by simp, .inl ⟨_, _, rfl, run_takeDeferred hV, ?_⟩⟩
  refine ⟨.tuple #[v, u], ?_, hp⟩
  subst t6
  subst t7
  simp [results, Tryz.results53, go_sem]

set_option linter.unusedSimpArgs false in
set_option maxRecDepth 100000 in
set_option maxHeartbeats 4000000 in
theorem readAllR_any (s : ByteArray) (c : UInt8) (most : Nat) (a : Ad) (w : World) (g : Glob a w) (hs : s.size ≤ 5000) (hc : c ≠ 92) (hP : ∀ x ∈ pks s c, ∀ q ∈ pcs 43 (x.g s).data.toList, q.length ≤ 1000) :
    Calls Tryz.prog 53 #[.agg #[.string s, .int .u8 c.toNat], .int .i64 (most : Int), .func (.func 54) #[] #[]] w (RdPost (.slice none 0 0) (fun W v l => NOwn W v l) (Er2 a) (rdAll rdR most (pcs c s.data.toList)) w) := by
  refine (callsIn_wide (n := 3)).1 ?_
  refine callsIn_of_wp_marks Tryz.func53 rfl trivial ?_ rfl
  simp only [Tryz.ntmps53, List.size_toArray, List.length_cons, List.length_nil, Nat.reduceAdd, Nat.reduceSub, Array.replicate_succ, Array.replicate_zero, List.push_toArray, List.append_toArray, List.nil_append, List.cons_append]
  refine wpIn_wide.2 ?_
  have hmx : Tryz.prog.follows .mixedOrders = true := by kernel_rfl
  have Hg := hide g
  have HP := hide hP
  have Hc := hide hc
  clear g hP hc
  go_wp2
  refine wp_scope_straight ?_
  go_wp2
  refine wp_label ?_
  go_wp2_with fail
  refine (pieces_any s c _).mono ?_
  rintro e w' ⟨rfl, rfl⟩
  go_wp2
  obtain ⟨W0, hW0⟩ : ∃ W0, W0 = (((((w.alloc (.cells #[.string s, .int .u8 c.toNat] 76)).alloc (.cells #[.int .i64 (most : Int)] 3)).alloc (.cells #[.func (.func 54) #[] #[]] 77)).alloc (.cells #[.slice none 0 0] 22)).alloc (.cells #[.nilIface] 45)).alloc (cb s c) := ⟨_, rfl⟩
  have hz : W0.heap.size = w.heap.size + 6 := by rw [hW0]; simp
  have hSt : Lin 42 22 77 1 most 54 w [] 0 (.slice none 0 0) .nilIface W0 := by
    rw [hW0]
    refine ⟨?_, ?_, ?_, ?_, World.ownsRow_nil _ _ _ _, ?_, by simp⟩
    · rw [Below.heap_alloc _ _ _ (by simp <;> omega), Below.heap_alloc _ _ _ (by simp <;> omega), Below.heap_alloc _ _ _ (by simp <;> omega), Below.heap_alloc _ _ _ (by simp)]; have := World.alloc_heap_new (w.alloc (.cells #[.string s, .int .u8 c.toNat] 76)) (.cells #[.int .i64 (most : Int)] 3); rwa [World.size_alloc] at this
    · rw [Below.heap_alloc _ _ _ (by simp <;> omega), Below.heap_alloc _ _ _ (by simp <;> omega), Below.heap_alloc _ _ _ (by simp)]; have := World.alloc_heap_new ((w.alloc (.cells #[.string s, .int .u8 c.toNat] 76)).alloc (.cells #[.int .i64 (most : Int)] 3)) (.cells #[.func (.func 54) #[] #[]] 77); rwa [World.size_alloc, World.size_alloc] at this
    · rw [Below.heap_alloc _ _ _ (by simp <;> omega), Below.heap_alloc _ _ _ (by simp)]; have := World.alloc_heap_new (((w.alloc (.cells #[.string s, .int .u8 c.toNat] 76)).alloc (.cells #[.int .i64 (most : Int)] 3)).alloc (.cells #[.func (.func 54) #[] #[]] 77)) (.cells #[.slice none 0 0] 22); rwa [World.size_alloc, World.size_alloc, World.size_alloc] at this
    · rw [Below.heap_alloc _ _ _ (by simp)]; have := World.alloc_heap_new ((((w.alloc (.cells #[.string s, .int .u8 c.toNat] 76)).alloc (.cells #[.int .i64 (most : Int)] 3)).alloc (.cells #[.func (.func 54) #[] #[]] 77)).alloc (.cells #[.slice none 0 0] 22)) (.cells #[.nilIface] 45); rwa [World.size_alloc, World.size_alloc, World.size_alloc, World.size_alloc] at this
    · repeat (refine Below.alloc ?_ (by simp <;> omega) _)
      exact Below.refl _ _
  have hBs : W0.cell? ⟨w.heap.size + 5, 0, none⟩ = some (.string s) ∧ W0.cell? ⟨w.heap.size + 5, 1, none⟩ = some (.int .u8 (c.toNat : Int)) := by
    rw [hW0, World.cell?_alloc_at _ _ _ _ (by simp), World.cell?_alloc_at _ _ _ _ (by simp)]
    exact ⟨rfl, rfl⟩
  rw [← hW0]
  clear hW0
  refine (wpIn_wide (n := 3)).1 ?_
  refine wpIn_rangeFunc_ownF rfl (by omega) (gf := 82) (lb := #[.pointer (some ⟨w.heap.size + 5, 0, none⟩)]) rfl trivial (enters_of Tryz.func82 (by kernel_rfl) rfl)
    (pieces1_stops (fun x => ∀ q ∈ pcs 43 (x.g s).data.toList, q.length ≤ 1000) (3 - 1) (by omega) (w.heap.size + 5) s c W0 (by omega) (unhide HP) hBs.1 hBs.2) C.Two.trans (fun W l o o' hl h1 h2 h3 => C.Two.book (w := W0) (by omega) (by omega) W l o o' hl h1 h2 h3) (Below.refl _ _) (fun _ => rfl)
    (invR s most w) (outR s most a w)
    (fun pre A B' row hs hg hr => by
      obtain ⟨us, l, sl, h1, h2, h3, h4⟩ := hs
      exact ⟨us, l, sl, h1, h2, h3.grown hg (fun r e => (hr r e).2), h4.grown hg (fun r e => ⟨by have := (hr r e).1; omega, (hr r e).2⟩)⟩)
    (fun cd pre A B' row hs hg hr => by
      obtain ⟨e1, e2, us, n, sl, T, xv, h1, h4⟩ := hs
      exact ⟨e1, e2, us, n, sl, T, xv, h1, h4.grown hg (fun r e => ⟨by have := (hr r e).1; omega, (hr r e).2⟩)⟩)
    ⟨[], [], _, rfl, by simp, Owns.nil _, hSt⟩
    (fun x => { tmps := #[.agg #[.string s, .int .u8 (c.toNat : Int)], .int .i64 (most : Int), .func (.func 54) #[] #[], .pointer (some ⟨w.heap.size, 0, none⟩), .pointer (some ⟨w.heap.size + 1, 0, none⟩), .pointer (some ⟨w.heap.size + 1 + 1, 0, none⟩), .slice none 0 0, .nilIface, .pointer (some ⟨w.heap.size + 1 + 1 + 1, 0, none⟩), .pointer (some ⟨w.heap.size + 1 + 1 + 1 + 1, 0, none⟩), .int .i64 x.1.i, .string (x.1.g s), undef, undef, .agg #[.string s, .int .u8 (c.toNat : Int)], .func (.func 82) #[] #[.pointer (some ⟨w.heap.size + 1 + 1 + 1 + 1 + 1, 0, none⟩)], .int .i64 x.1.i, .string (x.1.g s), undef, undef, undef, undef, undef, undef, undef, undef, undef, undef, undef, undef, undef, undef, undef, undef, undef, undef, undef, undef, undef, undef, undef, undef, undef, undef], defers := [] }) ?assign ?body ?done ?stop
  case assign =>
    intro l x W K hK
    gi_wp2
    exact hK
  case body =>
    rintro l pre x W ⟨us, lst, sl, hmp, hno, hlies, hin⟩ hN
    go_light
    have hpl : lst.length ≤ 5001 := by
      have := mp_len rdR _ _ hmp
      rw [List.length_map, List.length_map] at this
      omega
    have H := readRdn_any (x.1.g s) a W ((unhide Hg).below (Nat.le_refl _) hin.bel) (by have := ext_small s x.1.fr x.1.to; show (s.extract x.1.fr x.1.to).size ≤ 5000; omega) x.2
    have Hsn : Hid (vals (pre ++ [x]) = vals pre ++ [x.1]) := hide (by rw [vals, List.map_append]; rfl)
    cases hr : rdR (x.1.g s).data.toList with
    | none =>
      rw [hr] at H
      have H' := hide (H.mono (R' := fun e w' => ∃ T xv, e = .returned (.tuple #[(.agg #[.slice none 0 0]), .iface T xv]) ∧ Er1 a (.iface T xv) ∧ Below W.heap.size W w') (fun e w' ⟨hb, he⟩ => by
        rcases he with ⟨_, _, h, _⟩ | ⟨_, T, xv, h1, h2⟩
        · cases h
        · exact ⟨T, xv, h1, h2, hb⟩))
      have Hin := hide hin
      obtain ⟨⟨c1, c2⟩, c3, c4, f3, f4⟩ := hin.cl
      have Hr := hide hr
      clear H hr hin hlies hno hmp hN hSt hBs hz hpl
      generalize x.1.g s = xg at H' ⊢
      gi_wp2_with fail
      refine ⟨trivial, (E.inR (unhide H')).mono ?_⟩
      rintro e w' ⟨T, xv, rfl, he, hb⟩
      have hin1 := (unhide Hin).below (hb.alloc hb.size (.cells #[.slice none 0 0] 42))
      have HK1 := hide ((Kl.below (w := w) (unhide Hin).size (hb.alloc hb.size (.cells #[.slice none 0 0] 42))).trans (Kl.set _ (flt x.1.i (.iface T xv)) 4 (by omega)))
      have Hin2 := hide (hin1.setE (flt x.1.i (.iface T xv)))
      clear c1 c2 c3 c4 f3 f4
      obtain ⟨⟨c1, c2⟩, c3, c4, f3, f4⟩ := hin1.cl
      have He := hide he
      clear hin1 hb he H'
      gi_wp2
      exact ⟨(unhide HK1).1, rfl, .inl ⟨vals pre, x.1, unhide Hsn, unhide Hr⟩, _, _, _, _, _, .inr ⟨_, _, unhide He, rfl⟩, unhide Hin2⟩
    | some el =>
      rw [hr] at H
      have Hmp2 : Hid (mp rdR ((vals (pre ++ [x])).map fun x => (x.g s).data.toList) = some (lst ++ [el])) := hide (by rw [unhide Hsn, List.map_append, List.map_cons, List.map_nil, mp_snoc _ _ _ _ hmp, hr]; rfl)
      have H' := hide (H.mono (R' := fun e w' => ∃ ua uc, e = .returned (.tuple #[.agg #[.slice ua el.length uc], .nilIface]) ∧ Own w' (.slice ua el.length uc) el ∧ Below W.heap.size W w') (fun e w' ⟨hb, he⟩ => by
        rcases he with ⟨_, v, h, h1, h2⟩ | ⟨h, _⟩
        · cases h
          obtain ⟨u, rfl, hu⟩ := h2
          obtain ⟨ua, uc, rfl⟩ := hu.form
          exact ⟨ua, uc, h1, hu, hb⟩
        · cases h))
      have Hin := hide hin
      obtain ⟨⟨c1, c2⟩, c3, c4, f3, f4⟩ := hin.cl
      have Hno := hide hno
      have Hlies := hide hlies
      clear H hr hin hlies hno hmp hN hSt hBs hz
      obtain ⟨i0, hi0, hz0, hz1, hz2⟩ := infoR
      generalize x.1.g s = xg at H' ⊢
      by_cases hi : x.1.i = most
      · have hib : ((x.1.i : Int) == (most : Int)) = true := by rw [hi]; simp
        gi_wp2_with fail
        refine ⟨trivial, (E.inR (unhide H')).mono ?_⟩
        rintro e w' ⟨ua, uc, rfl, hu, hb⟩
        have hin1 := (unhide Hin).below (hb.alloc hb.size (.cells #[.slice ua el.length uc] 42))
        have gc := ((unhide Hg).below (Nat.le_refl _) hin1.bel).vc
        have HK1 := hide ((Kl.below (w := w) (unhide Hin).size (hb.alloc hb.size (.cells #[.slice ua el.length uc] 42))).trans (Kl.set _ (sen a.c) 4 (by omega)))
        have Hin2 := hide (hin1.setE (sen a.c))
        clear c1 c2 c3 c4 f3 f4
        obtain ⟨⟨c1, c2⟩, c3, c4, f3, f4⟩ := hin1.cl
        clear hin1 hb H' hi
        gi_wp2
        exact ⟨(unhide HK1).1, rfl, .inr ⟨x.1, by rw [unhide Hsn]; simp, by have := hib; rw [beq_iff_eq] at this; omega⟩, _, _, _, _, _, .inl rfl, unhide Hin2⟩
      · have hib : ((x.1.i : Int) == (most : Int)) = false := by rw [beq_eq_false_iff_ne]; omega
        have Hno2 : Hid (∀ y ∈ vals (pre ++ [x]), y.i ≠ most) := hide (fun y hy => by
          rw [unhide Hsn] at hy
          rcases List.mem_append.1 hy with h | h
          · exact (unhide Hno) y h
          · rw [List.mem_singleton.1 h]; exact hi)
        gi_wp2_with fail
        refine ⟨trivial, (E.inR (unhide H')).mono ?_⟩
        rintro e w' ⟨ua, uc, rfl, hu, hb⟩
        have hin1 := (unhide Hin).below (hb.alloc hb.size (.cells #[.slice ua el.length uc] 42))
        have Hin1 := hide hin1
        have HK1 := hide (Kl.below (w := w) (unhide Hin).size (hb.alloc hb.size (.cells #[.slice ua el.length uc] 42)))
        have hnw := C.news (w'.alloc (.cells #[.slice ua el.length uc] 42)) [.slice ua el.length uc] 42
        rw [World.size_alloc] at hnw
        have HN := hide hnw
        have HO := hide (hin1.own.alloc (.cells ([.slice ua el.length uc] : List Value).toArray 42))
        have hsz := hin1.size
        rw [World.size_alloc] at hsz
        have Hu := hide (hu.below (((Below.refl _ _).alloc (Nat.le_refl _) (.cells #[.slice ua el.length uc] 42)).alloc (by simp) (.cells #[.slice ua el.length uc] 42)))
        have Hws := hide ((unhide Hlies).below ((hb.alloc hb.size (.cells #[.slice ua el.length uc] 42)).alloc (Nat.le_trans hb.size (by simp)) (.cells #[.slice ua el.length uc] 42)))
        clear hu
        clear c1 c2 c3 c4 f3 f4
        obtain ⟨⟨c1, c2⟩, c3, c4, f3, f4⟩ := hin1.cl
        clear hin1 hb H' hi hnw
        gi_wp2_with (first
          | (gi_at_builtin; refine wpListIn_append_own _ rfl (.tmp 36) (.tmp 38) 22 rfl (w.heap.size + 6) 42 i0 (.agg #[.slice none 0 0]) 1 24 Tryz.underlying22 hi0 hz0 hz1 hz2 rfl (by omega) sl lst.length us rfl (unhide HO) ⟨w'.heap.size + 1, 0, none⟩ 1 1 [.slice ua el.length uc] rfl rfl (unhide HN) (by simp [Value.oneCell']) (by unfold maxLen; omega) (by omega) (by simp; omega) ?_; intro v' w2 hown hgrow _; obtain ⟨p1, p2, d1, d2⟩ := (unhide Hin1).app hgrow hown; have HL := hide (Owns.app (v := v') ((unhide Hws).snoc (unhide Hu)) (unhide Hin1) hgrow); obtain ⟨g', cap', rfl, _⟩ := hown.form (by omega); have HQ := hide p1; have HKT := hide ((unhide HK1).trans p2); clear hown hgrow p1 p2 c1 c2 c3 c4 f3 f4 HO HN)
          | gi_in)
        have hq := unhide HQ
        exact ⟨(unhide HKT).1, (unhide HKT).2, _, _, _, unhide Hmp2, unhide Hno2, unhide HL, by rw [List.length_append]; exact hq⟩
  case done =>
    rintro D ys W hD hys ⟨us, lst, sl, hmp, hno, hlies, hin⟩ hK
    have hys : vals ys = pks s c := hys
    rw [hys] at hmp hno
    have Hrr := hide (rdAll_some (unhide Hc) hmp hno)
    obtain ⟨⟨c1, c2⟩, c3, c4, f3, f4⟩ := hin.cl
    have HK := hide hK
    have Hin := hide hin
    have Hlies := hide hlies
    have hform : ∃ aa nn cc, sl = .slice aa nn cc := by
      rcases hin.own.2 with ⟨rfl, _⟩ | ⟨g, cap, cur, rfl, _⟩ <;> exact ⟨_, _, _, rfl⟩
    obtain ⟨sa, sn, sc, rfl⟩ := hform
    clear hK hin hlies hmp hno hSt hBs hys
    go_wp2
    refine endR (unhide HK) rfl rfl ⟨C.putObj_below (unhide Hin).bel (by omega), .inl ⟨_, _, unhide Hrr, rfl, ⟨us, _, row_put (unhide Hin).own (unhide HK), (unhide Hlies).put (unhide HK)⟩⟩⟩
  case stop =>
    rintro D cd pre W hD hpre ⟨rfl, hwhy, us, n, sl, T, xv, he, hin⟩ hK
    have hpre : vals pre <+: pks s c := hpre
    have Hrr : Hid (rdAll rdR most (pcs c s.data.toList) = none) := by
      obtain ⟨t, ht⟩ := hpre
      rcases hwhy with ⟨l, x, e1, e2⟩ | ⟨x, hx, e1⟩
      · exact hide (rdAll_bad (unhide Hc) (by rw [← e1]; exact ht) e2)
      · exact hide (rdAll_many (unhide Hc) ⟨x, by rw [← ht]; exact List.mem_append_left _ hx, e1⟩)
    refine wpIn_exit ?_
    obtain ⟨⟨c1, c2⟩, c3, c4, f3, f4⟩ := hin.cl
    have HK := hide hK
    have Hin := hide hin
    have He := hide he
    clear hK hin he hwhy hpre hSt hBs
    go_wp2
    go_quiet (fail)
    go_wp2
    refine endR (v := .slice none 0 0) (u := .iface T xv) (unhide HK) rfl rfl ⟨C.putObj_below (U.below_drewN (unhide Hin).bel _) (by omega), .inr ⟨unhide Hrr, _, _, rfl, unhide He⟩⟩

/-- read. -/
theorem read_any (s : ByteArray) (a : Ad) (w : World) (g : Glob a w) (hs : Shrt s.data.toList) :
    Calls Tryz.prog 33 #[.string s] w (RdPost (.slice none 0 0) (fun W v d => NOwn W v d) (Er2 a) (rdN s.data.toList) w) := by
  by_cases h0 : s.size = 0
  · obtain rfl : s = ⟨#[]⟩ := by
      cases s with
      | mk d => congr 1; exact Array.eq_empty_of_size_eq_zero h0
    clear h0
    go_enter Tryz.func33, Tryz.ntmps33
    go_wp2
    go_ret2
    exact ⟨Below.refl _ _, .inl ⟨[], _, rfl, rfl, [], 0, World.ownsRow_nil _ _ _ _, Owns.nil _⟩⟩
  · have hne : s.data.toList ≠ [] := fun e => h0 (by rw [show s.size = s.data.toList.length from (Array.length_toList).symm, e]; rfl)
    have hb : (s.toList == ([] : List UInt8)) = false := by rw [beq_eq_false_iff_ne, ByteArray.toList_eq]; exact hne
    have hb2 : s.toList.isEmpty = false := by rw [ByteArray.toList_eq]; simpa using hne
    have H := readAllR_any s 44 8 a w g (by have := hs.1; rwa [Array.length_toList] at this) (by decide) (fun x hxm => by
      have h1 : (x.g s).data.toList ∈ pcs 44 s.data.toList := by rw [← pks_pcs s 44 (by decide)]; exact List.mem_map_of_mem hxm
      exact hs.2 _ h1)
    have hrd : rdN s.data.toList = rdAll rdR 8 (pcs 44 s.data.toList) := by unfold rdN; rw [if_neg hne]
    rw [← hrd] at H
    have HH := hide H
    clear H hrd hne h0 hs g
    go_enter Tryz.func33, Tryz.ntmps33
    go_wp2_with fail
    refine (unhide HH).mono ?_
    rintro e w1 ⟨hbl, ⟨d, v, hf, rfl, ho⟩ | ⟨hf, T, x, rfl, he⟩⟩
    · have HB := hide hbl
      have Ho := hide ho
      have Hf := hide hf
      clear hbl ho hf HH
      go_wp2
      go_ret2
      exact ⟨unhide HB, .inl ⟨_, _, unhide Hf, rfl, unhide Ho⟩⟩
    · have HB := hide hbl
      have He := hide he
      have Hf := hide hf
      clear hbl he hf HH
      go_wp2
      go_ret2
      exact ⟨unhide HB, .inr ⟨unhide Hf, _, _, rfl, unhide He⟩⟩
end Go.Proofs.YthfcnjcpanoldaaGreatDoor.D
