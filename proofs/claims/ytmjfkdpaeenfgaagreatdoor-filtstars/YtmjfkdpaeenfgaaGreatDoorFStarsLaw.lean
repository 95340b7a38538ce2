/-
  FiltStars: a value with a star in it is a Subs of two pieces, as its text says, for any three texts. Conditions: the package-level variables hold what the program's text lays (the card ties them).
-/
import Derived.Test.YtmjfkdpaeenfgaaGreatDoorG31
import Derived.Laws.DeepStrings4
namespace Go.Proofs.YtmjfkdpaeenfgaaGreatDoor.F.Stars
open Go Go.RowKit Go.Shelf Fp Go.ChangeShapes Go.WideShapes Go.ChangeAt Go.ChangeMaps
open Go.Proofs.YtmjfkdpaeenfgaaGreatDoor.D (hide unhide)

set_option linter.unusedSimpArgs false in
set_option linter.unusedVariables false in
set_option maxRecDepth 100000 in
set_option maxHeartbeats 8000000 in
theorem walk (x0 x1 x2 : ByteArray) (a : Ad) (w : World) (g : Glob a w) (h0 : x0.size ≤ maxLen) (h1 : x1.size ≤ maxLen) (h2 : x2.size ≤ maxLen) :
    Calls Tryz.prog 8 #[.string x0, .string x1, .string x2] w fun e w' => e = .returned (.bool true) ∧ Below w.heap.size w w' := by
  unfold maxLen at h0 h1 h2
  have hk : x0.extract 0 (min (x0.size : Int) 61).toNat = x0.extract 0 61 := ext_min x0 61
  have hv : x1.extract 0 (min (x1.size : Int) 61).toNat = x1.extract 0 61 := ext_min x1 61
  have hu : x2.extract 0 (min (x2.size : Int) 61).toNat = x2.extract 0 61 := ext_min x2 61
  have zn := ext_size x0 61
  have zx := ext_size x1 61
  have zy := ext_size x2 61
  generalize x0.extract 0 61 = n at *
  generalize x1.extract 0 61 = x at *
  generalize x2.extract 0 61 = y at *
  have HSh := hide (shown_true a w g)
  have Hg := hide g
  have HT := hide fun W => isName_any n W
  have HA := hide fun W => E.filter_any x W (by omega)
  have HB := hide fun W => E.filter_any y W (by omega)
  have px := (E.pri_size false x).2
  have py := (E.pri_size false y).2
  have hz := starS_size n x y
  have HP := hide fun W g => parse_any a (starS n x y) (shrt_small (by omega)) W g
  have Hs1 : Hid (n.size ≤ 61) := hide zn
  have Hs2 : Hid ((E.pri false x).size ≤ 200) := hide (by omega)
  have Hs3 : Hid ((E.pri false y).size ≤ 200) := hide (by omega)
  have hrd := fun h1 h2 h3 => star_rd (n := n) (a := x) (b := y) h1 h2 h3
  clear g px py hz
  cases hn : okName n
  · rw [hn] at HT
    clear hrd hn
    by_cases k1 : x.size ≤ 60
    · have q1 : ¬ (60 : Int) < x.size := by omega
      by_cases k2 : y.size ≤ 60
      · have q2 : ¬ (60 : Int) < y.size := by omega
        clear k1 k2 zn zx zy
        cases ho : rdT (starS n x y).data.toList with
        | none =>
          rw [ho] at HP
          clear ho
          go_enter Tryz.func8, Tryz.ntmps8
          go_wp2_with fail
          refine (unhide HSh).mono ?_
          rintro e w1 ⟨rfl, hb⟩
          have B1 := hide hb
          clear hb HSh
          have hs1 := unhide Hs1
          go_wp2_with fail
          refine ((unhide HA) _).mono ?_
          rintro e w2 ⟨rfl, hb⟩
          have B2 := hide (step (unhide B1) hb)
          clear hb B1
          have hs2 := unhide Hs2
          go_wp2_with fail
          refine ((unhide HB) _).mono ?_
          rintro e w3 ⟨rfl, hb⟩
          have B3 := hide (step (unhide B2) hb)
          clear hb B2
          have hs3 := unhide Hs3
          go_wp2_with fail
          refine ((unhide HP) _ ((unhide Hg).below (Nat.le_refl _) (unhide B3))).mono ?_
          rintro e w4 ⟨hb, rfl⟩
          have hal := (Below.refl w4.heap.size w4).alloc (Nat.le_refl _) (Fd.obj zfd)
          have B4 := hide (step (step (unhide B3) hb) hal)
          have H4 := hide (World.alloc_heap_new w4 (Fd.obj zfd))
          clear hb hal B3 HP hs1 hs2 hs3
          go_wp2_with fail
          refine ((unhide HT) _).mono ?_
          rintro e w5 ⟨rfl, hb⟩
          have h5 := (hb.block _ (Array.getElem?_eq_some_iff.1 (unhide H4)).1).trans (unhide H4)
          obtain ⟨⟨c0, c1, c2, c3, c4, c5⟩, _⟩ := box6 h5
          dsimp only at c0 c1 c2 c3 c4 c5
          have B5 := hide (step (unhide B4) hb)
          clear hb H4 h5 B4
          go_wp2
          go_ret
          exact ⟨rfl, unhide B5⟩
        | some F =>
          rw [ho] at HP
          clear ho
          go_enter Tryz.func8, Tryz.ntmps8
          go_wp2_with fail
          refine (unhide HSh).mono ?_
          rintro e w1 ⟨rfl, hb⟩
          have B1 := hide hb
          clear hb HSh
          have hs1 := unhide Hs1
          go_wp2_with fail
          refine ((unhide HA) _).mono ?_
          rintro e w2 ⟨rfl, hb⟩
          have B2 := hide (step (unhide B1) hb)
          clear hb B1
          have hs2 := unhide Hs2
          go_wp2_with fail
          refine ((unhide HB) _).mono ?_
          rintro e w3 ⟨rfl, hb⟩
          have B3 := hide (step (unhide B2) hb)
          clear hb B2
          have hs3 := unhide Hs3
          go_wp2_with fail
          refine ((unhide HP) _ ((unhide Hg).below (Nat.le_refl _) (unhide B3))).mono ?_
          rintro e w4 ⟨hb, ⟨dk, da, dv, dsa, dsn, dsc, df, dla, dln, dlc⟩, rfl, hN⟩
          clear hN
          have hal := (Below.refl w4.heap.size w4).alloc (Nat.le_refl _) (Fd.obj ⟨dk, da, dv, dsa, dsn, dsc, df, dla, dln, dlc⟩)
          have B4 := hide (step (step (unhide B3) hb) hal)
          have H4 := hide (World.alloc_heap_new w4 (Fd.obj ⟨dk, da, dv, dsa, dsn, dsc, df, dla, dln, dlc⟩))
          clear hb hal B3 HP hs1 hs2 hs3
          go_wp2_with fail
          refine ((unhide HT) _).mono ?_
          rintro e w5 ⟨rfl, hb⟩
          have h5 := (hb.block _ (Array.getElem?_eq_some_iff.1 (unhide H4)).1).trans (unhide H4)
          obtain ⟨⟨c0, c1, c2, c3, c4, c5⟩, _⟩ := box6 h5
          dsimp only at c0 c1 c2 c3 c4 c5
          have B5 := hide (step (unhide B4) hb)
          clear hb H4 h5 B4
          go_wp2
          go_ret
          exact ⟨rfl, unhide B5⟩
      · have q2 : (60 : Int) < y.size := by omega
        clear k1 k2 zn zx zy
        cases ho : rdT (starS n x y).data.toList with
        | none =>
          rw [ho] at HP
          clear ho
          go_enter Tryz.func8, Tryz.ntmps8
          go_wp2_with fail
          refine (unhide HSh).mono ?_
          rintro e w1 ⟨rfl, hb⟩
          have B1 := hide hb
          clear hb HSh
          have hs1 := unhide Hs1
          go_wp2_with fail
          refine ((unhide HA) _).mono ?_
          rintro e w2 ⟨rfl, hb⟩
          have B2 := hide (step (unhide B1) hb)
          clear hb B1
          have hs2 := unhide Hs2
          go_wp2_with fail
          refine ((unhide HB) _).mono ?_
          rintro e w3 ⟨rfl, hb⟩
          have B3 := hide (step (unhide B2) hb)
          clear hb B2
          have hs3 := unhide Hs3
          go_wp2_with fail
          refine ((unhide HP) _ ((unhide Hg).below (Nat.le_refl _) (unhide B3))).mono ?_
          rintro e w4 ⟨hb, rfl⟩
          have hal := (Below.refl w4.heap.size w4).alloc (Nat.le_refl _) (Fd.obj zfd)
          have B4 := hide (step (step (unhide B3) hb) hal)
          have H4 := hide (World.alloc_heap_new w4 (Fd.obj zfd))
          clear hb hal B3 HP hs1 hs2 hs3
          go_wp2_with fail
          refine ((unhide HT) _).mono ?_
          rintro e w5 ⟨rfl, hb⟩
          have h5 := (hb.block _ (Array.getElem?_eq_some_iff.1 (unhide H4)).1).trans (unhide H4)
          obtain ⟨⟨c0, c1, c2, c3, c4, c5⟩, _⟩ := box6 h5
          dsimp only at c0 c1 c2 c3 c4 c5
          have B5 := hide (step (unhide B4) hb)
          clear hb H4 h5 B4
          go_wp2
          go_ret
          exact ⟨rfl, unhide B5⟩
        | some F =>
          rw [ho] at HP
          clear ho
          go_enter Tryz.func8, Tryz.ntmps8
          go_wp2_with fail
          refine (unhide HSh).mono ?_
          rintro e w1 ⟨rfl, hb⟩
          have B1 := hide hb
          clear hb HSh
          have hs1 := unhide Hs1
          go_wp2_with fail
          refine ((unhide HA) _).mono ?_
          rintro e w2 ⟨rfl, hb⟩
          have B2 := hide (step (unhide B1) hb)
          clear hb B1
          have hs2 := unhide Hs2
          go_wp2_with fail
          refine ((unhide HB) _).mono ?_
          rintro e w3 ⟨rfl, hb⟩
          have B3 := hide (step (unhide B2) hb)
          clear hb B2
          have hs3 := unhide Hs3
          go_wp2_with fail
          refine ((unhide HP) _ ((unhide Hg).below (Nat.le_refl _) (unhide B3))).mono ?_
          rintro e w4 ⟨hb, ⟨dk, da, dv, dsa, dsn, dsc, df, dla, dln, dlc⟩, rfl, hN⟩
          clear hN
          have hal := (Below.refl w4.heap.size w4).alloc (Nat.le_refl _) (Fd.obj ⟨dk, da, dv, dsa, dsn, dsc, df, dla, dln, dlc⟩)
          have B4 := hide (step (step (unhide B3) hb) hal)
          have H4 := hide (World.alloc_heap_new w4 (Fd.obj ⟨dk, da, dv, dsa, dsn, dsc, df, dla, dln, dlc⟩))
          clear hb hal B3 HP hs1 hs2 hs3
          go_wp2_with fail
          refine ((unhide HT) _).mono ?_
          rintro e w5 ⟨rfl, hb⟩
          have h5 := (hb.block _ (Array.getElem?_eq_some_iff.1 (unhide H4)).1).trans (unhide H4)
          obtain ⟨⟨c0, c1, c2, c3, c4, c5⟩, _⟩ := box6 h5
          dsimp only at c0 c1 c2 c3 c4 c5
          have B5 := hide (step (unhide B4) hb)
          clear hb H4 h5 B4
          go_wp2
          go_ret
          exact ⟨rfl, unhide B5⟩
    · have q1 : (60 : Int) < x.size := by omega
      clear k1 zn zx zy
      cases ho : rdT (starS n x y).data.toList with
      | none =>
        rw [ho] at HP
        clear ho
        go_enter Tryz.func8, Tryz.ntmps8
        go_wp2_with fail
        refine (unhide HSh).mono ?_
        rintro e w1 ⟨rfl, hb⟩
        have B1 := hide hb
        clear hb HSh
        have hs1 := unhide Hs1
        go_wp2_with fail
        refine ((unhide HA) _).mono ?_
        rintro e w2 ⟨rfl, hb⟩
        have B2 := hide (step (unhide B1) hb)
        clear hb B1
        have hs2 := unhide Hs2
        go_wp2_with fail
        refine ((unhide HB) _).mono ?_
        rintro e w3 ⟨rfl, hb⟩
        have B3 := hide (step (unhide B2) hb)
        clear hb B2
        have hs3 := unhide Hs3
        go_wp2_with fail
        refine ((unhide HP) _ ((unhide Hg).below (Nat.le_refl _) (unhide B3))).mono ?_
        rintro e w4 ⟨hb, rfl⟩
        have hal := (Below.refl w4.heap.size w4).alloc (Nat.le_refl _) (Fd.obj zfd)
        have B4 := hide (step (step (unhide B3) hb) hal)
        have H4 := hide (World.alloc_heap_new w4 (Fd.obj zfd))
        clear hb hal B3 HP hs1 hs2 hs3
        go_wp2_with fail
        refine ((unhide HT) _).mono ?_
        rintro e w5 ⟨rfl, hb⟩
        have h5 := (hb.block _ (Array.getElem?_eq_some_iff.1 (unhide H4)).1).trans (unhide H4)
        obtain ⟨⟨c0, c1, c2, c3, c4, c5⟩, _⟩ := box6 h5
        dsimp only at c0 c1 c2 c3 c4 c5
        have B5 := hide (step (unhide B4) hb)
        clear hb H4 h5 B4
        go_wp2
        go_ret
        exact ⟨rfl, unhide B5⟩
      | some F =>
        rw [ho] at HP
        clear ho
        go_enter Tryz.func8, Tryz.ntmps8
        go_wp2_with fail
        refine (unhide HSh).mono ?_
        rintro e w1 ⟨rfl, hb⟩
        have B1 := hide hb
        clear hb HSh
        have hs1 := unhide Hs1
        go_wp2_with fail
        refine ((unhide HA) _).mono ?_
        rintro e w2 ⟨rfl, hb⟩
        have B2 := hide (step (unhide B1) hb)
        clear hb B1
        have hs2 := unhide Hs2
        go_wp2_with fail
        refine ((unhide HB) _).mono ?_
        rintro e w3 ⟨rfl, hb⟩
        have B3 := hide (step (unhide B2) hb)
        clear hb B2
        have hs3 := unhide Hs3
        go_wp2_with fail
        refine ((unhide HP) _ ((unhide Hg).below (Nat.le_refl _) (unhide B3))).mono ?_
        rintro e w4 ⟨hb, ⟨dk, da, dv, dsa, dsn, dsc, df, dla, dln, dlc⟩, rfl, hN⟩
        clear hN
        have hal := (Below.refl w4.heap.size w4).alloc (Nat.le_refl _) (Fd.obj ⟨dk, da, dv, dsa, dsn, dsc, df, dla, dln, dlc⟩)
        have B4 := hide (step (step (unhide B3) hb) hal)
        have H4 := hide (World.alloc_heap_new w4 (Fd.obj ⟨dk, da, dv, dsa, dsn, dsc, df, dla, dln, dlc⟩))
        clear hb hal B3 HP hs1 hs2 hs3
        go_wp2_with fail
        refine ((unhide HT) _).mono ?_
        rintro e w5 ⟨rfl, hb⟩
        have h5 := (hb.block _ (Array.getElem?_eq_some_iff.1 (unhide H4)).1).trans (unhide H4)
        obtain ⟨⟨c0, c1, c2, c3, c4, c5⟩, _⟩ := box6 h5
        dsimp only at c0 c1 c2 c3 c4 c5
        have B5 := hide (step (unhide B4) hb)
        clear hb H4 h5 B4
        go_wp2
        go_ret
        exact ⟨rfl, unhide B5⟩
  · rw [hn] at HT
    by_cases k1 : x.size ≤ 60
    · have q1 : ¬ (60 : Int) < x.size := by omega
      by_cases k2 : y.size ≤ 60
      · have q2 : ¬ (60 : Int) < y.size := by omega
        rw [hrd hn k1 k2] at HP
        clear hrd hn k1 k2
        by_cases hh : x.size = 0 ∧ y.size = 0
        · rw [if_pos hh] at HP
          obtain rfl := size_nil hh.1
          obtain rfl := size_nil hh.2
          clear hh zn zx zy
          go_enter Tryz.func8, Tryz.ntmps8
          go_wp2_with fail
          refine (unhide HSh).mono ?_
          rintro e w1 ⟨rfl, hb⟩
          have B1 := hide hb
          clear hb HSh
          have hs1 := unhide Hs1
          go_wp2_with fail
          refine ((unhide HA) _).mono ?_
          rintro e w2 ⟨rfl, hb⟩
          have B2 := hide (step (unhide B1) hb)
          clear hb B1
          have hs2 := unhide Hs2
          go_wp2_with fail
          refine ((unhide HB) _).mono ?_
          rintro e w3 ⟨rfl, hb⟩
          have B3 := hide (step (unhide B2) hb)
          clear hb B2
          have hs3 := unhide Hs3
          go_wp2_with fail
          refine ((unhide HP) _ ((unhide Hg).below (Nat.le_refl _) (unhide B3))).mono ?_
          rintro e w4 ⟨hb, ⟨dk, da, dv, dsa, dsn, dsc, df, dla, dln, dlc⟩, rfl, hN⟩
          obtain rfl : dk = 7 := hN.is.k
          clear hN
          have hal := (Below.refl w4.heap.size w4).alloc (Nat.le_refl _) (Fd.obj ⟨7, da, dv, dsa, dsn, dsc, df, dla, dln, dlc⟩)
          have B4 := hide (step (step (unhide B3) hb) hal)
          have H4 := hide (World.alloc_heap_new w4 (Fd.obj ⟨7, da, dv, dsa, dsn, dsc, df, dla, dln, dlc⟩))
          clear hb hal B3 HP hs1 hs2 hs3
          go_wp2_with fail
          refine ((unhide HT) _).mono ?_
          rintro e w5 ⟨rfl, hb⟩
          have h5 := (hb.block _ (Array.getElem?_eq_some_iff.1 (unhide H4)).1).trans (unhide H4)
          obtain ⟨⟨c0, c1, c2, c3, c4, c5⟩, _⟩ := box6 h5
          dsimp only at c0 c1 c2 c3 c4 c5
          have B5 := hide (step (unhide B4) hb)
          clear hb H4 h5 B4
          go_wp2
          go_ret
          exact ⟨rfl, unhide B5⟩
        · rw [if_neg hh] at HP
          have ne : ∀ s : ByteArray, s.size ≠ 0 → ¬ s.toList = [] ∧ s.toList.isEmpty = false := fun s hs => by
            have h : ¬ s.toList = [] := fun e => by
              rw [ByteArray.toList_eq] at e
              have := congrArg List.length e
              rw [Array.length_toList] at this
              exact hs this
            exact ⟨h, by simpa using h⟩
          by_cases hx0 : x.size = 0
          · obtain ⟨ey, ey'⟩ := ne y (by omega)
            obtain rfl := size_nil hx0
            clear hh zn zx zy ne hx0
            go_enter Tryz.func8, Tryz.ntmps8
            go_wp2_with fail
            refine (unhide HSh).mono ?_
            rintro e w1 ⟨rfl, hb⟩
            have B1 := hide hb
            clear hb HSh
            have hs1 := unhide Hs1
            go_wp2_with fail
            refine ((unhide HA) _).mono ?_
            rintro e w2 ⟨rfl, hb⟩
            have B2 := hide (step (unhide B1) hb)
            clear hb B1
            have hs2 := unhide Hs2
            go_wp2_with fail
            refine ((unhide HB) _).mono ?_
            rintro e w3 ⟨rfl, hb⟩
            have B3 := hide (step (unhide B2) hb)
            clear hb B2
            have hs3 := unhide Hs3
            go_wp2_with fail
            refine ((unhide HP) _ ((unhide Hg).below (Nat.le_refl _) (unhide B3))).mono ?_
            rintro e w4 ⟨hb, ⟨dk, da, dv, dsa, dsn, dsc, df, dla, dln, dlc⟩, rfl, hN⟩
            obtain rfl : dk = 4 := hN.is.k
            have ha : da = n := hN.is.a
            have hv' : dv = _ := hN.is.v
            have hf : df = _ := hN.is.f
            subst ha hv' hf
            obtain rfl : dsn = 0 := hN.is.sn
            clear hN
            have hal := (Below.refl w4.heap.size w4).alloc (Nat.le_refl _) (Fd.obj ⟨4, da, ⟨#[]⟩, dsa, 0, dsc, df, dla, dln, dlc⟩)
            have B4 := hide (step (step (unhide B3) hb) hal)
            have H4 := hide (World.alloc_heap_new w4 (Fd.obj ⟨4, da, ⟨#[]⟩, dsa, 0, dsc, df, dla, dln, dlc⟩))
            clear hb hal B3 HP hs1 hs2 hs3
            go_wp2_with fail
            refine ((unhide HT) _).mono ?_
            rintro e w5 ⟨rfl, hb⟩
            have h5 := (hb.block _ (Array.getElem?_eq_some_iff.1 (unhide H4)).1).trans (unhide H4)
            obtain ⟨⟨c0, c1, c2, c3, c4, c5⟩, _⟩ := box6 h5
            dsimp only at c0 c1 c2 c3 c4 c5
            have B5 := hide (step (unhide B4) hb)
            clear hb H4 h5 B4
            go_wp2
            go_ret
            exact ⟨rfl, unhide B5⟩
          · obtain ⟨ex, ex'⟩ := ne x hx0
            by_cases hy0 : y.size = 0
            · obtain rfl := size_nil hy0
              clear hh zn zx zy ne hx0 hy0
              go_enter Tryz.func8, Tryz.ntmps8
              go_wp2_with fail
              refine (unhide HSh).mono ?_
              rintro e w1 ⟨rfl, hb⟩
              have B1 := hide hb
              clear hb HSh
              have hs1 := unhide Hs1
              go_wp2_with fail
              refine ((unhide HA) _).mono ?_
              rintro e w2 ⟨rfl, hb⟩
              have B2 := hide (step (unhide B1) hb)
              clear hb B1
              have hs2 := unhide Hs2
              go_wp2_with fail
              refine ((unhide HB) _).mono ?_
              rintro e w3 ⟨rfl, hb⟩
              have B3 := hide (step (unhide B2) hb)
              clear hb B2
              have hs3 := unhide Hs3
              go_wp2_with fail
              refine ((unhide HP) _ ((unhide Hg).below (Nat.le_refl _) (unhide B3))).mono ?_
              rintro e w4 ⟨hb, ⟨dk, da, dv, dsa, dsn, dsc, df, dla, dln, dlc⟩, rfl, hN⟩
              obtain rfl : dk = 4 := hN.is.k
              have ha : da = n := hN.is.a
              have hv' : dv = _ := hN.is.v
              have hf : df = _ := hN.is.f
              subst ha hv' hf
              obtain rfl : dsn = 0 := hN.is.sn
              clear hN
              have hal := (Below.refl w4.heap.size w4).alloc (Nat.le_refl _) (Fd.obj ⟨4, da, dv, dsa, 0, dsc, ⟨#[]⟩, dla, dln, dlc⟩)
              have B4 := hide (step (step (unhide B3) hb) hal)
              have H4 := hide (World.alloc_heap_new w4 (Fd.obj ⟨4, da, dv, dsa, 0, dsc, ⟨#[]⟩, dla, dln, dlc⟩))
              clear hb hal B3 HP hs1 hs2 hs3
              go_wp2_with fail
              refine ((unhide HT) _).mono ?_
              rintro e w5 ⟨rfl, hb⟩
              have h5 := (hb.block _ (Array.getElem?_eq_some_iff.1 (unhide H4)).1).trans (unhide H4)
              obtain ⟨⟨c0, c1, c2, c3, c4, c5⟩, _⟩ := box6 h5
              dsimp only at c0 c1 c2 c3 c4 c5
              have B5 := hide (step (unhide B4) hb)
              clear hb H4 h5 B4
              go_wp2
              go_ret
              exact ⟨rfl, unhide B5⟩
            · obtain ⟨ey, ey'⟩ := ne y hy0
              clear hh zn zx zy ne hx0 hy0
              go_enter Tryz.func8, Tryz.ntmps8
              go_wp2_with fail
              refine (unhide HSh).mono ?_
              rintro e w1 ⟨rfl, hb⟩
              have B1 := hide hb
              clear hb HSh
              have hs1 := unhide Hs1
              go_wp2_with fail
              refine ((unhide HA) _).mono ?_
              rintro e w2 ⟨rfl, hb⟩
              have B2 := hide (step (unhide B1) hb)
              clear hb B1
              have hs2 := unhide Hs2
              go_wp2_with fail
              refine ((unhide HB) _).mono ?_
              rintro e w3 ⟨rfl, hb⟩
              have B3 := hide (step (unhide B2) hb)
              clear hb B2
              have hs3 := unhide Hs3
              go_wp2_with fail
              refine ((unhide HP) _ ((unhide Hg).below (Nat.le_refl _) (unhide B3))).mono ?_
              rintro e w4 ⟨hb, ⟨dk, da, dv, dsa, dsn, dsc, df, dla, dln, dlc⟩, rfl, hN⟩
              obtain rfl : dk = 4 := hN.is.k
              have ha : da = n := hN.is.a
              have hv' : dv = _ := hN.is.v
              have hf : df = _ := hN.is.f
              subst ha hv' hf
              obtain rfl : dsn = 0 := hN.is.sn
              clear hN
              have hal := (Below.refl w4.heap.size w4).alloc (Nat.le_refl _) (Fd.obj ⟨4, da, dv, dsa, 0, dsc, df, dla, dln, dlc⟩)
              have B4 := hide (step (step (unhide B3) hb) hal)
              have H4 := hide (World.alloc_heap_new w4 (Fd.obj ⟨4, da, dv, dsa, 0, dsc, df, dla, dln, dlc⟩))
              clear hb hal B3 HP hs1 hs2 hs3
              go_wp2_with fail
              refine ((unhide HT) _).mono ?_
              rintro e w5 ⟨rfl, hb⟩
              have h5 := (hb.block _ (Array.getElem?_eq_some_iff.1 (unhide H4)).1).trans (unhide H4)
              obtain ⟨⟨c0, c1, c2, c3, c4, c5⟩, _⟩ := box6 h5
              dsimp only at c0 c1 c2 c3 c4 c5
              have B5 := hide (step (unhide B4) hb)
              clear hb H4 h5 B4
              go_wp2
              go_ret
              exact ⟨rfl, unhide B5⟩
      · have q2 : (60 : Int) < y.size := by omega
        clear k1 k2 zn zx zy hrd hn
        cases ho : rdT (starS n x y).data.toList with
        | none =>
          rw [ho] at HP
          clear ho
          go_enter Tryz.func8, Tryz.ntmps8
          go_wp2_with fail
          refine (unhide HSh).mono ?_
          rintro e w1 ⟨rfl, hb⟩
          have B1 := hide hb
          clear hb HSh
          have hs1 := unhide Hs1
          go_wp2_with fail
          refine ((unhide HA) _).mono ?_
          rintro e w2 ⟨rfl, hb⟩
          have B2 := hide (step (unhide B1) hb)
          clear hb B1
          have hs2 := unhide Hs2
          go_wp2_with fail
          refine ((unhide HB) _).mono ?_
          rintro e w3 ⟨rfl, hb⟩
          have B3 := hide (step (unhide B2) hb)
          clear hb B2
          have hs3 := unhide Hs3
          go_wp2_with fail
          refine ((unhide HP) _ ((unhide Hg).below (Nat.le_refl _) (unhide B3))).mono ?_
          rintro e w4 ⟨hb, rfl⟩
          have hal := (Below.refl w4.heap.size w4).alloc (Nat.le_refl _) (Fd.obj zfd)
          have B4 := hide (step (step (unhide B3) hb) hal)
          have H4 := hide (World.alloc_heap_new w4 (Fd.obj zfd))
          clear hb hal B3 HP hs1 hs2 hs3
          go_wp2_with fail
          refine ((unhide HT) _).mono ?_
          rintro e w5 ⟨rfl, hb⟩
          have h5 := (hb.block _ (Array.getElem?_eq_some_iff.1 (unhide H4)).1).trans (unhide H4)
          obtain ⟨⟨c0, c1, c2, c3, c4, c5⟩, _⟩ := box6 h5
          dsimp only at c0 c1 c2 c3 c4 c5
          have B5 := hide (step (unhide B4) hb)
          clear hb H4 h5 B4
          go_wp2
          go_ret
          exact ⟨rfl, unhide B5⟩
        | some F =>
          rw [ho] at HP
          clear ho
          go_enter Tryz.func8, Tryz.ntmps8
          go_wp2_with fail
          refine (unhide HSh).mono ?_
          rintro e w1 ⟨rfl, hb⟩
          have B1 := hide hb
          clear hb HSh
          have hs1 := unhide Hs1
          go_wp2_with fail
          refine ((unhide HA) _).mono ?_
          rintro e w2 ⟨rfl, hb⟩
          have B2 := hide (step (unhide B1) hb)
          clear hb B1
          have hs2 := unhide Hs2
          go_wp2_with fail
          refine ((unhide HB) _).mono ?_
          rintro e w3 ⟨rfl, hb⟩
          have B3 := hide (step (unhide B2) hb)
          clear hb B2
          have hs3 := unhide Hs3
          go_wp2_with fail
          refine ((unhide HP) _ ((unhide Hg).below (Nat.le_refl _) (unhide B3))).mono ?_
          rintro e w4 ⟨hb, ⟨dk, da, dv, dsa, dsn, dsc, df, dla, dln, dlc⟩, rfl, hN⟩
          clear hN
          have hal := (Below.refl w4.heap.size w4).alloc (Nat.le_refl _) (Fd.obj ⟨dk, da, dv, dsa, dsn, dsc, df, dla, dln, dlc⟩)
          have B4 := hide (step (step (unhide B3) hb) hal)
          have H4 := hide (World.alloc_heap_new w4 (Fd.obj ⟨dk, da, dv, dsa, dsn, dsc, df, dla, dln, dlc⟩))
          clear hb hal B3 HP hs1 hs2 hs3
          go_wp2_with fail
          refine ((unhide HT) _).mono ?_
          rintro e w5 ⟨rfl, hb⟩
          have h5 := (hb.block _ (Array.getElem?_eq_some_iff.1 (unhide H4)).1).trans (unhide H4)
          obtain ⟨⟨c0, c1, c2, c3, c4, c5⟩, _⟩ := box6 h5
          dsimp only at c0 c1 c2 c3 c4 c5
          have B5 := hide (step (unhide B4) hb)
          clear hb H4 h5 B4
          go_wp2
          go_ret
          exact ⟨rfl, unhide B5⟩
    · have q1 : (60 : Int) < x.size := by omega
      clear k1 zn zx zy hrd hn
      cases ho : rdT (starS n x y).data.toList with
      | none =>
        rw [ho] at HP
        clear ho
        go_enter Tryz.func8, Tryz.ntmps8
        go_wp2_with fail
        refine (unhide HSh).mono ?_
        rintro e w1 ⟨rfl, hb⟩
        have B1 := hide hb
        clear hb HSh
        have hs1 := unhide Hs1
        go_wp2_with fail
        refine ((unhide HA) _).mono ?_
        rintro e w2 ⟨rfl, hb⟩
        have B2 := hide (step (unhide B1) hb)
        clear hb B1
        have hs2 := unhide Hs2
        go_wp2_with fail
        refine ((unhide HB) _).mono ?_
        rintro e w3 ⟨rfl, hb⟩
        have B3 := hide (step (unhide B2) hb)
        clear hb B2
        have hs3 := unhide Hs3
        go_wp2_with fail
        refine ((unhide HP) _ ((unhide Hg).below (Nat.le_refl _) (unhide B3))).mono ?_
        rintro e w4 ⟨hb, rfl⟩
        have hal := (Below.refl w4.heap.size w4).alloc (Nat.le_refl _) (Fd.obj zfd)
        have B4 := hide (step (step (unhide B3) hb) hal)
        have H4 := hide (World.alloc_heap_new w4 (Fd.obj zfd))
        clear hb hal B3 HP hs1 hs2 hs3
        go_wp2_with fail
        refine ((unhide HT) _).mono ?_
        rintro e w5 ⟨rfl, hb⟩
        have h5 := (hb.block _ (Array.getElem?_eq_some_iff.1 (unhide H4)).1).trans (unhide H4)
        obtain ⟨⟨c0, c1, c2, c3, c4, c5⟩, _⟩ := box6 h5
        dsimp only at c0 c1 c2 c3 c4 c5
        have B5 := hide (step (unhide B4) hb)
        clear hb H4 h5 B4
        go_wp2
        go_ret
        exact ⟨rfl, unhide B5⟩
      | some F =>
        rw [ho] at HP
        clear ho
        go_enter Tryz.func8, Tryz.ntmps8
        go_wp2_with fail
        refine (unhide HSh).mono ?_
        rintro e w1 ⟨rfl, hb⟩
        have B1 := hide hb
        clear hb HSh
        have hs1 := unhide Hs1
        go_wp2_with fail
        refine ((unhide HA) _).mono ?_
        rintro e w2 ⟨rfl, hb⟩
        have B2 := hide (step (unhide B1) hb)
        clear hb B1
        have hs2 := unhide Hs2
        go_wp2_with fail
        refine ((unhide HB) _).mono ?_
        rintro e w3 ⟨rfl, hb⟩
        have B3 := hide (step (unhide B2) hb)
        clear hb B2
        have hs3 := unhide Hs3
        go_wp2_with fail
        refine ((unhide HP) _ ((unhide Hg).below (Nat.le_refl _) (unhide B3))).mono ?_
        rintro e w4 ⟨hb, ⟨dk, da, dv, dsa, dsn, dsc, df, dla, dln, dlc⟩, rfl, hN⟩
        clear hN
        have hal := (Below.refl w4.heap.size w4).alloc (Nat.le_refl _) (Fd.obj ⟨dk, da, dv, dsa, dsn, dsc, df, dla, dln, dlc⟩)
        have B4 := hide (step (step (unhide B3) hb) hal)
        have H4 := hide (World.alloc_heap_new w4 (Fd.obj ⟨dk, da, dv, dsa, dsn, dsc, df, dla, dln, dlc⟩))
        clear hb hal B3 HP hs1 hs2 hs3
        go_wp2_with fail
        refine ((unhide HT) _).mono ?_
        rintro e w5 ⟨rfl, hb⟩
        have h5 := (hb.block _ (Array.getElem?_eq_some_iff.1 (unhide H4)).1).trans (unhide H4)
        obtain ⟨⟨c0, c1, c2, c3, c4, c5⟩, _⟩ := box6 h5
        dsimp only at c0 c1 c2 c3 c4 c5
        have B5 := hide (step (unhide B4) hb)
        clear hb H4 h5 B4
        go_wp2
        go_ret
        exact ⟨rfl, unhide B5⟩

set_option maxRecDepth 100000 in
/-- What the walk gives, for every argument. -/
theorem contract (H : Type) (enc : TypeId × Value → H) (W : World) (base : Nat) (args : Array Value) (ds gs : List (DataW H)) (before : List MemPlace)
    (hval : ∀ (j : Nat) t v, Tryz.f8.params[j]? = some t → args[j]? = some v → Value.okWide Tryz.prog W .any base t v)
    (hW : DataW.Whole enc Tryz.prog Tryz.f8.params.toList Rows.filtStarsSpec.vars false W args.toList ds gs before) (hL : laidMetH Tryz.prog Rows.filtStarsRow.laid W) :
    Calls Tryz.prog 8 args W fun e W' => ∃ v, e = .returned v ∧ Rows.filtStarsSpec.post enc Tryz.prog Tryz.f8 false true false false W args v W' := by
  obtain ⟨a, g⟩ := glob_of_laid hL
  have hW' := hW
  obtain ⟨p, q, hA0, hV, rfl, hfz, hnd⟩ := hW
  have hA : DataW.TrodAll enc Tryz.prog W 0 (fun _ => true) true Tryz.f8.params.toList args.toList ds p := hA0
  rw [Tryz.params8] at hA hval
  obtain ⟨v0, vs0, d0, ds0, p0, q0, hargs0, rfl, rfl, h0, r0⟩ := trodAll_cons hA
  obtain ⟨v1, vs1, d1, ds1, p1, q1, hargs1, rfl, rfl, h1, r1⟩ := trodAll_cons r0
  obtain ⟨v2, vs2, d2, ds2, p2, q2, hargs2, rfl, rfl, h2, r2⟩ := trodAll_cons r1
  obtain ⟨rfl, rfl, rfl⟩ := trodAll_nil r2
  obtain rfl : args = #[v0, v1, v2] := by cases args; simp_all
  obtain ⟨rfl, rfl⟩ := trodVars_none hV
  obtain ⟨x0, rfl, rfl, rfl, wf0⟩ := open_string Tryz.underlying9 (hval 0 9 v0 rfl rfl) h0
  obtain ⟨x1, rfl, rfl, rfl, wf1⟩ := open_string Tryz.underlying9 (hval 1 9 v1 rfl rfl) h1
  obtain ⟨x2, rfl, rfl, rfl, wf2⟩ := open_string Tryz.underlying9 (hval 2 9 v2 rfl rfl) h2
  clear hA0
  simp only [List.append_nil] at hW'
  refine (walk x0 x1 x2 a W g wf0 wf1 wf2).mono fun e W' ⟨he, hg⟩ => ?_
  subst he
  refine ⟨_, rfl, _, _, _, [], [], [], hW', ?_, ?_, ?_, hg.frame _, fun h => by cases h⟩
  · exact trodAll_cons_mk (shut_bool Tryz.underlying4 _) trodAll_mk0
  · exact trodAll_cons_mk (shut_string Tryz.underlying9 wf0) (trodAll_cons_mk (shut_string Tryz.underlying9 wf1) (trodAll_cons_mk (shut_string Tryz.underlying9 wf2) (trodAll_mk0)))
  · rfl

theorem reads (os : Os) {H : Type} (enc : TypeId × Value → H) : ∃ places, DataW.whole enc Tryz.prog (({ World.holding Tryz.prog os ⟨#[.cells #[.string sentS0] 276, .cells #[.string sentS1] 276, .cells #[.string sentS2] 276, .cells #[.string sentS3] 276, .cells #[.string sentS4] 276, .cells #[.string sentS5] 276, .cells #[.string sentS6] 276, .cells #[.string sentS7] 276, .cells #[.string sentS8] 276, .cells #[.string sentS9] 276, .cells #[.string sentS10] 276, .cells #[.string sentS11] 276, .cells #[.string sentS12] 276], #[], []⟩ with heap := ((((((((((((((((World.holding Tryz.prog os ⟨#[.cells #[.string sentS0] 276, .cells #[.string sentS1] 276, .cells #[.string sentS2] 276, .cells #[.string sentS3] 276, .cells #[.string sentS4] 276, .cells #[.string sentS5] 276, .cells #[.string sentS6] 276, .cells #[.string sentS7] 276, .cells #[.string sentS8] 276, .cells #[.string sentS9] 276, .cells #[.string sentS10] 276, .cells #[.string sentS11] 276, .cells #[.string sentS12] 276], #[], []⟩).heap.modify 15 fun | .cells _ t frozen => .cells #[.iface 258 (.pointer (some ⟨(World.holding Tryz.prog default ⟨#[], #[], []⟩).heap.size + 0, 0, none⟩))] t frozen | o => o).modify 14 fun | .cells _ t frozen => .cells #[.iface 258 (.pointer (some ⟨(World.holding Tryz.prog default ⟨#[], #[], []⟩).heap.size + 1, 0, none⟩))] t frozen | o => o).modify 16 fun | .cells _ t frozen => .cells #[.iface 258 (.pointer (some ⟨(World.holding Tryz.prog default ⟨#[], #[], []⟩).heap.size + 2, 0, none⟩))] t frozen | o => o).modify 13 fun | .cells _ t frozen => .cells #[.iface 258 (.pointer (some ⟨(World.holding Tryz.prog default ⟨#[], #[], []⟩).heap.size + 3, 0, none⟩))] t frozen | o => o).modify 11 fun | .cells _ t frozen => .cells #[.iface 258 (.pointer (some ⟨(World.holding Tryz.prog default ⟨#[], #[], []⟩).heap.size + 4, 0, none⟩))] t frozen | o => o).modify 12 fun | .cells _ t frozen => .cells #[.iface 258 (.pointer (some ⟨(World.holding Tryz.prog default ⟨#[], #[], []⟩).heap.size + 5, 0, none⟩))] t frozen | o => o).modify 0 fun | .cells _ t frozen => .cells #[.iface 258 (.pointer (some ⟨(World.holding Tryz.prog default ⟨#[], #[], []⟩).heap.size + 6, 0, none⟩))] t frozen | o => o).modify 1 fun | .cells _ t frozen => .cells #[.iface 258 (.pointer (some ⟨(World.holding Tryz.prog default ⟨#[], #[], []⟩).heap.size + 7, 0, none⟩))] t frozen | o => o).modify 2 fun | .cells _ t frozen => .cells #[.iface 258 (.pointer (some ⟨(World.holding Tryz.prog default ⟨#[], #[], []⟩).heap.size + 8, 0, none⟩))] t frozen | o => o).modify 3 fun | .cells _ t frozen => .cells #[.iface 258 (.pointer (some ⟨(World.holding Tryz.prog default ⟨#[], #[], []⟩).heap.size + 9, 0, none⟩))] t frozen | o => o).modify 4 fun | .cells _ t frozen => .cells #[.iface 258 (.pointer (some ⟨(World.holding Tryz.prog default ⟨#[], #[], []⟩).heap.size + 10, 0, none⟩))] t frozen | o => o).modify 5 fun | .cells _ t frozen => .cells #[.iface 258 (.pointer (some ⟨(World.holding Tryz.prog default ⟨#[], #[], []⟩).heap.size + 11, 0, none⟩))] t frozen | o => o).modify 6 fun | .cells _ t frozen => .cells #[.iface 258 (.pointer (some ⟨(World.holding Tryz.prog default ⟨#[], #[], []⟩).heap.size + 12, 0, none⟩))] t frozen | o => o).modify 10 fun | .cells _ t frozen => .cells (([128,191,160,191,128,159,144,191,128,143,0,0,0,0,0,0,0,0,0,0,0,0,0,0,0,0,0,0,0,0,0,0] : List Nat).map fun (n : Nat) => Value.int .u8 (n : Int)).toArray t frozen | o => o).modify 9 fun | .cells _ t frozen => .cells ((Go.Pinned.utf8FirstZ : List Nat).map fun (n : Nat) => Value.int .u8 (n : Int)).toArray t frozen | o => o).modify 7 fun | .cells _ t frozen => .cells #[.iface 153 (.agg #[.pointer (some ⟨17, 47, none⟩)])] t frozen | o => o } : World).forCall (fun _ _ => 0) ⟨#[], #[.string ⟨#[]⟩, .string ⟨#[]⟩, .string ⟨#[]⟩], []⟩).memory Tryz.f8.params.toList Rows.filtStarsSpec.vars false #[Value.string ⟨#[]⟩, Value.string ⟨#[]⟩, Value.string ⟨#[]⟩].toList 8 = some ([.lit (.string []), .lit (.string []), .lit (.string [])], [], places) :=
  ⟨[], by kernel_rfl⟩

set_option maxRecDepth 100000 in
theorem lifted (os : Os) (started : os.Started) (H : Type) (enc : TypeId × Value → H) (F : Stop.Interp) :
    ReturnsInHanded {} Tryz.checked os 8 .any ((OpenSpec.ofChange Rows.filtStarsSpec).preRow enc Tryz.prog Tryz.f8 Rows.filtStarsRow.domain false Rows.filtStarsRow.laid) (((OpenSpec.ofChange Rows.filtStarsSpec).at F).post enc Tryz.prog Tryz.f8 false true false false) := by
  obtain ⟨places, hx⟩ := reads os enc
  refine returnsInHanded_of_row (C := Tryz.checked) (s := OpenSpec.ofChange Rows.filtStarsSpec) own started (by kernel_rfl) Tryz.func8
    (witness_row_at (enc := enc) (C := Tryz.checked) false ({ World.holding Tryz.prog os ⟨#[.cells #[.string sentS0] 276, .cells #[.string sentS1] 276, .cells #[.string sentS2] 276, .cells #[.string sentS3] 276, .cells #[.string sentS4] 276, .cells #[.string sentS5] 276, .cells #[.string sentS6] 276, .cells #[.string sentS7] 276, .cells #[.string sentS8] 276, .cells #[.string sentS9] 276, .cells #[.string sentS10] 276, .cells #[.string sentS11] 276, .cells #[.string sentS12] 276], #[], []⟩ with heap := ((((((((((((((((World.holding Tryz.prog os ⟨#[.cells #[.string sentS0] 276, .cells #[.string sentS1] 276, .cells #[.string sentS2] 276, .cells #[.string sentS3] 276, .cells #[.string sentS4] 276, .cells #[.string sentS5] 276, .cells #[.string sentS6] 276, .cells #[.string sentS7] 276, .cells #[.string sentS8] 276, .cells #[.string sentS9] 276, .cells #[.string sentS10] 276, .cells #[.string sentS11] 276, .cells #[.string sentS12] 276], #[], []⟩).heap.modify 15 fun | .cells _ t frozen => .cells #[.iface 258 (.pointer (some ⟨(World.holding Tryz.prog default ⟨#[], #[], []⟩).heap.size + 0, 0, none⟩))] t frozen | o => o).modify 14 fun | .cells _ t frozen => .cells #[.iface 258 (.pointer (some ⟨(World.holding Tryz.prog default ⟨#[], #[], []⟩).heap.size + 1, 0, none⟩))] t frozen | o => o).modify 16 fun | .cells _ t frozen => .cells #[.iface 258 (.pointer (some ⟨(World.holding Tryz.prog default ⟨#[], #[], []⟩).heap.size + 2, 0, none⟩))] t frozen | o => o).modify 13 fun | .cells _ t frozen => .cells #[.iface 258 (.pointer (some ⟨(World.holding Tryz.prog default ⟨#[], #[], []⟩).heap.size + 3, 0, none⟩))] t frozen | o => o).modify 11 fun | .cells _ t frozen => .cells #[.iface 258 (.pointer (some ⟨(World.holding Tryz.prog default ⟨#[], #[], []⟩).heap.size + 4, 0, none⟩))] t frozen | o => o).modify 12 fun | .cells _ t frozen => .cells #[.iface 258 (.pointer (some ⟨(World.holding Tryz.prog default ⟨#[], #[], []⟩).heap.size + 5, 0, none⟩))] t frozen | o => o).modify 0 fun | .cells _ t frozen => .cells #[.iface 258 (.pointer (some ⟨(World.holding Tryz.prog default ⟨#[], #[], []⟩).heap.size + 6, 0, none⟩))] t frozen | o => o).modify 1 fun | .cells _ t frozen => .cells #[.iface 258 (.pointer (some ⟨(World.holding Tryz.prog default ⟨#[], #[], []⟩).heap.size + 7, 0, none⟩))] t frozen | o => o).modify 2 fun | .cells _ t frozen => .cells #[.iface 258 (.pointer (some ⟨(World.holding Tryz.prog default ⟨#[], #[], []⟩).heap.size + 8, 0, none⟩))] t frozen | o => o).modify 3 fun | .cells _ t frozen => .cells #[.iface 258 (.pointer (some ⟨(World.holding Tryz.prog default ⟨#[], #[], []⟩).heap.size + 9, 0, none⟩))] t frozen | o => o).modify 4 fun | .cells _ t frozen => .cells #[.iface 258 (.pointer (some ⟨(World.holding Tryz.prog default ⟨#[], #[], []⟩).heap.size + 10, 0, none⟩))] t frozen | o => o).modify 5 fun | .cells _ t frozen => .cells #[.iface 258 (.pointer (some ⟨(World.holding Tryz.prog default ⟨#[], #[], []⟩).heap.size + 11, 0, none⟩))] t frozen | o => o).modify 6 fun | .cells _ t frozen => .cells #[.iface 258 (.pointer (some ⟨(World.holding Tryz.prog default ⟨#[], #[], []⟩).heap.size + 12, 0, none⟩))] t frozen | o => o).modify 10 fun | .cells _ t frozen => .cells (([128,191,160,191,128,159,144,191,128,143,0,0,0,0,0,0,0,0,0,0,0,0,0,0,0,0,0,0,0,0,0,0] : List Nat).map fun (n : Nat) => Value.int .u8 (n : Int)).toArray t frozen | o => o).modify 9 fun | .cells _ t frozen => .cells ((Go.Pinned.utf8FirstZ : List Nat).map fun (n : Nat) => Value.int .u8 (n : Int)).toArray t frozen | o => o).modify 7 fun | .cells _ t frozen => .cells #[.iface 153 (.agg #[.pointer (some ⟨17, 47, none⟩)])] t frozen | o => o } : World) #[.string ⟨#[]⟩, .string ⟨#[]⟩, .string ⟨#[]⟩] rfl (by kernel_rfl) (by kernel_rfl) (by kernel_rfl)
      (OpenSpec.preRow_of_cond 8 hx (by kernel_rfl) (fun k hk => by cases hk) (by kernel_rfl) (laid_met os _))) ?_
  intro W base args ds gs before hval hW _ _ _ hL _ _
  exact contract H enc W base args ds gs before hval hW hL

theorem said : Rows.FiltStarsSaid :=
  OpenClaim.holds_of_cond 8 Tryz.f8 rfl rfl rfl rfl rfl rfl rfl ⟨rfl, rfl, rfl, rfl, rfl⟩ rfl rfl rfl rfl rfl (by kernel_rfl) Tryz.func8 (by kernel_rfl)
    (of_decide_eq_true (by kernel_rfl)) (by unfold Func.isWrapper; first | (rw [if_pos (by decide +kernel)]; kernel_rfl) | (rw [if_neg (by decide +kernel)]; exact ⟨rfl, rfl⟩))
    (fun os started H enc _ F => by rw [OpenClaim.pre_eq_preRow]; exact lifted os started H enc F)

theorem plain (f : FuncId) (fn : Func) (hf : Tryz.pinned.checked.prog.funcNamed "latiner/latinerlaw08.FiltStars" = some f) (hfn : Tryz.pinned.checked.prog.funcs[f]? = some fn) :
    true = Tryz.pinned.checked.prog.looks [] ∧ ∀ (j : Nat) t, fn.params[j]? = some t → Tryz.pinned.checked.prog.wantsStandIn t = false := by
  obtain rfl : f = 8 := Option.some.inj ((show Tryz.prog.funcNamed "latiner/latinerlaw08.FiltStars" = some 8 by kernel_rfl).symm.trans hf) |>.symm
  obtain rfl : fn = Tryz.f8 := (Option.some.inj (Tryz.func8.symm.trans hfn)).symm
  refine ⟨by kernel_rfl, fun j t ht => ?_⟩
  rw [Tryz.params8] at ht
  have hm : t = 9 := by have := Array.mem_of_getElem? ht; simp at this; first | exact this | omega | (rcases this with h | h | h <;> simp [h]) | (rcases this with h | h | h | h <;> simp [h])
  subst hm
  exact (show Tryz.prog.wantsStandIn 9 = false by kernel_rfl)

/-- The card. -/
theorem card : Rows.FiltStarsCardSaid :=
  Claim7.holds_tied_plain_at .later [] _ _ _ _ said (fun _ h => by cases h) (by kernel_rfl) (fun _ h => by cases h) filtStars_row_tie rfl ⟨rfl, rfl⟩ (by kernel_rfl) rfl plain (by kernel_rfl)
end Go.Proofs.YtmjfkdpaeenfgaaGreatDoor.F.Stars

namespace Go.Proofs.YtmjfkdpaeenfgaaGreatDoor
theorem filtStars_holds : Rows.FiltStarsCardSaid := F.Stars.card
#print axioms filtStars_holds
end Go.Proofs.YtmjfkdpaeenfgaaGreatDoor
