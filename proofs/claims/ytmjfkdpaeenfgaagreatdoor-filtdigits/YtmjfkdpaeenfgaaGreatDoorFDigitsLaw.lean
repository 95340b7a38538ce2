/-
  FiltDigits: a value whose bytes are all printed by their digits is read as it is, for any two texts. Conditions: the package-level variables hold what the program's text lays (the card ties them).
-/
import Derived.Test.YtmjfkdpaeenfgaaGreatDoorG31
import Derived.Test.YtmjfkdpaeenfgaaGreatDoorFDig
import Derived.Laws.DeepStrings4
namespace Go.Proofs.YtmjfkdpaeenfgaaGreatDoor.F.Digits
open Go Go.RowKit Go.Shelf Fp Go.ChangeShapes Go.WideShapes Go.ChangeAt Go.ChangeMaps
open Go.Proofs.YtmjfkdpaeenfgaaGreatDoor.D (hide unhide)

set_option linter.unusedSimpArgs false in
set_option linter.unusedVariables false in
set_option maxRecDepth 100000 in
set_option maxHeartbeats 8000000 in
theorem walk (x0 x1 : ByteArray) (a : Ad) (w : World) (g : Glob a w) (h0 : x0.size ≤ maxLen) (h1 : x1.size ≤ maxLen) :
    Calls Tryz.prog 10 #[.string x0, .string x1] w fun e w' => e = .returned (.bool true) ∧ Below w.heap.size w w' := by
  unfold maxLen at h0 h1
  have hk : x0.extract 0 (min (x0.size : Int) 61).toNat = x0.extract 0 61 := ext_min x0 61
  have hv : x1.extract 0 (min (x1.size : Int) 61).toNat = x1.extract 0 61 := ext_min x1 61
  have zk := ext_size x0 61
  have zv := ext_size x1 61
  generalize x0.extract 0 61 = k at *
  generalize x1.extract 0 61 = v at *
  have HSh := hide (shown_true a w g)
  have Hg := hide g
  have HT := hide fun W => isName_any k W
  clear g
  have hk1 : k.size ≤ 61 := zk
  go_enter Tryz.func10, Tryz.ntmps10
  go_wp2_with fail
  refine (unhide HSh).mono ?_
  rintro e w1 ⟨rfl, hb⟩
  have B1 := hide hb
  clear hb HSh
  go_wp2
  have zv' : (v.size : Int) ≤ 61 := by omega
  clear hk hv hk1
  go_loopw [6, 7] (fun st ix wr => ∃ (i : Nat) (S : ByteArray), i ≤ v.size ∧ st = .string S ∧ ix = .int .i64 (i : Int) ∧ Hid (S.data.toList = 40 :: k.data.toList ++ 61 :: dgs (v.data.toList.take i)) ∧ Hid (Below w.heap.size w wr))
    (fun _ ix _ => v.size - (intOf ix).toNat)
  case atStart => exact ⟨0, _, Nat.zero_le _, rfl, rfl, hide (by rw [E.data_app, E.data_app]; simp [dgs]), B1⟩
  case round =>
    obtain ⟨i, S, hi, rfl, rfl, hS, hb⟩ := hrel
    clear B1
    have hSz : S.size ≤ 246 := by
      have h1 := congrArg List.length (unhide hS)
      rw [Array.length_toList, List.length_append, List.length_cons, List.length_cons, dgs_len, List.length_take, Array.length_toList, Array.length_toList] at h1
      have h2 : S.data.size = S.size := rfl
      have h3 : k.data.size = k.size := rfl
      have h4 : v.data.size = v.size := rfl
      omega
    by_cases hlt : i < v.size
    · have hlt' : (i : Int) < v.size := by omega
      have hlt2 : (i : Int) + 1 ≤ v.size := by omega
      have hn := hide (next_text hlt (unhide hS))
      have hsl := fun wx => run_slice_string (P := Tryz.prog) (w := wx) 9 v .i64 .i64 (i : Int) ((i : Int) + 1) Tryz.underlying9 (by omega) (by omega) (by omega)
      rw [show ((i : Int)).toNat = i by omega, show ((i : Int) + 1).toNat = i + 1 by omega] at hsl
      have hp1 : v.extract i (i + 1) = ⟨#[v[i]]⟩ := by
        have := E.pc_one hlt
        unfold E.pc at this
        rwa [Nat.min_eq_left (by omega)] at this
      rw [hp1] at hsl
      have HX := hide fun W => E.hex_one v[i] W
      have hhx : (⟨(Ec.hx v[i]).toArray⟩ : ByteArray).size = 2 := rfl
      generalize v[i] = y at *
      generalize (⟨(Ec.hx y).toArray⟩ : ByteArray) = hy at *
      have hs1 : S.size ≤ 9223372036854775806 := by omega
      have hs2 : S.size + 1 + hy.size ≤ 9223372036854775807 := by omega
      have hi61 : (i : Int) ≤ 61 := by omega
      clear hp1 hhx hSz
      go_wp2_with fail
      refine ((unhide HX) _).mono ?_
      rintro e w2 ⟨rfl, hb2⟩
      have B2 := hide (step (unhide hb) hb2)
      clear hb2 HX
      go_wp2
      go_roundw
      case rel => exact ⟨i + 1, _, by omega, rfl, by simp, hn, B2⟩
      case measure => simp [intOf]; omega
    · have hge : ¬ (i : Int) < v.size := by omega
      have hS2 := unhide hS
      rw [List.take_of_length_le (by rw [Array.length_toList]; show v.size ≤ i; omega)] at hS2
      have hS3 : (S ++ ⟨#[41]⟩ : ByteArray).data.toList = 40 :: (k.data.toList ++ 61 :: dgs v.data.toList) ++ [41] := by rw [E.data_app, hS2]; rfl
      have HP := hide (parse_any a (S ++ ⟨#[41]⟩) (shrt_small (by rw [ByteArray.size_append]; show S.size + 1 ≤ 1000; omega)) wr ((unhide Hg).below (Nat.le_refl _) (unhide hb)))
      have hsz : S.size ≤ 300 := by omega
      cases hn : okName k
      · rw [hn] at HT
        clear hS3
        by_cases k1 : v.size ≤ 60
        · have q1 : ¬ (60 : Int) < v.size := by omega
          cases ho : rdT (S ++ ⟨#[41]⟩).data.toList with
          | none =>
            rw [ho] at HP
            clear ho
            clear hS hS2 hge
            go_wp2_with fail
            refine (unhide HP).mono ?_
            rintro e w4 ⟨hb4, rfl⟩
            have hal := (Below.refl w4.heap.size w4).alloc (Nat.le_refl _) (Fd.obj zfd)
            have B4 := hide (step (step (unhide hb) hb4) hal)
            have H4 := hide (World.alloc_heap_new w4 (Fd.obj zfd))
            clear hb4 hal HP
            go_wp2_with fail
            refine ((unhide HT) _).mono ?_
            rintro e w5 ⟨rfl, hb5⟩
            have h5 := (hb5.block _ (Array.getElem?_eq_some_iff.1 (unhide H4)).1).trans (unhide H4)
            obtain ⟨⟨c0, c1, c2, c3, c4, c5⟩, _⟩ := box6 h5
            dsimp only at c0 c1 c2 c3 c4 c5
            have B5 := hide (step (unhide B4) hb5)
            clear hb5 H4 h5 B4
            go_wp2
            go_ret
            exact ⟨rfl, unhide B5⟩
          | some F =>
            rw [ho] at HP
            clear ho
            clear hS hS2 hge
            go_wp2_with fail
            refine (unhide HP).mono ?_
            rintro e w4 ⟨hb4, ⟨dk, da, dv, dsa, dsn, dsc, df, dla, dln, dlc⟩, rfl, hN⟩
            clear hN
            have hal := (Below.refl w4.heap.size w4).alloc (Nat.le_refl _) (Fd.obj ⟨dk, da, dv, dsa, dsn, dsc, df, dla, dln, dlc⟩)
            have B4 := hide (step (step (unhide hb) hb4) hal)
            have H4 := hide (World.alloc_heap_new w4 (Fd.obj ⟨dk, da, dv, dsa, dsn, dsc, df, dla, dln, dlc⟩))
            clear hb4 hal HP
            go_wp2_with fail
            refine ((unhide HT) _).mono ?_
            rintro e w5 ⟨rfl, hb5⟩
            have h5 := (hb5.block _ (Array.getElem?_eq_some_iff.1 (unhide H4)).1).trans (unhide H4)
            obtain ⟨⟨c0, c1, c2, c3, c4, c5⟩, _⟩ := box6 h5
            dsimp only at c0 c1 c2 c3 c4 c5
            have B5 := hide (step (unhide B4) hb5)
            clear hb5 H4 h5 B4
            go_wp2
            go_ret
            exact ⟨rfl, unhide B5⟩
        · have q1 : (60 : Int) < v.size := by omega
          cases ho : rdT (S ++ ⟨#[41]⟩).data.toList with
          | none =>
            rw [ho] at HP
            clear ho
            clear hS hS2 hge
            go_wp2_with fail
            refine (unhide HP).mono ?_
            rintro e w4 ⟨hb4, rfl⟩
            have hal := (Below.refl w4.heap.size w4).alloc (Nat.le_refl _) (Fd.obj zfd)
            have B4 := hide (step (step (unhide hb) hb4) hal)
            have H4 := hide (World.alloc_heap_new w4 (Fd.obj zfd))
            clear hb4 hal HP
            go_wp2_with fail
            refine ((unhide HT) _).mono ?_
            rintro e w5 ⟨rfl, hb5⟩
            have h5 := (hb5.block _ (Array.getElem?_eq_some_iff.1 (unhide H4)).1).trans (unhide H4)
            obtain ⟨⟨c0, c1, c2, c3, c4, c5⟩, _⟩ := box6 h5
            dsimp only at c0 c1 c2 c3 c4 c5
            have B5 := hide (step (unhide B4) hb5)
            clear hb5 H4 h5 B4
            go_wp2
            go_ret
            exact ⟨rfl, unhide B5⟩
          | some F =>
            rw [ho] at HP
            clear ho
            clear hS hS2 hge
            go_wp2_with fail
            refine (unhide HP).mono ?_
            rintro e w4 ⟨hb4, ⟨dk, da, dv, dsa, dsn, dsc, df, dla, dln, dlc⟩, rfl, hN⟩
            clear hN
            have hal := (Below.refl w4.heap.size w4).alloc (Nat.le_refl _) (Fd.obj ⟨dk, da, dv, dsa, dsn, dsc, df, dla, dln, dlc⟩)
            have B4 := hide (step (step (unhide hb) hb4) hal)
            have H4 := hide (World.alloc_heap_new w4 (Fd.obj ⟨dk, da, dv, dsa, dsn, dsc, df, dla, dln, dlc⟩))
            clear hb4 hal HP
            go_wp2_with fail
            refine ((unhide HT) _).mono ?_
            rintro e w5 ⟨rfl, hb5⟩
            have h5 := (hb5.block _ (Array.getElem?_eq_some_iff.1 (unhide H4)).1).trans (unhide H4)
            obtain ⟨⟨c0, c1, c2, c3, c4, c5⟩, _⟩ := box6 h5
            dsimp only at c0 c1 c2 c3 c4 c5
            have B5 := hide (step (unhide B4) hb5)
            clear hb5 H4 h5 B4
            go_wp2
            go_ret
            exact ⟨rfl, unhide B5⟩
      · rw [hn] at HT
        by_cases k1 : v.size ≤ 60
        · have q1 : ¬ (60 : Int) < v.size := by omega
          rw [hS3, dig_rd hn k1] at HP
          clear hS hS2 hge
          go_wp2_with fail
          refine (unhide HP).mono ?_
          rintro e w4 ⟨hb4, ⟨dk, da, dv, dsa, dsn, dsc, df, dla, dln, dlc⟩, rfl, hN⟩
          have HN4 := hide hN
          clear hN
          have hal := (Below.refl w4.heap.size w4).alloc (Nat.le_refl _) (Fd.obj ⟨dk, da, dv, dsa, dsn, dsc, df, dla, dln, dlc⟩)
          have B4 := hide (step (step (unhide hb) hb4) hal)
          have H4 := hide (World.alloc_heap_new w4 (Fd.obj ⟨dk, da, dv, dsa, dsn, dsc, df, dla, dln, dlc⟩))
          have hal0 := hal
          clear hb4 hal HP
          go_wp2_with fail
          refine ((unhide HT) _).mono ?_
          rintro e w5 ⟨rfl, hb5⟩
          have h5 := (hb5.block _ (Array.getElem?_eq_some_iff.1 (unhide H4)).1).trans (unhide H4)
          obtain ⟨⟨c0, c1, c2, c3, c4, c5⟩, _⟩ := box6 h5
          dsimp only at c0 c1 c2 c3 c4 c5
          have B5 := hide (step (unhide B4) hb5)
          have hN5 := ((unhide HN4).below hal0).below hb5
          have HS := hide (same_any 8 (itF 3 k v) (itF 3 k v) w5 _ _ _ _ hN5 (itF_node w5 (by omega) (by omega)))
          rw [(same_iff 8 _ _).2 rfl] at HS
          clear hb5 H4 h5 B4 HN4 hN5 hal0
          go_wp2_with fail
          refine (unhide HS).mono ?_
          rintro e w6 ⟨rfl, hb6⟩
          have B6 := hide (step (unhide B5) hb6)
          clear hb6 HS B5
          go_wp2
          go_ret
          exact ⟨rfl, unhide B6⟩
        · have q1 : (60 : Int) < v.size := by omega
          clear hS3
          cases ho : rdT (S ++ ⟨#[41]⟩).data.toList with
          | none =>
            rw [ho] at HP
            clear ho
            clear hS hS2 hge
            go_wp2_with fail
            refine (unhide HP).mono ?_
            rintro e w4 ⟨hb4, rfl⟩
            have hal := (Below.refl w4.heap.size w4).alloc (Nat.le_refl _) (Fd.obj zfd)
            have B4 := hide (step (step (unhide hb) hb4) hal)
            have H4 := hide (World.alloc_heap_new w4 (Fd.obj zfd))
            clear hb4 hal HP
            go_wp2_with fail
            refine ((unhide HT) _).mono ?_
            rintro e w5 ⟨rfl, hb5⟩
            have h5 := (hb5.block _ (Array.getElem?_eq_some_iff.1 (unhide H4)).1).trans (unhide H4)
            obtain ⟨⟨c0, c1, c2, c3, c4, c5⟩, _⟩ := box6 h5
            dsimp only at c0 c1 c2 c3 c4 c5
            have B5 := hide (step (unhide B4) hb5)
            clear hb5 H4 h5 B4
            go_wp2
            go_ret
            exact ⟨rfl, unhide B5⟩
          | some F =>
            rw [ho] at HP
            clear ho
            clear hS hS2 hge
            go_wp2_with fail
            refine (unhide HP).mono ?_
            rintro e w4 ⟨hb4, ⟨dk, da, dv, dsa, dsn, dsc, df, dla, dln, dlc⟩, rfl, hN⟩
            clear hN
            have hal := (Below.refl w4.heap.size w4).alloc (Nat.le_refl _) (Fd.obj ⟨dk, da, dv, dsa, dsn, dsc, df, dla, dln, dlc⟩)
            have B4 := hide (step (step (unhide hb) hb4) hal)
            have H4 := hide (World.alloc_heap_new w4 (Fd.obj ⟨dk, da, dv, dsa, dsn, dsc, df, dla, dln, dlc⟩))
            clear hb4 hal HP
            go_wp2_with fail
            refine ((unhide HT) _).mono ?_
            rintro e w5 ⟨rfl, hb5⟩
            have h5 := (hb5.block _ (Array.getElem?_eq_some_iff.1 (unhide H4)).1).trans (unhide H4)
            obtain ⟨⟨c0, c1, c2, c3, c4, c5⟩, _⟩ := box6 h5
            dsimp only at c0 c1 c2 c3 c4 c5
            have B5 := hide (step (unhide B4) hb5)
            clear hb5 H4 h5 B4
            go_wp2
            go_ret
            exact ⟨rfl, unhide B5⟩

set_option maxRecDepth 100000 in
/-- What the walk gives, for every argument. -/
theorem contract (H : Type) (enc : TypeId × Value → H) (W : World) (base : Nat) (args : Array Value) (ds gs : List (DataW H)) (before : List MemPlace)
    (hval : ∀ (j : Nat) t v, Tryz.f10.params[j]? = some t → args[j]? = some v → Value.okWide Tryz.prog W .any base t v)
    (hW : DataW.Whole enc Tryz.prog Tryz.f10.params.toList Rows.filtDigitsSpec.vars false W args.toList ds gs before) (hL : laidMetH Tryz.prog Rows.filtDigitsRow.laid W) :
    Calls Tryz.prog 10 args W fun e W' => ∃ v, e = .returned v ∧ Rows.filtDigitsSpec.post enc Tryz.prog Tryz.f10 false true false false W args v W' := by
  obtain ⟨a, g⟩ := glob_of_laid hL
  have hW' := hW
  obtain ⟨p, q, hA0, hV, rfl, hfz, hnd⟩ := hW
  have hA : DataW.TrodAll enc Tryz.prog W 0 (fun _ => true) true Tryz.f10.params.toList args.toList ds p := hA0
  rw [Tryz.params10] at hA hval
  obtain ⟨v0, vs0, d0, ds0, p0, q0, hargs0, rfl, rfl, h0, r0⟩ := trodAll_cons hA
  obtain ⟨v1, vs1, d1, ds1, p1, q1, hargs1, rfl, rfl, h1, r1⟩ := trodAll_cons r0
  obtain ⟨rfl, rfl, rfl⟩ := trodAll_nil r1
  obtain rfl : args = #[v0, v1] := by cases args; simp_all
  obtain ⟨rfl, rfl⟩ := trodVars_none hV
  obtain ⟨x0, rfl, rfl, rfl, wf0⟩ := open_string Tryz.underlying9 (hval 0 9 v0 rfl rfl) h0
  obtain ⟨x1, rfl, rfl, rfl, wf1⟩ := open_string Tryz.underlying9 (hval 1 9 v1 rfl rfl) h1
  clear hA0
  simp only [List.append_nil] at hW'
  refine (walk x0 x1 a W g wf0 wf1).mono fun e W' ⟨he, hg⟩ => ?_
  subst he
  refine ⟨_, rfl, _, _, _, [], [], [], hW', ?_, ?_, ?_, hg.frame _, fun h => by cases h⟩
  · exact trodAll_cons_mk (shut_bool Tryz.underlying4 _) trodAll_mk0
  · exact trodAll_cons_mk (shut_string Tryz.underlying9 wf0) (trodAll_cons_mk (shut_string Tryz.underlying9 wf1) (trodAll_mk0))
  · rfl

theorem reads (os : Os) {H : Type} (enc : TypeId × Value → H) : ∃ places, DataW.whole enc Tryz.prog (({ World.holding Tryz.prog os ⟨#[.cells #[.string sentS0] 276, .cells #[.string sentS1] 276, .cells #[.string sentS2] 276, .cells #[.string sentS3] 276, .cells #[.string sentS4] 276, .cells #[.string sentS5] 276, .cells #[.string sentS6] 276, .cells #[.string sentS7] 276, .cells #[.string sentS8] 276, .cells #[.string sentS9] 276, .cells #[.string sentS10] 276, .cells #[.string sentS11] 276, .cells #[.string sentS12] 276], #[], []⟩ with heap := ((((((((((((((((World.holding Tryz.prog os ⟨#[.cells #[.string sentS0] 276, .cells #[.string sentS1] 276, .cells #[.string sentS2] 276, .cells #[.string sentS3] 276, .cells #[.string sentS4] 276, .cells #[.string sentS5] 276, .cells #[.string sentS6] 276, .cells #[.string sentS7] 276, .cells #[.string sentS8] 276, .cells #[.string sentS9] 276, .cells #[.string sentS10] 276, .cells #[.string sentS11] 276, .cells #[.string sentS12] 276], #[], []⟩).heap.modify 15 fun | .cells _ t frozen => .cells #[.iface 258 (.pointer (some ⟨(World.holding Tryz.prog default ⟨#[], #[], []⟩).heap.size + 0, 0, none⟩))] t frozen | o => o).modify 14 fun | .cells _ t frozen => .cells #[.iface 258 (.pointer (some ⟨(World.holding Tryz.prog default ⟨#[], #[], []⟩).heap.size + 1, 0, none⟩))] t frozen | o => o).modify 16 fun | .cells _ t frozen => .cells #[.iface 258 (.pointer (some ⟨(World.holding Tryz.prog default ⟨#[], #[], []⟩).heap.size + 2, 0, none⟩))] t frozen | o => o).modify 13 fun | .cells _ t frozen => .cells #[.iface 258 (.pointer (some ⟨(World.holding Tryz.prog default ⟨#[], #[], []⟩).heap.size + 3, 0, none⟩))] t frozen | o => o).modify 11 fun | .cells _ t frozen => .cells #[.iface 258 (.pointer (some ⟨(World.holding Tryz.prog default ⟨#[], #[], []⟩).heap.size + 4, 0, none⟩))] t frozen | o => o).modify 12 fun | .cells _ t frozen => .cells #[.iface 258 (.pointer (some ⟨(World.holding Tryz.prog default ⟨#[], #[], []⟩).heap.size + 5, 0, none⟩))] t frozen | o => o).modify 0 fun | .cells _ t frozen => .cells #[.iface 258 (.pointer (some ⟨(World.holding Tryz.prog default ⟨#[], #[], []⟩).heap.size + 6, 0, none⟩))] t frozen | o => o).modify 1 fun | .cells _ t frozen => .cells #[.iface 258 (.pointer (some ⟨(World.holding Tryz.prog default ⟨#[], #[], []⟩).heap.size + 7, 0, none⟩))] t frozen | o => o).modify 2 fun | .cells _ t frozen => .cells #[.iface 258 (.pointer (some ⟨(World.holding Tryz.prog default ⟨#[], #[], []⟩).heap.size + 8, 0, none⟩))] t frozen | o => o).modify 3 fun | .cells _ t frozen => .cells #[.iface 258 (.pointer (some ⟨(World.holding Tryz.prog default ⟨#[], #[], []⟩).heap.size + 9, 0, none⟩))] t frozen | o => o).modify 4 fun | .cells _ t frozen => .cells #[.iface 258 (.pointer (some ⟨(World.holding Tryz.prog default ⟨#[], #[], []⟩).heap.size + 10, 0, none⟩))] t frozen | o => o).modify 5 fun | .cells _ t frozen => .cells #[.iface 258 (.pointer (some ⟨(World.holding Tryz.prog default ⟨#[], #[], []⟩).heap.size + 11, 0, none⟩))] t frozen | o => o).modify 6 fun | .cells _ t frozen => .cells #[.iface 258 (.pointer (some ⟨(World.holding Tryz.prog default ⟨#[], #[], []⟩).heap.size + 12, 0, none⟩))] t frozen | o => o).modify 10 fun | .cells _ t frozen => .cells (([128,191,160,191,128,159,144,191,128,143,0,0,0,0,0,0,0,0,0,0,0,0,0,0,0,0,0,0,0,0,0,0] : List Nat).map fun (n : Nat) => Value.int .u8 (n : Int)).toArray t frozen | o => o).modify 9 fun | .cells _ t frozen => .cells ((Go.Pinned.utf8FirstZ : List Nat).map fun (n : Nat) => Value.int .u8 (n : Int)).toArray t frozen | o => o).modify 7 fun | .cells _ t frozen => .cells #[.iface 153 (.agg #[.pointer (some ⟨17, 47, none⟩)])] t frozen | o => o } : World).forCall (fun _ _ => 0) ⟨#[], #[.string ⟨#[]⟩, .string ⟨#[]⟩], []⟩).memory Tryz.f10.params.toList Rows.filtDigitsSpec.vars false #[Value.string ⟨#[]⟩, Value.string ⟨#[]⟩].toList 8 = some ([.lit (.string []), .lit (.string [])], [], places) :=
  ⟨[], by kernel_rfl⟩

set_option maxRecDepth 100000 in
theorem lifted (os : Os) (started : os.Started) (H : Type) (enc : TypeId × Value → H) (F : Stop.Interp) :
    ReturnsInHanded {} Tryz.checked os 10 .any ((OpenSpec.ofChange Rows.filtDigitsSpec).preRow enc Tryz.prog Tryz.f10 Rows.filtDigitsRow.domain false Rows.filtDigitsRow.laid) (((OpenSpec.ofChange Rows.filtDigitsSpec).at F).post enc Tryz.prog Tryz.f10 false true false false) := by
  obtain ⟨places, hx⟩ := reads os enc
  refine returnsInHanded_of_row (C := Tryz.checked) (s := OpenSpec.ofChange Rows.filtDigitsSpec) own started (by kernel_rfl) Tryz.func10
    (witness_row_at (enc := enc) (C := Tryz.checked) false ({ World.holding Tryz.prog os ⟨#[.cells #[.string sentS0] 276, .cells #[.string sentS1] 276, .cells #[.string sentS2] 276, .cells #[.string sentS3] 276, .cells #[.string sentS4] 276, .cells #[.string sentS5] 276, .cells #[.string sentS6] 276, .cells #[.string sentS7] 276, .cells #[.string sentS8] 276, .cells #[.string sentS9] 276, .cells #[.string sentS10] 276, .cells #[.string sentS11] 276, .cells #[.string sentS12] 276], #[], []⟩ with heap := ((((((((((((((((World.holding Tryz.prog os ⟨#[.cells #[.string sentS0] 276, .cells #[.string sentS1] 276, .cells #[.string sentS2] 276, .cells #[.string sentS3] 276, .cells #[.string sentS4] 276, .cells #[.string sentS5] 276, .cells #[.string sentS6] 276, .cells #[.string sentS7] 276, .cells #[.string sentS8] 276, .cells #[.string sentS9] 276, .cells #[.string sentS10] 276, .cells #[.string sentS11] 276, .cells #[.string sentS12] 276], #[], []⟩).heap.modify 15 fun | .cells _ t frozen => .cells #[.iface 258 (.pointer (some ⟨(World.holding Tryz.prog default ⟨#[], #[], []⟩).heap.size + 0, 0, none⟩))] t frozen | o => o).modify 14 fun | .cells _ t frozen => .cells #[.iface 258 (.pointer (some ⟨(World.holding Tryz.prog default ⟨#[], #[], []⟩).heap.size + 1, 0, none⟩))] t frozen | o => o).modify 16 fun | .cells _ t frozen => .cells #[.iface 258 (.pointer (some ⟨(World.holding Tryz.prog default ⟨#[], #[], []⟩).heap.size + 2, 0, none⟩))] t frozen | o => o).modify 13 fun | .cells _ t frozen => .cells #[.iface 258 (.pointer (some ⟨(World.holding Tryz.prog default ⟨#[], #[], []⟩).heap.size + 3, 0, none⟩))] t frozen | o => o).modify 11 fun | .cells _ t frozen => .cells #[.iface 258 (.pointer (some ⟨(World.holding Tryz.prog default ⟨#[], #[], []⟩).heap.size + 4, 0, none⟩))] t frozen | o => o).modify 12 fun | .cells _ t frozen => .cells #[.iface 258 (.pointer (some ⟨(World.holding Tryz.prog default ⟨#[], #[], []⟩).heap.size + 5, 0, none⟩))] t frozen | o => o).modify 0 fun | .cells _ t frozen => .cells #[.iface 258 (.pointer (some ⟨(World.holding Tryz.prog default ⟨#[], #[], []⟩).heap.size + 6, 0, none⟩))] t frozen | o => o).modify 1 fun | .cells _ t frozen => .cells #[.iface 258 (.pointer (some ⟨(World.holding Tryz.prog default ⟨#[], #[], []⟩).heap.size + 7, 0, none⟩))] t frozen | o => o).modify 2 fun | .cells _ t frozen => .cells #[.iface 258 (.pointer (some ⟨(World.holding Tryz.prog default ⟨#[], #[], []⟩).heap.size + 8, 0, none⟩))] t frozen | o => o).modify 3 fun | .cells _ t frozen => .cells #[.iface 258 (.pointer (some ⟨(World.holding Tryz.prog default ⟨#[], #[], []⟩).heap.size + 9, 0, none⟩))] t frozen | o => o).modify 4 fun | .cells _ t frozen => .cells #[.iface 258 (.pointer (some ⟨(World.holding Tryz.prog default ⟨#[], #[], []⟩).heap.size + 10, 0, none⟩))] t frozen | o => o).modify 5 fun | .cells _ t frozen => .cells #[.iface 258 (.pointer (some ⟨(World.holding Tryz.prog default ⟨#[], #[], []⟩).heap.size + 11, 0, none⟩))] t frozen | o => o).modify 6 fun | .cells _ t frozen => .cells #[.iface 258 (.pointer (some ⟨(World.holding Tryz.prog default ⟨#[], #[], []⟩).heap.size + 12, 0, none⟩))] t frozen | o => o).modify 10 fun | .cells _ t frozen => .cells (([128,191,160,191,128,159,144,191,128,143,0,0,0,0,0,0,0,0,0,0,0,0,0,0,0,0,0,0,0,0,0,0] : List Nat).map fun (n : Nat) => Value.int .u8 (n : Int)).toArray t frozen | o => o).modify 9 fun | .cells _ t frozen => .cells ((Go.Pinned.utf8FirstZ : List Nat).map fun (n : Nat) => Value.int .u8 (n : Int)).toArray t frozen | o => o).modify 7 fun | .cells _ t frozen => .cells #[.iface 153 (.agg #[.pointer (some ⟨17, 47, none⟩)])] t frozen | o => o } : World) #[.string ⟨#[]⟩, .string ⟨#[]⟩] rfl (by kernel_rfl) (by kernel_rfl) (by kernel_rfl)
      (OpenSpec.preRow_of_cond 8 hx (by kernel_rfl) (fun k hk => by cases hk) (by kernel_rfl) (laid_met os _))) ?_
  intro W base args ds gs before hval hW _ _ _ hL _ _
  exact contract H enc W base args ds gs before hval hW hL

theorem said : Rows.FiltDigitsSaid :=
  OpenClaim.holds_of_cond 10 Tryz.f10 rfl rfl rfl rfl rfl rfl rfl ⟨rfl, rfl, rfl, rfl, rfl⟩ rfl rfl rfl rfl rfl (by kernel_rfl) Tryz.func10 (by kernel_rfl)
    (of_decide_eq_true (by kernel_rfl)) (by unfold Func.isWrapper; first | (rw [if_pos (by decide +kernel)]; kernel_rfl) | (rw [if_neg (by decide +kernel)]; exact ⟨rfl, rfl⟩))
    (fun os started H enc _ F => by rw [OpenClaim.pre_eq_preRow]; exact lifted os started H enc F)

theorem plain (f : FuncId) (fn : Func) (hf : Tryz.pinned.checked.prog.funcNamed "latiner/latinerlaw08.FiltDigits" = some f) (hfn : Tryz.pinned.checked.prog.funcs[f]? = some fn) :
    true = Tryz.pinned.checked.prog.looks [] ∧ ∀ (j : Nat) t, fn.params[j]? = some t → Tryz.pinned.checked.prog.wantsStandIn t = false := by
  obtain rfl : f = 10 := Option.some.inj ((show Tryz.prog.funcNamed "latiner/latinerlaw08.FiltDigits" = some 10 by kernel_rfl).symm.trans hf) |>.symm
  obtain rfl : fn = Tryz.f10 := (Option.some.inj (Tryz.func10.symm.trans hfn)).symm
  refine ⟨by kernel_rfl, fun j t ht => ?_⟩
  rw [Tryz.params10] at ht
  have hm : t = 9 := by have := Array.mem_of_getElem? ht; simp at this; first | exact this | omega | (rcases this with h | h | h <;> simp [h]) | (rcases this with h | h | h | h <;> simp [h])
  subst hm
  exact (show Tryz.prog.wantsStandIn 9 = false by kernel_rfl)

/-- The card. -/
theorem card : Rows.FiltDigitsCardSaid :=
  Claim7.holds_tied_plain_at .later [] _ _ _ _ said (fun _ h => by cases h) (by kernel_rfl) (fun _ h => by cases h) filtDigits_row_tie rfl ⟨rfl, rfl⟩ (by kernel_rfl) rfl plain (by kernel_rfl)
end Go.Proofs.YtmjfkdpaeenfgaaGreatDoor.F.Digits

namespace Go.Proofs.YtmjfkdpaeenfgaaGreatDoor
theorem filtDigits_holds : Rows.FiltDigitsCardSaid := F.Digits.card
#print axioms filtDigits_holds
end Go.Proofs.YtmjfkdpaeenfgaaGreatDoor
