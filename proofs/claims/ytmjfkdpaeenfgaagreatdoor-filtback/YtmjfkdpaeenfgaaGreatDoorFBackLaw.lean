/-
  FiltBack: filters are read from their texts; what is read, printed, is read alike, for any filter and text. Conditions: the package-level variables hold what the program's text lays (the card ties them).
-/
import Derived.Test.YtmjfkdpaeenfgaaGreatDoorG31
import Derived.Test.YtmjfkdpaeenfgaaGreatDoorFCut
import Derived.Test.YtmjfkdpaeenfgaaGreatDoorFShrt
import Derived.Laws.DeepStrings4
namespace Go.Proofs.YtmjfkdpaeenfgaaGreatDoor.F.Back
open Go Go.RowKit Go.Shelf Fp Go.ChangeShapes Go.WideShapes Go.ChangeAt Go.ChangeMaps
open Go.Proofs.YtmjfkdpaeenfgaaGreatDoor.D (hide unhide)

/-- a filter's box. -/
structure Bx (W : World) (b : Nat) (e : Fd) (F : Fl 8) : Prop where
  b : W.heap[b]? = some (.cells e.cs 25 (0, 0))
  n : FNode 8 W (fun _ => True) e F
theorem Bx.below {W W' : World} {b : Nat} {e : Fd} {F : Fl 8} (h : Bx W b e F) (hb : Below W.heap.size W W') : Bx W' b e F :=
  ⟨(hb.block _ (Array.getElem?_eq_some_iff.1 h.b).1).trans h.b, h.n.below hb⟩
abbrev ZF : Fl 8 := mk 0 ⟨#[]⟩ ⟨#[]⟩ [] ⟨#[]⟩ []
theorem zf_node (W : World) : FNode 8 W (fun _ => True) zfd ZF := ⟨⟨rfl, rfl, rfl, rfl, rfl, rfl⟩, sm_mk (by decide) (by decide) (by decide) (by simp), .inl rfl, .inl rfl⟩
theorem zf_prt : prtF ZF = .tuple #[.string ⟨#[]⟩, .int .i64 80] := by kernel_rfl
theorem nil_rd : rdT (⟨#[]⟩ : ByteArray).data.toList = none := by kernel_rfl
theorem yes_prt {F : Fl 8} (h : right 8 6 F = true) : prtF F = .tuple #[.string ⟨(text 8 F).toArray⟩, .int .i64 0] := by unfold prtF; rw [h]; rfl
theorem no_prt {F : Fl 8} (h : right 8 6 F = false) : prtF F = .tuple #[.string ⟨#[]⟩, .int .i64 80] := by unfold prtF; rw [h]; rfl

set_option linter.unusedSimpArgs false in
set_option linter.unusedVariables false in
set_option maxRecDepth 100000 in
set_option maxHeartbeats 8000000 in
theorem walk (d : Fd) (F0 : Fl 8) (x1 : ByteArray) (a : Ad) (w : World) (g : Glob a w) (hC : CutF 8 w d F0) (hx : x1.size ≤ maxLen) :
    Calls Tryz.prog 4 #[d.val, .string x1] w fun e w' => e = .returned (.bool true) ∧ Below w.heap.size w w' := by
  have hxm := hx
  unfold maxLen at hx
  obtain ⟨S, hS⟩ : ∃ S, S = x1.extract 0 (min (x1.size : Int) 500).toNat := ⟨_, rfl⟩
  have hSz : S.size ≤ 500 := by rw [hS, ByteArray.size_extract]; omega
  have hb0 : Below w.heap.size w (w.alloc d.obj) := (Below.refl _ _).alloc (Nat.le_refl _) _
  have hq0 : (w.alloc d.obj).heap[w.heap.size]? = some (.cells d.cs 25 (0, 0)) := World.alloc_heap_new _ _
  have HSh := hide fun W (h : Below w.heap.size w W) => shown_true a W (g.below (Nat.le_refl _) h)
  have HC := hide fun W (h : Below w.heap.size w W) => Cut_any F0 W d (hC.below h)
  have Hg := hide g
  have H0 := hide (And.intro hb0 hq0)
  clear g hC hb0 hq0
  obtain ⟨dk, da, dv, dsa, dsn, dsc, df, dla, dln, dlc⟩ := d
  go_enter Tryz.func4, Tryz.ntmps4
  go_wp2_with fail
  refine ((unhide HSh) _ (unhide H0).1).mono ?_
  rintro e w1 ⟨rfl, hb⟩
  have hlt0 := (Array.getElem?_eq_some_iff.1 (unhide H0).2).1
  have B1 := hide (step (unhide H0).1 hb)
  have hq1 := (hb.block _ hlt0).trans (unhide H0).2
  have Q1 := hide hq1
  obtain ⟨⟨c0, c1, c2, c3, c4, c5⟩, _⟩ := box6 hq1
  dsimp only at c0 c1 c2 c3 c4 c5
  clear hb hq1 H0 HSh hlt0
  go_wp2_with fail
  refine ((unhide HC) _ (unhide B1)).mono ?_
  rintro e w2 ⟨hb, ⟨ek, ea, ev, esa, esn, esc, ef, ela, eln, elc⟩, rfl, hN⟩
  have hlt1 := (Array.getElem?_eq_some_iff.1 (unhide Q1)).1
  have hq2 := (hb.block _ hlt1).trans (unhide Q1)
  have hbw2 := step (unhide B1) hb
  have hlt2 : w.heap.size < w2.heap.size := (Array.getElem?_eq_some_iff.1 hq2).1
  clear c0 c1 c2 c3 c4 c5
  obtain ⟨⟨c0, c1, c2, c3, c4, c5⟩, g0, g1, g2, g3, g4, g5⟩ := box6 hq2
  dsimp only at c0 c1 c2 c3 c4 c5
  obtain ⟨X, hX⟩ : ∃ X, X = set6 w2 w.heap.size ⟨ek, ea, ev, esa, esn, esc, ef, ela, eln, elc⟩ := ⟨_, rfl⟩
  have hXb := set6_but w2 w.heap.size ⟨ek, ea, ev, esa, esn, esc, ef, ela, eln, elc⟩
  have hXq := set6_blk hq2 ⟨ek, ea, ev, esa, esn, esc, ef, ela, eln, elc⟩
  rw [← hX] at hXb hXq
  have hXN := hN.of (W' := X) fun b h1 h2 => hXb.block b h2 (by omega)
  dsimp only [set6] at hX
  have HX := hide (And.intro (hbw2.trans (hXb.below (Nat.le_refl _) hlt2)) (And.intro hXq hXN))
  have HXe := hide hX
  clear hb hN hq2 hbw2 hlt2 hXb hXq hXN hX hlt1 Q1 B1 HC
  generalize F0 = F at *
  go_wp2_with fail
  rw [← unhide HXe]
  clear HXe g0 g1 g2 g3 g4 g5
  clear c0 c1 c2 c3 c4 c5
  refine (cut_any x1 X hxm).mono ?_
  rintro e w3 ⟨rfl, rfl⟩
  rw [← hS]
  have X0 := hide (Bx.mk (unhide HX).2.1 ((unhide HX).2.2.imp fun _ _ _ => trivial))
  have B3 := hide (unhide HX).1
  have HS := hide fun W g => parse_any a S (shrt_small (by omega)) W g
  clear HX hS hSz hx hxm
  cases hr : right 8 6 F with
  | false =>
    obtain ⟨⟨c0, c1, c2, c3, c4, c5⟩, _⟩ := box6 (unhide X0).1
    dsimp only at c0 c1 c2 c3 c4 c5
    have HA := hide fun W g d (h : FNode 8 W (fun _ => True) d F) => print_any 7 F a W _ d g h (by omega)
    rw [no_prt hr] at HA
    go_wp2_with fail
    refine ((unhide HA) _ ((unhide Hg).below (Nat.le_refl _) (unhide B3)) _ (unhide X0).n).mono ?_
    rintro e w4 ⟨rfl, hb⟩
    clear c0 c1 c2 c3 c4 c5
    have B4 := hide (step (unhide B3) hb)
    replace X0 := hide ((unhide X0).below hb)
    clear hb B3
    have HB := hide fun W g => parse_any a ⟨#[]⟩ (shrt_small (by decide)) W g
    rw [nil_rd] at HB
    go_wp2_with fail
    refine ((unhide HB) _ ((unhide Hg).below (Nat.le_refl _) (unhide B4))).mono ?_
    rintro e w5 ⟨hb, rfl⟩
    have hal := (Below.refl w5.heap.size w5).alloc (Nat.le_refl _) (Fd.obj zfd)
    have B5 := hide (step (step (unhide B4) hb) hal)
    replace X0 := hide (((unhide X0).below hb).below hal)
    have Xp := hide (Bx.mk (World.alloc_heap_new w5 (Fd.obj zfd)) (zf_node _))
    clear hb hal B4
    cases ho : rdT S.data.toList with
    | none =>
      rw [ho] at HS
      clear ho
      go_wp2_with fail
      refine ((unhide HS) _ ((unhide Hg).below (Nat.le_refl _) (unhide B5))).mono ?_
      rintro e w6 ⟨hb, rfl⟩
      have hal := (Below.refl w6.heap.size w6).alloc (Nat.le_refl _) (Fd.obj zfd)
      have B6 := hide (step (step (unhide B5) hb) hal)
      replace X0 := hide (((unhide X0).below hb).below hal)
      replace Xp := hide (((unhide Xp).below hb).below hal)
      have Xz := hide (Bx.mk (World.alloc_heap_new w6 (Fd.obj zfd)) (zf_node _))
      clear hb hal B5
      obtain ⟨⟨c0, c1, c2, c3, c4, c5⟩, _⟩ := box6 (unhide Xz).1
      dsimp only at c0 c1 c2 c3 c4 c5
      have HA := hide fun W g => print_any 7 ZF a W _ _ g (zf_node W) (by omega)
      rw [zf_prt] at HA
      go_wp2_with fail
      refine ((unhide HA) _ ((unhide Hg).below (Nat.le_refl _) (unhide B6))).mono ?_
      rintro e w7 ⟨rfl, hb⟩
      clear c0 c1 c2 c3 c4 c5
      have B7 := hide (step (unhide B6) hb)
      replace X0 := hide ((unhide X0).below hb)
      replace Xp := hide ((unhide Xp).below hb)
      replace Xz := hide ((unhide Xz).below hb)
      clear hb B6
      have HB := hide fun W g => parse_any a ⟨#[]⟩ (shrt_small (by decide)) W g
      rw [nil_rd] at HB
      go_wp2_with fail
      refine ((unhide HB) _ ((unhide Hg).below (Nat.le_refl _) (unhide B7))).mono ?_
      rintro e w8 ⟨hb, rfl⟩
      have hal := (Below.refl w8.heap.size w8).alloc (Nat.le_refl _) (Fd.obj zfd)
      have B8 := hide (step (step (unhide B7) hb) hal)
      replace X0 := hide (((unhide X0).below hb).below hal)
      replace Xp := hide (((unhide Xp).below hb).below hal)
      replace Xz := hide (((unhide Xz).below hb).below hal)
      have Xy := hide (Bx.mk (World.alloc_heap_new w8 (Fd.obj zfd)) (zf_node _))
      clear hb hal B7
      obtain ⟨⟨c0, c1, c2, c3, c4, c5⟩, _⟩ := box6 (unhide X0).1
      dsimp only at c0 c1 c2 c3 c4 c5
      obtain ⟨⟨k0, k1, k2, k3, k4, k5⟩, _⟩ := box6 (unhide Xz).1
      dsimp only at k0 k1 k2 k3 k4 k5
      have HR := hide fun W g d (h : FNode 8 W (fun _ => True) d F) => right_any 7 F a W _ d g h (by omega)
      rw [hr] at HR
      clear hr
      go_wp2_with fail
      refine ((unhide HR) _ ((unhide Hg).below (Nat.le_refl _) (unhide B8)) _ (unhide X0).n).mono ?_
      rintro e w9 ⟨rfl, hb⟩
      clear c0 c1 c2 c3 c4 c5
      clear k0 k1 k2 k3 k4 k5
      have B9 := hide (step (unhide B8) hb)
      replace X0 := hide ((unhide X0).below hb)
      replace Xp := hide ((unhide Xp).below hb)
      replace Xz := hide ((unhide Xz).below hb)
      replace Xy := hide ((unhide Xy).below hb)
      clear hb B8
      obtain ⟨⟨c0, c1, c2, c3, c4, c5⟩, _⟩ := box6 (unhide Xz).1
      dsimp only at c0 c1 c2 c3 c4 c5
      go_wp2
      go_ret
      exact ⟨rfl, (unhide B9)⟩
    | some Z =>
      rw [ho] at HS
      go_wp2_with fail
      refine ((unhide HS) _ ((unhide Hg).below (Nat.le_refl _) (unhide B5))).mono ?_
      rintro e w6 ⟨hb, ⟨zk, za, zv, zsa, zsn, zsc, zf, zla, zln, zlc⟩, rfl, hN⟩
      have hal := (Below.refl w6.heap.size w6).alloc (Nat.le_refl _) (Fd.obj ⟨zk, za, zv, zsa, zsn, zsc, zf, zla, zln, zlc⟩)
      have B6 := hide (step (step (unhide B5) hb) hal)
      replace X0 := hide (((unhide X0).below hb).below hal)
      replace Xp := hide (((unhide Xp).below hb).below hal)
      have Xz := hide (Bx.mk (World.alloc_heap_new w6 (Fd.obj ⟨zk, za, zv, zsa, zsn, zsc, zf, zla, zln, zlc⟩)) ((hN.below hal).imp fun _ _ _ => trivial))
      clear hb hal hN B5
      obtain ⟨⟨c0, c1, c2, c3, c4, c5⟩, _⟩ := box6 (unhide Xz).1
      dsimp only at c0 c1 c2 c3 c4 c5
      have hrz := rdT_right ho
      have HA := hide fun W g d (h : FNode 8 W (fun _ => True) d Z) => print_any 7 Z a W _ d g h (by omega)
      rw [yes_prt hrz] at HA
      clear ho
      go_wp2_with fail
      refine ((unhide HA) _ ((unhide Hg).below (Nat.le_refl _) (unhide B6)) _ (unhide Xz).n).mono ?_
      rintro e w7 ⟨rfl, hb⟩
      clear c0 c1 c2 c3 c4 c5
      have B7 := hide (step (unhide B6) hb)
      replace X0 := hide ((unhide X0).below hb)
      replace Xp := hide ((unhide Xp).below hb)
      replace Xz := hide ((unhide Xz).below hb)
      clear hb B6
      have HB := hide fun W g => parse_any a ⟨(text 8 Z).toArray⟩ (shrt_text hrz) W g
      rw [show rdT (⟨(text 8 Z).toArray⟩ : ByteArray).data.toList = some Z from rdT_text Z hrz] at HB
      generalize (⟨(text 8 Z).toArray⟩ : ByteArray) = tz at *
      go_wp2_with fail
      refine ((unhide HB) _ ((unhide Hg).below (Nat.le_refl _) (unhide B7))).mono ?_
      rintro e w8 ⟨hb, ⟨yk, ya, yv, ysa, ysn, ysc, yf, yla, yln, ylc⟩, rfl, hN⟩
      have hal := (Below.refl w8.heap.size w8).alloc (Nat.le_refl _) (Fd.obj ⟨yk, ya, yv, ysa, ysn, ysc, yf, yla, yln, ylc⟩)
      have B8 := hide (step (step (unhide B7) hb) hal)
      replace X0 := hide (((unhide X0).below hb).below hal)
      replace Xp := hide (((unhide Xp).below hb).below hal)
      replace Xz := hide (((unhide Xz).below hb).below hal)
      have Xy := hide (Bx.mk (World.alloc_heap_new w8 (Fd.obj ⟨yk, ya, yv, ysa, ysn, ysc, yf, yla, yln, ylc⟩)) ((hN.below hal).imp fun _ _ _ => trivial))
      clear hb hal hN B7
      obtain ⟨⟨c0, c1, c2, c3, c4, c5⟩, _⟩ := box6 (unhide X0).1
      dsimp only at c0 c1 c2 c3 c4 c5
      obtain ⟨⟨k0, k1, k2, k3, k4, k5⟩, _⟩ := box6 (unhide Xz).1
      dsimp only at k0 k1 k2 k3 k4 k5
      have HR := hide fun W g d (h : FNode 8 W (fun _ => True) d F) => right_any 7 F a W _ d g h (by omega)
      rw [hr] at HR
      have HR2 := hide fun W g d (h : FNode 8 W (fun _ => True) d Z) => right_any 7 Z a W _ d g h (by omega)
      rw [hrz] at HR2
      clear hr hrz
      go_wp2_with fail
      refine ((unhide HR) _ ((unhide Hg).below (Nat.le_refl _) (unhide B8)) _ (unhide X0).n).mono ?_
      rintro e w9 ⟨rfl, hb⟩
      clear c0 c1 c2 c3 c4 c5
      clear k0 k1 k2 k3 k4 k5
      have B9 := hide (step (unhide B8) hb)
      replace X0 := hide ((unhide X0).below hb)
      replace Xp := hide ((unhide Xp).below hb)
      replace Xz := hide ((unhide Xz).below hb)
      replace Xy := hide ((unhide Xy).below hb)
      clear hb B8
      obtain ⟨⟨c0, c1, c2, c3, c4, c5⟩, _⟩ := box6 (unhide Xz).1
      dsimp only at c0 c1 c2 c3 c4 c5
      go_wp2_with fail
      refine ((unhide HR2) _ ((unhide Hg).below (Nat.le_refl _) (unhide B9)) _ (unhide Xz).n).mono ?_
      rintro e w10 ⟨rfl, hb⟩
      clear c0 c1 c2 c3 c4 c5
      have B10 := hide (step (unhide B9) hb)
      replace X0 := hide ((unhide X0).below hb)
      replace Xp := hide ((unhide Xp).below hb)
      replace Xz := hide ((unhide Xz).below hb)
      replace Xy := hide ((unhide Xy).below hb)
      clear hb B9
      obtain ⟨⟨c0, c1, c2, c3, c4, c5⟩, _⟩ := box6 (unhide Xz).1
      dsimp only at c0 c1 c2 c3 c4 c5
      obtain ⟨⟨k0, k1, k2, k3, k4, k5⟩, _⟩ := box6 (unhide Xy).1
      dsimp only at k0 k1 k2 k3 k4 k5
      have HSa := hide (same_any 8 Z Z _ _ _ _ _ (unhide Xz).n (unhide Xy).n)
      rw [(same_iff 8 _ _).2 rfl] at HSa
      go_wp2_with fail
      refine (unhide HSa).mono ?_
      rintro e w11 ⟨rfl, hb⟩
      clear c0 c1 c2 c3 c4 c5
      clear k0 k1 k2 k3 k4 k5
      have B11 := hide (step (unhide B10) hb)
      replace X0 := hide ((unhide X0).below hb)
      replace Xp := hide ((unhide Xp).below hb)
      replace Xz := hide ((unhide Xz).below hb)
      replace Xy := hide ((unhide Xy).below hb)
      clear hb B10
      go_wp2
      go_ret
      exact ⟨rfl, (unhide B11)⟩
  | true =>
    obtain ⟨⟨c0, c1, c2, c3, c4, c5⟩, _⟩ := box6 (unhide X0).1
    dsimp only at c0 c1 c2 c3 c4 c5
    have HA := hide fun W g d (h : FNode 8 W (fun _ => True) d F) => print_any 7 F a W _ d g h (by omega)
    rw [yes_prt hr] at HA
    go_wp2_with fail
    refine ((unhide HA) _ ((unhide Hg).below (Nat.le_refl _) (unhide B3)) _ (unhide X0).n).mono ?_
    rintro e w4 ⟨rfl, hb⟩
    clear c0 c1 c2 c3 c4 c5
    have B4 := hide (step (unhide B3) hb)
    replace X0 := hide ((unhide X0).below hb)
    clear hb B3
    have HB := hide fun W g => parse_any a ⟨(text 8 F).toArray⟩ (shrt_text hr) W g
    rw [show rdT (⟨(text 8 F).toArray⟩ : ByteArray).data.toList = some F from rdT_text F hr] at HB
    generalize (⟨(text 8 F).toArray⟩ : ByteArray) = tf at *
    go_wp2_with fail
    refine ((unhide HB) _ ((unhide Hg).below (Nat.le_refl _) (unhide B4))).mono ?_
    rintro e w5 ⟨hb, ⟨pk, pa, pv, psa, psn, psc, pf, pla, pln, plc⟩, rfl, hN⟩
    have hal := (Below.refl w5.heap.size w5).alloc (Nat.le_refl _) (Fd.obj ⟨pk, pa, pv, psa, psn, psc, pf, pla, pln, plc⟩)
    have B5 := hide (step (step (unhide B4) hb) hal)
    replace X0 := hide (((unhide X0).below hb).below hal)
    have Xp := hide (Bx.mk (World.alloc_heap_new w5 (Fd.obj ⟨pk, pa, pv, psa, psn, psc, pf, pla, pln, plc⟩)) ((hN.below hal).imp fun _ _ _ => trivial))
    clear hb hal hN B4
    obtain ⟨⟨c0, c1, c2, c3, c4, c5⟩, _⟩ := box6 (unhide X0).1
    dsimp only at c0 c1 c2 c3 c4 c5
    obtain ⟨⟨k0, k1, k2, k3, k4, k5⟩, _⟩ := box6 (unhide Xp).1
    dsimp only at k0 k1 k2 k3 k4 k5
    have HSa := hide (same_any 8 F F _ _ _ _ _ (unhide X0).n (unhide Xp).n)
    rw [(same_iff 8 _ _).2 rfl] at HSa
    go_wp2_with fail
    refine (unhide HSa).mono ?_
    rintro e w6 ⟨rfl, hb⟩
    clear c0 c1 c2 c3 c4 c5
    clear k0 k1 k2 k3 k4 k5
    have B6 := hide (step (unhide B5) hb)
    replace X0 := hide ((unhide X0).below hb)
    replace Xp := hide ((unhide Xp).below hb)
    clear hb B5
    cases ho : rdT S.data.toList with
    | none =>
      rw [ho] at HS
      clear ho
      go_wp2_with fail
      refine ((unhide HS) _ ((unhide Hg).below (Nat.le_refl _) (unhide B6))).mono ?_
      rintro e w7 ⟨hb, rfl⟩
      have hal := (Below.refl w7.heap.size w7).alloc (Nat.le_refl _) (Fd.obj zfd)
      have B7 := hide (step (step (unhide B6) hb) hal)
      replace X0 := hide (((unhide X0).below hb).below hal)
      replace Xp := hide (((unhide Xp).below hb).below hal)
      have Xz := hide (Bx.mk (World.alloc_heap_new w7 (Fd.obj zfd)) (zf_node _))
      clear hb hal B6
      obtain ⟨⟨c0, c1, c2, c3, c4, c5⟩, _⟩ := box6 (unhide Xz).1
      dsimp only at c0 c1 c2 c3 c4 c5
      have HA := hide fun W g => print_any 7 ZF a W _ _ g (zf_node W) (by omega)
      rw [zf_prt] at HA
      go_wp2_with fail
      refine ((unhide HA) _ ((unhide Hg).below (Nat.le_refl _) (unhide B7))).mono ?_
      rintro e w8 ⟨rfl, hb⟩
      clear c0 c1 c2 c3 c4 c5
      have B8 := hide (step (unhide B7) hb)
      replace X0 := hide ((unhide X0).below hb)
      replace Xp := hide ((unhide Xp).below hb)
      replace Xz := hide ((unhide Xz).below hb)
      clear hb B7
      have HB := hide fun W g => parse_any a ⟨#[]⟩ (shrt_small (by decide)) W g
      rw [nil_rd] at HB
      go_wp2_with fail
      refine ((unhide HB) _ ((unhide Hg).below (Nat.le_refl _) (unhide B8))).mono ?_
      rintro e w9 ⟨hb, rfl⟩
      have hal := (Below.refl w9.heap.size w9).alloc (Nat.le_refl _) (Fd.obj zfd)
      have B9 := hide (step (step (unhide B8) hb) hal)
      replace X0 := hide (((unhide X0).below hb).below hal)
      replace Xp := hide (((unhide Xp).below hb).below hal)
      replace Xz := hide (((unhide Xz).below hb).below hal)
      have Xy := hide (Bx.mk (World.alloc_heap_new w9 (Fd.obj zfd)) (zf_node _))
      clear hb hal B8
      obtain ⟨⟨c0, c1, c2, c3, c4, c5⟩, _⟩ := box6 (unhide X0).1
      dsimp only at c0 c1 c2 c3 c4 c5
      obtain ⟨⟨k0, k1, k2, k3, k4, k5⟩, _⟩ := box6 (unhide Xz).1
      dsimp only at k0 k1 k2 k3 k4 k5
      have HR := hide fun W g d (h : FNode 8 W (fun _ => True) d F) => right_any 7 F a W _ d g h (by omega)
      rw [hr] at HR
      clear hr
      go_wp2_with fail
      refine ((unhide HR) _ ((unhide Hg).below (Nat.le_refl _) (unhide B9)) _ (unhide X0).n).mono ?_
      rintro e w10 ⟨rfl, hb⟩
      clear c0 c1 c2 c3 c4 c5
      clear k0 k1 k2 k3 k4 k5
      have B10 := hide (step (unhide B9) hb)
      replace X0 := hide ((unhide X0).below hb)
      replace Xp := hide ((unhide Xp).below hb)
      replace Xz := hide ((unhide Xz).below hb)
      replace Xy := hide ((unhide Xy).below hb)
      clear hb B9
      obtain ⟨⟨c0, c1, c2, c3, c4, c5⟩, _⟩ := box6 (unhide Xz).1
      dsimp only at c0 c1 c2 c3 c4 c5
      go_wp2
      go_ret
      exact ⟨rfl, (unhide B10)⟩
    | some Z =>
      rw [ho] at HS
      go_wp2_with fail
      refine ((unhide HS) _ ((unhide Hg).below (Nat.le_refl _) (unhide B6))).mono ?_
      rintro e w7 ⟨hb, ⟨zk, za, zv, zsa, zsn, zsc, zf, zla, zln, zlc⟩, rfl, hN⟩
      have hal := (Below.refl w7.heap.size w7).alloc (Nat.le_refl _) (Fd.obj ⟨zk, za, zv, zsa, zsn, zsc, zf, zla, zln, zlc⟩)
      have B7 := hide (step (step (unhide B6) hb) hal)
      replace X0 := hide (((unhide X0).below hb).below hal)
      replace Xp := hide (((unhide Xp).below hb).below hal)
      have Xz := hide (Bx.mk (World.alloc_heap_new w7 (Fd.obj ⟨zk, za, zv, zsa, zsn, zsc, zf, zla, zln, zlc⟩)) ((hN.below hal).imp fun _ _ _ => trivial))
      clear hb hal hN B6
      obtain ⟨⟨c0, c1, c2, c3, c4, c5⟩, _⟩ := box6 (unhide Xz).1
      dsimp only at c0 c1 c2 c3 c4 c5
      have hrz := rdT_right ho
      have HA := hide fun W g d (h : FNode 8 W (fun _ => True) d Z) => print_any 7 Z a W _ d g h (by omega)
      rw [yes_prt hrz] at HA
      clear ho
      go_wp2_with fail
      refine ((unhide HA) _ ((unhide Hg).below (Nat.le_refl _) (unhide B7)) _ (unhide Xz).n).mono ?_
      rintro e w8 ⟨rfl, hb⟩
      clear c0 c1 c2 c3 c4 c5
      have B8 := hide (step (unhide B7) hb)
      replace X0 := hide ((unhide X0).below hb)
      replace Xp := hide ((unhide Xp).below hb)
      replace Xz := hide ((unhide Xz).below hb)
      clear hb B7
      have HB := hide fun W g => parse_any a ⟨(text 8 Z).toArray⟩ (shrt_text hrz) W g
      rw [show rdT (⟨(text 8 Z).toArray⟩ : ByteArray).data.toList = some Z from rdT_text Z hrz] at HB
      generalize (⟨(text 8 Z).toArray⟩ : ByteArray) = tz at *
      go_wp2_with fail
      refine ((unhide HB) _ ((unhide Hg).below (Nat.le_refl _) (unhide B8))).mono ?_
      rintro e w9 ⟨hb, ⟨yk, ya, yv, ysa, ysn, ysc, yf, yla, yln, ylc⟩, rfl, hN⟩
      have hal := (Below.refl w9.heap.size w9).alloc (Nat.le_refl _) (Fd.obj ⟨yk, ya, yv, ysa, ysn, ysc, yf, yla, yln, ylc⟩)
      have B9 := hide (step (step (unhide B8) hb) hal)
      replace X0 := hide (((unhide X0).below hb).below hal)
      replace Xp := hide (((unhide Xp).below hb).below hal)
      replace Xz := hide (((unhide Xz).below hb).below hal)
      have Xy := hide (Bx.mk (World.alloc_heap_new w9 (Fd.obj ⟨yk, ya, yv, ysa, ysn, ysc, yf, yla, yln, ylc⟩)) ((hN.below hal).imp fun _ _ _ => trivial))
      clear hb hal hN B8
      obtain ⟨⟨c0, c1, c2, c3, c4, c5⟩, _⟩ := box6 (unhide X0).1
      dsimp only at c0 c1 c2 c3 c4 c5
      obtain ⟨⟨k0, k1, k2, k3, k4, k5⟩, _⟩ := box6 (unhide Xz).1
      dsimp only at k0 k1 k2 k3 k4 k5
      have HR := hide fun W g d (h : FNode 8 W (fun _ => True) d F) => right_any 7 F a W _ d g h (by omega)
      rw [hr] at HR
      have HR2 := hide fun W g d (h : FNode 8 W (fun _ => True) d Z) => right_any 7 Z a W _ d g h (by omega)
      rw [hrz] at HR2
      clear hr hrz
      go_wp2_with fail
      refine ((unhide HR) _ ((unhide Hg).below (Nat.le_refl _) (unhide B9)) _ (unhide X0).n).mono ?_
      rintro e w10 ⟨rfl, hb⟩
      clear c0 c1 c2 c3 c4 c5
      clear k0 k1 k2 k3 k4 k5
      have B10 := hide (step (unhide B9) hb)
      replace X0 := hide ((unhide X0).below hb)
      replace Xp := hide ((unhide Xp).below hb)
      replace Xz := hide ((unhide Xz).below hb)
      replace Xy := hide ((unhide Xy).below hb)
      clear hb B9
      obtain ⟨⟨c0, c1, c2, c3, c4, c5⟩, _⟩ := box6 (unhide Xz).1
      dsimp only at c0 c1 c2 c3 c4 c5
      go_wp2_with fail
      refine ((unhide HR2) _ ((unhide Hg).below (Nat.le_refl _) (unhide B10)) _ (unhide Xz).n).mono ?_
      rintro e w11 ⟨rfl, hb⟩
      clear c0 c1 c2 c3 c4 c5
      have B11 := hide (step (unhide B10) hb)
      replace X0 := hide ((unhide X0).below hb)
      replace Xp := hide ((unhide Xp).below hb)
      replace Xz := hide ((unhide Xz).below hb)
      replace Xy := hide ((unhide Xy).below hb)
      clear hb B10
      obtain ⟨⟨c0, c1, c2, c3, c4, c5⟩, _⟩ := box6 (unhide Xz).1
      dsimp only at c0 c1 c2 c3 c4 c5
      obtain ⟨⟨k0, k1, k2, k3, k4, k5⟩, _⟩ := box6 (unhide Xy).1
      dsimp only at k0 k1 k2 k3 k4 k5
      have HSa := hide (same_any 8 Z Z _ _ _ _ _ (unhide Xz).n (unhide Xy).n)
      rw [(same_iff 8 _ _).2 rfl] at HSa
      go_wp2_with fail
      refine (unhide HSa).mono ?_
      rintro e w12 ⟨rfl, hb⟩
      clear c0 c1 c2 c3 c4 c5
      clear k0 k1 k2 k3 k4 k5
      have B12 := hide (step (unhide B11) hb)
      replace X0 := hide ((unhide X0).below hb)
      replace Xp := hide ((unhide Xp).below hb)
      replace Xz := hide ((unhide Xz).below hb)
      replace Xy := hide ((unhide Xy).below hb)
      clear hb B11
      go_wp2
      go_ret
      exact ⟨rfl, (unhide B12)⟩

set_option maxRecDepth 100000 in
/-- What the walk gives, for every argument. -/
theorem contract (H : Type) (enc : TypeId × Value → H) (W : World) (base : Nat) (args : Array Value) (ds gs : List (DataW H)) (before : List MemPlace)
    (hval : ∀ (j : Nat) t v, Tryz.f4.params[j]? = some t → args[j]? = some v → Value.okWide Tryz.prog W .any base t v)
    (hW : DataW.Whole enc Tryz.prog Tryz.f4.params.toList Rows.filtBackSpec.vars false W args.toList ds gs before) (hL : laidMetH Tryz.prog Rows.filtBackRow.laid W) :
    Calls Tryz.prog 4 args W fun e W' => ∃ v, e = .returned v ∧ Rows.filtBackSpec.post enc Tryz.prog Tryz.f4 false true false false W args v W' := by
  obtain ⟨a, g⟩ := glob_of_laid hL
  have hW' := hW
  obtain ⟨p, q, hA0, hV, rfl, hfz, hnd⟩ := hW
  have hA : DataW.TrodAll enc Tryz.prog W 0 (fun _ => true) true Tryz.f4.params.toList args.toList ds p := hA0
  rw [Tryz.params4] at hA hval
  obtain ⟨v0, vs0, d0, ds0, p0, q0, hargs0, rfl, rfl, h0, r0⟩ := trodAll_cons hA
  obtain ⟨v1, vs1, d1, ds1, p1, q1, hargs1, rfl, rfl, h1, r1⟩ := trodAll_cons r0
  obtain ⟨rfl, rfl, rfl⟩ := trodAll_nil r1
  obtain rfl : args = #[v0, v1] := by cases args; simp_all
  obtain ⟨rfl, rfl⟩ := trodVars_none hV
  obtain ⟨cs0, rfl, _⟩ := okWide_struct Tryz.underlying25 (hval 0 25 v0 rfl rfl)
  have hk0 := h0
  obtain ⟨fu0, hf0⟩ := h0
  obtain ⟨D0, ec0, F0, hC0⟩ := open_fil 7 fu0 _ _ hf0
  have hlt0 := DataW.trod_lt _ _ _ _ hf0
  obtain rfl : cs0 = D0.cs := Array.ext' ec0
  obtain ⟨x1, rfl, rfl, rfl, wf1⟩ := open_string Tryz.underlying9 (hval 1 9 v1 rfl rfl) h1
  clear hA0
  simp only [List.append_nil] at hW'
  refine (walk D0 F0 x1 a W g hC0 wf1).mono fun e W' ⟨he, hg⟩ => ?_
  subst he
  refine ⟨_, rfl, _, _, _, [], (p0 ++ ([] ++ [])), [], hW', ?_, ?_, ?_, hg.frame _, fun h => by cases h⟩
  · exact trodAll_cons_mk (shut_bool Tryz.underlying4 _) trodAll_mk0
  · exact trodAll_cons_mk (Below.trod (by kernel_rfl) (by kernel_rfl) (of_decide_eq_true (by kernel_rfl)) hk0 hg hlt0) (trodAll_cons_mk (shut_string Tryz.underlying9 wf1) (trodAll_mk0))
  · rfl

theorem reads (os : Os) {H : Type} (enc : TypeId × Value → H) : ∃ places, DataW.whole enc Tryz.prog (({ World.holding Tryz.prog os ⟨#[.cells #[.string sentS0] 276, .cells #[.string sentS1] 276, .cells #[.string sentS2] 276, .cells #[.string sentS3] 276, .cells #[.string sentS4] 276, .cells #[.string sentS5] 276, .cells #[.string sentS6] 276, .cells #[.string sentS7] 276, .cells #[.string sentS8] 276, .cells #[.string sentS9] 276, .cells #[.string sentS10] 276, .cells #[.string sentS11] 276, .cells #[.string sentS12] 276], #[], []⟩ with heap := ((((((((((((((((World.holding Tryz.prog os ⟨#[.cells #[.string sentS0] 276, .cells #[.string sentS1] 276, .cells #[.string sentS2] 276, .cells #[.string sentS3] 276, .cells #[.string sentS4] 276, .cells #[.string sentS5] 276, .cells #[.string sentS6] 276, .cells #[.string sentS7] 276, .cells #[.string sentS8] 276, .cells #[.string sentS9] 276, .cells #[.string sentS10] 276, .cells #[.string sentS11] 276, .cells #[.string sentS12] 276], #[], []⟩).heap.modify 15 fun | .cells _ t frozen => .cells #[.iface 258 (.pointer (some ⟨(World.holding Tryz.prog default ⟨#[], #[], []⟩).heap.size + 0, 0, none⟩))] t frozen | o => o).modify 14 fun | .cells _ t frozen => .cells #[.iface 258 (.pointer (some ⟨(World.holding Tryz.prog default ⟨#[], #[], []⟩).heap.size + 1, 0, none⟩))] t frozen | o => o).modify 16 fun | .cells _ t frozen => .cells #[.iface 258 (.pointer (some ⟨(World.holding Tryz.prog default ⟨#[], #[], []⟩).heap.size + 2, 0, none⟩))] t frozen | o => o).modify 13 fun | .cells _ t frozen => .cells #[.iface 258 (.pointer (some ⟨(World.holding Tryz.prog default ⟨#[], #[], []⟩).heap.size + 3, 0, none⟩))] t frozen | o => o).modify 11 fun | .cells _ t frozen => .cells #[.iface 258 (.pointer (some ⟨(World.holding Tryz.prog default ⟨#[], #[], []⟩).heap.size + 4, 0, none⟩))] t frozen | o => o).modify 12 fun | .cells _ t frozen => .cells #[.iface 258 (.pointer (some ⟨(World.holding Tryz.prog default ⟨#[], #[], []⟩).heap.size + 5, 0, none⟩))] t frozen | o => o).modify 0 fun | .cells _ t frozen => .cells #[.iface 258 (.pointer (some ⟨(World.holding Tryz.prog default ⟨#[], #[], []⟩).heap.size + 6, 0, none⟩))] t frozen | o => o).modify 1 fun | .cells _ t frozen => .cells #[.iface 258 (.pointer (some ⟨(World.holding Tryz.prog default ⟨#[], #[], []⟩).heap.size + 7, 0, none⟩))] t frozen | o => o).modify 2 fun | .cells _ t frozen => .cells #[.iface 258 (.pointer (some ⟨(World.holding Tryz.prog default ⟨#[], #[], []⟩).heap.size + 8, 0, none⟩))] t frozen | o => o).modify 3 fun | .cells _ t frozen => .cells #[.iface 258 (.pointer (some ⟨(World.holding Tryz.prog default ⟨#[], #[], []⟩).heap.size + 9, 0, none⟩))] t frozen | o => o).modify 4 fun | .cells _ t frozen => .cells #[.iface 258 (.pointer (some ⟨(World.holding Tryz.prog default ⟨#[], #[], []⟩).heap.size + 10, 0, none⟩))] t frozen | o => o).modify 5 fun | .cells _ t frozen => .cells #[.iface 258 (.pointer (some ⟨(World.holding Tryz.prog default ⟨#[], #[], []⟩).heap.size + 11, 0, none⟩))] t frozen | o => o).modify 6 fun | .cells _ t frozen => .cells #[.iface 258 (.pointer (some ⟨(World.holding Tryz.prog default ⟨#[], #[], []⟩).heap.size + 12, 0, none⟩))] t frozen | o => o).modify 10 fun | .cells _ t frozen => .cells (([128,191,160,191,128,159,144,191,128,143,0,0,0,0,0,0,0,0,0,0,0,0,0,0,0,0,0,0,0,0,0,0] : List Nat).map fun (n : Nat) => Value.int .u8 (n : Int)).toArray t frozen | o => o).modify 9 fun | .cells _ t frozen => .cells ((Go.Pinned.utf8FirstZ : List Nat).map fun (n : Nat) => Value.int .u8 (n : Int)).toArray t frozen | o => o).modify 7 fun | .cells _ t frozen => .cells #[.iface 153 (.agg #[.pointer (some ⟨17, 47, none⟩)])] t frozen | o => o } : World).forCall (fun _ _ => 0) ⟨#[], #[.agg #[.int .i64 0, .string ⟨#[]⟩, .string ⟨#[]⟩, .slice none 0 0, .string ⟨#[]⟩, .slice none 0 0], .string ⟨#[]⟩], []⟩).memory Tryz.f4.params.toList Rows.filtBackSpec.vars false #[Value.agg #[.int .i64 0, .string ⟨#[]⟩, .string ⟨#[]⟩, .slice none 0 0, .string ⟨#[]⟩, .slice none 0 0], Value.string ⟨#[]⟩].toList 8 = some ([.agg [.lit (.int .i64 0), .lit (.string []), .lit (.string []), .nil, .lit (.string []), .nil], .lit (.string [])], [], places) :=
  ⟨[], by kernel_rfl⟩

set_option maxRecDepth 100000 in
theorem lifted (os : Os) (started : os.Started) (H : Type) (enc : TypeId × Value → H) (F : Stop.Interp) :
    ReturnsInHanded {} Tryz.checked os 4 .any ((OpenSpec.ofChange Rows.filtBackSpec).preRow enc Tryz.prog Tryz.f4 Rows.filtBackRow.domain false Rows.filtBackRow.laid) (((OpenSpec.ofChange Rows.filtBackSpec).at F).post enc Tryz.prog Tryz.f4 false true false false) := by
  obtain ⟨places, hx⟩ := reads os enc
  refine returnsInHanded_of_row (C := Tryz.checked) (s := OpenSpec.ofChange Rows.filtBackSpec) own started (by kernel_rfl) Tryz.func4
    (witness_row_at (enc := enc) (C := Tryz.checked) false ({ World.holding Tryz.prog os ⟨#[.cells #[.string sentS0] 276, .cells #[.string sentS1] 276, .cells #[.string sentS2] 276, .cells #[.string sentS3] 276, .cells #[.string sentS4] 276, .cells #[.string sentS5] 276, .cells #[.string sentS6] 276, .cells #[.string sentS7] 276, .cells #[.string sentS8] 276, .cells #[.string sentS9] 276, .cells #[.string sentS10] 276, .cells #[.string sentS11] 276, .cells #[.string sentS12] 276], #[], []⟩ with heap := ((((((((((((((((World.holding Tryz.prog os ⟨#[.cells #[.string sentS0] 276, .cells #[.string sentS1] 276, .cells #[.string sentS2] 276, .cells #[.string sentS3] 276, .cells #[.string sentS4] 276, .cells #[.string sentS5] 276, .cells #[.string sentS6] 276, .cells #[.string sentS7] 276, .cells #[.string sentS8] 276, .cells #[.string sentS9] 276, .cells #[.string sentS10] 276, .cells #[.string sentS11] 276, .cells #[.string sentS12] 276], #[], []⟩).heap.modify 15 fun | .cells _ t frozen => .cells #[.iface 258 (.pointer (some ⟨(World.holding Tryz.prog default ⟨#[], #[], []⟩).heap.size + 0, 0, none⟩))] t frozen | o => o).modify 14 fun | .cells _ t frozen => .cells #[.iface 258 (.pointer (some ⟨(World.holding Tryz.prog default ⟨#[], #[], []⟩).heap.size + 1, 0, none⟩))] t frozen | o => o).modify 16 fun | .cells _ t frozen => .cells #[.iface 258 (.pointer (some ⟨(World.holding Tryz.prog default ⟨#[], #[], []⟩).heap.size + 2, 0, none⟩))] t frozen | o => o).modify 13 fun | .cells _ t frozen => .cells #[.iface 258 (.pointer (some ⟨(World.holding Tryz.prog default ⟨#[], #[], []⟩).heap.size + 3, 0, none⟩))] t frozen | o => o).modify 11 fun | .cells _ t frozen => .cells #[.iface 258 (.pointer (some ⟨(World.holding Tryz.prog default ⟨#[], #[], []⟩).heap.size + 4, 0, none⟩))] t frozen | o => o).modify 12 fun | .cells _ t frozen => .cells #[.iface 258 (.pointer (some ⟨(World.holding Tryz.prog default ⟨#[], #[], []⟩).heap.size + 5, 0, none⟩))] t frozen | o => o).modify 0 fun | .cells _ t frozen => .cells #[.iface 258 (.pointer (some ⟨(World.holding Tryz.prog default ⟨#[], #[], []⟩).heap.size + 6, 0, none⟩))] t frozen | o => o).modify 1 fun | .cells _ t frozen => .cells #[.iface 258 (.pointer (some ⟨(World.holding Tryz.prog default ⟨#[], #[], []⟩).heap.size + 7, 0, none⟩))] t frozen | o => o).modify 2 fun | .cells _ t frozen => .cells #[.iface 258 (.pointer (some ⟨(World.holding Tryz.prog default ⟨#[], #[], []⟩).heap.size + 8, 0, none⟩))] t frozen | o => o).modify 3 fun | .cells _ t frozen => .cells #[.iface 258 (.pointer (some ⟨(World.holding Tryz.prog default ⟨#[], #[], []⟩).heap.size + 9, 0, none⟩))] t frozen | o => o).modify 4 fun | .cells _ t frozen => .cells #[.iface 258 (.pointer (some ⟨(World.holding Tryz.prog default ⟨#[], #[], []⟩).heap.size + 10, 0, none⟩))] t frozen | o => o).modify 5 fun | .cells _ t frozen => .cells #[.iface 258 (.pointer (some ⟨(World.holding Tryz.prog default ⟨#[], #[], []⟩).heap.size + 11, 0, none⟩))] t frozen | o => o).modify 6 fun | .cells _ t frozen => .cells #[.iface 258 (.pointer (some ⟨(World.holding Tryz.prog default ⟨#[], #[], []⟩).heap.size + 12, 0, none⟩))] t frozen | o => o).modify 10 fun | .cells _ t frozen => .cells (([128,191,160,191,128,159,144,191,128,143,0,0,0,0,0,0,0,0,0,0,0,0,0,0,0,0,0,0,0,0,0,0] : List Nat).map fun (n : Nat) => Value.int .u8 (n : Int)).toArray t frozen | o => o).modify 9 fun | .cells _ t frozen => .cells ((Go.Pinned.utf8FirstZ : List Nat).map fun (n : Nat) => Value.int .u8 (n : Int)).toArray t frozen | o => o).modify 7 fun | .cells _ t frozen => .cells #[.iface 153 (.agg #[.pointer (some ⟨17, 47, none⟩)])] t frozen | o => o } : World) #[.agg #[.int .i64 0, .string ⟨#[]⟩, .string ⟨#[]⟩, .slice none 0 0, .string ⟨#[]⟩, .slice none 0 0], .string ⟨#[]⟩] rfl (by kernel_rfl) (by kernel_rfl) (by kernel_rfl)
      (OpenSpec.preRow_of_cond 8 hx (by kernel_rfl) (fun k hk => by cases hk) (by kernel_rfl) (laid_met os _))) ?_
  intro W base args ds gs before hval hW _ _ _ hL _ _
  exact contract H enc W base args ds gs before hval hW hL

theorem said : Rows.FiltBackSaid :=
  OpenClaim.holds_of_cond 4 Tryz.f4 rfl rfl rfl rfl rfl rfl rfl ⟨rfl, rfl, rfl, rfl, rfl⟩ rfl rfl rfl rfl rfl (by kernel_rfl) Tryz.func4 (by kernel_rfl)
    (of_decide_eq_true (by kernel_rfl)) (by unfold Func.isWrapper; first | (rw [if_pos (by decide +kernel)]; kernel_rfl) | (rw [if_neg (by decide +kernel)]; exact ⟨rfl, rfl⟩))
    (fun os started H enc _ F => by rw [OpenClaim.pre_eq_preRow]; exact lifted os started H enc F)

theorem plain (f : FuncId) (fn : Func) (hf : Tryz.pinned.checked.prog.funcNamed "latiner/latinerlaw08.FiltBack" = some f) (hfn : Tryz.pinned.checked.prog.funcs[f]? = some fn) :
    true = Tryz.pinned.checked.prog.looks [] ∧ ∀ (j : Nat) t, fn.params[j]? = some t → Tryz.pinned.checked.prog.wantsStandIn t = false := by
  obtain rfl : f = 4 := Option.some.inj ((show Tryz.prog.funcNamed "latiner/latinerlaw08.FiltBack" = some 4 by kernel_rfl).symm.trans hf) |>.symm
  obtain rfl : fn = Tryz.f4 := (Option.some.inj (Tryz.func4.symm.trans hfn)).symm
  refine ⟨by kernel_rfl, fun j t ht => ?_⟩
  rw [Tryz.params4] at ht
  have hm : t = 25 ∨ t = 9 := by have := Array.mem_of_getElem? ht; simp at this; first | exact this | omega | (rcases this with h | h | h <;> simp [h]) | (rcases this with h | h | h | h <;> simp [h])
  rcases hm with rfl | rfl
  · exact (show Tryz.prog.wantsStandIn 25 = false by kernel_rfl)
  · exact (show Tryz.prog.wantsStandIn 9 = false by kernel_rfl)

/-- The card. -/
theorem card : Rows.FiltBackCardSaid :=
  Claim7.holds_tied_plain_at .later [] _ _ _ _ said (fun _ h => by cases h) (by kernel_rfl) (fun _ h => by cases h) filtBack_row_tie rfl ⟨rfl, rfl⟩ (by kernel_rfl) rfl plain (by kernel_rfl)
end Go.Proofs.YtmjfkdpaeenfgaaGreatDoor.F.Back

namespace Go.Proofs.YtmjfkdpaeenfgaaGreatDoor
theorem filtBack_holds : Rows.FiltBackCardSaid := F.Back.card
#print axioms filtBack_holds
end Go.Proofs.YtmjfkdpaeenfgaaGreatDoor
