/-
  FiltTells: which filters are right, the same, their texts, their names, filters of texts, attributes' names, as the document says, for any two filters and text. Conditions: the package-level variables hold what the program's text lays (the card ties them).
-/
import Derived.Test.YtjhnblgamodekaaGreatDoorG45
import Derived.Test.YtjhnblgamodekaaGreatDoorFRef2
set_option linter.unusedSimpArgs false
set_option linter.unusedVariables false
set_option maxHeartbeats 16000000
set_option maxRecDepth 100000
namespace Go.Proofs.YtjhnblgamodekaaGreatDoor.F.Tells
open Go Go.RowKit Go.Shelf Fp Go.ChangeShapes Go.WideShapes Go.ChangeAt Go.ChangeMaps
open D (H_ un)
structure Bx (W : World) (b : Nat) (e : Fd) (F : Fl 8) : Prop where
 b : W.heap[b]? = some (.cells e.cs 25 (0, 0))
 n : FNode 8 W (fun _ => True) e F
theorem Bx.below {W W' : World} {b : Nat} {e : Fd} {F : Fl 8} (h : Bx W b e F) (hb : Below W.heap.size W W') : Bx W' b e F :=
 ⟨(hb.block _ (Array.getElem?_eq_some_iff.1 h.b).1).trans h.b, h.n.below hb⟩
theorem Bx.at {W W' : World} {b : Nat} {e : Fd} {F : Fl 8} (h : Bx W b e F) (hb : Below W.heap.size W W') : At W' b 0 e := At.box (h.below hb).b
theorem at_all {W : World} {g : Nat} {d : Fd} (h : At W g 0 d) : W.cell? ⟨g, 0, none⟩ = some (.int .i64 d.k) /\ W.cell? ⟨g, 1, none⟩ = some (.string d.a) /\ W.cell? ⟨g, 2, none⟩ = some (.string d.v) /\ W.cell? ⟨g, 3, none⟩ = some (.slice d.sa d.sn d.sc) /\ W.cell? ⟨g, 4, none⟩ = some (.string d.f) /\ W.cell? ⟨g, 5, none⟩ = some (.slice d.la d.ln d.lc) := ⟨h.c0, h.c1, h.c2, h.c3, h.c4, h.c5⟩
abbrev ZF : Fl 8 := mk 0 ⟨#[]⟩ ⟨#[]⟩ [] ⟨#[]⟩ []
theorem zf_node (W : World) : FNode 8 W (fun _ => True) zfd ZF := ⟨⟨rfl, rfl, rfl, rfl, rfl, rfl⟩, sm_mk (by decide) (by decide) (by decide) (by simp), .inl rfl, .inl rfl⟩
theorem any_prt (F : Fl 8) : ∃ tx ex, prtF F = .tuple #[.string tx, .int .i64 ex] := by
 unfold prtF
 split
 ·exact ⟨_, _, rfl⟩
 ·exact ⟨_, _, rfl⟩
def flO (o : Option (Fl 8)) : Fl 8 := o.getD ZF
def erO (o : Option (Fl 8)) : Int := if o.isSome then 0 else 80
theorem ps_form {o : Option (Fl 8)} {w w' : World} {e : Ending} (h : ParsePost o w e w') : Below w.heap.size w w' /\ ∃ d : Fd, e = .returned (.tuple #[d.val, .int .i64 (erO o)]) /\ FNode 8 w' (fun _ => True) d (flO o) := by
 obtain ⟨hb, h⟩ := h
 cases o with
 | none => exact ⟨hb, zfd, h, zf_node w'⟩
 | some F =>
  obtain ⟨d, he, hN⟩ := h
  exact ⟨hb, d, he, hN.imp fun _ _ _ => trivial⟩
theorem nms_len (F : Fl 8) : (nmsOf 8 F).length <= 100000 := by
 unfold nmsOf
 cases h : right 8 6 F with
 | false => simp
 | true =>
  have h1 := (names_many 8 6 F h).2
  have h2 : most 6 <= 100000 := by decide
  simp only [if_true]
  omega
theorem walk (d : Fd) (F0 : Fl 8) (d2 : Fd) (G0 : Fl 8) (x1 : ByteArray) (a : Ad) (w : World) (g : Glob a w) (hC : CutF 8 w d F0) (hC2 : CutF 8 w d2 G0) (hx : x1.size <= maxLen) :
  Calls Tryz.prog 3 #[d.val, d2.val, .string x1] w fun e w' => e = .returned (.bool true) /\ Below w.heap.size w w' := by
 have hxm := hx
 unfold maxLen at hx
 obtain ⟨S, hS⟩ : ∃ S, S = x1.extract 0 (min (x1.size : Int) 500).toNat := ⟨_, rfl⟩
 have hSz : S.size <= 500 := by rw [hS, ByteArray.size_extract]; omega
 have HSS := H_ (And.intro hS hSz)
 have HXm := H_ hxm
 clear hx hxm hS hSz
 obtain ⟨W0, hW0⟩ : ∃ W0, W0 = (w.alloc d.obj).alloc d2.obj := ⟨_, rfl⟩
 have hb0 : Below w.heap.size w W0 := by rw [hW0]; exact ((Below.refl _ _).alloc (Nat.le_refl _) _).alloc (by simp) _
 have hq0 : W0.heap[w.heap.size]? = some (.cells d.cs 25 (0, 0)) := by rw [hW0]; exact (Below.heap_alloc _ _ _ (by simp)).trans (World.alloc_heap_new _ _)
 have hp0 : W0.heap[(w.heap.size + 1)]? = some (.cells d2.cs 25 (0, 0)) := by rw [hW0]; have := World.alloc_heap_new (w.alloc d.obj) d2.obj; rwa [World.size_alloc] at this
 have HSh := H_ fun W (h : Below w.heap.size w W) => shown_true a W (g.below (Nat.le_refl _) h)
 have HC := H_ fun W (h : Below w.heap.size w W) => Cut_any F0 W d (hC.below h)
 have HC2 := H_ fun W (h : Below w.heap.size w W) => Cut_any G0 W d2 (hC2.below h)
 have Hg := H_ g
 have H0 := H_ (And.intro hb0 (And.intro hq0 hp0))
 have HW0 := H_ hW0
 clear g hC hC2 hb0 hq0 hp0 hW0
 obtain ⟨dk, da, dv, dsa, dsn, dsc, df, dla, dln, dlc⟩ := d
 obtain ⟨bk, ba, bv, bsa, bsn, bsc, bf, bla, bln, blc⟩ := d2
 go_enter Tryz.func3, Tryz.ntmps3
 go_wp2_with fail
 rw [<- (show W0 = _ from un HW0)]
 refine ((un HSh) _ (un H0).1).mono ?_
 rintro e w1 ⟨rfl, hb⟩
 have B1 := H_ (step (un H0).1 hb)
 have hq := (hb.block _ (Array.getElem?_eq_some_iff.1 (un H0).2.1).1).trans (un H0).2.1
 have hp := (hb.block _ (Array.getElem?_eq_some_iff.1 (un H0).2.2).1).trans (un H0).2.2
 have Q := H_ (And.intro hq hp)
 obtain ⟨⟨c0, c1, c2, c3, c4, c5⟩, _⟩ := box6 hq
 dsimp only at c0 c1 c2 c3 c4 c5
 clear hb hq hp H0 HSh HW0
 go_wp2_with fail
 refine ((un HC) _ (un B1)).mono ?_
 rintro e w2 ⟨hb, ⟨ek, ea, ev, esa, esn, esc, ef, ela, eln, elc⟩, rfl, hN⟩
 have hq := (hb.block _ (Array.getElem?_eq_some_iff.1 (un Q).1).1).trans (un Q).1
 have hp := (hb.block _ (Array.getElem?_eq_some_iff.1 (un Q).2).1).trans (un Q).2
 have hB1z : (w.heap.size + 1) < w1.heap.size := (Array.getElem?_eq_some_iff.1 (un Q).2).1
 have hlt2 : w.heap.size < w2.heap.size := (Array.getElem?_eq_some_iff.1 hq).1
 clear c0 c1 c2 c3 c4 c5
 obtain ⟨⟨c0, c1, c2, c3, c4, c5⟩, g0, g1, g2, g3, g4, g5⟩ := box6 hq
 dsimp only at c0 c1 c2 c3 c4 c5
 obtain ⟨X1, hX⟩ : ∃ X, X = set6 w2 w.heap.size ⟨ek, ea, ev, esa, esn, esc, ef, ela, eln, elc⟩ := ⟨_, rfl⟩
 have hXb := set6_but w2 w.heap.size ⟨ek, ea, ev, esa, esn, esc, ef, ela, eln, elc⟩
 have hXq := set6_blk hq ⟨ek, ea, ev, esa, esn, esc, ef, ela, eln, elc⟩
 rw [<- hX] at hXb hXq
 dsimp only [set6] at hX
 have hXc := hX.symm
 clear hX
 have hXp := (hXb.block _ (Array.getElem?_eq_some_iff.1 hp).1 (by omega)).trans hp
 have hXw := (step (un B1) hb).trans (hXb.below (Nat.le_refl _) hlt2)
 have hXN := (hN.of (W' := X1) fun b h1 h2 => hXb.block b h2 (by omega)).imp (q := fun b => (w.heap.size + 1) < b) fun b h1 _ => by omega
 obtain ⟨⟨k0, k1, k2, k3, k4, k5⟩, _⟩ := box6 hXp
 dsimp only at k0 k1 k2 k3 k4 k5
 have HX := H_ (And.intro hXw (And.intro hXq (And.intro hXp hXN)))
 clear hb hq hp hN hXb hXq hXp hXw hXN Q HC hlt2 hB1z
 generalize F0 = F at *
 go_wp2_with fail
 clear hXc k0 k1 k2 k3 k4 k5 g0 g1 g2 g3 g4 g5 c0 c1 c2 c3 c4 c5
 refine ((un HC2) _ (un HX).1).mono ?_
 rintro e w3 ⟨hb, ⟨hk, ha, hv, hsa, hsn, hsc, hf, hla, hln, hlc⟩, rfl, hN⟩
 have hq := (hb.block _ (Array.getElem?_eq_some_iff.1 (un HX).2.2.1).1).trans (un HX).2.2.1
 have hp := (hb.block _ (Array.getElem?_eq_some_iff.1 (un HX).2.1).1).trans (un HX).2.1
 have hlt3 : (w.heap.size + 1) < w3.heap.size := (Array.getElem?_eq_some_iff.1 hq).1
 have hltX : (w.heap.size + 1) < X1.heap.size := (Array.getElem?_eq_some_iff.1 (un HX).2.2.1).1
 obtain ⟨⟨c0, c1, c2, c3, c4, c5⟩, g0, g1, g2, g3, g4, g5⟩ := box6 hq
 dsimp only at c0 c1 c2 c3 c4 c5
 obtain ⟨X, hX⟩ : ∃ X, X = set6 w3 (w.heap.size + 1) ⟨hk, ha, hv, hsa, hsn, hsc, hf, hla, hln, hlc⟩ := ⟨_, rfl⟩
 have hXb := set6_but w3 (w.heap.size + 1) ⟨hk, ha, hv, hsa, hsn, hsc, hf, hla, hln, hlc⟩
 have hXq := set6_blk hq ⟨hk, ha, hv, hsa, hsn, hsc, hf, hla, hln, hlc⟩
 rw [<- hX] at hXb hXq
 dsimp only [set6] at hX
 have hXc := hX.symm
 clear hX
 have hXp := (hXb.block _ (Array.getElem?_eq_some_iff.1 hp).1 (by omega)).trans hp
 have hXw := (step (un HX).1 hb).trans (hXb.below (by omega) hlt3)
 have hXN := (hN.of (W' := X) fun b h1 h2 => hXb.block b h2 (by omega)).imp (q := fun _ => True) fun b h1 _ => trivial
 have hXM := (((un HX).2.2.2.below hb).of (W' := X) fun b h1 h2 => hXb.block b h2 (by omega)).imp (q := fun _ => True) fun b h1 _ => trivial
 obtain ⟨⟨k0, k1, k2, k3, k4, k5⟩, _⟩ := box6 hXp
 obtain ⟨⟨l0, l1, l2, l3, l4, l5⟩, _⟩ := box6 hXq
 dsimp only at k0 k1 k2 k3 k4 k5 l0 l1 l2 l3 l4 l5
 have hXlt : (w.heap.size + 1) < X.heap.size := (Array.getElem?_eq_some_iff.1 hXq).1
 have hXlt0 : w.heap.size < X.heap.size := by omega
 have HY := H_ (And.intro hXw (And.intro hXp (And.intro hXq (And.intro hXM hXN))))
 clear hb hq hp hN hXb hXq hXp hXw hXN hXM HX HC2 hlt3 hltX B1
 generalize G0 = G at *
 go_wp2_with fail
 clear hXc k0 k1 k2 k3 k4 k5 l0 l1 l2 l3 l4 l5 g0 g1 g2 g3 g4 g5 c0 c1 c2 c3 c4 c5
 refine (cut_any x1 X (un HXm)).mono ?_
 rintro e w3 ⟨rfl, hw3⟩
 rw [hw3, <- (un HSS).1]
 clear hw3
 have X0 := H_ (Bx.mk (un HY).2.1 (un HY).2.2.2.1)
 have X1 := H_ (Bx.mk (un HY).2.2.1 (un HY).2.2.2.2)
 have B3 := H_ (un HY).1
 have hSz := (un HSS).2
 have HSp := H_ fun W g => (parse_any a S (shrt_small (by omega)) W g).mono fun e w' h => ps_form h
 have HSr := H_ fun W => (refParse_any S W (by omega)).mono fun e w' h => ps_form h
 rw [show rdT S.data.toList = rdT (dt S) from rfl] at HSp
 generalize erO (rdT (dt S)) = er at *
 generalize flO (rdT (dt S)) = Z at *
 have HIs := H_ fun V => isName_any S V
 have HIr := H_ fun V => (refIsName_any S V (by omega)).mono fun e w' ⟨h1, h2⟩ => And.intro h1 (show Below V.heap.size V w' by rw [h2]; exact Below.refl _ _)
 generalize okName S = bI at *
 clear HY hSz HSS HXm hXlt hXlt0
 obtain ⟨tx, ex, hpf⟩ := any_prt F
 have HA := H_ fun W g d (h : FNode 8 W (fun _ => True) d F) => print_any 7 F a W _ d g h (by omega)
 have HB := H_ fun W d (h : FNode 8 W (fun _ => True) d F) => refPrint_any 7 F W _ d h
 rw [hpf] at HA HB
 clear hpf
 obtain ⟨⟨c0, c1, c2, c3, c4, c5⟩, _⟩ := box6 (un X0).b
 dsimp only at c0 c1 c2 c3 c4 c5
 go_wp2_with fail
 refine ((un HA) _ ((un Hg).below (Nat.le_refl _) (un B3)) _ (un X0).n).mono ?_
 rintro e w4 ⟨rfl, hb⟩
 have B4 := H_ (step (un B3) hb)
 replace X0 := H_ ((un X0).below hb)
 replace X1 := H_ ((un X1).below hb)
 clear hb HA B3
 clear c0 c1 c2 c3 c4 c5
 obtain ⟨⟨c0, c1, c2, c3, c4, c5⟩, _⟩ := box6 (un X0).b
 dsimp only at c0 c1 c2 c3 c4 c5
 go_wp2_with fail
 refine ((un HB) _ _ (un X0).n).mono ?_
 rintro e w5 ⟨rfl, hb⟩
 have B5 := H_ (step (un B4) hb)
 replace X0 := H_ ((un X0).below hb)
 replace X1 := H_ ((un X1).below hb)
 clear hb HB B4
 clear c0 c1 c2 c3 c4 c5
 go_wp2_with fail
 refine ((un HSp) _ ((un Hg).below (Nat.le_refl _) (un B5))).mono ?_
 rintro e w6 ⟨hb, ⟨pk, pa, pv, psa, psn, psc, pf, pla, pln, plc⟩, rfl, hN⟩
 obtain ⟨Y6, hY6⟩ : ∃ Y, Y = w6.alloc (Fd.obj ⟨pk, pa, pv, psa, psn, psc, pf, pla, pln, plc⟩) := ⟨_, rfl⟩
 have hal : Below w6.heap.size w6 Y6 := by rw [hY6]; exact (Below.refl _ _).alloc (Nat.le_refl _) _
 have X2 := H_ (Bx.mk (b := w6.heap.size) (by rw [hY6]; exact World.alloc_heap_new w6 (Fd.obj ⟨pk, pa, pv, psa, psn, psc, pf, pla, pln, plc⟩)) (hN.below hal))
 have B6 := H_ (step (step (un B5) hb) hal)
 replace X0 := H_ (((un X0).below hb).below hal)
 replace X1 := H_ (((un X1).below hb).below hal)
 have hY6c := hY6.symm
 dsimp only [Fd.obj, Fd.cs] at hY6c
 clear hb hal hN hY6 HSp B5
 go_wp2_with fail
 clear hY6c
 refine ((un HSr) _).mono ?_
 rintro e w7 ⟨hb, ⟨qk, qa, qv, qsa, qsn, qsc, qf, qla, qln, qlc⟩, rfl, hN⟩
 obtain ⟨Y, hY⟩ : ∃ Y, Y = w7.alloc (Fd.obj ⟨qk, qa, qv, qsa, qsn, qsc, qf, qla, qln, qlc⟩) := ⟨_, rfl⟩
 have hal : Below w7.heap.size w7 Y := by rw [hY]; exact (Below.refl _ _).alloc (Nat.le_refl _) _
 have X3 := H_ (Bx.mk (b := w7.heap.size) (by rw [hY]; exact World.alloc_heap_new w7 (Fd.obj ⟨qk, qa, qv, qsa, qsn, qsc, qf, qla, qln, qlc⟩)) (hN.below hal))
 have B7 := H_ (step (step (un B6) hb) hal)
 replace X0 := H_ (((un X0).below hb).below hal)
 replace X1 := H_ (((un X1).below hb).below hal)
 replace X2 := H_ (((un X2).below hb).below hal)
 have hYc := hY.symm
 dsimp only [Fd.obj, Fd.cs] at hYc
 clear hb hal hN hY HSr B6
 generalize w6.heap.size = n2 at *
 obtain ⟨n3, hn3⟩ : ∃ n, w7.heap.size = n := ⟨_, rfl⟩
 rw [hn3] at X3
 have hD : Below Y.heap.size Y Y.drew := (Below.refl _ _).drew
 have hSD : (fun w' : World => At w' w.heap.size 0 ⟨ek, ea, ev, esa, esn, esc, ef, ela, eln, elc⟩ /\ At w' (w.heap.size + 1) 0 ⟨hk, ha, hv, hsa, hsn, hsc, hf, hla, hln, hlc⟩ /\ At w' n2 0 ⟨pk, pa, pv, psa, psn, psc, pf, pla, pln, plc⟩ /\ At w' n3 0 ⟨qk, qa, qv, qsa, qsn, qsc, qf, qla, qln, qlc⟩) Y.drew := ⟨(un X0).at hD, (un X1).at hD, (un X2).at hD, (un X3).at hD⟩
 have HSof : Hid (∀ V, Below Y.drew.heap.size Y.drew V -> (fun w' : World => At w' w.heap.size 0 ⟨ek, ea, ev, esa, esn, esc, ef, ela, eln, elc⟩ /\ At w' (w.heap.size + 1) 0 ⟨hk, ha, hv, hsa, hsn, hsc, hf, hla, hln, hlc⟩ /\ At w' n2 0 ⟨pk, pa, pv, psa, psn, psc, pf, pla, pln, plc⟩ /\ At w' n3 0 ⟨qk, qa, qv, qsa, qsn, qsc, qf, qla, qln, qlc⟩) V) := H_ fun V hV => ⟨hSD.1.of (hV.block _ hSD.1.lt), hSD.2.1.of (hV.block _ hSD.2.1.lt), hSD.2.2.1.of (hV.block _ hSD.2.2.1.lt), hSD.2.2.2.of (hV.block _ hSD.2.2.2.lt)⟩
 have Al := H_ fun (w1 : World) (h : (fun w' : World => At w' w.heap.size 0 ⟨ek, ea, ev, esa, esn, esc, ef, ela, eln, elc⟩ /\ At w' (w.heap.size + 1) 0 ⟨hk, ha, hv, hsa, hsn, hsc, hf, hla, hln, hlc⟩ /\ At w' n2 0 ⟨pk, pa, pv, psa, psn, psc, pf, pla, pln, plc⟩ /\ At w' n3 0 ⟨qk, qa, qv, qsa, qsn, qsc, qf, qla, qln, qlc⟩) w1) => And.intro (at_all h.1) (And.intro (at_all h.2.1) (And.intro (at_all h.2.2.1) (at_all h.2.2.2)))
 dsimp only at Al
 have hgV : ∀ V, Below Y.drew.heap.size Y.drew V -> Glob a V := fun V h => (un Hg).below (Nat.le_refl _) (step (un B7) (hD.trans (h.mono (Nat.le_refl _))))
 have hF := fun V (h : Below Y.drew.heap.size Y.drew V) => ((un X0).n.below hD).below h
 have hG := fun V (h : Below Y.drew.heap.size Y.drew V) => ((un X1).n.below hD).below h
 have hP := fun V (h : Below Y.drew.heap.size Y.drew V) => ((un X2).n.below hD).below h
 have hQ := fun V (h : Below Y.drew.heap.size Y.drew V) => ((un X3).n.below hD).below h
 have HRi := H_ fun V h => right_any 7 F a V _ ⟨ek, ea, ev, esa, esn, esc, ef, ela, eln, elc⟩ (hgV V h) (hF V h) (by omega)
 have HRr := H_ fun V h => refRight_any 8 F V _ ⟨ek, ea, ev, esa, esn, esc, ef, ela, eln, elc⟩ (hF V h)
 have HSxy := H_ fun V h => same_any 8 F G V _ _ ⟨ek, ea, ev, esa, esn, esc, ef, ela, eln, elc⟩ ⟨hk, ha, hv, hsa, hsn, hsc, hf, hla, hln, hlc⟩ (hF V h) (hG V h)
 have HSrf := H_ fun V h => refSame_any 8 F G V _ _ ⟨ek, ea, ev, esa, esn, esc, ef, ela, eln, elc⟩ ⟨hk, ha, hv, hsa, hsn, hsc, hf, hla, hln, hlc⟩ (hF V h) (hG V h)
 have HSxx := H_ fun V h => same_any 8 F F V _ _ ⟨ek, ea, ev, esa, esn, esc, ef, ela, eln, elc⟩ ⟨ek, ea, ev, esa, esn, esc, ef, ela, eln, elc⟩ (hF V h) (hF V h)
 have HSpq := H_ fun V h => refSame_any 8 Z Z V _ _ ⟨pk, pa, pv, psa, psn, psc, pf, pla, pln, plc⟩ ⟨qk, qa, qv, qsa, qsn, qsc, qf, qla, qln, qlc⟩ (hP V h) (hQ V h)
 have HNm : Hid (∀ V, Below Y.drew.heap.size Y.drew V -> Calls Tryz.prog 16 #[Fd.val ⟨ek, ea, ev, esa, esn, esc, ef, ela, eln, elc⟩] V fun e w' => Below V.heap.size V w' /\ ∃ v, e = .returned v /\ w'.ownsRow V.heap.size 9 1 v (nmsOf 8 F).length (strs (nmsOf 8 F))) := H_ fun V h => names_any 7 F a V _ ⟨ek, ea, ev, esa, esn, esc, ef, ela, eln, elc⟩ (hgV V h) (hF V h) (by omega)
 have HNr := H_ fun V h => refNames_any 8 F V _ ⟨ek, ea, ev, esa, esn, esc, ef, ela, eln, elc⟩ (hF V h)
 unfold NmPost at HNr
 rw [(same_iff 8 _ _).2 rfl] at HSxx HSpq
 have HNl := H_ (nms_len F)
 generalize nmsOf 8 F = NL at *
 generalize right 8 6 F = bR at *
 generalize same 8 F G = bS at *
 have BY := H_ (step (un B7) hD)
 clear hgV hF hG hP hQ X0 X1 X2 X3 B7
 go_wp2_with fail
 clear hYc hn3
 refine wp_region_held (S := fun w' : World => At w' w.heap.size 0 ⟨ek, ea, ev, esa, esn, esc, ef, ela, eln, elc⟩ /\ At w' (w.heap.size + 1) 0 ⟨hk, ha, hv, hsa, hsn, hsc, hf, hla, hln, hlc⟩ /\ At w' n2 0 ⟨pk, pa, pv, psa, psn, psc, pf, pla, pln, plc⟩ /\ At w' n3 0 ⟨qk, qa, qv, qsa, qsn, qsc, qf, qla, qln, qlc⟩) (by kernel_rfl) ?_
 change wpAnyH _ _ _ _ _ 57 #[false, false, false, false, false, false, false, false, false, false, false, false, false, false, false, false, false, false, false, false, false, false, false, false, false, false, false, false, false, false, false, false, false, false, false, false, false, false, false, false, false, false, false, false, false, false, false, false, false, false, false, false, false, false, false, false, false] _ Y.drew
 have Bd5 : Hid (Below Y.drew.heap.size Y.drew Y.drew) := H_ (Below.refl _ _)
 generalize Y.drew = d5 at *
 have hS := hSD
 clear hSD hD
 refine tkk 0 (.bool true) rfl (by intro w1 h; have h := un Al w1 h; go_simp; all_goals first | rfl | omega) hS ?_
 simp only [Act.put, nrm]
 refine tkk 1 (.bool true) rfl (by intro w1 h; have h := un Al w1 h; go_simp; all_goals first | rfl | omega) hS ?_
 simp only [Act.put, nrm]
 refine tkk 2 (.agg #[.int .i64 ek, .string ea, .string ev, .slice esa esn esc, .string ef, .slice ela eln elc]) rfl (by intro w1 h; have h := un Al w1 h; go_simp; all_goals first | rfl | omega) hS ?_
 simp only [Act.put, nrm]
 refine tkk 4 (.agg #[.int .i64 ek, .string ea, .string ev, .slice esa esn esc, .string ef, .slice ela eln elc]) rfl (by intro w1 h; have h := un Al w1 h; go_simp; all_goals first | rfl | omega) hS ?_
 simp only [Act.put, nrm]
 refine rdyy 3 rfl (fun K hK => ?_)
 rw [if_pos (by kernel_rfl)]
 go_wp2_with fail
 refine ((un HRi) d5 (un Bd5)).mono ?_
 rintro e v1 ⟨rfl, hb⟩
 have hSv1 := (un HSof) v1 (step (un Bd5) hb)
 have Bv1 := H_ (step (un Bd5) hb)
 clear hb
 go_wp2
 refine hK.out _ _ hSv1 (fun _ => ?_)
 clear hK K
 simp only [Act.put, nrm]
 clear hS
 refine rdyy 5 rfl (fun K hK => ?_)
 rw [if_pos (by kernel_rfl)]
 go_wp2_with fail
 refine ((un HRr) v1 (un Bv1)).mono ?_
 rintro e v2 ⟨rfl, hb⟩
 have hSv2 := (un HSof) v2 (step (un Bv1) hb)
 have Bv2 := H_ (step (un Bv1) hb)
 clear hb
 go_wp2
 refine hK.out _ _ hSv2 (fun _ => ?_)
 clear hK K
 simp only [Act.put, nrm]
 clear hSv1
 refine tkk 6 (.bool true) rfl (by intro w1 h; have h := un Al w1 h; go_simp; all_goals first | rfl | omega) hSv2 ?_
 simp only [Act.put, nrm]
 refine tkk 7 (.bool true) rfl (by intro w1 h; have h := un Al w1 h; go_simp; all_goals first | rfl | omega) hSv2 ?_
 simp only [Act.put, nrm]
 refine tkk 8 (.bool true) rfl (by intro w1 h; have h := un Al w1 h; go_simp; all_goals first | rfl | omega) hSv2 ?_
 simp only [Act.put, nrm]
 refine tkk 9 (.agg #[.int .i64 ek, .string ea, .string ev, .slice esa esn esc, .string ef, .slice ela eln elc]) rfl (by intro w1 h; have h := un Al w1 h; go_simp; all_goals first | rfl | omega) hSv2 ?_
 simp only [Act.put, nrm]
 refine tkk 10 (.agg #[.int .i64 hk, .string ha, .string hv, .slice hsa hsn hsc, .string hf, .slice hla hln hlc]) rfl (by intro w1 h; have h := un Al w1 h; go_simp; all_goals first | rfl | omega) hSv2 ?_
 simp only [Act.put, nrm]
 refine tkk 12 (.agg #[.int .i64 ek, .string ea, .string ev, .slice esa esn esc, .string ef, .slice ela eln elc]) rfl (by intro w1 h; have h := un Al w1 h; go_simp; all_goals first | rfl | omega) hSv2 ?_
 simp only [Act.put, nrm]
 refine tkk 13 (.agg #[.int .i64 hk, .string ha, .string hv, .slice hsa hsn hsc, .string hf, .slice hla hln hlc]) rfl (by intro w1 h; have h := un Al w1 h; go_simp; all_goals first | rfl | omega) hSv2 ?_
 simp only [Act.put, nrm]
 refine rdyy 11 rfl (fun K hK => ?_)
 rw [if_pos (by kernel_rfl)]
 go_wp2_with fail
 refine ((un HSxy) v2 (un Bv2)).mono ?_
 rintro e v3 ⟨rfl, hb⟩
 have hSv3 := (un HSof) v3 (step (un Bv2) hb)
 have Bv3 := H_ (step (un Bv2) hb)
 clear hb
 go_wp2
 refine hK.out _ _ hSv3 (fun _ => ?_)
 clear hK K
 simp only [Act.put, nrm]
 clear hSv2
 refine rdyy 14 rfl (fun K hK => ?_)
 rw [if_pos (by kernel_rfl)]
 go_wp2_with fail
 refine ((un HSrf) v3 (un Bv3)).mono ?_
 rintro e v4 ⟨rfl, hb⟩
 have hSv4 := (un HSof) v4 (step (un Bv3) hb)
 have Bv4 := H_ (step (un Bv3) hb)
 clear hb
 go_wp2
 refine hK.out _ _ hSv4 (fun _ => ?_)
 clear hK K
 simp only [Act.put, nrm]
 clear hSv3
 refine tkk 15 (.bool true) rfl (by intro w1 h; have h := un Al w1 h; go_simp; all_goals first | rfl | omega) hSv4 ?_
 simp only [Act.put, nrm]
 refine tkk 16 (.bool true) rfl (by intro w1 h; have h := un Al w1 h; go_simp; all_goals first | rfl | omega) hSv4 ?_
 simp only [Act.put, nrm]
 refine tkk 17 (.bool true) rfl (by intro w1 h; have h := un Al w1 h; go_simp; all_goals first | rfl | omega) hSv4 ?_
 simp only [Act.put, nrm]
 refine tkk 18 (.agg #[.int .i64 ek, .string ea, .string ev, .slice esa esn esc, .string ef, .slice ela eln elc]) rfl (by intro w1 h; have h := un Al w1 h; go_simp; all_goals first | rfl | omega) hSv4 ?_
 simp only [Act.put, nrm]
 refine tkk 19 (.agg #[.int .i64 ek, .string ea, .string ev, .slice esa esn esc, .string ef, .slice ela eln elc]) rfl (by intro w1 h; have h := un Al w1 h; go_simp; all_goals first | rfl | omega) hSv4 ?_
 simp only [Act.put, nrm]
 refine rdyy 20 rfl (fun K hK => ?_)
 rw [if_pos (by kernel_rfl)]
 go_wp2_with fail
 refine ((un HSxx) v4 (un Bv4)).mono ?_
 rintro e v5 ⟨rfl, hb⟩
 have hSv5 := (un HSof) v5 (step (un Bv4) hb)
 have Bv5 := H_ (step (un Bv4) hb)
 clear hb
 go_wp2
 refine hK.out _ _ hSv5 (fun _ => ?_)
 clear hK K
 simp only [Act.put, nrm]
 clear hSv4
 refine tkk 21 (.bool true) rfl (by intro w1 h; have h := un Al w1 h; go_simp; all_goals first | rfl | omega) hSv5 ?_
 simp only [Act.put, nrm]
 refine tkk 22 (.bool true) rfl (by intro w1 h; have h := un Al w1 h; go_simp; all_goals first | rfl | omega) hSv5 ?_
 simp only [Act.put, nrm]
 refine tkk 23 (.string tx) rfl (by intro w1 h; have h := un Al w1 h; go_simp; all_goals first | rfl | omega) hSv5 ?_
 simp only [Act.put, nrm]
 refine tkk 24 (.string tx) rfl (by intro w1 h; have h := un Al w1 h; go_simp; all_goals first | rfl | omega) hSv5 ?_
 simp only [Act.put, nrm]
 refine tkk 25 (.bool true) rfl (by intro w1 h; have h := un Al w1 h; go_simp; all_goals first | rfl | omega) hSv5 ?_
 simp only [Act.put, nrm]
 refine tkk 26 (.bool true) rfl (by intro w1 h; have h := un Al w1 h; go_simp; all_goals first | rfl | omega) hSv5 ?_
 simp only [Act.put, nrm]
 refine tkk 27 (.bool true) rfl (by intro w1 h; have h := un Al w1 h; go_simp; all_goals first | rfl | omega) hSv5 ?_
 simp only [Act.put, nrm]
 refine tkk 28 (.int .i64 ex) rfl (by intro w1 h; have h := un Al w1 h; go_simp; all_goals first | rfl | omega) hSv5 ?_
 simp only [Act.put, nrm]
 refine tkk 29 (.int .i64 ex) rfl (by intro w1 h; have h := un Al w1 h; go_simp; all_goals first | rfl | omega) hSv5 ?_
 simp only [Act.put, nrm]
 refine tkk 30 (.bool true) rfl (by intro w1 h; have h := un Al w1 h; go_simp; all_goals first | rfl | omega) hSv5 ?_
 simp only [Act.put, nrm]
 refine tkk 31 (.bool true) rfl (by intro w1 h; have h := un Al w1 h; go_simp; all_goals first | rfl | omega) hSv5 ?_
 simp only [Act.put, nrm]
 refine tkk 32 (.bool true) rfl (by intro w1 h; have h := un Al w1 h; go_simp; all_goals first | rfl | omega) hSv5 ?_
 simp only [Act.put, nrm]
 refine tkk 33 (.agg #[.int .i64 pk, .string pa, .string pv, .slice psa psn psc, .string pf, .slice pla pln plc]) rfl (by intro w1 h; have h := un Al w1 h; go_simp; all_goals first | rfl | omega) hSv5 ?_
 simp only [Act.put, nrm]
 refine tkk 34 (.agg #[.int .i64 qk, .string qa, .string qv, .slice qsa qsn qsc, .string qf, .slice qla qln qlc]) rfl (by intro w1 h; have h := un Al w1 h; go_simp; all_goals first | rfl | omega) hSv5 ?_
 simp only [Act.put, nrm]
 refine rdyy 35 rfl (fun K hK => ?_)
 rw [if_pos (by kernel_rfl)]
 go_wp2_with fail
 refine ((un HSpq) v5 (un Bv5)).mono ?_
 rintro e v6 ⟨rfl, hb⟩
 have hSv6 := (un HSof) v6 (step (un Bv5) hb)
 have Bv6 := H_ (step (un Bv5) hb)
 clear hb
 go_wp2
 refine hK.out _ _ hSv6 (fun _ => ?_)
 clear hK K
 simp only [Act.put, nrm]
 clear hSv5
 refine tkk 36 (.bool true) rfl (by intro w1 h; have h := un Al w1 h; go_simp; all_goals first | rfl | omega) hSv6 ?_
 simp only [Act.put, nrm]
 refine tkk 37 (.bool true) rfl (by intro w1 h; have h := un Al w1 h; go_simp; all_goals first | rfl | omega) hSv6 ?_
 simp only [Act.put, nrm]
 refine tkk 38 (.int .i64 er) rfl (by intro w1 h; have h := un Al w1 h; go_simp; all_goals first | rfl | omega) hSv6 ?_
 simp only [Act.put, nrm]
 refine tkk 39 (.int .i64 er) rfl (by intro w1 h; have h := un Al w1 h; go_simp; all_goals first | rfl | omega) hSv6 ?_
 simp only [Act.put, nrm]
 refine tkk 40 (.bool true) rfl (by intro w1 h; have h := un Al w1 h; go_simp; all_goals first | rfl | omega) hSv6 ?_
 simp only [Act.put, nrm]
 refine tkk 41 (.bool true) rfl (by intro w1 h; have h := un Al w1 h; go_simp; all_goals first | rfl | omega) hSv6 ?_
 simp only [Act.put, nrm]
 refine tkk 42 (.bool true) rfl (by intro w1 h; have h := un Al w1 h; go_simp; all_goals first | rfl | omega) hSv6 ?_
 simp only [Act.put, nrm]
 refine tkk 43 (.agg #[.int .i64 ek, .string ea, .string ev, .slice esa esn esc, .string ef, .slice ela eln elc]) rfl (by intro w1 h; have h := un Al w1 h; go_simp; all_goals first | rfl | omega) hSv6 ?_
 simp only [Act.put, nrm]
 refine tkk 45 (.agg #[.int .i64 ek, .string ea, .string ev, .slice esa esn esc, .string ef, .slice ela eln elc]) rfl (by intro w1 h; have h := un Al w1 h; go_simp; all_goals first | rfl | omega) hSv6 ?_
 simp only [Act.put, nrm]
 refine rdyy 44 rfl (fun K hK => ?_)
 rw [if_pos (by kernel_rfl)]
 go_wp2_with fail
 refine ((un HNm) v6 (un Bv6)).mono ?_
 rintro e v7 ⟨hb, nv, rfl, hown⟩
 have hSv7 := (un HSof) v7 (step (un Bv6) hb)
 have Bv7 := H_ (step (un Bv6) hb)
 have TA := H_ (txl_of hown rfl)
 clear hown
 clear hb
 go_wp2
 refine hK.out _ _ hSv7 (fun _ => ?_)
 clear hK K
 simp only [Act.put, nrm]
 clear hSv6
 refine rdyy 46 rfl (fun K hK => ?_)
 rw [if_pos (by kernel_rfl)]
 go_wp2_with fail
 refine ((un HNr) v7 (un Bv7)).mono ?_
 rintro e v8 ⟨hb, na, nc, rfl, hst⟩
 have hSv8 := (un HSof) v8 (step (un Bv7) hb)
 have Bv8 := H_ (step (un Bv7) hb)
 replace TA := H_ ((un TA).below hb)
 have TB : Hid (TxL v8 (.slice na NL.length nc) NL) := H_ ⟨na, nc, rfl, hst.imp fun _ _ _ => trivial⟩
 clear hst
 clear hb
 go_wp2
 refine hK.out _ _ hSv8 (fun _ => ?_)
 clear hK K
 simp only [Act.put, nrm]
 clear hSv7
 refine rdyy 47 rfl (fun K hK => ?_)
 rw [if_pos (by kernel_rfl)]
 have hT := texts_any NL NL _ _ _ (un HNl) (un HNl) (un TA) (un TB)
 rw [decide_eq_true rfl] at hT
 have HT := H_ hT
 clear hT
 go_wp2_with fail
 refine (un HT).mono ?_
 rintro e v9 ⟨rfl, hb⟩
 have hSv9 := (un HSof) v9 (step (un Bv8) hb)
 have Bv9 := H_ (step (un Bv8) hb)
 clear TA TB HT
 clear hb
 go_wp2
 refine hK.out _ _ hSv9 (fun _ => ?_)
 clear hK K
 simp only [Act.put, nrm]
 clear hSv8
 refine tkk 48 (.bool true) rfl (by intro w1 h; have h := un Al w1 h; go_simp; all_goals first | rfl | omega) hSv9 ?_
 simp only [Act.put, nrm]
 refine tkk 49 (.bool true) rfl (by intro w1 h; have h := un Al w1 h; go_simp; all_goals first | rfl | omega) hSv9 ?_
 simp only [Act.put, nrm]
 refine tkk 50 (.string S) rfl (by intro w1 h; have h := un Al w1 h; go_simp; all_goals first | rfl | omega) hSv9 ?_
 simp only [Act.put, nrm]
 refine tkk 52 (.string S) rfl (by intro w1 h; have h := un Al w1 h; go_simp; all_goals first | rfl | omega) hSv9 ?_
 simp only [Act.put, nrm]
 refine rdyy 51 rfl (fun K hK => ?_)
 rw [if_pos (by kernel_rfl)]
 go_wp2_with fail
 refine ((un HIs) v9).mono ?_
 rintro e v10 ⟨rfl, hb⟩
 have hSv10 := (un HSof) v10 (step (un Bv9) hb)
 have Bv10 := H_ (step (un Bv9) hb)
 clear hb
 go_wp2
 refine hK.out _ _ hSv10 (fun _ => ?_)
 clear hK K
 simp only [Act.put, nrm]
 clear hSv9
 refine rdyy 53 rfl (fun K hK => ?_)
 rw [if_pos (by kernel_rfl)]
 go_wp2_with fail
 refine ((un HIr) v10).mono ?_
 rintro e v11 ⟨rfl, hb⟩
 have hSv11 := (un HSof) v11 (step (un Bv10) hb)
 have Bv11 := H_ (step (un Bv10) hb)
 clear hb
 go_wp2
 refine hK.out _ _ hSv11 (fun _ => ?_)
 clear hK K
 simp only [Act.put, nrm]
 clear hSv10
 refine tkk 54 (.bool true) rfl (by intro w1 h; have h := un Al w1 h; go_simp; all_goals first | rfl | omega) hSv11 ?_
 simp only [Act.put, nrm]
 refine tkk 55 (.bool true) rfl (by intro w1 h; have h := un Al w1 h; go_simp; all_goals first | rfl | omega) hSv11 ?_
 simp only [Act.put, nrm]
 refine tkk 56 (.bool true) rfl (by intro w1 h; have h := un Al w1 h; go_simp; all_goals first | rfl | omega) hSv11 ?_
 simp only [Act.put, nrm]
 refine wpAnyH_done (by kernel_rfl) ?_ _
 go_wp2
 go_ret
 exact ⟨rfl, step (un BY) (un Bv11)⟩
theorem contract (H : Type) (enc : TypeId × Value -> H) (W : World) (base : Nat) (args : Array Value) (ds gs : List (DataW H)) (before : List MemPlace)
  (hval : ∀ (j : Nat) t v, Tryz.f3.params[j]? = some t -> args[j]? = some v -> Value.okWide Tryz.prog W .any base t v)
  (hW : DataW.Whole enc Tryz.prog Tryz.f3.params.toList Rows.filtTellsSpec.vars false W args.toList ds gs before) (hL : laidMetH Tryz.prog Rows.filtTellsRow.laid W) :
  Calls Tryz.prog 3 args W fun e W' => ∃ v, e = .returned v /\ Rows.filtTellsSpec.post enc Tryz.prog Tryz.f3 false true false false W args v W' := by
 obtain ⟨a, g⟩ := glob_of_laid hL
 have hW' := hW
 obtain ⟨p, q, hA0, hV, rfl, hfz, hnd⟩ := hW
 have hA : DataW.TrodAll enc Tryz.prog W 0 (fun _ => true) true Tryz.f3.params.toList args.toList ds p := hA0
 rw [Tryz.params3] at hA hval
 obtain ⟨v0, vs0, d0, ds0, p0, q0, hargs0, rfl, rfl, h0, r0⟩ := trodAll_cons hA
 obtain ⟨v1, vs1, d1, ds1, p1, q1, hargs1, rfl, rfl, h1, r1⟩ := trodAll_cons r0
 obtain ⟨v2, vs2, d2, ds2, p2, q2, hargs2, rfl, rfl, h2, r2⟩ := trodAll_cons r1
 obtain ⟨rfl, rfl, rfl⟩ := trodAll_nil r2
 obtain rfl : args = #[v0, v1, v2] := by cases args; simp_all
 obtain ⟨rfl, rfl⟩ := trodVars_none hV
 obtain ⟨cs0, rfl, _⟩ := okWide_struct Tryz.underlying25 (hval 0 25 v0 rfl rfl)
 have hk0 := h0
 obtain ⟨fu0, hf0⟩ := h0
 obtain ⟨D0, ec0, F0, hC0⟩ := open_fil 7 fu0 _ _ hf0
 have hlt0 := DataW.trod_lt _ _ _ _ hf0
 obtain rfl : cs0 = D0.cs := Array.ext' ec0
 obtain ⟨cs1, rfl, _⟩ := okWide_struct Tryz.underlying25 (hval 1 25 v1 rfl rfl)
 have hk1 := h1
 obtain ⟨fu1, hf1⟩ := h1
 obtain ⟨D1, ec1, F1, hC1⟩ := open_fil 7 fu1 _ _ hf1
 have hlt1 := DataW.trod_lt _ _ _ _ hf1
 obtain rfl : cs1 = D1.cs := Array.ext' ec1
 obtain ⟨x2, rfl, rfl, rfl, wf2⟩ := open_string Tryz.underlying9 (hval 2 9 v2 rfl rfl) h2
 clear hA0
 simp only [List.append_nil] at hW'
 refine (walk D0 F0 D1 F1 x2 a W g hC0 hC1 wf2).mono fun e W' ⟨he, hg⟩ => ?_
 subst he
 refine ⟨_, rfl, _, _, _, [], (p0 ++ (p1 ++ ([] ++ []))), [], hW', ?_, ?_, ?_, hg.frame _, fun h => by cases h⟩
 ·exact trodAll_cons_mk (shut_bool Tryz.underlying4 _) trodAll_mk0
 ·exact trodAll_cons_mk (Below.trod (by kernel_rfl) (by kernel_rfl) (of_decide_eq_true (by kernel_rfl)) hk0 hg hlt0) (trodAll_cons_mk (Below.trod (by kernel_rfl) (by kernel_rfl) (of_decide_eq_true (by kernel_rfl)) hk1 hg hlt1) (trodAll_cons_mk (shut_string Tryz.underlying9 wf2) (trodAll_mk0)))
 ·rfl
theorem reads (os : Os) {H : Type} (enc : TypeId × Value -> H) : ∃ places, DataW.whole enc Tryz.prog (({ World.holding Tryz.prog os ⟨#[.cells #[.string sentS0] 272, .cells #[.string sentS1] 272, .cells #[.string sentS2] 272, .cells #[.string sentS3] 272, .cells #[.string sentS4] 272, .cells #[.string sentS5] 272, .cells #[.string sentS6] 272, .cells #[.string sentS7] 272, .cells #[.string sentS8] 272, .cells #[.string sentS9] 272, .cells #[.string sentS10] 272, .cells #[.string sentS11] 272, .cells #[.string sentS12] 272], #[], []⟩ with heap := ((((((((((((((((World.holding Tryz.prog os ⟨#[.cells #[.string sentS0] 272, .cells #[.string sentS1] 272, .cells #[.string sentS2] 272, .cells #[.string sentS3] 272, .cells #[.string sentS4] 272, .cells #[.string sentS5] 272, .cells #[.string sentS6] 272, .cells #[.string sentS7] 272, .cells #[.string sentS8] 272, .cells #[.string sentS9] 272, .cells #[.string sentS10] 272, .cells #[.string sentS11] 272, .cells #[.string sentS12] 272], #[], []⟩).heap.modify 15 fun | .cells _ t frozen => .cells #[.iface 254 (.pointer (some ⟨(World.holding Tryz.prog default ⟨#[], #[], []⟩).heap.size + 0, 0, none⟩))] t frozen | o => o).modify 14 fun | .cells _ t frozen => .cells #[.iface 254 (.pointer (some ⟨(World.holding Tryz.prog default ⟨#[], #[], []⟩).heap.size + 1, 0, none⟩))] t frozen | o => o).modify 16 fun | .cells _ t frozen => .cells #[.iface 254 (.pointer (some ⟨(World.holding Tryz.prog default ⟨#[], #[], []⟩).heap.size + 2, 0, none⟩))] t frozen | o => o).modify 13 fun | .cells _ t frozen => .cells #[.iface 254 (.pointer (some ⟨(World.holding Tryz.prog default ⟨#[], #[], []⟩).heap.size + 3, 0, none⟩))] t frozen | o => o).modify 11 fun | .cells _ t frozen => .cells #[.iface 254 (.pointer (some ⟨(World.holding Tryz.prog default ⟨#[], #[], []⟩).heap.size + 4, 0, none⟩))] t frozen | o => o).modify 12 fun | .cells _ t frozen => .cells #[.iface 254 (.pointer (some ⟨(World.holding Tryz.prog default ⟨#[], #[], []⟩).heap.size + 5, 0, none⟩))] t frozen | o => o).modify 0 fun | .cells _ t frozen => .cells #[.iface 254 (.pointer (some ⟨(World.holding Tryz.prog default ⟨#[], #[], []⟩).heap.size + 6, 0, none⟩))] t frozen | o => o).modify 1 fun | .cells _ t frozen => .cells #[.iface 254 (.pointer (some ⟨(World.holding Tryz.prog default ⟨#[], #[], []⟩).heap.size + 7, 0, none⟩))] t frozen | o => o).modify 2 fun | .cells _ t frozen => .cells #[.iface 254 (.pointer (some ⟨(World.holding Tryz.prog default ⟨#[], #[], []⟩).heap.size + 8, 0, none⟩))] t frozen | o => o).modify 3 fun | .cells _ t frozen => .cells #[.iface 254 (.pointer (some ⟨(World.holding Tryz.prog default ⟨#[], #[], []⟩).heap.size + 9, 0, none⟩))] t frozen | o => o).modify 4 fun | .cells _ t frozen => .cells #[.iface 254 (.pointer (some ⟨(World.holding Tryz.prog default ⟨#[], #[], []⟩).heap.size + 10, 0, none⟩))] t frozen | o => o).modify 5 fun | .cells _ t frozen => .cells #[.iface 254 (.pointer (some ⟨(World.holding Tryz.prog default ⟨#[], #[], []⟩).heap.size + 11, 0, none⟩))] t frozen | o => o).modify 6 fun | .cells _ t frozen => .cells #[.iface 254 (.pointer (some ⟨(World.holding Tryz.prog default ⟨#[], #[], []⟩).heap.size + 12, 0, none⟩))] t frozen | o => o).modify 10 fun | .cells _ t frozen => .cells (([128,191,160,191,128,159,144,191,128,143,0,0,0,0,0,0,0,0,0,0,0,0,0,0,0,0,0,0,0,0,0,0] : List Nat).map fun (n : Nat) => Value.int .u8 (n : Int)).toArray t frozen | o => o).modify 9 fun | .cells _ t frozen => .cells ((Go.Pinned.utf8FirstZ : List Nat).map fun (n : Nat) => Value.int .u8 (n : Int)).toArray t frozen | o => o).modify 7 fun | .cells _ t frozen => .cells #[.iface 121 (.agg #[.pointer (some ⟨17, 42, none⟩)])] t frozen | o => o } : World).forCall (fun _ _ => 0) ⟨#[], #[.agg #[.int .i64 0, .string ⟨#[]⟩, .string ⟨#[]⟩, .slice none 0 0, .string ⟨#[]⟩, .slice none 0 0], .agg #[.int .i64 0, .string ⟨#[]⟩, .string ⟨#[]⟩, .slice none 0 0, .string ⟨#[]⟩, .slice none 0 0], .string ⟨#[]⟩], []⟩).memory Tryz.f3.params.toList Rows.filtTellsSpec.vars false #[Value.agg #[.int .i64 0, .string ⟨#[]⟩, .string ⟨#[]⟩, .slice none 0 0, .string ⟨#[]⟩, .slice none 0 0], Value.agg #[.int .i64 0, .string ⟨#[]⟩, .string ⟨#[]⟩, .slice none 0 0, .string ⟨#[]⟩, .slice none 0 0], Value.string ⟨#[]⟩].toList 8 = some ([.agg [.lit (.int .i64 0), .lit (.string []), .lit (.string []), .nil, .lit (.string []), .nil], .agg [.lit (.int .i64 0), .lit (.string []), .lit (.string []), .nil, .lit (.string []), .nil], .lit (.string [])], [], places) :=
 ⟨[], by kernel_rfl⟩
theorem lifted (os : Os) (started : os.Started) (H : Type) (enc : TypeId × Value -> H) (F : Stop.Interp) :
  ReturnsInHanded {} Tryz.checked os 3 .any ((OpenSpec.ofChange Rows.filtTellsSpec).preRow enc Tryz.prog Tryz.f3 Rows.filtTellsRow.domain false Rows.filtTellsRow.laid) (((OpenSpec.ofChange Rows.filtTellsSpec).at F).post enc Tryz.prog Tryz.f3 false true false false) := by
 obtain ⟨places, hx⟩ := reads os enc
 refine returnsInHanded_of_row (C := Tryz.checked) (s := OpenSpec.ofChange Rows.filtTellsSpec) own started (by kernel_rfl) Tryz.func3
  (witness_row_at (enc := enc) (C := Tryz.checked) false ({ World.holding Tryz.prog os ⟨#[.cells #[.string sentS0] 272, .cells #[.string sentS1] 272, .cells #[.string sentS2] 272, .cells #[.string sentS3] 272, .cells #[.string sentS4] 272, .cells #[.string sentS5] 272, .cells #[.string sentS6] 272, .cells #[.string sentS7] 272, .cells #[.string sentS8] 272, .cells #[.string sentS9] 272, .cells #[.string sentS10] 272, .cells #[.string sentS11] 272, .cells #[.string sentS12] 272], #[], []⟩ with heap := ((((((((((((((((World.holding Tryz.prog os ⟨#[.cells #[.string sentS0] 272, .cells #[.string sentS1] 272, .cells #[.string sentS2] 272, .cells #[.string sentS3] 272, .cells #[.string sentS4] 272, .cells #[.string sentS5] 272, .cells #[.string sentS6] 272, .cells #[.string sentS7] 272, .cells #[.string sentS8] 272, .cells #[.string sentS9] 272, .cells #[.string sentS10] 272, .cells #[.string sentS11] 272, .cells #[.string sentS12] 272], #[], []⟩).heap.modify 15 fun | .cells _ t frozen => .cells #[.iface 254 (.pointer (some ⟨(World.holding Tryz.prog default ⟨#[], #[], []⟩).heap.size + 0, 0, none⟩))] t frozen | o => o).modify 14 fun | .cells _ t frozen => .cells #[.iface 254 (.pointer (some ⟨(World.holding Tryz.prog default ⟨#[], #[], []⟩).heap.size + 1, 0, none⟩))] t frozen | o => o).modify 16 fun | .cells _ t frozen => .cells #[.iface 254 (.pointer (some ⟨(World.holding Tryz.prog default ⟨#[], #[], []⟩).heap.size + 2, 0, none⟩))] t frozen | o => o).modify 13 fun | .cells _ t frozen => .cells #[.iface 254 (.pointer (some ⟨(World.holding Tryz.prog default ⟨#[], #[], []⟩).heap.size + 3, 0, none⟩))] t frozen | o => o).modify 11 fun | .cells _ t frozen => .cells #[.iface 254 (.pointer (some ⟨(World.holding Tryz.prog default ⟨#[], #[], []⟩).heap.size + 4, 0, none⟩))] t frozen | o => o).modify 12 fun | .cells _ t frozen => .cells #[.iface 254 (.pointer (some ⟨(World.holding Tryz.prog default ⟨#[], #[], []⟩).heap.size + 5, 0, none⟩))] t frozen | o => o).modify 0 fun | .cells _ t frozen => .cells #[.iface 254 (.pointer (some ⟨(World.holding Tryz.prog default ⟨#[], #[], []⟩).heap.size + 6, 0, none⟩))] t frozen | o => o).modify 1 fun | .cells _ t frozen => .cells #[.iface 254 (.pointer (some ⟨(World.holding Tryz.prog default ⟨#[], #[], []⟩).heap.size + 7, 0, none⟩))] t frozen | o => o).modify 2 fun | .cells _ t frozen => .cells #[.iface 254 (.pointer (some ⟨(World.holding Tryz.prog default ⟨#[], #[], []⟩).heap.size + 8, 0, none⟩))] t frozen | o => o).modify 3 fun | .cells _ t frozen => .cells #[.iface 254 (.pointer (some ⟨(World.holding Tryz.prog default ⟨#[], #[], []⟩).heap.size + 9, 0, none⟩))] t frozen | o => o).modify 4 fun | .cells _ t frozen => .cells #[.iface 254 (.pointer (some ⟨(World.holding Tryz.prog default ⟨#[], #[], []⟩).heap.size + 10, 0, none⟩))] t frozen | o => o).modify 5 fun | .cells _ t frozen => .cells #[.iface 254 (.pointer (some ⟨(World.holding Tryz.prog default ⟨#[], #[], []⟩).heap.size + 11, 0, none⟩))] t frozen | o => o).modify 6 fun | .cells _ t frozen => .cells #[.iface 254 (.pointer (some ⟨(World.holding Tryz.prog default ⟨#[], #[], []⟩).heap.size + 12, 0, none⟩))] t frozen | o => o).modify 10 fun | .cells _ t frozen => .cells (([128,191,160,191,128,159,144,191,128,143,0,0,0,0,0,0,0,0,0,0,0,0,0,0,0,0,0,0,0,0,0,0] : List Nat).map fun (n : Nat) => Value.int .u8 (n : Int)).toArray t frozen | o => o).modify 9 fun | .cells _ t frozen => .cells ((Go.Pinned.utf8FirstZ : List Nat).map fun (n : Nat) => Value.int .u8 (n : Int)).toArray t frozen | o => o).modify 7 fun | .cells _ t frozen => .cells #[.iface 121 (.agg #[.pointer (some ⟨17, 42, none⟩)])] t frozen | o => o } : World) #[.agg #[.int .i64 0, .string ⟨#[]⟩, .string ⟨#[]⟩, .slice none 0 0, .string ⟨#[]⟩, .slice none 0 0], .agg #[.int .i64 0, .string ⟨#[]⟩, .string ⟨#[]⟩, .slice none 0 0, .string ⟨#[]⟩, .slice none 0 0], .string ⟨#[]⟩] rfl (by kernel_rfl) (by kernel_rfl) (by kernel_rfl)
   (OpenSpec.preRow_of_cond 8 hx (by kernel_rfl) (fun k hk => by cases hk) (by kernel_rfl) (laid_met os _))) ?_
 intro W base args ds gs before hval hW _ _ _ hL _ _
 exact contract H enc W base args ds gs before hval hW hL
theorem said : Rows.FiltTellsSaid :=
 OpenClaim.holds_of_cond 3 Tryz.f3 rfl rfl rfl rfl rfl rfl rfl ⟨rfl, rfl, rfl, rfl, rfl⟩ rfl rfl rfl rfl rfl (by kernel_rfl) Tryz.func3 (by kernel_rfl)
  (of_decide_eq_true (by kernel_rfl)) (by unfold Func.isWrapper; first | (rw [if_pos (by decide +kernel)]; kernel_rfl) | (rw [if_neg (by decide +kernel)]; exact ⟨rfl, rfl⟩))
  (fun os started H enc _ F => by rw [OpenClaim.pre_eq_preRow]; exact lifted os started H enc F)
theorem plain (f : FuncId) (fn : Func) (hf : Tryz.pinned.checked.prog.funcNamed "latiner/latinerlaw08.FiltTells" = some f) (hfn : Tryz.pinned.checked.prog.funcs[f]? = some fn) :
  true = Tryz.pinned.checked.prog.looks [] /\ ∀ (j : Nat) t, fn.params[j]? = some t -> Tryz.pinned.checked.prog.wantsStandIn t = false := by
 obtain rfl : f = 3 := Option.some.inj ((show Tryz.prog.funcNamed "latiner/latinerlaw08.FiltTells" = some 3 by kernel_rfl).symm.trans hf) |>.symm
 obtain rfl : fn = Tryz.f3 := (Option.some.inj (Tryz.func3.symm.trans hfn)).symm
 refine ⟨by kernel_rfl, fun j t ht => ?_⟩
 rw [Tryz.params3] at ht
 have hm : t = 25 \/ t = 9 := by have := Array.mem_of_getElem? ht; simp at this; first | exact this | omega | (rcases this with h | h | h <;> simp [h]) | (rcases this with h | h | h | h <;> simp [h])
 rcases hm with rfl | rfl
 ·exact (show Tryz.prog.wantsStandIn 25 = false by kernel_rfl)
 ·exact (show Tryz.prog.wantsStandIn 9 = false by kernel_rfl)
theorem card : Rows.FiltTellsCardSaid :=
 Claim7.holds_tied_plain_at .later [] _ _ _ _ said (fun _ h => by cases h) (by kernel_rfl) (fun _ h => by cases h) filtTells_row_tie rfl ⟨rfl, rfl⟩ (by kernel_rfl) rfl plain (by kernel_rfl)
end Go.Proofs.YtjhnblgamodekaaGreatDoor.F.Tells
namespace Go.Proofs.YtjhnblgamodekaaGreatDoor
theorem filtTells_holds : Rows.FiltTellsCardSaid := F.Tells.card
#print axioms filtTells_holds
end Go.Proofs.YtjhnblgamodekaaGreatDoor
