/- FberNots: so many nots around a filter of a name are right, and have a tree, just up to five, for any number. Conditions: the package-level variables  -/
import Derived.Test.YtmenllnokgjdlaaGreatDoorGLaid
import Derived.Test.YtmenllnokgjdlaaGreatDoorGShown
set_option linter.unusedSimpArgs false
set_option maxHeartbeats 8000000
set_option maxRecDepth 100000
namespace Go.Proofs.YtmenllnokgjdlaaGreatDoor.G.Nots
open Go Go.RowKit Go.Shelf Gp Go.ChangeShapes Go.WideShapes Go.ChangeAt Go.ChangeMaps
open D (H_ un)
open F (At FNode box6 zfd set6 set6_blk set6_but At.box)
open Fp (Fl)
def nt : Nat -> (L : Nat) -> Fl (L + 1)
 | 0, _ => Fp.mk 7 ⟨#[97]⟩ ⟨#[]⟩ [] ⟨#[]⟩ []
 | _ + 1, 0 => Fp.mk 2 ⟨#[]⟩ ⟨#[]⟩ [] ⟨#[]⟩ []
 | i + 1, L + 1 => Fp.mk 2 ⟨#[]⟩ ⟨#[]⟩ [] ⟨#[]⟩ [nt i L]
def bs (i : Nat) : List UInt8 := Tv.enc 15 (tree 13 (nt i 12))
abbrev bb (i : Nat) : ByteArray := ⟨(bs i).toArray⟩
theorem yes : ∀ i, i <= 5 -> encB 12 (nt i 12) = .tuple #[.string (bb i), .int .i64 0] /\ (bb i).size = 3 + 2 * i /\ decO (bb i).data.toList = some (nt i 12)
 | 0, _ => ⟨by kernel_rfl, by kernel_rfl, by kernel_rfl⟩
 | 1, _ => ⟨by kernel_rfl, by kernel_rfl, by kernel_rfl⟩
 | 2, _ => ⟨by kernel_rfl, by kernel_rfl, by kernel_rfl⟩
 | 3, _ => ⟨by kernel_rfl, by kernel_rfl, by kernel_rfl⟩
 | 4, _ => ⟨by kernel_rfl, by kernel_rfl, by kernel_rfl⟩
 | 5, _ => ⟨by kernel_rfl, by kernel_rfl, by kernel_rfl⟩
 | i + 6, h => by omega
theorem no : ∀ i, 5 < i -> i <= 9 -> encB 12 (nt i 12) = .tuple #[.string ⟨#[]⟩, .int .i64 80] /\ Fp.right 13 6 (nt i 12) = false
 | 0, h, _ => by omega
 | 1, h, _ => by omega
 | 2, h, _ => by omega
 | 3, h, _ => by omega
 | 4, h, _ => by omega
 | 5, h, _ => by omega
 | 6, _, _ => ⟨by kernel_rfl, by kernel_rfl⟩
 | 7, _, _ => ⟨by kernel_rfl, by kernel_rfl⟩
 | 8, _, _ => ⟨by kernel_rfl, by kernel_rfl⟩
 | 9, _, _ => ⟨by kernel_rfl, by kernel_rfl⟩
 | i + 10, _, h => by omega
theorem nil_dec : decO (⟨#[]⟩ : ByteArray).data.toList = none := by kernel_rfl
structure Bn (b i : Nat) (d : FD) (W : World) : Prop where
 blk : W.heap[b]? = some (.cells (F.Fd.cs d) 25 (0, 0))
 n : ∀ L, i <= L -> FNode (L + 1) W (fun q => q ≠ b) d (nt i L)
theorem Bn.below {b i : Nat} {d : FD} {W V : World} (h : Bn b i d W) (hb : Below W.heap.size W V) : Bn b i d V :=
 ⟨(hb.block _ (Array.getElem?_eq_some_iff.1 h.blk).1).trans h.blk, fun L hL => (h.n L hL).below hb⟩
theorem bn_first {b : Nat} {W : World} (h : W.heap[b]? = some (.cells (F.Fd.cs ⟨7, ⟨#[97]⟩, ⟨#[]⟩, none, 0, 0, ⟨#[]⟩, none, 0, 0⟩) 25 (0, 0))) : Bn b 0 ⟨7, ⟨#[97]⟩, ⟨#[]⟩, none, 0, 0, ⟨#[]⟩, none, 0, 0⟩ W :=
 ⟨h, fun L _ => by cases L <;> exact gval_node 7 W _ (by decide) (by decide)⟩
theorem bn_next {b i : Nat} {d : FD} {W X : World} (h : Bn b i d W) (hX : X = set6 (W.alloc (fobj d)) b ⟨2, ⟨#[]⟩, ⟨#[]⟩, none, 0, 0, ⟨#[]⟩, some ⟨W.heap.size, 0, none⟩, 1, 1⟩) : Bn b (i + 1) ⟨2, ⟨#[]⟩, ⟨#[]⟩, none, 0, 0, ⟨#[]⟩, some ⟨W.heap.size, 0, none⟩, 1, 1⟩ X := by
 have hb := (Array.getElem?_eq_some_iff.1 h.blk).1
 have hal := (Below.refl W.heap.size W).alloc (Nat.le_refl _) (fobj d)
 have hbt := set6_but (W.alloc (fobj d)) b ⟨2, ⟨#[]⟩, ⟨#[]⟩, none, 0, 0, ⟨#[]⟩, some ⟨W.heap.size, 0, none⟩, 1, 1⟩
 have hq := set6_blk ((hal.block _ hb).trans h.blk) ⟨2, ⟨#[]⟩, ⟨#[]⟩, none, 0, 0, ⟨#[]⟩, some ⟨W.heap.size, 0, none⟩, 1, 1⟩
 rw [<- hX] at hbt hq
 refine ⟨hq, fun L hL => ?_⟩
 obtain ⟨L, rfl⟩ : ∃ L', L = L' + 1 := ⟨L - 1, by omega⟩
 have hn := h.n L (by omega)
 have hd : X.heap[W.heap.size]? = some (.cells (F.Fd.cs d) 25 (0, 0)) := (hbt.block _ (by simp) (by omega)).trans (World.alloc_heap_new W _)
 refine ⟨⟨rfl, rfl, rfl, rfl, rfl, rfl⟩, ⟨Nat.zero_le _, Nat.zero_le _, Nat.zero_le _, Nat.zero_le _, (fun x hx => by cases hx), by show 1 <= 1000; omega⟩, .inl rfl, .inr ⟨W.heap.size, 0, rfl, (show W.heap.size ≠ b by omega), fun j G hG => ?_⟩⟩
 match j, hG with
 | 0, hG =>
  cases hG
  refine ⟨d, At.box hd, ?_⟩
  exact hn.of fun q h1 h2 => (hbt.block q (by simp; omega) h1).trans (hal.block q h2)
theorem walk (x : Int) (a : Ad) (w : World) (g : Glob a w) :
  Calls Tryz.prog 9 #[.int .i64 x] w fun e w' => e = .returned (.bool true) /\ Below w.heap.size w w' := by
 have HSh := H_ (shown_true a w g)
 have Hg := H_ g
 obtain ⟨N, hN, hN9⟩ : ∃ N : Nat, min (max x 0) 9 = (N : Int) /\ N <= 9 := ⟨(min (max x 0) 9).toNat, by omega, by omega⟩
 have HNn := H_ hN9
 have hNi : (N : Int) <= 9 := by omega
 clear g
 go_enter Tryz.func9, Tryz.ntmps9
 go_wp2_with fail
 refine (un HSh).mono ?_
 rintro e w1 ⟨rfl, hb⟩
 have hal := (Below.refl w1.heap.size w1).alloc (Nat.le_refl _) (fobj ⟨7, ⟨#[97]⟩, ⟨#[]⟩, none, 0, 0, ⟨#[]⟩, none, 0, 0⟩)
 have B1 := H_ (step hb hal)
 have X1 := H_ (bn_first (World.alloc_heap_new w1 (fobj ⟨7, ⟨#[97]⟩, ⟨#[]⟩, none, 0, 0, ⟨#[]⟩, none, 0, 0⟩)))
 have hlow : w.heap.size <= w1.heap.size := hb.size
 clear hb hal HSh
 go_wp2
 obtain ⟨b, hbe⟩ : ∃ b, b = w1.heap.size := ⟨_, rfl⟩
 rw [<- hbe] at X1 hlow ⊢
 clear hbe
 go_loopw [5] (fun i wr => ∃ (j : Nat) (d : FD), j <= N /\ i = .int .i64 (j : Int) /\ Hid (Bn b j d wr) /\ Hid (Below w.heap.size w wr)) (fun i _ => N - (intOf i).toNat)
 case atStart => exact ⟨0, _, Nat.zero_le _, rfl, X1, B1⟩
 case round =>
  obtain ⟨j, ⟨dk, da, dv, dsa, dsn, dsc, df, dla, dln, dlc⟩, hj, rfl, hX, hB⟩ := hrel
  clear X1 B1
  by_cases hlt : j < N
  ·have hlt' : (j : Int) < N := by omega
   have hbl := (Array.getElem?_eq_some_iff.1 (un hX).blk).1
   obtain ⟨⟨x0, x1, x2, x3, x4, x5⟩, _⟩ := box6 (un hX).blk
   obtain ⟨⟨c0, c1, c2, c3, c4, c5⟩, g0, g1, g2, g3, g4, g5⟩ := box6 ((Below.heap_alloc wr (fobj ⟨dk, da, dv, dsa, dsn, dsc, df, dla, dln, dlc⟩) b hbl).trans (un hX).blk)
   dsimp only [fobj, F.Fd.obj, F.Fd.cs] at x0 x1 x2 x3 x4 x5 c0 c1 c2 c3 c4 c5 g0 g1 g2 g3 g4 g5
   obtain ⟨X, hXc⟩ : ∃ X, X = set6 (wr.alloc (fobj ⟨dk, da, dv, dsa, dsn, dsc, df, dla, dln, dlc⟩)) b ⟨2, ⟨#[]⟩, ⟨#[]⟩, none, 0, 0, ⟨#[]⟩, some ⟨wr.heap.size, 0, none⟩, 1, 1⟩ := ⟨_, rfl⟩
   have HX2 := H_ (bn_next (un hX) hXc)
   have HB2 := H_ (show Below w.heap.size w X by rw [hXc]; exact below_set6 ((un hB).alloc (un hB).size (fobj ⟨dk, da, dv, dsa, dsn, dsc, df, dla, dln, dlc⟩)) hlow _)
   dsimp only [set6, fobj, F.Fd.obj, F.Fd.cs] at hXc
   simp only [World.setCell_alloc_past, World.size_setCell, hbl] at hXc
   have HXe := H_ hXc.symm
   clear hXc
   go_wp2
   clear c0 c1 c2 c3 c4 c5 g0 g1 g2 g3 g4 g5 x0 x1 x2 x3 x4 x5
   rw [un HXe]
   clear HXe
   exact ⟨⟨j + 1, _, by omega, by simp, HX2, HB2⟩, by simp [intOf]; omega⟩
  ·have hge : ¬ (j : Int) < N := by omega
   obtain rfl : j = N := by omega
   obtain ⟨⟨x0, x1, x2, x3, x4, x5⟩, _⟩ := box6 (un hX).blk
   dsimp only at x0 x1 x2 x3 x4 x5
   have he := encode_door 12 (nt j 12) a wr _ ⟨dk, da, dv, dsa, dsn, dsc, df, dla, dln, dlc⟩ ((un Hg).next (un hB)) ((un hX).n 12 (by omega)) (by decide)
   by_cases h5 : j <= 5
   ·obtain ⟨y1, y2, y3⟩ := yes j h5
    rw [y1] at he
    have HE := H_ he
    obtain ⟨S, hS⟩ : ∃ S, S = bb j := ⟨_, rfl⟩
    rw [<- hS] at HE y2 y3
    have hSz : (S.size : Int) = 3 + 2 * (j : Int) := by omega
    have hs2 : S.size <= 2000 := by omega
    have hd := fun W (h : Below w.heap.size w W) => decode_door S a W ((un Hg).next h) hs2
    rw [y3] at hd
    have HD := H_ hd
    have h5i : ¬ (5 : Int) < j := by omega
    have HSz := H_ hSz
    clear he y1 y2 y3 hS hs2 hd hN hSz
    go_wp2_with fail
    refine (un HE).mono ?_
    rintro e w2 ⟨rfl, hb⟩
    have B2 := H_ (step (un hB) hb)
    have X2 := H_ ((un hX).below hb)
    clear hb hX hB HE x0 x1 x2 x3 x4 x5
    go_wp2_with fail
    refine ((un HD) _ (un B2)).mono ?_
    rintro e w3 ⟨hb, ⟨ek, ea, ev, esa, esn, esc, ef, ela, eln, elc⟩, rfl, hNd⟩
    have hal := (Below.refl w3.heap.size w3).alloc (Nat.le_refl _) (fobj ⟨ek, ea, ev, esa, esn, esc, ef, ela, eln, elc⟩)
    have hbb := step hb hal
    have B3 := H_ (step (un B2) hbb)
    have X3 := H_ ((un X2).below hbb)
    have hq3 := World.alloc_heap_new w3 (fobj ⟨ek, ea, ev, esa, esn, esc, ef, ela, eln, elc⟩)
    have HSm := H_ (F.same_any 13 (nt j 12) (nt j 12) _ _ _ _ _ (hNd.below hal) ((un X3).n 12 (by omega)))
    rw [show Fp.same 13 (nt j 12) (nt j 12) = true from (Fp.same_iff 13 _ _).2 rfl] at HSm
    obtain ⟨⟨c0, c1, c2, c3, c4, c5⟩, _⟩ := box6 hq3
    obtain ⟨⟨x0, x1, x2, x3, x4, x5⟩, _⟩ := box6 (un X3).blk
    dsimp only [fobj, F.Fd.obj, F.Fd.cs] at c0 c1 c2 c3 c4 c5 x0 x1 x2 x3 x4 x5
    have hSz := un HSz
    clear hb hal hbb hq3 hNd B2 X2 HD X3
    go_wp2_with fail
    refine (un HSm).mono ?_
    rintro e w4 ⟨rfl, hb⟩
    have B4 := H_ (step (un B3) hb)
    clear hb HSm B3 c0 c1 c2 c3 c4 c5 x0 x1 x2 x3 x4 x5
    go_wp2
    go_ret
    exact ⟨rfl, un B4⟩
   ·obtain ⟨y1, y2⟩ := no j (by omega) (un HNn)
    rw [y1] at he
    have HE := H_ he
    have hd := fun W (h : Below w.heap.size w W) => decode_door ⟨#[]⟩ a W ((un Hg).next h) (by decide)
    rw [nil_dec] at hd
    have HD := H_ hd
    have h5i : (5 : Int) < j := by omega
    have HR := H_ fun W (h : Below w.heap.size w W) d (hN : FNode 13 W (fun q => q ≠ b) d (nt j 12)) => F.right_any 12 (nt j 12) a.f W _ d ((un Hg).next h).gf hN (by decide)
    rw [y2] at HR
    clear he y1 y2 hd hN
    go_wp2_with fail
    refine (un HE).mono ?_
    rintro e w2 ⟨rfl, hb⟩
    have B2 := H_ (step (un hB) hb)
    have X2 := H_ ((un hX).below hb)
    clear hb hX hB HE x0 x1 x2 x3 x4 x5
    go_wp2_with fail
    refine ((un HD) _ (un B2)).mono ?_
    rintro e w3 ⟨hb, rfl⟩
    have hbb := step hb ((Below.refl w3.heap.size w3).alloc (Nat.le_refl _) (fobj zfd))
    have B3 := H_ (step (un B2) hbb)
    have X3 := H_ ((un X2).below hbb)
    obtain ⟨⟨x0, x1, x2, x3, x4, x5⟩, _⟩ := box6 (un X3).blk
    dsimp only [fobj, F.Fd.obj, F.Fd.cs, zfd] at x0 x1 x2 x3 x4 x5
    clear hb hbb B2 X2 HD
    go_wp2_with fail
    refine ((un HR) _ (un B3) ⟨dk, da, dv, dsa, dsn, dsc, df, dla, dln, dlc⟩ ((un X3).n 12 (by omega))).mono ?_
    rintro e w4 ⟨rfl, hb⟩
    have B4 := H_ (step (un B3) hb)
    clear hb HR B3 X3 x0 x1 x2 x3 x4 x5
    go_wp2
    go_ret
    exact ⟨rfl, un B4⟩
theorem contract (H : Type) (enc : TypeId × Value -> H) (W : World) (base : Nat) (args : Array Value) (ds gs : List (DataW H)) (before : List MemPlace)
  (hval : ∀ (j : Nat) t v, Tryz.f9.params[j]? = some t -> args[j]? = some v -> Value.okWide Tryz.prog W .any base t v)
  (hW : DataW.Whole enc Tryz.prog Tryz.f9.params.toList Rows.fberNotsSpec.vars false W args.toList ds gs before) (hL : laidMetH Tryz.prog Rows.fberNotsRow.laid W) :
  Calls Tryz.prog 9 args W fun e W' => ∃ v, e = .returned v /\ Rows.fberNotsSpec.post enc Tryz.prog Tryz.f9 false true false false W args v W' := by
 obtain ⟨a, g⟩ := glob_of_laid hL
 have hW' := hW
 obtain ⟨p, q, hA0, hV, rfl, hfz, hnd⟩ := hW
 have hA : DataW.TrodAll enc Tryz.prog W 0 (fun _ => true) true Tryz.f9.params.toList args.toList ds p := hA0
 rw [Tryz.params9] at hA hval
 obtain ⟨v0, vs0, d0, ds0, p0, q0, hargs0, rfl, rfl, h0, r0⟩ := trodAll_cons hA
 obtain ⟨rfl, rfl, rfl⟩ := trodAll_nil r0
 obtain rfl : args = #[v0] := by cases args; simp_all
 obtain ⟨rfl, rfl⟩ := trodVars_none hV
 obtain ⟨x0, rfl, rfl, rfl, wf0⟩ := open_int Tryz.underlying3 (hval 0 3 v0 rfl rfl) h0
 clear hA0
 simp only [List.append_nil] at hW'
 refine (walk x0 a W g).mono fun e W' ⟨he, hg⟩ => ?_
 subst he
 refine ⟨_, rfl, _, _, _, [], [], [], hW', ?_, ?_, ?_, hg.frame _, fun h => by cases h⟩
 ·exact trodAll_cons_mk (shut_bool Tryz.underlying4 _) trodAll_mk0
 ·exact trodAll_cons_mk (shut_int Tryz.underlying3 wf0) (trodAll_mk0)
 ·rfl
theorem reads (os : Os) {H : Type} (enc : TypeId × Value -> H) : ∃ places, DataW.whole enc Tryz.prog (({ World.holding Tryz.prog os ⟨#[.cells #[.string sentS0] 368, .cells #[.string sentS1] 368, .cells #[.string sentS2] 368, .cells #[.string sentS3] 368, .cells #[.string sentS4] 368, .cells #[.string sentS5] 368, .cells #[.string sentS6] 368, .cells #[.string sentS7] 368, .cells #[.string sentS8] 368, .cells #[.string sentS9] 368, .cells #[.string sentS10] 368, .cells #[.string sentS11] 368, .cells #[.string sentS12] 368, .cells #[.string sentS13] 368, .cells #[.string sentS14] 368, .cells #[.string sentS15] 368, .cells #[.string sentS16] 368, .cells #[.string sentS17] 368, .cells #[.string sentS18] 368], #[], []⟩ with heap := ((((((((((((((((((((((World.holding Tryz.prog os ⟨#[.cells #[.string sentS0] 368, .cells #[.string sentS1] 368, .cells #[.string sentS2] 368, .cells #[.string sentS3] 368, .cells #[.string sentS4] 368, .cells #[.string sentS5] 368, .cells #[.string sentS6] 368, .cells #[.string sentS7] 368, .cells #[.string sentS8] 368, .cells #[.string sentS9] 368, .cells #[.string sentS10] 368, .cells #[.string sentS11] 368, .cells #[.string sentS12] 368, .cells #[.string sentS13] 368, .cells #[.string sentS14] 368, .cells #[.string sentS15] 368, .cells #[.string sentS16] 368, .cells #[.string sentS17] 368, .cells #[.string sentS18] 368], #[], []⟩).heap.modify 20 fun | .cells _ t frozen => .cells #[.iface 350 (.pointer (some ⟨(World.holding Tryz.prog default ⟨#[], #[], []⟩).heap.size + 0, 0, none⟩))] t frozen | o => o).modify 18 fun | .cells _ t frozen => .cells #[.iface 350 (.pointer (some ⟨(World.holding Tryz.prog default ⟨#[], #[], []⟩).heap.size + 1, 0, none⟩))] t frozen | o => o).modify 5 fun | .cells _ t frozen => .cells #[.iface 350 (.pointer (some ⟨(World.holding Tryz.prog default ⟨#[], #[], []⟩).heap.size + 2, 0, none⟩))] t frozen | o => o).modify 6 fun | .cells _ t frozen => .cells #[.iface 350 (.pointer (some ⟨(World.holding Tryz.prog default ⟨#[], #[], []⟩).heap.size + 3, 0, none⟩))] t frozen | o => o).modify 7 fun | .cells _ t frozen => .cells #[.iface 350 (.pointer (some ⟨(World.holding Tryz.prog default ⟨#[], #[], []⟩).heap.size + 4, 0, none⟩))] t frozen | o => o).modify 8 fun | .cells _ t frozen => .cells #[.iface 350 (.pointer (some ⟨(World.holding Tryz.prog default ⟨#[], #[], []⟩).heap.size + 5, 0, none⟩))] t frozen | o => o).modify 9 fun | .cells _ t frozen => .cells #[.iface 350 (.pointer (some ⟨(World.holding Tryz.prog default ⟨#[], #[], []⟩).heap.size + 6, 0, none⟩))] t frozen | o => o).modify 10 fun | .cells _ t frozen => .cells #[.iface 350 (.pointer (some ⟨(World.holding Tryz.prog default ⟨#[], #[], []⟩).heap.size + 7, 0, none⟩))] t frozen | o => o).modify 11 fun | .cells _ t frozen => .cells #[.iface 350 (.pointer (some ⟨(World.holding Tryz.prog default ⟨#[], #[], []⟩).heap.size + 8, 0, none⟩))] t frozen | o => o).modify 16 fun | .cells _ t frozen => .cells #[.iface 350 (.pointer (some ⟨(World.holding Tryz.prog default ⟨#[], #[], []⟩).heap.size + 9, 0, none⟩))] t frozen | o => o).modify 17 fun | .cells _ t frozen => .cells #[.iface 350 (.pointer (some ⟨(World.holding Tryz.prog default ⟨#[], #[], []⟩).heap.size + 10, 0, none⟩))] t frozen | o => o).modify 4 fun | .cells _ t frozen => .cells #[.iface 350 (.pointer (some ⟨(World.holding Tryz.prog default ⟨#[], #[], []⟩).heap.size + 11, 0, none⟩))] t frozen | o => o).modify 12 fun | .cells _ t frozen => .cells #[.iface 350 (.pointer (some ⟨(World.holding Tryz.prog default ⟨#[], #[], []⟩).heap.size + 12, 0, none⟩))] t frozen | o => o).modify 13 fun | .cells _ t frozen => .cells #[.iface 350 (.pointer (some ⟨(World.holding Tryz.prog default ⟨#[], #[], []⟩).heap.size + 13, 0, none⟩))] t frozen | o => o).modify 14 fun | .cells _ t frozen => .cells #[.iface 350 (.pointer (some ⟨(World.holding Tryz.prog default ⟨#[], #[], []⟩).heap.size + 14, 0, none⟩))] t frozen | o => o).modify 0 fun | .cells _ t frozen => .cells #[.iface 350 (.pointer (some ⟨(World.holding Tryz.prog default ⟨#[], #[], []⟩).heap.size + 15, 0, none⟩))] t frozen | o => o).modify 1 fun | .cells _ t frozen => .cells #[.iface 350 (.pointer (some ⟨(World.holding Tryz.prog default ⟨#[], #[], []⟩).heap.size + 16, 0, none⟩))] t frozen | o => o).modify 2 fun | .cells _ t frozen => .cells #[.iface 350 (.pointer (some ⟨(World.holding Tryz.prog default ⟨#[], #[], []⟩).heap.size + 17, 0, none⟩))] t frozen | o => o).modify 3 fun | .cells _ t frozen => .cells #[.iface 350 (.pointer (some ⟨(World.holding Tryz.prog default ⟨#[], #[], []⟩).heap.size + 18, 0, none⟩))] t frozen | o => o).modify 22 fun | .cells _ t frozen => .cells (([128,191,160,191,128,159,144,191,128,143,0,0,0,0,0,0,0,0,0,0,0,0,0,0,0,0,0,0,0,0,0,0] : List Nat).map fun (n : Nat) => Value.int .u8 (n : Int)).toArray t frozen | o => o).modify 21 fun | .cells _ t frozen => .cells ((Go.Pinned.utf8FirstZ : List Nat).map fun (n : Nat) => Value.int .u8 (n : Int)).toArray t frozen | o => o).modify 15 fun | .cells _ t frozen => .cells #[.iface 180 (.agg #[.pointer (some ⟨29, 52, none⟩)])] t frozen | o => o } : World).forCall (fun _ _ => 0) ⟨#[], #[.int .i64 0], []⟩).memory Tryz.f9.params.toList Rows.fberNotsSpec.vars false #[Value.int .i64 0].toList 8 = some ([.lit (.int .i64 0)], [], places) :=
 ⟨[], by kernel_rfl⟩
theorem lifted (os : Os) (started : os.Started) (H : Type) (enc : TypeId × Value -> H) (F : Stop.Interp) :
  ReturnsInHanded {} Tryz.checked os 9 .any ((OpenSpec.ofChange Rows.fberNotsSpec).preRow enc Tryz.prog Tryz.f9 Rows.fberNotsRow.domain false Rows.fberNotsRow.laid) (((OpenSpec.ofChange Rows.fberNotsSpec).at F).post enc Tryz.prog Tryz.f9 false true false false) := by
 obtain ⟨places, hx⟩ := reads os enc
 refine returnsInHanded_of_row (C := Tryz.checked) (s := OpenSpec.ofChange Rows.fberNotsSpec) own started (by kernel_rfl) Tryz.func9
  (witness_row_at (enc := enc) (C := Tryz.checked) false ({ World.holding Tryz.prog os ⟨#[.cells #[.string sentS0] 368, .cells #[.string sentS1] 368, .cells #[.string sentS2] 368, .cells #[.string sentS3] 368, .cells #[.string sentS4] 368, .cells #[.string sentS5] 368, .cells #[.string sentS6] 368, .cells #[.string sentS7] 368, .cells #[.string sentS8] 368, .cells #[.string sentS9] 368, .cells #[.string sentS10] 368, .cells #[.string sentS11] 368, .cells #[.string sentS12] 368, .cells #[.string sentS13] 368, .cells #[.string sentS14] 368, .cells #[.string sentS15] 368, .cells #[.string sentS16] 368, .cells #[.string sentS17] 368, .cells #[.string sentS18] 368], #[], []⟩ with heap := ((((((((((((((((((((((World.holding Tryz.prog os ⟨#[.cells #[.string sentS0] 368, .cells #[.string sentS1] 368, .cells #[.string sentS2] 368, .cells #[.string sentS3] 368, .cells #[.string sentS4] 368, .cells #[.string sentS5] 368, .cells #[.string sentS6] 368, .cells #[.string sentS7] 368, .cells #[.string sentS8] 368, .cells #[.string sentS9] 368, .cells #[.string sentS10] 368, .cells #[.string sentS11] 368, .cells #[.string sentS12] 368, .cells #[.string sentS13] 368, .cells #[.string sentS14] 368, .cells #[.string sentS15] 368, .cells #[.string sentS16] 368, .cells #[.string sentS17] 368, .cells #[.string sentS18] 368], #[], []⟩).heap.modify 20 fun | .cells _ t frozen => .cells #[.iface 350 (.pointer (some ⟨(World.holding Tryz.prog default ⟨#[], #[], []⟩).heap.size + 0, 0, none⟩))] t frozen | o => o).modify 18 fun | .cells _ t frozen => .cells #[.iface 350 (.pointer (some ⟨(World.holding Tryz.prog default ⟨#[], #[], []⟩).heap.size + 1, 0, none⟩))] t frozen | o => o).modify 5 fun | .cells _ t frozen => .cells #[.iface 350 (.pointer (some ⟨(World.holding Tryz.prog default ⟨#[], #[], []⟩).heap.size + 2, 0, none⟩))] t frozen | o => o).modify 6 fun | .cells _ t frozen => .cells #[.iface 350 (.pointer (some ⟨(World.holding Tryz.prog default ⟨#[], #[], []⟩).heap.size + 3, 0, none⟩))] t frozen | o => o).modify 7 fun | .cells _ t frozen => .cells #[.iface 350 (.pointer (some ⟨(World.holding Tryz.prog default ⟨#[], #[], []⟩).heap.size + 4, 0, none⟩))] t frozen | o => o).modify 8 fun | .cells _ t frozen => .cells #[.iface 350 (.pointer (some ⟨(World.holding Tryz.prog default ⟨#[], #[], []⟩).heap.size + 5, 0, none⟩))] t frozen | o => o).modify 9 fun | .cells _ t frozen => .cells #[.iface 350 (.pointer (some ⟨(World.holding Tryz.prog default ⟨#[], #[], []⟩).heap.size + 6, 0, none⟩))] t frozen | o => o).modify 10 fun | .cells _ t frozen => .cells #[.iface 350 (.pointer (some ⟨(World.holding Tryz.prog default ⟨#[], #[], []⟩).heap.size + 7, 0, none⟩))] t frozen | o => o).modify 11 fun | .cells _ t frozen => .cells #[.iface 350 (.pointer (some ⟨(World.holding Tryz.prog default ⟨#[], #[], []⟩).heap.size + 8, 0, none⟩))] t frozen | o => o).modify 16 fun | .cells _ t frozen => .cells #[.iface 350 (.pointer (some ⟨(World.holding Tryz.prog default ⟨#[], #[], []⟩).heap.size + 9, 0, none⟩))] t frozen | o => o).modify 17 fun | .cells _ t frozen => .cells #[.iface 350 (.pointer (some ⟨(World.holding Tryz.prog default ⟨#[], #[], []⟩).heap.size + 10, 0, none⟩))] t frozen | o => o).modify 4 fun | .cells _ t frozen => .cells #[.iface 350 (.pointer (some ⟨(World.holding Tryz.prog default ⟨#[], #[], []⟩).heap.size + 11, 0, none⟩))] t frozen | o => o).modify 12 fun | .cells _ t frozen => .cells #[.iface 350 (.pointer (some ⟨(World.holding Tryz.prog default ⟨#[], #[], []⟩).heap.size + 12, 0, none⟩))] t frozen | o => o).modify 13 fun | .cells _ t frozen => .cells #[.iface 350 (.pointer (some ⟨(World.holding Tryz.prog default ⟨#[], #[], []⟩).heap.size + 13, 0, none⟩))] t frozen | o => o).modify 14 fun | .cells _ t frozen => .cells #[.iface 350 (.pointer (some ⟨(World.holding Tryz.prog default ⟨#[], #[], []⟩).heap.size + 14, 0, none⟩))] t frozen | o => o).modify 0 fun | .cells _ t frozen => .cells #[.iface 350 (.pointer (some ⟨(World.holding Tryz.prog default ⟨#[], #[], []⟩).heap.size + 15, 0, none⟩))] t frozen | o => o).modify 1 fun | .cells _ t frozen => .cells #[.iface 350 (.pointer (some ⟨(World.holding Tryz.prog default ⟨#[], #[], []⟩).heap.size + 16, 0, none⟩))] t frozen | o => o).modify 2 fun | .cells _ t frozen => .cells #[.iface 350 (.pointer (some ⟨(World.holding Tryz.prog default ⟨#[], #[], []⟩).heap.size + 17, 0, none⟩))] t frozen | o => o).modify 3 fun | .cells _ t frozen => .cells #[.iface 350 (.pointer (some ⟨(World.holding Tryz.prog default ⟨#[], #[], []⟩).heap.size + 18, 0, none⟩))] t frozen | o => o).modify 22 fun | .cells _ t frozen => .cells (([128,191,160,191,128,159,144,191,128,143,0,0,0,0,0,0,0,0,0,0,0,0,0,0,0,0,0,0,0,0,0,0] : List Nat).map fun (n : Nat) => Value.int .u8 (n : Int)).toArray t frozen | o => o).modify 21 fun | .cells _ t frozen => .cells ((Go.Pinned.utf8FirstZ : List Nat).map fun (n : Nat) => Value.int .u8 (n : Int)).toArray t frozen | o => o).modify 15 fun | .cells _ t frozen => .cells #[.iface 180 (.agg #[.pointer (some ⟨29, 52, none⟩)])] t frozen | o => o } : World) #[.int .i64 0] rfl (by kernel_rfl) (by kernel_rfl) (by kernel_rfl)
   (OpenSpec.preRow_of_cond 8 hx (by kernel_rfl) (fun k hk => by cases hk) (by kernel_rfl) (laid_met os _))) ?_
 intro W base args ds gs before hval hW _ _ _ hL _ _
 exact contract H enc W base args ds gs before hval hW hL
end Go.Proofs.YtmenllnokgjdlaaGreatDoor.G.Nots
