/- The law file's shown() and cut(). Conditions: the package-level variables hold what the program's text lays. -/
import Derived.Test.YtmenllnokgjdlaaGreatDoorG47
set_option linter.unusedSimpArgs false
set_option maxHeartbeats 4000000
set_option maxRecDepth 100000
namespace Go.Proofs.YtmenllnokgjdlaaGreatDoor.G
open Go Go.RowKit Go.Shelf Gp
open D (H_ un)
open F (At FNode box6 zfd prtF)
open Fp (Fl)
open Tv (Tr)
attribute [local go_sem] Oper.semAt_some
theorem step {w w1 w2 : World} (h : Below w.heap.size w w1) (k : Below w1.heap.size w1 w2) : Below w.heap.size w w2 := h.trans (k.mono h.size)
def x0G : Fl 1 := Fp.mk 3 ⟨#[97]⟩ ⟨#[98]⟩ [] ⟨#[]⟩ []
def x1G : Fl 13 := Fp.mk 4 ⟨#[97]⟩ ⟨#[]⟩ [⟨#[120]⟩] ⟨#[]⟩ []
theorem x0_enc : encB 0 x0G = .tuple #[.string ⟨#[163, 6, 4, 1, 97, 4, 1, 98]⟩, .int .i64 0] := by kernel_rfl
theorem s1_dec : decO (⟨#[164, 8, 4, 1, 97, 48, 3, 129, 1, 120]⟩ : ByteArray).data.toList = some x1G := by kernel_rfl
theorem s2_dec : decO (⟨#[164, 5, 4, 1, 97, 48, 0]⟩ : ByteArray).data.toList = none := by kernel_rfl
theorem s3_dec : decO (⟨#[135, 0]⟩ : ByteArray).data.toList = none := by kernel_rfl
theorem x1_prt : prtF x1G = .tuple #[.string ⟨#[40, 97, 61, 42, 120, 42, 41]⟩, .int .i64 0] := by kernel_rfl
theorem shown_true (A : Ad) (w : World) (g : Glob A w) : Calls Tryz.prog 10 #[] w fun e w' => e = .returned (.bool true) /\ Below w.heap.size w w' := by
 have h1 := encode_door 0 x0G A w (fun _ => True) ⟨3, ⟨#[97]⟩, ⟨#[98]⟩, none, 0, 0, ⟨#[]⟩, none, 0, 0⟩ g (gval_node 3 w _ (by decide) (by decide)) (by decide)
 rw [x0_enc] at h1
 have h2 := fun W (h : Below w.heap.size w W) => decode_door ⟨#[164, 8, 4, 1, 97, 48, 3, 129, 1, 120]⟩ A W (g.next h) (by decide)
 rw [s1_dec] at h2
 have h3 := fun W (h : Below w.heap.size w W) => decode_door ⟨#[164, 5, 4, 1, 97, 48, 0]⟩ A W (g.next h) (by decide)
 rw [s2_dec] at h3
 have h4 := fun W (h : Below w.heap.size w W) => decode_door ⟨#[135, 0]⟩ A W (g.next h) (by decide)
 rw [s3_dec] at h4
 have h5 := fun W (h : Below w.heap.size w W) d (hN : FNode 13 W (fun _ => True) d x1G) => F.print_any 12 x1G A.f W _ d (g.next h).gf hN (by decide)
 rw [x1_prt] at h5
 have e1 := H_ h1
 have e2 := H_ h2
 have e3 := H_ h3
 have e4 := H_ h4
 have e5 := H_ h5
 clear h1 h2 h3 h4 h5 g
 go_enter Tryz.func10, Tryz.ntmps10
 go_wp2_with fail
 refine (un e1).mono ?_
 rintro e w1 ⟨rfl, hb⟩
 have B1 := H_ hb
 clear hb e1
 go_wp2_with fail
 refine ((un e2) _ (un B1)).mono ?_
 rintro e w2 ⟨hb, ⟨dk, da, dv, dsa, dsn, dsc, df, dla, dln, dlc⟩, rfl, hN⟩
 have hal := (Below.refl w2.heap.size w2).alloc (Nat.le_refl _) (fobj ⟨dk, da, dv, dsa, dsn, dsc, df, dla, dln, dlc⟩)
 have Y2 := H_ (And.intro ((hN.below hal).imp (q := fun _ => True) fun _ _ _ => trivial) (World.alloc_heap_new w2 (fobj ⟨dk, da, dv, dsa, dsn, dsc, df, dla, dln, dlc⟩)))
 have B2 := H_ (step (step (un B1) hb) hal)
 clear hb hN hal B1 e2
 go_wp2_with fail
 refine ((un e3) _ (un B2)).mono ?_
 rintro e w3 ⟨hb, rfl⟩
 have hal := (Below.refl w3.heap.size w3).alloc (Nat.le_refl _) (fobj zfd)
 have hbb := step hb hal
 have Y3 := H_ (And.intro ((un Y2).1.below hbb) ((hbb.block _ (Array.getElem?_eq_some_iff.1 (un Y2).2).1).trans (un Y2).2))
 have B3 := H_ (step (un B2) hbb)
 clear hb hal hbb B2 Y2 e3
 generalize w2.heap.size = n2 at *
 go_wp2_with fail
 refine ((un e4) _ (un B3)).mono ?_
 rintro e w4 ⟨hb, rfl⟩
 have hal := (Below.refl w4.heap.size w4).alloc (Nat.le_refl _) (fobj zfd)
 have hbb := step hb hal
 have Y4 := H_ (And.intro ((un Y3).1.below hbb) ((hbb.block _ (Array.getElem?_eq_some_iff.1 (un Y3).2).1).trans (un Y3).2))
 have B4 := H_ (step (un B3) hbb)
 clear hb hal hbb B3 Y3 e4
 generalize w3.heap.size = n3 at *
 obtain ⟨⟨c0, c1, c2, c3, c4, c5⟩, _⟩ := box6 (un Y4).2
 dsimp only [fobj, F.Fd.obj, F.Fd.cs, zfd] at c0 c1 c2 c3 c4 c5
 go_wp2_with fail
 refine ((un e5) _ (un B4) ⟨dk, da, dv, dsa, dsn, dsc, df, dla, dln, dlc⟩ (un Y4).1).mono ?_
 rintro e w5 ⟨rfl, hb⟩
 have B5 := H_ (step (un B4) hb)
 have t0 : ((⟨#[163, 6, 4, 1, 97, 4, 1, 98]⟩ : ByteArray).toList == ByteArray.toList ⟨#[163, 6, 4, 1, 97, 4, 1, 98]⟩) = true := by simp
 have t1 : ((⟨#[40, 97, 61, 42, 120, 42, 41]⟩ : ByteArray).toList == ByteArray.toList ⟨#[40, 97, 61, 42, 120, 42, 41]⟩) = true := by simp
 clear hb B4 Y4 e5 c0 c1 c2 c3 c4 c5
 go_wp2
 go_ret
 exact ⟨rfl, un B5⟩
end Go.Proofs.YtmenllnokgjdlaaGreatDoor.G
