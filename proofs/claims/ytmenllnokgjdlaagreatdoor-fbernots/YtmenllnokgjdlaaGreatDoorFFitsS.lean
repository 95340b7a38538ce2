/- What filt.fits answers for sets of filters. Conditions: the package-level variables hold what the program's text lays. -/
import Derived.Test.YtmenllnokgjdlaaGreatDoorG28
set_option maxHeartbeats 8000000
set_option maxRecDepth 100000
namespace Go.Proofs.YtmenllnokgjdlaaGreatDoor.F
open Go Go.RowKit Go.Shelf Fp
open D (H_ un ext_list)
attribute [local go_sem] Oper.semAt_some
theorem fits_set (k : Int) (hk : k = 0 \/ k = 1 \/ k = 2) (a v f : ByteArray) (sa la : Option Addr) (sn sc ln lc : Nat) (A : Ad) (w : World) (g : Glob A w) (hln : (ln : Int) <= 1000) :
  Calls Tryz.prog 67 #[.agg #[.int .i64 k, .string a, .string v, .slice sa sn sc, .string f, .slice la ln lc]] w
   (FitPost A w (decide (0 < ln) && decide (ln <= if k = 2 then 1 else 8) && (decide (a.size = 0) && decide (v.size = 0)) && (decide (sn = 0) && decide (f.size = 0)))) := by
 rw [size0, size0, size0, len0]
 have hb0 : Below w.heap.size w (w.alloc (.cells #[.int .i64 k, .string a, .string v, .slice sa sn sc, .string f, .slice la ln lc] 25)) := (Below.refl _ _).alloc (Nat.le_refl _) _
 have gb := g.next hb0
 have g1 := gb.vco
 have g2 := gb.vfi
 have HK := fun b1 b2 b3 => broken3 (A := A) b1 b2 b3 hb0
 simp only [World.size_alloc] at HK
 replace HK := H_ HK
 clear hb0 gb g
 have e1 : decide (0 < ln) = decide ((0 : Int) < ln) := decide_eq_decide.2 (by omega)
 have e2 : decide (ln <= if k = 2 then 1 else 8) = decide ((ln : Int) <= if k = 2 then 1 else 8) := decide_eq_decide.2 (by split <;> omega)
 rw [e1, e2]
 clear e1 e2
 generalize ha : (a.toList == ([] : List UInt8)) = ba
 generalize hv : (v.toList == ([] : List UInt8)) = bv
 generalize hf : (f.toList == ([] : List UInt8)) = bf
 generalize hs : ((sn : Int) == 0) = bs
 obtain ⟨c, hc⟩ : ∃ c, (decide ((0 : Int) < ln) && decide ((ln : Int) <= if k = 2 then 1 else 8) && (ba && bv) && (bs && bf)) = c := ⟨_, rfl⟩
 rw [hc]
 have HC := H_ hc
 clear hc
 rcases hk with rfl | rfl | rfl <;> by_cases h1 : (0 : Int) < ln <;> cases ba <;> cases bs
 all_goals
  go_enter Tryz.func67, Tryz.ntmps67
  go_wp2_with fail
  refine ((un HK) _ _ _).mono ?_
  intro e w1 hp
  obtain ⟨u, rfl⟩ := hp.ret
  have HP := H_ hp
  clear hp HK
  go_wp2
  go_ret
  rw [<- un HC]
  have hp := un HP
  first
   | (have h1n : 0 < ln := (by omega); simpa [h1n] using hp)
   | (have h1n : ln = 0 := (by omega); simpa [h1n] using hp)
end Go.Proofs.YtmenllnokgjdlaaGreatDoor.F
