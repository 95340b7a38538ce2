/- What filt.fits answers for filters of one value. Conditions: the package-level variables hold what the program's text lays. -/
import Derived.Test.YtmenllnokgjdlaaGreatDoorG28
set_option maxHeartbeats 8000000
set_option maxRecDepth 100000
namespace Go.Proofs.YtmenllnokgjdlaaGreatDoor.F
open Go Go.RowKit Go.Shelf Fp
open D (H_ un ext_list)
attribute [local go_sem] Oper.semAt_some
theorem broken4 {A : Ad} {w W : World} (b1 b2 b3 b4 : Bool) (hb : Below w.heap.size w W) :
  Calls Tryz.prog 103 #[.slice (some ⟨W.heap.size, 0, none⟩) 4 4] (W.alloc (.cells #[.bool b1, sen A.na, .bool b2, sen A.lo, .bool b3, sen A.fi, .bool b4, sen A.fi] 167)) (FitPost A w (b1 && b2 && b3 && b4)) := by
 have := broken_new (A := A) [(b1, A.na), (b2, A.lo), (b3, A.fi), (b4, A.fi)] hb (by simp [isS_na, isS_fi, isS_lo]) (by simp)
 simpa [Bool.and_assoc, flatR] using this
theorem fits_val (k : Int) (hk : k = 3 \/ k = 5 \/ k = 6 \/ k = 8 \/ k = 7) (a v f : ByteArray) (sa la : Option Addr) (sn sc ln lc : Nat) (A : Ad) (w : World) (g : Glob A w) :
  Calls Tryz.prog 67 #[.agg #[.int .i64 k, .string a, .string v, .slice sa sn sc, .string f, .slice la ln lc]] w
   (FitPost A w (okName a && decide (v.size <= if k = 7 then 0 else 60) && (decide (sn = 0) && decide (f.size = 0)) && decide (ln = 0))) := by
 rw [size0, len0, len0]
 have hb0 : Below w.heap.size w (w.alloc (.cells #[.int .i64 k, .string a, .string v, .slice sa sn sc, .string f, .slice la ln lc] 25)) := (Below.refl _ _).alloc (Nat.le_refl _) _
 have hnew := World.alloc_heap_new w (.cells #[.int .i64 k, .string a, .string v, .slice sa sn sc, .string f, .slice la ln lc] 25)
 have hsz := World.size_alloc w (.cells #[.int .i64 k, .string a, .string v, .slice sa sn sc, .string f, .slice la ln lc] 25)
 obtain ⟨V, hV⟩ : ∃ V, V = w.alloc (.cells #[.int .i64 k, .string a, .string v, .slice sa sn sc, .string f, .slice la ln lc] 25) := ⟨_, rfl⟩
 rw [<- hV] at hb0 hnew hsz
 have gb := g.next hb0
 have HK := H_ fun (z : Kw V) b1 b2 b3 b4 => broken4 (A := A) b1 b2 b3 b4 (hb0.trans (z.b.mono hb0.size))
 have hlt : w.heap.size < V.heap.size := by rw [hsz]; omega
 have q1 := fun z : Kw V => Kw.cell z (p := ⟨w.heap.size, 1, none⟩) (v := .string a) (by simp [World.cell?, hnew]) hlt
 have q2 := fun z : Kw V => Kw.cell z (p := ⟨w.heap.size, 2, none⟩) (v := .string v) (by simp [World.cell?, hnew]) hlt
 have q3 := fun z : Kw V => Kw.cell z (p := ⟨w.heap.size, 3, none⟩) (v := .slice sa sn sc) (by simp [World.cell?, hnew]) hlt
 have q4 := fun z : Kw V => Kw.cell z (p := ⟨w.heap.size, 4, none⟩) (v := .string f) (by simp [World.cell?, hnew]) hlt
 have q5 := fun z : Kw V => Kw.cell z (p := ⟨w.heap.size, 5, none⟩) (v := .slice la ln lc) (by simp [World.cell?, hnew]) hlt
 have q6 := fun z : Kw V => Kw.cell z gb.vna (D.lt_cell gb.vna)
 have q7 := fun z : Kw V => Kw.cell z gb.vlo (D.lt_cell gb.vlo)
 have q8 := fun z : Kw V => Kw.cell z gb.vfi (D.lt_cell gb.vfi)
 have HN := H_ fun z : Kw V => Kw.call z (isName_any a z.w)
 have hne : Nonempty (Kw V) := kwNonempty V
 have hVw := H_ hV
 clear hb0 gb g hnew hsz hlt hV
 have e2 : decide (v.size <= if k = 7 then 0 else 60) = decide ((v.size : Int) <= if k = 7 then 0 else 60) := decide_eq_decide.2 (by split <;> omega)
 rw [e2]
 clear e2
 generalize okName a = bn at *
 generalize hf : (f.toList == ([] : List UInt8)) = bf
 generalize hs : ((sn : Int) == 0) = bs
 generalize hl : ((ln : Int) == 0) = bl
 obtain ⟨c, hc⟩ : ∃ c, (bn && decide ((v.size : Int) <= if k = 7 then 0 else 60) && (bs && bf) && bl) = c := ⟨_, rfl⟩
 rw [hc]
 have HC := H_ hc
 clear hc
 rcases hk with rfl | rfl | rfl | rfl | rfl <;> cases bs
 all_goals
  go_enter Tryz.func67, Tryz.ntmps67
  go_wp2_with fail
  rw [<- un hVw]
  refine wp_region_kw 29 (by kernel_rfl) (by kernel_rfl) ?_
  simp only [List.take_succ_cons, List.take_zero, List.drop_succ_cons, List.drop_zero]
  repeat (go_big_quiet_step (first | with_reducible exact (un HN) _))
  refine wpQuiet_nil ?_
  rintro w' ⟨z, rfl⟩
  go_wp2_with fail
  refine ((un HK) z _ _ _ _).mono ?_
  intro e w1 hp
  obtain ⟨u, rfl⟩ := hp.ret
  have HP := H_ hp
  clear hp HK
  go_wp2
  simp only [onlyN]
  go_wp2
  go_ret
  rw [<- un HC]
  have hp := un HP
  simpa [Bool.and_assoc] using hp
end Go.Proofs.YtmenllnokgjdlaaGreatDoor.F
