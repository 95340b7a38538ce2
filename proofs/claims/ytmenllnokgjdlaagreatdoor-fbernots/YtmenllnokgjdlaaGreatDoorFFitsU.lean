/- What filt.fits answers for filters of pieces, and for no kind; and for all. Conditions: the package-level variables hold what the program's text lays. -/
import Derived.Test.YtmenllnokgjdlaaGreatDoorFFitsS
import Derived.Test.YtmenllnokgjdlaaGreatDoorFFitsV
set_option maxHeartbeats 8000000
set_option maxRecDepth 100000
namespace Go.Proofs.YtmenllnokgjdlaaGreatDoor.F
open Go Go.RowKit Go.Shelf Fp
open D (H_ un ext_list)
attribute [local go_sem] Oper.semAt_some
theorem broken6 {A : Ad} {w W : World} (b1 b2 b3 b4 b5 b6 : Bool) (hb : Below w.heap.size w W) :
  Calls Tryz.prog 103 #[.slice (some ⟨W.heap.size, 0, none⟩) 6 6] (W.alloc (.cells #[.bool b1, sen A.na, .bool b2, sen A.co, .bool b3, sen A.lo, .bool b4, sen A.lo, .bool b5, sen A.co, .bool b6, sen A.fi] 167)) (FitPost A w (b1 && b2 && b3 && b4 && b5 && b6)) := by
 have := broken_new (A := A) [(b1, A.na), (b2, A.co), (b3, A.lo), (b4, A.lo), (b5, A.co), (b6, A.fi)] hb (by simp [isS_na, isS_fi, isS_lo, isS_co]) (by simp)
 simpa [Bool.and_assoc, flatR] using this
theorem fits_subs (a v f : ByteArray) (xs : List ByteArray) (sa la : Option Addr) (sc ln lc : Nat) (A : Ad) (w : World) (p : Nat -> Prop) (g : Glob A w) (hx : Strs w p sa xs) (hxl : xs.length <= 1000) :
  Calls Tryz.prog 67 #[.agg #[.int .i64 4, .string a, .string v, .slice sa xs.length sc, .string f, .slice la ln lc]] w
   (FitPost A w (okName a && decide (xs.length <= 4) && xs.all okP && (decide (v.size <= 60) && decide (f.size <= 60)) && (decide (v.size ≠ 0) || decide (0 < xs.length) || decide (f.size ≠ 0)) && decide (ln = 0))) := by
 rw [decide_not, decide_not, size0, size0, len0]
 have hb0 : Below w.heap.size w (w.alloc (.cells #[.int .i64 4, .string a, .string v, .slice sa xs.length sc, .string f, .slice la ln lc] 25)) := (Below.refl _ _).alloc (Nat.le_refl _) _
 have hnew := World.alloc_heap_new w (.cells #[.int .i64 4, .string a, .string v, .slice sa xs.length sc, .string f, .slice la ln lc] 25)
 have hsz := World.size_alloc w (.cells #[.int .i64 4, .string a, .string v, .slice sa xs.length sc, .string f, .slice la ln lc] 25)
 obtain ⟨V, hV⟩ : ∃ V, V = w.alloc (.cells #[.int .i64 4, .string a, .string v, .slice sa xs.length sc, .string f, .slice la ln lc] 25) := ⟨_, rfl⟩
 rw [<- hV] at hb0 hnew hsz
 have gb := g.next hb0
 have HK := H_ fun (z : Kw V) b1 b2 b3 b4 b5 b6 => broken6 (A := A) b1 b2 b3 b4 b5 b6 (hb0.trans (z.b.mono hb0.size))
 have hlt : w.heap.size < V.heap.size := by rw [hsz]; omega
 have q1 := fun z : Kw V => Kw.cell z (p := ⟨w.heap.size, 1, none⟩) (v := .string a) (by simp [World.cell?, hnew]) hlt
 have q2 := fun z : Kw V => Kw.cell z (p := ⟨w.heap.size, 2, none⟩) (v := .string v) (by simp [World.cell?, hnew]) hlt
 have q3 := fun z : Kw V => Kw.cell z (p := ⟨w.heap.size, 3, none⟩) (v := .slice sa xs.length sc) (by simp [World.cell?, hnew]) hlt
 have q4 := fun z : Kw V => Kw.cell z (p := ⟨w.heap.size, 4, none⟩) (v := .string f) (by simp [World.cell?, hnew]) hlt
 have q5 := fun z : Kw V => Kw.cell z (p := ⟨w.heap.size, 5, none⟩) (v := .slice la ln lc) (by simp [World.cell?, hnew]) hlt
 have q6 := fun z : Kw V => Kw.cell z gb.vna (D.lt_cell gb.vna)
 have q7 := fun z : Kw V => Kw.cell z gb.vlo (D.lt_cell gb.vlo)
 have q8 := fun z : Kw V => Kw.cell z gb.vfi (D.lt_cell gb.vfi)
 have q9 := fun z : Kw V => Kw.cell z gb.vco (D.lt_cell gb.vco)
 have HN := H_ fun z : Kw V => Kw.call z (isName_any a z.w)
 have HM := H_ fun z : Kw V => Kw.call z ((containsNo_any xs sa sc p z.w (hx.of fun b _ hl => (hb0.trans (z.b.mono hb0.size)).block b hl) hxl).mono fun e w' ⟨he, hw⟩ => ⟨he, by subst hw; exact Below.refl _ _⟩)
 have hne : Nonempty (Kw V) := kwNonempty V
 have hVw := H_ hV
 clear hb0 gb g hnew hsz hlt hV hx
 have e2 : decide (v.size <= 60) = decide ((v.size : Int) <= 60) := decide_eq_decide.2 (by omega)
 have e3 : decide (f.size <= 60) = decide ((f.size : Int) <= 60) := decide_eq_decide.2 (by omega)
 have e4 : decide (xs.length <= 4) = decide ((xs.length : Int) <= 4) := decide_eq_decide.2 (by omega)
 have e5 : decide (0 < xs.length) = decide ((0 : Int) < xs.length) := decide_eq_decide.2 (by omega)
 rw [e2, e3, e4, e5]
 clear e2 e3 e4 e5
 generalize okName a = bn at *
 generalize hp : xs.all okP = bp at *
 have hl1 : (xs.length : Int) <= 1000 := by omega
 generalize xs.length = sn at *
 clear hxl hp
 generalize hf : (f.toList == ([] : List UInt8)) = bf
 generalize hv : (v.toList == ([] : List UInt8)) = bv
 generalize hl : ((ln : Int) == 0) = bl
 have hf' : (f.toList != ([] : List UInt8)) = !bf := by rw [bne, hf]
 have hv' : (v.toList != ([] : List UInt8)) = !bv := by rw [bne, hv]
 generalize h1 : decide ((v.size : Int) <= 60) = b1
 generalize h2 : decide ((0 : Int) < sn) = b2
 generalize h4 : decide ((f.size : Int) <= 60) = b4
 generalize h5 : decide ((sn : Int) <= 4) = b5
 obtain ⟨c, hc⟩ : ∃ c, (bn && b5 && bp && (b1 && b4) && ((!bv) || b2 || (!bf)) && bl) = c := ⟨_, rfl⟩
 rw [hc]
 have HC := H_ hc
 clear hc
 have h2' : decide (0 < sn) = b2 := by rw [<- h2]; exact decide_eq_decide.2 (by omega)
 cases b1 <;> cases b2 <;> cases bv
 all_goals
  go_enter Tryz.func67, Tryz.ntmps67
  go_wp2_with fail
  rw [<- un hVw]
  refine wp_region_kw 51 (by kernel_rfl) (by kernel_rfl) ?_
  simp only [List.take_succ_cons, List.take_zero, List.drop_succ_cons, List.drop_zero]
  repeat (go_big_quiet_step (first | with_reducible exact (un HN) _ | with_reducible exact (un HM) _))
  refine wpQuiet_nil ?_
  rintro w' ⟨z, rfl⟩
  go_wp2_with fail
  refine ((un HK) z _ _ _ _ _ _).mono ?_
  intro e w1 hp
  obtain ⟨u, rfl⟩ := hp.ret
  have HP := H_ hp
  clear hp HK
  go_wp2
  simp only [onlyN]
  go_wp2
  go_ret
  rw [<- un HC]
  have hp := un HP
  simpa [Bool.and_assoc] using hp
theorem fits_no (k : Int) (hk : k ≠ 0 /\ k ≠ 1 /\ k ≠ 2 /\ k ≠ 3 /\ k ≠ 4 /\ k ≠ 5 /\ k ≠ 6 /\ k ≠ 7 /\ k ≠ 8) (a v f : ByteArray) (sa la : Option Addr) (sn sc ln lc : Nat) (A : Ad) (w : World) :
  Calls Tryz.prog 67 #[.agg #[.int .i64 k, .string a, .string v, .slice sa sn sc, .string f, .slice la ln lc]] w (FitPost A w false) := by
 obtain ⟨h0, h1, h2, h3, h4, h5, h6, h7, h8⟩ := hk
 have k0 : (k == 0) = false := beq_eq_false_iff_ne.2 h0
 have k1 : (k == 1) = false := beq_eq_false_iff_ne.2 h1
 have k2 : (k == 2) = false := beq_eq_false_iff_ne.2 h2
 have k3 : (k == 3) = false := beq_eq_false_iff_ne.2 h3
 have k4 : (k == 4) = false := beq_eq_false_iff_ne.2 h4
 have k5 : (k == 5) = false := beq_eq_false_iff_ne.2 h5
 have k6 : (k == 6) = false := beq_eq_false_iff_ne.2 h6
 have k7 : (k == 7) = false := beq_eq_false_iff_ne.2 h7
 have k8 : (k == 8) = false := beq_eq_false_iff_ne.2 h8
 clear h0 h1 h2 h3 h4 h5 h6 h7 h8
 go_enter Tryz.func67, Tryz.ntmps67
 go_wp2
 go_ret
 exact ⟨(Below.refl _ _).alloc (Nat.le_refl _) _, by rw [if_neg (by simp)]; exact ⟨_, rfl, IsErr.nok A k⟩⟩
theorem fits_any {n : Nat} (F : Fl (n + 1)) (d : Fd) (A : Ad) (w : World) (p : Nat -> Prop) (g : Glob A w) (hI : Is d F) (hS : Sm F) (hx : Strs w p d.sa (an F)) :
  Calls Tryz.prog 67 #[d.val] w (FitPost A w (fitF F)) := by
 obtain ⟨k, a, v, sa, sn, sc, f, la, ln, lc⟩ := d
 obtain ⟨h1, h2, h3, h4, h5, h6⟩ := hI
 simp only at h1 h2 h3 h4 h5 h6 hx
 subst h1 h2 h3 h4 h5 h6
 have hln := hS.ln
 have hsn := hS.sn
 unfold fitF fitB
 by_cases hs : isSet (kd F) = true
 ·rw [if_pos hs]
  have hk : kd F = 0 \/ kd F = 1 \/ kd F = 2 := by unfold isSet at hs; simpa [or_assoc] using hs
  exact fits_set (kd F) hk (Fp.nm F) (va F) (fi F) sa la (an F).length sc (ls F).length lc A w g (by omega)
 ·rw [if_neg hs]
  have hk : ¬ (kd F = 0 \/ kd F = 1 \/ kd F = 2) := by unfold isSet at hs; simpa [or_assoc] using hs
  by_cases h4 : kd F = 4
  ·rw [if_pos h4]
   have := fits_subs (nm F) (va F) (fi F) (an F) sa la sc (ls F).length lc A w p g hx hsn
   unfold Fd.val Fd.cs
   simp only [h4]
   exact this
  ·rw [if_neg h4]
   by_cases h5 : kd F = 3 \/ kd F = 5 \/ kd F = 6 \/ kd F = 7 \/ kd F = 8
   ·rw [if_pos h5]
    exact fits_val (kd F) (by omega) _ _ _ _ _ _ _ _ _ A w g
   ·rw [if_neg h5]
    exact fits_no (kd F) (by omega) _ _ _ _ _ _ _ _ _ A w
end Go.Proofs.YtmenllnokgjdlaaGreatDoor.F
