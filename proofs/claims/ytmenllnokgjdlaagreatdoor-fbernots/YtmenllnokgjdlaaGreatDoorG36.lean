/- Several texts in one: TSmall, THead, TTree0, TTree1, TRange, TTrees, TGrow, TTree2, TMeasure. Each says what it proves, and its conditions. -/
import Derived.Test.YtmenllnokgjdlaaGreatDoorG35
set_option linter.unusedSimpArgs false
set_option maxHeartbeats 4000000
set_option maxRecDepth 100000
/-
 What the small functions of package tlv answer. Conditions: the package-level variables hold what the program's text lays.
-/
namespace Go.Proofs.YtmenllnokgjdlaaGreatDoor
open Go.RowKit Tv
def inB (t : Int) : Bool := bits BinOp.and IntKind.i64 t 32 != 0
theorem inB_fin : ∀ n : Fin 256, inB (n.val : Int) = isIn (n.val : Int) := by decide +kernel
theorem low_fin : ∀ n : Fin 256, bits BinOp.and IntKind.i64 (n.val : Int) 31 = (n.val : Int) % 32 := by decide +kernel
theorem inB_eq (t : Int) (h0 : 0 <= t) (h1 : t <= 255) : inB t = isIn t := by
 have := inB_fin ⟨t.toNat, by omega⟩
 simpa [show ((t.toNat : Nat) : Int) = t by omega] using this
theorem low_eq (t : Int) (h0 : 0 <= t) (h1 : t <= 255) : bits BinOp.and IntKind.i64 t 31 = t % 32 := by
 have := low_fin ⟨t.toNat, by omega⟩
 simpa [show ((t.toNat : Nat) : Int) = t by omega] using this
theorem isInner_any (t : Int) (w : World) : Calls Tryz.prog 91 #[.int .i64 t] w fun e w' => e = .returned (.bool (inB t)) /\ w' = w := by
 go_enter Tryz.func91, Tryz.ntmps91
 go_wp2
 go_ret
 exact ⟨rfl, rfl⟩
theorem fits_any (t : Int) (d : ByteArray) (a : Option Addr) (len cap : Nat) (w : World) :
  Calls Tryz.prog 69 #[.agg #[.int .i64 t, .string d, .slice a len cap]] w fun e w' => e = .returned (.bool (fitB t d.size len)) /\ Below w.heap.size w w' := by
 have hb : ∀ o, Below w.heap.size w (w.alloc o) := fun o => (Below.refl _ _).alloc (Nat.le_refl _) _
 by_cases h0 : t < 0
 ·rw [show fitB t d.size len = false by unfold fitB; rw [decide_eq_false]; omega]
  go_enter Tryz.func69, Tryz.ntmps69
  go_wp2_with (go_at_call 91; refine (isInner_any _ _).mono ?_; rintro e w' ⟨rfl, rfl⟩)
  go_ret
  exact ⟨rfl, hb _⟩
 ·by_cases h1 : 255 < t
  ·rw [show fitB t d.size len = false by unfold fitB; rw [decide_eq_false]; omega]
   go_enter Tryz.func69, Tryz.ntmps69
   go_wp2_with (go_at_call 91; refine (isInner_any _ _).mono ?_; rintro e w' ⟨rfl, rfl⟩)
   go_ret
   exact ⟨rfl, hb _⟩
  ·have hI := inB_eq t (by omega) (by omega)
   have hL := low_eq t (by omega) (by omega)
   by_cases h2 : t % 32 = 31
   ·rw [show fitB t d.size len = false by unfold fitB; rw [decide_eq_false]; omega]
    have e2 : (t % 32 == 31) = true := beq_iff_eq.2 h2
    go_enter Tryz.func69, Tryz.ntmps69
    go_wp2_with (go_at_call 91; refine (isInner_any _ _).mono ?_; rintro e w' ⟨rfl, rfl⟩)
    go_ret
    exact ⟨rfl, hb _⟩
   ·have e2 : (t % 32 == 31) = false := beq_eq_false_iff_ne.2 h2
    clear h2
    cases hi : isIn t
    ·by_cases h3 : len = 0
     ·subst h3
      rw [show fitB t d.size 0 = true by unfold fitB; rw [decide_eq_true]; rw [hi]; simp at e2; simp; omega]
      rw [hi] at hI
      clear hi
      go_enter Tryz.func69, Tryz.ntmps69
      go_wp2_with (go_at_call 91; refine (isInner_any _ _).mono ?_; rintro e w' ⟨rfl, rfl⟩)
      go_ret
      exact ⟨rfl, hb _⟩
     ·rw [show fitB t d.size len = false by unfold fitB; rw [decide_eq_false]; rw [hi]; simp; omega]
      have e3 : 0 < (len : Int) := by omega
      rw [hi] at hI
      clear hi h3
      go_enter Tryz.func69, Tryz.ntmps69
      go_wp2_with (go_at_call 91; refine (isInner_any _ _).mono ?_; rintro e w' ⟨rfl, rfl⟩)
      go_ret
      exact ⟨rfl, hb _⟩
    ·by_cases h3 : d.size = 0
     ·obtain rfl := nil_of_size h3
      rw [show fitB t (ByteArray.mk #[]).size len = true from (fit_iff _ _ _).2 ⟨by omega, by omega, by simpa using e2, fun _ => h3, fun h => by rw [hi] at h; cases h⟩]
      rw [hi] at hI
      clear hi h3
      go_enter Tryz.func69, Tryz.ntmps69
      go_wp2_with (go_at_call 91; refine (isInner_any _ _).mono ?_; rintro e w' ⟨rfl, rfl⟩)
      go_ret
      exact ⟨rfl, hb _⟩
     ·rw [show fitB t d.size len = false by rw [Bool.eq_false_iff]; intro h; exact h3 (((fit_iff _ _ _).1 h).2.2.2.1 hi)]
      have e3 : (d.toList == ([] : List UInt8)) = false := by
       rw [beq_eq_false_iff_ne, ByteArray.toList_eq]
       intro e
       exact h3 (show d.data.size = 0 by rw [<- Array.length_toList, e]; rfl)
      rw [hi] at hI
      clear hi h3
      go_enter Tryz.func69, Tryz.ntmps69
      go_wp2_with (go_at_call 91; refine (isInner_any _ _).mono ?_; rintro e w' ⟨rfl, rfl⟩)
      go_ret
      exact ⟨rfl, hb _⟩
theorem place_any (s : ByteArray) (a : Int) (w : World) : Calls Tryz.prog 98 #[.agg #[.string s], .int .i64 a] w fun e w' => e = .returned (.bool (decide (0 <= a /\ a <= s.size))) /\ Below w.heap.size w w' := by
 have hb : ∀ o, Below w.heap.size w (w.alloc o) := fun o => (Below.refl _ _).alloc (Nat.le_refl _) _
 by_cases h0 : 0 <= a
 ·by_cases h1 : a <= s.size
  ·rw [decide_eq_true ⟨h0, h1⟩]
   go_enter Tryz.func98, Tryz.ntmps98
   go_wp2
   go_ret
   exact ⟨rfl, hb _⟩
  ·rw [decide_eq_false (fun h => h1 h.2)]
   go_enter Tryz.func98, Tryz.ntmps98
   go_wp2
   go_ret
   exact ⟨rfl, hb _⟩
 ·rw [decide_eq_false (fun h => h0 h.1)]
  go_enter Tryz.func98, Tryz.ntmps98
  go_wp2
  go_ret
  exact ⟨rfl, hb _⟩
theorem clone_any (s : ByteArray) (w : World) (hs : s.size <= 10000) : Calls Tryz.prog 115 #[.string s] w fun e w' => e = .returned (.string s) /\ Below w.heap.size w w' := by
 have H := clone0_any s w (by omega)
 go_enter Tryz.func115, Tryz.ntmps115
 go_wp2_with (go_at_call 146; refine H.mono ?_; rintro e w' ⟨rfl, hb⟩)
 go_ret
 exact ⟨rfl, hb⟩
theorem piece_any (s : ByteArray) (a b : Nat) (w : World) (hs : s.size <= 10000) (hab : a <= b) (hb : b <= s.size) : Calls Tryz.prog 129 #[.agg #[.string s], .int .i64 a, .int .i64 b] w fun e w' => e = .returned (.string (s.extract a b)) /\ Below w.heap.size w w' := by
 have H := clone_any (s.extract a b) (w.alloc (.cells #[.string s] 155)) (by rw [ByteArray.size_extract]; omega)
 have h1 : (a : Int) <= b := by omega
 have h2 : (b : Int) <= s.size := by omega
 go_enter Tryz.func129, Tryz.ntmps129
 go_wp2_with (go_at_call 115; refine H.mono ?_; rintro e w' ⟨rfl, hb⟩)
 go_ret
 exact ⟨rfl, ((Below.refl _ _).alloc (Nat.le_refl _) _).trans (hb.mono (by simp))⟩
theorem ext_take (s : ByteArray) (b : Nat) : (s.extract 0 b).data.toList = s.data.toList.take b := by simp [ByteArray.data_extract]
theorem length_ok (s : ByteArray) (a : Int) (stop : Nat) (n p : Int) (aS aF : Addr) (w : World) (g : Glob aS aF w) (hs : s.size <= 10000) (hst : stop <= s.size) (hd : Sz.dec (s.data.toList.take stop) a = (n, p, 0)) :
  Calls Tryz.prog 154 #[.agg #[.string s], .int .i64 a, .int .i64 stop] w fun e w' => e = .returned (.tuple #[.int .i64 n, .int .i64 p, .nilIface]) /\ Below w.heap.size w w' := by
 have H := decode_any (s.extract 0 stop) a aS aF (w.alloc (.cells #[.string s] 155)) (g.alloc _) (by unfold maxLen; rw [ByteArray.size_extract]; omega)
 rw [ext_take, hd] at H
 simp only [tup] at H
 have h2 : (stop : Int) <= s.size := by omega
 clear g hd
 go_enter Tryz.func154, Tryz.ntmps154
 go_wp2_with (go_at_call 172; refine H.mono ?_; rintro e w' ⟨rfl, hb⟩)
 go_ret3
 exact ⟨rfl, ((Below.refl _ _).alloc (Nat.le_refl _) _).trans (hb.mono (by simp))⟩
theorem length_no (s : ByteArray) (a : Int) (stop : Nat) (E : Int) (aS aF : Addr) (w : World) (g : Glob aS aF w) (hs : s.size <= 10000) (hst : stop <= s.size) (n p : Int) (hd : Sz.dec (s.data.toList.take stop) a = (n, p, E)) (hE : E ≠ 0) :
  Calls Tryz.prog 154 #[.agg #[.string s], .int .i64 a, .int .i64 stop] w fun e w' => e = .returned (.tuple #[.int .i64 0, .int .i64 0, .iface 149 (.agg #[.int .i64 E])]) /\ Below w.heap.size w w' := by
 have H := decode_any (s.extract 0 stop) a aS aF (w.alloc (.cells #[.string s] 155)) (g.alloc _) (by unfold maxLen; rw [ByteArray.size_extract]; omega)
 rw [ext_take, hd] at H
 simp only [tup] at H
 have h2 : (stop : Int) <= s.size := by omega
 have h3 : (E != 0) = true := by rw [bne_iff_ne]; exact hE
 clear g hd hE
 go_enter Tryz.func154, Tryz.ntmps154
 go_wp2_with (go_at_call 172; refine H.mono ?_; rintro e w' ⟨rfl, hb⟩)
 go_ret3
 exact ⟨rfl, ((Below.refl _ _).alloc (Nat.le_refl _) _).trans (hb.mono (by simp))⟩
end Go.Proofs.YtmenllnokgjdlaaGreatDoor
/-
 What reader.head of package tlv does. Conditions: the package-level variables hold what the program's text lays.
-/
namespace Go.Proofs.YtmenllnokgjdlaaGreatDoor
open Go.RowKit Tv T
structure TRd (R : Nat) (s : ByteArray) (c : Int) (w : World) : Prop where
 h0 : w.cell? ⟨R, 0, none⟩ = some (.string s)
 h1 : w.cell? ⟨R, 1, none⟩ = some (.int .i64 c)
 f1 : w.frozen? ⟨R, 1, none⟩ = false
theorem TRd.lt {R : Nat} {s : ByteArray} {c : Int} {w : World} (h : TRd R s c w) : R < w.heap.size := lt_of_cell h.h0
theorem TRd.of {R : Nat} {s : ByteArray} {c : Int} {w w' : World} (h : TRd R s c w) (e : w'.heap[R]? = w.heap[R]?) : TRd R s c w' :=
 ⟨(World.cell?_of_block (w := w) (a := ⟨R, 0, none⟩) e).trans h.h0, (World.cell?_of_block (w := w) (a := ⟨R, 1, none⟩) e).trans h.h1, (World.frozen?_of_block (w := w) (a := ⟨R, 1, none⟩) e).trans h.f1⟩
theorem TRd.below {R : Nat} {s : ByteArray} {c : Int} {w w' : World} {B : Nat} (h : TRd R s c w) (hb : Below B w w') (hB : R < B) : TRd R s c w' := h.of (hb.block R hB)
theorem TRd.set {R : Nat} {s : ByteArray} {c : Int} {w : World} (h : TRd R s c w) (c' : Int) : TRd R s c' (w.setCell ⟨R, 1, none⟩ (.int .i64 c')) :=
 ⟨by rw [World.cell?_setCell_other (h := by simp)]; exact h.h0, World.cell?_setCell_same' _ _ _ (by rw [h.h1]; rfl), by rw [World.frozen?_setCell]; exact h.f1⟩
abbrev headV (t a b : Int) : Value := .agg #[.int .i64 t, .int .i64 a, .int .i64 b]
abbrev sentV (a : Addr) : Value := .iface 350 (.pointer (some a))
theorem head_node (R : Nat) (s : ByteArray) (c a stop deep : Int) (A : Ads) (w : World) (h : TRd R s c w) (g : TG A w) (hc : c = 200 \/ 12 < deep) :
  Calls Tryz.prog 128 #[.pointer (some ⟨R, 0, none⟩), .int .i64 a, .int .i64 stop, .int .i64 deep] w fun e w' => e = .returned (.tuple #[headV 0 0 0, sentV A.no]) /\ Below w.heap.size w w' := by
 have q1 : ∀ o, (w.alloc o).cell? ⟨R, 1, none⟩ = some (.int .i64 c) := fun o => by rw [World.cell?_alloc_lt _ _ _ (lt_of_cell h.h1)]; exact h.h1
 have g1 := fun o => (g.below (Nat.le_refl _) ((Below.refl _ _).alloc (Nat.le_refl _) o)).no
 have hb : ∀ o, Below w.heap.size w (w.alloc o).drew := fun o => ((Below.refl _ _).alloc (Nat.le_refl _) _).drew
 clear g h
 by_cases h200 : c = 200
 ·subst h200
  clear hc
  go_enter Tryz.func128, Tryz.ntmps128
  go_wp2
  go_region
  all_goals go_wp2
  all_goals go_light
  all_goals exact bodyPost_ret (v := .tuple #[headV 0 0 0, sentV A.no]) (by simp [results, Tryz.results128, go_sem]) rfl ⟨rfl, hb _⟩
 ·have h12 : 12 < deep := by omega
  have e1 : (c == 200) = false := beq_eq_false_iff_ne.2 h200
  clear hc h200
  go_enter Tryz.func128, Tryz.ntmps128
  go_wp2
  go_region
  all_goals go_wp2
  all_goals go_light
  all_goals exact bodyPost_ret (v := .tuple #[headV 0 0 0, sentV A.no]) (by simp [results, Tryz.results128, go_sem]) rfl ⟨rfl, hb _⟩
structure Gl (A : Ads) (aS aF : Addr) (w : World) : Prop where
 g : Glob aS aF w
 t : TG A w
theorem Gl.below {A : Ads} {aS aF : Addr} {w w' : World} (g : Gl A aS aF w) (h : Below w.heap.size w w') : Gl A aS aF w' := ⟨g.g.below (Nat.le_refl _) h, g.t.below (Nat.le_refl _) h⟩
theorem raised {R : Nat} {s : ByteArray} {c : Int} {A : Ads} {aS aF : Addr} {w₀ w : World} (h : TRd R s c w) (g : Gl A aS aF w₀) (hw : Below w₀.heap.size w₀ w) (hR : w₀.heap.size <= R) (c' : Int) (o : Obj) :
  TRd R s c' ((w.setCell ⟨R, 1, none⟩ (.int .i64 c')).alloc o) /\ Gl A aS aF ((w.setCell ⟨R, 1, none⟩ (.int .i64 c')).alloc o) /\ But R w ((w.setCell ⟨R, 1, none⟩ (.int .i64 c')).alloc o) /\ Below w₀.heap.size w₀ ((w.setCell ⟨R, 1, none⟩ (.int .i64 c')).alloc o) := by
 have hb : Below w₀.heap.size w₀ ((w.setCell ⟨R, 1, none⟩ (.int .i64 c')).alloc o) := (hw.setCell (p := ⟨R, 1, none⟩) hR _).alloc (by have := hw.size; simpa [World.setCell] using this) _
 exact ⟨(h.set c').of (Below.heap_alloc _ _ _ (by have := h.lt; simpa [World.setCell] using this)), g.below hb, ((But.refl R w).setCell 1 _).alloc o, hb⟩
def HeadPost (R : Nat) (s : ByteArray) (c : Nat) (A : Ads) (w : World) (r : Except Int (Nat × Nat × Nat)) (e : Ending) (w' : World) : Prop :=
 But R w w' /\ TRd R s ((c + 1 : Nat) : Int) w' /\ match r with
  | .error E => ∃ u, e = .returned (.tuple #[headV 0 0 0, u]) /\ u ≠ .nilIface /\ IsWhy A u E
  | .ok (t, a, b) => e = .returned (.tuple #[headV t a b, .nilIface])
theorem head_short (R : Nat) (s : ByteArray) (c a : Nat) (deep : Int) (A : Ads) (aS aF : Addr) (w₀ w : World) (h : TRd R s c w) (g : Gl A aS aF w₀) (hw : Below w₀.heap.size w₀ w) (hR : w₀.heap.size <= R) (hc : c < 200) (hdp : deep <= 12) :
  Calls Tryz.prog 128 #[.pointer (some ⟨R, 0, none⟩), .int .i64 a, .int .i64 a, .int .i64 deep] w fun e w' => e = .returned (.tuple #[headV 0 0 0, sentV A.sh]) /\ But R w w' /\ TRd R s ((c + 1 : Nat) : Int) w' := by
 have q1 : ∀ o, (w.alloc o).cell? ⟨R, 1, none⟩ = some (.int .i64 c) := fun o => by rw [World.cell?_alloc_lt _ _ _ (lt_of_cell h.h1)]; exact h.h1
 have f1 : ∀ o, (w.alloc o).frozen? ⟨R, 1, none⟩ = false := fun o => by rw [World.frozen?_alloc_old _ _ _ (Nat.ne_of_lt h.lt)]; exact h.f1
 have hlt := h.lt
 have g1 := fun o => (raised h g hw hR ((c : Int) + 1) o).2.1.t.sh
 have fin := H_ fun o => (raised h g hw hR ((c : Int) + 1) o)
 have e1 : ((c : Int) == 200) = false := beq_eq_false_iff_ne.2 (by omega)
 have hc1 : (c : Int) <= 200 := by omega
 clear g h
 go_enter Tryz.func128, Tryz.ntmps128
 go_wp2
 go_region
 all_goals go_wp2
 all_goals go_light
 all_goals exact bodyPost_ret (v := .tuple #[headV 0 0 0, sentV A.sh]) (by simp [results, Tryz.results128, go_sem]) rfl ⟨rfl, ((un fin) _).2.2.1.drew, ((un fin) _).1.of rfl⟩
theorem byteConv (x : UInt8) : (x.toNat : Int) <= 255 := by have := x.toNat_lt; omega
theorem head_tag (R : Nat) (s : ByteArray) (c a stop : Nat) (deep : Int) (A : Ads) (aS aF : Addr) (w₀ w : World) (h : TRd R s c w) (g : Gl A aS aF w₀) (hw : Below w₀.heap.size w₀ w) (hR : w₀.heap.size <= R) (hc : c < 200) (hdp : deep <= 12)
  (ha : a < stop) (hst : stop <= s.size) (ht : s[a].toNat % 32 = 31) :
  Calls Tryz.prog 128 #[.pointer (some ⟨R, 0, none⟩), .int .i64 a, .int .i64 stop, .int .i64 deep] w fun e w' => e = .returned (.tuple #[headV 0 0 0, sentV A.tg]) /\ But R w w' /\ TRd R s ((c + 1 : Nat) : Int) w' := by
 have q1 : ∀ o, (w.alloc o).cell? ⟨R, 1, none⟩ = some (.int .i64 c) := fun o => by rw [World.cell?_alloc_lt _ _ _ (lt_of_cell h.h1)]; exact h.h1
 have f1 : ∀ o, (w.alloc o).frozen? ⟨R, 1, none⟩ = false := fun o => by rw [World.frozen?_alloc_old _ _ _ (Nat.ne_of_lt h.lt)]; exact h.f1
 have hlt := h.lt
 have g1 := fun o => (raised h g hw hR ((c : Int) + 1) o).2.1.t.tg
 have k0 := fun o => (raised h g hw hR ((c : Int) + 1) o).1.h0
 have fin := H_ fun o => (raised h g hw hR ((c : Int) + 1) o)
 have e1 : ((c : Int) == 200) = false := beq_eq_false_iff_ne.2 (by omega)
 have e2 : ((a : Int) == stop) = false := beq_eq_false_iff_ne.2 (by omega)
 have hc1 : (c : Int) <= 200 := by omega
 have b1 := byteConv s[a]
 have b2 : 0 <= (s[a].toNat : Int) := by omega
 have e3 : (bits BinOp.and IntKind.i64 (s[a].toNat : Int) 31 == 31) = true := by rw [low_eq _ b2 b1, beq_iff_eq]; omega
 have h1 : (a : Int) < s.size := by omega
 clear g h ht
 go_enter Tryz.func128, Tryz.ntmps128
 go_wp2
 go_region
 all_goals go_wp2
 all_goals go_light
 all_goals exact bodyPost_ret (v := .tuple #[headV 0 0 0, sentV A.tg]) (by simp [results, Tryz.results128, go_sem]) rfl ⟨rfl, ((un fin) _).2.2.1.drew, ((un fin) _).1.of rfl⟩
theorem box3 {W w' : World} {x y z : Value} {t : TypeId} {n : Nat} (hn : W.heap.size = n) (hb : Below (W.alloc (.cells #[x, y, z] t)).heap.size (W.alloc (.cells #[x, y, z] t)) w') :
  w'.cell? ⟨n, 0, none⟩ = some x /\ w'.cell? ⟨n, 1, none⟩ = some y /\ w'.cell? ⟨n, 2, none⟩ = some z /\ w'.frozen? ⟨n, 0, none⟩ = false /\ w'.frozen? ⟨n, 1, none⟩ = false /\ w'.frozen? ⟨n, 2, none⟩ = false := by
 subst hn
 have e : w'.heap[W.heap.size]? = some (.cells #[x, y, z] t (0, 0)) := (hb.block _ (by simp)).trans (World.alloc_heap_new W _)
 simp [World.cell?, World.frozen?, e]
theorem fin3 {R : Nat} {s : ByteArray} {c : Int} {w W w' : World} (hR : R < w.heap.size) (hs : W.heap.size = w.heap.size + 1) (ht : TRd R s c W) (hbut : But R w W) (hb : Below W.heap.size W w') (x y z : Value) :
  But R w (((w'.setCell ⟨w.heap.size, 0, none⟩ x).setCell ⟨w.heap.size, 1, none⟩ y).setCell ⟨w.heap.size, 2, none⟩ z) /\ TRd R s c (((w'.setCell ⟨w.heap.size, 0, none⟩ x).setCell ⟨w.heap.size, 1, none⟩ y).setCell ⟨w.heap.size, 2, none⟩ z) := by
 have e : ∀ k, k < w.heap.size -> (((w'.setCell ⟨w.heap.size, 0, none⟩ x).setCell ⟨w.heap.size, 1, none⟩ y).setCell ⟨w.heap.size, 2, none⟩ z).heap[k]? = W.heap[k]? := fun k hk => by
  rw [Below.heap_setCell _ _ _ _ (by show k ≠ w.heap.size; omega), Below.heap_setCell _ _ _ _ (by show k ≠ w.heap.size; omega), Below.heap_setCell _ _ _ _ (by show k ≠ w.heap.size; omega)]
  exact hb.block k (by omega)
 refine ⟨⟨hb.os.trans hbut.os, hb.tape.trans hbut.tape, hb.output.trans hbut.output, ?_, fun k hk hn => (e k hk).trans (hbut.block k hk hn)⟩, ht.of (e R hR)⟩
 have := hb.size
 simp [World.setCell]
 omega
theorem size_setCell (w : World) (a : Addr) (v : Value) : (w.setCell a v).heap.size = w.heap.size := by simp [World.setCell]
theorem head_len (R : Nat) (s : ByteArray) (c a stop : Nat) (deep : Int) (A : Ads) (aS aF : Addr) (w₀ w : World) (h : TRd R s c w) (g : Gl A aS aF w₀) (hw : Below w₀.heap.size w₀ w) (hR : w₀.heap.size <= R) (hc : c < 200) (hdp : deep <= 12)
  (hs : s.size <= 10000) (ha : a < stop) (hst : stop <= s.size) (ht : s[a].toNat % 32 ≠ 31) (n p E : Int) (hd : Sz.dec (s.data.toList.take stop) ((a : Int) + 1) = (n, p, E)) (hE : E ≠ 0) :
  Calls Tryz.prog 128 #[.pointer (some ⟨R, 0, none⟩), .int .i64 a, .int .i64 stop, .int .i64 deep] w fun e w' => e = .returned (.tuple #[headV 0 0 0, .iface 149 (.agg #[.int .i64 E])]) /\ But R w w' /\ TRd R s ((c + 1 : Nat) : Int) w' := by
 have q1 : ∀ o, (w.alloc o).cell? ⟨R, 1, none⟩ = some (.int .i64 c) := fun o => by rw [World.cell?_alloc_lt _ _ _ (lt_of_cell h.h1)]; exact h.h1
 have f1 : ∀ o, (w.alloc o).frozen? ⟨R, 1, none⟩ = false := fun o => by rw [World.frozen?_alloc_old _ _ _ (Nat.ne_of_lt h.lt)]; exact h.f1
 have hlt := h.lt
 have k0 := fun o => (raised h g hw hR ((c : Int) + 1) o).1.h0
 have fin := H_ fun o => (raised h g hw hR ((c : Int) + 1) o)
 have e1 : ((c : Int) == 200) = false := beq_eq_false_iff_ne.2 (by omega)
 have e2 : ((a : Int) == stop) = false := beq_eq_false_iff_ne.2 (by omega)
 have hc1 : (c : Int) <= 200 := by omega
 have b1 := byteConv s[a]
 have b2 : 0 <= (s[a].toNat : Int) := by omega
 have e3 : (bits BinOp.and IntKind.i64 (s[a].toNat : Int) 31 == 31) = false := by rw [low_eq _ b2 b1, beq_eq_false_iff_ne]; omega
 have h1 : (a : Int) < s.size := by omega
 have h2 : (a : Int) <= 10000 := by omega
 have H := H_ fun o => length_no s ((a : Int) + 1) stop E aS aF _ (raised h g hw hR ((c : Int) + 1) o).2.1.g hs hst n p hd hE
 clear g h ht hd hE
 go_enter Tryz.func128, Tryz.ntmps128
 go_wp2_with (go_at_call 154; refine ((un H) _).mono ?_; rintro e w' ⟨rfl, hb⟩; obtain ⟨c0, c1, c2, r0, r1, r2⟩ := box3 (size_setCell _ _ _) hb; have hb' := H_ hb; clear hb)
 all_goals go_light
 all_goals exact bodyPost_ret (v := .tuple #[headV 0 0 0, .iface 149 (.agg #[.int .i64 E])]) (by simp [results, Tryz.results128, go_sem, c0, c1, c2]) rfl ⟨rfl, fin3 hlt (by simp [World.setCell]) ((un fin) _).1 ((un fin) _).2.2.1 (un hb') _ _ _⟩
theorem head_more (R : Nat) (s : ByteArray) (c a stop : Nat) (deep : Int) (A : Ads) (aS aF : Addr) (w₀ w : World) (h : TRd R s c w) (g : Gl A aS aF w₀) (hw : Below w₀.heap.size w₀ w) (hR : w₀.heap.size <= R) (hc : c < 200) (hdp : deep <= 12)
  (hs : s.size <= 10000) (ha : a < stop) (hst : stop <= s.size) (ht : s[a].toNat % 32 ≠ 31) (n p : Nat) (hd : Sz.dec (s.data.toList.take stop) ((a : Int) + 1) = ((n : Int), (p : Int), 0)) (hn : n <= 16777215) (hp : p <= stop) (hnp : (stop : Int) - p < n) :
  Calls Tryz.prog 128 #[.pointer (some ⟨R, 0, none⟩), .int .i64 a, .int .i64 stop, .int .i64 deep] w fun e w' => e = .returned (.tuple #[headV 0 0 0, sentV A.sh]) /\ But R w w' /\ TRd R s ((c + 1 : Nat) : Int) w' := by
 have q1 : ∀ o, (w.alloc o).cell? ⟨R, 1, none⟩ = some (.int .i64 c) := fun o => by rw [World.cell?_alloc_lt _ _ _ (lt_of_cell h.h1)]; exact h.h1
 have f1 : ∀ o, (w.alloc o).frozen? ⟨R, 1, none⟩ = false := fun o => by rw [World.frozen?_alloc_old _ _ _ (Nat.ne_of_lt h.lt)]; exact h.f1
 have hlt := h.lt
 have k0 := fun o => (raised h g hw hR ((c : Int) + 1) o).1.h0
 have fin := H_ fun o => (raised h g hw hR ((c : Int) + 1) o)
 have e1 : ((c : Int) == 200) = false := beq_eq_false_iff_ne.2 (by omega)
 have e2 : ((a : Int) == stop) = false := beq_eq_false_iff_ne.2 (by omega)
 have hc1 : (c : Int) <= 200 := by omega
 have b1 := byteConv s[a]
 have b2 : 0 <= (s[a].toNat : Int) := by omega
 have e3 : (bits BinOp.and IntKind.i64 (s[a].toNat : Int) 31 == 31) = false := by rw [low_eq _ b2 b1, beq_eq_false_iff_ne]; omega
 have h1 : (a : Int) < s.size := by omega
 have h2 : (a : Int) <= 10000 := by omega
 have H := H_ fun o => length_ok s ((a : Int) + 1) stop n p aS aF _ (raised h g hw hR ((c : Int) + 1) o).2.1.g hs hst hd
 have G := H_ fun o w' (hb : Below _ ((w.setCell ⟨R, 1, none⟩ (.int .i64 ((c : Int) + 1))).alloc o) w') => ((raised h g hw hR ((c : Int) + 1) o).2.1.below hb).t.sh
 have h3 : (stop : Int) <= 10000 := by omega
 have h4 : (p : Int) <= 10000 := by omega
 have hG : Hid (16 < w.heap.size) := H_ (by have := lt_of_cell g.t.sh; have := hw.size; simp at *; omega)
 clear g h ht hd
 go_enter Tryz.func128, Tryz.ntmps128
 go_wp2_with (go_at_call 154; refine ((un H) _).mono ?_; rintro e w' ⟨rfl, hb⟩; obtain ⟨c0, c1, c2, r0, r1, r2⟩ := box3 (size_setCell _ _ _) hb; have gs := (un G) _ _ hb; have gs0 : ∀ v, (w'.setCell ⟨w.heap.size, 0, none⟩ v).cell? ⟨16, 0, none⟩ = some (sentV A.sh) := (fun v => by rw [World.cell?_setCell_far _ _ _ _ (by have := un hG; simp; omega)]; exact gs); have hb' := H_ hb; clear hb)
 go_region
 all_goals go_wp2
 all_goals go_light
 all_goals exact bodyPost_ret (v := .tuple #[headV 0 0 0, sentV A.sh]) (by simp [results, Tryz.results128, go_sem, c0, c1, c2]) rfl ⟨rfl, (fin3 hlt (by simp [World.setCell]) ((un fin) _).1 ((un fin) _).2.2.1 (un hb') _ _ _).1.drew, (fin3 hlt (by simp [World.setCell]) ((un fin) _).1 ((un fin) _).2.2.1 (un hb') _ _ _).2.of rfl⟩
theorem head_ok (R : Nat) (s : ByteArray) (c a stop : Nat) (deep : Int) (A : Ads) (aS aF : Addr) (w₀ w : World) (h : TRd R s c w) (g : Gl A aS aF w₀) (hw : Below w₀.heap.size w₀ w) (hR : w₀.heap.size <= R) (hc : c < 200) (hdp : deep <= 12)
  (hs : s.size <= 10000) (ha : a < stop) (hst : stop <= s.size) (ht : s[a].toNat % 32 ≠ 31) (n p : Nat) (hd : Sz.dec (s.data.toList.take stop) ((a : Int) + 1) = ((n : Int), (p : Int), 0)) (hn : n <= 16777215) (hp : p <= stop) (hnp : ¬ (stop : Int) - p < n) :
  Calls Tryz.prog 128 #[.pointer (some ⟨R, 0, none⟩), .int .i64 a, .int .i64 stop, .int .i64 deep] w fun e w' => e = .returned (.tuple #[headV s[a].toNat p ((p + n : Nat) : Int), .nilIface]) /\ But R w w' /\ TRd R s ((c + 1 : Nat) : Int) w' := by
 have q1 : ∀ o, (w.alloc o).cell? ⟨R, 1, none⟩ = some (.int .i64 c) := fun o => by rw [World.cell?_alloc_lt _ _ _ (lt_of_cell h.h1)]; exact h.h1
 have f1 : ∀ o, (w.alloc o).frozen? ⟨R, 1, none⟩ = false := fun o => by rw [World.frozen?_alloc_old _ _ _ (Nat.ne_of_lt h.lt)]; exact h.f1
 have hlt := h.lt
 have k0 := fun o => (raised h g hw hR ((c : Int) + 1) o).1.h0
 have fin := H_ fun o => (raised h g hw hR ((c : Int) + 1) o)
 have e1 : ((c : Int) == 200) = false := beq_eq_false_iff_ne.2 (by omega)
 have e2 : ((a : Int) == stop) = false := beq_eq_false_iff_ne.2 (by omega)
 have hc1 : (c : Int) <= 200 := by omega
 have b1 := byteConv s[a]
 have b2 : 0 <= (s[a].toNat : Int) := by omega
 have e3 : (bits BinOp.and IntKind.i64 (s[a].toNat : Int) 31 == 31) = false := by rw [low_eq _ b2 b1, beq_eq_false_iff_ne]; omega
 have h1 : (a : Int) < s.size := by omega
 have h2 : (a : Int) <= 10000 := by omega
 have H := H_ fun o => length_ok s ((a : Int) + 1) stop n p aS aF _ (raised h g hw hR ((c : Int) + 1) o).2.1.g hs hst hd
 have h3 : (stop : Int) <= 10000 := by omega
 have h4 : (p : Int) <= 10000 := by omega
 have h5 : (n : Int) <= 10000 := by omega
 clear g h ht hd
 go_enter Tryz.func128, Tryz.ntmps128
 go_wp2_with (go_at_call 154; refine ((un H) _).mono ?_; rintro e w' ⟨rfl, hb⟩; obtain ⟨c0, c1, c2, r0, r1, r2⟩ := box3 (size_setCell _ _ _) hb; have hb' := H_ hb; clear hb)
 all_goals go_light
 all_goals exact bodyPost_ret (v := .tuple #[headV s[a].toNat p ((p + n : Nat) : Int), .nilIface]) (by simp [results, Tryz.results128, go_sem, c0, c1, c2]) rfl ⟨rfl, fin3 hlt (by simp [World.setCell]) ((un fin) _).1 ((un fin) _).2.2.1 (un hb') _ _ _⟩
theorem getD_nat (s : ByteArray) (a : Nat) (h : a < s.size) : s.data.toList.getD a 0 = s[a] := by
 have h' : a < s.data.toList.length := by simpa using h
 rw [List.getD_eq_getElem?_getD, List.getElem?_eq_getElem h']
 rfl
theorem head_any (R : Nat) (s : ByteArray) (c a stop : Nat) (deep : Int) (A : Ads) (aS aF : Addr) (w₀ w : World) (h : TRd R s c w) (g : Gl A aS aF w₀) (hw : Below w₀.heap.size w₀ w) (hR : w₀.heap.size <= R) (hc : c < 200) (hdp : deep <= 12)
  (hs : s.size <= 10000) (ha : a <= stop) (hst : stop <= s.size) :
  Calls Tryz.prog 128 #[.pointer (some ⟨R, 0, none⟩), .int .i64 a, .int .i64 stop, .int .i64 deep] w (HeadPost R s c A w (headT s.data.toList a stop)) := by
 by_cases h1 : a = stop
 ·subst h1
  refine (head_short R s c a deep A aS aF w₀ w h g hw hR hc hdp).mono fun e w' ⟨he, hb, ht⟩ => ⟨hb, ht, ?_⟩
  unfold headT
  rw [if_pos rfl]
  exact ⟨_, he, by simp, .inr ⟨_, rfl, .inl ⟨rfl, rfl⟩⟩⟩
 ·have hlt : a < stop := by omega
  have hg := getD_nat s a (by omega)
  by_cases h2 : s[a].toNat % 32 = 31
  ·refine (head_tag R s c a stop deep A aS aF w₀ w h g hw hR hc hdp hlt hst h2).mono fun e w' ⟨he, hb, ht⟩ => ⟨hb, ht, ?_⟩
   unfold headT
   rw [if_neg h1, hg, if_pos h2]
   exact ⟨_, he, by simp, .inr ⟨_, rfl, .inr (.inl ⟨rfl, rfl⟩)⟩⟩
  ·obtain ⟨n, p, E, hd⟩ : ∃ n p E, Sz.dec (s.data.toList.take stop) ((a : Int) + 1) = (n, p, E) := ⟨_, _, _, rfl⟩
   by_cases hE : E = 0
   ·subst hE
    obtain ⟨k, n', p', _, rfl, rfl, e4, e5, e6, _, _⟩ := (Sz.dec_shape _ _ _ _ _ hd).2 rfl
    have e5' : p' <= stop := by simp at e5; omega
    by_cases h4 : (stop : Int) - p' < n'
    ·refine (head_more R s c a stop deep A aS aF w₀ w h g hw hR hc hdp hs hlt hst h2 n' p' hd e6 e5' h4).mono fun e w' ⟨he, hb, ht⟩ => ⟨hb, ht, ?_⟩
     unfold headT
     rw [if_neg h1, hg, if_neg h2, hd]
     simp only [ne_eq, not_true_eq_false, if_false]
     rw [if_pos h4]
     exact ⟨_, he, by simp, .inr ⟨_, rfl, .inl ⟨rfl, rfl⟩⟩⟩
    ·refine (head_ok R s c a stop deep A aS aF w₀ w h g hw hR hc hdp hs hlt hst h2 n' p' hd e6 e5' h4).mono fun e w' ⟨he, hb, ht⟩ => ⟨hb, ht, ?_⟩
     unfold headT
     rw [if_neg h1, hg, if_neg h2, hd]
     simp only [ne_eq, not_true_eq_false, if_false]
     rw [if_neg h4]
     exact he
   ·refine (head_len R s c a stop deep A aS aF w₀ w h g hw hR hc hdp hs hlt hst h2 n p E hd hE).mono fun e w' ⟨he, hb, ht⟩ => ⟨hb, ht, ?_⟩
    unfold headT
    rw [if_neg h1, hg, if_neg h2, hd]
    simp only [ne_eq]
    rw [if_pos hE]
    exact ⟨_, he, by simp, .inl rfl⟩
end Go.Proofs.YtmenllnokgjdlaaGreatDoor
/-
 What reader.tree of package tlv does where no trees stand in the one that is read. Conditions: the package-level variables hold what the program's text lays.
-/
namespace Go.Proofs.YtmenllnokgjdlaaGreatDoor
open Go.RowKit Tv T
abbrev zeroN : Value := .agg #[.int .i64 0, .string ⟨#[]⟩, .slice none 0 0]
def TreePost (R : Nat) (s : ByteArray) (A : Ads) (w : World) (k : Nat) (r : Except Int (Tr (k + 1) × Nat × Nat)) (e : Ending) (w' : World) : Prop :=
 But R w w' /\ match r with
  | .error E => ∃ v, e = .returned (.tuple #[zeroN, .int .i64 0, v]) /\ IsErr A v E
  | .ok (T, nx, c') => ∃ v, e = .returned (.tuple #[v, .int .i64 nx, .nilIface]) /\ Node (k + 1) w' (fun b => w.heap.size <= b) v T /\ TRd R s c' w'
abbrev ans (w : World) : World := ((w.alloc (.cells #[.int .i64 0, .string ⟨#[]⟩, .slice none 0 0] 28)).alloc (.cells #[.int .i64 0] 3)).alloc (.cells #[.nilIface] 52)
theorem ans_below (w : World) : Below w.heap.size w (ans w) := (((Below.refl _ _).alloc (Nat.le_refl _) _).alloc (by simp) _).alloc (by simp; omega) _
theorem ans_0 (w : World) : (ans w).heap[w.heap.size]? = some (.cells #[.int .i64 0, .string ⟨#[]⟩, .slice none 0 0] 28 (0, 0)) := by
 rw [Below.heap_alloc _ _ _ (by simp; omega), Below.heap_alloc _ _ _ (by simp)]; exact World.alloc_heap_new w _
theorem ans_1 (w : World) : (ans w).heap[w.heap.size + 1]? = some (.cells #[.int .i64 0] 3 (0, 0)) := by
 rw [Below.heap_alloc _ _ _ (by simp)]; have := World.alloc_heap_new (w.alloc (.cells #[.int .i64 0, .string ⟨#[]⟩, .slice none 0 0] 28)) (.cells #[.int .i64 0] 3); rwa [World.size_alloc] at this
theorem ans_2 (w : World) : (ans w).heap[w.heap.size + 1 + 1]? = some (.cells #[.nilIface] 52 (0, 0)) := by
 have := World.alloc_heap_new ((w.alloc (.cells #[.int .i64 0, .string ⟨#[]⟩, .slice none 0 0] 28)).alloc (.cells #[.int .i64 0] 3)) (.cells #[.nilIface] 52); rwa [World.size_alloc, World.size_alloc] at this
structure Ans (n : Nat) (w' : World) : Prop where
 b0 : w'.heap[n]? = some (.cells #[.int .i64 0, .string ⟨#[]⟩, .slice none 0 0] 28 (0, 0))
 b1 : w'.heap[n + 1]? = some (.cells #[.int .i64 0] 3 (0, 0))
 b2 : w'.heap[n + 1 + 1]? = some (.cells #[.nilIface] 52 (0, 0))
theorem Ans.but {R : Nat} {w w' : World} (hR : R < w.heap.size) (h : But R (ans w) w') : Ans w.heap.size w' :=
 ⟨(h.block _ (by simp; omega) (by omega)).trans (ans_0 w), (h.block _ (by simp) (by omega)).trans (ans_1 w), (h.block _ (by simp) (by omega)).trans (ans_2 w)⟩
theorem Ans.cells {n : Nat} {w : World} (h : Ans n w) : (w.cell? ⟨n, 0, none⟩ = some (.int .i64 0) /\ w.cell? ⟨n, 1, none⟩ = some (.string ⟨#[]⟩) /\ w.cell? ⟨n, 2, none⟩ = some (.slice none 0 0) /\ w.cell? ⟨n + 1, 0, none⟩ = some (.int .i64 0) /\ w.cell? ⟨n + 1 + 1, 0, none⟩ = some .nilIface) /\
  (w.frozen? ⟨n, 0, none⟩ = false /\ w.frozen? ⟨n, 1, none⟩ = false /\ w.frozen? ⟨n, 2, none⟩ = false /\ w.frozen? ⟨n + 1, 0, none⟩ = false /\ w.frozen? ⟨n + 1 + 1, 0, none⟩ = false) := by
 refine ⟨⟨?_, ?_, ?_, ?_, ?_⟩, ?_, ?_, ?_, ?_, ?_⟩ <;> simp [World.cell?, World.frozen?, h.b0, h.b1, h.b2]
theorem Ans.of {n : Nat} {w w' : World} (h : Ans n w) (hb : ∀ k, k < w.heap.size -> w'.heap[k]? = w.heap[k]?) : Ans n w' :=
 ⟨(hb _ (Array.getElem?_eq_some_iff.1 h.b0).1).trans h.b0, (hb _ (Array.getElem?_eq_some_iff.1 h.b1).1).trans h.b1, (hb _ (Array.getElem?_eq_some_iff.1 h.b2).1).trans h.b2⟩
theorem But.setNew {R : Nat} {w V : World} (h : But R w V) {b : Nat} (hb : w.heap.size <= b) (o : Nat) (v : Value) : But R w (V.setCell ⟨b, o, none⟩ v) :=
 ⟨h.os, h.tape, h.output, by rw [size_setCell]; exact h.size, fun k hk hn => (Below.heap_setCell V ⟨b, o, none⟩ v k (by show k ≠ b; omega)).trans (h.block k hk hn)⟩
theorem But.toBut {R : Nat} {w w' V : World} (h : Below w.heap.size w w') (k : But R w' V) : But R w V := (But.of_below h).trans k
theorem Ans.alloc {n : Nat} {w : World} (h : Ans n w) : ((∀ o, (w.alloc o).cell? ⟨n, 0, none⟩ = some (.int .i64 0)) /\ (∀ o, (w.alloc o).cell? ⟨n, 1, none⟩ = some (.string ⟨#[]⟩)) /\ (∀ o, (w.alloc o).cell? ⟨n, 2, none⟩ = some (.slice none 0 0)) /\ (∀ o, (w.alloc o).cell? ⟨n + 1, 0, none⟩ = some (.int .i64 0)) /\ (∀ o, (w.alloc o).cell? ⟨n + 1 + 1, 0, none⟩ = some .nilIface)) /\
  ((∀ o, (w.alloc o).frozen? ⟨n, 0, none⟩ = false) /\ (∀ o, (w.alloc o).frozen? ⟨n, 1, none⟩ = false) /\ (∀ o, (w.alloc o).frozen? ⟨n, 2, none⟩ = false) /\ (∀ o, (w.alloc o).frozen? ⟨n + 1, 0, none⟩ = false) /\ (∀ o, (w.alloc o).frozen? ⟨n + 1 + 1, 0, none⟩ = false)) := by
 have H := fun o => (h.of (fun k hk => Below.heap_alloc w o k hk)).cells
 exact ⟨⟨fun o => (H o).1.1, fun o => (H o).1.2.1, fun o => (H o).1.2.2.1, fun o => (H o).1.2.2.2.1, fun o => (H o).1.2.2.2.2⟩, fun o => (H o).2.1, fun o => (H o).2.2.1, fun o => (H o).2.2.2.1, fun o => (H o).2.2.2.2.1, fun o => (H o).2.2.2.2.2⟩
theorem _root_.Go.Proofs.YtmenllnokgjdlaaGreatDoor.T.IsWhy.iface {A : Ads} {u : Value} {E : Int} (h : IsWhy A u E) : ∃ t v, u = .iface t v := by
 rcases h with h | ⟨a, h, _⟩
 ·exact ⟨_, _, h⟩
 ·exact ⟨_, _, h⟩
theorem tree_err (R : Nat) (A : Ads) (w : World) (p stop deep E : Int) (hR : R < w.heap.size)
  (H : Calls Tryz.prog 128 #[.pointer (some ⟨R, 0, none⟩), .int .i64 p, .int .i64 stop, .int .i64 deep] (ans w) fun e w' => But R (ans w) w' /\ ∃ u, e = .returned (.tuple #[headV 0 0 0, u]) /\ u ≠ .nilIface /\ IsWhy A u E) :
  Calls Tryz.prog 99 #[.pointer (some ⟨R, 0, none⟩), .int .i64 p, .int .i64 stop, .int .i64 deep] w fun e w' => But R w w' /\ ∃ v, e = .returned (.tuple #[zeroN, .int .i64 0, v]) /\ IsErr A v E := by
 go_enter Tryz.func99, Tryz.ntmps99
 go_wp2_with fail
 refine H.mono ?_
 rintro e w1 ⟨hb, u, rfl, _, hw⟩
 obtain ⟨T0, v0, rfl⟩ := hw.iface
 obtain ⟨⟨c0, c1, c2, c3, c4⟩, r0, r1, r2, r3, r4⟩ := (Ans.but hR hb).alloc
 have hlt : w.heap.size + 1 + 1 < w1.heap.size := by have := hb.size; simp at this; omega
 have Hb := H_ hb
 clear hb H
 go_wp2_with fail
 have HB : But R w (w1.alloc (.cells #[.int .i64 0, .int .i64 0, .int .i64 0] 202)) := (But.toBut (ans_below w) (un Hb)).alloc _
 clear Hb
 refine bodyPost_ret (v := .tuple #[zeroN, .int .i64 0, .iface 97 (.agg #[.int .i64 p, .iface T0 v0])]) (by simp [results, Tryz.results99, go_sem, c0, c1, c2, c3, c4]) rfl ⟨?_, _, rfl, p, _, rfl, hw⟩
 exact ((((HB.setNew (by omega) _ _).setNew (by omega) _ _).setNew (by omega) _ _).setNew (by omega) _ _).setNew (by omega) _ _
end Go.Proofs.YtmenllnokgjdlaaGreatDoor
/-
 What reader.tree of package tlv does at a tree with data. Conditions: the package-level variables hold what the program's text lays.
-/
namespace Go.Proofs.YtmenllnokgjdlaaGreatDoor
open Go.RowKit Tv T
theorem two_boxes (w : World) (x y z x' y' z' : Value) (t t' : TypeId) :
  ((w.alloc (.cells #[x, y, z] t)).alloc (.cells #[x', y', z'] t')).heap[w.heap.size]? = some (.cells #[x, y, z] t (0, 0)) /\ ((w.alloc (.cells #[x, y, z] t)).alloc (.cells #[x', y', z'] t')).heap[w.heap.size + 1]? = some (.cells #[x', y', z'] t' (0, 0)) := by
 constructor
 ·rw [Below.heap_alloc _ _ _ (by simp)]; exact World.alloc_heap_new w _
 ·have := World.alloc_heap_new (w.alloc (.cells #[x, y, z] t)) (.cells #[x', y', z'] t'); rwa [World.size_alloc] at this
theorem cells3 {w : World} {n : Nat} {x y z : Value} {t : TypeId} (h : w.heap[n]? = some (.cells #[x, y, z] t (0, 0))) : (w.cell? ⟨n, 0, none⟩ = some x /\ w.cell? ⟨n, 1, none⟩ = some y /\ w.cell? ⟨n, 2, none⟩ = some z) /\ w.frozen? ⟨n, 0, none⟩ = false /\ w.frozen? ⟨n, 1, none⟩ = false /\ w.frozen? ⟨n, 2, none⟩ = false := by
 refine ⟨⟨?_, ?_, ?_⟩, ?_, ?_, ?_⟩ <;> simp [World.cell?, World.frozen?, h]
theorem TRd.drew {R : Nat} {s : ByteArray} {c : Int} {V : World} (h : TRd R s c V) : TRd R s c V.drew := ⟨h.h0, h.h1, h.f1⟩
theorem TRd.setNew {R : Nat} {s : ByteArray} {c : Int} {V : World} (h : TRd R s c V) {b : Nat} (hb : R ≠ b) (o : Nat) (v : Value) : TRd R s c (V.setCell ⟨b, o, none⟩ v) := h.of (Below.heap_setCell V ⟨b, o, none⟩ v R hb)
theorem tree_leaf (R : Nat) (s : ByteArray) (c a b t : Nat) (w : World) (p stop deep : Int) (hR : R < w.heap.size) (hs : s.size <= 10000) (hab : a <= b) (hb : b <= s.size) (ht : t < 256) (hi : isIn t = false)
  (H : Calls Tryz.prog 128 #[.pointer (some ⟨R, 0, none⟩), .int .i64 p, .int .i64 stop, .int .i64 deep] (ans w) fun e w' => But R (ans w) w' /\ TRd R s c w' /\ e = .returned (.tuple #[headV t a b, .nilIface])) :
  Calls Tryz.prog 99 #[.pointer (some ⟨R, 0, none⟩), .int .i64 p, .int .i64 stop, .int .i64 deep] w fun e w' => But R w w' /\ e = .returned (.tuple #[.agg #[.int .i64 t, .string (s.extract a b), .slice none 0 0], .int .i64 b, .nilIface]) /\ TRd R s c w' := by
 have hmx : Tryz.prog.follows .mixedOrders = true := by kernel_rfl
 have hI : inB t = false := (inB_eq t (by omega) (by omega)).trans hi
 go_enter Tryz.func99, Tryz.ntmps99
 go_wp2_with fail
 refine H.mono ?_
 rintro e w1 ⟨hb1, htr, rfl⟩
 clear H
 go_wp2_with (go_at_call 91; refine (isInner_any _ _).mono ?_; rintro e w' ⟨rfl, rfl⟩)
 obtain ⟨W2, hW2⟩ : ∃ W2, W2 = (w1.alloc (.cells #[.int .i64 t, .int .i64 a, .int .i64 b] 202)).alloc (.cells #[.int .i64 t, .string ⟨#[]⟩, .slice none 0 0] 28) := ⟨_, rfl⟩
 rw [<- hW2]
 have hold : ∀ k, k < w1.heap.size -> W2.heap[k]? = w1.heap[k]? := fun k hk => by rw [hW2, Below.heap_alloc _ _ _ (by simp; omega), Below.heap_alloc _ _ _ hk]
 have hz : W2.heap.size = w1.heap.size + 2 := by rw [hW2]; simp
 have hH := (two_boxes w1 (.int .i64 t) (.int .i64 a) (.int .i64 b) (.int .i64 t) (.string ⟨#[]⟩) (.slice none 0 0) 202 28)
 rw [<- hW2] at hH
 have hA : Ans w.heap.size W2 := (Ans.but hR hb1).of hold
 have hT : TRd R s c W2 := htr.of (hold _ htr.lt)
 have hB : But R w W2 := by rw [hW2]; exact ((But.toBut (ans_below w) hb1).alloc _).alloc _
 have hlt : w.heap.size + 1 + 1 < w1.heap.size := by have := hb1.size; simp at this; omega
 clear hb1 htr hold hW2
 generalize w1.heap.size = n1 at *
 obtain ⟨⟨h0, h1, h2⟩, _⟩ := cells3 hH.1
 have r0 := hT.h0
 have P := piece_any s a b W2.drew hs hab hb
 go_still_tail 8, hmx
 clear r0 h0 h1 h2
 have hH' := H_ hH
 have hA' := H_ hA
 have hT' := H_ hT
 have hB' := H_ hB
 clear hH hA hT hB
 go_wp2_with fail
 refine P.mono ?_
 rintro e w3 ⟨rfl, hb3⟩
 clear P
 have hk : ∀ k, k < W2.heap.size -> w3.heap[k]? = W2.heap[k]? := fun k hk => hb3.block k hk
 have hz3 : W2.heap.size <= w3.heap.size := hb3.size
 have hH3 : w3.heap[n1]? = _ /\ w3.heap[n1 + 1]? = _ := ⟨(hk _ (by omega)).trans (un hH').1, (hk _ (by omega)).trans (un hH').2⟩
 obtain ⟨⟨a0, a1, a2⟩, _⟩ := cells3 hH3.1
 obtain ⟨⟨d0, d1, d2⟩, e0, e1, e2⟩ := cells3 hH3.2
 obtain ⟨⟨c0, c1, c2, c3, c4⟩, r0, r1, r2, r3, r4⟩ := ((un hA').of hk).cells
 have hT3 := H_ ((un hT').of (hk R (un hT').lt))
 have hB3 := H_ ((un hB').trans (But.of_below (show Below W2.heap.size W2 w3 from ⟨hb3.os, hb3.tape, hb3.output, hb3.size, hb3.block⟩)))
 clear hb3 hk hH3 hH' hA' hT' hB'
 go_wp2
 go_region
 all_goals go_wp2
 all_goals go_light
 have HB := un hB3
 have HT := un hT3
 clear hB3 hT3
 refine bodyPost_ret (v := .tuple #[.agg #[.int .i64 t, .string (s.extract a b), .slice none 0 0], .int .i64 b, .nilIface]) (by simp [results, Tryz.results99, go_sem, c0, c1, c2, c3, c4]) rfl ⟨?_, rfl, ?_⟩
 ·exact ((((((HB.setNew (by omega) _ _).setNew (by omega) _ _).setNew (by omega) _ _).setNew (by omega) _ _).setNew (by omega) _ _).setNew (by omega) _ _).drew
 ·exact ((((((HT.setNew (by omega) _ _).setNew (by omega) _ _).setNew (by omega) _ _).setNew (by omega) _ _).setNew (by omega) _ _).setNew (by omega) _ _).drew
end Go.Proofs.YtmenllnokgjdlaaGreatDoor
/-
 A range over a function whose rounds lay one box for a loop's variable, and whose iterator may write a block of its own. Conditions: the fence that asks nothing.
-/
namespace Go.Proofs.YtmenllnokgjdlaaGreatDoor
open Go.RowKit Go.Shelf
theorem round_any {P : Program} {m m' l : Nat} {f : FuncId} {tmps : Array Value} {assign body : Code} {w : World} {R : Ending -> World -> Prop} (h : RoundIn Fence.wide m P l f tmps assign body w R) : RoundIn Fence.wide m' P l f tmps assign body w R :=
 ⟨h.1, fun c cs _ => h.2 c cs (room_wide _)⟩
theorem But.putObj (b : Nat) (W : World) (o : Obj) : But b W (W.putObj b o) := ⟨rfl, rfl, rfl, by simp, fun _ _ hn => World.putObj_heap_other hn⟩
theorem Two.of_but {p q b : Nat} {A B : World} (h : But b A B) (hp : p ≠ b) (hq : q ≠ b) (hpl : p < A.heap.size) (hql : q < A.heap.size) : Two p q A B := ⟨h.block _ hpl hp, h.block _ hql hq⟩
def roundEnd {σ : Type} (D : Nat) (Kp : World -> World -> Prop) (I : σ -> World -> Prop) (Ix : Code -> σ -> World -> Prop) (s : σ) (g gx : Prop) (W : World) : Exit -> Act -> World -> Prop
 | .normal, _, W' => g /\ Two D (D + 1) W W' /\ Kp W W' /\ I s W'
 | .ret, _, W' => gx /\ Two D (D + 1) W W' /\ Ix .ret s W'
 | .exit id, _, W' => gx /\ Two D (D + 1) W W' /\ Ix (.exit id) s W'
 | .goto t, _, W' => gx /\ Two D (D + 1) W W' /\ Ix (.goto t) s W'
 | .panic _, _, _ => False
 | .outgrown, _, _ => False
theorem range_mine {P : Program} {α σ : Type} {g : Operand} {ps : Array Tmp} {assign body : Code} {Q : Exit -> Act -> World -> Prop} {a : Act} {w : World}
  {gf : Nat} {lb : Array Value} (hg : a.eval g = .func (.func gf) #[] lb) (eg : ∀ args w, (callFunc gf args).run P w = .ok (.enter gf args) w)
  (encs : α -> Array Value) (hps : ∀ x, (encs x).size = ps.size)
  (Kp Ab : World -> World -> Prop) (I : σ -> World -> Prop) (Ix : Code -> σ -> World -> Prop) (Pr : σ -> α -> World -> Prop) (nx : σ -> α -> σ) (s0 : σ) (S : σ -> World -> Prop) (Sp : σ -> Prop) (G Gx : σ -> α -> Prop)
  (cs : α -> Array Value) (tk : TypeId) (a₁ : α -> Nat -> Act)
  (hKt : ∀ {A B C : World}, Kp A B -> Kp B C -> Kp A C) (hKp : ∀ A B, But (w.heap.size + 1) A B -> Kp A B)
  (hAb : ∀ A B, Ab A B -> w.heap.size + 2 <= A.heap.size -> Two w.heap.size (w.heap.size + 1) A B)
  (hI : ∀ s A B, But (w.heap.size + 1) A B -> I s A -> I s B) (hAI : ∀ s A B, Ab A B -> w.heap.size + 2 <= A.heap.size -> I s A -> I s B)
  (hIx : ∀ c s A B, But (w.heap.size + 1) A B -> Ix c s A -> Ix c s B) (hPr : ∀ s x A B, But (w.heap.size + 1) A B -> Pr s x A -> Pr s x B)
  (hS : ∀ s A B, But (w.heap.size + 1) A B -> S s A -> S s B) (h0 : I s0 w)
  (hiter : ∀ W : World, But (w.heap.size + 1) w W -> W.heap.size = w.heap.size + 2 -> ∀ J Jx : σ -> World -> Prop, (∀ s A B, Ab A B -> J s A -> J s B) -> (∀ s A, J s A -> I s A /\ w.heap.size + 2 <= A.heap.size) ->
   (∀ s x W' m, J s W' -> Pr s x W' -> YieldAt Fence.wide m P (w.heap.size + 1) (encs x) W' fun e W2 => (e = .returned (.bool true) /\ G s x /\ J (nx s x) W2 /\ Kp W' W2) \/ (e = .returned (.bool false) /\ Gx s x /\ Jx (nx s x) W2)) ->
   J s0 W -> CallsIn Fence.wide 6 P gf (#[.func (.yield (w.heap.size + 1)) #[] #[]] ++ lb) W fun e W' => (∃ v, e = .returned v) /\ ((∃ s, S s W' /\ J s W') \/ (∃ s, Sp s /\ Jx s W')))
  (hassign : ∀ s x W (K : Act -> World -> Prop), I s W -> Pr s x W -> K (a₁ x W.heap.size) (W.alloc (.cells (cs x) tk)) ->
   assign.wpIn (Fence.wide.inRound (w.heap.size + 1)) 5 P (Exit.then K (fun _ _ _ => False)) { tmps := (ps.zip (encs x)).foldl (fun t (p, v) => t.setIfInBounds p v) a.tmps, defers := [] } W)
  (hbody : ∀ s x B W, I s W -> Pr s x W -> w.heap.size + 2 <= B -> W.heap[B]? = some (.cells (cs x) tk (0, 0)) -> body.wpIn (Fence.wide.inRound (w.heap.size + 1)) 5 P (roundEnd w.heap.size Kp I Ix (nx s x) (G s x) (Gx s x) W) (a₁ x B) W)
  (hdone : ∀ s W, S s W -> I s W -> W.heap[w.heap.size]? = some (.deferred (some [])) -> Q .normal { a with defers := { target := .collected w.heap.size, args := #[] } :: a.defers } W)
  (hstop : ∀ c s W, Sp s -> Ix c s W -> W.heap[w.heap.size]? = some (.deferred (some [])) -> c.wpIn Fence.wide 7 P Q { a with defers := { target := .collected w.heap.size, args := #[] } :: a.defers } W) :
  (Code.rangeFunc g ps assign body).wpIn Fence.wide 7 P Q a w := by
 refine wpIn_rangeFunc ?_
 intro fn hfn
 obtain ⟨rec, hrec⟩ : ∃ rec : LoopState -> Option Code -> Loop, rec = fun st pe => { state := st, pending := pe, fn, tmps := a.tmps, params := ps, assign, body, defers := w.heap.size } := ⟨_, rfl⟩
 obtain ⟨W1, hW1⟩ : ∃ W1, W1 = (w.alloc (.deferred (some []))).alloc (.loop (rec .ready none)) := ⟨_, rfl⟩
 have hL1 : W1.heap[w.heap.size + 1]? = some (.loop (rec .ready none)) := by
  rw [hW1]; have := World.alloc_heap_new (w.alloc (.deferred (some []))) (.loop (rec .ready none)); rwa [World.size_alloc] at this
 have hK1 : W1.heap[w.heap.size]? = some (.deferred (some [])) := by
  rw [hW1]; exact (Below.heap_alloc _ _ _ (by simp)).trans (World.alloc_heap_new w _)
 have hb1 : But (w.heap.size + 1) w W1 := by rw [hW1]; exact ((But.refl _ _).alloc _).alloc _
 have hz1 : W1.heap.size = w.heap.size + 2 := by rw [hW1]; simp
 refine ⟨w.heap.size + 1, [{ target := .collected w.heap.size, args := #[] }], W1, { target := .fn (.func gf) lb, args := #[.func (.yield (w.heap.size + 1)) #[] #[]] }, W1, gf,
  #[.func (.yield (w.heap.size + 1)) #[] #[]] ++ lb, W1, ?_, ?_, fun _ _ => trivial, ?_, fun _ => by omega, ?_⟩
 ·rw [hW1, hrec]; exact run_enterLoop_outer _ _ _ _ _
 ·simp only [resolve, hg]
  simp [go_sem]
 ·simp [invoke, go_sem, eg]
 ·refine (hiter W1 hb1 hz1
   (fun s W => I s W /\ W.heap[w.heap.size + 1]? = some (.loop (rec .ready none)) /\ W.heap[w.heap.size]? = some (.deferred (some [])))
   (fun s W => ∃ c, Ix c s W /\ W.heap[w.heap.size + 1]? = some (.loop (rec .done (some c))) /\ W.heap[w.heap.size]? = some (.deferred (some [])))
   (fun s A B hab hs => by
    have hlt := (Array.getElem?_eq_some_iff.1 hs.2.1).1
    obtain ⟨e1, e2⟩ := hAb A B hab (by omega)
    exact ⟨hAI s A B hab (by omega) hs.1, e2.trans hs.2.1, e1.trans hs.2.2⟩)
   (fun s A hs => ⟨hs.1, by have := (Array.getElem?_eq_some_iff.1 hs.2.1).1; omega⟩)
   ?_ ⟨hI _ _ _ hb1 h0, hL1, hK1⟩).mono ?_
  ·rintro s x W m ⟨hi, hl, hk⟩ hpr
   have hlt : w.heap.size + 1 < W.heap.size := (Array.getElem?_eq_some_iff.1 hl).1
   have hy := run_yield (P := P) (args := encs x) hl (by rw [hrec]; exact hps x)
   rw [hrec] at hy
   refine ⟨fn, _, assign, body, hy, round_any (roundIn_of_wpIn hfn (hassign s x W _ hi hpr ?_))⟩
   obtain ⟨Wa, hWa⟩ : ∃ Wa, Wa = W.alloc (.cells (cs x) tk) := ⟨_, rfl⟩
   have hba : But (w.heap.size + 1) W Wa := by rw [hWa]; exact (But.refl _ _).alloc _
   have hla : Wa.heap[w.heap.size + 1]? = some (.loop (rec .ready none)) := by rw [hWa]; exact (Below.heap_alloc _ _ _ hlt).trans hl
   have hka : Wa.heap[w.heap.size]? = some (.deferred (some [])) := (hba.block _ (by omega) (by omega)).trans hk
   have hxa : Wa.heap[W.heap.size]? = some (.cells (cs x) tk (0, 0)) := by rw [hWa]; exact World.alloc_heap_new W _
   rw [<- hWa]
   refine ⟨_, run_beginRound hla (by rw [hrec]), ?_⟩
   obtain ⟨Wb, hWb⟩ : ∃ Wb, Wb = Wa.putObj (w.heap.size + 1) (.loop { rec .ready none with state := .busy }) := ⟨_, rfl⟩
   have hbb : But (w.heap.size + 1) Wa Wb := by rw [hWb]; exact But.putObj _ _ _
   have hlb : Wb.heap[w.heap.size + 1]? = some (.loop { rec .ready none with state := .busy }) := by rw [hWb]; exact World.putObj_heap_same (Array.getElem?_eq_some_iff.1 hla).1
   have hkb : Wb.heap[w.heap.size]? = some (.deferred (some [])) := (hbb.block _ (Array.getElem?_eq_some_iff.1 hka).1 (by omega)).trans hka
   have hxb : Wb.heap[W.heap.size]? = some (.cells (cs x) tk (0, 0)) := (hbb.block _ (Array.getElem?_eq_some_iff.1 hxa).1 (by omega)).trans hxa
   rw [<- hWb]
   refine wpIn_mono (hbody s x W.heap.size Wb (hI _ _ _ (hba.trans hbb) hi) (hPr _ _ _ _ (hba.trans hbb) hpr) (by omega) hxb) ?_
   have fin : ∀ (jump : Option Code) (W3 : World), Two w.heap.size (w.heap.size + 1) Wb W3 ->
     (Instr.endRound (w.heap.size + 1) jump).run P W3 = .ok (.bool jump.isNone) (W3.putObj (w.heap.size + 1) (.loop (rec (if jump.isNone then .ready else .done) jump))) /\
     (W3.putObj (w.heap.size + 1) (.loop (rec (if jump.isNone then .ready else .done) jump))).heap[w.heap.size + 1]? = some (.loop (rec (if jump.isNone then .ready else .done) jump)) /\
     (W3.putObj (w.heap.size + 1) (.loop (rec (if jump.isNone then .ready else .done) jump))).heap[w.heap.size]? = some (.deferred (some [])) := fun jump W3 hk3 => by
    have hl3 := hk3.2.trans hlb
    have := run_endRound (P := P) jump hl3
    rw [hrec] at this ⊢
    exact ⟨this, World.putObj_heap_same (Array.getElem?_eq_some_iff.1 hl3).1, (World.putObj_heap_other (by omega)).trans (hk3.1.trans hkb)⟩
   rintro e a3 W3 hp
   cases e with
   | normal =>
    obtain ⟨hg3, hk3, hkp3, hi3⟩ := hp
    obtain ⟨hr, hl4, hk4⟩ := fin none W3 hk3
    exact ⟨_, _, hr, .inl ⟨rfl, hg3, ⟨hI _ _ _ (But.putObj _ _ _) hi3, hl4, hk4⟩, hKt (hKp _ _ (hba.trans hbb)) (hKt hkp3 (hKp _ _ (But.putObj _ _ _)))⟩⟩
   | ret =>
    obtain ⟨hg3, hk3, hi3⟩ := hp
    obtain ⟨hr, hl4, hk4⟩ := fin (some .ret) W3 hk3
    exact ⟨_, _, hr, .inr ⟨rfl, hg3, .ret, hIx _ _ _ _ (But.putObj _ _ _) hi3, hl4, hk4⟩⟩
   | exit id =>
    obtain ⟨hg3, hk3, hi3⟩ := hp
    obtain ⟨hr, hl4, hk4⟩ := fin (some (.exit id)) W3 hk3
    exact ⟨_, _, hr, .inr ⟨rfl, hg3, .exit id, hIx _ _ _ _ (But.putObj _ _ _) hi3, hl4, hk4⟩⟩
   | goto t =>
    obtain ⟨hg3, hk3, hi3⟩ := hp
    obtain ⟨hr, hl4, hk4⟩ := fin (some (.goto t)) W3 hk3
    exact ⟨_, _, hr, .inr ⟨rfl, hg3, .goto t, hIx _ _ _ _ (But.putObj _ _ _) hi3, hl4, hk4⟩⟩
   | panic ch => exact hp.elim
   | outgrown => exact hp.elim
  ·rintro e W2 ⟨⟨v, rfl⟩, (⟨s, hs, hi, hl, hk⟩ | ⟨s, hSp, c, hi, hl, hk⟩)⟩
   ·exact ⟨none, _, by have := run_endLoop (P := P) hl (by rw [hrec]; simp); rw [hrec] at this; exact this, hdone s _ (hS _ _ _ (But.putObj _ _ _) hs) (hI _ _ _ (But.putObj _ _ _) hi) ((World.putObj_heap_other (by omega)).trans hk)⟩
   ·exact ⟨some c, _, by have := run_endLoop (P := P) hl (by rw [hrec]; simp); rw [hrec] at this; exact this, hstop c s _ hSp (hIx _ _ _ _ (But.putObj _ _ _) hi) ((World.putObj_heap_other (by omega)).trans hk)⟩
end Go.Proofs.YtmenllnokgjdlaaGreatDoor
/-
 What reader.trees of package tlv answers, and how its iterator tells trees one by one. Conditions: the package-level variables hold what the program's text lays; what reader.tree does at the next depth.
-/
namespace Go.Proofs.YtmenllnokgjdlaaGreatDoor
open Go.RowKit Tv T Go.Shelf
attribute [local go_sem] Oper.semAt_some
theorem trees_any (r : Value) (hr : ∃ p, r = .pointer p) (a b d : Int) (w : World) :
  Calls Tryz.prog 130 #[r, .int .i64 a, .int .i64 b, .int .i64 d] w fun e w' => e = .returned (.func (.func 155) #[] #[.pointer (some ⟨w.heap.size + 1, 0, none⟩), .pointer (some ⟨w.heap.size + 1 + 1, 0, none⟩), .pointer (some ⟨w.heap.size, 0, none⟩), .pointer (some ⟨w.heap.size + 1 + 1 + 1, 0, none⟩)]) /\
   w' = (((w.alloc (.cells #[r] 200)).alloc (.cells #[.int .i64 a] 3)).alloc (.cells #[.int .i64 b] 3)).alloc (.cells #[.int .i64 d] 3) := by
 obtain ⟨p, rfl⟩ := hr
 go_enter Tryz.func130, Tryz.ntmps130
 go_wp2
 go_ret
 exact ⟨rfl, rfl⟩
structure Item (k : Nat) where
 t : Int
 d : ByteArray
 sa : Option Addr
 sn : Nat
 sc : Nat
 err : Value
 lo : Nat
 g : Except Int (Tr (k + 1) × Nat × Nat)
abbrev Item.cs {k : Nat} (x : Item k) : Array Value := #[.int .i64 x.t, .string x.d, .slice x.sa x.sn x.sc]
structure Sta (k : Nat) where
 q : Nat
 c : Nat
 pre : List (Tr (k + 1))
def nxt {k : Nat} (s : Sta k) (x : Item k) : Sta k := match x.g with
 | .error _ => s
 | .ok (T, nx, c) => ⟨nx, c, s.pre ++ [T]⟩
def isOk {k : Nat} (x : Item k) : Prop := ∃ r, x.g = .ok r
def isNo {k : Nat} (x : Item k) : Prop := ∃ E, x.g = .error E
def ItemIs {k : Nat} (A : Ads) (Bn m b : Nat) (l : List UInt8) (s : Sta k) (x : Item k) (W : World) : Prop :=
 x.g = readT l k s.q b s.c /\ (m <= x.lo /\ m <= W.heap.size) /\ (∀ g off len cap, W.cell? ⟨Bn, 2, none⟩ = some (.slice (some ⟨g, off, none⟩) len cap) -> g < x.lo) /\
 match x.g with
 | .error E => x.cs = #[.int .i64 0, .string ⟨#[]⟩, .slice none 0 0] /\ IsErr A x.err E
 | .ok (T, _, _) => x.err = .nilIface /\ Node (k + 1) W (fun b => x.lo <= b) (.agg x.cs) T
def Kept (D Bn : Nat) (A B : World) : Prop := A.heap.size <= B.heap.size /\ ∀ k, k < D -> k ≠ Bn -> k < A.heap.size -> B.heap[k]? = A.heap[k]?
theorem Kept.trans {D Bn : Nat} {A B C : World} (h : Kept D Bn A B) (k : Kept D Bn B C) : Kept D Bn A C :=
 ⟨Nat.le_trans h.1 k.1, fun i hi hn hl => (k.2 i hi hn (Nat.lt_of_lt_of_le hl h.1)).trans (h.2 i hi hn hl)⟩
theorem Kept.of_but {D Bn l : Nat} {A B : World} (hl : D <= l) (h : But l A B) : Kept D Bn A B := ⟨h.size, fun i hi _ hlt => h.block i hlt (by omega)⟩
def glue {α : Type} (pre : List α) : Except Int (List α × Nat) -> Except Int (List α × Nat)
 | .error E => .error E
 | .ok (xs, c) => .ok (pre ++ xs, c)
theorem glue_glue {α : Type} (p q : List α) (r : Except Int (List α × Nat)) : glue p (glue q r) = glue (p ++ q) r := by
 cases r with
 | error E => rfl
 | ok r => simp [glue]
theorem readL_err {α : Type} {rd : Nat -> Nat -> Except Int (α × Nat × Nat)} {f q b c : Nat} {E : Int} (hq : q < b) (h : rd q c = .error E) : readL rd (f + 1) q b c = .error E := by
 unfold readL; rw [if_pos hq, h]
theorem readL_ok {α : Type} {rd : Nat -> Nat -> Except Int (α × Nat × Nat)} {f q b c : Nat} {x : α} {nx c' : Nat} (hq : q < b) (h : rd q c = .ok (x, nx, c')) : readL rd (f + 1) q b c = glue [x] (readL rd f nx b c') := by
 rw [readL, if_pos hq, h]
 simp only
 cases readL rd f nx b c' with
 | error E => rfl
 | ok r => rfl
theorem readL_end {α : Type} {rd : Nat -> Nat -> Except Int (α × Nat × Nat)} {f q b c : Nat} (hq : ¬ q < b) : readL rd f q b c = .ok ([], c) := by
 cases f with
 | zero => rfl
 | succ f => rw [readL, if_neg hq]
theorem trees1_any (k R a b c₀ D Bn Ba Be Br Bd : Nat) (str : ByteArray) (A : Ads) (w₀ : World) (deep : Int) (hb : b <= str.size) (hab : a <= b) (hc : c₀ <= 200)
  (hR : R < D /\ R ≠ Bn /\ w₀.heap.size <= R) (hBn : Bn < D) (hBe : Be < D /\ Be ≠ Bn /\ Be ≠ R) (hBr : Br < D /\ Br ≠ Bn /\ Br ≠ R) (hBd : Bd < D /\ Bd ≠ Bn /\ Bd ≠ R)
  (IH : ∀ (q c : Nat) (w : World), TRd R str c w -> Below w₀.heap.size w₀ w -> c <= 200 -> q <= b -> Calls Tryz.prog 99 #[.pointer (some ⟨R, 0, none⟩), .int .i64 q, .int .i64 b, .int .i64 deep] w (TreePost R str A w k (readT str.data.toList k q b c)))
  (J Jx : Sta k -> World -> Prop) (hJ : ∀ s A B, But R A B -> J s A -> J s B)
  (hJI : ∀ s W, J s W -> D + 2 <= W.heap.size /\ Below w₀.heap.size w₀ W /\ (∀ g off len cap, W.cell? ⟨Bn, 2, none⟩ = some (.slice (some ⟨g, off, none⟩) len cap) -> g < W.heap.size))
  (hY : ∀ s x W m, J s W -> ItemIs A Bn (D + 2) b str.data.toList s x W -> YieldAt Fence.wide m Tryz.prog (D + 1) #[.agg x.cs, x.err] W fun e W2 => (e = .returned (.bool true) /\ isOk x /\ J (nxt s x) W2 /\ Kept D Bn W W2) \/ (e = .returned (.bool false) /\ isNo x /\ Jx (nxt s x) W2))
  (W : World) (h0 : J ⟨a, c₀, []⟩ W) (hT : TRd R str c₀ W) (ka : W.cell? ⟨Ba, 0, none⟩ = some (.int .i64 a)) (ke : W.cell? ⟨Be, 0, none⟩ = some (.int .i64 b)) (kr : W.cell? ⟨Br, 0, none⟩ = some (.pointer (some ⟨R, 0, none⟩))) (kd : W.cell? ⟨Bd, 0, none⟩ = some (.int .i64 deep)) :
  CallsIn Fence.wide 6 Tryz.prog 155 #[.func (.yield (D + 1)) #[] #[], .pointer (some ⟨Ba, 0, none⟩), .pointer (some ⟨Be, 0, none⟩), .pointer (some ⟨Br, 0, none⟩), .pointer (some ⟨Bd, 0, none⟩)] W fun e W' => (∃ v, e = .returned v) /\
   ((∃ s, (readL (fun q c' => readT str.data.toList k q b c') (b - a) a b c₀ = .ok (s.pre, s.c) /\ TRd R str s.c W') /\ J s W') \/
    (∃ s : Sta k, (∃ E, readL (fun q c' => readT str.data.toList k q b c') (b - a) a b c₀ = .error E /\ readT str.data.toList k s.q b s.c = .error E) /\ Jx s W')) := by
 refine callsIn_of_wp Tryz.func155 rfl trivial ?_ rfl
 simp only [Tryz.ntmps155, List.size_toArray, List.length_cons, List.length_nil, Nat.reduceAdd, Nat.reduceSub, Array.replicate_succ, Array.replicate_zero, List.push_toArray, List.append_toArray, List.nil_append, List.cons_append]
 gi_wp2
 gi_loopw [6] (fun i wr => ∃ (q c f : Nat) (pre : List (Tr (k + 1))), i = .int .i64 q /\ q <= b /\ c <= 200 /\ b - q <= f /\ Hid (readL (fun q c' => readT str.data.toList k q b c') (b - a) a b c₀ = glue pre (readL (fun q c' => readT str.data.toList k q b c') f q b c)) /\ J ⟨q, c, pre⟩ wr /\ TRd R str c wr /\
   wr.cell? ⟨Be, 0, none⟩ = some (.int .i64 b) /\ wr.cell? ⟨Br, 0, none⟩ = some (.pointer (some ⟨R, 0, none⟩)) /\ wr.cell? ⟨Bd, 0, none⟩ = some (.int .i64 deep))
  (fun i _ => b - (intOf i).toNat)
 case atStart =>
  refine ⟨a, c₀, b - a, [], rfl, hab, hc, Nat.le_refl _, ?_, h0, hT, ke, kr, kd⟩
  show _ = _
  cases readL (fun q c' => readT str.data.toList k q b c') (b - a) a b c₀ with
  | error E => rfl
  | ok r => rfl
 case round =>
  obtain ⟨q, c, f, pre, rfl, hq, hc1, hf, hgl, hj, hT1, ke1, kr1, kd1⟩ := hrel
  clear h0 hT ka ke kr kd
  by_cases hlt : q < b
  ·have hlt' : (q : Int) < b := by omega
   have H := IH q c wr hT1 (hJI _ _ hj).2.1 hc1 hq
   gi_wp2_with fail
   refine ⟨trivial, (callsIn_wide.2 H).mono ?_⟩
   rintro e w1 ⟨hbt, hres⟩
   clear H IH
   have hold : ∀ x, x < D -> x ≠ R -> x < wr.heap.size -> w1.heap[x]? = wr.heap[x]? := fun x _ hn hl => hbt.block x hl hn
   have ke2 : w1.cell? ⟨Be, 0, none⟩ = some (.int .i64 b) := (World.cell?_of_block (w := wr) (a := ⟨Be, 0, none⟩) (hold Be hBe.1 hBe.2.2 (lt_of_cell ke1))).trans ke1
   have kr2 : w1.cell? ⟨Br, 0, none⟩ = some (.pointer (some ⟨R, 0, none⟩)) := (World.cell?_of_block (w := wr) (a := ⟨Br, 0, none⟩) (hold Br hBr.1 hBr.2.2 (lt_of_cell kr1))).trans kr1
   have kd2 : w1.cell? ⟨Bd, 0, none⟩ = some (.int .i64 deep) := (World.cell?_of_block (w := wr) (a := ⟨Bd, 0, none⟩) (hold Bd hBd.1 hBd.2.2 (lt_of_cell kd1))).trans kd1
   have hj1 : ∀ o, J ⟨q, c, pre⟩ (w1.alloc o) := fun o => hJ _ _ _ (hbt.alloc o) hj
   obtain ⟨hz1, _, hrow⟩ := hJI _ _ hj
   have hBnl : Bn < wr.heap.size := by omega
   have hrow1 : ∀ o g off len cap, (w1.alloc o).cell? ⟨Bn, 2, none⟩ = some (.slice (some ⟨g, off, none⟩) len cap) -> g < wr.heap.size := fun o g off len cap h => hrow g off len cap (by
    rw [<- h]
    exact (World.cell?_of_block (w := wr) (a := ⟨Bn, 2, none⟩) ((Below.heap_alloc _ _ _ (by show Bn < _; have := hbt.size; omega)).trans (hold Bn hBn (fun e => hR.2.1 e.symm) hBnl))).symm)
   obtain ⟨f', rfl⟩ : ∃ f', f = f' + 1 := ⟨f - 1, by omega⟩
   cases hrd : readT str.data.toList k q b c with
   | error E =>
    rw [hrd] at hres
    obtain ⟨v, rfl, hE⟩ := hres
    obtain ⟨kk, u, rfl, hu⟩ := id hE
    obtain ⟨fn, tmps, assign, body, hy, hRd⟩ := hY ⟨q, c, pre⟩ ⟨0, ⟨#[]⟩, none, 0, 0, .iface 97 (.agg #[.int .i64 kk, u]), wr.heap.size, .error E⟩ _ 5 (hj1 (.cells #[.int .i64 0, .string ⟨#[]⟩, .slice none 0 0] 28))
     ⟨hrd.symm, ⟨hz1, by have := hbt.size; simp; omega⟩, hrow1 _, rfl, hE⟩
    dsimp only at hy
    have Hgl : Hid (readL (fun q c' => readT str.data.toList k q b c') (b - a) a b c₀ = .error E) := H_ (by
     rw [un hgl, readL_err hlt hrd]; rfl)
    have Hrd := H_ hrd
    clear hgl hrd hJI hY hrow hrow1 hj1 hE hu
    gi_wp2
    refine hRd.mono ?_
    rintro e W3 (⟨rfl, ⟨r, hE⟩, _⟩ | ⟨rfl, _, hx3⟩)
    ·cases hE
    ·gi_wp2
     refine bodyPost_ret (results_none rfl _ _ _) rfl ?_
     exact ⟨⟨_, rfl⟩, .inr ⟨⟨q, c, pre⟩, ⟨E, un Hgl, un Hrd⟩, hx3⟩⟩
   | ok r =>
    obtain ⟨T, nx, c'⟩ := r
    rw [hrd] at hres
    obtain ⟨v, rfl, hN, hT2⟩ := hres
    obtain ⟨p1, p2, p3, _, p5, p6⟩ := readT_props str.data.toList k q b c T nx c' (by simpa using hb) hc1 hrd
    obtain ⟨sa, sc, rfl, _⟩ := hN.shape
    obtain ⟨fn, tmps, assign, body, hy, hRd⟩ := hY ⟨q, c, pre⟩ ⟨tag T, dat T, sa, (kids T).length, sc, .nilIface, wr.heap.size, .ok (T, nx, c')⟩ _ 5 (hj1 (.cells #[.int .i64 (tag T), .string (dat T), .slice sa (kids T).length sc] 28))
     ⟨hrd.symm, ⟨hz1, by have := hbt.size; simp; omega⟩, hrow1 _, rfl, hN.below ((Below.refl _ _).alloc (Nat.le_refl _) _)⟩
    dsimp only at hy
    have Hgl : Hid (readL (fun q c' => readT str.data.toList k q b c') (b - a) a b c₀ = glue (pre ++ [T]) (readL (fun q c' => readT str.data.toList k q b c') f' nx b c')) := H_ (by
     rw [un hgl, readL_ok hlt hrd, glue_glue])
    have HT2 := H_ hT2
    clear hgl hrd hN hJI hY hrow hrow1 hj1 hT2
    gi_wp2
    refine hRd.mono ?_
    rintro e W3 (⟨rfl, _, hJ3, hk3⟩ | ⟨rfl, ⟨E, hE⟩, _⟩)
    ·have hw3 : ∀ x v, x < D -> x ≠ Bn -> w1.cell? ⟨x, 0, none⟩ = some v -> W3.cell? ⟨x, 0, none⟩ = some v := fun x v hx hn h => by
      have hl := lt_of_cell h
      have e1 := hk3.2 x hx hn (by have : x < w1.heap.size := hl; simp; omega)
      exact (World.cell?_of_block (w := w1) (a := ⟨x, 0, none⟩) (e1.trans (Below.heap_alloc _ _ _ hl))).trans h
     have ke3 := hw3 Be _ hBe.1 hBe.2.1 ke2
     have kr3 := hw3 Br _ hBr.1 hBr.2.1 kr2
     have kd3 := hw3 Bd _ hBd.1 hBd.2.1 kd2
     have hT3 : TRd R str c' W3 := by
      have hl := (un HT2).lt
      exact (un HT2).of ((hk3.2 R hR.1 hR.2.1 (by simp; omega)).trans (Below.heap_alloc _ _ _ hl))
     clear hw3
     gi_wp2
     go_roundw
     case rel => exact ⟨nx, c', f', pre ++ [T], rfl, p2, p6, by omega, Hgl, hJ3, hT3, ke3, kr3, kd3⟩
     case measure => simp [intOf]; omega
    ·cases hE
  ·have hge : ¬ (q : Int) < b := by omega
   have hfin : readL (fun q c' => readT str.data.toList k q b c') (b - a) a b c₀ = .ok (pre, c) := by
    rw [un hgl, readL_end hlt]; simp [glue]
   have Hf := H_ hfin
   clear hfin hgl IH hY
   gi_wp2
   go_end0
   exact ⟨⟨_, rfl⟩, .inl ⟨⟨q, c, pre⟩, ⟨un Hf, hT1⟩, hj⟩⟩
end Go.Proofs.YtmenllnokgjdlaaGreatDoor
/-
 A list of trees that grows by append: what lies in memory. Conditions: none.
-/
namespace Go.Proofs.YtmenllnokgjdlaaGreatDoor
open Go.RowKit Tv
def trip (v : Value × Value × Value) : List Value := [v.1, v.2.1, v.2.2]
theorem trip_get : ∀ (vs : List (Value × Value × Value)) (i : Nat) (v : Value × Value × Value), vs[i]? = some v -> (vs.flatMap trip)[i * 3]? = some v.1 /\ (vs.flatMap trip)[i * 3 + 1]? = some v.2.1 /\ (vs.flatMap trip)[i * 3 + 2]? = some v.2.2
 | [], i, v, h => by simp at h
 | x :: xs, 0, v, h => by
  simp at h; subst h
  simp [List.flatMap_cons, trip]
 | x :: xs, i + 1, v, h => by
  have ih := trip_get xs i v (by simpa using h)
  have e : (x :: xs).flatMap trip = x.1 :: x.2.1 :: x.2.2 :: xs.flatMap trip := by simp [List.flatMap_cons, trip]
  rw [e, show (i + 1) * 3 = i * 3 + 3 by omega]
  exact ⟨by simpa using ih.1, by simpa using ih.2.1, by simpa using ih.2.2⟩
def Grow (k : Nat) (W : World) (base : Nat) (sl : Value) (pre : List (Tr k)) : Prop :=
 ∃ vs : List (Value × Value × Value), vs.length = pre.length /\ W.ownsRow base 28 3 sl pre.length (vs.flatMap trip) /\
  ∀ (i : Nat) v T, vs[i]? = some v -> pre[i]? = some T -> Node k W (fun b => base <= b /\ some b ≠ sl.ownBlock) (.agg #[v.1, v.2.1, v.2.2]) T
theorem Grow.nil (k : Nat) (W : World) (base : Nat) : Grow k W base (.slice none 0 0) [] := ⟨[], rfl, World.ownsRow_nil W base _ 3, fun i v T h => by simp at h⟩
theorem Grow.of {k : Nat} {W W' : World} {base : Nat} {sl : Value} {pre : List (Tr k)} (h : Grow k W base sl pre) (hb : ∀ b, base <= b -> b < W.heap.size -> W'.heap[b]? = W.heap[b]?) : Grow k W' base sl pre := by
 obtain ⟨vs, hl, ho, hN⟩ := h
 refine ⟨vs, hl, ⟨ho.1, ?_⟩, fun i v T hv hT => (hN i v T hv hT).of fun b hp hlt => hb b hp.1 hlt⟩
 rcases ho.2 with h | ⟨g, cap, cur, e, hg, hc, h⟩
 ·exact .inl h
 ·exact .inr ⟨g, cap, cur, e, hg, (hb g hg (Array.getElem?_eq_some_iff.1 hc).1).trans hc, h⟩
theorem Grow.lt {k : Nat} {W : World} {base : Nat} {sl : Value} {pre : List (Tr k)} (h : Grow k W base sl pre) {g : Nat} (hg : sl.ownBlock = some g) : base <= g /\ g < W.heap.size := by
 obtain ⟨vs, hl, ho, hN⟩ := h
 exact ho.lt g hg
theorem Grow.form {k : Nat} {W : World} {base : Nat} {sl : Value} {pre : List (Tr k)} (h : Grow k W base sl pre) : ∃ a cap, sl = .slice a pre.length cap := by
 obtain ⟨vs, hl, ho, hN⟩ := h
 rcases ho.2 with ⟨e, h0⟩ | ⟨g, cap, cur, e, _⟩
 ·exact ⟨none, 0, by rw [e, h0]⟩
 ·exact ⟨_, _, e⟩
theorem grow_snoc {k : Nat} {W W5 : World} {base lo g cap : Nat} {sl : Value} {pre : List (Tr k)} {vs : List (Value × Value × Value)} {c0 c1 c2 : Value} {T : Tr k} (hvl : vs.length = pre.length)
  (hN : ∀ (i : Nat) v T, vs[i]? = some v -> pre[i]? = some T -> Node k W (fun b => base <= b /\ some b ≠ sl.ownBlock) (.agg #[v.1, v.2.1, v.2.2]) T)
  (hown : W5.ownsRow base 28 3 (.slice (some ⟨g, 0, none⟩) (pre.length + 1) cap) (pre.length + 1) (vs.flatMap trip ++ [c0, c1, c2]))
  (hsame : ∀ b, base <= b -> b < W.heap.size -> some b ≠ sl.ownBlock -> b ≠ g -> W5.heap[b]? = W.heap[b]?) (hg : sl.ownBlock = some g \/ W.heap.size <= g)
  (hnew : Node k W (fun b => lo <= b) (.agg #[c0, c1, c2]) T) (hlo : base <= lo) (hol : ∀ g', sl.ownBlock = some g' -> g' < lo) :
  Grow k W5 base (.slice (some ⟨g, 0, none⟩) (pre.length + 1) cap) (pre ++ [T]) := by
 have hG : ∀ b, base <= b /\ some b ≠ sl.ownBlock -> b < W.heap.size -> b ≠ g := fun b hb hl e => by
  rcases hg with hg | hg
  ·exact hb.2 (by rw [hg, e])
  ·omega
 have step : ∀ {v : Value} {T : Tr k}, Node k W (fun b => base <= b /\ some b ≠ sl.ownBlock) v T -> Node k W5 (fun b => base <= b /\ some b ≠ (Value.slice (some ⟨g, 0, none⟩) (pre.length + 1) cap).ownBlock) v T := fun h =>
  (h.imp (q := fun b => (base <= b /\ some b ≠ sl.ownBlock) /\ b ≠ g) (fun b hb hl => ⟨hb, hG b hb hl⟩)).of (fun b hb hl => hsame b hb.1.1 hl hb.1.2 hb.2) |>.imp (fun b hb _ => ⟨hb.1.1, fun e => hb.2 (by simpa [Value.ownBlock] using e)⟩)
 have hnew' : Node k W (fun b => base <= b /\ some b ≠ sl.ownBlock) (.agg #[c0, c1, c2]) T := hnew.imp fun b hb _ => ⟨by omega, fun e => by have := hol b e.symm; omega⟩
 refine ⟨vs ++ [(c0, c1, c2)], by simp [hvl], by simpa [List.flatMap_append, trip] using hown, fun i v T' hv hT => ?_⟩
 by_cases hi : i < pre.length
 ·rw [List.getElem?_append_left (by omega)] at hv hT
  exact step (hN i v T' hv hT)
 ·have hiv : i = pre.length := by
   have := (List.getElem?_eq_some_iff.1 hT).1
   simp at this; omega
  subst hiv
  rw [List.getElem?_append_right (by omega)] at hv hT
  simp [hvl] at hv hT
  subst hv; subst hT
  exact step hnew'
theorem Grow.node {k : Nat} {W : World} {base : Nat} {sl : Value} {pre : List (Tr k)} (h : Grow k W base sl pre) (t : Int) (d : ByteArray) (hd : d.size <= 9000) (hp : pre.length <= 4000) :
  Node (k + 1) W (fun b => base <= b) (.agg #[.int .i64 t, .string d, sl]) (mk t d pre) := by
 obtain ⟨vs, hl, ho, hN⟩ := h
 rcases ho.2 with ⟨rfl, h0⟩ | ⟨g, cap, cur, rfl, hg, hc, _⟩
 ·exact ⟨none, 0, by simp [h0], hd, hp, .inl (List.length_eq_zero_iff.1 h0)⟩
 ·refine ⟨_, cap, rfl, hd, hp, .inr ⟨g, 0, rfl, hg, fun i T hT => ?_⟩⟩
  rw [kids_mk] at hT
  have hi := (List.getElem?_eq_some_iff.1 hT).1
  have hv : vs[i]? = some vs[i] := List.getElem?_eq_getElem (by omega)
  obtain ⟨t0, t1, t2⟩ := trip_get vs i _ hv
  have hcl : ∀ (j : Nat) u, (vs.flatMap trip)[j]? = some u -> W.cell? ⟨g, 0 + j, none⟩ = some u := fun j u hj => by
   have := ho.cells (g := g) rfl j u hj
   rw [show (⟨g, 0, none⟩ : Addr).add j = ⟨g, 0 + j, none⟩ from by unfold Addr.add; split <;> simp_all] at this
   exact this
  refine ⟨_, _, _, ?_, ?_, ?_, (hN i _ T hv hT).imp fun b hb _ => hb.1⟩
  ·exact hcl _ _ t0
  ·exact hcl _ _ t1
  ·exact hcl _ _ t2
end Go.Proofs.YtmenllnokgjdlaaGreatDoor
/-
 What reader.tree of package tlv does at a tree with trees in it. Conditions: the package-level variables hold what the program's text lays; what it does at the next depth.
-/
namespace Go.Proofs.YtmenllnokgjdlaaGreatDoor
open Go.RowKit Tv T Go.Shelf
attribute [local go_sem] Oper.semAt_some
theorem infoNode : (Tryz.prog.info? 28).map (fun i => (i.zero, i.size, i.bytes)) = some (some (.agg #[.int .i64 0, .string ⟨#[]⟩, .slice none 0 0]), 3, 48) := by kernel_rfl
abbrev six (w : World) (t a b R : Nat) (d : Int) : World := (((((w.alloc (.cells #[.int .i64 t, .int .i64 a, .int .i64 b] 202)).alloc (.cells #[.int .i64 t, .string ⟨#[]⟩, .slice none 0 0] 28)).alloc (.cells #[.pointer (some ⟨R, 0, none⟩)] 200)).alloc (.cells #[.int .i64 a] 3)).alloc (.cells #[.int .i64 b] 3)).alloc (.cells #[.int .i64 d] 3)
theorem six_size (w : World) (t a b R : Nat) (d : Int) : (six w t a b R d).heap.size = w.heap.size + 6 := by simp
theorem six_below (w : World) (t a b R : Nat) (d : Int) : Below w.heap.size w (six w t a b R d) := ((((((Below.refl _ _).alloc (Nat.le_refl _) _).alloc (by simp) _).alloc (by simp; omega) _).alloc (by simp; omega) _).alloc (by simp; omega) _).alloc (by simp; omega) _
theorem six_at (w : World) (t a b R : Nat) (d : Int) : (six w t a b R d).heap[w.heap.size]? = some (.cells #[.int .i64 t, .int .i64 a, .int .i64 b] 202 (0, 0)) /\ (six w t a b R d).heap[w.heap.size + 1]? = some (.cells #[.int .i64 t, .string ⟨#[]⟩, .slice none 0 0] 28 (0, 0)) /\
  (six w t a b R d).cell? ⟨w.heap.size + 2, 0, none⟩ = some (.pointer (some ⟨R, 0, none⟩)) /\ (six w t a b R d).cell? ⟨w.heap.size + 3, 0, none⟩ = some (.int .i64 a) /\ (six w t a b R d).cell? ⟨w.heap.size + 4, 0, none⟩ = some (.int .i64 b) /\ (six w t a b R d).cell? ⟨w.heap.size + 5, 0, none⟩ = some (.int .i64 d) := by
 have h : (six w t a b R d).heap = (((((w.heap.push (.cells #[.int .i64 t, .int .i64 a, .int .i64 b] 202)).push (.cells #[.int .i64 t, .string ⟨#[]⟩, .slice none 0 0] 28)).push (.cells #[.pointer (some ⟨R, 0, none⟩)] 200)).push (.cells #[.int .i64 a] 3)).push (.cells #[.int .i64 b] 3)).push (.cells #[.int .i64 d] 3) := rfl
 refine ⟨?_, ?_, ?_, ?_, ?_, ?_⟩
 ·rw [Below.heap_alloc _ _ _ (by simp; omega), Below.heap_alloc _ _ _ (by simp; omega), Below.heap_alloc _ _ _ (by simp; omega), Below.heap_alloc _ _ _ (by simp; omega), Below.heap_alloc _ _ _ (by simp)]; exact World.alloc_heap_new w _
 ·rw [h]; simp [Array.getElem_push]
 ·unfold World.cell?; rw [h]; simp [Array.getElem_push]
 ·unfold World.cell?; rw [h]; simp [Array.getElem_push]
 ·unfold World.cell?; rw [h]; simp [Array.getElem_push]
 ·unfold World.cell?; rw [h]; simp [Array.getElem_push]
abbrev actT (n n1 R : Nat) (p stop deep : Int) (t a b : Nat) (x14 x15 x59 x60 y73 y74 y75 : Value) (ds : List Deferred) : Act :=
 { defers := ds, tmps := #[.pointer (some ⟨R, 0, none⟩), .int .i64 p, .int .i64 stop, .int .i64 deep, undef, undef, undef, undef, .pointer (some ⟨n, 0, none⟩), .pointer (some ⟨n + 1, 0, none⟩), .pointer (some ⟨n + 1 + 1, 0, none⟩), .pointer (some ⟨n1, 0, none⟩), .nilIface, .pointer (some ⟨n1 + 1, 0, none⟩), x14, x15,
 .tuple #[headV t a b, .nilIface], .pointer (some ⟨R, 0, none⟩), .int .i64 p, .int .i64 stop, .int .i64 deep, .tuple #[headV t a b, .nilIface], headV t a b, .nilIface, .nilIface, .bool false, undef, undef, undef, undef, undef, .pointer (some ⟨n1, 0, none⟩), .int .i64 t, .agg #[.int .i64 t, .string ⟨#[]⟩, .slice none 0 0], .pointer (some ⟨n1, 0, none⟩), .int .i64 t, .bool true, .bool false,
 undef, undef, undef, undef, undef, undef, undef, undef, undef, undef, undef, undef, undef, .pointer (some ⟨R, 0, none⟩), .pointer (some ⟨n1, 1, none⟩), .int .i64 a, .pointer (some ⟨n1, 2, none⟩), .int .i64 b, .int .i64 deep, .int .i64 (deep + 1),
 .func (.func 155) #[] #[.pointer (some ⟨n1 + 1 + 1 + 1, 0, none⟩), .pointer (some ⟨n1 + 1 + 1 + 1 + 1, 0, none⟩), .pointer (some ⟨n1 + 1 + 1, 0, none⟩), .pointer (some ⟨n1 + 1 + 1 + 1 + 1 + 1, 0, none⟩)], x59, x60,
 undef, undef, undef, undef, undef, undef, undef, undef, undef, undef, undef, undef, y73, y74, y75] }
structure InvT (k : Nat) (w : World) (R n1 t a b : Nat) (pre : List (Tr (k + 1))) (W : World) : Prop where
 hb : W.heap[n1]? = some (.cells #[.int .i64 t, .int .i64 a, .int .i64 b] 202 (0, 0))
 nb : ∃ sl, W.heap[n1 + 1]? = some (.cells #[.int .i64 t, .string ⟨#[]⟩, sl] 28 (0, 0)) /\ Grow (k + 1) W (n1 + 8) sl pre
 ans : Ans w.heap.size W
 but : But R w W
 sz : n1 + 6 <= W.heap.size
theorem InvT.ext {k : Nat} {w : World} {R n1 t a b : Nat} {pre : List (Tr (k + 1))} {A B : World} (h : InvT k w R n1 t a b pre A) (hR : R < w.heap.size) (hn : w.heap.size + 1 + 1 < n1) (l : Nat) (hl : l = R \/ l = n1 + 7) (hb : But l A B) : InvT k w R n1 t a b pre B := by
 have e : ∀ x, x < A.heap.size -> x ≠ R -> x ≠ n1 + 7 -> B.heap[x]? = A.heap[x]? := fun x hx h1 h2 => hb.block x hx (by rcases hl with rfl | rfl <;> assumption)
 have hz := h.sz
 obtain ⟨sl, h1, h2⟩ := h.nb
 refine ⟨(e _ (by omega) (by omega) (by omega)).trans h.hb, ⟨sl, (e _ (by omega) (by omega) (by omega)).trans h1, h2.of fun b hb1 hb2 => e b hb2 (by omega) (by omega)⟩, ?_, ?_, Nat.le_trans hz hb.size⟩
 ·exact ⟨(e _ (by omega) (by omega) (by omega)).trans h.ans.b0, (e _ (by omega) (by omega) (by omega)).trans h.ans.b1, (e _ (by omega) (by omega) (by omega)).trans h.ans.b2⟩
 ·have hsz := h.but.size
  exact ⟨hb.os.trans h.but.os, hb.tape.trans h.but.tape, hb.output.trans h.but.output, Nat.le_trans hsz hb.size, fun x hx hn' => (e x (by omega) hn' (by omega)).trans (h.but.block x hx hn')⟩
structure OutT (w : World) (R : Nat) (v : Value) (W : World) : Prop where
 b0 : W.heap[w.heap.size]? = some (.cells #[.int .i64 0, .string ⟨#[]⟩, .slice none 0 0] 28 (0, 0))
 b1 : W.heap[w.heap.size + 1]? = some (.cells #[.int .i64 0] 3 (0, 0))
 b2 : W.heap[w.heap.size + 1 + 1]? = some (.cells #[v] 52 (0, 0))
 but : But R w W
theorem OutT.ext {w : World} {R n1 : Nat} {v : Value} {A B : World} (h : OutT w R v A) (hn : w.heap.size + 1 + 1 < n1) (hb : But (n1 + 7) A B) : OutT w R v B := by
 have hsz := h.but.size
 have e : ∀ x, x < A.heap.size -> x < n1 -> B.heap[x]? = A.heap[x]? := fun x hx h1 => hb.block x hx (by omega)
 refine ⟨(e _ (Array.getElem?_eq_some_iff.1 h.b0).1 (by omega)).trans h.b0, (e _ (Array.getElem?_eq_some_iff.1 h.b1).1 (by omega)).trans h.b1, (e _ (Array.getElem?_eq_some_iff.1 h.b2).1 (by omega)).trans h.b2, ?_⟩
 exact ⟨hb.os.trans h.but.os, hb.tape.trans h.but.tape, hb.output.trans h.but.output, Nat.le_trans hsz hb.size, fun x hx hn' => (e x (by omega) (by omega)).trans (h.but.block x hx hn')⟩
def InnerPost (R : Nat) (s : ByteArray) (A : Ads) (w : World) (k t b : Nat) (r : Except Int (List (Tr (k + 1)) × Nat)) (e : Ending) (w' : World) : Prop := But R w w' /\ match r with
   | .error E => ∃ v, e = .returned (.tuple #[zeroN, .int .i64 0, v]) /\ IsErr A v E
   | .ok (ks, c') => ∃ v, e = .returned (.tuple #[v, .int .i64 b, .nilIface]) /\ Node (k + 1 + 1) w' (fun b => w.heap.size <= b) v (mk t ⟨#[]⟩ ks) /\ TRd R s c' w'
theorem stored5 {W : World} {n : Nat} (h : Ans n W) (x0 x1 x2 x3 x4 : Value) :
  (((((W.setCell ⟨n, 0, none⟩ x0).setCell ⟨n, 1, none⟩ x1).setCell ⟨n, 2, none⟩ x2).setCell ⟨n + 1, 0, none⟩ x3).setCell ⟨n + 1 + 1, 0, none⟩ x4).heap[n]? = some (.cells #[x0, x1, x2] 28 (0, 0)) /\
  (((((W.setCell ⟨n, 0, none⟩ x0).setCell ⟨n, 1, none⟩ x1).setCell ⟨n, 2, none⟩ x2).setCell ⟨n + 1, 0, none⟩ x3).setCell ⟨n + 1 + 1, 0, none⟩ x4).heap[n + 1]? = some (.cells #[x3] 3 (0, 0)) /\
  (((((W.setCell ⟨n, 0, none⟩ x0).setCell ⟨n, 1, none⟩ x1).setCell ⟨n, 2, none⟩ x2).setCell ⟨n + 1, 0, none⟩ x3).setCell ⟨n + 1 + 1, 0, none⟩ x4).heap[n + 1 + 1]? = some (.cells #[x4] 52 (0, 0)) := by
 refine ⟨?_, ?_, ?_⟩
 ·rw [Below.heap_setCell _ _ _ _ (by show n ≠ n + 1 + 1; omega), Below.heap_setCell _ _ _ _ (by show n ≠ n + 1; omega)]
  exact heap_setCell_same _ n 2 _ _ _ (heap_setCell_same _ n 1 _ _ _ (heap_setCell_same _ n 0 _ _ _ h.b0))
 ·rw [Below.heap_setCell _ _ _ _ (by show n + 1 ≠ n + 1 + 1; omega)]
  refine heap_setCell_same _ (n + 1) 0 #[.int .i64 0] _ _ ?_
  rw [Below.heap_setCell _ _ _ _ (by show n + 1 ≠ n; omega), Below.heap_setCell _ _ _ _ (by show n + 1 ≠ n; omega), Below.heap_setCell _ _ _ _ (by show n + 1 ≠ n; omega)]
  exact h.b1
 ·refine heap_setCell_same _ (n + 1 + 1) 0 #[.nilIface] _ _ ?_
  rw [Below.heap_setCell _ _ _ _ (by show n + 1 + 1 ≠ n + 1; omega), Below.heap_setCell _ _ _ _ (by show n + 1 + 1 ≠ n; omega), Below.heap_setCell _ _ _ _ (by show n + 1 + 1 ≠ n; omega), Below.heap_setCell _ _ _ _ (by show n + 1 + 1 ≠ n; omega)]
  exact h.b2
theorem os_setCell (w : World) (a : Addr) (v : Value) : (w.setCell a v).os = w.os := rfl
theorem tape_setCell (w : World) (a : Addr) (v : Value) : (w.setCell a v).tape = w.tape := rfl
theorem output_setCell (w : World) (a : Addr) (v : Value) : (w.setCell a v).output = w.output := rfl
theorem stored5' {W V : World} {n : Nat} (h : Ans n W) {x0 x1 x2 x3 x4 : Value} (hV : V = (((((W.setCell ⟨n, 0, none⟩ x0).setCell ⟨n, 1, none⟩ x1).setCell ⟨n, 2, none⟩ x2).setCell ⟨n + 1, 0, none⟩ x3).setCell ⟨n + 1 + 1, 0, none⟩ x4).drew) :
  V.heap[n]? = some (.cells #[x0, x1, x2] 28 (0, 0)) /\ V.heap[n + 1]? = some (.cells #[x3] 3 (0, 0)) /\ V.heap[n + 1 + 1]? = some (.cells #[x4] 52 (0, 0)) /\
  (∀ x, x ≠ n -> x ≠ n + 1 -> x ≠ n + 1 + 1 -> V.heap[x]? = W.heap[x]?) /\ (V.os = W.os /\ V.tape = W.tape /\ V.output = W.output) /\ V.heap.size = W.heap.size := by
 obtain ⟨s0, s1, s2⟩ := stored5 h x0 x1 x2 x3 x4
 have f5 : ∀ x, x ≠ n -> x ≠ n + 1 -> x ≠ n + 1 + 1 -> (((((W.setCell ⟨n, 0, none⟩ x0).setCell ⟨n, 1, none⟩ x1).setCell ⟨n, 2, none⟩ x2).setCell ⟨n + 1, 0, none⟩ x3).setCell ⟨n + 1 + 1, 0, none⟩ x4).heap[x]? = W.heap[x]? := fun x h2 h3 h4 => by
  rw [Below.heap_setCell _ _ _ _ h4, Below.heap_setCell _ _ _ _ h3, Below.heap_setCell _ _ _ _ h2, Below.heap_setCell _ _ _ _ h2, Below.heap_setCell _ _ _ _ h2]
 have z5 : (((((W.setCell ⟨n, 0, none⟩ x0).setCell ⟨n, 1, none⟩ x1).setCell ⟨n, 2, none⟩ x2).setCell ⟨n + 1, 0, none⟩ x3).setCell ⟨n + 1 + 1, 0, none⟩ x4).heap.size = W.heap.size := by
  rw [size_setCell, size_setCell, size_setCell, size_setCell, size_setCell]
 have o5 : (((((W.setCell ⟨n, 0, none⟩ x0).setCell ⟨n, 1, none⟩ x1).setCell ⟨n, 2, none⟩ x2).setCell ⟨n + 1, 0, none⟩ x3).setCell ⟨n + 1 + 1, 0, none⟩ x4).os = W.os /\ (((((W.setCell ⟨n, 0, none⟩ x0).setCell ⟨n, 1, none⟩ x1).setCell ⟨n, 2, none⟩ x2).setCell ⟨n + 1, 0, none⟩ x3).setCell ⟨n + 1 + 1, 0, none⟩ x4).tape = W.tape /\ (((((W.setCell ⟨n, 0, none⟩ x0).setCell ⟨n, 1, none⟩ x1).setCell ⟨n, 2, none⟩ x2).setCell ⟨n + 1, 0, none⟩ x3).setCell ⟨n + 1 + 1, 0, none⟩ x4).output = W.output := by
  refine ⟨?_, ?_, ?_⟩
  ·rw [os_setCell, os_setCell, os_setCell, os_setCell, os_setCell]
  ·rw [tape_setCell, tape_setCell, tape_setCell, tape_setCell, tape_setCell]
  ·rw [output_setCell, output_setCell, output_setCell, output_setCell, output_setCell]
 generalize (((((W.setCell ⟨n, 0, none⟩ x0).setCell ⟨n, 1, none⟩ x1).setCell ⟨n, 2, none⟩ x2).setCell ⟨n + 1, 0, none⟩ x3).setCell ⟨n + 1 + 1, 0, none⟩ x4) = X at *
 subst hV
 exact ⟨s0, s1, s2, f5, o5, z5⟩
theorem doneT {k R n1 t b : Nat} {s : ByteArray} {A : Ads} {w W V V' : World} {pre : List (Tr (k + 1))} {c : Nat} {a : Nat} {r : Except Int (List (Tr (k + 1)) × Nat)} {sla : Option Addr} {slc : Nat} (hR : R < w.heap.size) (hn1 : w.heap.size + 1 + 1 < n1) (hI : InvT k w R n1 t a b pre W) (hT : TRd R s c W) (hgr : Grow (k + 1) W (n1 + 8) (.slice sla pre.length slc) pre) (hp : pre.length <= 4000) (hok : r = .ok (pre, c))
  (hV : V = (((((W.setCell ⟨w.heap.size, 0, none⟩ (.int .i64 t)).setCell ⟨w.heap.size, 1, none⟩ (.string ⟨#[]⟩)).setCell ⟨w.heap.size, 2, none⟩ (.slice sla pre.length slc)).setCell ⟨w.heap.size + 1, 0, none⟩ (.int .i64 b)).setCell ⟨w.heap.size + 1 + 1, 0, none⟩ .nilIface).drew) (hV' : V' = V.putObj (n1 + 6) (.deferred none)) :
  (V'.cell? ⟨w.heap.size, 0, none⟩ = some (.int .i64 t) /\ V'.cell? ⟨w.heap.size, 1, none⟩ = some (.string ⟨#[]⟩) /\ V'.cell? ⟨w.heap.size, 2, none⟩ = some (.slice sla pre.length slc) /\ V'.cell? ⟨w.heap.size + 1, 0, none⟩ = some (.int .i64 b) /\ V'.cell? ⟨w.heap.size + 1 + 1, 0, none⟩ = some .nilIface) /\
  InnerPost R s A w k t b r (.returned (.tuple #[.agg #[.int .i64 t, .string ⟨#[]⟩, .slice sla pre.length slc], .int .i64 b, .nilIface])) V' := by
 obtain ⟨s0, s1, s2, f5, ⟨o1, o2, o3⟩, z5⟩ := stored5' hI.ans hV
 clear hV
 have e6 : ∀ x, x ≠ n1 + 6 -> V'.heap[x]? = V.heap[x]? := fun x hx => by rw [hV']; exact World.putObj_heap_other hx
 have z6 : V'.heap.size = V.heap.size := by rw [hV']; exact World.putObj_size
 have p1 : V'.os = V.os := by rw [hV']; rfl
 have p2 : V'.tape = V.tape := by rw [hV']; rfl
 have p3 : V'.output = V.output := by rw [hV']; rfl
 clear hV'
 have f6 : ∀ x, x ≠ n1 + 6 -> x ≠ w.heap.size -> x ≠ w.heap.size + 1 -> x ≠ w.heap.size + 1 + 1 -> V'.heap[x]? = W.heap[x]? := fun x h1 h2 h3 h4 => (e6 x h1).trans (f5 x h2 h3 h4)
 obtain ⟨u0, u1, u2⟩ := (cells3 ((e6 _ (by omega)).trans s0)).1
 have hsz := hI.but.size
 refine ⟨⟨u0, u1, u2, by simp [World.cell?, (e6 _ (show w.heap.size + 1 ≠ n1 + 6 by omega)).trans s1], by simp [World.cell?, (e6 _ (show w.heap.size + 1 + 1 ≠ n1 + 6 by omega)).trans s2]⟩, ⟨p1.trans (o1.trans hI.but.os), p2.trans (o2.trans hI.but.tape), p3.trans (o3.trans hI.but.output), by omega, fun x hx hn => (f6 x (by omega) (by omega) (by omega) (by omega)).trans (hI.but.block x hx hn)⟩, ?_⟩
 rw [hok]
 have HG : Grow (k + 1) V' (n1 + 8) (.slice sla pre.length slc) pre := hgr.of (fun x hx _ => f6 x (by omega) (by omega) (by omega) (by omega))
 have HT : TRd R s c V' := hT.of (w' := V') (f6 R (by omega) (by omega) (by omega) (by omega))
 exact ⟨_, rfl, (HG.node t ⟨#[]⟩ (Nat.zero_le _) hp).imp fun b hb _ => by omega, HT⟩
theorem stopT {k R n1 t b : Nat} {s : ByteArray} {A : Ads} {w W V' : World} {v : Value} {E : Int} {r : Except Int (List (Tr (k + 1)) × Nat)} (hn1 : w.heap.size + 1 + 1 < n1) (hO : OutT w R v W) (hE : IsErr A v E) (hr : r = .error E) (hV' : V' = W.putObj (n1 + 6) (.deferred none)) :
  (V'.cell? ⟨w.heap.size, 0, none⟩ = some (.int .i64 0) /\ V'.cell? ⟨w.heap.size, 1, none⟩ = some (.string ⟨#[]⟩) /\ V'.cell? ⟨w.heap.size, 2, none⟩ = some (.slice none 0 0) /\ V'.cell? ⟨w.heap.size + 1, 0, none⟩ = some (.int .i64 0) /\ V'.cell? ⟨w.heap.size + 1 + 1, 0, none⟩ = some v) /\
  InnerPost R s A w k t b r (.returned (.tuple #[zeroN, .int .i64 0, v])) V' := by
 have e6 : ∀ x, x ≠ n1 + 6 -> V'.heap[x]? = W.heap[x]? := fun x hx => by rw [hV']; exact World.putObj_heap_other hx
 have z6 : V'.heap.size = W.heap.size := by rw [hV']; exact World.putObj_size
 have p1 : V'.os = W.os := by rw [hV']; rfl
 have p2 : V'.tape = W.tape := by rw [hV']; rfl
 have p3 : V'.output = W.output := by rw [hV']; rfl
 clear hV'
 obtain ⟨u0, u1, u2⟩ := (cells3 ((e6 _ (by omega)).trans hO.b0)).1
 have hsz := hO.but.size
 refine ⟨⟨u0, u1, u2, by simp [World.cell?, (e6 _ (show w.heap.size + 1 ≠ n1 + 6 by omega)).trans hO.b1], by simp [World.cell?, (e6 _ (show w.heap.size + 1 + 1 ≠ n1 + 6 by omega)).trans hO.b2]⟩, ⟨p1.trans hO.but.os, p2.trans hO.but.tape, p3.trans hO.but.output, by omega, fun x hx hn => (e6 x (by omega)).trans (hO.but.block x hx hn)⟩, ?_⟩
 rw [hr]
 exact ⟨_, rfl, hE⟩
theorem errT {k R n1 t a b : Nat} {w W : World} {pre : List (Tr (k + 1))} {v : Value} (hn1 : w.heap.size + 1 + 1 < n1) (hI : InvT k w R n1 t a b pre W) :
  Two (n1 + 6) (n1 + 6 + 1) W (((((W.setCell ⟨w.heap.size, 0, none⟩ (.int .i64 0)).setCell ⟨w.heap.size, 1, none⟩ (.string ⟨#[]⟩)).setCell ⟨w.heap.size, 2, none⟩ (.slice none 0 0)).setCell ⟨w.heap.size + 1, 0, none⟩ (.int .i64 0)).setCell ⟨w.heap.size + 1 + 1, 0, none⟩ v) /\
  OutT w R v (((((W.setCell ⟨w.heap.size, 0, none⟩ (.int .i64 0)).setCell ⟨w.heap.size, 1, none⟩ (.string ⟨#[]⟩)).setCell ⟨w.heap.size, 2, none⟩ (.slice none 0 0)).setCell ⟨w.heap.size + 1, 0, none⟩ (.int .i64 0)).setCell ⟨w.heap.size + 1 + 1, 0, none⟩ v) := by
 obtain ⟨s0, s1, s2, f5, _, _⟩ := stored5' (V := (((((W.setCell ⟨w.heap.size, 0, none⟩ (.int .i64 0)).setCell ⟨w.heap.size, 1, none⟩ (.string ⟨#[]⟩)).setCell ⟨w.heap.size, 2, none⟩ (.slice none 0 0)).setCell ⟨w.heap.size + 1, 0, none⟩ (.int .i64 0)).setCell ⟨w.heap.size + 1 + 1, 0, none⟩ v).drew) hI.ans rfl
 have hb : But R w (((((W.setCell ⟨w.heap.size, 0, none⟩ (.int .i64 0)).setCell ⟨w.heap.size, 1, none⟩ (.string ⟨#[]⟩)).setCell ⟨w.heap.size, 2, none⟩ (.slice none 0 0)).setCell ⟨w.heap.size + 1, 0, none⟩ (.int .i64 0)).setCell ⟨w.heap.size + 1 + 1, 0, none⟩ v) :=
  ((((hI.but.setNew (by omega) _ _).setNew (by omega) _ _).setNew (by omega) _ _).setNew (by omega) _ _).setNew (by omega) _ _
 generalize (((((W.setCell ⟨w.heap.size, 0, none⟩ (.int .i64 0)).setCell ⟨w.heap.size, 1, none⟩ (.string ⟨#[]⟩)).setCell ⟨w.heap.size, 2, none⟩ (.slice none 0 0)).setCell ⟨w.heap.size + 1, 0, none⟩ (.int .i64 0)).setCell ⟨w.heap.size + 1 + 1, 0, none⟩ v) = V at *
 exact ⟨⟨f5 _ (by omega) (by omega) (by omega), f5 _ (by omega) (by omega) (by omega)⟩, ⟨s0, s1, s2, hb⟩⟩
theorem tellT {k R n1 t a b lo g cap : Nat} {w W V w1 : World} {pre : List (Tr (k + 1))} {T : Tr (k + 1)} {sl c0 c1 c2 z0 z1 z2 : Value} {tz : TypeId} {vs : List (Value × Value × Value)} (hn1 : w.heap.size + 1 + 1 < n1) (hI : InvT k w R n1 t a b pre W) (hsz : n1 + 8 <= W.heap.size)
  (hvl : vs.length = pre.length) (hNs : ∀ (i : Nat) v T, vs[i]? = some v -> pre[i]? = some T -> Node (k + 1) W (fun b => n1 + 8 <= b /\ some b ≠ sl.ownBlock) (.agg #[v.1, v.2.1, v.2.2]) T)
  (ho : W.ownsRow (n1 + 8) 28 3 sl pre.length (vs.flatMap trip))
  (hN : Node (k + 1) W (fun b => lo <= b) (.agg #[c0, c1, c2]) T) (hlo : n1 + 8 <= lo) (hol : ∀ g', sl.ownBlock = some g' -> g' < lo)
  (hgrow : (W.alloc (.cells #[z0, z1, z2] tz)).drew.grownBy w1 sl.ownBlock) (hat : sl.ownBlock = some g \/ g = W.heap.size + 1)
  (hVo : V.ownsRow (n1 + 8) 28 3 (.slice (some ⟨g, 0, none⟩) (pre.length + 1) cap) (pre.length + 1) (vs.flatMap trip ++ [c0, c1, c2]))
  (hVn : V.heap[n1 + 1]? = some (.cells #[.int .i64 t, .string ⟨#[]⟩, .slice (some ⟨g, 0, none⟩) (pre.length + 1) cap] 28 (0, 0)))
  (hVx : ∀ x, x ≠ g -> x ≠ n1 + 1 -> V.heap[x]? = w1.heap[x]?) (hVs : V.heap.size = w1.heap.size) (hVe : V.os = w1.os /\ V.tape = w1.tape /\ V.output = w1.output) :
  Two (n1 + 6) (n1 + 6 + 1) W V /\ Kept (n1 + 6) (n1 + 1) W V /\ InvT k w R n1 t a b (pre ++ [T]) V := by
 have hz1 : W.heap.size + 1 <= w1.heap.size := by have := hgrow.size; simp at this; omega
 have hown : ∀ g', sl.ownBlock = some g' -> n1 + 8 <= g' := fun g' h => (ho.lt g' h).1
 have hg8 : n1 + 8 <= g := by rcases hat with h | h; exact hown g h; omega
 have e : ∀ x, x < W.heap.size -> x ≠ n1 + 1 -> some x ≠ sl.ownBlock -> x ≠ g -> V.heap[x]? = W.heap[x]? := fun x hx h1 h2 h3 =>
  (hVx x h3 h1).trans ((hgrow.block x (by show x < (W.alloc _).heap.size; simp; omega) h2).trans (Below.heap_alloc W _ x hx))
 have e' : ∀ x, x < n1 + 8 -> x ≠ n1 + 1 -> V.heap[x]? = W.heap[x]? := fun x hx h1 => e x (by omega) h1 (fun h => by have := hown x h.symm; omega) (by omega)
 refine ⟨⟨e' _ (by omega) (by omega), e' _ (by omega) (by omega)⟩, ⟨by omega, fun x hx h1 _ => e' x (by omega) h1⟩, ⟨(e' _ (by omega) (by omega)).trans hI.hb, ⟨_, hVn, ?_⟩, ?_, ?_, by omega⟩⟩
 ·have := grow_snoc (g := g) (cap := cap) (lo := lo) (W5 := V) hvl hNs hVo (fun x h1 h2 h3 h4 => e x h2 (by omega) h3 h4) (by rcases hat with h | h; exact .inl h; right; omega) hN hlo hol
  simpa using this
 ·exact ⟨(e' _ (by omega) (by omega)).trans hI.ans.b0, (e' _ (by omega) (by omega)).trans hI.ans.b1, (e' _ (by omega) (by omega)).trans hI.ans.b2⟩
 ·have hs1 := hI.but.size
  exact ⟨hVe.1.trans (hgrow.os.trans hI.but.os), hVe.2.1.trans (hgrow.tape.trans hI.but.tape), hVe.2.2.trans (hgrow.output.trans hI.but.output), by omega, fun x hx hn => (e' x (by omega) (by omega)).trans (hI.but.block x hx hn)⟩
theorem lastCells {w1 : World} {base g n cap : Nat} {xs : List Value} {z0 z1 z2 : Value} (h : w1.ownsRow base 28 3 (.slice (some ⟨g, 0, none⟩) (n + 1) cap) (n + 1) (xs ++ [z0, z1, z2])) :
  (w1.cell? ⟨g, n * 3, none⟩ = some z0 /\ w1.cell? ⟨g, n * 3 + 1, none⟩ = some z1 /\ w1.cell? ⟨g, n * 3 + 2, none⟩ = some z2) /\ w1.frozen? ⟨g, n * 3, none⟩ = false /\ w1.frozen? ⟨g, n * 3 + 1, none⟩ = false /\ w1.frozen? ⟨g, n * 3 + 2, none⟩ = false := by
 have hl : xs.length = n * 3 := by have := h.1; simp at this; omega
 have hc : ∀ (j : Nat) u, (xs ++ [z0, z1, z2])[j]? = some u -> w1.cell? ⟨g, j, none⟩ = some u := fun j u hj => by
  have := h.cells (g := g) rfl j u hj
  rw [show (⟨g, 0, none⟩ : Addr).add j = ⟨g, j, none⟩ from by unfold Addr.add; split <;> simp_all] at this
  exact this
 refine ⟨⟨hc _ _ ?_, hc _ _ ?_, hc _ _ ?_⟩, h.frozenAt _, h.frozenAt _, h.frozenAt _⟩
 ·rw [List.getElem?_append_right (by omega)]; simp [hl]
 ·rw [List.getElem?_append_right (by omega)]; simp [hl]
 ·rw [List.getElem?_append_right (by omega)]; simp [hl]
theorem store3 {w1 : World} {base g n cap : Nat} {xs : List Value} {z0 z1 z2 : Value} (h : w1.ownsRow base 28 3 (.slice (some ⟨g, 0, none⟩) (n + 1) cap) (n + 1) (xs ++ [z0, z1, z2])) (c0 c1 c2 : Value) :
  (((w1.setCell ⟨g, n * 3, none⟩ c0).setCell ⟨g, n * 3 + 1, none⟩ c1).setCell ⟨g, n * 3 + 2, none⟩ c2).ownsRow base 28 3 (.slice (some ⟨g, 0, none⟩) (n + 1) cap) (n + 1) (xs ++ [c0, c1, c2]) /\
  (∀ x, x ≠ g -> (((w1.setCell ⟨g, n * 3, none⟩ c0).setCell ⟨g, n * 3 + 1, none⟩ c1).setCell ⟨g, n * 3 + 2, none⟩ c2).heap[x]? = w1.heap[x]?) /\ (((w1.setCell ⟨g, n * 3, none⟩ c0).setCell ⟨g, n * 3 + 1, none⟩ c1).setCell ⟨g, n * 3 + 2, none⟩ c2).heap.size = w1.heap.size /\
  ((((w1.setCell ⟨g, n * 3, none⟩ c0).setCell ⟨g, n * 3 + 1, none⟩ c1).setCell ⟨g, n * 3 + 2, none⟩ c2).os = w1.os /\ (((w1.setCell ⟨g, n * 3, none⟩ c0).setCell ⟨g, n * 3 + 1, none⟩ c1).setCell ⟨g, n * 3 + 2, none⟩ c2).tape = w1.tape /\ (((w1.setCell ⟨g, n * 3, none⟩ c0).setCell ⟨g, n * 3 + 1, none⟩ c1).setCell ⟨g, n * 3 + 2, none⟩ c2).output = w1.output) := by
 have hl : xs.length = n * 3 := by have := h.1; simp at this; omega
 have h3 := (((h.stored (n * 3) c0).1.stored (n * 3 + 1) c1).1.stored (n * 3 + 2) c2).1
 have e : (((xs ++ [z0, z1, z2]).set (n * 3) c0).set (n * 3 + 1) c1).set (n * 3 + 2) c2 = xs ++ [c0, c1, c2] := by
  rw [List.set_append_right _ _ (by omega), List.set_append_right _ _ (by omega), List.set_append_right _ _ (by omega), hl]
  simp
 rw [e] at h3
 refine ⟨h3, fun x hx => ?_, ?_, ?_, ?_, ?_⟩
 ·rw [Below.heap_setCell _ _ _ _ hx, Below.heap_setCell _ _ _ _ hx, Below.heap_setCell _ _ _ _ hx]
 ·rw [size_setCell, size_setCell, size_setCell]
 ·rw [os_setCell, os_setCell, os_setCell]
 ·rw [tape_setCell, tape_setCell, tape_setCell]
 ·rw [output_setCell, output_setCell, output_setCell]
theorem ownsForm {W : World} {base : Nat} {e : TypeId} {size : Nat} {ad : Addr} {len cap n : Nat} {xs : List Value} (ho : W.ownsRow base e size (.slice (some ad) len cap) n xs) : ∃ g c, (Value.slice (some ad) len cap) = .slice (some ⟨g, 0, none⟩) n c := by
 rcases ho.2 with ⟨h, _⟩ | ⟨g, c, cur, h, _⟩
 ·cases h
 ·exact ⟨g, c, h⟩
theorem keptNb {W w1 : World} {n1 : Nat} {sl z0 z1 z2 : Value} {tz : TypeId} {o : Obj} {n : Nat} {xs : List Value} (ho : W.ownsRow (n1 + 8) 28 3 sl n xs) (hsz : n1 + 8 <= W.heap.size) (hgrow : (W.alloc (.cells #[z0, z1, z2] tz)).drew.grownBy w1 sl.ownBlock) (h : W.heap[n1 + 1]? = some o) : w1.heap[n1 + 1]? = some o :=
 (hgrow.block _ (by show n1 + 1 < (W.alloc _).heap.size; simp; omega) (fun h => by have := (ho.lt _ h.symm).1; omega)).trans ((Below.heap_alloc W _ _ (by omega)).trans h)
theorem tell79 {k R n1 t a b lo g cap : Nat} {w W w1 : World} {pre : List (Tr (k + 1))} {T : Tr (k + 1)} {sl c0 c1 c2 y0 y1 y2 z0 z1 z2 : Value} {tz : TypeId} {vs : List (Value × Value × Value)} (hn1 : w.heap.size + 1 + 1 < n1) (hI : InvT k w R n1 t a b pre W) (hsz : n1 + 8 <= W.heap.size)
  (hnb : W.heap[n1 + 1]? = some (.cells #[.int .i64 t, .string ⟨#[]⟩, sl] 28 (0, 0)))
  (hvl : vs.length = pre.length) (hNs : ∀ (i : Nat) v T, vs[i]? = some v -> pre[i]? = some T -> Node (k + 1) W (fun b => n1 + 8 <= b /\ some b ≠ sl.ownBlock) (.agg #[v.1, v.2.1, v.2.2]) T)
  (ho : W.ownsRow (n1 + 8) 28 3 sl pre.length (vs.flatMap trip))
  (hN : Node (k + 1) W (fun b => lo <= b) (.agg #[c0, c1, c2]) T) (hlo : n1 + 8 <= lo) (hol : ∀ g', sl.ownBlock = some g' -> g' < lo)
  (hgrow : (W.alloc (.cells #[z0, z1, z2] tz)).drew.grownBy w1 sl.ownBlock) (hat : sl.ownBlock = some g \/ g = W.heap.size + 1)
  (hown1 : w1.ownsRow (n1 + 8) 28 3 (.slice (some ⟨g, 0, none⟩) (pre.length + 1) cap) (pre.length + 1) (vs.flatMap trip ++ [y0, y1, y2])) :
  Two (n1 + 6) (n1 + 6 + 1) W ((((w1.setCell ⟨g, pre.length * 3, none⟩ c0).setCell ⟨g, pre.length * 3 + 1, none⟩ c1).setCell ⟨g, pre.length * 3 + 2, none⟩ c2).setCell ⟨n1 + 1, 2, none⟩ (.slice (some ⟨g, 0, none⟩) (pre.length + 1) cap)) /\
  Kept (n1 + 6) (n1 + 1) W ((((w1.setCell ⟨g, pre.length * 3, none⟩ c0).setCell ⟨g, pre.length * 3 + 1, none⟩ c1).setCell ⟨g, pre.length * 3 + 2, none⟩ c2).setCell ⟨n1 + 1, 2, none⟩ (.slice (some ⟨g, 0, none⟩) (pre.length + 1) cap)) /\
  InvT k w R n1 t a b (pre ++ [T]) ((((w1.setCell ⟨g, pre.length * 3, none⟩ c0).setCell ⟨g, pre.length * 3 + 1, none⟩ c1).setCell ⟨g, pre.length * 3 + 2, none⟩ c2).setCell ⟨n1 + 1, 2, none⟩ (.slice (some ⟨g, 0, none⟩) (pre.length + 1) cap)) := by
 obtain ⟨p1, p2, p3, p4⟩ := store3 hown1 c0 c1 c2
 have hg8 : n1 + 8 <= g := by rcases hat with h | h; exact (ho.lt _ h).1; omega
 have hnb1 := keptNb ho hsz hgrow hnb
 generalize (((w1.setCell ⟨g, pre.length * 3, none⟩ c0).setCell ⟨g, pre.length * 3 + 1, none⟩ c1).setCell ⟨g, pre.length * 3 + 2, none⟩ c2) = U at *
 exact tellT hn1 hI hsz hvl hNs ho hN hlo hol hgrow hat (ownsRow_setCell_below p1 (by show n1 + 1 < _; omega) _) (heap_setCell_same U (n1 + 1) 2 _ _ _ ((p2 _ (by omega)).trans hnb1)) (fun x hx hn => (Below.heap_setCell U ⟨n1 + 1, 2, none⟩ _ x hn).trans (p2 x hx)) ((size_setCell _ _ _).trans p3) p4
theorem tell97 {k R n1 t a b lo g cap : Nat} {w W w1 : World} {pre : List (Tr (k + 1))} {T : Tr (k + 1)} {sl c0 c1 c2 y0 y1 y2 z0 z1 z2 : Value} {tz : TypeId} {vs : List (Value × Value × Value)} (hn1 : w.heap.size + 1 + 1 < n1) (hI : InvT k w R n1 t a b pre W) (hsz : n1 + 8 <= W.heap.size)
  (hnb : W.heap[n1 + 1]? = some (.cells #[.int .i64 t, .string ⟨#[]⟩, sl] 28 (0, 0)))
  (hvl : vs.length = pre.length) (hNs : ∀ (i : Nat) v T, vs[i]? = some v -> pre[i]? = some T -> Node (k + 1) W (fun b => n1 + 8 <= b /\ some b ≠ sl.ownBlock) (.agg #[v.1, v.2.1, v.2.2]) T)
  (ho : W.ownsRow (n1 + 8) 28 3 sl pre.length (vs.flatMap trip))
  (hN : Node (k + 1) W (fun b => lo <= b) (.agg #[c0, c1, c2]) T) (hlo : n1 + 8 <= lo) (hol : ∀ g', sl.ownBlock = some g' -> g' < lo)
  (hgrow : (W.alloc (.cells #[z0, z1, z2] tz)).drew.grownBy w1 sl.ownBlock) (hat : sl.ownBlock = some g \/ g = W.heap.size + 1)
  (hown1 : w1.ownsRow (n1 + 8) 28 3 (.slice (some ⟨g, 0, none⟩) (pre.length + 1) cap) (pre.length + 1) (vs.flatMap trip ++ [y0, y1, y2])) :
  Two (n1 + 6) (n1 + 6 + 1) W ((((w1.setCell ⟨n1 + 1, 2, none⟩ (.slice (some ⟨g, 0, none⟩) (pre.length + 1) cap)).setCell ⟨g, pre.length * 3, none⟩ c0).setCell ⟨g, pre.length * 3 + 1, none⟩ c1).setCell ⟨g, pre.length * 3 + 2, none⟩ c2) /\
  Kept (n1 + 6) (n1 + 1) W ((((w1.setCell ⟨n1 + 1, 2, none⟩ (.slice (some ⟨g, 0, none⟩) (pre.length + 1) cap)).setCell ⟨g, pre.length * 3, none⟩ c0).setCell ⟨g, pre.length * 3 + 1, none⟩ c1).setCell ⟨g, pre.length * 3 + 2, none⟩ c2) /\
  InvT k w R n1 t a b (pre ++ [T]) ((((w1.setCell ⟨n1 + 1, 2, none⟩ (.slice (some ⟨g, 0, none⟩) (pre.length + 1) cap)).setCell ⟨g, pre.length * 3, none⟩ c0).setCell ⟨g, pre.length * 3 + 1, none⟩ c1).setCell ⟨g, pre.length * 3 + 2, none⟩ c2) := by
 have hg8 : n1 + 8 <= g := by rcases hat with h | h; exact (ho.lt _ h).1; omega
 have hnb1 := keptNb ho hsz hgrow hnb
 have q1 := ownsRow_setCell_below hown1 (a := ⟨n1 + 1, 2, none⟩) (by show n1 + 1 < _; omega) (.slice (some ⟨g, 0, none⟩) (pre.length + 1) cap)
 have q2 : (w1.setCell ⟨n1 + 1, 2, none⟩ (.slice (some ⟨g, 0, none⟩) (pre.length + 1) cap)).heap[n1 + 1]? = some (.cells #[.int .i64 t, .string ⟨#[]⟩, .slice (some ⟨g, 0, none⟩) (pre.length + 1) cap] 28 (0, 0)) := heap_setCell_same w1 (n1 + 1) 2 _ _ _ hnb1
 have q3 : ∀ x, x ≠ n1 + 1 -> (w1.setCell ⟨n1 + 1, 2, none⟩ (.slice (some ⟨g, 0, none⟩) (pre.length + 1) cap)).heap[x]? = w1.heap[x]? := fun x hx => Below.heap_setCell w1 ⟨n1 + 1, 2, none⟩ _ x hx
 have q4 : (w1.setCell ⟨n1 + 1, 2, none⟩ (.slice (some ⟨g, 0, none⟩) (pre.length + 1) cap)).heap.size = w1.heap.size := size_setCell _ _ _
 have q5 : (w1.setCell ⟨n1 + 1, 2, none⟩ (.slice (some ⟨g, 0, none⟩) (pre.length + 1) cap)).os = w1.os /\ (w1.setCell ⟨n1 + 1, 2, none⟩ (.slice (some ⟨g, 0, none⟩) (pre.length + 1) cap)).tape = w1.tape /\ (w1.setCell ⟨n1 + 1, 2, none⟩ (.slice (some ⟨g, 0, none⟩) (pre.length + 1) cap)).output = w1.output := ⟨rfl, rfl, rfl⟩
 generalize w1.setCell ⟨n1 + 1, 2, none⟩ (.slice (some ⟨g, 0, none⟩) (pre.length + 1) cap) = w2 at *
 obtain ⟨p1, p2, p3, p4⟩ := store3 q1 c0 c1 c2
 generalize (((w2.setCell ⟨g, pre.length * 3, none⟩ c0).setCell ⟨g, pre.length * 3 + 1, none⟩ c1).setCell ⟨g, pre.length * 3 + 2, none⟩ c2) = U at *
 exact tellT hn1 hI hsz hvl hNs ho hN hlo hol hgrow hat p1 ((p2 _ (by omega)).trans q2) (fun x hx hn => (p2 x hx).trans (q3 x hn)) (p3.trans q4) ⟨p4.1.trans q5.1, p4.2.1.trans q5.2.1, p4.2.2.trans q5.2.2⟩
theorem tree_inner (k R : Nat) (s : ByteArray) (c a b t : Nat) (A : Ads) (w₀ w : World) (p stop deep : Int) (hw : Below w₀.heap.size w₀ w) (hR0 : w₀.heap.size <= R) (hR : R < w.heap.size) (hab : a <= b) (hb : b <= s.size) (ht : t < 256) (hi : isIn t = true) (hc : c <= 200) (hd1 : 1 <= deep) (hd2 : deep <= 12)
  (H : Calls Tryz.prog 128 #[.pointer (some ⟨R, 0, none⟩), .int .i64 p, .int .i64 stop, .int .i64 deep] (ans w) fun e w' => But R (ans w) w' /\ TRd R s c w' /\ e = .returned (.tuple #[headV t a b, .nilIface]))
  (IH : ∀ (q c : Nat) (w : World), TRd R s c w -> Below w₀.heap.size w₀ w -> c <= 200 -> q <= b -> Calls Tryz.prog 99 #[.pointer (some ⟨R, 0, none⟩), .int .i64 q, .int .i64 b, .int .i64 (deep + 1)] w (TreePost R s A w k (readT s.data.toList k q b c))) :
  Calls Tryz.prog 99 #[.pointer (some ⟨R, 0, none⟩), .int .i64 p, .int .i64 stop, .int .i64 deep] w (InnerPost R s A w k t b (readL (fun q c' => readT s.data.toList k q b c') (b - a) a b c)) := by
 have hmx : Tryz.prog.follows .mixedOrders = true := by kernel_rfl
 have hI : inB t = true := (inB_eq t (by omega) (by omega)).trans hi
 refine (callsIn_wide (n := 7)).1 ?_
 refine callsIn_of_wp_marks Tryz.func99 rfl trivial ?_ rfl
 simp only [Tryz.ntmps99, List.size_toArray, List.length_cons, List.length_nil, Nat.reduceAdd, Nat.reduceSub, Array.replicate_succ, Array.replicate_zero, List.push_toArray, List.append_toArray, List.nil_append, List.cons_append]
 refine wpIn_wide.2 ?_
 go_wp2_with fail
 refine H.mono ?_
 rintro e w1 ⟨hb1, htr, rfl⟩
 have HIH := H_ IH
 clear H IH
 go_wp2_with (go_at_call 91; refine (isInner_any _ _).mono ?_; rintro e w' ⟨rfl, rfl⟩)
 go_wp2_with (go_at_call 130; refine (trees_any _ ⟨_, rfl⟩ _ _ _ _).mono ?_; rintro e w' ⟨rfl, rfl⟩)
 have hn1 : w.heap.size + 1 + 1 < w1.heap.size := by have := hb1.size; simp at this; omega
 have hB0 : But R w (six w1 t a b R (deep + 1)) := (But.toBut (ans_below w) hb1).trans (But.of_below (six_below w1 t a b R (deep + 1)))
 have hT0 : TRd R s c (six w1 t a b R (deep + 1)) := htr.of ((six_below w1 t a b R (deep + 1)).block _ htr.lt)
 have hA0 : Ans w.heap.size (six w1 t a b R (deep + 1)) := (Ans.but hR hb1).of fun x hx => (six_below w1 t a b R (deep + 1)).block x hx
 obtain ⟨q0, q1, q2, q3, q4, q5⟩ := six_at w1 t a b R (deep + 1)
 have hz := six_size w1 t a b R (deep + 1)
 have hInv : InvT k w R w1.heap.size t a b [] (six w1 t a b R (deep + 1)) := ⟨q0, ⟨_, q1, Grow.nil _ _ _⟩, hA0, hB0, by omega⟩
 change Code.wp _ _ _ _ (six w1 t a b R (deep + 1))
 generalize hW : six w1 t a b R (deep + 1) = W0 at *
 clear hW
 clear hb1 htr hA0 hB0 q0 q1
 generalize w1.heap.size = n1 at *
 refine (wpIn_wide (n := 7)).1 ?_
 refine range_mine (α := Item k) (σ := Sta k) (gf := 155) (lb := #[.pointer (some ⟨n1 + 1 + 1 + 1, 0, none⟩), .pointer (some ⟨n1 + 1 + 1 + 1 + 1, 0, none⟩), .pointer (some ⟨n1 + 1 + 1, 0, none⟩), .pointer (some ⟨n1 + 1 + 1 + 1 + 1 + 1, 0, none⟩)]) rfl (enters_of Tryz.func155 (by kernel_rfl) rfl)
  (fun x => #[.agg x.cs, x.err]) (fun _ => rfl) (Kept (n1 + 6) (n1 + 1)) (But R)
  (fun st W => InvT k w R n1 t a b st.pre W /\ st.pre.length <= st.c /\ st.c <= 200)
  (fun cd st W => cd = .ret /\ ∃ v E, readT s.data.toList k st.q b st.c = .error E /\ IsErr A v E /\ OutT w R v W)
  (fun st x W => ItemIs A (n1 + 1) (n1 + 8) b s.data.toList st x W) nxt ⟨a, c, []⟩
  (fun st W => readL (fun q c' => readT s.data.toList k q b c') (b - a) a b c = .ok (st.pre, st.c) /\ TRd R s st.c W)
  (fun st => ∃ E, readL (fun q c' => readT s.data.toList k q b c') (b - a) a b c = .error E /\ readT s.data.toList k st.q b st.c = .error E)
  (fun _ x => isOk x) (fun _ x => isNo x)
  (fun x => x.cs) 28 (fun x B => actT w.heap.size n1 R p stop deep t a b (.pointer (some ⟨B, 0, none⟩)) x.err (.agg x.cs) x.err undef undef undef [])
  Kept.trans ?_ ?_ ?_ ?_ ?_ ?_ ?_ ?_ ?iter ?assign ?body ?done ?stop
 ·intro X Y hxy; rw [hz] at hxy; exact Kept.of_but (by omega) hxy
 ·intro X Y hxy hsz; rw [hz] at hsz ⊢; exact Two.of_but hxy (by omega) (by omega) (by omega) (by omega)
 ·intro st X Y hxy h; rw [hz] at hxy; exact ⟨h.1.ext hR hn1 _ (.inr rfl) hxy, h.2⟩
 ·intro st X Y hxy _ h; exact ⟨h.1.ext hR hn1 _ (.inl rfl) hxy, h.2⟩
 ·rintro cd st X Y hxy ⟨rfl, v, E, h1, h2, h3⟩; rw [hz] at hxy; exact ⟨rfl, v, E, h1, h2, h3.ext hn1 hxy⟩
 ·rintro st x X Y hxy ⟨h1, h2, h3, h4⟩
  rw [hz] at hxy
  refine ⟨h1, ⟨h2.1, Nat.le_trans h2.2 hxy.size⟩, fun g off len cap h => h3 g off len cap ?_, ?_⟩
  ·rw [<- h]; exact (World.cell?_of_block (w := X) (a := ⟨n1 + 1, 2, none⟩) (hxy.block _ (by show n1 + 1 < _; omega) (by show n1 + 1 ≠ _; omega))).symm
  ·cases hx : x.g with
   | error E => rw [hx] at h4; exact h4
   | ok r => rw [hx] at h4; exact ⟨h4.1, h4.2.but hxy (by omega)⟩
 ·rintro st X Y hxy ⟨h1, h2⟩; rw [hz] at hxy; exact ⟨h1, h2.of (hxy.block _ h2.lt (by omega))⟩
 ·exact ⟨hInv, Nat.zero_le _, hc⟩
 case iter =>
  intro W hbW hzW J Jx hJ hJI hY h0
  rw [hz] at hbW hzW hY ⊢
  have hcell : ∀ (x : Nat) v, x < n1 + 6 -> W0.cell? ⟨x, 0, none⟩ = some v -> W.cell? ⟨x, 0, none⟩ = some v := fun x v hx h => (World.cell?_of_block (w := W0) (a := ⟨x, 0, none⟩) (hbW.block x (by omega) (by omega))).trans h
  exact trees1_any k R a b c (n1 + 6) (n1 + 1) (n1 + 1 + 1 + 1) (n1 + 1 + 1 + 1 + 1) (n1 + 1 + 1) (n1 + 1 + 1 + 1 + 1 + 1) s A w₀ (deep + 1) hb hab hc ⟨by omega, by omega, hR0⟩ (by omega) ⟨by omega, by omega, by omega⟩ ⟨by omega, by omega, by omega⟩ ⟨by omega, by omega, by omega⟩
   (un HIH) J Jx hJ (fun st X hX => by
    obtain ⟨⟨hi1, _⟩, hsz⟩ := hJI st X hX
    rw [hz] at hsz
    refine ⟨hsz, hw.trans (hi1.but.below hR0 hR), fun g off len cap hcl => ?_⟩
    obtain ⟨sl, e1, e2⟩ := hi1.nb
    have e3 := (cells3 e1).1.2.2
    rw [hcl] at e3
    have e4 := Option.some.inj e3
    subst e4
    exact (e2.lt rfl).2)
   hY W h0 (hT0.of (hbW.block R (by omega) (by omega))) (hcell _ _ (by omega) q3) (hcell _ _ (by omega) q4) (hcell _ _ (by omega) q2) (hcell _ _ (by omega) q5)
 case assign =>
  intro st x W K _ _ hK
  gi_wp2
  exact hK
 case body =>
  rintro st ⟨xt, xd, xa, xn, xc, xe, lo, g⟩ B W ⟨hInv, hlen, hc2⟩ ⟨hg, ⟨hlo, hsz⟩, hrow, hit⟩ hB hbox
  go_light
  dsimp only at hg hlo hrow hit hbox ⊢
  obtain ⟨sl, hnb, hgr⟩ := hInv.nb
  obtain ⟨sla, slc, rfl⟩ := hgr.form
  cases g with
  | error E =>
   obtain ⟨hcs, hE⟩ := hit
   simp only [Array.mk.injEq, List.cons.injEq, Value.int.injEq, Value.string.injEq, Value.slice.injEq, true_and, and_true] at hcs
   obtain ⟨rfl, rfl, rfl, rfl, rfl⟩ := hcs
   obtain ⟨kk, u, rfl, hu⟩ := id hE
   obtain ⟨⟨c0, c1, c2, c3, c4⟩, r0, r1, r2, r3, r4⟩ := hInv.ans.cells
   gi_wp2
   rw [hz]
   exact ⟨⟨E, rfl⟩, (errT hn1 hInv).1, rfl, _, E, hg.symm, hE, (errT hn1 hInv).2⟩
  | ok r =>
   obtain ⟨T, nx, c'⟩ := r
   obtain ⟨rfl, hN⟩ := hit
   obtain ⟨d0, d1, d2⟩ := (cells3 hnb).1
   obtain ⟨e0, e1, e2⟩ := (cells3 hbox).1
   gi_wp2
   refine wpIn_mono (Q := fun e _ w1 => match e with | .normal => Two W0.heap.size (W0.heap.size + 1) W w1 /\ Kept (n1 + 6) (n1 + 1) W w1 /\ InvT k w R n1 t a b (st.pre ++ [T]) w1 | _ => False) ?_ ?_
   ·go_light
    refine regionIn_round hmx (fun i o ho c => noDefer_spec (by kernel_rfl) i o ho c) (by rintro ⟨a, w, h⟩; exact h) ?_
    obtain ⟨vs, hvl, ho, hNs⟩ := hgr
    obtain ⟨i0, hi0, hz0, hz1, hz2⟩ := info_parts infoNode
    have hnw : ∀ (j : Nat) u, ([.int .i64 0, .string ⟨#[]⟩, .slice none 0 0] : List Value)[j]? = some u -> (W.alloc (.cells #[.int .i64 0, .string ⟨#[]⟩, .slice none 0 0] 28)).drew.cell? ((⟨W.heap.size, 0, none⟩ : Addr).add j) = some u := fun j u h => World.news_of_block (w := (W.alloc (.cells #[.int .i64 0, .string ⟨#[]⟩, .slice none 0 0] 28)).drew) (cs := #[.int .i64 0, .string ⟨#[]⟩, .slice none 0 0]) (World.alloc_heap_new W _) j u h
    have hoc : ∀ u ∈ ([.int .i64 0, .string ⟨#[]⟩, .slice none 0 0] : List Value), u.oneCell' = true := by simp [Value.oneCell']
    have d2a : ∀ o, (W.alloc o).cell? ⟨n1 + 1, 2, none⟩ = some (.slice sla st.pre.length slc) := fun o => by rw [World.cell?_alloc_lt _ _ _ (lt_of_cell d2)]; exact d2
    have e0a : ∀ o, (W.alloc o).cell? ⟨B, 0, none⟩ = some (.int .i64 xt) := fun o => by rw [World.cell?_alloc_lt _ _ _ (lt_of_cell e0)]; exact e0
    have e1a : ∀ o, (W.alloc o).cell? ⟨B, 1, none⟩ = some (.string xd) := fun o => by rw [World.cell?_alloc_lt _ _ _ (lt_of_cell e1)]; exact e1
    have e2a : ∀ o, (W.alloc o).cell? ⟨B, 2, none⟩ = some (.slice xa xn xc) := fun o => by rw [World.cell?_alloc_lt _ _ _ (lt_of_cell e2)]; exact e2
    have hol : ∀ g', (Value.slice sla st.pre.length slc).ownBlock = some g' -> g' < lo := fun g' h => by
     cases sla with
     | none => simp [Value.ownBlock] at h
     | some ad =>
      have e : ad.block = g' := by simpa [Value.ownBlock] using h
      obtain ⟨gx, cx, hx⟩ := ownsForm ho
      cases hx
      subst e
      exact hrow _ _ _ _ d2
    have HNB : Hid (∀ w1 : World, (W.alloc (.cells #[.int .i64 0, .string ⟨#[]⟩, .slice none 0 0] 28)).drew.grownBy w1 (Value.slice sla st.pre.length slc).ownBlock -> w1.cell? ⟨n1 + 1, 2, none⟩ = some (.slice sla st.pre.length slc) /\ w1.frozen? ⟨n1 + 1, 2, none⟩ = false) := H_ fun w1 hg => by
     have e1 : w1.heap[n1 + 1]? = W.heap[n1 + 1]? := (hg.block _ (by show n1 + 1 < (W.alloc _).heap.size; simp; omega) (fun h => by have := (ho.lt _ h.symm).1; omega)).trans (Below.heap_alloc W _ _ (by omega))
     have := cells3 (e1.trans hnb)
     exact ⟨this.1.2.2, this.2.2.2⟩
    have ho1 := ho.alloc (.cells #[.int .i64 0, .string ⟨#[]⟩, .slice none 0 0] 28)
    refine wpAny_take (i := 0) (v := .pointer (some ⟨n1 + 1, 2, none⟩)) rfl (by kernel_rfl) (by kernel_rfl) (by kernel_rfl) (fun _ _ _ h => h) (Or.inl ⟨by rfl, by intro w; go_simp⟩) ?_
    refine wpAny_ready (rs := [1, 2, 4]) (by kernel_rfl) (by simp) ?_
    refine AllReady.cons rfl (fun K hK => ?_) (AllReady.cons rfl (fun K hK => ?_) (AllReady.cons rfl (fun K hK => ?_) AllReady.nil))
    ·go_simp
     refine hK _ _ ?_
     clear hK K
     refine wpAny_take (i := 3) (v := .int .i64 st.pre.length) rfl (by kernel_rfl) (by kernel_rfl) (by kernel_rfl) (fun _ _ _ h => h) (Or.inl ⟨by rfl, by intro w; go_simp⟩) ?_
     refine wpAny_ready (rs := [2, 4]) (by kernel_rfl) (by simp) ?_
     refine AllReady.cons rfl (fun K hK => ?_) (AllReady.cons rfl (fun K hK => ?_) AllReady.nil)
     ·go_simp
      refine hK _ _ ?_
      clear hK K
      refine wpAny_ready (rs := [4]) (by kernel_rfl) (by simp) ?_
      refine AllReady.cons rfl (fun K hK => ?_) AllReady.nil
      ·go_simp
       refine hK _ _ ?_
       clear hK K
       refine wpAny_ready (rs := [5]) (by kernel_rfl) (by simp) ?_
       refine AllReady.cons rfl (fun K hK => ?_) AllReady.nil
       refine step_append_lies _ rfl (.tmp 66) (.tmp 69) 26 rfl (n1 + 8) 28 i0 zeroN 3 48 Tryz.underlying26 hi0 hz0 hz1 hz2 rfl (by omega) (.slice sla st.pre.length slc) st.pre.length (vs.flatMap trip) (by simp [Act.eval, Act.put]) ho1 ⟨W.heap.size, 0, none⟩ 1 1 [.int .i64 0, .string ⟨#[]⟩, .slice none 0 0] (by simp [Act.eval, Act.put]) rfl hnw hoc (by omega) (by unfold maxLen; omega) (by omega) (by simp; omega) (W.heap.size + 1) (by simp) ?_
       intro gg cap w1 hown1 hgrow hat hglt
       refine hK _ _ ?_
       clear hK K
       have F79 := H_ (tell79 (c0 := .int .i64 xt) (c1 := .string xd) (c2 := .slice xa xn xc) hn1 hInv hsz hnb hvl hNs ho hN hlo hol hgrow hat hown1)
       have F97 := H_ (tell97 (c0 := .int .i64 xt) (c1 := .string xd) (c2 := .slice xa xn xc) hn1 hInv hsz hnb hvl hNs ho hN hlo hol hgrow hat hown1)
       obtain ⟨⟨l0, l1, l2⟩, m0, m1, m2⟩ := lastCells hown1
       obtain ⟨n0, k0⟩ := (un HNB) w1 hgrow
       have hne : gg ≠ n1 + 1 := by rcases hat with h | h; (have := (ho.lt _ h).1; omega); omega
       have n3 : ∀ x y z, (((w1.setCell ⟨gg, st.pre.length * 3, none⟩ x).setCell ⟨gg, st.pre.length * 3 + 1, none⟩ y).setCell ⟨gg, st.pre.length * 3 + 2, none⟩ z).cell? ⟨n1 + 1, 2, none⟩ = some (.slice sla st.pre.length slc) := fun x y z => by rw [World.cell?_setCell_far _ _ _ _ (by simp; omega), World.cell?_setCell_far _ _ _ _ (by simp; omega), World.cell?_setCell_far _ _ _ _ (by simp; omega)]; exact n0
       have l0' : ∀ v, (w1.setCell ⟨n1 + 1, 2, none⟩ v).cell? ⟨gg, st.pre.length * 3, none⟩ = some (.int .i64 0) := fun v => by rw [World.cell?_setCell_far _ _ _ _ (by simp; omega)]; exact l0
       have l1' : ∀ v, (w1.setCell ⟨n1 + 1, 2, none⟩ v).cell? ⟨gg, st.pre.length * 3 + 1, none⟩ = some (.string ⟨#[]⟩) := fun v => by rw [World.cell?_setCell_far _ _ _ _ (by simp; omega)]; exact l1
       have l2' : ∀ v, (w1.setCell ⟨n1 + 1, 2, none⟩ v).cell? ⟨gg, st.pre.length * 3 + 2, none⟩ = some (.slice none 0 0) := fun v => by rw [World.cell?_setCell_far _ _ _ _ (by simp; omega)]; exact l2
       clear hown1 hgrow hat
       refine wpAny_take (i := 8) (v := .pointer (some ⟨n1 + 1, 2, none⟩)) rfl (by kernel_rfl) (by kernel_rfl) (by kernel_rfl) (fun _ _ _ h => h) (Or.inl ⟨by rfl, by intro w; go_simp⟩) ?_
       refine wpAny_take (i := 6) (v := .pointer (some ⟨gg, st.pre.length * 3, none⟩)) rfl (by kernel_rfl) (by kernel_rfl) (by kernel_rfl) (fun _ _ _ h => h) (Or.inl ⟨by rfl, by intro w; go_simp; intro h; omega⟩) ?_
       refine wpAny_ready (rs := [7, 9]) (by kernel_rfl) (by simp) ?_
       refine AllReady.cons rfl (fun K hK => ?_) (AllReady.cons rfl (fun K hK => ?_) AllReady.nil)
       ·go_simp
        refine hK _ _ ?_
        clear hK K
        refine wpAny_ready (rs := [9]) (by kernel_rfl) (by simp) ?_
        refine AllReady.cons rfl (fun K hK => ?_) AllReady.nil
        go_simp
        refine hK _ _ ?_
        clear hK K
        refine wpAny_done (by kernel_rfl) ?_ _
        rw [hz]
        exact un F79
       ·go_simp
        refine hK _ _ ?_
        clear hK K
        refine wpAny_ready (rs := [7]) (by kernel_rfl) (by simp) ?_
        refine AllReady.cons rfl (fun K hK => ?_) AllReady.nil
        go_simp
        refine hK _ _ ?_
        clear hK K
        refine wpAny_done (by kernel_rfl) ?_ _
        rw [hz]
        exact un F97
     ·go_simp
      refine hK _ _ ?_
      clear hK K
      refine wpAny_ready (rs := [2]) (by kernel_rfl) (by simp) ?_
      refine AllReady.cons rfl (fun K hK => ?_) AllReady.nil
      ·go_simp
       refine hK _ _ ?_
       clear hK K
       refine wpAny_ready (rs := [5]) (by kernel_rfl) (by simp) ?_
       refine AllReady.cons rfl (fun K hK => ?_) AllReady.nil
       refine step_append_lies _ rfl (.tmp 66) (.tmp 69) 26 rfl (n1 + 8) 28 i0 zeroN 3 48 Tryz.underlying26 hi0 hz0 hz1 hz2 rfl (by omega) (.slice sla st.pre.length slc) st.pre.length (vs.flatMap trip) (by simp [Act.eval, Act.put]) ho1 ⟨W.heap.size, 0, none⟩ 1 1 [.int .i64 0, .string ⟨#[]⟩, .slice none 0 0] (by simp [Act.eval, Act.put]) rfl hnw hoc (by omega) (by unfold maxLen; omega) (by omega) (by simp; omega) (W.heap.size + 1) (by simp) ?_
       intro gg cap w1 hown1 hgrow hat hglt
       refine hK _ _ ?_
       clear hK K
       have F79 := H_ (tell79 (c0 := .int .i64 xt) (c1 := .string xd) (c2 := .slice xa xn xc) hn1 hInv hsz hnb hvl hNs ho hN hlo hol hgrow hat hown1)
       have F97 := H_ (tell97 (c0 := .int .i64 xt) (c1 := .string xd) (c2 := .slice xa xn xc) hn1 hInv hsz hnb hvl hNs ho hN hlo hol hgrow hat hown1)
       obtain ⟨⟨l0, l1, l2⟩, m0, m1, m2⟩ := lastCells hown1
       obtain ⟨n0, k0⟩ := (un HNB) w1 hgrow
       have hne : gg ≠ n1 + 1 := by rcases hat with h | h; (have := (ho.lt _ h).1; omega); omega
       have n3 : ∀ x y z, (((w1.setCell ⟨gg, st.pre.length * 3, none⟩ x).setCell ⟨gg, st.pre.length * 3 + 1, none⟩ y).setCell ⟨gg, st.pre.length * 3 + 2, none⟩ z).cell? ⟨n1 + 1, 2, none⟩ = some (.slice sla st.pre.length slc) := fun x y z => by rw [World.cell?_setCell_far _ _ _ _ (by simp; omega), World.cell?_setCell_far _ _ _ _ (by simp; omega), World.cell?_setCell_far _ _ _ _ (by simp; omega)]; exact n0
       have l0' : ∀ v, (w1.setCell ⟨n1 + 1, 2, none⟩ v).cell? ⟨gg, st.pre.length * 3, none⟩ = some (.int .i64 0) := fun v => by rw [World.cell?_setCell_far _ _ _ _ (by simp; omega)]; exact l0
       have l1' : ∀ v, (w1.setCell ⟨n1 + 1, 2, none⟩ v).cell? ⟨gg, st.pre.length * 3 + 1, none⟩ = some (.string ⟨#[]⟩) := fun v => by rw [World.cell?_setCell_far _ _ _ _ (by simp; omega)]; exact l1
       have l2' : ∀ v, (w1.setCell ⟨n1 + 1, 2, none⟩ v).cell? ⟨gg, st.pre.length * 3 + 2, none⟩ = some (.slice none 0 0) := fun v => by rw [World.cell?_setCell_far _ _ _ _ (by simp; omega)]; exact l2
       clear hown1 hgrow hat
       refine wpAny_take (i := 8) (v := .pointer (some ⟨n1 + 1, 2, none⟩)) rfl (by kernel_rfl) (by kernel_rfl) (by kernel_rfl) (fun _ _ _ h => h) (Or.inl ⟨by rfl, by intro w; go_simp⟩) ?_
       refine wpAny_take (i := 6) (v := .pointer (some ⟨gg, st.pre.length * 3, none⟩)) rfl (by kernel_rfl) (by kernel_rfl) (by kernel_rfl) (fun _ _ _ h => h) (Or.inl ⟨by rfl, by intro w; go_simp; intro h; omega⟩) ?_
       refine wpAny_ready (rs := [7, 9]) (by kernel_rfl) (by simp) ?_
       refine AllReady.cons rfl (fun K hK => ?_) (AllReady.cons rfl (fun K hK => ?_) AllReady.nil)
       ·go_simp
        refine hK _ _ ?_
        clear hK K
        refine wpAny_ready (rs := [9]) (by kernel_rfl) (by simp) ?_
        refine AllReady.cons rfl (fun K hK => ?_) AllReady.nil
        go_simp
        refine hK _ _ ?_
        clear hK K
        refine wpAny_done (by kernel_rfl) ?_ _
        rw [hz]
        exact un F79
       ·go_simp
        refine hK _ _ ?_
        clear hK K
        refine wpAny_ready (rs := [7]) (by kernel_rfl) (by simp) ?_
        refine AllReady.cons rfl (fun K hK => ?_) AllReady.nil
        go_simp
        refine hK _ _ ?_
        clear hK K
        refine wpAny_done (by kernel_rfl) ?_ _
        rw [hz]
        exact un F97
    ·go_simp
     refine hK _ _ ?_
     clear hK K
     refine wpAny_ready (rs := [1, 4]) (by kernel_rfl) (by simp) ?_
     refine AllReady.cons rfl (fun K hK => ?_) (AllReady.cons rfl (fun K hK => ?_) AllReady.nil)
     ·go_simp
      refine hK _ _ ?_
      clear hK K
      refine wpAny_take (i := 3) (v := .int .i64 st.pre.length) rfl (by kernel_rfl) (by kernel_rfl) (by kernel_rfl) (fun _ _ _ h => h) (Or.inl ⟨by rfl, by intro w; go_simp⟩) ?_
      refine wpAny_ready (rs := [4]) (by kernel_rfl) (by simp) ?_
      refine AllReady.cons rfl (fun K hK => ?_) AllReady.nil
      ·go_simp
       refine hK _ _ ?_
       clear hK K
       refine wpAny_ready (rs := [5]) (by kernel_rfl) (by simp) ?_
       refine AllReady.cons rfl (fun K hK => ?_) AllReady.nil
       refine step_append_lies _ rfl (.tmp 66) (.tmp 69) 26 rfl (n1 + 8) 28 i0 zeroN 3 48 Tryz.underlying26 hi0 hz0 hz1 hz2 rfl (by omega) (.slice sla st.pre.length slc) st.pre.length (vs.flatMap trip) (by simp [Act.eval, Act.put]) ho1 ⟨W.heap.size, 0, none⟩ 1 1 [.int .i64 0, .string ⟨#[]⟩, .slice none 0 0] (by simp [Act.eval, Act.put]) rfl hnw hoc (by omega) (by unfold maxLen; omega) (by omega) (by simp; omega) (W.heap.size + 1) (by simp) ?_
       intro gg cap w1 hown1 hgrow hat hglt
       refine hK _ _ ?_
       clear hK K
       have F79 := H_ (tell79 (c0 := .int .i64 xt) (c1 := .string xd) (c2 := .slice xa xn xc) hn1 hInv hsz hnb hvl hNs ho hN hlo hol hgrow hat hown1)
       have F97 := H_ (tell97 (c0 := .int .i64 xt) (c1 := .string xd) (c2 := .slice xa xn xc) hn1 hInv hsz hnb hvl hNs ho hN hlo hol hgrow hat hown1)
       obtain ⟨⟨l0, l1, l2⟩, m0, m1, m2⟩ := lastCells hown1
       obtain ⟨n0, k0⟩ := (un HNB) w1 hgrow
       have hne : gg ≠ n1 + 1 := by rcases hat with h | h; (have := (ho.lt _ h).1; omega); omega
       have n3 : ∀ x y z, (((w1.setCell ⟨gg, st.pre.length * 3, none⟩ x).setCell ⟨gg, st.pre.length * 3 + 1, none⟩ y).setCell ⟨gg, st.pre.length * 3 + 2, none⟩ z).cell? ⟨n1 + 1, 2, none⟩ = some (.slice sla st.pre.length slc) := fun x y z => by rw [World.cell?_setCell_far _ _ _ _ (by simp; omega), World.cell?_setCell_far _ _ _ _ (by simp; omega), World.cell?_setCell_far _ _ _ _ (by simp; omega)]; exact n0
       have l0' : ∀ v, (w1.setCell ⟨n1 + 1, 2, none⟩ v).cell? ⟨gg, st.pre.length * 3, none⟩ = some (.int .i64 0) := fun v => by rw [World.cell?_setCell_far _ _ _ _ (by simp; omega)]; exact l0
       have l1' : ∀ v, (w1.setCell ⟨n1 + 1, 2, none⟩ v).cell? ⟨gg, st.pre.length * 3 + 1, none⟩ = some (.string ⟨#[]⟩) := fun v => by rw [World.cell?_setCell_far _ _ _ _ (by simp; omega)]; exact l1
       have l2' : ∀ v, (w1.setCell ⟨n1 + 1, 2, none⟩ v).cell? ⟨gg, st.pre.length * 3 + 2, none⟩ = some (.slice none 0 0) := fun v => by rw [World.cell?_setCell_far _ _ _ _ (by simp; omega)]; exact l2
       clear hown1 hgrow hat
       refine wpAny_take (i := 8) (v := .pointer (some ⟨n1 + 1, 2, none⟩)) rfl (by kernel_rfl) (by kernel_rfl) (by kernel_rfl) (fun _ _ _ h => h) (Or.inl ⟨by rfl, by intro w; go_simp⟩) ?_
       refine wpAny_take (i := 6) (v := .pointer (some ⟨gg, st.pre.length * 3, none⟩)) rfl (by kernel_rfl) (by kernel_rfl) (by kernel_rfl) (fun _ _ _ h => h) (Or.inl ⟨by rfl, by intro w; go_simp; intro h; omega⟩) ?_
       refine wpAny_ready (rs := [7, 9]) (by kernel_rfl) (by simp) ?_
       refine AllReady.cons rfl (fun K hK => ?_) (AllReady.cons rfl (fun K hK => ?_) AllReady.nil)
       ·go_simp
        refine hK _ _ ?_
        clear hK K
        refine wpAny_ready (rs := [9]) (by kernel_rfl) (by simp) ?_
        refine AllReady.cons rfl (fun K hK => ?_) AllReady.nil
        go_simp
        refine hK _ _ ?_
        clear hK K
        refine wpAny_done (by kernel_rfl) ?_ _
        rw [hz]
        exact un F79
       ·go_simp
        refine hK _ _ ?_
        clear hK K
        refine wpAny_ready (rs := [7]) (by kernel_rfl) (by simp) ?_
        refine AllReady.cons rfl (fun K hK => ?_) AllReady.nil
        go_simp
        refine hK _ _ ?_
        clear hK K
        refine wpAny_done (by kernel_rfl) ?_ _
        rw [hz]
        exact un F97
     ·go_simp
      refine hK _ _ ?_
      clear hK K
      refine wpAny_ready (rs := [1]) (by kernel_rfl) (by simp) ?_
      refine AllReady.cons rfl (fun K hK => ?_) AllReady.nil
      ·go_simp
       refine hK _ _ ?_
       clear hK K
       refine wpAny_take (i := 3) (v := .int .i64 st.pre.length) rfl (by kernel_rfl) (by kernel_rfl) (by kernel_rfl) (fun _ _ _ h => h) (Or.inl ⟨by rfl, by intro w; go_simp⟩) ?_
       refine wpAny_ready (rs := [5]) (by kernel_rfl) (by simp) ?_
       refine AllReady.cons rfl (fun K hK => ?_) AllReady.nil
       refine step_append_lies _ rfl (.tmp 66) (.tmp 69) 26 rfl (n1 + 8) 28 i0 zeroN 3 48 Tryz.underlying26 hi0 hz0 hz1 hz2 rfl (by omega) (.slice sla st.pre.length slc) st.pre.length (vs.flatMap trip) (by simp [Act.eval, Act.put]) ho1 ⟨W.heap.size, 0, none⟩ 1 1 [.int .i64 0, .string ⟨#[]⟩, .slice none 0 0] (by simp [Act.eval, Act.put]) rfl hnw hoc (by omega) (by unfold maxLen; omega) (by omega) (by simp; omega) (W.heap.size + 1) (by simp) ?_
       intro gg cap w1 hown1 hgrow hat hglt
       refine hK _ _ ?_
       clear hK K
       have F79 := H_ (tell79 (c0 := .int .i64 xt) (c1 := .string xd) (c2 := .slice xa xn xc) hn1 hInv hsz hnb hvl hNs ho hN hlo hol hgrow hat hown1)
       have F97 := H_ (tell97 (c0 := .int .i64 xt) (c1 := .string xd) (c2 := .slice xa xn xc) hn1 hInv hsz hnb hvl hNs ho hN hlo hol hgrow hat hown1)
       obtain ⟨⟨l0, l1, l2⟩, m0, m1, m2⟩ := lastCells hown1
       obtain ⟨n0, k0⟩ := (un HNB) w1 hgrow
       have hne : gg ≠ n1 + 1 := by rcases hat with h | h; (have := (ho.lt _ h).1; omega); omega
       have n3 : ∀ x y z, (((w1.setCell ⟨gg, st.pre.length * 3, none⟩ x).setCell ⟨gg, st.pre.length * 3 + 1, none⟩ y).setCell ⟨gg, st.pre.length * 3 + 2, none⟩ z).cell? ⟨n1 + 1, 2, none⟩ = some (.slice sla st.pre.length slc) := fun x y z => by rw [World.cell?_setCell_far _ _ _ _ (by simp; omega), World.cell?_setCell_far _ _ _ _ (by simp; omega), World.cell?_setCell_far _ _ _ _ (by simp; omega)]; exact n0
       have l0' : ∀ v, (w1.setCell ⟨n1 + 1, 2, none⟩ v).cell? ⟨gg, st.pre.length * 3, none⟩ = some (.int .i64 0) := fun v => by rw [World.cell?_setCell_far _ _ _ _ (by simp; omega)]; exact l0
       have l1' : ∀ v, (w1.setCell ⟨n1 + 1, 2, none⟩ v).cell? ⟨gg, st.pre.length * 3 + 1, none⟩ = some (.string ⟨#[]⟩) := fun v => by rw [World.cell?_setCell_far _ _ _ _ (by simp; omega)]; exact l1
       have l2' : ∀ v, (w1.setCell ⟨n1 + 1, 2, none⟩ v).cell? ⟨gg, st.pre.length * 3 + 2, none⟩ = some (.slice none 0 0) := fun v => by rw [World.cell?_setCell_far _ _ _ _ (by simp; omega)]; exact l2
       clear hown1 hgrow hat
       refine wpAny_take (i := 8) (v := .pointer (some ⟨n1 + 1, 2, none⟩)) rfl (by kernel_rfl) (by kernel_rfl) (by kernel_rfl) (fun _ _ _ h => h) (Or.inl ⟨by rfl, by intro w; go_simp⟩) ?_
       refine wpAny_take (i := 6) (v := .pointer (some ⟨gg, st.pre.length * 3, none⟩)) rfl (by kernel_rfl) (by kernel_rfl) (by kernel_rfl) (fun _ _ _ h => h) (Or.inl ⟨by rfl, by intro w; go_simp; intro h; omega⟩) ?_
       refine wpAny_ready (rs := [7, 9]) (by kernel_rfl) (by simp) ?_
       refine AllReady.cons rfl (fun K hK => ?_) (AllReady.cons rfl (fun K hK => ?_) AllReady.nil)
       ·go_simp
        refine hK _ _ ?_
        clear hK K
        refine wpAny_ready (rs := [9]) (by kernel_rfl) (by simp) ?_
        refine AllReady.cons rfl (fun K hK => ?_) AllReady.nil
        go_simp
        refine hK _ _ ?_
        clear hK K
        refine wpAny_done (by kernel_rfl) ?_ _
        rw [hz]
        exact un F79
       ·go_simp
        refine hK _ _ ?_
        clear hK K
        refine wpAny_ready (rs := [7]) (by kernel_rfl) (by simp) ?_
        refine AllReady.cons rfl (fun K hK => ?_) AllReady.nil
        go_simp
        refine hK _ _ ?_
        clear hK K
        refine wpAny_done (by kernel_rfl) ?_ _
        rw [hz]
        exact un F97
    ·go_simp
     refine hK _ _ ?_
     clear hK K
     refine wpAny_ready (rs := [1, 2]) (by kernel_rfl) (by simp) ?_
     refine AllReady.cons rfl (fun K hK => ?_) (AllReady.cons rfl (fun K hK => ?_) AllReady.nil)
     ·go_simp
      refine hK _ _ ?_
      clear hK K
      refine wpAny_take (i := 3) (v := .int .i64 st.pre.length) rfl (by kernel_rfl) (by kernel_rfl) (by kernel_rfl) (fun _ _ _ h => h) (Or.inl ⟨by rfl, by intro w; go_simp⟩) ?_
      refine wpAny_ready (rs := [2]) (by kernel_rfl) (by simp) ?_
      refine AllReady.cons rfl (fun K hK => ?_) AllReady.nil
      ·go_simp
       refine hK _ _ ?_
       clear hK K
       refine wpAny_ready (rs := [5]) (by kernel_rfl) (by simp) ?_
       refine AllReady.cons rfl (fun K hK => ?_) AllReady.nil
       refine step_append_lies _ rfl (.tmp 66) (.tmp 69) 26 rfl (n1 + 8) 28 i0 zeroN 3 48 Tryz.underlying26 hi0 hz0 hz1 hz2 rfl (by omega) (.slice sla st.pre.length slc) st.pre.length (vs.flatMap trip) (by simp [Act.eval, Act.put]) ho1 ⟨W.heap.size, 0, none⟩ 1 1 [.int .i64 0, .string ⟨#[]⟩, .slice none 0 0] (by simp [Act.eval, Act.put]) rfl hnw hoc (by omega) (by unfold maxLen; omega) (by omega) (by simp; omega) (W.heap.size + 1) (by simp) ?_
       intro gg cap w1 hown1 hgrow hat hglt
       refine hK _ _ ?_
       clear hK K
       have F79 := H_ (tell79 (c0 := .int .i64 xt) (c1 := .string xd) (c2 := .slice xa xn xc) hn1 hInv hsz hnb hvl hNs ho hN hlo hol hgrow hat hown1)
       have F97 := H_ (tell97 (c0 := .int .i64 xt) (c1 := .string xd) (c2 := .slice xa xn xc) hn1 hInv hsz hnb hvl hNs ho hN hlo hol hgrow hat hown1)
       obtain ⟨⟨l0, l1, l2⟩, m0, m1, m2⟩ := lastCells hown1
       obtain ⟨n0, k0⟩ := (un HNB) w1 hgrow
       have hne : gg ≠ n1 + 1 := by rcases hat with h | h; (have := (ho.lt _ h).1; omega); omega
       have n3 : ∀ x y z, (((w1.setCell ⟨gg, st.pre.length * 3, none⟩ x).setCell ⟨gg, st.pre.length * 3 + 1, none⟩ y).setCell ⟨gg, st.pre.length * 3 + 2, none⟩ z).cell? ⟨n1 + 1, 2, none⟩ = some (.slice sla st.pre.length slc) := fun x y z => by rw [World.cell?_setCell_far _ _ _ _ (by simp; omega), World.cell?_setCell_far _ _ _ _ (by simp; omega), World.cell?_setCell_far _ _ _ _ (by simp; omega)]; exact n0
       have l0' : ∀ v, (w1.setCell ⟨n1 + 1, 2, none⟩ v).cell? ⟨gg, st.pre.length * 3, none⟩ = some (.int .i64 0) := fun v => by rw [World.cell?_setCell_far _ _ _ _ (by simp; omega)]; exact l0
       have l1' : ∀ v, (w1.setCell ⟨n1 + 1, 2, none⟩ v).cell? ⟨gg, st.pre.length * 3 + 1, none⟩ = some (.string ⟨#[]⟩) := fun v => by rw [World.cell?_setCell_far _ _ _ _ (by simp; omega)]; exact l1
       have l2' : ∀ v, (w1.setCell ⟨n1 + 1, 2, none⟩ v).cell? ⟨gg, st.pre.length * 3 + 2, none⟩ = some (.slice none 0 0) := fun v => by rw [World.cell?_setCell_far _ _ _ _ (by simp; omega)]; exact l2
       clear hown1 hgrow hat
       refine wpAny_take (i := 8) (v := .pointer (some ⟨n1 + 1, 2, none⟩)) rfl (by kernel_rfl) (by kernel_rfl) (by kernel_rfl) (fun _ _ _ h => h) (Or.inl ⟨by rfl, by intro w; go_simp⟩) ?_
       refine wpAny_take (i := 6) (v := .pointer (some ⟨gg, st.pre.length * 3, none⟩)) rfl (by kernel_rfl) (by kernel_rfl) (by kernel_rfl) (fun _ _ _ h => h) (Or.inl ⟨by rfl, by intro w; go_simp; intro h; omega⟩) ?_
       refine wpAny_ready (rs := [7, 9]) (by kernel_rfl) (by simp) ?_
       refine AllReady.cons rfl (fun K hK => ?_) (AllReady.cons rfl (fun K hK => ?_) AllReady.nil)
       ·go_simp
        refine hK _ _ ?_
        clear hK K
        refine wpAny_ready (rs := [9]) (by kernel_rfl) (by simp) ?_
        refine AllReady.cons rfl (fun K hK => ?_) AllReady.nil
        go_simp
        refine hK _ _ ?_
        clear hK K
        refine wpAny_done (by kernel_rfl) ?_ _
        rw [hz]
        exact un F79
       ·go_simp
        refine hK _ _ ?_
        clear hK K
        refine wpAny_ready (rs := [7]) (by kernel_rfl) (by simp) ?_
        refine AllReady.cons rfl (fun K hK => ?_) AllReady.nil
        go_simp
        refine hK _ _ ?_
        clear hK K
        refine wpAny_done (by kernel_rfl) ?_ _
        rw [hz]
        exact un F97
     ·go_simp
      refine hK _ _ ?_
      clear hK K
      refine wpAny_ready (rs := [1]) (by kernel_rfl) (by simp) ?_
      refine AllReady.cons rfl (fun K hK => ?_) AllReady.nil
      ·go_simp
       refine hK _ _ ?_
       clear hK K
       refine wpAny_take (i := 3) (v := .int .i64 st.pre.length) rfl (by kernel_rfl) (by kernel_rfl) (by kernel_rfl) (fun _ _ _ h => h) (Or.inl ⟨by rfl, by intro w; go_simp⟩) ?_
       refine wpAny_ready (rs := [5]) (by kernel_rfl) (by simp) ?_
       refine AllReady.cons rfl (fun K hK => ?_) AllReady.nil
       refine step_append_lies _ rfl (.tmp 66) (.tmp 69) 26 rfl (n1 + 8) 28 i0 zeroN 3 48 Tryz.underlying26 hi0 hz0 hz1 hz2 rfl (by omega) (.slice sla st.pre.length slc) st.pre.length (vs.flatMap trip) (by simp [Act.eval, Act.put]) ho1 ⟨W.heap.size, 0, none⟩ 1 1 [.int .i64 0, .string ⟨#[]⟩, .slice none 0 0] (by simp [Act.eval, Act.put]) rfl hnw hoc (by omega) (by unfold maxLen; omega) (by omega) (by simp; omega) (W.heap.size + 1) (by simp) ?_
       intro gg cap w1 hown1 hgrow hat hglt
       refine hK _ _ ?_
       clear hK K
       have F79 := H_ (tell79 (c0 := .int .i64 xt) (c1 := .string xd) (c2 := .slice xa xn xc) hn1 hInv hsz hnb hvl hNs ho hN hlo hol hgrow hat hown1)
       have F97 := H_ (tell97 (c0 := .int .i64 xt) (c1 := .string xd) (c2 := .slice xa xn xc) hn1 hInv hsz hnb hvl hNs ho hN hlo hol hgrow hat hown1)
       obtain ⟨⟨l0, l1, l2⟩, m0, m1, m2⟩ := lastCells hown1
       obtain ⟨n0, k0⟩ := (un HNB) w1 hgrow
       have hne : gg ≠ n1 + 1 := by rcases hat with h | h; (have := (ho.lt _ h).1; omega); omega
       have n3 : ∀ x y z, (((w1.setCell ⟨gg, st.pre.length * 3, none⟩ x).setCell ⟨gg, st.pre.length * 3 + 1, none⟩ y).setCell ⟨gg, st.pre.length * 3 + 2, none⟩ z).cell? ⟨n1 + 1, 2, none⟩ = some (.slice sla st.pre.length slc) := fun x y z => by rw [World.cell?_setCell_far _ _ _ _ (by simp; omega), World.cell?_setCell_far _ _ _ _ (by simp; omega), World.cell?_setCell_far _ _ _ _ (by simp; omega)]; exact n0
       have l0' : ∀ v, (w1.setCell ⟨n1 + 1, 2, none⟩ v).cell? ⟨gg, st.pre.length * 3, none⟩ = some (.int .i64 0) := fun v => by rw [World.cell?_setCell_far _ _ _ _ (by simp; omega)]; exact l0
       have l1' : ∀ v, (w1.setCell ⟨n1 + 1, 2, none⟩ v).cell? ⟨gg, st.pre.length * 3 + 1, none⟩ = some (.string ⟨#[]⟩) := fun v => by rw [World.cell?_setCell_far _ _ _ _ (by simp; omega)]; exact l1
       have l2' : ∀ v, (w1.setCell ⟨n1 + 1, 2, none⟩ v).cell? ⟨gg, st.pre.length * 3 + 2, none⟩ = some (.slice none 0 0) := fun v => by rw [World.cell?_setCell_far _ _ _ _ (by simp; omega)]; exact l2
       clear hown1 hgrow hat
       refine wpAny_take (i := 8) (v := .pointer (some ⟨n1 + 1, 2, none⟩)) rfl (by kernel_rfl) (by kernel_rfl) (by kernel_rfl) (fun _ _ _ h => h) (Or.inl ⟨by rfl, by intro w; go_simp⟩) ?_
       refine wpAny_take (i := 6) (v := .pointer (some ⟨gg, st.pre.length * 3, none⟩)) rfl (by kernel_rfl) (by kernel_rfl) (by kernel_rfl) (fun _ _ _ h => h) (Or.inl ⟨by rfl, by intro w; go_simp; intro h; omega⟩) ?_
       refine wpAny_ready (rs := [7, 9]) (by kernel_rfl) (by simp) ?_
       refine AllReady.cons rfl (fun K hK => ?_) (AllReady.cons rfl (fun K hK => ?_) AllReady.nil)
       ·go_simp
        refine hK _ _ ?_
        clear hK K
        refine wpAny_ready (rs := [9]) (by kernel_rfl) (by simp) ?_
        refine AllReady.cons rfl (fun K hK => ?_) AllReady.nil
        go_simp
        refine hK _ _ ?_
        clear hK K
        refine wpAny_done (by kernel_rfl) ?_ _
        rw [hz]
        exact un F79
       ·go_simp
        refine hK _ _ ?_
        clear hK K
        refine wpAny_ready (rs := [7]) (by kernel_rfl) (by simp) ?_
        refine AllReady.cons rfl (fun K hK => ?_) AllReady.nil
        go_simp
        refine hK _ _ ?_
        clear hK K
        refine wpAny_done (by kernel_rfl) ?_ _
        rw [hz]
        exact un F97
   intro e a1 w1 hq
   cases e with
   | normal =>
    obtain ⟨h1, h2, h3⟩ := hq
    obtain ⟨_, _, _, _, p5, p6⟩ := readT_props s.data.toList k st.q b st.c T nx c' (by simpa using hb) hc2 hg.symm
    have hcp := count_pos _ T
    exact ⟨⟨_, rfl⟩, h1, h2, h3, by simp [nxt]; omega, p6⟩
   | _ => exact hq.elim
 case done =>
  rintro st W ⟨hok, hT⟩ ⟨hInv, hlen, hc2⟩ hK
  obtain ⟨a0, a1, a2⟩ := (cells3 hInv.hb).1
  obtain ⟨sl, hnb, hgr⟩ := hInv.nb
  obtain ⟨d0, d1, d2⟩ := (cells3 hnb).1
  obtain ⟨⟨c0, c1, c2, c3, c4⟩, r0, r1, r2, r3, r4⟩ := hInv.ans.cells
  obtain ⟨sla, slc, rfl⟩ := hgr.form
  go_wp2
  refine wp_mono (Q := fun e a1 w1 => match e with | .normal => a1 = actT w.heap.size n1 R p stop deep t a b undef undef undef undef (.agg #[.int .i64 t, .string ⟨#[]⟩, .slice sla st.pre.length slc]) (.pointer (some ⟨n1, 2, none⟩)) (.int .i64 b) [{ target := .collected W0.heap.size, args := #[] }] /\
    w1 = (((((W.setCell ⟨w.heap.size, 0, none⟩ (.int .i64 t)).setCell ⟨w.heap.size, 1, none⟩ (.string ⟨#[]⟩)).setCell ⟨w.heap.size, 2, none⟩ (.slice sla st.pre.length slc)).setCell ⟨w.heap.size + 1, 0, none⟩ (.int .i64 b)).setCell ⟨w.heap.size + 1 + 1, 0, none⟩ .nilIface).drew | _ => False) ?_ ?_
  ·go_region
   all_goals exact ⟨rfl, rfl⟩
  intro e a1 w5 hq
  cases e with
  | normal =>
   obtain ⟨rfl, hw5⟩ := hq
   have hK5 : w5.heap[W0.heap.size]? = some (.deferred (some [])) := ((stored5' hInv.ans hw5).2.2.2.1 _ (by omega) (by omega) (by omega)).trans hK
   have Hw5 := H_ hw5
   clear hw5
   go_wp2
   refine ⟨by simp, .inl ⟨_, _, rfl, run_takeDeferred hK5, ?_⟩⟩
   go_light
   obtain ⟨⟨u0, u1, u2, u3, u4⟩, hp⟩ := doneT (A := A) (V' := w5.putObj W0.heap.size (.deferred none)) hR hn1 hInv hT hgr (by omega) hok (un Hw5) (by rw [hz])
   generalize w5.putObj W0.heap.size (.deferred none) = W6 at *
   exact ⟨.tuple #[.agg #[.int .i64 t, .string ⟨#[]⟩, .slice sla st.pre.length slc], .int .i64 b, .nilIface], by simp [results, Tryz.results99, go_sem, u0, u1, u2, u3, u4], hp⟩
  | _ => exact hq.elim
 case stop =>
  rintro cd st W ⟨E, h1, h2⟩ ⟨rfl, v, E', h3, h4, hO⟩ hK
  obtain rfl : E' = E := by rw [h3] at h2; cases h2; rfl
  gi_wp2
  refine ⟨by simp, .inl ⟨_, _, rfl, run_takeDeferred hK, ?_⟩⟩
  go_light
  obtain ⟨⟨u0, u1, u2, u3, u4⟩, hp⟩ := stopT (k := k) (t := t) (b := b) (s := s) (V' := W.putObj W0.heap.size (.deferred none)) hn1 hO h4 h1 (by rw [hz])
  generalize W.putObj W0.heap.size (.deferred none) = W6 at *
  exact ⟨.tuple #[zeroN, .int .i64 0, v], by simp [results, Tryz.results99, go_sem, u0, u1, u2, u3, u4], hp⟩
end Go.Proofs.YtmenllnokgjdlaaGreatDoor
/-
 What tlv.measure answers. Conditions: the tree's bytes are at most 16000000.
-/
namespace Go.Proofs.YtmenllnokgjdlaaGreatDoor
open Go.RowKit Tv
theorem flat_sum {α : Type} (f : α -> List UInt8) (xs : List α) : (xs.map f).flatten.length = (xs.map fun x => (f x).length).sum := by
 simp [List.length_flatten, List.map_map, Function.comp_def]
theorem sum_take_succ {α : Type} (f : α -> Nat) (xs : List α) (i : Nat) (h : i < xs.length) : ((xs.take (i + 1)).map f).sum = ((xs.take i).map f).sum + f xs[i] := by
 rw [List.take_succ_eq_append_getElem h, List.map_append, List.sum_append]; simp
theorem sum_take_le {α : Type} (f : α -> Nat) (xs : List α) (i : Nat) : ((xs.take i).map f).sum <= (xs.map f).sum := by
 have : (xs.map f).sum = ((xs.take i).map f).sum + ((xs.drop i).map f).sum := by rw [<- List.sum_append, <- List.map_append, List.take_append_drop]
 omega
def bodyTo {n : Nat} (T : Tr (n + 1)) (i : Nat) : Nat := (dat T).size + (((kids T).take i).map fun x => (enc n x).length).sum
theorem bodyTo_succ {n : Nat} (T : Tr (n + 1)) (i : Nat) (h : i < (kids T).length) : bodyTo T (i + 1) = bodyTo T i + (enc n (kids T)[i]).length := by
 unfold bodyTo; rw [sum_take_succ _ _ _ h]; omega
theorem body_len {n : Nat} (T : Tr (n + 1)) : (body T).length = (dat T).size + ((kids T).map fun x => (enc n x).length).sum := by
 unfold body; rw [List.length_append, flat_sum]; rfl
theorem bodyTo_all {n : Nat} (T : Tr (n + 1)) (i : Nat) (h : (kids T).length <= i) : bodyTo T i = (body T).length := by
 unfold bodyTo; rw [List.take_of_length_le h, body_len]
theorem bodyTo_le {n : Nat} (T : Tr (n + 1)) (i : Nat) : bodyTo T i <= (body T).length := by
 unfold bodyTo; rw [body_len]; have := sum_take_le (fun x => (enc n x).length) (kids T) i; omega
theorem szl (n : Nat) : sz n = ((Sz.least n).length : Nat) := by
 unfold sz
 rw [Sz.least_length]
 split <;> simp
theorem size_nat (n : Nat) (w : World) (h : n <= 16777215) : Calls Tryz.prog 109 #[.int .i64 (n : Int)] w fun e w' => e = .returned (.tuple #[.int .i64 ((Sz.least n).length : Nat), .int .i64 0]) /\ Below w.heap.size w w' := by
 have := size_ok n w (by omega) (by omega)
 rw [Int.toNat_natCast, szl] at this
 exact this
theorem kidAt {n : Nat} {w wr : World} {p : Nat -> Prop} {T : Tr (n + 1)} {v : Value} (h : Node (n + 1) w p v T) (hb : Below w.heap.size w wr) {i : Nat} (hi : i < (kids T).length) {g off : Nat} {a : Option Addr} {cap : Nat} (hv : v = .agg #[.int .i64 (tag T), .string (dat T), .slice a (kids T).length cap]) (ha : a = some ⟨g, off, none⟩) :
  ∃ t d a' len' cap', wr.cell? ⟨g, off + i * 3, none⟩ = some (.int .i64 t) /\ wr.cell? ⟨g, off + i * 3 + 1, none⟩ = some (.string d) /\ wr.cell? ⟨g, off + i * 3 + 2, none⟩ = some (.slice a' len' cap') /\ Node n wr p (.agg #[.int .i64 t, .string d, .slice a' len' cap']) (kids T)[i] := by
 obtain ⟨a1, cap1, e, _, _, hk⟩ := h.shape
 rw [hv] at e
 injection e with e
 have e' := congrArg Array.toList e
 simp only [List.cons.injEq, Value.slice.injEq, true_and, and_true] at e'
 obtain ⟨rfl, rfl⟩ := e'
 obtain ⟨g', off', e2, _, t, d, a', len', cap', c0, c1, c2, hN⟩ := hk i hi
 rw [ha] at e2
 cases e2
 exact ⟨t, d, a', len', cap', (hb.cell (lt_of_cell c0)).trans c0, (hb.cell (lt_of_cell c1)).trans c1, (hb.cell (lt_of_cell c2)).trans c2, hN.below hb⟩
theorem kidsAt {n : Nat} {w : World} {p : Nat -> Prop} {T : Tr (n + 1)} {v : Value} (h : Node (n + 1) w p v T) : ∃ g off cap a, v = .agg #[.int .i64 (tag T), .string (dat T), .slice a (kids T).length cap] /\ (dat T).size <= 9000 /\ (kids T).length <= 4000 /\ (a = some ⟨g, off, none⟩ \/ kids T = []) := by
 obtain ⟨a, cap, hv, hd, hk, h⟩ := h
 rcases h with h | ⟨g, off, ha, _, _⟩
 ·exact ⟨0, 0, cap, a, hv, hd, hk, .inr h⟩
 ·exact ⟨g, off, cap, a, hv, hd, hk, .inl ha⟩
theorem measure_any : ∀ (n : Nat) (T : Tr n) (w : World) (p : Nat -> Prop) (v : Value), Node n w p v T -> (enc n T).length <= 16000000 ->
  Calls Tryz.prog 70 #[v] w fun e w' => e = .returned (.int .i64 (enc n T).length) /\ Below w.heap.size w w' := by
 intro n
 induction n with
 | zero => intro T; exact Empty.elim T
 | succ n ih =>
  intro T w p v hN hlen
  obtain ⟨g, off, cap, a, hv, hd, hk, hks⟩ := kidsAt hN
  have hel := enc_len T
  have hbl : (body T).length <= 16000000 := by omega
  have IH := H_ ih
  have HN := H_ hN
  have Hel := H_ hel
  have hle := fun i => bodyTo_le T i
  subst hv
  clear ih hN hel
  have hk' : ((kids T).length : Int) <= 4000 := by omega
  go_enter Tryz.func70, Tryz.ntmps70
  go_wp2
  go_loopw [3, 14] (fun x y wr => ∃ i : Nat, i <= (kids T).length /\ x = .int .i64 (bodyTo T i) /\ y = .int .i64 i /\ Below w.heap.size w wr) (fun _ y _ => (kids T).length - (intOf y).toNat)
  case atStart => exact ⟨0, Nat.zero_le _, by simp [bodyTo], rfl, (Below.refl _ _).alloc (Nat.le_refl _) _⟩
  case round =>
   obtain ⟨i, hi, rfl, rfl, hb⟩ := hrel
   by_cases hlt : i < (kids T).length
   ·have ha : a = some ⟨g, off, none⟩ := hks.resolve_right (fun e => by rw [e] at hlt; cases hlt)
    obtain ⟨t, d, a', len', cap', c0, c1, c2, hNi⟩ := kidAt (un HN) hb hlt rfl ha
    have hkl := kid_body T (kids T)[i] (List.getElem_mem hlt)
    have hsu := H_ (bodyTo_succ T i hlt)
    have h1 := hle i
    have h2 := hle (i + 1)
    have H := H_ (fun o => (un IH) (kids T)[i] (wr.alloc o) p _ (hNi.below ((Below.refl _ _).alloc (Nat.le_refl _) _)) (by omega))
    have hlt' : (i : Int) < (kids T).length := by omega
    have h1' : ((bodyTo T i : Nat) : Int) <= 16000000 := by omega
    have h3' : (((enc n (kids T)[i]).length : Nat) : Int) <= 16000000 := by omega
    subst ha
    clear hle hNi hks
    go_wp2_with (go_at_call 70; refine ((un H) _).mono ?_; rintro e w' ⟨rfl, hb2⟩)
    go_roundw
    case rel => exact ⟨i + 1, by omega, by rw [un hsu]; simp, by simp, hb.trans (((Below.refl _ _).alloc (Nat.le_refl _) _).trans (hb2.mono (by simp)) |>.mono hb.size)⟩
    case measure => simp [intOf]; omega
   ·have hall := H_ (bodyTo_all T i (by omega))
    have hge : ¬ (i : Int) < (kids T).length := by omega
    have hz : bodyTo T i <= 16000000 := by have := hle i; omega
    have hz' : ((bodyTo T i : Nat) : Int) <= 16000000 := by omega
    have S := size_nat (bodyTo T i) wr (by omega)
    have hl5 := least_len (bodyTo T i)
    have hl5' : (((Sz.least (bodyTo T i)).length : Nat) : Int) <= 5 := by omega
    clear hle hks
    go_wp2_with (go_at_call 109; refine S.mono ?_; rintro e w' ⟨rfl, hb2⟩)
    go_ret
    refine ⟨?_, hb.trans (hb2.mono hb.size)⟩
    rw [un Hel, <- un hall]
    show Ending.returned (Value.int .i64 _) = Ending.returned (Value.int .i64 _)
    congr 2
end Go.Proofs.YtmenllnokgjdlaaGreatDoor
