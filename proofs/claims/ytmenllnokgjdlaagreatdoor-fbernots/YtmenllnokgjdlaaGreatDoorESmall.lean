/- What esc.text's has, begins, ends, piece and reserved answer. Conditions: none. -/
import Derived.Test.YtmenllnokgjdlaaGreatDoorG08
import Derived.Test.YtmenllnokgjdlaaGreatDoorEPure
import Derived.Test.YtmenllnokgjdlaaGreatDoorG15
set_option maxHeartbeats 2000000
set_option maxRecDepth 100000
namespace Go.Proofs.YtmenllnokgjdlaaGreatDoor.E
open Go Go.RowKit Ec
attribute [local go_sem] Oper.semAt_some
abbrev bx (s : ByteArray) : Obj := .cells #[.string s] 226
def hv (s : ByteArray) (p : Nat) (l : List UInt8) : Bool := if h : p < s.size then l.contains s[p] else false
theorem hv_no {s : ByteArray} {p : Nat} (l : List UInt8) (h : ¬ p < s.size) : hv s p l = false := by unfold hv; rw [dif_neg h]
theorem hv_at {s : ByteArray} {p : Nat} (l : List UInt8) (h : p < s.size) : hv s p l = l.contains s[p] := by unfold hv; rw [dif_pos h]
theorem beq_u8 (x y : UInt8) (h : x ≠ y) : ((x.toNat : Int) == y.toNat) = false := by
 rw [beq_eq_false_iff_ne]
 intro e
 exact h (UInt8.toNat.inj (by omega))
theorem has_any (s : ByteArray) (p b n : Nat) (l : List UInt8) (w : World) (hn : l.length = n) (hl : n <= 10) (hb : b < w.heap.size) (hc : ∀ i x, l[i]? = some x -> w.cell? ⟨b, i, none⟩ = some (.int .u8 (x.toNat : Int))) :
  Calls Tryz.prog 165 #[.agg #[.string s], .int .i64 p, .slice (some ⟨b, 0, none⟩) n n] w fun e w' => e = .returned (.bool (hv s p l)) /\ Below w.heap.size w w' := by
 have HB := H_ ((Below.refl w.heap.size w).alloc (Nat.le_refl _) (bx s))
 by_cases hp : p < s.size
 ·rw [hv_at l hp]
  have hc' : Hid (∀ i x, l[i]? = some x -> (w.alloc (bx s)).cell? ⟨b, i, none⟩ = some (.int .u8 (x.toNat : Int))) := H_ fun i x h => by rw [World.cell?_alloc_lt _ _ _ hb]; exact hc i x h
  have hp' : ¬ (s.size : Int) <= p := by omega
  have hp2 : (p : Int) < s.size := by omega
  obtain ⟨y, hy⟩ : ∃ y, s[p] = y := ⟨_, rfl⟩
  rw [hy]
  obtain ⟨r, hr⟩ : ∃ r, l.contains y = r := ⟨_, rfl⟩
  rw [hr]
  have Hr := H_ hr
  clear hr
  have Hn := H_ hn
  clear hn hc
  go_enter Tryz.func165, Tryz.ntmps165
  go_wp2
  go_loopw [16] (fun ix wr => ∃ j : Nat, j <= n /\ ix = .int .i64 (j : Int) /\ (l.drop j).contains y = r /\ wr = w.alloc (bx s))
   (fun ix _ => n - (intOf ix).toNat)
  case atStart => exact ⟨0, Nat.zero_le _, rfl, by rw [List.drop_zero]; exact un Hr, rfl⟩
  case round =>
   obtain ⟨j, hj, rfl, hd, rfl⟩ := hrel
   by_cases hlt : j < n
   ·have hlt' : (j : Int) < n := by omega
    have hjl : j < l.length := by rw [un Hn]; exact hlt
    have hcj := un hc' j l[j] (List.getElem?_eq_getElem hjl)
    rw [List.drop_eq_getElem_cons hjl] at hd
    obtain ⟨x, hx⟩ : ∃ x, l[j] = x := ⟨_, rfl⟩
    rw [hx] at hcj hd
    clear hx
    by_cases he : y = x
    ·have heq : (y.toNat : Int) = x.toNat := by rw [he]
     obtain rfl : r = true := by rw [<- hd, he]; simp
     clear hd he
     go_wp2
     go_ret
     exact ⟨rfl, un HB⟩
    ·have heq := beq_u8 y x he
     have Hd : Hid ((l.drop (j + 1)).contains y = r) := H_ (by rw [<- hd, List.contains_cons]; simp [he])
     clear hd he
     go_wp2
     go_roundw
     case rel => exact ⟨j + 1, by omega, by simp, un Hd, by first | rfl | trivial⟩
     case measure => simp [intOf]; omega
   ·have hge : ¬ (j : Int) < n := by omega
    obtain rfl : r = false := by rw [<- hd, List.drop_of_length_le (by rw [un Hn]; omega)]; rfl
    clear hd
    go_wp2
    go_ret
    exact ⟨rfl, un HB⟩
 ·rw [hv_no l hp]
  have hp' : (s.size : Int) <= p := by omega
  clear hc
  go_enter Tryz.func165, Tryz.ntmps165
  go_wp2
  go_ret
  exact ⟨rfl, un HB⟩
theorem begins_any (s : ByteArray) (p : Nat) (w : World) :
  Calls Tryz.prog 166 #[.agg #[.string s], .int .i64 p] w fun e w' => e = .returned (.bool (decide (p = 0))) /\ Below w.heap.size w w' := by
 have HB := H_ ((Below.refl w.heap.size w).alloc (Nat.le_refl _) (bx s))
 have k0 : ((p : Int) == 0) = decide (p = 0) := by rw [Bool.eq_iff_iff]; simp
 generalize decide (p = 0) = b at *
 go_enter Tryz.func166, Tryz.ntmps166
 go_wp2
 go_ret
 exact ⟨by rw [<- k0]; rfl, un HB⟩
theorem ends_any (s : ByteArray) (p : Nat) (w : World) (hs : s.size <= 1000) :
  Calls Tryz.prog 167 #[.agg #[.string s], .int .i64 p] w fun e w' => e = .returned (.bool (decide (p + 1 = s.size))) /\ Below w.heap.size w w' := by
 have HB := H_ ((Below.refl w.heap.size w).alloc (Nat.le_refl _) (bx s))
 have e1 : wrap64 ((s.size : Int) - 1) = s.size - 1 := by unfold wrap64; omega
 have k0 : ((p : Int) == (s.size : Int) - 1) = decide (p + 1 = s.size) := by rw [Bool.eq_iff_iff]; simp; omega
 generalize decide (p + 1 = s.size) = b at *
 go_enter Tryz.func167, Tryz.ntmps167
 go_wp2
 go_ret
 exact ⟨by rw [<- k0]; rfl, un HB⟩
def pc (s : ByteArray) (p k : Nat) : ByteArray := s.extract p (min (p + k) s.size)
theorem piece_any (s : ByteArray) (p k : Nat) (w : World) (hs : s.size <= 1000) (hp : p <= s.size) (hk : k <= 2) :
  Calls Tryz.prog 145 #[.agg #[.string s], .int .i64 p, .int .i64 ((p : Int) + k)] w fun e w' => e = .returned (.string (pc s p k)) /\ Below w.heap.size w w' := by
 have HB := H_ ((Below.refl w.heap.size w).alloc (Nat.le_refl _) (bx s))
 have hp' : (p : Int) <= s.size := by omega
 unfold pc
 by_cases hq : p + k <= s.size
 ·have hsl := fun wx => run_slice_string (P := Tryz.prog) (w := wx) 9 s .i64 .i64 (p : Int) ((p : Int) + k) Tryz.underlying9 (by omega) (by omega) (by omega)
  rw [show ((p : Int)).toNat = p by omega, show ((p : Int) + k).toNat = p + k by omega] at hsl
  have hq' : (p : Int) + k <= s.size := by omega
  rw [Nat.min_eq_left hq]
  go_enter Tryz.func145, Tryz.ntmps145
  go_wp2
  go_ret
  exact ⟨rfl, un HB⟩
 ·have hsl := fun wx => run_slice_string (P := Tryz.prog) (w := wx) 9 s .i64 .i64 (p : Int) (s.size : Int) Tryz.underlying9 (by omega) (by omega) (by omega)
  rw [show ((p : Int)).toNat = p by omega, show ((s.size : Int)).toNat = s.size by omega] at hsl
  have hq' : ¬ (p : Int) + k <= s.size := by omega
  rw [Nat.min_eq_right (by omega)]
  go_enter Tryz.func145, Tryz.ntmps145
  go_wp2
  go_ret
  exact ⟨rfl, un HB⟩
theorem has_new (s : ByteArray) (p : Nat) (l : List UInt8) (W : World) (arr : Array Value) (t : TypeId) (n b : Nat) (harr : arr = (l.map fun x => Value.int .u8 (x.toNat : Int)).toArray) (hn : l.length = n) (hl : n <= 10) (hb : b = W.heap.size) :
  Calls Tryz.prog 165 #[.agg #[.string s], .int .i64 p, .slice (some ⟨b, 0, none⟩) n n] (W.alloc (.cells arr t)) fun e w' => e = .returned (.bool (hv s p l)) /\ Below W.heap.size W w' := by
 subst hb
 refine (has_any s p _ n l _ hn hl (by simp) fun i x hx => ?_).mono fun e w' ⟨he, hw⟩ => ⟨he, ((Below.refl _ _).alloc (Nat.le_refl _) _).trans (hw.mono (by simp))⟩
 subst harr
 rw [World.cell?_alloc_at _ _ _ _ rfl]
 simp [hx]
structure Bx (s : ByteArray) (w W : World) : Prop where
 box : W.heap[w.heap.size]? = some (bx s)
 bel : Below w.heap.size w W
theorem Bx.new (s : ByteArray) (w : World) : Bx s w (w.alloc (bx s)) := ⟨World.alloc_heap_new _ _, (Below.refl _ _).alloc (Nat.le_refl _) _⟩
theorem Bx.lt {s : ByteArray} {w W : World} (h : Bx s w W) : w.heap.size < W.heap.size := (Array.getElem?_eq_some_iff.1 h.box).1
theorem Bx.below {s : ByteArray} {w W W' : World} (h : Bx s w W) (hb : Below W.heap.size W W') : Bx s w W' := ⟨(hb.block _ h.lt).trans h.box, h.bel.trans (hb.mono h.bel.size)⟩
theorem Bx.cell {s : ByteArray} {w W : World} (h : Bx s w W) : W.cell? ⟨w.heap.size, 0, none⟩ = some (.string s) := by
 have h1 := h.box
 simp [World.cell?, h1]
abbrev kv (nm : Bool) : Value := .int .i64 (if nm then 1 else 0)
theorem reserved_F (s : ByteArray) (p : Nat) (w : World) :
  Calls Tryz.prog 143 #[.agg #[.string s], .int .i64 0, .int .i64 p] w fun e w' => e = .returned (.bool (hv s p sF)) /\ Below w.heap.size w w' := by
 have hB := Bx.new s w
 have H := H_ fun b hb => has_new s p sF (w.alloc (bx s)) _ 5 4 b rfl rfl (by decide) hb
 generalize hv s p sF = r at *
 have HB := H_ hB
 clear hB
 go_enter Tryz.func143, Tryz.ntmps143
 go_wp2_with fail
 refine ((un H) _ (by simp)).mono ?_
 rintro e w1 ⟨rfl, hb⟩
 have HB1 := H_ ((un HB).below hb)
 clear hb
 go_wp2
 go_ret
 exact ⟨rfl, (un HB1).bel⟩
theorem reserved_N (s : ByteArray) (p : Nat) (w : World) (hs : s.size <= 1000) (r1 r2 r3 b1 b2 : Bool) (h1 : hv s p sN = r1) (h2 : hv s p [32, 35] = r2) (h3 : hv s p [32] = r3) (k1 : decide (p = 0) = b1) (k2 : decide (p + 1 = s.size) = b2) :
  Calls Tryz.prog 143 #[.agg #[.string s], .int .i64 1, .int .i64 p] w fun e w' => e = .returned (.bool (r1 || (b1 && r2) || (b2 && r3))) /\ Below w.heap.size w w' := by
 have hB := Bx.new s w
 have H1 := H_ fun W b hb => has_new s p sN W #[.int .u8 92, .int .u8 34, .int .u8 43, .int .u8 44, .int .u8 59, .int .u8 60, .int .u8 62] 5 7 b rfl rfl (by decide) hb
 have H2 := H_ fun W b hb => has_new s p [32, 35] W #[.int .u8 32, .int .u8 35] 5 2 b rfl rfl (by decide) hb
 have H3 := H_ fun W b hb => has_new s p [32] W #[.int .u8 32] 5 1 b rfl rfl (by decide) hb
 have K1 := H_ fun W => begins_any s p W
 have K2 := H_ fun W => ends_any s p W hs
 rw [h1] at H1
 rw [h2] at H2
 rw [h3] at H3
 rw [k1] at K1
 rw [k2] at K2
 have HB := H_ hB
 clear hB h1 h2 h3 k1 k2
 cases r1 <;> cases b1 <;> cases r2 <;> cases b2 <;>
 ·go_enter Tryz.func143, Tryz.ntmps143
  go_wp2_with fail
  refine ((un H1) _ _ (by simp)).mono ?_
  rintro e w1 ⟨rfl, hb⟩
  have HB1 := H_ ((un HB).below hb)
  have c1 := (un HB1).cell
  clear hb
  repeat (go_wp2_with fail; (first | with_reducible refine ((un K1) _).mono ?_ | with_reducible refine ((un K2) _).mono ?_ | with_reducible refine ((un H2) _ _ ?_).mono ?_ | with_reducible refine ((un H3) _ _ ?_).mono ?_); (first | rfl | skip); rintro e w1 ⟨rfl, hb⟩; replace HB1 := H_ ((un HB1).below hb); replace c1 := (un HB1).cell; clear hb)
  go_wp2
  go_ret
  exact ⟨by simp, (un HB1).bel⟩
theorem reserved_any (nm : Bool) (s : ByteArray) (p : Nat) (w : World) (hs : s.size <= 1000) (hp : p < s.size) :
  Calls Tryz.prog 143 #[.agg #[.string s], kv nm, .int .i64 p] w fun e w' => e = .returned (.bool (res nm s.size p s[p])) /\ Below w.heap.size w w' := by
 cases nm with
 | false =>
  have := reserved_F s p w
  rw [hv_at sF hp] at this
  exact this
 | true =>
  have := reserved_N s p w hs _ _ _ _ _ rfl rfl rfl rfl rfl
  rw [hv_at sN hp, hv_at [32, 35] hp, hv_at [32] hp] at this
  exact this
end Go.Proofs.YtmenllnokgjdlaaGreatDoor.E
