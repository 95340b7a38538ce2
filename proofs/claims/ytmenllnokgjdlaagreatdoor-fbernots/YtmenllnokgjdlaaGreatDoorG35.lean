/- Several texts in one: GNode, Walk2, Iter, Nums, Rest, Follow, Decode, Walk1, Enc. Each says what it proves, and its conditions. -/
import Derived.Test.YtmenllnokgjdlaaGreatDoorG50
set_option maxHeartbeats 2000000
set_option maxRecDepth 100000
/-
 Trees as they lie: one of more levels; a leaf. Conditions: none.
-/
namespace Go.Proofs.YtmenllnokgjdlaaGreatDoor.G
open Go Go.RowKit Gp
open Tv (Tr)
theorem node_up : ∀ {n : Nat} {W : World} {p : Nat -> Prop} {v : Value} {T : Tr n}, Node n W p v T -> Node (n + 1) W p v (up n T)
 | 0, _, _, _, t, _ => Empty.elim t
 | n + 1, W, p, v, T, ⟨a, cap, hv, hd, hk, h⟩ => by
  have hl : (Tv.kids (up (n + 1) T)).length = (Tv.kids T).length := List.length_map _
  refine ⟨a, cap, by rw [hl]; exact hv, hd, by rw [hl]; exact hk, ?_⟩
  rcases h with h | ⟨g, off, ha, hp, hx⟩
  ·left
   show (Tv.kids T).map (up n) = []
   rw [h]
   rfl
  ·refine .inr ⟨g, off, ha, hp, fun i x hi => ?_⟩
   have hi' : ((Tv.kids T).map (up n))[i]? = some x := hi
   rw [List.getElem?_map, Option.map_eq_some_iff] at hi'
   obtain ⟨y, hy, rfl⟩ := hi'
   obtain ⟨c0, c1, c2, h0, h1, h2, h3⟩ := hx i y hy
   exact ⟨c0, c1, c2, h0, h1, h2, node_up h3⟩
theorem node_up2 {n : Nat} {W : World} {p : Nat -> Prop} {v : Value} {T : Tr n} (h : Node n W p v T) : Node (n + 2) W p v (up2 n T) := node_up (node_up h)
theorem node_leaf {n : Nat} (W : World) (p : Nat -> Prop) (t : Int) (d : ByteArray) (hd : d.size <= 9000) : Node (n + 1) W p (.agg #[.int .i64 t, .string d, .slice none 0 0]) (lf t d) :=
 ⟨none, 0, rfl, hd, Nat.zero_le _, .inl rfl⟩
end Go.Proofs.YtmenllnokgjdlaaGreatDoor.G
/-
 Package size's reader, step by step: has, takeFirst, checkNumber, by their contracts. Conditions: the package-level variables hold what the program's text lays.
-/
namespace Go.Proofs.YtmenllnokgjdlaaGreatDoor
open Go.RowKit
theorem below_drewN {B : Nat} {u w : World} (h : Below B u w) (n : Nat) : Below B u (w.drewN n) := ⟨h.os, h.tape, h.output, h.size, h.block⟩
theorem has_yes (s : ByteArray) (a : Int) (w : World) (h0 : 0 <= a) (h1 : a < s.size) :
  Calls Tryz.prog 205 #[.agg #[.string s], .int .i64 a] w fun e w' => e = .returned (.bool true) /\ w' = w.alloc (.cells #[.string s] 273) := by
 go_enter Tryz.func205, Tryz.ntmps205
 go_wp2
 go_ret
 exact ⟨by simp, rfl⟩
theorem has_no (s : ByteArray) (a : Int) (w : World) (h : ¬ (0 <= a /\ a < s.size)) :
  Calls Tryz.prog 205 #[.agg #[.string s], .int .i64 a] w fun e w' => e = .returned (.bool false) /\ w' = w.alloc (.cells #[.string s] 273) := by
 by_cases h0 : 0 <= a
 ·have h1 : ¬ a < s.size := fun h' => h ⟨h0, h'⟩
  clear h
  go_enter Tryz.func205, Tryz.ntmps205
  go_wp2
  go_ret
  exact ⟨by simp, rfl⟩
 ·clear h
  go_enter Tryz.func205, Tryz.ntmps205
  go_wp2
  go_ret
  exact ⟨rfl, rfl⟩
theorem checkNumber_ok (b : Nat) (s : ByteArray) (a c n : Int) (w : World) (h : Rd b s a c n w) (hn : 0 <= n) (h' : n <= 16777215) :
  Calls Tryz.prog 190 #[.pointer (some ⟨b, 0, none⟩)] w fun e w' => e = .returned .nilIface /\ w' = w := by
 obtain ⟨h0, h1, h2, h3, f2, f3⟩ := h
 go_enter Tryz.func190, Tryz.ntmps190
 go_wp2
 go_ret
 exact ⟨rfl, rfl⟩
theorem checkNumber_no (b : Nat) (s : ByteArray) (a c n : Int) (w : World) (h : Rd b s a c n w) (hn : 16777215 < n) (hn' : n < 4294967296) :
  Calls Tryz.prog 190 #[.pointer (some ⟨b, 0, none⟩)] w fun e w' => e = .returned (.iface 234 (.agg #[.int .i64 n])) /\ w' = w := by
 obtain ⟨h0, h1, h2, h3, f2, f3⟩ := h
 go_enter Tryz.func190, Tryz.ntmps190
 go_wp2
 go_ret
 exact ⟨rfl, rfl⟩
theorem takeFirst_short (b : Nat) (s : ByteArray) (a c n : Int) (aS aF : Addr) (w : World) (h : Rd b s a c n w) (g : Glob aS aF w) (ha : ¬ (0 <= a /\ a < s.size)) :
  Calls Tryz.prog 188 #[.pointer (some ⟨b, 0, none⟩)] w fun e w' => e = .returned (.iface 350 (.pointer (some aS))) /\ Below w.heap.size w w' := by
 obtain ⟨h0, h1, h2, h3, f2, f3⟩ := h
 have hg := (g.alloc (.cells #[.string s] 273)).sh
 have Ha : Hid (¬ (0 <= a /\ a < s.size)) := ha
 clear g ha
 go_enter Tryz.func188, Tryz.ntmps188
 go_wp2
 go_region_with (go_at_call 205; refine (has_no s a _ Ha.out).mono ?_; rintro e w' ⟨rfl, rfl⟩)
 all_goals
  go_wp2
  go_ret
  exact ⟨rfl, ((Below.refl _ _).alloc (Nat.le_refl _) _).drew⟩
theorem takeFirst_low (b : Nat) (s : ByteArray) (k : Nat) (c n : Int) (w : World) (h : Rd b s k c n w) (hk : k < s.size) (hl : s[k].toNat < 128) :
  Calls Tryz.prog 188 #[.pointer (some ⟨b, 0, none⟩)] w fun e w' => e = .returned .nilIface /\ Rd b s k c s[k].toNat w' /\ But b w w' := by
 have hR := h
 obtain ⟨h0, h1, h2, h3, f2, f3⟩ := h
 obtain ⟨q0, q1, q2, q3, e2, e3⟩ := hR.alloc (.cells #[.string s] 273)
 have hk' : (k : Int) < s.size := by omega
 go_enter Tryz.func188, Tryz.ntmps188
 go_wp2
 go_region_with (go_at_call 205; refine (has_yes s k _ (by omega) hk').mono ?_; rintro e w' ⟨rfl, rfl⟩)
 all_goals
  go_wp2
  go_quiet (fail)
  go_wp2
  go_ret
  exact ⟨rfl, ((hR.alloc _).drewN _).set3 _, (((But.refl _ _).alloc _).drewN _).setCell 3 _⟩
theorem takeFirst_form (b : Nat) (s : ByteArray) (k : Nat) (c n : Int) (aS aF : Addr) (w : World) (h : Rd b s k c n w) (g : Glob aS aF w) (hk : k < s.size) (hl : s[k].toNat = 128 \/ 132 < s[k].toNat) :
  Calls Tryz.prog 188 #[.pointer (some ⟨b, 0, none⟩)] w fun e w' => e = .returned (.iface 350 (.pointer (some aF))) /\ Below w.heap.size w w' := by
 have hR := h
 obtain ⟨h0, h1, h2, h3, f2, f3⟩ := h
 obtain ⟨q0, q1, q2, q3, e2, e3⟩ := hR.alloc (.cells #[.string s] 273)
 have hg := (g.alloc (.cells #[.string s] 273)).fo
 have hk' : (k : Int) < s.size := by omega
 have t0 : ¬ (s[k].toNat : Int) < 128 := by omega
 clear g
 rcases hl with hl | hl
 ·have t1 : ((s[k].toNat : Int) == 128) = true := by rw [hl]; rfl
  clear hl
  go_enter Tryz.func188, Tryz.ntmps188
  go_wp2
  go_region_with (go_at_call 205; refine (has_yes s k _ (by omega) hk').mono ?_; rintro e w' ⟨rfl, rfl⟩)
  all_goals
   go_wp2
   go_quiet (fail)
   go_wp2
   go_ret
   exact ⟨rfl, below_drewN ((Below.refl _ _).alloc (Nat.le_refl _) _) _⟩
 ·have t1 : ((s[k].toNat : Int) == 128) = false := beq_eq_false_iff_ne.2 (by omega)
  have t2 : 132 < (s[k].toNat : Int) := by omega
  clear hl
  go_enter Tryz.func188, Tryz.ntmps188
  go_wp2
  go_region_with (go_at_call 205; refine (has_yes s k _ (by omega) hk').mono ?_; rintro e w' ⟨rfl, rfl⟩)
  all_goals
   go_wp2
   go_quiet (fail)
   go_wp2
   go_ret
   exact ⟨rfl, below_drewN ((Below.refl _ _).alloc (Nat.le_refl _) _) _⟩
theorem takeFirst_long (b : Nat) (s : ByteArray) (k : Nat) (c n : Int) (w : World) (h : Rd b s k c n w) (hk : k < s.size) (hl : 128 < s[k].toNat) (hl' : s[k].toNat <= 132) :
  Calls Tryz.prog 188 #[.pointer (some ⟨b, 0, none⟩)] w fun e w' => e = .returned .nilIface /\ Rd b s k (s[k].toNat - 128) n w' /\ But b w w' := by
 have hR := h
 obtain ⟨h0, h1, h2, h3, f2, f3⟩ := h
 obtain ⟨q0, q1, q2, q3, e2, e3⟩ := hR.alloc (.cells #[.string s] 273)
 have hk' : (k : Int) < s.size := by omega
 have t0 : ¬ (s[k].toNat : Int) < 128 := by omega
 have t1 : ((s[k].toNat : Int) == 128) = false := beq_eq_false_iff_ne.2 (by omega)
 have t2 : ¬ 132 < (s[k].toNat : Int) := by omega
 have t3 : (s[k].toNat : Int) <= 132 := by omega
 clear hl hl'
 go_enter Tryz.func188, Tryz.ntmps188
 go_wp2
 go_region_with (go_at_call 205; refine (has_yes s k _ (by omega) hk').mono ?_; rintro e w' ⟨rfl, rfl⟩)
 all_goals
  go_wp2
  go_quiet (fail)
  go_wp2
  go_ret
  exact ⟨rfl, ((hR.alloc _).drewN _).set2 _, (((But.refl _ _).alloc _).drewN _).setCell 2 _⟩
end Go.Proofs.YtmenllnokgjdlaaGreatDoor
/-
 The iterator of package size's text: 'from' hands over the bytes from a place on, one by one. Conditions: none.
-/
namespace Go.Proofs.YtmenllnokgjdlaaGreatDoor
open Go.RowKit Go.Shelf
attribute [local go_sem] Oper.semAt_some
def Two (p q : Nat) (W W' : World) : Prop := W'.heap[p]? = W.heap[p]? /\ W'.heap[q]? = W.heap[q]?
theorem Two.trans {p q : Nat} {A B C : World} (h : Two p q A B) (k : Two p q B C) : Two p q A C := ⟨k.1.trans h.1, k.2.trans h.2⟩
theorem Two.book {p q : Nat} {w : World} (hp : p < w.heap.size) (hq : q < w.heap.size) (W : World) (l : Nat) (o o' : Obj) (hl : w.heap.size <= l) (_ : W.heap[l]? = some o) (_ : o.isCells = false) (_ : o.isWalk = false) : Two p q W (W.putObj l o') :=
 ⟨World.putObj_heap_other (by omega), World.putObj_heap_other (by omega)⟩
theorem getElem_drop (s : ByteArray) (k j : Nat) (h : k + j < s.size) : (s.data.toList.drop k).take (j + 1) = (s.data.toList.drop k).take j ++ [s[k + j]] := by
 have h' : j < (s.data.toList.drop k).length := by simp; have : s.size = s.data.size := rfl; omega
 rw [List.take_succ_eq_append_getElem h']
 simp
 rfl
theorem from1_stops (n : Nat) (hn : 1 <= n) (Ba Bt k : Nat) (s : ByteArray) (w : World) (hs : s.size <= maxLen) (hk : k <= s.size)
  (hBa : w.cell? ⟨Ba, 0, none⟩ = some (.int .i64 k)) (hBt : w.cell? ⟨Bt, 0, none⟩ = some (.string s)) :
  SeqStopsK Fence.wide n Tryz.prog 221 #[.pointer (some ⟨Ba, 0, none⟩), .pointer (some ⟨Bt, 0, none⟩)] (fun x : UInt8 => #[.int .u8 x.toNat]) (Two Ba Bt)
   (fun xs => xs = s.data.toList.drop k) (fun pre => pre <+: s.data.toList.drop k) (s.size - k) w := fun l J Jx W hW hJ hJx hY h0 => by
 unfold maxLen at hs
 have hba := (hW.cell (p := ⟨Ba, 0, none⟩) (lt_of_cell hBa)).trans hBa
 have hbt := (hW.cell (p := ⟨Bt, 0, none⟩) (lt_of_cell hBt)).trans hBt
 clear hBa hBt hW
 refine callsIn_of_wp Tryz.func221 rfl trivial ?_ rfl
 simp only [Tryz.ntmps221, List.size_toArray, List.length_cons, List.length_nil, Nat.reduceAdd, Nat.reduceSub, Array.replicate_succ, Array.replicate_zero, List.push_toArray, List.append_toArray, List.nil_append, List.cons_append]
 gi_wp2
 gi_loopw [4] (fun i wr => ∃ j : Nat, k + j <= s.size /\ i = .int .i64 ((k + j : Nat) : Int) /\ J ((s.data.toList.drop k).take j) wr /\ wr.cell? ⟨Ba, 0, none⟩ = some (.int .i64 k) /\ wr.cell? ⟨Bt, 0, none⟩ = some (.string s))
  (fun i _ => s.size - (intOf i).toNat)
 case atStart => exact ⟨0, hk, rfl, h0, hba, hbt⟩
 case round =>
  obtain ⟨j, hj, rfl, hJs, ha, ht⟩ := hrel
  obtain ⟨i, hi⟩ : ∃ i, i = k + j := ⟨_, rfl⟩
  have Hi : Hid (i = k + j) := hi
  rw [<- hi] at hj ⊢
  clear hi
  have hal := lt_of_cell ha
  have htl := lt_of_cell ht
  have ha1 : (wr.alloc (.cells #[.string s] 273)).cell? ⟨Ba, 0, none⟩ = some (.int .i64 k) := by rw [World.cell?_alloc_lt _ _ _ hal]; exact ha
  have ht1 : (wr.alloc (.cells #[.string s] 273)).cell? ⟨Bt, 0, none⟩ = some (.string s) := by rw [World.cell?_alloc_lt _ _ _ htl]; exact ht
  by_cases hlt : i < s.size
  ·have hJ1 : J ((s.data.toList.drop k).take j) (wr.alloc (.cells #[.string s] 273)) := hJ _ _ _ none hJs (World.grownBy_alloc _ _ none) (by intro r e; cases e)
   obtain ⟨fn, tmps, assign, body, hy, hR⟩ := hY _ s[i] _ hJ1 (by simp; have := Hi.out; omega)
   have hlt' : (i : Int) < s.size := by omega
   gi_wp2_with (refine ⟨trivial, ?_⟩; gi_at_call 205; refine (callsIn_wide.2 (has_yes s i _ (by omega) hlt')).mono ?_; rintro e w' ⟨rfl, rfl⟩)
   refine hR.mono ?_
   rintro e W3 (⟨rfl, hJ3, hk3⟩ | ⟨rfl, hJx3⟩)
   ·gi_wp2
    go_roundw
    case rel =>
     have e := Hi.out
     subst e
     rw [<- getElem_drop s k j hlt] at hJ3
     exact ⟨j + 1, by omega, by simp; omega, hJ3, (World.cell?_of_block (w := wr.alloc (.cells #[.string s] 273)) (a := ⟨Ba, 0, none⟩) hk3.1).trans ha1, (World.cell?_of_block (w := wr.alloc (.cells #[.string s] 273)) (a := ⟨Bt, 0, none⟩) hk3.2).trans ht1⟩
    case measure => simp [intOf]; omega
   ·gi_wp2
    refine bodyPost_ret (results_none rfl _ _ _) rfl ?_
    have e := Hi.out
    subst e
    rw [<- getElem_drop s k j hlt] at hJx3
    exact ⟨⟨_, rfl⟩, .inr ⟨_, List.take_prefix _ _, hJx3⟩⟩
  ·have hge : ¬ (0 <= (i : Int) /\ (i : Int) < s.size) := by omega
   have Hge : Hid (¬ (0 <= (i : Int) /\ (i : Int) < s.size)) := hge
   clear hge
   gi_wp2_with (refine ⟨trivial, ?_⟩; gi_at_call 205; refine (callsIn_wide.2 (has_no s i _ Hge.out)).mono ?_; rintro e w' ⟨rfl, rfl⟩)
   go_end0
   have e : (s.data.toList.drop k).take j = s.data.toList.drop k := List.take_of_length_le (by simp; have := Hi.out; have : s.size = s.data.size := rfl; omega)
   rw [e] at hJs
   exact ⟨⟨_, rfl⟩, .inl ⟨_, rfl, hJ _ _ _ none hJs (World.grownBy_alloc _ _ none) (by intro r e; cases e)⟩⟩
end Go.Proofs.YtmenllnokgjdlaaGreatDoor
/-
 The model's words for u32's shift and or, at bytes. Plain arithmetic. Conditions: none.
-/
namespace Go.Proofs.YtmenllnokgjdlaaGreatDoor
open Go
theorem wrap_u32 (n : Nat) (h : n < 4294967296) : IntKind.u32.wrap (n : Int) = n := by
 simp [IntKind.wrap, IntKind.signed, IntKind.bits]
 omega
theorem wrap_mul (n : Nat) (h : 256 * n < 4294967296) : IntKind.u32.wrap ((n : Int) * 256) = (256 * n : Nat) := by
 rw [show (n : Int) * 256 = ((256 * n : Nat) : Int) by omega]
 exact wrap_u32 _ h
theorem or_byte (n : Nat) (x : UInt8) (h : 256 * n < 4294967296) : bits .or .u32 ((256 * n : Nat) : Int) (x.toNat : Int) = (256 * n + x.toNat : Nat) := by
 have hx : x.toNat < 2 ^ 8 := x.toNat_lt
 have e : (256 * n) ||| x.toNat = 256 * n + x.toNat := by
  rw [show 256 * n = n <<< 8 by rw [Nat.shiftLeft_eq]; omega, Nat.shiftLeft_add_eq_or_of_lt hx]
 rw [u32_or_nat _ _ h (by omega), e]
end Go.Proofs.YtmenllnokgjdlaaGreatDoor
/-
 What size.takeRest does. Conditions: the package-level variables hold what the program's text lays.
-/
namespace Go.Proofs.YtmenllnokgjdlaaGreatDoor
open Go.RowKit Go.Shelf
attribute [local go_sem] Oper.semAt_some
theorem from_any (s : ByteArray) (a : Int) (w : World) :
  Calls Tryz.prog 206 #[.agg #[.string s], .int .i64 a] w fun e w' => e = .returned (.func (.func 221) #[] #[.pointer (some ⟨w.heap.size + 1, 0, none⟩), .pointer (some ⟨w.heap.size, 0, none⟩)]) /\
   w' = (w.alloc (.cells #[.string s] 273)).alloc (.cells #[.int .i64 a] 3) := by
 go_enter Tryz.func206, Tryz.ntmps206
 go_wp2
 go_ret
 exact ⟨rfl, rfl⟩
theorem cellK3 (w : World) (v : Value) (t : TypeId) (o2 o3 o4 : Obj) : (((((w.alloc (.cells #[v] t)).alloc o2).alloc o3).alloc o4).drew).cell? ⟨w.heap.size, 0, none⟩ = some v := by
 show ((((w.alloc (.cells #[v] t)).alloc o2).alloc o3).alloc o4).cell? _ = _
 rw [World.cell?_alloc_lt _ _ _ (by simp <;> omega), World.cell?_alloc_lt _ _ _ (by simp <;> omega), World.cell?_alloc_lt _ _ _ (by simp), World.cell?_alloc_at _ _ _ _ rfl]
 rfl
theorem cellK2 (w : World) (v : Value) (t : TypeId) (o1 o3 o4 : Obj) : (((((w.alloc o1).alloc (.cells #[v] t)).alloc o3).alloc o4).drew).cell? ⟨w.heap.size + 1, 0, none⟩ = some v := by
 show ((((w.alloc o1).alloc (.cells #[v] t)).alloc o3).alloc o4).cell? _ = _
 rw [World.cell?_alloc_lt _ _ _ (by simp <;> omega), World.cell?_alloc_lt _ _ _ (by simp), World.cell?_alloc_at _ _ _ _ (by simp)]
 rfl
theorem frozK2 (w : World) (v : Value) (t : TypeId) (o1 o3 o4 : Obj) : (((((w.alloc o1).alloc (.cells #[v] t)).alloc o3).alloc o4).drew).frozen? ⟨w.heap.size + 1, 0, none⟩ = false := by
 show ((((w.alloc o1).alloc (.cells #[v] t)).alloc o3).alloc o4).frozen? _ = _
 rw [World.frozen?_alloc_old _ _ _ (by simp <;> omega), World.frozen?_alloc_old _ _ _ (by simp)]
 simp
theorem cellK1 (w : World) (v : Value) (t : TypeId) (o1 o2 o4 : Obj) : (((((w.alloc o1).alloc o2).alloc (.cells #[v] t)).alloc o4).drew).cell? ⟨w.heap.size + 1 + 1, 0, none⟩ = some v := by
 show ((((w.alloc o1).alloc o2).alloc (.cells #[v] t)).alloc o4).cell? _ = _
 rw [World.cell?_alloc_lt _ _ _ (by simp), World.cell?_alloc_at _ _ _ _ (by simp)]
 rfl
theorem cellK0 (w : World) (v : Value) (t : TypeId) (o1 o2 o3 : Obj) : (((((w.alloc o1).alloc o2).alloc o3).alloc (.cells #[v] t)).drew).cell? ⟨w.heap.size + 1 + 1 + 1, 0, none⟩ = some v := by
 show ((((w.alloc o1).alloc o2).alloc o3).alloc (.cells #[v] t)).cell? _ = _
 rw [World.cell?_alloc_at _ _ _ _ (by simp)]
 rfl
structure St (b rb lb : Nat) (s : ByteArray) (k c : Nat) (n l : Int) (B : Nat) (w W : World) : Prop where
 rd : Rd b s k c n W
 r : W.cell? ⟨rb, 0, none⟩ = some (.pointer (some ⟨b, 0, none⟩))
 l : W.cell? ⟨lb, 0, none⟩ = some (.int .i64 l)
 lf : W.frozen? ⟨lb, 0, none⟩ = false
 but : But b w W
 size : B <= W.heap.size
theorem St.grown {b rb lb : Nat} {s : ByteArray} {k c : Nat} {n l : Int} {B : Nat} {w W W' : World} {row : Option Nat} (h : St b rb lb s k c n l B w W) (hb : b < B) (hrb : rb < B) (hlb : lb < B) (hw : w.heap.size <= B)
  (hg : W.grownBy W' row) (hr : ∀ r, row = some r -> B <= r) : St b rb lb s k c n l B w W' := by
 have e : ∀ x, x < B -> W'.heap[x]? = W.heap[x]? := fun x hx => hg.block x (Nat.lt_of_lt_of_le hx h.size) (fun e => by have := hr x e.symm; omega)
 exact ⟨h.rd.of (e _ hb), (World.cell?_of_block (w := W) (e _ hrb)).trans h.r, (World.cell?_of_block (w := W) (e _ hlb)).trans h.l, (World.frozen?_of_block (w := W) (e _ hlb)).trans h.lf,
  ⟨hg.os.trans h.but.os, hg.tape.trans h.but.tape, hg.output.trans h.but.output, Nat.le_trans h.but.size hg.size, fun x hx hn => (e x (by omega)).trans (h.but.block x hx hn)⟩, Nat.le_trans h.size hg.size⟩
theorem St.setL {b rb lb : Nat} {s : ByteArray} {k c : Nat} {n l : Int} {B : Nat} {w W : World} (h : St b rb lb s k c n l B w W) (hw : w.heap.size <= lb) (hb : b ≠ lb) (hrb : rb ≠ lb) (l' : Int) :
  St b rb lb s k c n l' B w (W.setCell ⟨lb, 0, none⟩ (.int .i64 l')) :=
 ⟨h.rd.of (Below.heap_setCell _ _ _ _ hb), (World.cell?_of_block (w := W) (a := ⟨rb, 0, none⟩) (Below.heap_setCell _ _ _ _ hrb)).trans h.r, World.cell?_setCell_same' _ _ _ (by rw [h.l]; rfl), by rw [World.frozen?_setCell]; exact h.lf,
  ⟨h.but.os, h.but.tape, h.but.output, by simpa [World.setCell] using h.but.size, fun x hx hn => (Below.heap_setCell W ⟨lb, 0, none⟩ _ x (by simp; omega)).trans (h.but.block x hx hn)⟩, by simpa [World.setCell] using h.size⟩
def RestPost (b : Nat) (s : ByteArray) (k c m : Nat) (aS : Addr) (w : World) (e : Ending) (w' : World) : Prop := But b w w' /\
   (if c <= s.size - (k + 1) then e = .returned .nilIface /\ Rd b s k c (Sz.numFrom m ((s.data.toList.drop (k + 1)).take c)) w' else e = .returned (.iface 350 (.pointer (some aS))) /\ ∃ n, Rd b s k c n w')
theorem takeRest_any (b : Nat) (s : ByteArray) (k c : Nat) (m : Nat) (aS aF : Addr) (w : World) (h : Rd b s k c m w) (g : Glob aS aF w) (hs : s.size <= maxLen) (hk : k < s.size) (hc : c <= 4) (hm : (m + 1) * 256 ^ c <= 4294967296)
  (hgb' : GB aS aF b) :
  Calls Tryz.prog 189 #[.pointer (some ⟨b, 0, none⟩)] w (RestPost b s k c m aS w) := by
 unfold maxLen at hs
 have hR := h
 have hR1 := fun o => h.alloc o
 have hR2 := fun o o' => (h.alloc o).alloc o'
 obtain ⟨h0, h1, h2, h3, f2, f3⟩ := h
 have q2 := fun o => (hR1 o).h2
 have r0 := fun o o' => (hR2 o o').h0
 have r1 := fun o o' => (hR2 o o').h1
 have hw1 : IntKind.i64.wrap ((k : Int) + 1) = (k : Int) + 1 := by rw [IntKind.wrap_i64]; omega
 refine (callsIn_wide (n := 3)).1 ?_
 refine callsIn_of_wp_marks Tryz.func189 rfl trivial ?_ rfl
 simp only [Tryz.ntmps189, List.size_toArray, List.length_cons, List.length_nil, Nat.reduceAdd, Nat.reduceSub, Array.replicate_succ, Array.replicate_zero, List.push_toArray, List.append_toArray, List.nil_append, List.cons_append]
 refine wpIn_wide.2 ?_
 go_wp2
 refine wp_scope_straight ?_
 go_wp2
 refine wp_label ?_
 go_wp2
 refine wp_mono (Q := fun e a1 w1 => match e with | .normal => a1 = { tmps := #[.pointer (some ⟨b, 0, none⟩), .pointer (some ⟨w.heap.size, 0, none⟩), .nilIface, .pointer (some ⟨w.heap.size + 1, 0, none⟩), undef, .pointer (some ⟨b, 0, none⟩), .pointer (some ⟨b, 0, none⟩), .pointer (some ⟨b, 2, none⟩), .int .i64 c,
   .pointer (some ⟨b, 0, none⟩), .pointer (some ⟨b, 0, none⟩), .pointer (some ⟨b, 0, none⟩), .agg #[.string s], .pointer (some ⟨b, 0, none⟩), .pointer (some ⟨b, 0, none⟩), .pointer (some ⟨b, 1, none⟩), .int .i64 k, .int .i64 ((k : Int) + 1),
   .func (.func 221) #[] #[.pointer (some ⟨w.heap.size + 1 + 1 + 1, 0, none⟩), .pointer (some ⟨w.heap.size + 1 + 1, 0, none⟩)], undef, undef, undef, undef, undef, undef, undef, undef, undef, undef, undef, undef, undef, undef, undef, undef, undef, undef, undef], defers := [] }
   /\ w1 = ((((w.alloc (.cells #[.pointer (some ⟨b, 0, none⟩)] 292)).alloc (.cells #[.int .i64 c] 3)).alloc (.cells #[.string s] 273)).alloc (.cells #[.int .i64 ((k : Int) + 1)] 3)).drew | _ => False) ?_ ?_
 ·go_region_with (go_at_call 206; refine (from_any s _ _).mono ?_; rintro e w' ⟨rfl, rfl⟩)
  all_goals exact ⟨rfl, rfl⟩
 intro e a1 w1 hq
 cases e with
 | normal =>
  obtain ⟨rfl, rfl⟩ := hq
  go_wp2
  clear q2 r0 r1 hw1 hR1 hR2 h0 h1 h2 h3 f2 f3
  have hbl := hR.lt
  obtain ⟨W0, hW0⟩ : ∃ W0, W0 = ((((w.alloc (.cells #[.pointer (some ⟨b, 0, none⟩)] 292)).alloc (.cells #[.int .i64 c] 3)).alloc (.cells #[.string s] 273)).alloc (.cells #[.int .i64 ((k : Int) + 1)] 3)).drew := ⟨_, rfl⟩
  have hz : W0.heap.size = w.heap.size + 4 := by rw [hW0]; simp
  have hSt : St b w.heap.size (w.heap.size + 1) s k c m c (w.heap.size + 4) w W0 := by
   rw [hW0]
   exact ⟨((((hR.alloc _).alloc _).alloc _).alloc _).drew, cellK3 _ _ _ _ _ _, cellK2 _ _ _ _ _ _, frozK2 _ _ _ _ _ _, (((((But.refl _ _).alloc _).alloc _).alloc _).alloc _).drew, by simp⟩
  have hBa : W0.cell? ⟨w.heap.size + 1 + 1 + 1, 0, none⟩ = some (.int .i64 ((k + 1 : Nat) : Int)) := by rw [hW0]; exact cellK0 _ _ _ _ _ _
  have hBt : W0.cell? ⟨w.heap.size + 1 + 1, 0, none⟩ = some (.string s) := by rw [hW0]; exact cellK1 _ _ _ _ _ _
  rw [<- hW0]
  clear hW0
  refine (wpIn_wide (n := 3)).1 ?_
  refine wpIn_rangeFunc_ownF rfl (by omega) (gf := 221) (lb := #[.pointer (some ⟨w.heap.size + 1 + 1 + 1, 0, none⟩), .pointer (some ⟨w.heap.size + 1 + 1, 0, none⟩)]) rfl trivial (enters_of Tryz.func221 (by kernel_rfl) rfl)
   (from1_stops (3 - 1) (by omega) (w.heap.size + 1 + 1 + 1) (w.heap.size + 1 + 1) (k + 1) s W0 (by unfold maxLen; exact hs) (by omega) hBa hBt) Two.trans (Two.book (by omega) (by omega)) (Below.refl _ _) (fun _ => rfl)
   (fun pre W => pre.length <= c /\ St b w.heap.size (w.heap.size + 1) s k c (Sz.numFrom m pre) ((c : Int) - pre.length) (w.heap.size + 4) w W)
   (fun cd pre' W => cd = .exit 0 /\ ∃ pre x, pre' = pre ++ [x] /\ pre.length = c /\ St b w.heap.size (w.heap.size + 1) s k c (Sz.numFrom m pre) 0 (w.heap.size + 4) w W)
   (fun pre A B row hs hg hr => ⟨hs.1, hs.2.grown (by omega) (by omega) (by omega) (by omega) hg (fun r e => by have := (hr r e).1; omega)⟩)
   (fun cd pre A B row hs hg hr => by
    obtain ⟨e1, pre, x, e2, e3, hst⟩ := hs
    exact ⟨e1, pre, x, e2, e3, hst.grown (by omega) (by omega) (by omega) (by omega) hg (fun r e => by have := (hr r e).1; omega)⟩)
   ⟨Nat.zero_le _, by simpa [Sz.numFrom] using hSt⟩
   (fun x => { tmps := #[.pointer (some ⟨b, 0, none⟩), .pointer (some ⟨w.heap.size, 0, none⟩), .nilIface, .pointer (some ⟨w.heap.size + 1, 0, none⟩), .int .u8 x.toNat, .pointer (some ⟨b, 0, none⟩), .pointer (some ⟨b, 0, none⟩), .pointer (some ⟨b, 2, none⟩), .int .i64 c,
   .pointer (some ⟨b, 0, none⟩), .pointer (some ⟨b, 0, none⟩), .pointer (some ⟨b, 0, none⟩), .agg #[.string s], .pointer (some ⟨b, 0, none⟩), .pointer (some ⟨b, 0, none⟩), .pointer (some ⟨b, 1, none⟩), .int .i64 k, .int .i64 ((k : Int) + 1),
   .func (.func 221) #[] #[.pointer (some ⟨w.heap.size + 1 + 1 + 1, 0, none⟩), .pointer (some ⟨w.heap.size + 1 + 1, 0, none⟩)], .int .u8 x.toNat, undef, undef, undef, undef, undef, undef, undef, undef, undef, undef, undef, undef, undef, undef, undef, undef, undef, undef], defers := [] }) ?assign ?body ?done ?stop
  case assign =>
   intro l x W K hK
   gi_wp2
   exact hK
  case body =>
   rintro l pre x W ⟨hpl, hst⟩ _
   go_light
   have hmx : Tryz.prog.follows .mixedOrders = true := by kernel_rfl
   obtain ⟨⟨h0, h1, h2, h3, f2, f3⟩, hr, hl, hlf, hbut, hsz⟩ := id hst
   by_cases hc0 : pre.length = c
   ·have t0 : (((c : Int) - pre.length) == 0) = true := beq_iff_eq.2 (by omega)
    gi_wp2
    exact ⟨KeepsOthers.refl _, rfl, pre, x, rfl, hc0, by rw [show (c : Int) - pre.length = 0 by omega] at hst; exact hst⟩
   ·have t0 : (((c : Int) - pre.length) == 0) = false := beq_eq_false_iff_ne.2 (by omega)
    have HN : Hid (256 * Sz.numFrom m pre < 4294967296) := by
     have := Sz.numFrom_step m pre c (by omega) hm
     show _ < _
     omega
    have Hx : Hid (x.toNat < 4294967296) := by have := x.toNat_lt; show _ < _; omega
    gi_wp2
    refine wpIn_mono (Q := fun e a1 w1 => match e with | .normal => a1 = { tmps := #[.pointer (some ⟨b, 0, none⟩), .pointer (some ⟨w.heap.size, 0, none⟩), .nilIface, .pointer (some ⟨w.heap.size + 1, 0, none⟩), .int .u8 x.toNat, .pointer (some ⟨b, 0, none⟩), .pointer (some ⟨b, 0, none⟩), .pointer (some ⟨b, 2, none⟩), .int .i64 c,
     .pointer (some ⟨b, 0, none⟩), .pointer (some ⟨b, 0, none⟩), .pointer (some ⟨b, 0, none⟩), .agg #[.string s], .pointer (some ⟨b, 0, none⟩), .pointer (some ⟨b, 0, none⟩), .pointer (some ⟨b, 1, none⟩), .int .i64 k, .int .i64 ((k : Int) + 1),
     .func (.func 221) #[] #[.pointer (some ⟨w.heap.size + 1 + 1 + 1, 0, none⟩), .pointer (some ⟨w.heap.size + 1 + 1, 0, none⟩)], .int .u8 x.toNat, .int .i64 ((c : Int) - pre.length), .bool false, .pointer (some ⟨b, 0, none⟩), .pointer (some ⟨b, 0, none⟩), .pointer (some ⟨b, 0, none⟩), .pointer (some ⟨b, 3, none⟩), .int .u32 (Sz.numFrom m pre), .int .u32 (256 * Sz.numFrom m pre : Nat), .int .u8 x.toNat, .int .u32 x.toNat, .int .u32 (Sz.numFrom m (pre ++ [x])), .pointer (some ⟨b, 0, none⟩), .pointer (some ⟨b, 3, none⟩), undef, undef, undef, undef, undef], defers := [] }
     /\ w1 = (W.setCell ⟨b, 3, none⟩ (.int .u32 (Sz.numFrom m (pre ++ [x])))).drew | _ => False) ?_ ?_
    ·refine regionIn_tail 11 hmx (by kernel_rfl) (by kernel_rfl) (by rintro ⟨a, w, h⟩; exact h) ?_
     simp only [List.take_succ_cons, List.take_zero, List.drop_succ_cons, List.drop_zero]
     repeat still_step
     refine wpStill_nil ?_
     rw [wrap_mul _ HN.out, wrap_u32 _ Hx.out, or_byte _ _ HN.out, <- Sz.numFrom_snoc]
     go_wp2
    intro e a1 w1 hq
    cases e with
    | normal =>
     obtain ⟨rfl, rfl⟩ := hq
     have hst2 : St b w.heap.size (w.heap.size + 1) s k c (Sz.numFrom m (pre ++ [x])) ((c : Int) - pre.length) (w.heap.size + 4) w (W.setCell ⟨b, 3, none⟩ (.int .u32 (Sz.numFrom m (pre ++ [x])))).drew :=
      ⟨(hst.rd.set3 _).drew, by show (W.setCell _ _).cell? _ = _; rw [World.cell?_setCell_far _ _ _ _ (by simp; omega)]; exact hr, by show (W.setCell _ _).cell? _ = _; rw [World.cell?_setCell_far _ _ _ _ (by simp; omega)]; exact hl,
       by show (W.setCell _ _).frozen? _ = _; rw [World.frozen?_setCell]; exact hlf, (hbut.setCell 3 _).drew, by simpa [World.setCell] using hsz⟩
     obtain ⟨W2, hW2⟩ : ∃ W2, W2 = (W.setCell ⟨b, 3, none⟩ (.int .u32 (Sz.numFrom m (pre ++ [x])))).drew := ⟨_, rfl⟩
     rw [<- hW2] at hst2 ⊢
     have HW2 : Hid (W2 = (W.setCell ⟨b, 3, none⟩ (.int .u32 (Sz.numFrom m (pre ++ [x])))).drew) := hW2
     clear hW2 hr hl hlf hbut hsz h0 h1 h2 h3 f2 f3 t0
     obtain ⟨⟨h0, h1, h2, h3, f2, f3⟩, hr, hl, hlf, hbut, hsz⟩ := id hst2
     have hsub : (1 : Int) <= (c : Int) - pre.length := by omega
     gi_wp2
     refine ⟨?_, ?_, ?_, ?_⟩
     ·rw [HW2.out]; exact ((KeepsOthers.setCell _ _ _).trans (KeepsOthers.drew _)).trans (KeepsOthers.setCell _ _ _)
     ·rw [HW2.out]
      exact ⟨(Below.heap_setCell _ _ _ _ (show w.heap.size + 1 + 1 + 1 ≠ w.heap.size + 1 by omega)).trans (Below.heap_setCell W _ _ _ (show w.heap.size + 1 + 1 + 1 ≠ b by omega)), (Below.heap_setCell _ _ _ _ (show w.heap.size + 1 + 1 ≠ w.heap.size + 1 by omega)).trans (Below.heap_setCell W _ _ _ (show w.heap.size + 1 + 1 ≠ b by omega))⟩
     ·simp; omega
     ·have := hst2.setL (by omega) (by omega) (by omega) ((c : Int) - pre.length - 1)
      rw [show (c : Int) - ((pre ++ [x]).length : Nat) = (c : Int) - pre.length - 1 from by rw [List.length_append]; simp; omega]
      exact this
    | _ => exact hq.elim
  case done =>
   rintro D ys W hD rfl ⟨hpl, hst⟩ hK
   have hlen : (s.data.toList.drop (k + 1)).length = s.size - (k + 1) := by simp
   have hsh := (g.but hst.but hgb').sh
   have hst' := hst.grown (by omega) (by omega) (by omega) (by omega) (grownBy_putObj' W D (.deferred none)) (fun r e => by cases e; omega)
   have hl := hst.l
   by_cases hcl : c <= s.size - (k + 1)
   ·have t0 : ¬ 0 < (c : Int) - ((s.data.toList.drop (k + 1)).length : Nat) := by omega
    have Ht : Hid ((s.data.toList.drop (k + 1)).take c = s.data.toList.drop (k + 1)) := List.take_of_length_le (by omega)
    go_wp2
    refine ⟨by simp, .inl ⟨_, _, rfl, run_takeDeferred hK, ?_⟩⟩
    refine ⟨_, results_tmp rfl _ _ _, hst'.but, ?_⟩
    rw [if_pos hcl, Ht.out]
    exact ⟨rfl, hst'.rd⟩
   ·have t0 : 0 < (c : Int) - ((s.data.toList.drop (k + 1)).length : Nat) := by omega
    go_wp2
    refine ⟨by simp, .inl ⟨_, _, rfl, run_takeDeferred hK, ?_⟩⟩
    refine ⟨_, results_tmp rfl _ _ _, hst'.but, ?_⟩
    rw [if_neg hcl]
    exact ⟨rfl, _, hst'.rd⟩
  case stop =>
   rintro D c' pre' W hD hpre ⟨rfl, pre, x, rfl, hpl, hst⟩ hK
   refine wpIn_exit ?_
   have hst' := hst.grown (by omega) (by omega) (by omega) (by omega) (grownBy_putObj' W D (.deferred none)) (fun r e => by cases e; omega)
   have hl := hst.l
   have hlen : (s.data.toList.drop (k + 1)).length = s.size - (k + 1) := by simp
   have hcl : c <= s.size - (k + 1) := by have := hpre.length_le; simp at this; omega
   have Ht : Hid ((s.data.toList.drop (k + 1)).take c = pre) := by
    obtain ⟨t, ht⟩ := hpre
    show _ = _
    rw [<- ht, List.append_assoc, List.take_append_of_le_length (by omega), List.take_of_length_le (by omega)]
   clear hpre
   go_wp2
   refine ⟨by simp, .inl ⟨_, _, rfl, run_takeDeferred hK, ?_⟩⟩
   refine ⟨_, results_tmp rfl _ _ _, hst'.but, ?_⟩
   rw [if_pos hcl, Ht.out]
   exact ⟨rfl, hst'.rd⟩
 | _ => exact hq.elim
end Go.Proofs.YtmenllnokgjdlaaGreatDoor
/-
 What (*size.reader).follow answers over the three rules that Decode hands it. Conditions: the package-level variables hold what the program's text lays.
-/
namespace Go.Proofs.YtmenllnokgjdlaaGreatDoor
open Go.RowKit
structure Rules (g : Nat) (w : World) : Prop where
 r0 : w.cell? ⟨g, 0, none⟩ = some (.func (.func 188) #[] #[])
 r1 : w.cell? ⟨g, 1, none⟩ = some (.func (.func 189) #[] #[])
 r2 : w.cell? ⟨g, 2, none⟩ = some (.func (.func 190) #[] #[])
theorem Rules.of {g : Nat} {w w' : World} (h : Rules g w) (e : w'.heap[g]? = w.heap[g]?) : Rules g w' :=
 ⟨(World.cell?_of_block (w := w) e).trans h.r0, (World.cell?_of_block (w := w) e).trans h.r1, (World.cell?_of_block (w := w) e).trans h.r2⟩
theorem Rules.but {g b : Nat} {w w' : World} (h : Rules g w) (k : But b w w') (hn : g ≠ b) : Rules g w' := h.of (k.block _ (lt_of_cell h.r0) hn)
theorem follow_first (b g : Nat) (s : ByteArray) (a c n : Int) (v : Value) (T : TypeId) (w : World) (hr : Rules g w) (h : Rd b s a c n w)
  (H : Calls Tryz.prog 188 #[.pointer (some ⟨b, 0, none⟩)] w fun e w' => e = .returned (.iface T v) /\ Below w.heap.size w w') :
  Calls Tryz.prog 187 #[.pointer (some ⟨b, 0, none⟩), .slice (some ⟨g, 0, none⟩) 3 3] w fun e w' => e = .returned (.iface 296 (.agg #[.int .i64 a, .iface T v])) /\ But b w w' := by
 have H' := H.mono (R' := fun e w' => e = .returned (.iface T v) /\ w'.cell? ⟨b, 1, none⟩ = some (.int .i64 a) /\ But b w w')
  (fun e w' ⟨he, hb⟩ => ⟨he, (h.below hb h.lt).h1, But.of_below hb⟩)
 have hr0 := hr.r0
 clear H hr h
 go_enter Tryz.func187, Tryz.ntmps187
 go_wp2
 refine wp_loop_rounds 1 ?_
 rw [rounds_succ]
 go_wp2_with (go_at_call 188; refine H'.mono ?_; rintro e w' ⟨rfl, h1, hb⟩)
 go_ret
 exact ⟨rfl, hb⟩
theorem follow_rest (b g : Nat) (s : ByteArray) (k c m : Nat) (aS aF : Addr) (w : World) (hr : Rules g w) (hgb : g ≠ b) (hg : Glob aS aF w) (hs : s.size <= maxLen) (hk : k < s.size) (hc : c <= 4) (hm : (m + 1) * 256 ^ c <= 4294967296)
  (hgb' : GB aS aF b) (hcl : ¬ c <= s.size - (k + 1))
  (H : Calls Tryz.prog 188 #[.pointer (some ⟨b, 0, none⟩)] w fun e w' => e = .returned .nilIface /\ Rd b s k c m w' /\ But b w w') :
  Calls Tryz.prog 187 #[.pointer (some ⟨b, 0, none⟩), .slice (some ⟨g, 0, none⟩) 3 3] w fun e w' => e = .returned (.iface 296 (.agg #[.int .i64 k, .iface 350 (.pointer (some aS))])) /\ But b w w' := by
 have H' := H.mono (R' := fun e w' => e = .returned .nilIface /\ Hid (Rd b s k c m w') /\ But b w w' /\ w'.cell? ⟨g, 1, none⟩ = some (.func (.func 189) #[] #[]))
  (fun e w' ⟨he, hd, hb⟩ => ⟨he, hd, hb, (hr.but hb hgb).r1⟩)
 have R : ∀ w1, Rd b s k c m w1 -> But b w w1 -> Calls Tryz.prog 189 #[.pointer (some ⟨b, 0, none⟩)] w1 fun e w' => e = .returned (.iface 350 (.pointer (some aS))) /\ w'.cell? ⟨b, 1, none⟩ = some (.int .i64 k) /\ But b w w' :=
  fun w1 hd hb => (takeRest_any b s k c m aS aF w1 hd (hg.but hb hgb') hs hk hc hm hgb').mono (fun e w' hp => by
   obtain ⟨hb', hp⟩ := hp
   rw [if_neg hcl] at hp
   obtain ⟨he, n, hd'⟩ := hp
   exact ⟨he, hd'.h1, hb.trans hb'⟩)
 have HR := R
 have hr0 := hr.r0
 clear H hr hg hcl R
 have HR' : Hid (∀ w1, Rd b s k c m w1 -> But b w w1 -> Calls Tryz.prog 189 #[.pointer (some ⟨b, 0, none⟩)] w1 fun e w' => e = .returned (.iface 350 (.pointer (some aS))) /\ w'.cell? ⟨b, 1, none⟩ = some (.int .i64 k) /\ But b w w') := HR
 clear HR
 go_enter Tryz.func187, Tryz.ntmps187
 go_wp2
 refine wp_loop_rounds 2 ?_
 rw [rounds_succ]
 go_wp2_with (go_at_call 188; refine H'.mono ?_; rintro e w1 ⟨rfl, hd1, hb1, hr1⟩)
 rw [rounds_succ]
 go_wp2_with (go_at_call 189; refine (HR'.out _ hd1.out hb1).mono ?_; rintro e w2 ⟨rfl, h1, hb⟩)
 go_ret
 exact ⟨rfl, hb⟩
theorem follow_large (b g : Nat) (s : ByteArray) (k c m : Nat) (aS aF : Addr) (w : World) (hr : Rules g w) (hgb : g ≠ b) (hg : Glob aS aF w) (hs : s.size <= maxLen) (hk : k < s.size) (hc : c <= 4) (hm : (m + 1) * 256 ^ c <= 4294967296)
  (hgb' : GB aS aF b) (hcl : c <= s.size - (k + 1)) (N : Nat) (hN : N = Sz.numFrom m ((s.data.toList.drop (k + 1)).take c)) (hN1 : 16777215 < N) (hN2 : N < 4294967296)
  (H : Calls Tryz.prog 188 #[.pointer (some ⟨b, 0, none⟩)] w fun e w' => e = .returned .nilIface /\ Rd b s k c m w' /\ But b w w') :
  Calls Tryz.prog 187 #[.pointer (some ⟨b, 0, none⟩), .slice (some ⟨g, 0, none⟩) 3 3] w fun e w' => e = .returned (.iface 296 (.agg #[.int .i64 k, .iface 234 (.agg #[.int .i64 N])])) /\ But b w w' := by
 have H' := H.mono (R' := fun e w' => e = .returned .nilIface /\ Hid (Rd b s k c m w') /\ But b w w' /\ w'.cell? ⟨g, 1, none⟩ = some (.func (.func 189) #[] #[]))
  (fun e w' ⟨he, hd, hb⟩ => ⟨he, hd, hb, (hr.but hb hgb).r1⟩)
 have HR : Hid (∀ w1, Rd b s k c m w1 -> But b w w1 -> Calls Tryz.prog 189 #[.pointer (some ⟨b, 0, none⟩)] w1 fun e w' => e = .returned .nilIface /\ Hid (Rd b s k c N w') /\ But b w w' /\ w'.cell? ⟨g, 2, none⟩ = some (.func (.func 190) #[] #[]) /\ w'.cell? ⟨b, 1, none⟩ = some (.int .i64 k)) :=
  fun w1 hd hb => (takeRest_any b s k c m aS aF w1 hd (hg.but hb hgb') hs hk hc hm hgb').mono (fun e w' hp => by
   obtain ⟨hb', hp⟩ := hp
   rw [if_pos hcl, <- hN] at hp
   obtain ⟨he, hd'⟩ := hp
   exact ⟨he, hd', hb.trans hb', (hr.but (hb.trans hb') hgb).r2, hd'.h1⟩)
 have hr0 := hr.r0
 clear H hr hg hcl hN
 go_enter Tryz.func187, Tryz.ntmps187
 go_wp2
 refine wp_loop_rounds 3 ?_
 rw [rounds_succ]
 go_wp2_with (go_at_call 188; refine H'.mono ?_; rintro e w1 ⟨rfl, hd1, hb1, hr1⟩)
 rw [rounds_succ]
 go_wp2_with (go_at_call 189; refine (HR.out _ hd1.out hb1).mono ?_; rintro e w2 ⟨rfl, hd2, hb2, hr2, h1⟩)
 rw [rounds_succ]
 go_wp2_with (go_at_call 190; refine (checkNumber_no b s k c N _ hd2.out (by omega) (by omega)).mono ?_; rintro e w3 ⟨rfl, rfl⟩)
 go_ret
 exact ⟨rfl, hb2⟩
theorem follow_ok (b g : Nat) (s : ByteArray) (k c m : Nat) (aS aF : Addr) (w : World) (hr : Rules g w) (hgb : g ≠ b) (hg : Glob aS aF w) (hs : s.size <= maxLen) (hk : k < s.size) (hc : c <= 4) (hm : (m + 1) * 256 ^ c <= 4294967296)
  (hgb' : GB aS aF b) (hcl : c <= s.size - (k + 1)) (N : Nat) (hN : N = Sz.numFrom m ((s.data.toList.drop (k + 1)).take c)) (hN1 : N <= 16777215)
  (H : Calls Tryz.prog 188 #[.pointer (some ⟨b, 0, none⟩)] w fun e w' => e = .returned .nilIface /\ Rd b s k c m w' /\ But b w w') :
  Calls Tryz.prog 187 #[.pointer (some ⟨b, 0, none⟩), .slice (some ⟨g, 0, none⟩) 3 3] w fun e w' => e = .returned .nilIface /\ Rd b s k c N w' /\ But b w w' := by
 have H' := H.mono (R' := fun e w' => e = .returned .nilIface /\ Hid (Rd b s k c m w') /\ But b w w' /\ w'.cell? ⟨g, 1, none⟩ = some (.func (.func 189) #[] #[]))
  (fun e w' ⟨he, hd, hb⟩ => ⟨he, hd, hb, (hr.but hb hgb).r1⟩)
 have HR : Hid (∀ w1, Rd b s k c m w1 -> But b w w1 -> Calls Tryz.prog 189 #[.pointer (some ⟨b, 0, none⟩)] w1 fun e w' => e = .returned .nilIface /\ Hid (Rd b s k c N w') /\ But b w w' /\ w'.cell? ⟨g, 2, none⟩ = some (.func (.func 190) #[] #[])) :=
  fun w1 hd hb => (takeRest_any b s k c m aS aF w1 hd (hg.but hb hgb') hs hk hc hm hgb').mono (fun e w' hp => by
   obtain ⟨hb', hp⟩ := hp
   rw [if_pos hcl, <- hN] at hp
   obtain ⟨he, hd'⟩ := hp
   exact ⟨he, hd', hb.trans hb', (hr.but (hb.trans hb') hgb).r2⟩)
 have hr0 := hr.r0
 clear H hr hg hcl hN
 go_enter Tryz.func187, Tryz.ntmps187
 go_wp2
 refine wp_loop_rounds 4 ?_
 rw [rounds_succ]
 go_wp2_with (go_at_call 188; refine H'.mono ?_; rintro e w1 ⟨rfl, hd1, hb1, hr1⟩)
 rw [rounds_succ]
 go_wp2_with (go_at_call 189; refine (HR.out _ hd1.out hb1).mono ?_; rintro e w2 ⟨rfl, hd2, hb2, hr2⟩)
 rw [rounds_succ]
 go_wp2_with (go_at_call 190; refine (checkNumber_ok b s k c N _ hd2.out (by omega) (by omega)).mono ?_; rintro e w3 ⟨rfl, rfl⟩)
 rw [rounds_succ]
 go_wp2
 go_ret
 exact ⟨rfl, hd2.out, hb2⟩
end Go.Proofs.YtmenllnokgjdlaaGreatDoor
/-
 What size.Decode answers: for every text and place, what 'Sz.dec' says. Conditions: the package-level variables hold what the program's text lays.
-/
namespace Go.Proofs.YtmenllnokgjdlaaGreatDoor
open Go.RowKit
def W1 (w : World) (s : ByteArray) (a : Int) : World := (w.alloc (.cells #[.string s, .int .i64 a, .int .i64 0, .int .u32 0] 276)).alloc (.cells #[.func (.func 188) #[] #[], .func (.func 189) #[] #[], .func (.func 190) #[] #[]] 294)
theorem W1_below (w : World) (s : ByteArray) (a : Int) : Below w.heap.size w (W1 w s a) := ((Below.refl _ _).alloc (Nat.le_refl _) _).alloc (by simp) _
theorem W1_size (w : World) (s : ByteArray) (a : Int) : (W1 w s a).heap.size = w.heap.size + 2 := by simp [W1]
theorem W1_rd (w : World) (s : ByteArray) (a : Int) : Rd w.heap.size s a 0 0 (W1 w s a) := by
 refine Rd.alloc ?_ _
 exact ⟨by rw [World.cell?_alloc_at _ _ _ _ rfl]; rfl, by rw [World.cell?_alloc_at _ _ _ _ rfl]; rfl, by rw [World.cell?_alloc_at _ _ _ _ rfl]; rfl, by rw [World.cell?_alloc_at _ _ _ _ rfl]; rfl, by simp, by simp⟩
theorem W1_rules (w : World) (s : ByteArray) (a : Int) : Rules (w.heap.size + 1) (W1 w s a) :=
 ⟨by unfold W1; rw [World.cell?_alloc_at _ _ _ _ (by simp)]; rfl, by unfold W1; rw [World.cell?_alloc_at _ _ _ _ (by simp)]; rfl, by unfold W1; rw [World.cell?_alloc_at _ _ _ _ (by simp)]; rfl⟩
theorem decode_err (s : ByteArray) (a E : Int) (T : TypeId) (v : Value) (w : World)
  (H : Calls Tryz.prog 187 #[.pointer (some ⟨w.heap.size, 0, none⟩), .slice (some ⟨w.heap.size + 1, 0, none⟩) 3 3] (W1 w s a) fun e w' => e = .returned (.iface T v) /\ But w.heap.size (W1 w s a) w')
  (HE : ∀ w1, Below w.heap.size w w1 -> Calls Tryz.prog 125 #[.iface T v] w1 fun e w' => e = .returned (.int .i64 E) /\ Below w1.heap.size w1 w') :
  Calls Tryz.prog 172 #[.string s, .int .i64 a] w fun e w' => e = .returned (.tuple #[.int .i64 0, .int .i64 0, .int .i64 E]) /\ Below w.heap.size w w' := by
 have HE' : Hid (∀ w1, Below w.heap.size w w1 -> Calls Tryz.prog 125 #[.iface T v] w1 fun e w' => e = .returned (.int .i64 E) /\ Below w1.heap.size w1 w') := HE
 have H' := H.mono (R' := fun e w' => e = .returned (.iface T v) /\ Below w.heap.size w w') (fun e w' ⟨he, hb⟩ => ⟨he, (W1_below w s a).trans (hb.below (Nat.le_refl _) (by rw [W1_size]; omega))⟩)
 clear HE H
 unfold W1 at H'
 go_enter Tryz.func172, Tryz.ntmps172
 go_wp2_with (first | (go_at_call 187; refine H'.mono ?_; rintro e w1 ⟨rfl, hb1⟩) | (go_at_call 125; refine (HE'.out _ hb1).mono ?_; rintro e w2 ⟨rfl, hb2⟩))
 go_ret3
 exact ⟨rfl, hb1.trans (hb2.mono hb1.size)⟩
theorem decode_fine (s : ByteArray) (k c N : Nat) (w : World) (hs : s.size <= maxLen) (hk : k < s.size) (hc : c <= 4) (hN : N <= 16777215)
  (H : Calls Tryz.prog 187 #[.pointer (some ⟨w.heap.size, 0, none⟩), .slice (some ⟨w.heap.size + 1, 0, none⟩) 3 3] (W1 w s k) fun e w' => e = .returned .nilIface /\ Rd w.heap.size s k c N w' /\ But w.heap.size (W1 w s k) w')
  (hcs : k + 1 + c <= s.size) :
  Calls Tryz.prog 172 #[.string s, .int .i64 k] w fun e w' => e = .returned (.tuple #[.int .i64 N, .int .i64 ((k : Int) + 1 + c), .int .i64 0]) /\ Below w.heap.size w w' := by
 have H' := H.mono (R' := fun e w' => e = .returned .nilIface /\ w'.cell? ⟨w.heap.size, 1, none⟩ = some (.int .i64 k) /\ w'.cell? ⟨w.heap.size, 2, none⟩ = some (.int .i64 c) /\ w'.cell? ⟨w.heap.size, 3, none⟩ = some (.int .u32 N) /\ Below w.heap.size w w')
  (fun e w' ⟨he, hd, hb⟩ => ⟨he, hd.h1, hd.h2, hd.h3, (W1_below w s k).trans (hb.below (Nat.le_refl _) (by rw [W1_size]; omega))⟩)
 unfold maxLen at hs
 have a1 : (k : Int) + 1 + c <= 9223372036854775807 := by omega
 have a2 : (N : Int) <= 16777215 := by omega
 clear H
 unfold W1 at H'
 go_enter Tryz.func172, Tryz.ntmps172
 go_wp2_with (go_at_call 187; refine H'.mono ?_; rintro e w1 ⟨rfl, h1, h2, h3, hb1⟩)
 go_quiet (fail)
 go_wp2
 go_ret3
 exact ⟨rfl, below_drewN hb1 _⟩
theorem getD_at (s : ByteArray) (k : Nat) (hk : k < s.size) : s.data.toList.getD (k : Int).toNat 0 = s[k] := by
 have h : k < s.data.toList.length := by simpa using hk
 rw [Int.toNat_natCast, List.getD_eq_getElem?_getD, List.getElem?_eq_getElem h]
 rfl
abbrev tup (t : Int × Int × Int) : Value := .tuple #[.int .i64 t.1, .int .i64 t.2.1, .int .i64 t.2.2]
theorem decode_any (s : ByteArray) (a : Int) (aS aF : Addr) (w : World) (g : Glob aS aF w) (hs : s.size <= maxLen) :
  Calls Tryz.prog 172 #[.string s, .int .i64 a] w fun e w' => e = .returned (tup (Sz.dec s.data.toList a)) /\ Below w.heap.size w w' := by
 have hsz : s.data.toList.length = s.size := by simp
 have gW := g.below (Nat.le_refl _) (W1_below w s a)
 have hgb := g.gb
 have hne : w.heap.size + 1 ≠ w.heap.size := by omega
 by_cases h0 : 0 <= a /\ a < s.size
 ·obtain ⟨k, rfl⟩ := Int.eq_ofNat_of_zero_le h0.1
  have hk : k < s.size := by omega
  have hx := getD_at s k hk
  have hlt : s[k].toNat < 256 := s[k].toNat_lt
  by_cases h1 : s[k].toNat < 128
  ·have e : Sz.dec s.data.toList k = ((s[k].toNat : Int), (k : Int) + 1 + (0 : Nat), 0) := by
    unfold Sz.dec; rw [if_neg (by omega), hx, if_pos h1]; simp
   rw [e]
   exact decode_fine s k 0 s[k].toNat w hs hk (by omega) (by omega)
    (follow_ok _ _ s k 0 s[k].toNat aS aF _ (W1_rules w s k) hne gW hs hk (by omega) (by omega) hgb (by omega) _ (by simp [Sz.numFrom]) (by omega) (takeFirst_low _ s k 0 0 _ (W1_rd w s k) hk h1)) (by omega)
  ·by_cases h2 : s[k].toNat = 128 \/ 132 < s[k].toNat
   ·have e : Sz.dec s.data.toList k = (0, 0, 11) := by
     unfold Sz.dec; rw [if_neg (by omega), hx, if_neg h1, if_pos h2]
    rw [e]
    exact decode_err s k 11 _ _ w (follow_first _ _ s k 0 0 _ _ _ (W1_rules w s k) (W1_rd w s k) (takeFirst_form _ s k 0 0 aS aF _ (W1_rd w s k) gW hk h2)) (fun w1 hb => errnoOf_form k aS aF w1 (g.below (Nat.le_refl _) hb))
   ·have hF := takeFirst_long _ s k 0 ((0 : Nat) : Int) _ (W1_rd w s k) hk (by omega) (by omega)
    have ec : (s[k].toNat : Int) - 128 = ((s[k].toNat - 128 : Nat) : Int) := by omega
    rw [ec] at hF
    have hm : (0 + 1) * 256 ^ (s[k].toNat - 128) <= 4294967296 := by
     rw [Nat.zero_add, Nat.one_mul]
     exact Nat.le_trans (Nat.pow_le_pow_right (by omega) (show s[k].toNat - 128 <= 4 by omega)) (by decide)
    by_cases h3 : s.size - (k + 1) < s[k].toNat - 128
    ·have e : Sz.dec s.data.toList k = (0, 0, 10) := by
      unfold Sz.dec; rw [if_neg (by omega), hx, if_neg h1, if_neg h2, if_pos (by rw [hsz, Int.toNat_natCast]; exact h3)]
     rw [e]
     exact decode_err s k 10 _ _ w (follow_rest _ _ s k (s[k].toNat - 128) 0 aS aF _ (W1_rules w s k) hne gW hs hk (by omega) hm hgb (by omega) hF) (fun w1 hb => errnoOf_short k aS aF w1 (g.below (Nat.le_refl _) hb))
    ·obtain ⟨N, hN⟩ : ∃ N, N = Sz.numFrom 0 ((s.data.toList.drop (k + 1)).take (s[k].toNat - 128)) := ⟨_, rfl⟩
     have hN2 : N < 4294967296 := by
      have := Sz.numFrom_lt 0 ((s.data.toList.drop (k + 1)).take (s[k].toNat - 128))
      rw [<- hN, List.length_take, List.length_drop, hsz, Nat.min_eq_left (by omega)] at this
      omega
     by_cases h4 : 16777215 < N
     ·have e : Sz.dec s.data.toList k = (0, 0, 12) := by
       unfold Sz.dec; rw [if_neg (by omega), hx, if_neg h1, if_neg h2, if_neg (by rw [hsz, Int.toNat_natCast]; exact h3), if_pos (by rw [Int.toNat_natCast, <- hN]; exact h4)]
      rw [e]
      exact decode_err s k 12 _ _ w (follow_large _ _ s k (s[k].toNat - 128) 0 aS aF _ (W1_rules w s k) hne gW hs hk (by omega) hm hgb (by omega) N hN h4 hN2 hF) (fun w1 hb => errnoOf_size _ _ (as2 N k) aS aF w1 (g.below (Nat.le_refl _) hb))
     ·have e : Sz.dec s.data.toList k = ((N : Int), (k : Int) + 1 + (s[k].toNat - 128 : Nat), 0) := by
       unfold Sz.dec; rw [if_neg (by omega), hx, if_neg h1, if_neg h2, if_neg (by rw [hsz, Int.toNat_natCast]; exact h3), Int.toNat_natCast, <- hN, if_neg h4]
      rw [e]
      exact decode_fine s k (s[k].toNat - 128) N w hs hk (by omega) (by omega)
       (follow_ok _ _ s k (s[k].toNat - 128) 0 aS aF _ (W1_rules w s k) hne gW hs hk (by omega) hm hgb (by omega) N hN (by omega) hF) (by omega)
 ·have e : Sz.dec s.data.toList a = (0, 0, 10) := by
   unfold Sz.dec; rw [if_pos (by omega)]
  rw [e]
  exact decode_err s a 10 _ _ w (follow_first _ _ s a 0 0 _ _ _ (W1_rules w s a) (W1_rd w s a) (takeFirst_short _ s a 0 0 aS aF _ (W1_rd w s a) gW h0)) (fun w1 hb => errnoOf_short a aS aF w1 (g.below (Nat.le_refl _) hb))
end Go.Proofs.YtmenllnokgjdlaaGreatDoor
/-
 What size.width and size.leastBytes answer at every length. Conditions: none but that the number is a length.
-/
namespace Go.Proofs.YtmenllnokgjdlaaGreatDoor
open Go.RowKit
theorem width_any (n : Int) (w : World) (h0 : 0 < n) (h1 : n <= 16777215) :
  Calls Tryz.prog 134 #[.int .i64 n] w fun e w' => e = .returned (.int .i64 (Sz.wd n.toNat)) /\ w' = w := by
 obtain ⟨m, rfl⟩ := Int.eq_ofNat_of_zero_le (Int.le_of_lt h0)
 by_cases h2 : m < 256
 ·have e1 : Sz.wd m = 1 := by unfold Sz.wd; rw [if_neg (by omega), if_pos h2]
  go_enter Tryz.func134, Tryz.ntmps134
  go_wp2
  refine wp_loop_rounds 2 ?_
  rw [rounds_succ]
  go_wp2
  rw [rounds_succ]
  go_wp2
  go_ret
  exact ⟨by simp [e1], rfl⟩
 ·by_cases h3 : m < 65536
  ·have e1 : Sz.wd m = 2 := by unfold Sz.wd; rw [if_neg (by omega), if_neg h2, if_pos h3]
   have a1 : 0 < (m : Int) / 256 := by omega
   have a2 : ¬ 0 < (m : Int) / 256 / 256 := by omega
   clear h2 h3
   go_enter Tryz.func134, Tryz.ntmps134
   go_wp2
   refine wp_loop_rounds 3 ?_
   rw [rounds_succ]
   go_wp2
   rw [rounds_succ]
   go_wp2
   rw [rounds_succ]
   go_wp2
   go_ret
   exact ⟨by simp [e1], rfl⟩
  ·have e1 : Sz.wd m = 3 := by unfold Sz.wd; rw [if_neg (by omega), if_neg h2, if_neg h3, if_pos (by omega)]
   have a1 : 0 < (m : Int) / 256 := by omega
   have a2 : 0 < (m : Int) / 256 / 256 := by omega
   have a3 : ¬ 0 < (m : Int) / 256 / 256 / 256 := by omega
   clear h2 h3
   go_enter Tryz.func134, Tryz.ntmps134
   go_wp2
   refine wp_loop_rounds 4 ?_
   rw [rounds_succ]
   go_wp2
   rw [rounds_succ]
   go_wp2
   rw [rounds_succ]
   go_wp2
   rw [rounds_succ]
   go_wp2
   go_ret
   exact ⟨by simp [e1], rfl⟩
theorem make5 (w : World) : (Instr.makeSlice 152 (.int .i64 0) (.int .i64 5)).run Tryz.prog w = .ok (.slice (some ⟨w.heap.size, 0, none⟩) 0 5) (w.alloc (.cells #[.int .u8 0, .int .u8 0, .int .u8 0, .int .u8 0, .int .u8 0] 5)) := by kernel_rfl
theorem cellOwn (w w' : World) (A : Array Value) (T : TypeId) (i : Nat) (h : Below (w.heap.size + 1) (w.alloc (.cells A T)) w') :
  w'.cell? ⟨w.heap.size, i, none⟩ = (A[i]?) := by
 rw [h.cell (p := ⟨w.heap.size, i, none⟩) (by simp), World.cell?_alloc_at _ _ _ _ rfl]
theorem conv (w w' : World) (A : Array Value) (k : Nat) (xs : List Int) (hk : xs.length = k) (h : Below (w.heap.size + 1) (w.alloc (.cells A 5)) w')
  (hA : ∀ i, i < xs.length -> A[i]? = some (.int .u8 (xs.getD i 0))) :
  (convert 152 9 (.slice (some ⟨w.heap.size, 0, none⟩) k 5)).run Tryz.prog w' = .ok (.string (strOfNums xs)) w' :=
 run_convert_bytes_arg w' _ _ Tryz.underlying152 Tryz.underlying5 _ 0 _ _ xs hk (fun i hi => by rw [Nat.zero_add, cellOwn w w' A _ i h]; exact hA i (by omega)) _ Tryz.underlying9
theorem below2 (w : World) (o o0 o1 : Obj) : Below (w.heap.size + 1) (w.alloc o) (((w.alloc o).alloc o0).alloc o1) :=
 ((Below.refl _ _).alloc (by simp) _).alloc (by simp <;> omega) _
theorem below3 (w : World) (o o0 o1 o2 : Obj) : Below (w.heap.size + 1) (w.alloc o) ((((w.alloc o).alloc o0).alloc o1).alloc o2) :=
 (below2 w o o0 o1).alloc (by simp <;> omega) _
theorem below4 (w : World) (o o0 o1 o2 o3 : Obj) : Below (w.heap.size + 1) (w.alloc o) (((((w.alloc o).alloc o0).alloc o1).alloc o2).alloc o3) :=
 (below3 w o o0 o1 o2).alloc (by simp <;> omega) _
theorem below5 (w : World) (o o0 o1 o2 o3 o4 : Obj) : Below (w.heap.size + 1) (w.alloc o) ((((((w.alloc o).alloc o0).alloc o1).alloc o2).alloc o3).alloc o4) :=
 (below4 w o o0 o1 o2 o3).alloc (by simp <;> omega) _
theorem belowOwn {w w' : World} {o : Obj} (h : Below (w.heap.size + 1) (w.alloc o) w') : Below w.heap.size w w' :=
 ((Below.refl _ _).alloc (Nat.le_refl _) _).trans (h.mono (Nat.le_succ _))
theorem least1 (n : Int) (w : World) (h0 : 0 <= n) (h1 : n < 128) :
  Calls Tryz.prog 126 #[.int .i64 n] w fun e w' => e = .returned (.string ⟨(Sz.least n.toNat).toArray⟩) /\ Below w.heap.size w w' := by
 have hmk := make5
 have hcv := fun o0 o1 => conv w _ #[.int .u8 n, .int .u8 0, .int .u8 0, .int .u8 0, .int .u8 0] 1 [n] rfl (below2 w _ o0 o1) (fun i hi => by obtain rfl : i = 0 := by { simp at hi; omega }; rfl)
 have e1 : strOfNums [n] = ⟨(Sz.least n.toNat).toArray⟩ := by unfold Sz.least; rw [if_pos (by omega)]; rfl
 rw [<- e1]; clear e1
 go_enter Tryz.func126, Tryz.ntmps126
 go_wp2
 go_end0
 go_wp2
 go_ret
 exact ⟨rfl, belowOwn (below2 _ _ _ _)⟩
theorem least2 (n : Int) (w : World) (h0 : 128 <= n) (h1 : n < 256) :
  Calls Tryz.prog 126 #[.int .i64 n] w fun e w' => e = .returned (.string ⟨(Sz.least n.toNat).toArray⟩) /\ Below w.heap.size w w' := by
 have hmk := make5
 have ew : Sz.wd n.toNat = 1 := by unfold Sz.wd; rw [if_neg (by omega), if_pos (by omega)]
 have hcv := fun o0 o1 o2 => conv w _ #[.int .u8 129, .int .u8 n, .int .u8 0, .int .u8 0, .int .u8 0] 2 [129, n] rfl (below3 w _ o0 o1 o2) (fun i hi => by
  rcases i with _ | _ | i <;> first | rfl | (simp at hi; omega))
 have e1 : strOfNums [129, n] = ⟨(Sz.least n.toNat).toArray⟩ := by unfold Sz.least; rw [if_neg (by omega), ew]; simp [Sz.be, strOfNums]
 rw [<- e1]; clear e1
 go_enter Tryz.func126, Tryz.ntmps126
 go_wp2_with (first | (go_at_call 134; refine (width_any n _ (by omega) (by omega)).mono ?_; rintro e w' ⟨rfl, rfl⟩; rw [ew]) | (go_at_call 153; go_in))
 go_end0
 go_wp2
 refine wp_loop_rounds 2 ?_
 rw [rounds_succ]
 go_wp2
 go_end0
 go_wp2
 rw [rounds_succ]
 go_wp2
 go_ret
 exact ⟨rfl, belowOwn (below3 _ _ _ _ _)⟩
theorem least3 (n : Int) (w : World) (h0 : 256 <= n) (h1 : n < 65536) :
  Calls Tryz.prog 126 #[.int .i64 n] w fun e w' => e = .returned (.string ⟨(Sz.least n.toNat).toArray⟩) /\ Below w.heap.size w w' := by
 have hmk := make5
 have ew : Sz.wd n.toNat = 2 := by unfold Sz.wd; rw [if_neg (by omega), if_neg (by omega), if_pos (by omega)]
 have hcv := fun o0 o1 o2 o3 => conv w _ #[.int .u8 130, .int .u8 (n / 256), .int .u8 (n % 256), .int .u8 0, .int .u8 0] 3 [130, n / 256, n % 256] rfl (below4 w _ o0 o1 o2 o3) (fun i hi => by
  rcases i with _ | _ | _ | i <;> first | rfl | (simp at hi; omega))
 have e1 : strOfNums [130, n / 256, n % 256] = ⟨(Sz.least n.toNat).toArray⟩ := by
  unfold Sz.least; rw [if_neg (by omega), ew]
  have a1 : (n / 256).toNat = n.toNat / 256 := by omega
  have a2 : UInt8.ofNat (n % 256).toNat = UInt8.ofNat n.toNat := UInt8.toNat.inj (by simp; omega)
  simp [Sz.be, strOfNums, a1, a2]
 rw [<- e1]; clear e1
 go_enter Tryz.func126, Tryz.ntmps126
 go_wp2_with (first | (go_at_call 134; refine (width_any n _ (by omega) (by omega)).mono ?_; rintro e w' ⟨rfl, rfl⟩; rw [ew]) | (go_at_call 153; go_in))
 go_end0
 go_wp2
 refine wp_loop_rounds 3 ?_
 rw [rounds_succ]
 go_wp2
 go_end0
 go_wp2
 rw [rounds_succ]
 go_wp2
 go_end0
 go_wp2
 rw [rounds_succ]
 go_wp2
 go_ret
 exact ⟨rfl, belowOwn (below4 _ _ _ _ _ _)⟩
theorem least4 (n : Int) (w : World) (h0 : 65536 <= n) (h1 : n <= 16777215) :
  Calls Tryz.prog 126 #[.int .i64 n] w fun e w' => e = .returned (.string ⟨(Sz.least n.toNat).toArray⟩) /\ Below w.heap.size w w' := by
 have hmk := make5
 have ew : Sz.wd n.toNat = 3 := by unfold Sz.wd; rw [if_neg (by omega), if_neg (by omega), if_neg (by omega), if_pos (by omega)]
 have hcv := fun o0 o1 o2 o3 o4 => conv w _ #[.int .u8 131, .int .u8 (n / 65536), .int .u8 (n / 256 % 256), .int .u8 (n % 256), .int .u8 0] 4 [131, n / 65536, n / 256 % 256, n % 256] rfl (below5 w _ o0 o1 o2 o3 o4) (fun i hi => by
  rcases i with _ | _ | _ | _ | i <;> first | rfl | (simp at hi; omega))
 have e1 : strOfNums [131, n / 65536, n / 256 % 256, n % 256] = ⟨(Sz.least n.toNat).toArray⟩ := by
  unfold Sz.least; rw [if_neg (by omega), ew]
  have a1 : (n / 65536).toNat = n.toNat / 65536 := by omega
  have a2 : UInt8.ofNat (n % 256).toNat = UInt8.ofNat n.toNat := UInt8.toNat.inj (by simp; omega)
  have a3 : UInt8.ofNat (n / 256 % 256).toNat = UInt8.ofNat (n.toNat / 256) := UInt8.toNat.inj (by simp; omega)
  simp [Sz.be, strOfNums, a1, a2, a3]
 rw [<- e1]; clear e1
 go_enter Tryz.func126, Tryz.ntmps126
 go_wp2_with (first | (go_at_call 134; refine (width_any n _ (by omega) (by omega)).mono ?_; rintro e w' ⟨rfl, rfl⟩; rw [ew]) | (go_at_call 153; go_in))
 go_end0
 go_wp2
 refine wp_loop_rounds 4 ?_
 rw [rounds_succ]
 go_wp2
 go_end0
 go_wp2
 rw [rounds_succ]
 go_wp2
 go_end0
 go_wp2
 rw [rounds_succ]
 go_wp2
 go_end0
 go_wp2
 rw [rounds_succ]
 go_wp2
 go_ret
 exact ⟨rfl, belowOwn (below5 _ _ _ _ _ _ _)⟩
theorem leastBytes_any (n : Int) (w : World) (h0 : 0 <= n) (h1 : n <= 16777215) :
  Calls Tryz.prog 126 #[.int .i64 n] w fun e w' => e = .returned (.string ⟨(Sz.least n.toNat).toArray⟩) /\ Below w.heap.size w w' := by
 by_cases a : n < 128
 ·exact least1 n w h0 a
 ·by_cases b : n < 256
  ·exact least2 n w (by omega) b
  ·by_cases c : n < 65536
   ·exact least3 n w (by omega) c
   ·exact least4 n w (by omega) h1
end Go.Proofs.YtmenllnokgjdlaaGreatDoor
/-
 What size.Encode and size.Size answer. Conditions: the package-level variables hold what the program's text lays.
-/
namespace Go.Proofs.YtmenllnokgjdlaaGreatDoor
open Go.RowKit
theorem checkLength_ok (n : Int) (w : World) (h0 : 0 <= n) (h1 : n <= 16777215) :
  Calls Tryz.prog 124 #[.int .i64 n] w fun e w' => e = .returned .nilIface /\ w' = w := by
 go_enter Tryz.func124, Tryz.ntmps124
 go_wp2
 go_ret
 exact ⟨rfl, rfl⟩
def lst (n : Nat) : ByteArray := ⟨(Sz.least n).toArray⟩
theorem encode_ok (n : Int) (w : World) (h0 : 0 <= n) (h1 : n <= 16777215) :
  Calls Tryz.prog 93 #[.int .i64 n] w fun e w' => e = .returned (.tuple #[.string (lst n.toNat), .int .i64 0]) /\ Below w.heap.size w w' := by
 go_enter Tryz.func93, Tryz.ntmps93
 go_wp2_with (first | (go_at_call 124; refine (checkLength_ok n _ h0 h1).mono ?_; rintro e w' ⟨rfl, rfl⟩) | (go_at_call 126; refine (leastBytes_any n _ h0 h1).mono ?_; rintro e w' ⟨rfl, hb⟩))
 go_ret2
 exact ⟨rfl, hb⟩
def sz (n : Nat) : Int := if n < 128 then 1 else 1 + Sz.wd n
theorem size_ok (n : Int) (w : World) (h0 : 0 <= n) (h1 : n <= 16777215) :
  Calls Tryz.prog 109 #[.int .i64 n] w fun e w' => e = .returned (.tuple #[.int .i64 (sz n.toNat), .int .i64 0]) /\ Below w.heap.size w w' := by
 by_cases h2 : n < 128
 ·have e1 : sz n.toNat = 1 := by unfold sz; rw [if_pos (by omega)]
  rw [e1]
  go_enter Tryz.func109, Tryz.ntmps109
  go_wp2_with (go_at_call 124; refine (checkLength_ok n _ h0 h1).mono ?_; rintro e w' ⟨rfl, rfl⟩)
  go_ret2
  exact ⟨rfl, Below.refl _ _⟩
 ·have e1 : sz n.toNat = 1 + Sz.wd n.toNat := by unfold sz; rw [if_neg (by omega)]
  have hw : ((Sz.wd n.toNat : Nat) : Int) <= 4 := by
   have : Sz.wd n.toNat <= 4 := by unfold Sz.wd; repeat (split <;> try omega)
   omega
  rw [e1]
  go_enter Tryz.func109, Tryz.ntmps109
  go_wp2_with (first | (go_at_call 124; refine (checkLength_ok n _ h0 h1).mono ?_; rintro e w' ⟨rfl, rfl⟩) | (go_at_call 134; refine (width_any n _ (by omega) h1).mono ?_; rintro e w' ⟨rfl, rfl⟩))
  go_ret2
  exact ⟨rfl, Below.refl _ _⟩
end Go.Proofs.YtmenllnokgjdlaaGreatDoor
