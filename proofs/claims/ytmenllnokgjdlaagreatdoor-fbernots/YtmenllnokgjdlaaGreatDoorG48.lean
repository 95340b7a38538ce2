/- Several texts in one: TDoorW, GErrno. Each says what it proves, and its conditions. -/
import Derived.Test.YtmenllnokgjdlaaGreatDoorG37
import Derived.Test.YtmenllnokgjdlaaGreatDoorGErrsK
import Derived.Test.YtmenllnokgjdlaaGreatDoorGErrsV
set_option maxHeartbeats 1000000
set_option maxRecDepth 100000
/-
 What tlv.Right, Encode and Whole answer. Conditions: a text is at most 9000 bytes long; the package-level variables hold what the program's text lays.
-/
namespace Tv
def wholeT (l : List UInt8) : Except Int (Tr 13) :=
 match decT l 0 with
 | .error e => .error e
 | .ok (T, nx) => if nx < l.length then .error 11 else .ok T
theorem right_small {n : Nat} {T : Tr n} (h : right T = true) : (enc n T).length <= 16000000 := by
 unfold right at h
 simp only [Bool.and_eq_true, decide_eq_true_eq] at h
 omega
theorem right_shape {n : Nat} {T : Tr n} (h : right T = true) : shape n 12 T = true := by
 unfold right at h
 simp only [Bool.and_eq_true, decide_eq_true_eq] at h
 exact h.1.1
end Tv
namespace Go.Proofs.YtmenllnokgjdlaaGreatDoor
open Go.RowKit Tv T Go.Shelf
def encT {n : Nat} (T : Tr n) : Value := if right T = true then .tuple #[txt (enc n T), .int .i64 0] else .tuple #[.string ⟨#[]⟩, .int .i64 21]
theorem encode_any (n : Nat) (T : Tr n) (A : Ads) (aS aF : Addr) (w : World) (p : Nat -> Prop) (v : Value) (g : Gl A aS aF w) (hN : Node n w p v T) (hn : n <= 100) :
  Calls Tryz.prog 38 #[v] w fun e w' => e = .returned (encT T) /\ Below w.heap.size w w' := by
 cases n with
 | zero => exact Empty.elim T
 | succ n =>
 obtain ⟨g0, off, cap, a, rfl, hd, hk, hks⟩ := kidsAt hN
 have hb0 : Below w.heap.size w (w.alloc (.cells #[.int .i64 (tag T), .string (dat T), .slice a (kids T).length cap] 28)) := (Below.refl _ _).alloc (Nat.le_refl _) _
 have hC := check_any (n + 1) T A aS aF _ _ _ (g.below hb0) (hN.below hb0) hn
 have HN := H_ hN
 have HG := H_ g
 clear g hN hks
 go_enter Tryz.func38, Tryz.ntmps38
 go_wp2_with fail
 refine hC.mono ?_
 rintro e w2 ⟨hb2, h2⟩
 have hb := hb0.trans (hb2.mono hb0.size)
 cases hr : right T
 ·rw [hr, if_neg (by simp)] at h2
  obtain ⟨v, rfl, hE⟩ := h2
  have hO := errnoOf_any A v 21 hE w2 ((un HG).below hb).t
  obtain ⟨kk, u, rfl, hw⟩ := hE
  have Hr := H_ hr
  clear hC hb2 hr hw
  go_wp2_with (go_at_call 60; refine hO.mono ?_; rintro e w3 ⟨rfl, hb3⟩)
  go_ret2
  unfold encT
  rw [un Hr]
  exact ⟨rfl, hb.trans (hb3.mono hb.size)⟩
 ·rw [hr, if_pos rfl] at h2
  obtain rfl := h2
  have hL := lay_any (n + 1) T 12 w2 p _ ((un HN).below hb) (right_shape hr) (right_small hr)
  obtain ⟨⟨b0, b1, b2⟩, _⟩ := cells3 ((hb2.block w.heap.size (by simp)).trans (World.alloc_heap_new w _))
  have Hr := H_ hr
  clear hC hb2 hr
  go_wp2_with (go_at_call 61; refine hL.mono ?_; rintro e w3 ⟨rfl, hb3⟩)
  go_ret2
  unfold encT
  rw [un Hr]
  exact ⟨rfl, hb.trans (hb3.mono hb.size)⟩
def WholePost (w : World) (r : Except Int (Tr 13)) (e : Ending) (w' : World) : Prop :=
 Below w.heap.size w w' /\ match r with
  | .error E => e = .returned (.tuple #[zeroN, .int .i64 E])
  | .ok T => ∃ v, e = .returned (.tuple #[v, .int .i64 0]) /\ Node 13 w' (fun b => w.heap.size <= b) v T
theorem whole_any (s : ByteArray) (A : Ads) (aS aF : Addr) (w : World) (g : Gl A aS aF w) (hs : s.size <= 9000) :
  Calls Tryz.prog 40 #[.string s] w (WholePost w (wholeT s.data.toList)) := by
 have hl : s.data.toList.length = s.size := Array.length_toList
 have hb0 : Below w.heap.size w (w.alloc (.cells #[.int .i64 0, .string ⟨#[]⟩, .slice none 0 0] 28)) := (Below.refl _ _).alloc (Nat.le_refl _) _
 have hR := read_any s 0 A aS aF _ (g.below hb0) hs
 have HG := H_ g
 clear g
 go_enter Tryz.func40, Tryz.ntmps40
 go_wp2_with fail
 refine hR.mono ?_
 rintro e w2 ⟨hb2, h2⟩
 have hb := hb0.trans (hb2.mono hb0.size)
 have hz2 : w.heap.size + 1 <= w2.heap.size := by have := hb2.size; simpa using this
 have hq0 := (hb2.block w.heap.size (by simp)).trans (World.alloc_heap_new w _)
 have q3 := H_ fun o => cells3 ((Below.heap_alloc w2 o w.heap.size (by omega)).trans hq0)
 cases hd : decT s.data.toList 0 with
 | error E =>
  rw [hd] at h2
  obtain ⟨v, rfl, hE⟩ := h2
  have hb1 := hb.alloc (o := .cells #[.int .i64 0, .string ⟨#[]⟩, .slice none 0 0] 28) hb.size
  have hO := errnoOf_any A v E hE _ ((un HG).below hb1).t
  have hqq := (Below.heap_alloc w2 (.cells #[.int .i64 0, .string ⟨#[]⟩, .slice none 0 0] 28) w.heap.size (by omega)).trans hq0
  obtain ⟨kk, u, rfl, hw⟩ := hE
  have Hd := H_ (show wholeT s.data.toList = .error E by unfold wholeT; rw [hd])
  clear hd hb2 hR hw q3 hq0
  go_wp2_with fail
  refine hO.mono ?_
  rintro e w3 ⟨rfl, hb3⟩
  obtain ⟨⟨c0, c1, c2⟩, r0, r1, r2⟩ := cells3 ((hb3.block w.heap.size (by simp; omega)).trans hqq)
  have Hb := H_ (hb1.trans (hb3.mono hb1.size))
  clear hb3 hqq hO
  go_wp2_with fail
  refine bodyPost_ret (v := .tuple #[zeroN, .int .i64 E]) (by simp [results, Tryz.results40, go_sem, c0, c1, c2]) rfl ?_
  unfold WholePost
  rw [un Hd]
  exact ⟨set3n (un Hb) (Nat.le_refl _) _ _ _, rfl⟩
 | ok r =>
  obtain ⟨T, nx⟩ := r
  rw [hd] at h2
  obtain ⟨v, rfl, hN⟩ := h2
  obtain ⟨g0, off, cap, a, rfl, hdd, hk, hks⟩ := kidsAt hN
  obtain ⟨⟨c0, c1, c2⟩, r0, r1, r2⟩ := (un q3) (.cells #[.int .i64 (tag T), .string (dat T), .slice a (kids T).length cap] 28)
  have hb1 := hb.alloc (o := .cells #[.int .i64 (tag T), .string (dat T), .slice a (kids T).length cap] 28) hb.size
  by_cases hnx : nx < s.size
  ·have hnx' : (nx : Int) < s.size := by omega
   have gmo := ((un HG).below hb1).t.mo
   have hO := errnoOf_any A (.iface 97 (.agg #[.int .i64 nx, sentV A.mo])) 11 ⟨_, _, rfl, .inr ⟨_, rfl, .inr (.inr (.inl ⟨rfl, rfl⟩))⟩⟩ _ ((un HG).below hb1).t
   have hqq := (Below.heap_alloc w2 (.cells #[.int .i64 (tag T), .string (dat T), .slice a (kids T).length cap] 28) w.heap.size (by omega)).trans hq0
   have Hd := H_ (show wholeT s.data.toList = .error 11 by unfold wholeT; rw [hd]; simp only [hl]; rw [if_pos hnx])
   clear hd hb2 hR q3 hq0 c0 c1 c2 r0 r1 r2 hN hks
   go_wp2_with fail
   refine hO.mono ?_
   rintro e w3 ⟨rfl, hb3⟩
   obtain ⟨⟨c0, c1, c2⟩, r0, r1, r2⟩ := cells3 ((hb3.block w.heap.size (by simp; omega)).trans hqq)
   have Hb := H_ (hb1.trans (hb3.mono hb1.size))
   clear hb3 hqq hO gmo
   go_wp2_with fail
   refine bodyPost_ret (v := .tuple #[zeroN, .int .i64 11]) (by simp [results, Tryz.results40, go_sem, c0, c1, c2]) rfl ?_
   unfold WholePost
   rw [un Hd]
   exact ⟨set3n (un Hb) (Nat.le_refl _) _ _ _, rfl⟩
  ·have hnx' : ¬ (nx : Int) < s.size := by omega
   have HN1 := H_ (hN.below ((Below.refl w2.heap.size w2).alloc (Nat.le_refl _) (.cells #[.int .i64 (tag T), .string (dat T), .slice a (kids T).length cap] 28)))
   have Hd := H_ (show wholeT s.data.toList = .ok T by unfold wholeT; rw [hd]; simp only [hl]; rw [if_neg hnx])
   have Hb := H_ hb1
   clear hd hb2 hR q3 hq0 hN hb1 hb hks
   go_wp2_with fail
   refine bodyPost_ret (v := .tuple #[.agg #[.int .i64 (tag T), .string (dat T), .slice a (kids T).length cap], .int .i64 0]) (by simp [results, Tryz.results40, go_sem, c0, c1, c2]) rfl ?_
   unfold WholePost
   rw [un Hd]
   exact ⟨set3n (un Hb) (Nat.le_refl _) _ _ _, _, rfl, (set3_node (un HN1) (by simp) _ _ _).imp fun b hb _ => by simp at hb; omega⟩
end Go.Proofs.YtmenllnokgjdlaaGreatDoor
/-
 What fber.errnoOf answers at each error that package fber makes, wrapped any number of times, and at none. Conditions: the package-level variables hold what the program's text lays ('Glob').
-/
namespace Go.Proofs.YtmenllnokgjdlaaGreatDoor.G
open Go.RowKit Go.Extern.Stop Go.Stop Go.Extern
open D (H_ un)
structure Ad where
 f : F.Ad
 t : T.Ads
 aS : Addr
 aF : Addr
 ri : Addr
 de : Addr
 co : Addr
 tr : Addr
structure Glob (a : Ad) (w : World) : Prop where
 gf : F.Glob a.f w
 gt : Gl a.t a.aS a.aF w
 vri : w.cell? ⟨0, 0, none⟩ = some (sen a.ri)
 vde : w.cell? ⟨1, 0, none⟩ = some (sen a.de)
 vco : w.cell? ⟨2, 0, none⟩ = some (sen a.co)
 vtr : w.cell? ⟨3, 0, none⟩ = some (sen a.tr)
 hri : ∃ c t, w.heap[a.ri.block]? = some (.cells c t (0, 0))
 hde : ∃ c t, w.heap[a.de.block]? = some (.cells c t (0, 0))
 hco : ∃ c t, w.heap[a.co.block]? = some (.cells c t (0, 0))
 htr : ∃ c t, w.heap[a.tr.block]? = some (.cells c t (0, 0))
theorem Glob.below {a : Ad} {w w' : World} (g : Glob a w) {B : Nat} (hB : w.heap.size <= B) (h : Below B w w') : Glob a w' := by
 have hc : ∀ {p : Addr} {v : Value}, w.cell? p = some v -> w'.cell? p = some v := fun {p v} e => (h.cell (Nat.lt_of_lt_of_le (lt_of_cell e) hB)).trans e
 have hh : ∀ {b : Nat}, (∃ c t, w.heap[b]? = some (.cells c t (0, 0))) -> ∃ c t, w'.heap[b]? = some (.cells c t (0, 0)) := fun {b} ⟨c, t, e⟩ => ⟨c, t, (h.block _ (Nat.lt_of_lt_of_le (Array.getElem?_eq_some_iff.1 e).1 hB)).trans e⟩
 exact ⟨g.gf.below hB h, g.gt.below (h.mono hB), hc g.vri, hc g.vde, hc g.vco, hc g.vtr, hh g.hri, hh g.hde, hh g.hco, hh g.htr⟩
theorem Glob.next {a : Ad} {w w' : World} (g : Glob a w) (h : Below w.heap.size w w') : Glob a w' := g.below (Nat.le_refl _) h
def IsS (a : Ad) (x : Addr) : Prop := x = a.ri \/ x = a.de \/ x = a.co \/ x = a.tr
theorem Glob.h {a : Ad} {w : World} (g : Glob a w) {x : Addr} (h : IsS a x) : ∃ c t, w.heap[x.block]? = some (.cells c t (0, 0)) := by
 rcases h with rfl | rfl | rfl | rfl
 ·exact g.hri
 ·exact g.hde
 ·exact g.hco
 ·exact g.htr
def IsErr (a : Ad) (v : Value) : Prop := ∃ n b, Ch n b v /\ ((∃ x, IsS a x /\ b = sen x) \/ (∃ j, b = nok j) \/ ∃ j, b = nov j)
theorem IsErr.wrap {a : Ad} {v : Value} (h : IsErr a v) (k : Int) : IsErr a (flt k v) := by
 obtain ⟨n, b, h1, h2⟩ := h
 exact ⟨n + 1, b, ⟨k, v, rfl, h1⟩, h2⟩
theorem IsErr.sen {a : Ad} {x : Addr} (h : IsS a x) : IsErr a (G.sen x) := ⟨0, _, rfl, .inl ⟨x, h, rfl⟩⟩
theorem IsErr.nok (a : Ad) (j : Int) : IsErr a (G.nok j) := ⟨0, _, rfl, .inr (.inl ⟨j, rfl⟩)⟩
theorem IsErr.nov (a : Ad) (j : Int) : IsErr a (G.nov j) := ⟨0, _, rfl, .inr (.inr ⟨j, rfl⟩)⟩
abbrev two (w : World) : World := (w.alloc (.cells #[.int .i64 0] 83)).alloc (.cells #[.int .i64 0] 62)
theorem two_below (w : World) : Below w.heap.size w (two w) := ((Below.refl _ _).alloc (Nat.le_refl _) _).alloc (by simp) _
theorem AsK {v : Value} {b : Bool} (h : K.AsGives v b) (hv : ∃ T x, v = .iface T x) (a : Ad) (w : World) (g : Glob a w) :
  Calls Tryz.prog 54 #[v, .iface 85 (.pointer (some ⟨w.heap.size, 0, none⟩))] (two w) fun e w' => e = .returned (.bool b) /\ Below w.heap.size w w' /\ (b = false -> Below (w.heap.size + 2) (two w) w') := by
 obtain ⟨T, x, rfl⟩ := hv
 refine (K.As_gives T x b h ⟨w.heap.size, 0, none⟩ (.int .i64 0) _ (g.next (two_below w)).gf.ty (by rw [World.cell?_alloc_lt _ _ _ (by simp)]; simp) (by rw [World.frozen?_alloc_old _ _ _ (by simp)]; simp)).mono fun e w' ⟨he, hb⟩ => ⟨he, ?_, fun hb0 => by subst hb0; simpa [lim] using hb⟩
 refine (two_below w).trans (hb.mono ?_)
 cases b <;> simp [lim] <;> omega
theorem AsV {v : Value} {b : Bool} (h : V.AsGives v b) (hv : ∃ T x, v = .iface T x) (a : Ad) (w u : World) (g : Glob a w) (hu : Below (w.heap.size + 2) (two w) u) :
  Calls Tryz.prog 54 #[v, .iface 86 (.pointer (some ⟨w.heap.size + 1, 0, none⟩))] u fun e w' => e = .returned (.bool b) /\ Below w.heap.size w w' := by
 obtain ⟨T, x, rfl⟩ := hv
 have hb0 := two_below w
 have hub : Below w.heap.size w u := hb0.trans (hu.mono (by omega))
 have hblk : u.heap[w.heap.size + 1]? = some (.cells #[.int .i64 0] 62 (0, 0)) := by
  rw [hu.block _ (by omega)]
  have := World.alloc_heap_new (w.alloc (.cells #[.int .i64 0] 83)) (.cells #[.int .i64 0] 62)
  rwa [World.size_alloc] at this
 refine (V.As_gives T x b h ⟨w.heap.size + 1, 0, none⟩ (.int .i64 0) u (g.next hub).gf.ty (by simp [World.cell?, hblk]) (by simp [World.frozen?, hblk])).mono fun e w' ⟨he, hb⟩ => ⟨he, ?_⟩
 refine hub.trans (hb.mono ?_)
 have := hub.size
 cases b <;> simp [lim] <;> omega
theorem errnoOf_s (n : Nat) (x : Addr) (v : Value) (a : Ad) (w : World) (g : Glob a w) (hx : IsS a x) (hc : Ch n (sen x) v) :
  Calls Tryz.prog 33 #[v] w fun e w' => e = .returned (.int .i64 80) /\ Below w.heap.size w w' := by
 have hf := hc.shape ⟨_, _, rfl⟩
 have H := H_ (AsK (K.asS n x v hc) hf a w g)
 have HV := H_ fun u hu => AsV (V.asS n x v hc) hf a w u g hu
 have HY := H_ fun W => IsY n x v hc W
 have HN := H_ fun W b h1 h2 h3 => IsN n x v hc W b h1 h2 h3
 have Hg := H_ g
 have Hx := H_ hx
 obtain ⟨T, y, rfl⟩ := hf
 clear g hx hc
 go_enter Tryz.func33, Tryz.ntmps33
 go_wp2_with fail
 refine (un H).mono ?_
 rintro e u ⟨rfl, _, hu⟩
 have HU := H_ (hu trivial)
 clear hu H
 go_wp2_with fail
 refine ((un HV) _ (un HU)).mono ?_
 rintro e w0 ⟨rfl, hb⟩
 have B0 := H_ hb
 have G0 := H_ ((un Hg).next hb)
 clear hb HU HV
 have c0 := (un G0).vri
 go_wp2_with fail
 by_cases h0 : x = a.ri
 ·refine (h0 ▸ (un HY) _ : Calls Tryz.prog 55 #[_, sen a.ri] _ fun e w' => e = .returned (.bool true) /\ Below _ _ w').mono ?_
  rintro e w1 ⟨rfl, hb⟩
  have B1 := H_ ((un B0).trans (hb.mono (un B0).size))
  clear hb c0 h0
  go_wp2
  go_ret
  exact ⟨rfl, un B1⟩
 refine ((un HN) _ _ h0 ((un G0).h (un Hx)) (un G0).hri).mono ?_
 rintro e w1 ⟨rfl, hb⟩
 have B1 := H_ ((un B0).trans (hb.mono (un B0).size))
 have G1 := H_ ((un G0).next hb)
 replace h0 := H_ h0
 clear hb c0 B0
 have c1 := (un G1).vde
 go_wp2_with fail
 by_cases h1 : x = a.de
 ·refine (h1 ▸ (un HY) _ : Calls Tryz.prog 55 #[_, sen a.de] _ fun e w' => e = .returned (.bool true) /\ Below _ _ w').mono ?_
  rintro e w1 ⟨rfl, hb⟩
  have B1 := H_ ((un B1).trans (hb.mono (un B1).size))
  clear hb c1 h1
  go_wp2
  go_ret
  exact ⟨rfl, un B1⟩
 refine ((un HN) _ _ h1 ((un G1).h (un Hx)) (un G1).hde).mono ?_
 rintro e w2 ⟨rfl, hb⟩
 have B2 := H_ ((un B1).trans (hb.mono (un B1).size))
 have G2 := H_ ((un G1).next hb)
 replace h1 := H_ h1
 clear hb c1 B1
 have c2 := (un G2).vco
 go_wp2_with fail
 by_cases h2 : x = a.co
 ·refine (h2 ▸ (un HY) _ : Calls Tryz.prog 55 #[_, sen a.co] _ fun e w' => e = .returned (.bool true) /\ Below _ _ w').mono ?_
  rintro e w1 ⟨rfl, hb⟩
  have B1 := H_ ((un B2).trans (hb.mono (un B2).size))
  clear hb c2 h2
  go_wp2
  go_ret
  exact ⟨rfl, un B1⟩
 refine ((un HN) _ _ h2 ((un G2).h (un Hx)) (un G2).hco).mono ?_
 rintro e w3 ⟨rfl, hb⟩
 have B3 := H_ ((un B2).trans (hb.mono (un B2).size))
 have G3 := H_ ((un G2).next hb)
 replace h2 := H_ h2
 clear hb c2 B2
 have c3 := (un G3).vtr
 go_wp2_with fail
 by_cases h3 : x = a.tr
 ·refine (h3 ▸ (un HY) _ : Calls Tryz.prog 55 #[_, sen a.tr] _ fun e w' => e = .returned (.bool true) /\ Below _ _ w').mono ?_
  rintro e w1 ⟨rfl, hb⟩
  have B1 := H_ ((un B3).trans (hb.mono (un B3).size))
  clear hb c3 h3
  go_wp2
  go_ret
  exact ⟨rfl, un B1⟩
 refine ((un HN) _ _ h3 ((un G3).h (un Hx)) (un G3).htr).mono ?_
 rintro e w4 ⟨rfl, hb⟩
 have B4 := H_ ((un B3).trans (hb.mono (un B3).size))
 have G4 := H_ ((un G3).next hb)
 replace h3 := H_ h3
 clear hb c3 B3
 rcases un Hx with h | h | h | h
 ·exact absurd h (un h0)
 ·exact absurd h (un h1)
 ·exact absurd h (un h2)
 ·exact absurd h (un h3)
theorem errnoOf_k (n : Nat) (j : Int) (v : Value) (a : Ad) (w : World) (g : Glob a w) (hc : Ch n (nok j) v) :
  Calls Tryz.prog 33 #[v] w fun e w' => e = .returned (.int .i64 80) /\ Below w.heap.size w w' := by
 have hf := hc.shape ⟨_, _, rfl⟩
 have H := H_ (AsK (K.asE n j v hc) hf a w g)
 obtain ⟨T, y, rfl⟩ := hf
 clear g hc
 go_enter Tryz.func33, Tryz.ntmps33
 go_wp2_with fail
 refine (un H).mono ?_
 rintro e u ⟨rfl, hb, _⟩
 have HB := H_ hb
 clear hb H
 go_wp2
 go_ret
 exact ⟨rfl, un HB⟩
theorem errnoOf_v (n : Nat) (j : Int) (v : Value) (a : Ad) (w : World) (g : Glob a w) (hc : Ch n (nov j) v) :
  Calls Tryz.prog 33 #[v] w fun e w' => e = .returned (.int .i64 80) /\ Below w.heap.size w w' := by
 have hf := hc.shape ⟨_, _, rfl⟩
 have H := H_ (AsK (K.asO n j v hc) hf a w g)
 have HV := H_ fun u hu => AsV (V.asE n j v hc) hf a w u g hu
 obtain ⟨T, y, rfl⟩ := hf
 clear g hc
 go_enter Tryz.func33, Tryz.ntmps33
 go_wp2_with fail
 refine (un H).mono ?_
 rintro e u ⟨rfl, _, hu⟩
 have HU := H_ (hu trivial)
 clear hu H
 go_wp2_with fail
 refine ((un HV) _ (un HU)).mono ?_
 rintro e w0 ⟨rfl, hb⟩
 have HB := H_ hb
 clear hb HU HV
 go_wp2
 go_ret
 exact ⟨rfl, un HB⟩
theorem errnoOf_any (v : Value) (a : Ad) (w : World) (g : Glob a w) (h : IsErr a v) :
  Calls Tryz.prog 33 #[v] w fun e w' => e = .returned (.int .i64 80) /\ Below w.heap.size w w' := by
 obtain ⟨n, b, hc, ⟨x, hx, rfl⟩ | ⟨j, rfl⟩ | ⟨j, rfl⟩⟩ := h
 ·exact errnoOf_s n x v a w g hx hc
 ·exact errnoOf_k n j v a w g hc
 ·exact errnoOf_v n j v a w g hc
end Go.Proofs.YtmenllnokgjdlaaGreatDoor.G
