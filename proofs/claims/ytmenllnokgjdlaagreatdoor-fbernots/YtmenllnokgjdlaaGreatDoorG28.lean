/- Several texts in one: FErrno, QTail, FFits. Each says what it proves, and its conditions. -/
import Derived.Test.YtmenllnokgjdlaaGreatDoorFErrsK
import Derived.Test.YtmenllnokgjdlaaGreatDoorFErrsV
import Derived.Test.YtmenllnokgjdlaaGreatDoorG23
set_option maxHeartbeats 1000000
set_option maxRecDepth 100000
/-
 What filt.errnoOf answers at each error that package filt makes, wrapped any number of times, and at none. Conditions: the package-level variables hold what the program's text lays ('Glob').
-/
namespace Go.Proofs.YtmenllnokgjdlaaGreatDoor.F
open Go.RowKit Go.Extern.Stop Go.Stop Go.Extern
open D (H_ un)
structure Ad where
 e : E.Ad
 de : Addr
 co : Addr
 na : Addr
 lo : Addr
 fi : Addr
 si : Addr
 mo : Addr
structure Glob (a : Ad) (w : World) : Prop where
 ty : w.cell? ⟨15, 0, none⟩ = some (.iface 180 (.agg #[.pointer (some ⟨29, 52, none⟩)]))
 vde : w.cell? ⟨5, 0, none⟩ = some (sen a.de)
 vco : w.cell? ⟨6, 0, none⟩ = some (sen a.co)
 vna : w.cell? ⟨7, 0, none⟩ = some (sen a.na)
 vlo : w.cell? ⟨8, 0, none⟩ = some (sen a.lo)
 vfi : w.cell? ⟨9, 0, none⟩ = some (sen a.fi)
 vsi : w.cell? ⟨10, 0, none⟩ = some (sen a.si)
 vmo : w.cell? ⟨11, 0, none⟩ = some (sen a.mo)
 hde : ∃ c t, w.heap[a.de.block]? = some (.cells c t (0, 0))
 hco : ∃ c t, w.heap[a.co.block]? = some (.cells c t (0, 0))
 hna : ∃ c t, w.heap[a.na.block]? = some (.cells c t (0, 0))
 hlo : ∃ c t, w.heap[a.lo.block]? = some (.cells c t (0, 0))
 hfi : ∃ c t, w.heap[a.fi.block]? = some (.cells c t (0, 0))
 hsi : ∃ c t, w.heap[a.si.block]? = some (.cells c t (0, 0))
 hmo : ∃ c t, w.heap[a.mo.block]? = some (.cells c t (0, 0))
theorem Glob.below {a : Ad} {w w' : World} (g : Glob a w) {B : Nat} (hB : w.heap.size <= B) (h : Below B w w') : Glob a w' := by
 have hc : ∀ {p : Addr} {v : Value}, w.cell? p = some v -> w'.cell? p = some v := fun {p v} e => (h.cell (Nat.lt_of_lt_of_le (lt_of_cell e) hB)).trans e
 have hh : ∀ {b : Nat}, (∃ c t, w.heap[b]? = some (.cells c t (0, 0))) -> ∃ c t, w'.heap[b]? = some (.cells c t (0, 0)) := fun {b} ⟨c, t, e⟩ => ⟨c, t, (h.block _ (Nat.lt_of_lt_of_le (Array.getElem?_eq_some_iff.1 e).1 hB)).trans e⟩
 exact ⟨hc g.ty, hc g.vde, hc g.vco, hc g.vna, hc g.vlo, hc g.vfi, hc g.vsi, hc g.vmo, hh g.hde, hh g.hco, hh g.hna, hh g.hlo, hh g.hfi, hh g.hsi, hh g.hmo⟩
theorem Glob.alloc {a : Ad} {w : World} (g : Glob a w) (o : Obj) : Glob a (w.alloc o) :=
 g.below (Nat.le_refl _) ((Below.refl _ _).alloc (Nat.le_refl _) _)
theorem Glob.next {a : Ad} {w w' : World} (g : Glob a w) (h : Below w.heap.size w w') : Glob a w' := g.below (Nat.le_refl _) h
structure GlobR (a : Ad) (w : World) : Prop extends Glob a w where
 ge : E.Glob a.e w
def IsS (a : Ad) (x : Addr) : Prop := x = a.de \/ x = a.co \/ x = a.na \/ x = a.lo \/ x = a.fi \/ x = a.si \/ x = a.mo
theorem Glob.h {a : Ad} {w : World} (g : Glob a w) {x : Addr} (h : IsS a x) : ∃ c t, w.heap[x.block]? = some (.cells c t (0, 0)) := by
 rcases h with rfl | rfl | rfl | rfl | rfl | rfl | rfl
 ·exact g.hde
 ·exact g.hco
 ·exact g.hna
 ·exact g.hlo
 ·exact g.hfi
 ·exact g.hsi
 ·exact g.hmo
def IsErr (a : Ad) (v : Value) : Prop := ∃ n b, Ch n b v /\ ((∃ x, IsS a x /\ b = sen x) \/ (∃ j, b = nok j) \/ ∃ j, b = nov j)
theorem IsErr.wrap {a : Ad} {v : Value} (h : IsErr a v) (k : Int) : IsErr a (flt k v) := by
 obtain ⟨n, b, h1, h2⟩ := h
 exact ⟨n + 1, b, ⟨k, v, rfl, h1⟩, h2⟩
theorem IsErr.sen {a : Ad} {x : Addr} (h : IsS a x) : IsErr a (F.sen x) := ⟨0, _, rfl, .inl ⟨x, h, rfl⟩⟩
theorem IsErr.nok (a : Ad) (j : Int) : IsErr a (F.nok j) := ⟨0, _, rfl, .inr (.inl ⟨j, rfl⟩)⟩
theorem IsErr.form {a : Ad} {v : Value} (h : IsErr a v) : ∃ T x, v = .iface T x := by
 obtain ⟨n, b, h1, h2⟩ := h
 refine h1.shape ?_
 rcases h2 with ⟨x, _, rfl⟩ | ⟨j, rfl⟩ | ⟨j, rfl⟩ <;> exact ⟨_, _, rfl⟩
abbrev two (w : World) : World := (w.alloc (.cells #[.int .i64 0] 101)).alloc (.cells #[.int .i64 0] 103)
theorem two_below (w : World) : Below w.heap.size w (two w) := ((Below.refl _ _).alloc (Nat.le_refl _) _).alloc (by simp) _
theorem AsK {v : Value} {b : Bool} (h : K.AsGives v b) (hv : ∃ T x, v = .iface T x) (a : Ad) (w : World) (g : Glob a w) :
  Calls Tryz.prog 54 #[v, .iface 104 (.pointer (some ⟨w.heap.size, 0, none⟩))] (two w) fun e w' => e = .returned (.bool b) /\ Below w.heap.size w w' /\ (b = false -> Below (w.heap.size + 2) (two w) w') := by
 obtain ⟨T, x, rfl⟩ := hv
 refine (K.As_gives T x b h ⟨w.heap.size, 0, none⟩ (.int .i64 0) _ (g.next (two_below w)).ty (by rw [World.cell?_alloc_lt _ _ _ (by simp)]; simp) (by rw [World.frozen?_alloc_old _ _ _ (by simp)]; simp)).mono fun e w' ⟨he, hb⟩ => ⟨he, ?_, fun hb0 => by subst hb0; simpa [lim] using hb⟩
 refine (two_below w).trans (hb.mono ?_)
 cases b <;> simp [lim] <;> omega
theorem AsV {v : Value} {b : Bool} (h : V.AsGives v b) (hv : ∃ T x, v = .iface T x) (a : Ad) (w u : World) (g : Glob a w) (hu : Below (w.heap.size + 2) (two w) u) :
  Calls Tryz.prog 54 #[v, .iface 105 (.pointer (some ⟨w.heap.size + 1, 0, none⟩))] u fun e w' => e = .returned (.bool b) /\ Below w.heap.size w w' := by
 obtain ⟨T, x, rfl⟩ := hv
 have hb0 := two_below w
 have hub : Below w.heap.size w u := hb0.trans (hu.mono (by omega))
 have hblk : u.heap[w.heap.size + 1]? = some (.cells #[.int .i64 0] 103 (0, 0)) := by
  rw [hu.block _ (by omega)]
  have := World.alloc_heap_new (w.alloc (.cells #[.int .i64 0] 101)) (.cells #[.int .i64 0] 103)
  rwa [World.size_alloc] at this
 refine (V.As_gives T x b h ⟨w.heap.size + 1, 0, none⟩ (.int .i64 0) u (g.next hub).ty (by simp [World.cell?, hblk]) (by simp [World.frozen?, hblk])).mono fun e w' ⟨he, hb⟩ => ⟨he, ?_⟩
 refine hub.trans (hb.mono ?_)
 have := hub.size
 cases b <;> simp [lim] <;> omega
theorem errnoOf_s (n : Nat) (x : Addr) (v : Value) (a : Ad) (w : World) (g : Glob a w) (hx : IsS a x) (hc : Ch n (sen x) v) :
  Calls Tryz.prog 43 #[v] w fun e w' => e = .returned (.int .i64 80) /\ Below w.heap.size w w' := by
 have hf := hc.shape ⟨_, _, rfl⟩
 have H := H_ (AsK (K.asS n x v hc) hf a w g)
 have HV := H_ fun u hu => AsV (V.asS n x v hc) hf a w u g hu
 have HY := H_ fun W => IsY n x v hc W
 have HN := H_ fun W b h1 h2 h3 => IsN n x v hc W b h1 h2 h3
 have Hg := H_ g
 have Hx := H_ hx
 obtain ⟨T, y, rfl⟩ := hf
 clear g hx hc
 go_enter Tryz.func43, Tryz.ntmps43
 go_wp2_with fail
 refine (un H).mono ?_
 rintro e u ⟨rfl, _, hu⟩
 have HU := H_ (hu trivial)
 clear hu H
 go_wp2_with fail
 refine ((un HV) _ (un HU)).mono ?_
 rintro e w0 ⟨rfl, hb⟩
 have B0 := H_ hb
 have G0 := H_ ((un Hg).next hb)
 clear hb HU HV
 have c0 := (un G0).vde
 go_wp2_with fail
 by_cases h0 : x = a.de
 ·refine (h0 ▸ (un HY) _ : Calls Tryz.prog 55 #[_, sen a.de] _ fun e w' => e = .returned (.bool true) /\ Below _ _ w').mono ?_
  rintro e w1 ⟨rfl, hb⟩
  have B1 := H_ ((un B0).trans (hb.mono (un B0).size))
  clear hb c0 h0
  go_wp2
  go_ret
  exact ⟨rfl, un B1⟩
 refine ((un HN) _ _ h0 ((un G0).h (un Hx)) (un G0).hde).mono ?_
 rintro e w1 ⟨rfl, hb⟩
 have B1 := H_ ((un B0).trans (hb.mono (un B0).size))
 have G1 := H_ ((un G0).next hb)
 replace h0 := H_ h0
 clear hb c0 B0
 have c1 := (un G1).vco
 go_wp2_with fail
 by_cases h1 : x = a.co
 ·refine (h1 ▸ (un HY) _ : Calls Tryz.prog 55 #[_, sen a.co] _ fun e w' => e = .returned (.bool true) /\ Below _ _ w').mono ?_
  rintro e w1 ⟨rfl, hb⟩
  have B1 := H_ ((un B1).trans (hb.mono (un B1).size))
  clear hb c1 h1
  go_wp2
  go_ret
  exact ⟨rfl, un B1⟩
 refine ((un HN) _ _ h1 ((un G1).h (un Hx)) (un G1).hco).mono ?_
 rintro e w2 ⟨rfl, hb⟩
 have B2 := H_ ((un B1).trans (hb.mono (un B1).size))
 have G2 := H_ ((un G1).next hb)
 replace h1 := H_ h1
 clear hb c1 B1
 have c2 := (un G2).vna
 go_wp2_with fail
 by_cases h2 : x = a.na
 ·refine (h2 ▸ (un HY) _ : Calls Tryz.prog 55 #[_, sen a.na] _ fun e w' => e = .returned (.bool true) /\ Below _ _ w').mono ?_
  rintro e w1 ⟨rfl, hb⟩
  have B1 := H_ ((un B2).trans (hb.mono (un B2).size))
  clear hb c2 h2
  go_wp2
  go_ret
  exact ⟨rfl, un B1⟩
 refine ((un HN) _ _ h2 ((un G2).h (un Hx)) (un G2).hna).mono ?_
 rintro e w3 ⟨rfl, hb⟩
 have B3 := H_ ((un B2).trans (hb.mono (un B2).size))
 have G3 := H_ ((un G2).next hb)
 replace h2 := H_ h2
 clear hb c2 B2
 have c3 := (un G3).vlo
 go_wp2_with fail
 by_cases h3 : x = a.lo
 ·refine (h3 ▸ (un HY) _ : Calls Tryz.prog 55 #[_, sen a.lo] _ fun e w' => e = .returned (.bool true) /\ Below _ _ w').mono ?_
  rintro e w1 ⟨rfl, hb⟩
  have B1 := H_ ((un B3).trans (hb.mono (un B3).size))
  clear hb c3 h3
  go_wp2
  go_ret
  exact ⟨rfl, un B1⟩
 refine ((un HN) _ _ h3 ((un G3).h (un Hx)) (un G3).hlo).mono ?_
 rintro e w4 ⟨rfl, hb⟩
 have B4 := H_ ((un B3).trans (hb.mono (un B3).size))
 have G4 := H_ ((un G3).next hb)
 replace h3 := H_ h3
 clear hb c3 B3
 have c4 := (un G4).vfi
 go_wp2_with fail
 by_cases h4 : x = a.fi
 ·refine (h4 ▸ (un HY) _ : Calls Tryz.prog 55 #[_, sen a.fi] _ fun e w' => e = .returned (.bool true) /\ Below _ _ w').mono ?_
  rintro e w1 ⟨rfl, hb⟩
  have B1 := H_ ((un B4).trans (hb.mono (un B4).size))
  clear hb c4 h4
  go_wp2
  go_ret
  exact ⟨rfl, un B1⟩
 refine ((un HN) _ _ h4 ((un G4).h (un Hx)) (un G4).hfi).mono ?_
 rintro e w5 ⟨rfl, hb⟩
 have B5 := H_ ((un B4).trans (hb.mono (un B4).size))
 have G5 := H_ ((un G4).next hb)
 replace h4 := H_ h4
 clear hb c4 B4
 have c5 := (un G5).vsi
 go_wp2_with fail
 by_cases h5 : x = a.si
 ·refine (h5 ▸ (un HY) _ : Calls Tryz.prog 55 #[_, sen a.si] _ fun e w' => e = .returned (.bool true) /\ Below _ _ w').mono ?_
  rintro e w1 ⟨rfl, hb⟩
  have B1 := H_ ((un B5).trans (hb.mono (un B5).size))
  clear hb c5 h5
  go_wp2
  go_ret
  exact ⟨rfl, un B1⟩
 refine ((un HN) _ _ h5 ((un G5).h (un Hx)) (un G5).hsi).mono ?_
 rintro e w6 ⟨rfl, hb⟩
 have B6 := H_ ((un B5).trans (hb.mono (un B5).size))
 have G6 := H_ ((un G5).next hb)
 replace h5 := H_ h5
 clear hb c5 B5
 have c6 := (un G6).vmo
 go_wp2_with fail
 by_cases h6 : x = a.mo
 ·refine (h6 ▸ (un HY) _ : Calls Tryz.prog 55 #[_, sen a.mo] _ fun e w' => e = .returned (.bool true) /\ Below _ _ w').mono ?_
  rintro e w1 ⟨rfl, hb⟩
  have B1 := H_ ((un B6).trans (hb.mono (un B6).size))
  clear hb c6 h6
  go_wp2
  go_ret
  exact ⟨rfl, un B1⟩
 refine ((un HN) _ _ h6 ((un G6).h (un Hx)) (un G6).hmo).mono ?_
 rintro e w7 ⟨rfl, hb⟩
 have B7 := H_ ((un B6).trans (hb.mono (un B6).size))
 have G7 := H_ ((un G6).next hb)
 replace h6 := H_ h6
 clear hb c6 B6
 rcases un Hx with h | h | h | h | h | h | h
 ·exact absurd h (un h0)
 ·exact absurd h (un h1)
 ·exact absurd h (un h2)
 ·exact absurd h (un h3)
 ·exact absurd h (un h4)
 ·exact absurd h (un h5)
 ·exact absurd h (un h6)
theorem errnoOf_k (n : Nat) (j : Int) (v : Value) (a : Ad) (w : World) (g : Glob a w) (hc : Ch n (nok j) v) :
  Calls Tryz.prog 43 #[v] w fun e w' => e = .returned (.int .i64 80) /\ Below w.heap.size w w' := by
 have hf := hc.shape ⟨_, _, rfl⟩
 have H := H_ (AsK (K.asE n j v hc) hf a w g)
 obtain ⟨T, y, rfl⟩ := hf
 clear g hc
 go_enter Tryz.func43, Tryz.ntmps43
 go_wp2_with fail
 refine (un H).mono ?_
 rintro e u ⟨rfl, hb, _⟩
 have HB := H_ hb
 clear hb H
 go_wp2
 go_ret
 exact ⟨rfl, un HB⟩
theorem errnoOf_v (n : Nat) (j : Int) (v : Value) (a : Ad) (w : World) (g : Glob a w) (hc : Ch n (nov j) v) :
  Calls Tryz.prog 43 #[v] w fun e w' => e = .returned (.int .i64 80) /\ Below w.heap.size w w' := by
 have hf := hc.shape ⟨_, _, rfl⟩
 have H := H_ (AsK (K.asO n j v hc) hf a w g)
 have HV := H_ fun u hu => AsV (V.asE n j v hc) hf a w u g hu
 obtain ⟨T, y, rfl⟩ := hf
 clear g hc
 go_enter Tryz.func43, Tryz.ntmps43
 go_wp2_with fail
 refine (un H).mono ?_
 rintro e u ⟨rfl, _, hu⟩
 have HU := H_ (hu trivial)
 clear hu H
 go_wp2_with fail
 refine ((un HV) _ (un HU)).mono ?_
 rintro e w0 ⟨rfl, hb⟩
 have HB := H_ hb
 clear hb HU HV
 go_wp2
 go_ret
 exact ⟨rfl, un HB⟩
theorem errnoOf_any (v : Value) (a : Ad) (w : World) (g : Glob a w) (h : IsErr a v) :
  Calls Tryz.prog 43 #[v] w fun e w' => e = .returned (.int .i64 80) /\ Below w.heap.size w w' := by
 obtain ⟨n, b, hc, ⟨x, hx, rfl⟩ | ⟨j, rfl⟩ | ⟨j, rfl⟩⟩ := h
 ·exact errnoOf_s n x v a w g hx hc
 ·exact errnoOf_k n j v a w g hc
 ·exact errnoOf_v n j v a w g hc
theorem errnoOf_nil (a : Ad) (w : World) (g : Glob a w) :
  Calls Tryz.prog 43 #[.nilIface] w fun e w' => e = .returned (.int .i64 0) /\ Below w.heap.size w w' := by
 have g1 := g.next (two_below w)
 have c0 := g1.vde
 have c1 := g1.vco
 have c2 := g1.vna
 have c3 := g1.vlo
 have c4 := g1.vfi
 have c5 := g1.vsi
 have c6 := g1.vmo
 have H := H_ fun t w => K.As_nil t w
 have HV := H_ fun t w => V.As_nil t w
 have KN := H_ fun b w => Is_nil b w
 have HB := H_ (two_below w)
 clear g1 g
 go_enter Tryz.func43, Tryz.ntmps43
 go_wp2_with fail
 refine ((un H) _ _).mono ?_
 rintro e w1 ⟨rfl, rfl⟩
 go_wp2_with fail
 refine ((un HV) _ _).mono ?_
 rintro e w1 ⟨rfl, rfl⟩
 repeat (go_wp2_with fail; refine ((un KN) _ _).mono ?_; rintro e w1 ⟨rfl, rfl⟩)
 go_wp2
 go_ret
 exact ⟨rfl, un HB⟩
end Go.Proofs.YtmenllnokgjdlaaGreatDoor.F
/-
 A region that draws its order: first operations that yield the same in every world of a class (calls among them, that leave a world of the class), then a tail that waits for all of them, in the text's order. One walk serves every order. Conditions: the Bool on the region's own waiting list.
-/
namespace Go.Proofs.YtmenllnokgjdlaaGreatDoor
open Go Go.RowKit
section
variable {P : Program} {ops : Array Oper} {md : Region.Mode} {C : World -> Prop}
def HeadQ (P : Program) (md : Region.Mode) (ops : Array Oper) (C : World -> Prop) (n : Nat) (M : Array Bool -> Act -> Prop) (f : Nat) : Array Bool -> Act -> Prop :=
 f.rec M fun _ next done a => Region.ready md ops done ≠ [] /\ ∀ j, j ∈ Region.ready md ops done -> j < n /\ qOp P ops C j (next (done.setIfInBounds j true)) a
theorem HeadQ.any {n g : Nat} {M : Array Bool -> Act -> Prop} {Q : Exit -> Act -> World -> Prop} (hM : ∀ done a w, C w -> M done a -> wpAny P md ops Q g done a w) (f : Nat) :
  ∀ (done : Array Bool) (a : Act) (w : World), C w -> HeadQ P md ops C n M f done a -> wpAny P md ops Q (f + g) done a w := by
 induction f with
 | zero => intro done a w hw h; rw [Nat.zero_add]; exact hM done a w hw h
 | succ f ih =>
  intro done a w hw h
  rw [Nat.succ_add]
  obtain ⟨h1, h2⟩ := h
  exact ⟨fun e => absurd e h1, fun j hj => wpOp_of_qOp hw (fun a' w' hw' h' => ih _ a' w' hw' h') (h2 j hj).2⟩
structure TailOk (md : Region.Mode) (ops : Array Oper) (n : Nat) : Prop where
 sel : Region.noSelect ops = true
 lt : n < ops.size
 sink : Region.sinkB md ops n = true
 chain : Region.chainB md ops n = true
theorem HeadQ.take {n i : Nat} {oi : Oper} {v : Value} {M : Array Bool -> Act -> Prop} (T : TailOk md ops n) (hi : ops[i]? = some oi) (hin : i < n)
  (hM : ∀ done a, M done a -> ∀ j ∈ Region.ready md ops done, n <= j) (f : Nat) :
  ∀ (done : Array Bool) (a : Act), HeadInv md ops n done ->
   (∀ j oj, ops[j]? = some oj -> j ≠ i -> done.getD j true = false -> (∀ e ∈ oj.after, Region.binds md e = true -> e.on ≠ i) -> oi.apart ops oj = true) ->
   i ∈ Region.ready md ops done -> YieldsIn P ops C oi v a -> HeadQ P md ops C n M f (done.setIfInBounds i true) (a.put oi.dst v) -> HeadQ P md ops C n M (f + 1) done a := by
 have early : ∀ done, HeadInv md ops n done -> i ∈ Region.ready md ops done -> ∀ j ∈ Region.ready md ops done, j < n := fun done inv hr j hj =>
  Nat.lt_of_not_le fun hnj => tail_waits T.sink T.chain T.lt inv (n - i) i rfl hin (mem_ready.1 hr).1 j hnj hj
 have sel := Region.noSelect_spec T.sel
 induction f with
 | zero =>
  intro done a inv _ hr hy hH
  refine ⟨fun e => (by rw [e] at hr; cases hr), fun j hj => ⟨early done inv hr j hj, ?_⟩⟩
  rcases Nat.decEq j i with hne | rfl
  ·exact absurd (hM _ _ hH j (ready_mono hj hne)) (Nat.not_le_of_lt (early done inv hr j hj))
  ·exact hy.qOp hi hH
 | succ f ih =>
  intro done a inv hap hr hy hH
  refine ⟨fun e => (by rw [e] at hr; cases hr), fun j hj => ⟨early done inv hr j hj, ?_⟩⟩
  rcases Nat.decEq j i with hne | rfl
  ·obtain ⟨hjd, oj, hoj, hw⟩ := mem_ready.1 hj
   have hfar : ∀ e ∈ oj.after, Region.binds md e = true -> e.on ≠ i := by
    intro e he hb hon
    have := hw e he hb
    rw [hon, getD_both (mem_ready.1 hr).1] at this
    cases this
   have step := qOp_put hoj (hap j oj hoj hne hjd hfar) (fun cs b => sel i oi cs b hi) (fun cs b => sel j oj cs b hoj) hy (hH.2 j (ready_mono hj hne)).2
   refine qOp_mono (fun a' h3 => ih (done.setIfInBounds j true) a' (inv.set hj (early done inv hr j hj)) ?_ (ready_mono hr (Ne.symm hne)) h3.1 (by rw [Array.setIfInBounds_comm _ _ hne]; exact h3.2)) step
   intro k ok hk hki hkd hon
   refine hap k ok hk hki ?_ hon
   rcases Nat.decEq j k with h | rfl
   ·rwa [getD_set_ne true h] at hkd
   ·exact hjd
  ·exact hy.qOp hi hH
theorem HeadQ.lex {n g : Nat} {L : Act -> Prop} (T : TailOk md ops n) : ∀ (l : List Oper) (k : Nat) (done : Array Bool) (a : Act), (∀ j, j < l.length -> l[j]? = ops[k + j]?) -> k + l.length = n -> HeadInv md ops n done ->
  Region.lexHead md ops g l.length k done = true -> wpQuiet P ops C L l a -> HeadQ P md ops C n (fun done' a' => Region.seqB md ops g n done' = true /\ L a') l.length done a
 | [], k, done, a, _, hk, _, hB, h => by
  obtain rfl : k = n := by simpa using hk
  exact ⟨by simpa [Region.lexHead] using hB, h⟩
 | o :: l, k, done, a, hl, hk, inv, hB, h => by
  have ho : ops[k]? = some o := by simpa using (hl 0 (Nat.succ_pos _)).symm
  have hkn : k < n := by rw [List.length_cons] at hk; omega
  rw [List.length_cons, Region.lexHead, Bool.and_eq_true, Bool.and_eq_true] at hB
  have hr : k ∈ Region.ready md ops done := by simpa using hB.1.1
  have hq : qOp P ops C k (wpQuiet P ops C L l) a := by unfold qOp; simp only [ho]; exact h
  obtain ⟨v, hy, hn⟩ := yieldsIn_of_qOp ho hq
  refine HeadQ.take T ho hkn (fun _ _ hL => seqB_ready hL.1) l.length done a inv (Region.free_spec ho hB.1.2) hr hy ?_
  refine HeadQ.lex T l (k + 1) _ _ (fun j hj => ?_) (by rw [List.length_cons] at hk; omega) (inv.set hr hkn) hB.2 hn
  have := hl (j + 1) (by rw [List.length_cons]; omega)
  rwa [List.getElem?_cons_succ, show k + (j + 1) = k + 1 + j by omega] at this
theorem any_tail {Q : Exit -> Act -> World -> Prop} {a : Act} {w : World} {l : List Oper} (n : Nat) (hB : Region.lexTailB .any l.toArray n = true) (hC : C w.drew)
  (h : wpQuiet P l.toArray C (fun a' => ∀ w', C w' -> wpList P l.toArray Q (l.drop n) a' w') (l.take n) a) : wpAny P .any l.toArray Q l.toArray.size (Array.replicate l.toArray.size false) a w.drew := by
 rw [Region.lexTailB, Bool.and_eq_true, Bool.and_eq_true, Bool.and_eq_true, Bool.and_eq_true, decide_eq_true_eq] at hB
 obtain ⟨⟨⟨⟨h1, h2⟩, h3⟩, h4⟩, h5⟩ := hB
 have hn : n < l.length := by simpa using h2
 have e1 : (l.take n).length = n := by rw [List.length_take]; omega
 have e2 : (l.drop n).length = l.toArray.size - n := by simp
 have inv : HeadInv .any l.toArray n (Array.replicate l.toArray.size false) :=
  ⟨by simp, fun j _ _ hl => (by rw [getD_replicate_false] at hl; cases hl), fun t _ ht => getD_in (by simpa using ht) (getD_replicate_false _ _)⟩
 have H := HeadQ.lex (g := l.toArray.size - n) ⟨h1, h2, h3, h4⟩ (l.take n) 0 _ a (fun j hj => by rw [e1] at hj; simp [hj]) (by rw [Nat.zero_add]; exact e1) inv (by rw [e1]; exact h5) h
 have R := HeadQ.any (Q := Q) (g := l.toArray.size - n) (fun done a' w' hw' hL => by
  have := wpAny_of_seq (md := .any) (Q' := Q) (l.drop n) n done a' w' (fun j => by simp [List.getElem?_drop]) (by rw [e2]; exact hL.1) (hL.2 w' hw')
  rwa [e2] at this) _ _ a w.drew hC H
 rwa [e1, show n + (l.toArray.size - n) = l.toArray.size by omega] at R
def onlyN (Q : Exit -> Act -> World -> Prop) : Exit -> Act -> World -> Prop
 | .normal, a, w => Q .normal a w
 | _, _, _ => False
theorem wp_region_tail {Q : Exit -> Act -> World -> Prop} {id : Nat} {a : Act} {w : World} {l : List Oper} (C : World -> Prop) (n : Nat) (hm : P.follows .mixedOrders = true) (hB : Region.lexTailB .any l.toArray n = true) (hC : C w.drew)
  (h : wpQuiet P l.toArray C (fun a' => ∀ w', C w' -> wpList P l.toArray (onlyN Q) (l.drop n) a' w') (l.take n) a) : (Code.region id l.toArray true).wp P Q a w :=
 wp_mono (wp_region_any hm (any_tail (Q := onlyN Q) n hB hC h)) fun e _ _ h => by cases e <;> first | exact h | exact h.elim
end
structure Kw (V : World) : Type where
 w : World
 b : Below V.heap.size V w
theorem kwNonempty (V : World) : Nonempty (Kw V) := ⟨⟨V, Below.refl _ _⟩⟩
abbrev KwOf (V : World) (w' : World) : Prop := ∃ s : Kw V, w' = s.w
theorem kw_drew (V : World) : KwOf V V.drew := ⟨⟨V.drew, ⟨rfl, rfl, rfl, Nat.le_refl _, fun _ _ => rfl⟩⟩, rfl⟩
theorem Kw.cell {V : World} (s : Kw V) {p : Addr} {v : Value} (h : V.cell? p = some v) (hp : p.block < V.heap.size) : s.w.cell? p = some v := (s.b.cell hp).trans h
theorem Kw.call {P : Program} {f : FuncId} {args : Array Value} {V : World} {v : Value} (s : Kw V) (h : Calls P f args s.w fun e w' => e = .returned v /\ Below s.w.heap.size s.w w') :
  Calls P f args s.w fun e w'' => e = .returned v /\ ∃ m : Kw V, w'' = m.w :=
 h.mono fun _ w' ⟨he, hb⟩ => ⟨he, ⟨w', s.b.trans (hb.mono s.b.size)⟩, rfl⟩
theorem wp_region_kw {P : Program} {Q : Exit -> Act -> World -> Prop} {id : Nat} {a : Act} {V : World} {l : List Oper} (n : Nat) (hm : P.follows .mixedOrders = true) (hB : Region.lexTailB .any l.toArray n = true)
  (h : wpQuiet P l.toArray (fun w' => ∃ s : Kw V, w' = s.w) (fun a' => ∀ w', (∃ s : Kw V, w' = s.w) -> wpList P l.toArray (onlyN Q) (l.drop n) a' w') (l.take n) a) : (Code.region id l.toArray true).wp P Q a V :=
 wp_region_tail (fun w' => ∃ s : Kw V, w' = s.w) n hm hB (kw_drew V) h
end Go.Proofs.YtmenllnokgjdlaaGreatDoor
/-
 What filt.broken, isNoPiece, slices.ContainsFunc over it, and filt.fits answer. Conditions: the package-level variables hold what the program's text lays.
-/
namespace Go.Proofs.YtmenllnokgjdlaaGreatDoor.F
open Go Go.RowKit Go.Shelf Fp
open D (H_ un ext_list)
attribute [local go_sem] Oper.semAt_some
def firstNo : List (Bool × Addr) -> Value
 | [] => .nilIface
 | (b, a) :: r => if b then firstNo r else sen a
theorem firstNo_all {rs : List (Bool × Addr)} (h : rs.all (·.1) = true) : firstNo rs = .nilIface := by
 induction rs with
 | nil => rfl
 | cons r rs ih =>
  rw [List.all_cons, Bool.and_eq_true] at h
  obtain ⟨b, a⟩ := r
  obtain rfl : b = true := h.1
  exact ih h.2
theorem firstNo_err {a : Ad} {rs : List (Bool × Addr)} (h : rs.all (·.1) = false) (hs : ∀ r ∈ rs, IsS a r.2) : IsErr a (firstNo rs) := by
 induction rs with
 | nil => cases h
 | cons r rs ih =>
  obtain ⟨b, x⟩ := r
  cases b
  ·exact IsErr.sen (hs (false, x) (by simp))
  ·exact ih (by simpa using h) (fun r hr => hs r (by simp [hr]))
def Rules (W : World) (g : Nat) (rs : List (Bool × Addr)) : Prop := ∀ (i : Nat) r, rs[i]? = some r -> W.cell? ⟨g, i * 2, none⟩ = some (.bool r.1) /\ W.cell? ⟨g, i * 2 + 1, none⟩ = some (sen r.2)
theorem broken_any (rs : List (Bool × Addr)) (g : Nat) (w : World) (hr : Rules w g rs) (hl : rs.length <= 10) :
  Calls Tryz.prog 103 #[.slice (some ⟨g, 0, none⟩) rs.length rs.length] w fun e w' => e = .returned (firstNo rs) /\ Below w.heap.size w w' := by
 have HR := H_ hr
 have hl' : (rs.length : Int) <= 10 := by omega
 clear hr
 go_enter Tryz.func103, Tryz.ntmps103
 go_wp2
 go_loopw [7] (fun ix wr => ∃ j : Nat, j <= rs.length /\ ix = .int .i64 (j : Int) /\ Hid (firstNo rs = firstNo (rs.drop j)) /\ Hid (Below w.heap.size w wr))
  (fun ix _ => rs.length - (intOf ix).toNat)
 case atStart => exact ⟨0, Nat.zero_le _, rfl, H_ (by rw [List.drop_zero]), H_ (Below.refl _ _)⟩
 case round =>
  obtain ⟨j, hj, rfl, hf, hb⟩ := hrel
  by_cases hlt : j < rs.length
  ·obtain ⟨c0, c1⟩ := (un HR) j _ (List.getElem?_eq_getElem hlt)
   have d0 := ((un hb).cell (D.lt_cell c0)).trans c0
   have d1 := ((un hb).cell (D.lt_cell c1)).trans c1
   have hcons := List.drop_eq_getElem_cons hlt
   obtain ⟨⟨b, a⟩, hba⟩ : ∃ r, rs[j] = r := ⟨_, rfl⟩
   rw [hba] at hcons d0 d1
   have hlt' : (j : Int) < rs.length := by omega
   have Hc := H_ hcons
   clear c0 c1 hba hcons
   cases b
   ·have e : firstNo rs = sen a := by rw [un hf, un Hc]; rfl
    have He := H_ e
    clear e
    go_wp2
    go_ret
    rw [un He]
    exact ⟨rfl, (un hb).trans (((Below.refl _ _).alloc (Nat.le_refl _) _).mono (un hb).size)⟩
   ·go_wp2
    go_roundw
    case rel =>
     refine ⟨j + 1, by omega, by simp, H_ ?_, H_ ((un hb).trans (((Below.refl _ _).alloc (Nat.le_refl _) _).mono (un hb).size))⟩
     rw [un hf, un Hc]
     rfl
    case measure => simp [intOf]; omega
  ·have hge : ¬ (j : Int) < rs.length := by omega
   have e : firstNo rs = .nilIface := by rw [un hf, List.drop_of_length_le (by omega)]; rfl
   have He := H_ e
   clear e hf
   go_wp2
   go_ret
   rw [un He]
   exact ⟨rfl, un hb⟩
theorem isNoPiece_any (s : ByteArray) (w : World) :
  Calls Tryz.prog 106 #[.string s] w fun e w' => e = .returned (.bool (!okP s)) /\ w' = w := by
 have hz : (s.toList == ([] : List UInt8)) = decide (s.size = 0) := by
  rw [ByteArray.toList_eq, Bool.eq_iff_iff, beq_iff_eq, decide_eq_true_eq]
  exact ⟨fun h => by rw [show s.size = s.data.toList.length from (Array.length_toList).symm, h]; rfl, fun h => List.eq_nil_of_length_eq_zero (by rw [Array.length_toList]; exact h)⟩
 have ho : (!okP s) = (decide (s.size = 0) || decide (60 < s.size)) := by
  unfold okP
  rw [Bool.eq_iff_iff]
  simp
  try omega
 rw [ho]
 clear ho
 by_cases h0 : s.size = 0
 ·rw [decide_eq_true h0] at hz ⊢
  clear h0
  go_enter Tryz.func106, Tryz.ntmps106
  go_wp2
  go_ret
  exact ⟨rfl, rfl⟩
 ·rw [decide_eq_false h0] at hz ⊢
  have e : decide (60 < s.size) = decide ((60 : Int) < s.size) := by rw [Bool.eq_iff_iff]; simp; omega
  rw [e, Bool.false_or]
  clear h0 e
  go_enter Tryz.func106, Tryz.ntmps106
  go_wp2
  go_ret
  exact ⟨rfl, rfl⟩
theorem indexNo_any (xs : List ByteArray) (a : Option Addr) (c : Nat) (p : Nat -> Prop) (w : World) (hx : Strs w p a xs) (hl : xs.length <= 1000) :
  Calls Tryz.prog 133 #[.slice a xs.length c, .func (.func 106) #[] #[]] w fun e w' => ∃ k : Int, e = .returned (.int .i64 k) /\ decide (0 <= k) = (!xs.all okP) /\ w' = w := by
 have HX := H_ hx
 have HN := H_ fun s W => isNoPiece_any s W
 have hl' : (xs.length : Int) <= 1000 := by omega
 clear hx
 go_enter Tryz.func133, Tryz.ntmps133
 go_wp2
 go_loopw [8] (fun ix wr => ∃ j : Nat, j <= xs.length /\ ix = .int .i64 (j : Int) /\ Hid (xs.all okP = (xs.drop j).all okP) /\ wr = w)
  (fun ix _ => xs.length - (intOf ix).toNat)
 case atStart => exact ⟨0, Nat.zero_le _, rfl, H_ (by rw [List.drop_zero]), rfl⟩
 case round =>
  obtain ⟨j, hj, rfl, hf, rfl⟩ := hrel
  by_cases hlt : j < xs.length
  ·obtain ⟨g, off, rfl, c0⟩ := (un HX).at hlt
   have hcons := List.drop_eq_getElem_cons hlt
   obtain ⟨x, hx⟩ : ∃ x, xs[j] = x := ⟨_, rfl⟩
   rw [hx] at hcons c0
   have hlt' : (j : Int) < xs.length := by omega
   have Hc := H_ hcons
   have H := H_ fun W => (un HN) x W
   clear hx hcons
   cases ho : okP x
   ·rw [ho] at H
    have Ho := H_ ho
    clear ho
    go_wp2_with fail
    refine ((un H) _).mono ?_
    rintro e w1 ⟨rfl, rfl⟩
    go_wp2
    go_ret
    refine ⟨j, rfl, ?_, rfl⟩
    rw [un hf, un Hc, List.all_cons, un Ho]
    simp
   ·rw [ho] at H
    have Ho := H_ ho
    clear ho
    go_wp2_with fail
    refine ((un H) _).mono ?_
    rintro e w1 ⟨rfl, rfl⟩
    go_wp2
    go_roundw
    case rel =>
     refine ⟨j + 1, by omega, by simp, H_ ?_, by first | rfl | trivial⟩
     rw [un hf, un Hc, List.all_cons, un Ho, Bool.true_and]
    case measure => simp [intOf]; omega
  ·have hge : ¬ (j : Int) < xs.length := by omega
   have He := H_ (show xs.all okP = true by rw [un hf, List.drop_of_length_le (by omega)]; rfl)
   clear hf
   go_wp2
   go_ret
   refine ⟨-1, rfl, ?_, rfl⟩
   rw [un He]
   rfl
theorem containsNo_any (xs : List ByteArray) (a : Option Addr) (c : Nat) (p : Nat -> Prop) (w : World) (hx : Strs w p a xs) (hl : xs.length <= 1000) :
  Calls Tryz.prog 105 #[.slice a xs.length c, .func (.func 106) #[] #[]] w fun e w' => e = .returned (.bool (!xs.all okP)) /\ w' = w := by
 have H := H_ (indexNo_any xs a c p w hx hl)
 generalize (!xs.all okP) = b at *
 clear hx
 go_enter Tryz.func105, Tryz.ntmps105
 go_wp2_with fail
 refine (un H).mono ?_
 rintro e w1 ⟨k, rfl, rfl, rfl⟩
 go_wp2
 go_ret
 exact ⟨rfl, rfl⟩
def FitPost (a : Ad) (w : World) (b : Bool) (e : Ending) (w' : World) : Prop := Below w.heap.size w w' /\ if b = true then e = .returned .nilIface else ∃ v, e = .returned v /\ IsErr a v
def flatR (rs : List (Bool × Addr)) : List Value := rs.flatMap fun r => [.bool r.1, sen r.2]
theorem flatR_at : ∀ (rs : List (Bool × Addr)) (i : Nat) r, rs[i]? = some r -> (flatR rs)[i * 2]? = some (.bool r.1) /\ (flatR rs)[i * 2 + 1]? = some (sen r.2)
 | [], i, r, h => by simp at h
 | x :: rs, 0, r, h => by
  obtain rfl : x = r := by simpa using h
  exact ⟨rfl, rfl⟩
 | x :: rs, i + 1, r, h => by
  have := flatR_at rs i r (by simpa using h)
  rw [show (i + 1) * 2 = i * 2 + 1 + 1 by omega]
  exact this
theorem rules_new (W : World) (rs : List (Bool × Addr)) (T : TypeId) : Rules (W.alloc (.cells (flatR rs).toArray T)) W.heap.size rs := fun i r hr => by
 obtain ⟨h1, h2⟩ := flatR_at rs i r hr
 constructor
 ·rw [World.cell?_alloc_at _ _ _ _ rfl]; simpa using h1
 ·rw [World.cell?_alloc_at _ _ _ _ rfl]; simpa using h2
theorem fin_rules {a : Ad} {w W : World} {b : Bool} (rs : List (Bool × Addr)) (hb : b = rs.all (·.1)) (hs : ∀ r ∈ rs, IsS a r.2) (hW : Below w.heap.size w W) : FitPost a w b (.returned (firstNo rs)) W := by
 refine ⟨hW, ?_⟩
 subst hb
 cases h : rs.all (·.1)
 ·rw [if_neg (by simp)]
  exact ⟨_, rfl, firstNo_err h hs⟩
 ·rw [if_pos rfl, firstNo_all h]
theorem size0 (s : ByteArray) : decide (s.size = 0) = (s.toList == ([] : List UInt8)) := by
 rw [ByteArray.toList_eq, Bool.eq_iff_iff, beq_iff_eq, decide_eq_true_eq]
 exact ⟨fun h => List.eq_nil_of_length_eq_zero (by rw [Array.length_toList]; exact h), fun h => by rw [show s.size = s.data.toList.length from (Array.length_toList).symm, h]; rfl⟩
theorem len0 (n : Nat) : decide (n = 0) = ((n : Int) == 0) := by rw [Bool.eq_iff_iff]; simp
theorem broken_new {A : Ad} {w W : World} (rs : List (Bool × Addr)) (hb : Below w.heap.size w W) (hs : ∀ r ∈ rs, IsS A r.2) (hl : rs.length <= 10) :
  Calls Tryz.prog 103 #[.slice (some ⟨W.heap.size, 0, none⟩) rs.length rs.length] (W.alloc (.cells (flatR rs).toArray 167)) (FitPost A w (rs.all (·.1))) :=
 (broken_any rs W.heap.size _ (rules_new W rs _) hl).mono fun e W' ⟨he, hW⟩ => by
  subst he
  exact fin_rules rs rfl hs (hb.trans (((((Below.refl _ _).alloc (Nat.le_refl _) _) : Below W.heap.size W _).trans (hW.mono (by simp))).mono hb.size))
theorem isS_co (A : Ad) : IsS A A.co := .inr (.inl rfl)
theorem isS_na (A : Ad) : IsS A A.na := .inr (.inr (.inl rfl))
theorem isS_lo (A : Ad) : IsS A A.lo := .inr (.inr (.inr (.inl rfl)))
theorem isS_fi (A : Ad) : IsS A A.fi := .inr (.inr (.inr (.inr (.inl rfl))))
theorem isS_de (A : Ad) : IsS A A.de := .inl rfl
theorem broken3 {A : Ad} {w W : World} (b1 b2 b3 : Bool) (hb : Below w.heap.size w W) :
  Calls Tryz.prog 103 #[.slice (some ⟨W.heap.size, 0, none⟩) 3 3] (W.alloc (.cells #[.bool b1, sen A.co, .bool b2, sen A.fi, .bool b3, sen A.fi] 167)) (FitPost A w (b1 && b2 && b3)) := by
 have := broken_new (A := A) [(b1, A.co), (b2, A.fi), (b3, A.fi)] hb (by simp [isS_co, isS_fi]) (by simp)
 simpa [Bool.and_assoc, flatR] using this
theorem FitPost.ret {a : Ad} {w w' : World} {b : Bool} {e : Ending} (h : FitPost a w b e w') : ∃ u, e = .returned u := by
 obtain ⟨_, h⟩ := h
 cases b
 ·rw [if_neg (by simp)] at h
  exact ⟨_, h.choose_spec.1⟩
 ·rw [if_pos rfl] at h
  exact ⟨_, h⟩
end Go.Proofs.YtmenllnokgjdlaaGreatDoor.F
