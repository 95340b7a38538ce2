/-
  Several texts in one: FErrno, FFits. Each says what it proves, and its conditions.
-/
import Derived.Test.YtmjfkdpaeenfgaaGreatDoorG20
import Derived.Test.YtmjfkdpaeenfgaaGreatDoorFErrsK
import Derived.Test.YtmjfkdpaeenfgaaGreatDoorFErrsV
import Derived.Test.YtmjfkdpaeenfgaaGreatDoorG07
import Derived.Test.YtmjfkdpaeenfgaaGreatDoorG18
import Derived.Test.YtmjfkdpaeenfgaaGreatDoorG17
/-
  What filt.errnoOf answers at each error that package filt makes, wrapped any number of times, and at none. Conditions: the package-level variables hold what the program's text lays ('Glob').
-/
namespace Go.Proofs.YtmjfkdpaeenfgaaGreatDoor.F
open Go.RowKit Go.Extern.Stop Go.Stop Go.Extern
open Go.Proofs.YtmjfkdpaeenfgaaGreatDoor.D (hide unhide)

/-- where the sentinels lie: of esc, and the seven of filt. -/
structure Ad where
  e : E.Ad
  de : Addr
  co : Addr
  na : Addr
  lo : Addr
  fi : Addr
  si : Addr
  mo : Addr
/-- The package-level variables hold what the program's text lays. -/
structure Glob (a : Ad) (w : World) : Prop where
  ge : E.Glob a.e w
  vde : w.cell? ⟨0, 0, none⟩ = some (sen a.de)
  vco : w.cell? ⟨1, 0, none⟩ = some (sen a.co)
  vna : w.cell? ⟨2, 0, none⟩ = some (sen a.na)
  vlo : w.cell? ⟨3, 0, none⟩ = some (sen a.lo)
  vfi : w.cell? ⟨4, 0, none⟩ = some (sen a.fi)
  vsi : w.cell? ⟨5, 0, none⟩ = some (sen a.si)
  vmo : w.cell? ⟨6, 0, none⟩ = some (sen a.mo)
  hde : ∃ c t, w.heap[a.de.block]? = some (.cells c t (0, 0))
  hco : ∃ c t, w.heap[a.co.block]? = some (.cells c t (0, 0))
  hna : ∃ c t, w.heap[a.na.block]? = some (.cells c t (0, 0))
  hlo : ∃ c t, w.heap[a.lo.block]? = some (.cells c t (0, 0))
  hfi : ∃ c t, w.heap[a.fi.block]? = some (.cells c t (0, 0))
  hsi : ∃ c t, w.heap[a.si.block]? = some (.cells c t (0, 0))
  hmo : ∃ c t, w.heap[a.mo.block]? = some (.cells c t (0, 0))
theorem Glob.below {a : Ad} {w w' : World} (g : Glob a w) {B : Nat} (hB : w.heap.size ≤ B) (h : Below B w w') : Glob a w' := by
  have hc : ∀ {p : Addr} {v : Value}, w.cell? p = some v → w'.cell? p = some v := fun {p v} e => (h.cell (Nat.lt_of_lt_of_le (lt_of_cell e) hB)).trans e
  have hh : ∀ {b : Nat}, (∃ c t, w.heap[b]? = some (.cells c t (0, 0))) → ∃ c t, w'.heap[b]? = some (.cells c t (0, 0)) := fun {b} ⟨c, t, e⟩ => ⟨c, t, (h.block _ (Nat.lt_of_lt_of_le (Array.getElem?_eq_some_iff.1 e).1 hB)).trans e⟩
  exact ⟨g.ge.below hB h, hc g.vde, hc g.vco, hc g.vna, hc g.vlo, hc g.vfi, hc g.vsi, hc g.vmo, hh g.hde, hh g.hco, hh g.hna, hh g.hlo, hh g.hfi, hh g.hsi, hh g.hmo⟩
theorem Glob.alloc {a : Ad} {w : World} (g : Glob a w) (o : Obj) : Glob a (w.alloc o) :=
  g.below (Nat.le_refl _) ((Below.refl _ _).alloc (Nat.le_refl _) _)
theorem Glob.next {a : Ad} {w w' : World} (g : Glob a w) (h : Below w.heap.size w w') : Glob a w' := g.below (Nat.le_refl _) h

/-- one of the sentinels of filt. -/
def IsS (a : Ad) (x : Addr) : Prop := x = a.de ∨ x = a.co ∨ x = a.na ∨ x = a.lo ∨ x = a.fi ∨ x = a.si ∨ x = a.mo
theorem Glob.h {a : Ad} {w : World} (g : Glob a w) {x : Addr} (h : IsS a x) : ∃ c t, w.heap[x.block]? = some (.cells c t (0, 0)) := by
  rcases h with rfl | rfl | rfl | rfl | rfl | rfl | rfl
  · exact g.hde
  · exact g.hco
  · exact g.hna
  · exact g.hlo
  · exact g.hfi
  · exact g.hsi
  · exact g.hmo
/-- an error that package filt makes. -/
def IsErr (a : Ad) (v : Value) : Prop := ∃ n b, Ch n b v ∧ ((∃ x, IsS a x ∧ b = sen x) ∨ (∃ j, b = nok j) ∨ ∃ j, b = nov j)
theorem IsErr.wrap {a : Ad} {v : Value} (h : IsErr a v) (k : Int) : IsErr a (flt k v) := by
  obtain ⟨n, b, h1, h2⟩ := h
  exact ⟨n + 1, b, ⟨k, v, rfl, h1⟩, h2⟩
theorem IsErr.sen {a : Ad} {x : Addr} (h : IsS a x) : IsErr a (F.sen x) := ⟨0, _, rfl, .inl ⟨x, h, rfl⟩⟩
theorem IsErr.nok (a : Ad) (j : Int) : IsErr a (F.nok j) := ⟨0, _, rfl, .inr (.inl ⟨j, rfl⟩)⟩
theorem IsErr.nov (a : Ad) (j : Int) : IsErr a (F.nov j) := ⟨0, _, rfl, .inr (.inr ⟨j, rfl⟩)⟩
theorem IsErr.form {a : Ad} {v : Value} (h : IsErr a v) : ∃ T x, v = .iface T x := by
  obtain ⟨n, b, h1, h2⟩ := h
  refine h1.shape ?_
  rcases h2 with ⟨x, _, rfl⟩ | ⟨j, rfl⟩ | ⟨j, rfl⟩ <;> exact ⟨_, _, rfl⟩

/-- the two targets' boxes. -/
abbrev two (w : World) : World := (w.alloc (.cells #[.int .i64 0] 71)).alloc (.cells #[.int .i64 0] 73)
theorem two_below (w : World) : Below w.heap.size w (two w) := ((Below.refl _ _).alloc (Nat.le_refl _) _).alloc (by simp) _
theorem AsK {v : Value} {b : Bool} (h : K.AsGives v b) (hv : ∃ T x, v = .iface T x) (a : Ad) (w : World) (g : Glob a w) :
    Calls Tryz.prog 49 #[v, .iface 75 (.pointer (some ⟨w.heap.size, 0, none⟩))] (two w) fun e w' => e = .returned (.bool b) ∧ Below w.heap.size w w' ∧ (b = false → Below (w.heap.size + 2) (two w) w') := by
  obtain ⟨T, x, rfl⟩ := hv
  refine (K.As_gives T x b h ⟨w.heap.size, 0, none⟩ (.int .i64 0) _ (g.next (two_below w)).ge.ty (by rw [World.cell?_alloc_lt _ _ _ (by simp)]; simp) (by rw [World.frozen?_alloc_old _ _ _ (by simp)]; simp)).mono fun e w' ⟨he, hb⟩ => ⟨he, ?_, fun hb0 => by subst hb0; simpa [lim] using hb⟩
  refine (two_below w).trans (hb.mono ?_)
  cases b <;> simp [lim] <;> omega
theorem AsV {v : Value} {b : Bool} (h : V.AsGives v b) (hv : ∃ T x, v = .iface T x) (a : Ad) (w u : World) (g : Glob a w) (hu : Below (w.heap.size + 2) (two w) u) :
    Calls Tryz.prog 49 #[v, .iface 76 (.pointer (some ⟨w.heap.size + 1, 0, none⟩))] u fun e w' => e = .returned (.bool b) ∧ Below w.heap.size w w' := by
  obtain ⟨T, x, rfl⟩ := hv
  have hb0 := two_below w
  have hub : Below w.heap.size w u := hb0.trans (hu.mono (by omega))
  have hblk : u.heap[w.heap.size + 1]? = some (.cells #[.int .i64 0] 73 (0, 0)) := by
    rw [hu.block _ (by omega)]
    have := World.alloc_heap_new (w.alloc (.cells #[.int .i64 0] 71)) (.cells #[.int .i64 0] 73)
    rwa [World.size_alloc] at this
  refine (V.As_gives T x b h ⟨w.heap.size + 1, 0, none⟩ (.int .i64 0) u (g.next hub).ge.ty (by simp [World.cell?, hblk]) (by simp [World.frozen?, hblk])).mono fun e w' ⟨he, hb⟩ => ⟨he, ?_⟩
  refine hub.trans (hb.mono ?_)
  have := hub.size
  cases b <;> simp [lim] <;> omega

set_option maxHeartbeats 1000000 in
theorem errnoOf_s (n : Nat) (x : Addr) (v : Value) (a : Ad) (w : World) (g : Glob a w) (hx : IsS a x) (hc : Ch n (sen x) v) :
    Calls Tryz.prog 31 #[v] w fun e w' => e = .returned (.int .i64 80) ∧ Below w.heap.size w w' := by
  have hf := hc.shape ⟨_, _, rfl⟩
  have H := hide (AsK (K.asS n x v hc) hf a w g)
  have HV := hide fun u hu => AsV (V.asS n x v hc) hf a w u g hu
  have HY := hide fun W => IsY n x v hc W
  have HN := hide fun W b h1 h2 h3 => IsN n x v hc W b h1 h2 h3
  have Hg := hide g
  have Hx := hide hx
  obtain ⟨T, y, rfl⟩ := hf
  clear g hx hc
  go_enter Tryz.func31, Tryz.ntmps31
  go_wp2_with fail
  refine (unhide H).mono ?_
  rintro e u ⟨rfl, _, hu⟩
  have HU := hide (hu trivial)
  clear hu H
  go_wp2_with fail
  refine ((unhide HV) _ (unhide HU)).mono ?_
  rintro e w0 ⟨rfl, hb⟩
  have B0 := hide hb
  have G0 := hide ((unhide Hg).next hb)
  clear hb HU HV
  have c0 := (unhide G0).vde
  go_wp2_with fail
  by_cases h0 : x = a.de
  · refine (h0 ▸ (unhide HY) _ : Calls Tryz.prog 50 #[_, sen a.de] _ fun e w' => e = .returned (.bool true) ∧ Below _ _ w').mono ?_
    rintro e w1 ⟨rfl, hb⟩
    have B1 := hide ((unhide B0).trans (hb.mono (unhide B0).size))
    clear hb c0 h0
    go_wp2
    go_ret
    exact ⟨rfl, unhide B1⟩
  refine ((unhide HN) _ _ h0 ((unhide G0).h (unhide Hx)) (unhide G0).hde).mono ?_
  rintro e w1 ⟨rfl, hb⟩
  have B1 := hide ((unhide B0).trans (hb.mono (unhide B0).size))
  have G1 := hide ((unhide G0).next hb)
  replace h0 := hide h0
  clear hb c0 B0
  have c1 := (unhide G1).vco
  go_wp2_with fail
  by_cases h1 : x = a.co
  · refine (h1 ▸ (unhide HY) _ : Calls Tryz.prog 50 #[_, sen a.co] _ fun e w' => e = .returned (.bool true) ∧ Below _ _ w').mono ?_
    rintro e w1 ⟨rfl, hb⟩
    have B1 := hide ((unhide B1).trans (hb.mono (unhide B1).size))
    clear hb c1 h1
    go_wp2
    go_ret
    exact ⟨rfl, unhide B1⟩
  refine ((unhide HN) _ _ h1 ((unhide G1).h (unhide Hx)) (unhide G1).hco).mono ?_
  rintro e w2 ⟨rfl, hb⟩
  have B2 := hide ((unhide B1).trans (hb.mono (unhide B1).size))
  have G2 := hide ((unhide G1).next hb)
  replace h1 := hide h1
  clear hb c1 B1
  have c2 := (unhide G2).vna
  go_wp2_with fail
  by_cases h2 : x = a.na
  · refine (h2 ▸ (unhide HY) _ : Calls Tryz.prog 50 #[_, sen a.na] _ fun e w' => e = .returned (.bool true) ∧ Below _ _ w').mono ?_
    rintro e w1 ⟨rfl, hb⟩
    have B1 := hide ((unhide B2).trans (hb.mono (unhide B2).size))
    clear hb c2 h2
    go_wp2
    go_ret
    exact ⟨rfl, unhide B1⟩
  refine ((unhide HN) _ _ h2 ((unhide G2).h (unhide Hx)) (unhide G2).hna).mono ?_
  rintro e w3 ⟨rfl, hb⟩
  have B3 := hide ((unhide B2).trans (hb.mono (unhide B2).size))
  have G3 := hide ((unhide G2).next hb)
  replace h2 := hide h2
  clear hb c2 B2
  have c3 := (unhide G3).vlo
  go_wp2_with fail
  by_cases h3 : x = a.lo
  · refine (h3 ▸ (unhide HY) _ : Calls Tryz.prog 50 #[_, sen a.lo] _ fun e w' => e = .returned (.bool true) ∧ Below _ _ w').mono ?_
    rintro e w1 ⟨rfl, hb⟩
    have B1 := hide ((unhide B3).trans (hb.mono (unhide B3).size))
    clear hb c3 h3
    go_wp2
    go_ret
    exact ⟨rfl, unhide B1⟩
  refine ((unhide HN) _ _ h3 ((unhide G3).h (unhide Hx)) (unhide G3).hlo).mono ?_
  rintro e w4 ⟨rfl, hb⟩
  have B4 := hide ((unhide B3).trans (hb.mono (unhide B3).size))
  have G4 := hide ((unhide G3).next hb)
  replace h3 := hide h3
  clear hb c3 B3
  have c4 := (unhide G4).vfi
  go_wp2_with fail
  by_cases h4 : x = a.fi
  · refine (h4 ▸ (unhide HY) _ : Calls Tryz.prog 50 #[_, sen a.fi] _ fun e w' => e = .returned (.bool true) ∧ Below _ _ w').mono ?_
    rintro e w1 ⟨rfl, hb⟩
    have B1 := hide ((unhide B4).trans (hb.mono (unhide B4).size))
    clear hb c4 h4
    go_wp2
    go_ret
    exact ⟨rfl, unhide B1⟩
  refine ((unhide HN) _ _ h4 ((unhide G4).h (unhide Hx)) (unhide G4).hfi).mono ?_
  rintro e w5 ⟨rfl, hb⟩
  have B5 := hide ((unhide B4).trans (hb.mono (unhide B4).size))
  have G5 := hide ((unhide G4).next hb)
  replace h4 := hide h4
  clear hb c4 B4
  have c5 := (unhide G5).vsi
  go_wp2_with fail
  by_cases h5 : x = a.si
  · refine (h5 ▸ (unhide HY) _ : Calls Tryz.prog 50 #[_, sen a.si] _ fun e w' => e = .returned (.bool true) ∧ Below _ _ w').mono ?_
    rintro e w1 ⟨rfl, hb⟩
    have B1 := hide ((unhide B5).trans (hb.mono (unhide B5).size))
    clear hb c5 h5
    go_wp2
    go_ret
    exact ⟨rfl, unhide B1⟩
  refine ((unhide HN) _ _ h5 ((unhide G5).h (unhide Hx)) (unhide G5).hsi).mono ?_
  rintro e w6 ⟨rfl, hb⟩
  have B6 := hide ((unhide B5).trans (hb.mono (unhide B5).size))
  have G6 := hide ((unhide G5).next hb)
  replace h5 := hide h5
  clear hb c5 B5
  have c6 := (unhide G6).vmo
  go_wp2_with fail
  by_cases h6 : x = a.mo
  · refine (h6 ▸ (unhide HY) _ : Calls Tryz.prog 50 #[_, sen a.mo] _ fun e w' => e = .returned (.bool true) ∧ Below _ _ w').mono ?_
    rintro e w1 ⟨rfl, hb⟩
    have B1 := hide ((unhide B6).trans (hb.mono (unhide B6).size))
    clear hb c6 h6
    go_wp2
    go_ret
    exact ⟨rfl, unhide B1⟩
  refine ((unhide HN) _ _ h6 ((unhide G6).h (unhide Hx)) (unhide G6).hmo).mono ?_
  rintro e w7 ⟨rfl, hb⟩
  have B7 := hide ((unhide B6).trans (hb.mono (unhide B6).size))
  have G7 := hide ((unhide G6).next hb)
  replace h6 := hide h6
  clear hb c6 B6
  rcases unhide Hx with h | h | h | h | h | h | h
  · exact absurd h (unhide h0)
  · exact absurd h (unhide h1)
  · exact absurd h (unhide h2)
  · exact absurd h (unhide h3)
  · exact absurd h (unhide h4)
  · exact absurd h (unhide h5)
  · exact absurd h (unhide h6)

theorem errnoOf_k (n : Nat) (j : Int) (v : Value) (a : Ad) (w : World) (g : Glob a w) (hc : Ch n (nok j) v) :
    Calls Tryz.prog 31 #[v] w fun e w' => e = .returned (.int .i64 80) ∧ Below w.heap.size w w' := by
  have hf := hc.shape ⟨_, _, rfl⟩
  have H := hide (AsK (K.asE n j v hc) hf a w g)
  obtain ⟨T, y, rfl⟩ := hf
  clear g hc
  go_enter Tryz.func31, Tryz.ntmps31
  go_wp2_with fail
  refine (unhide H).mono ?_
  rintro e u ⟨rfl, hb, _⟩
  have HB := hide hb
  clear hb H
  go_wp2
  go_ret
  exact ⟨rfl, unhide HB⟩
theorem errnoOf_v (n : Nat) (j : Int) (v : Value) (a : Ad) (w : World) (g : Glob a w) (hc : Ch n (nov j) v) :
    Calls Tryz.prog 31 #[v] w fun e w' => e = .returned (.int .i64 80) ∧ Below w.heap.size w w' := by
  have hf := hc.shape ⟨_, _, rfl⟩
  have H := hide (AsK (K.asO n j v hc) hf a w g)
  have HV := hide fun u hu => AsV (V.asE n j v hc) hf a w u g hu
  obtain ⟨T, y, rfl⟩ := hf
  clear g hc
  go_enter Tryz.func31, Tryz.ntmps31
  go_wp2_with fail
  refine (unhide H).mono ?_
  rintro e u ⟨rfl, _, hu⟩
  have HU := hide (hu trivial)
  clear hu H
  go_wp2_with fail
  refine ((unhide HV) _ (unhide HU)).mono ?_
  rintro e w0 ⟨rfl, hb⟩
  have HB := hide hb
  clear hb HU HV
  go_wp2
  go_ret
  exact ⟨rfl, unhide HB⟩
theorem errnoOf_any (v : Value) (a : Ad) (w : World) (g : Glob a w) (h : IsErr a v) :
    Calls Tryz.prog 31 #[v] w fun e w' => e = .returned (.int .i64 80) ∧ Below w.heap.size w w' := by
  obtain ⟨n, b, hc, ⟨x, hx, rfl⟩ | ⟨j, rfl⟩ | ⟨j, rfl⟩⟩ := h
  · exact errnoOf_s n x v a w g hx hc
  · exact errnoOf_k n j v a w g hc
  · exact errnoOf_v n j v a w g hc
theorem errnoOf_nil (a : Ad) (w : World) (g : Glob a w) :
    Calls Tryz.prog 31 #[.nilIface] w fun e w' => e = .returned (.int .i64 0) ∧ Below w.heap.size w w' := by
  have g1 := g.next (two_below w)
  have c0 := g1.vde
  have c1 := g1.vco
  have c2 := g1.vna
  have c3 := g1.vlo
  have c4 := g1.vfi
  have c5 := g1.vsi
  have c6 := g1.vmo
  have H := hide fun t w => K.As_nil t w
  have HV := hide fun t w => V.As_nil t w
  have KN := hide fun b w => Is_nil b w
  have HB := hide (two_below w)
  clear g1 g
  go_enter Tryz.func31, Tryz.ntmps31
  go_wp2_with fail
  refine ((unhide H) _ _).mono ?_
  rintro e w1 ⟨rfl, rfl⟩
  go_wp2_with fail
  refine ((unhide HV) _ _).mono ?_
  rintro e w1 ⟨rfl, rfl⟩
  repeat (go_wp2_with fail; refine ((unhide KN) _ _).mono ?_; rintro e w1 ⟨rfl, rfl⟩)
  go_wp2
  go_ret
  exact ⟨rfl, unhide HB⟩
end Go.Proofs.YtmjfkdpaeenfgaaGreatDoor.F

/-
  What filt.broken, isNoPiece, slices.ContainsFunc over it, and filt.fits answer. Conditions: the package-level variables hold what the program's text lays.
-/
namespace Go.Proofs.YtmjfkdpaeenfgaaGreatDoor.F
open Go Go.RowKit Go.Shelf Fp
open Go.Proofs.YtmjfkdpaeenfgaaGreatDoor.D (hide unhide ext_list)
attribute [local go_sem] Oper.semAt_some

/-- what the first rule says that is not kept. -/
def firstNo : List (Bool × Addr) → Value
  | [] => .nilIface
  | (b, a) :: r => if b then firstNo r else sen a
theorem firstNo_all {rs : List (Bool × Addr)} (h : rs.all (·.1) = true) : firstNo rs = .nilIface := by
  induction rs with
  | nil => rfl
  | cons r rs ih =>
    rw [List.all_cons, Bool.and_eq_true] at h
    obtain ⟨b, a⟩ := r
    obtain rfl : b = true := h.1
    exact ih h.2
theorem firstNo_err {a : Ad} {rs : List (Bool × Addr)} (h : rs.all (·.1) = false) (hs : ∀ r ∈ rs, IsS a r.2) : IsErr a (firstNo rs) := by
  induction rs with
  | nil => cases h
  | cons r rs ih =>
    obtain ⟨b, x⟩ := r
    cases b
    · exact IsErr.sen (hs (false, x) (by simp))
    · exact ih (by simpa using h) (fun r hr => hs r (by simp [hr]))
/-- rules that lie in a row. -/
def Rules (W : World) (g : Nat) (rs : List (Bool × Addr)) : Prop := ∀ (i : Nat) r, rs[i]? = some r → W.cell? ⟨g, i * 2, none⟩ = some (.bool r.1) ∧ W.cell? ⟨g, i * 2 + 1, none⟩ = some (sen r.2)

set_option maxRecDepth 100000 in
theorem broken_any (rs : List (Bool × Addr)) (g : Nat) (w : World) (hr : Rules w g rs) (hl : rs.length ≤ 10) :
    Calls Tryz.prog 78 #[.slice (some ⟨g, 0, none⟩) rs.length rs.length] w fun e w' => e = .returned (firstNo rs) ∧ Below w.heap.size w w' := by
  have HR := hide hr
  have hl' : (rs.length : Int) ≤ 10 := by omega
  clear hr
  go_enter Tryz.func78, Tryz.ntmps78
  go_wp2
  go_loopw [7] (fun ix wr => ∃ j : Nat, j ≤ rs.length ∧ ix = .int .i64 (j : Int) ∧ Hid (firstNo rs = firstNo (rs.drop j)) ∧ Hid (Below w.heap.size w wr))
    (fun ix _ => rs.length - (intOf ix).toNat)
  case atStart => exact ⟨0, Nat.zero_le _, rfl, hide (by rw [List.drop_zero]), hide (Below.refl _ _)⟩
  case round =>
    obtain ⟨j, hj, rfl, hf, hb⟩ := hrel
    by_cases hlt : j < rs.length
    · obtain ⟨c0, c1⟩ := (unhide HR) j _ (List.getElem?_eq_getElem hlt)
      have d0 := ((unhide hb).cell (D.lt_cell c0)).trans c0
      have d1 := ((unhide hb).cell (D.lt_cell c1)).trans c1
      have hcons := List.drop_eq_getElem_cons hlt
      obtain ⟨⟨b, a⟩, hba⟩ : ∃ r, rs[j] = r := ⟨_, rfl⟩
      rw [hba] at hcons d0 d1
      have hlt' : (j : Int) < rs.length := by omega
      have Hc := hide hcons
      clear c0 c1 hba hcons
      cases b
      · have e : firstNo rs = sen a := by rw [unhide hf, unhide Hc]; rfl
        have He := hide e
        clear e
        go_wp2
        go_ret
        rw [unhide He]
        exact ⟨rfl, (unhide hb).trans (((Below.refl _ _).alloc (Nat.le_refl _) _).mono (unhide hb).size)⟩
      · go_wp2
        go_roundw
        case rel =>
          refine ⟨j + 1, by omega, by simp, hide ?_, hide ((unhide hb).trans (((Below.refl _ _).alloc (Nat.le_refl _) _).mono (unhide hb).size))⟩
          rw [unhide hf, unhide Hc]
          rfl
        case measure => simp [intOf]; omega
    · have hge : ¬ (j : Int) < rs.length := by omega
      have e : firstNo rs = .nilIface := by rw [unhide hf, List.drop_of_length_le (by omega)]; rfl
      have He := hide e
      clear e hf
      go_wp2
      go_ret
      rw [unhide He]
      exact ⟨rfl, unhide hb⟩

theorem isNoPiece_any (s : ByteArray) (w : World) :
    Calls Tryz.prog 80 #[.string s] w fun e w' => e = .returned (.bool (!okP s)) ∧ w' = w := by
  have hz : (s.toList == ([] : List UInt8)) = decide (s.size = 0) := by
    rw [ByteArray.toList_eq, Bool.eq_iff_iff, beq_iff_eq, decide_eq_true_eq]
    exact ⟨fun h => by rw [show s.size = s.data.toList.length from (Array.length_toList).symm, h]; rfl, fun h => List.eq_nil_of_length_eq_zero (by rw [Array.length_toList]; exact h)⟩
  have ho : (!okP s) = (decide (s.size = 0) || decide (60 < s.size)) := by
    unfold okP
    rw [Bool.eq_iff_iff]
    simp
    try omega
  rw [ho]
  clear ho
  by_cases h0 : s.size = 0
  · rw [decide_eq_true h0] at hz ⊢
    clear h0
    go_enter Tryz.func80, Tryz.ntmps80
    go_wp2
    go_ret
    exact ⟨rfl, rfl⟩
  · rw [decide_eq_false h0] at hz ⊢
    have e : decide (60 < s.size) = decide ((60 : Int) < s.size) := by rw [Bool.eq_iff_iff]; simp; omega
    rw [e, Bool.false_or]
    clear h0 e
    go_enter Tryz.func80, Tryz.ntmps80
    go_wp2
    go_ret
    exact ⟨rfl, rfl⟩

/-- a text that lies somewhere, later. -/
theorem Strs.get {W W' : World} {p : Nat → Prop} {a : Option Addr} {xs : List ByteArray} (h : Strs W p a xs) (hb : Below W.heap.size W W') {i : Nat} (hi : i < xs.length) : ∃ g off, a = some ⟨g, off, none⟩ ∧ W'.cell? ⟨g, off + i, none⟩ = some (.string xs[i]) := by
  obtain ⟨g, off, ha, hc⟩ := h.at hi
  exact ⟨g, off, ha, (hb.cell (D.lt_cell hc)).trans hc⟩
set_option maxRecDepth 100000 in
theorem indexNo_any (xs : List ByteArray) (a : Option Addr) (c : Nat) (p : Nat → Prop) (w : World) (hx : Strs w p a xs) (hl : xs.length ≤ 1000) :
    Calls Tryz.prog 106 #[.slice a xs.length c, .func (.func 80) #[] #[]] w fun e w' => ∃ k : Int, e = .returned (.int .i64 k) ∧ decide (0 ≤ k) = (!xs.all okP) ∧ w' = w := by
  have HX := hide hx
  have HN := hide fun s W => isNoPiece_any s W
  have hl' : (xs.length : Int) ≤ 1000 := by omega
  clear hx
  go_enter Tryz.func106, Tryz.ntmps106
  go_wp2
  go_loopw [8] (fun ix wr => ∃ j : Nat, j ≤ xs.length ∧ ix = .int .i64 (j : Int) ∧ Hid (xs.all okP = (xs.drop j).all okP) ∧ wr = w)
    (fun ix _ => xs.length - (intOf ix).toNat)
  case atStart => exact ⟨0, Nat.zero_le _, rfl, hide (by rw [List.drop_zero]), rfl⟩
  case round =>
    obtain ⟨j, hj, rfl, hf, rfl⟩ := hrel
    by_cases hlt : j < xs.length
    · obtain ⟨g, off, rfl, c0⟩ := (unhide HX).at hlt
      have hcons := List.drop_eq_getElem_cons hlt
      obtain ⟨x, hx⟩ : ∃ x, xs[j] = x := ⟨_, rfl⟩
      rw [hx] at hcons c0
      have hlt' : (j : Int) < xs.length := by omega
      have Hc := hide hcons
      have H := hide fun W => (unhide HN) x W
      clear hx hcons
      cases ho : okP x
      · rw [ho] at H
        have Ho := hide ho
        clear ho
        go_wp2_with fail
        refine ((unhide H) _).mono ?_
        rintro e w1 ⟨rfl, rfl⟩
        go_wp2
        go_ret
        refine ⟨j, rfl, ?_, rfl⟩
        rw [unhide hf, unhide Hc, List.all_cons, unhide Ho]
        simp
      · rw [ho] at H
        have Ho := hide ho
        clear ho
        go_wp2_with fail
        refine ((unhide H) _).mono ?_
        rintro e w1 ⟨rfl, rfl⟩
        go_wp2
        go_roundw
        case rel =>
          refine ⟨j + 1, by omega, by simp, hide ?_, by first | rfl | trivial⟩
          rw [unhide hf, unhide Hc, List.all_cons, unhide Ho, Bool.true_and]
        case measure => simp [intOf]; omega
    · have hge : ¬ (j : Int) < xs.length := by omega
      have He := hide (show xs.all okP = true by rw [unhide hf, List.drop_of_length_le (by omega)]; rfl)
      clear hf
      go_wp2
      go_ret
      refine ⟨-1, rfl, ?_, rfl⟩
      rw [unhide He]
      rfl
theorem containsNo_any (xs : List ByteArray) (a : Option Addr) (c : Nat) (p : Nat → Prop) (w : World) (hx : Strs w p a xs) (hl : xs.length ≤ 1000) :
    Calls Tryz.prog 79 #[.slice a xs.length c, .func (.func 80) #[] #[]] w fun e w' => e = .returned (.bool (!xs.all okP)) ∧ w' = w := by
  have H := hide (indexNo_any xs a c p w hx hl)
  generalize (!xs.all okP) = b at *
  clear hx
  go_enter Tryz.func79, Tryz.ntmps79
  go_wp2_with fail
  refine (unhide H).mono ?_
  rintro e w1 ⟨k, rfl, rfl, rfl⟩
  go_wp2
  go_ret
  exact ⟨rfl, rfl⟩

/-- what fits, check and the readers leave: nothing, or an error. -/
def FitPost (a : Ad) (w : World) (b : Bool) (e : Ending) (w' : World) : Prop := Below w.heap.size w w' ∧ if b = true then e = .returned .nilIface else ∃ v, e = .returned v ∧ IsErr a v
def flatR (rs : List (Bool × Addr)) : List Value := rs.flatMap fun r => [.bool r.1, sen r.2]
theorem flatR_at : ∀ (rs : List (Bool × Addr)) (i : Nat) r, rs[i]? = some r → (flatR rs)[i * 2]? = some (.bool r.1) ∧ (flatR rs)[i * 2 + 1]? = some (sen r.2)
  | [], i, r, h => by simp at h
  | x :: rs, 0, r, h => by
    obtain rfl : x = r := by simpa using h
    exact ⟨rfl, rfl⟩
  | x :: rs, i + 1, r, h => by
    have := flatR_at rs i r (by simpa using h)
    rw [show (i + 1) * 2 = i * 2 + 1 + 1 by omega]
    exact this
theorem rules_new (W : World) (rs : List (Bool × Addr)) (T : TypeId) : Rules (W.alloc (.cells (flatR rs).toArray T)) W.heap.size rs := fun i r hr => by
  obtain ⟨h1, h2⟩ := flatR_at rs i r hr
  constructor
  · rw [World.cell?_alloc_at _ _ _ _ rfl]; simpa using h1
  · rw [World.cell?_alloc_at _ _ _ _ rfl]; simpa using h2
theorem fin_rules {a : Ad} {w W : World} {b : Bool} (rs : List (Bool × Addr)) (hb : b = rs.all (·.1)) (hs : ∀ r ∈ rs, IsS a r.2) (hW : Below w.heap.size w W) : FitPost a w b (.returned (firstNo rs)) W := by
  refine ⟨hW, ?_⟩
  subst hb
  cases h : rs.all (·.1)
  · rw [if_neg (by simp)]
    exact ⟨_, rfl, firstNo_err h hs⟩
  · rw [if_pos rfl, firstNo_all h]
theorem size0 (s : ByteArray) : decide (s.size = 0) = (s.toList == ([] : List UInt8)) := by
  rw [ByteArray.toList_eq, Bool.eq_iff_iff, beq_iff_eq, decide_eq_true_eq]
  exact ⟨fun h => List.eq_nil_of_length_eq_zero (by rw [Array.length_toList]; exact h), fun h => by rw [show s.size = s.data.toList.length from (Array.length_toList).symm, h]; rfl⟩
theorem len0 (n : Nat) : decide (n = 0) = ((n : Int) == 0) := by rw [Bool.eq_iff_iff]; simp

theorem broken_new {A : Ad} {w W : World} (rs : List (Bool × Addr)) (hb : Below w.heap.size w W) (hs : ∀ r ∈ rs, IsS A r.2) (hl : rs.length ≤ 10) :
    Calls Tryz.prog 78 #[.slice (some ⟨W.heap.size, 0, none⟩) rs.length rs.length] (W.alloc (.cells (flatR rs).toArray 119)) (FitPost A w (rs.all (·.1))) :=
  (broken_any rs W.heap.size _ (rules_new W rs _) hl).mono fun e W' ⟨he, hW⟩ => by
    subst he
    exact fin_rules rs rfl hs (hb.trans (((((Below.refl _ _).alloc (Nat.le_refl _) _) : Below W.heap.size W _).trans (hW.mono (by simp))).mono hb.size))
theorem isS_co (A : Ad) : IsS A A.co := .inr (.inl rfl)
theorem isS_na (A : Ad) : IsS A A.na := .inr (.inr (.inl rfl))
theorem isS_lo (A : Ad) : IsS A A.lo := .inr (.inr (.inr (.inl rfl)))
theorem isS_fi (A : Ad) : IsS A A.fi := .inr (.inr (.inr (.inr (.inl rfl))))
theorem isS_de (A : Ad) : IsS A A.de := .inl rfl
theorem isS_si (A : Ad) : IsS A A.si := .inr (.inr (.inr (.inr (.inr (.inl rfl)))))
theorem isS_mo (A : Ad) : IsS A A.mo := .inr (.inr (.inr (.inr (.inr (.inr rfl)))))
theorem broken3 {A : Ad} {w W : World} (b1 b2 b3 : Bool) (hb : Below w.heap.size w W) :
    Calls Tryz.prog 78 #[.slice (some ⟨W.heap.size, 0, none⟩) 3 3] (W.alloc (.cells #[.bool b1, sen A.co, .bool b2, sen A.fi, .bool b3, sen A.fi] 119)) (FitPost A w (b1 && b2 && b3)) := by
  have := broken_new (A := A) [(b1, A.co), (b2, A.fi), (b3, A.fi)] hb (by simp [isS_co, isS_fi]) (by simp)
  simpa [Bool.and_assoc, flatR] using this

theorem FitPost.ret {a : Ad} {w w' : World} {b : Bool} {e : Ending} (h : FitPost a w b e w') : ∃ u, e = .returned u := by
  obtain ⟨_, h⟩ := h
  cases b
  · rw [if_neg (by simp)] at h
    exact ⟨_, h.choose_spec.1⟩
  · rw [if_pos rfl] at h
    exact ⟨_, h⟩
end Go.Proofs.YtmjfkdpaeenfgaaGreatDoor.F
