/-
  What dn.errnoOf answers at each error that package dn makes, and at none. Conditions: the package-level variables hold what the program's text lays ('Glob').
-/
import Derived.Test.YthfcnjcpanoldaaGreatDoorDErrs
import Derived.Test.YthfcnjcpanoldaaGreatDoorDIsNil
import Derived.Test.YthfcnjcpanoldaaGreatDoorDText
import Derived.Test.YthfcnjcpanoldaaGreatDoorEA
namespace Go.Proofs.YthfcnjcpanoldaaGreatDoor.D
open Go.RowKit Go.Extern.Stop Go.Stop Go.Extern

/-- a sentinel, a fault around an error, what layer 6 said. -/
abbrev sen (a : Addr) : Value := .iface 219 (.pointer (some a))
abbrev flt (k : Int) (v : Value) : Value := .iface 63 (.agg #[.int .i64 k, v])
abbrev nov (n : Int) : Value := .iface 65 (.agg #[.int .i64 n])
/-- an error that wraps a sentinel, up to twice. -/
def Wr (x : Addr) (v : Value) : Prop := v = sen x ∨ (∃ k, v = flt k (sen x)) ∨ ∃ k j, v = flt k (flt j (sen x))
/-- where the sentinels lie: of esc, and the four of dn. -/
structure Ad where
  e : E.Ad
  c : Addr
  t : Addr
  l : Addr
  p : Addr
/-- The package-level variables hold what the program's text lays. -/
structure Glob (a : Ad) (w : World) : Prop where
  ge : E.Glob a.e w
  vc : w.cell? ⟨0, 0, none⟩ = some (sen a.c)
  vt : w.cell? ⟨1, 0, none⟩ = some (sen a.t)
  vl : w.cell? ⟨2, 0, none⟩ = some (sen a.l)
  vp : w.cell? ⟨3, 0, none⟩ = some (sen a.p)
  ntc : a.t ≠ a.c
  nlc : a.l ≠ a.c
  nlt : a.l ≠ a.t
  npc : a.p ≠ a.c
  npt : a.p ≠ a.t
  npl : a.p ≠ a.l
  hc : ∃ c t, w.heap[a.c.block]? = some (.cells c t (0, 0))
  ht : ∃ c t, w.heap[a.t.block]? = some (.cells c t (0, 0))
  hl : ∃ c t, w.heap[a.l.block]? = some (.cells c t (0, 0))
  hp : ∃ c t, w.heap[a.p.block]? = some (.cells c t (0, 0))
theorem Glob.below {a : Ad} {w w' : World} (g : Glob a w) {B : Nat} (hB : w.heap.size ≤ B) (h : Below B w w') : Glob a w' := by
  have hc : ∀ {p : Addr} {v : Value}, w.cell? p = some v → w'.cell? p = some v := fun {p v} e => (h.cell (Nat.lt_of_lt_of_le (lt_of_cell e) hB)).trans e
  have hh : ∀ {b : Nat}, (∃ c t, w.heap[b]? = some (.cells c t (0, 0))) → ∃ c t, w'.heap[b]? = some (.cells c t (0, 0)) := fun {b} ⟨c, t, e⟩ => ⟨c, t, (h.block _ (Nat.lt_of_lt_of_le (Array.getElem?_eq_some_iff.1 e).1 hB)).trans e⟩
  exact ⟨g.ge.below hB h, hc g.vc, hc g.vt, hc g.vl, hc g.vp, g.ntc, g.nlc, g.nlt, g.npc, g.npt, g.npl, hh g.hc, hh g.ht, hh g.hl, hh g.hp⟩
theorem Glob.alloc {a : Ad} {w : World} (g : Glob a w) (o : Obj) : Glob a (w.alloc o) :=
  g.below (Nat.le_refl _) ((Below.refl _ _).alloc (Nat.le_refl _) _)

theorem IsY {x : Addr} {v : Value} (h : Wr x v) (w : World) :
    Calls Tryz.prog 48 #[v, sen x] w fun e w' => e = .returned (.bool true) ∧ Below w.heap.size w w' := by
  rcases h with rfl | ⟨k, rfl⟩ | ⟨k, j, rfl⟩
  · exact IsS0 x w
  · exact IsS1 k x w
  · exact IsS2 k j x w
theorem IsN {x y : Addr} {v : Value} (h : Wr x v) (hne : x ≠ y) (w : World) (hx : ∃ c t, w.heap[x.block]? = some (.cells c t (0, 0))) (hy : ∃ c t, w.heap[y.block]? = some (.cells c t (0, 0))) :
    Calls Tryz.prog 48 #[v, sen y] w fun e w' => e = .returned (.bool false) ∧ Below w.heap.size w w' := by
  obtain ⟨c1, t1, h1⟩ := hx
  obtain ⟨c2, t2, h2⟩ := hy
  rcases h with rfl | ⟨k, rfl⟩ | ⟨k, j, rfl⟩
  · exact IsO0 x y c1 c2 t1 t2 w hne h1 h2
  · exact IsO1 k x y c1 c2 t1 t2 w hne h1 h2
  · exact IsO2 k j x y c1 c2 t1 t2 w hne h1 h2
theorem AsN {x : Addr} {v : Value} (h : Wr x v) (a : Ad) (w : World) (g : Glob a w) :
    Calls Tryz.prog 47 #[v, .iface 67 (.pointer (some ⟨w.heap.size, 0, none⟩))] (w.alloc (.cells #[.int .i64 0] 65)) fun e w' => e = .returned (.bool false) ∧ Below w.heap.size w w' := by
  have gt := (g.alloc (.cells #[.int .i64 0] 65)).ge.ty
  have fin : ∀ {T : TypeId} {u : Value}, AsGives (.iface T u) false → Calls Tryz.prog 47 #[.iface T u, .iface 67 (.pointer (some ⟨w.heap.size, 0, none⟩))] (w.alloc (.cells #[.int .i64 0] 65)) fun e w' => e = .returned (.bool false) ∧ Below w.heap.size w w' := fun {T u} hA =>
    (As_gives _ _ false hA ⟨w.heap.size, 0, none⟩ (.int .i64 0) _ gt (by simp) (by simp)).mono fun e w' ⟨he, hb⟩ => ⟨he, ((Below.refl _ _).alloc (Nat.le_refl _) _).trans hb⟩
  rcases h with rfl | ⟨k, rfl⟩ | ⟨k, j, rfl⟩
  · exact fin (asS0 x)
  · exact fin (asS1 k x)
  · exact fin (asS2 k j x)

theorem errnoOf_c (v : Value) (a : Ad) (h : Wr a.c v) (w : World) (g : Glob a w) :
    Calls Tryz.prog 30 #[v] w fun e w' => e = .returned (.int .i64 70) ∧ Below w.heap.size w w' := by
  have H := hide (AsN h a w g)
  have Hg := hide g
  have Hw := hide h
  clear g h
  go_enter Tryz.func30, Tryz.ntmps30
  go_wp2_with fail
  refine (unhide H).mono ?_
  rintro e w0 ⟨rfl, hb⟩
  have B0 := hide hb
  have G0 := hide ((unhide Hg).below (Nat.le_refl _) hb)
  clear hb H
  have c0 := (unhide G0).vc
  go_wp2_with fail
  refine (IsY (unhide Hw) _).mono ?_
  rintro e w1 ⟨rfl, hb⟩
  have B1 := hide ((unhide B0).trans (hb.mono (unhide B0).size))
  clear hb c0
  go_wp2
  go_ret
  exact ⟨rfl, unhide B1⟩
theorem errnoOf_t (v : Value) (a : Ad) (h : Wr a.t v) (w : World) (g : Glob a w) :
    Calls Tryz.prog 30 #[v] w fun e w' => e = .returned (.int .i64 70) ∧ Below w.heap.size w w' := by
  have H := hide (AsN h a w g)
  have Hg := hide g
  have Hw := hide h
  clear g h
  go_enter Tryz.func30, Tryz.ntmps30
  go_wp2_with fail
  refine (unhide H).mono ?_
  rintro e w0 ⟨rfl, hb⟩
  have B0 := hide hb
  have G0 := hide ((unhide Hg).below (Nat.le_refl _) hb)
  clear hb H
  have c0 := (unhide G0).vc
  go_wp2_with fail
  refine (IsN (unhide Hw) (unhide Hg).ntc _ (unhide G0).ht (unhide G0).hc).mono ?_
  rintro e w1 ⟨rfl, hb⟩
  have B1 := hide ((unhide B0).trans (hb.mono (unhide B0).size))
  have G1 := hide ((unhide G0).below (Nat.le_refl _) hb)
  clear hb c0
  have c1 := (unhide G1).vt
  go_wp2_with fail
  refine (IsY (unhide Hw) _).mono ?_
  rintro e w2 ⟨rfl, hb⟩
  have B2 := hide ((unhide B1).trans (hb.mono (unhide B1).size))
  clear hb c1
  go_wp2
  go_ret
  exact ⟨rfl, unhide B2⟩
theorem errnoOf_l (v : Value) (a : Ad) (h : Wr a.l v) (w : World) (g : Glob a w) :
    Calls Tryz.prog 30 #[v] w fun e w' => e = .returned (.int .i64 70) ∧ Below w.heap.size w w' := by
  have H := hide (AsN h a w g)
  have Hg := hide g
  have Hw := hide h
  clear g h
  go_enter Tryz.func30, Tryz.ntmps30
  go_wp2_with fail
  refine (unhide H).mono ?_
  rintro e w0 ⟨rfl, hb⟩
  have B0 := hide hb
  have G0 := hide ((unhide Hg).below (Nat.le_refl _) hb)
  clear hb H
  have c0 := (unhide G0).vc
  go_wp2_with fail
  refine (IsN (unhide Hw) (unhide Hg).nlc _ (unhide G0).hl (unhide G0).hc).mono ?_
  rintro e w1 ⟨rfl, hb⟩
  have B1 := hide ((unhide B0).trans (hb.mono (unhide B0).size))
  have G1 := hide ((unhide G0).below (Nat.le_refl _) hb)
  clear hb c0
  have c1 := (unhide G1).vt
  go_wp2_with fail
  refine (IsN (unhide Hw) (unhide Hg).nlt _ (unhide G1).hl (unhide G1).ht).mono ?_
  rintro e w2 ⟨rfl, hb⟩
  have B2 := hide ((unhide B1).trans (hb.mono (unhide B1).size))
  have G2 := hide ((unhide G1).below (Nat.le_refl _) hb)
  clear hb c1
  have c2 := (unhide G2).vl
  go_wp2_with fail
  refine (IsY (unhide Hw) _).mono ?_
  rintro e w3 ⟨rfl, hb⟩
  have B3 := hide ((unhide B2).trans (hb.mono (unhide B2).size))
  clear hb c2
  go_wp2
  go_ret
  exact ⟨rfl, unhide B3⟩
theorem errnoOf_p (v : Value) (a : Ad) (h : Wr a.p v) (w : World) (g : Glob a w) :
    Calls Tryz.prog 30 #[v] w fun e w' => e = .returned (.int .i64 70) ∧ Below w.heap.size w w' := by
  have H := hide (AsN h a w g)
  have Hg := hide g
  have Hw := hide h
  clear g h
  go_enter Tryz.func30, Tryz.ntmps30
  go_wp2_with fail
  refine (unhide H).mono ?_
  rintro e w0 ⟨rfl, hb⟩
  have B0 := hide hb
  have G0 := hide ((unhide Hg).below (Nat.le_refl _) hb)
  clear hb H
  have c0 := (unhide G0).vc
  go_wp2_with fail
  refine (IsN (unhide Hw) (unhide Hg).npc _ (unhide G0).hp (unhide G0).hc).mono ?_
  rintro e w1 ⟨rfl, hb⟩
  have B1 := hide ((unhide B0).trans (hb.mono (unhide B0).size))
  have G1 := hide ((unhide G0).below (Nat.le_refl _) hb)
  clear hb c0
  have c1 := (unhide G1).vt
  go_wp2_with fail
  refine (IsN (unhide Hw) (unhide Hg).npt _ (unhide G1).hp (unhide G1).ht).mono ?_
  rintro e w2 ⟨rfl, hb⟩
  have B2 := hide ((unhide B1).trans (hb.mono (unhide B1).size))
  have G2 := hide ((unhide G1).below (Nat.le_refl _) hb)
  clear hb c1
  have c2 := (unhide G2).vl
  go_wp2_with fail
  refine (IsN (unhide Hw) (unhide Hg).npl _ (unhide G2).hp (unhide G2).hl).mono ?_
  rintro e w3 ⟨rfl, hb⟩
  have B3 := hide ((unhide B2).trans (hb.mono (unhide B2).size))
  have G3 := hide ((unhide G2).below (Nat.le_refl _) hb)
  clear hb c2
  have c3 := (unhide G3).vp
  go_wp2_with fail
  refine (IsY (unhide Hw) _).mono ?_
  rintro e w4 ⟨rfl, hb⟩
  have B4 := hide ((unhide B3).trans (hb.mono (unhide B3).size))
  clear hb c3
  go_wp2
  go_ret
  exact ⟨rfl, unhide B4⟩
theorem errnoOf_n (n k j : Int) (a : Ad) (w : World) (g : Glob a w) :
    Calls Tryz.prog 30 #[flt k (flt j (nov n))] w fun e w' => e = .returned (.int .i64 70) ∧ Below w.heap.size w w' := by
  have gt := (g.alloc (.cells #[.int .i64 0] 65)).ge.ty
  have H := hide (As_gives _ _ true (asN2 n k j) ⟨w.heap.size, 0, none⟩ (.int .i64 0) (w.alloc (.cells #[.int .i64 0] 65)) gt (by simp) (by simp))
  clear gt g
  go_enter Tryz.func30, Tryz.ntmps30
  go_wp2_with fail
  refine (unhide H).mono ?_
  rintro e w1 ⟨rfl, hb⟩
  have HB := hide hb
  clear hb
  go_wp2
  go_ret
  exact ⟨rfl, ((Below.refl _ _).alloc (Nat.le_refl _) _).trans (unhide HB)⟩
theorem errnoOf_nil (a : Ad) (w : World) (g : Glob a w) :
    Calls Tryz.prog 30 #[.nilIface] w fun e w' => e = .returned (.int .i64 0) ∧ Below w.heap.size w w' := by
  have g1 := g.alloc (.cells #[.int .i64 0] 65)
  have c0 := g1.vc
  have c1 := g1.vt
  have c2 := g1.vl
  have c3 := g1.vp
  have H := hide fun t w => As_nil t w
  have K := hide fun b w => Is_nil b w
  have HB := hide ((Below.refl w.heap.size w).alloc (Nat.le_refl _) (.cells #[.int .i64 0] 65))
  clear g1 g
  go_enter Tryz.func30, Tryz.ntmps30
  go_wp2_with fail
  refine ((unhide H) _ _).mono ?_
  rintro e w1 ⟨rfl, rfl⟩
  repeat (go_wp2_with fail; refine ((unhide K) _ _).mono ?_; rintro e w1 ⟨rfl, rfl⟩)
  go_wp2
  go_ret
  exact ⟨rfl, unhide HB⟩

/-- errors of a part, of parts that stand together, of a name. -/
def Er0 (a : Ad) (v : Value) : Prop := v = sen a.t ∨ v = sen a.l ∨ v = sen a.p ∨ ∃ n, v = nov n
def Er1 (a : Ad) (v : Value) : Prop := v = sen a.c ∨ ∃ k u, Er0 a u ∧ v = flt k u
def Er2 (a : Ad) (v : Value) : Prop := v = sen a.c ∨ ∃ k u, Er1 a u ∧ v = flt k u
theorem Er0.form {a : Ad} {v : Value} (h : Er0 a v) : ∃ T x, v = .iface T x := by
  rcases h with rfl | rfl | rfl | ⟨n, rfl⟩ <;> exact ⟨_, _, rfl⟩
theorem Er1.form {a : Ad} {v : Value} (h : Er1 a v) : ∃ T x, v = .iface T x := by
  rcases h with rfl | ⟨k, u, _, rfl⟩ <;> exact ⟨_, _, rfl⟩
theorem Er2.form {a : Ad} {v : Value} (h : Er2 a v) : ∃ T x, v = .iface T x := by
  rcases h with rfl | ⟨k, u, _, rfl⟩ <;> exact ⟨_, _, rfl⟩
theorem errnoOf_any (v : Value) (a : Ad) (w : World) (g : Glob a w) (h : Er2 a v) :
    Calls Tryz.prog 30 #[v] w fun e w' => e = .returned (.int .i64 70) ∧ Below w.heap.size w w' := by
  rcases h with rfl | ⟨k, u, h | ⟨j, x, h, rfl⟩, rfl⟩
  · exact errnoOf_c _ a (.inl rfl) w g
  · subst h; exact errnoOf_c _ a (.inr (.inl ⟨k, rfl⟩)) w g
  · rcases h with rfl | rfl | rfl | ⟨n, rfl⟩
    · exact errnoOf_t _ a (.inr (.inr ⟨k, j, rfl⟩)) w g
    · exact errnoOf_l _ a (.inr (.inr ⟨k, j, rfl⟩)) w g
    · exact errnoOf_p _ a (.inr (.inr ⟨k, j, rfl⟩)) w g
    · exact errnoOf_n n k j a w g
end Go.Proofs.YthfcnjcpanoldaaGreatDoor.D
