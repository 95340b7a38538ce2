/-
  What tlv.errnoOf answers at each error that package tlv makes. Conditions: the package-level variables hold what the program's text lays ('TG').
-/
import Derived.Test.YthibodkemnkjeaaDoorTErrs
import Derived.Test.YthibodkemnkjeaaDoorHelp
namespace Go.Proofs.YthibodkemnkjeaaDoor
open Go.RowKit
theorem hide {p : Prop} (h : p) : Hid p := h
theorem unhide {p : Prop} (h : Hid p) : p := h
end Go.Proofs.YthibodkemnkjeaaDoor
namespace Go.Proofs.YthibodkemnkjeaaDoor.T
open Go.RowKit Go.Extern.Stop Go.Stop Go.Extern

/-- errors.Is(fault{k, x}, x), x a sentinel. -/
theorem Is_same (k : Int) (a : Addr) (w : World) :
    Calls Tryd.prog 46 #[.iface 60 (.agg #[.int .i64 k, .iface 158 (.pointer (some a))]), .iface 158 (.pointer (some a))] w fun e w' => e = .returned (.bool true) ∧ Below w.heap.size w w' := by
  obtain ⟨i, hi, hcmp⟩ := Option.map_eq_some_iff.1 compS
  obtain ⟨j, hj, hjs⟩ := Option.map_eq_some_iff.1 sizeS
  have hext36 := @run_callFunc_extern Tryd.prog 61 _ ReflectliteType.typeOf Tryd.func61 (by kernel_rfl) (by kernel_rfl) (by kernel_rfl) (by kernel_rfl)
  obtain ⟨ext, hfind, cT⟩ := cmpExt
  have hext66 := @run_callFunc_extern Tryd.prog 114 _ ext Tryd.func114 (by kernel_rfl) (by kernel_rfl) (by kernel_rfl) hfind
  clear hfind
  have tT := typeOfS
  have mR := methodComparable
  have nW := noIsF
  have uW := unwF
  have mU := methodUnwrap
  have heq := fun w => run_eql_iface_ptr_same (P := Tryd.prog) w a Tryd.underlying48 Tryd.underlying158 hi hcmp hj
  have hty := fun w => run_eql_iface_types (P := Tryd.prog) 60 158 (.agg #[.int .i64 k, .iface 158 (.pointer (some a))]) (.pointer (some a)) Tryd.underlying48 (by decide) w
  go_enter Tryd.func46, Tryd.ntmps46
  go_wp2
  refine wp_loop_rounds 2 ?_
  rw [rounds_succ]
  go_wp2
  rw [rounds_succ]
  go_wp2
  go_ret
  exact ⟨rfl, (Below.refl _ _).alloc (by simp) _⟩

/-- errors.Is(fault{k, x}, y), x and y two sentinels. -/
theorem Is_other (k : Int) (a b : Addr) (ca cb : Array Value) (ta tb : TypeId) (w : World) (hne : a ≠ b) (ha : w.heap[a.block]? = some (.cells ca ta (0, 0))) (hb : w.heap[b.block]? = some (.cells cb tb (0, 0))) :
    Calls Tryd.prog 46 #[.iface 60 (.agg #[.int .i64 k, .iface 158 (.pointer (some a))]), .iface 158 (.pointer (some b))] w fun e w' => e = .returned (.bool false) ∧ Below w.heap.size w w' := by
  obtain ⟨i, hi, hcmp⟩ := Option.map_eq_some_iff.1 compS
  obtain ⟨j, hj, hjs⟩ := Option.map_eq_some_iff.1 sizeS
  have hext36 := @run_callFunc_extern Tryd.prog 61 _ ReflectliteType.typeOf Tryd.func61 (by kernel_rfl) (by kernel_rfl) (by kernel_rfl) (by kernel_rfl)
  obtain ⟨ext, hfind, cT⟩ := cmpExt
  have hext66 := @run_callFunc_extern Tryd.prog 114 _ ext Tryd.func114 (by kernel_rfl) (by kernel_rfl) (by kernel_rfl) hfind
  clear hfind
  have tT := typeOfS
  have mR := methodComparable
  have nW := noIsF
  have nE := noIsS
  have uW := unwF
  have uE := noUnwS
  have vE := noUnwsS
  have mU := methodUnwrap
  have hal : a.block < w.heap.size := (Array.getElem?_eq_some_iff.1 ha).1
  have hbl : b.block < w.heap.size := (Array.getElem?_eq_some_iff.1 hb).1
  have heq := run_eql_iface_ptr_other (P := Tryd.prog) (w.alloc (.cells #[.int .i64 k, .iface 158 (.pointer (some a))] 60)) Tryd.underlying48 Tryd.underlying158 hi hcmp hj (by rw [hjs]; decide) hne ((Below.heap_alloc _ _ _ hal).trans ha) ((Below.heap_alloc _ _ _ hbl).trans hb)
  have hty := fun w => run_eql_iface_types (P := Tryd.prog) 60 158 (.agg #[.int .i64 k, .iface 158 (.pointer (some a))]) (.pointer (some b)) Tryd.underlying48 (by decide) w
  clear ha hb hal hbl
  go_enter Tryd.func46, Tryd.ntmps46
  go_wp2
  refine wp_loop_rounds 2 ?_
  rw [rounds_succ]
  go_wp2
  rw [rounds_succ]
  go_wp2
  go_ret
  exact ⟨rfl, (Below.refl _ _).alloc (by simp) _⟩

/-- where the errors of package tlv lie. -/
structure Ads where
  sh : Addr
  tg : Addr
  mo : Addr
  no : Addr
  ki : Addr
  la : Addr

/-- an error of package tlv lies in a block of its own. -/
def Lies (w : World) (a : Addr) : Prop := ∃ c t, w.heap[a.block]? = some (.cells c t (0, 0))
theorem Lies.lt {w : World} {a : Addr} (h : Lies w a) : a.block < w.heap.size := by obtain ⟨_, _, h⟩ := h; exact (Array.getElem?_eq_some_iff.1 h).1
theorem Lies.of {w w' : World} {a : Addr} (h : Lies w a) (e : w'.heap[a.block]? = w.heap[a.block]?) : Lies w' a := by obtain ⟨c, t, h⟩ := h; exact ⟨c, t, e.trans h⟩

/-- The package-level variables of tlv hold what the program's text lays. -/
structure TG (A : Ads) (w : World) : Prop where
  ty : w.cell? ⟨7, 0, none⟩ = some (.iface 115 (.agg #[.pointer (some ⟨10, 48, none⟩)]))
  sh : w.cell? ⟨4, 0, none⟩ = some (.iface 158 (.pointer (some A.sh)))
  tg : w.cell? ⟨5, 0, none⟩ = some (.iface 158 (.pointer (some A.tg)))
  mo : w.cell? ⟨0, 0, none⟩ = some (.iface 158 (.pointer (some A.mo)))
  no : w.cell? ⟨1, 0, none⟩ = some (.iface 158 (.pointer (some A.no)))
  ki : w.cell? ⟨2, 0, none⟩ = some (.iface 158 (.pointer (some A.ki)))
  la : w.cell? ⟨3, 0, none⟩ = some (.iface 158 (.pointer (some A.la)))
  lsh : Lies w A.sh
  ltg : Lies w A.tg
  lmo : Lies w A.mo
  lno : Lies w A.no
  lki : Lies w A.ki
  lla : Lies w A.la
  ne : A.tg ≠ A.sh ∧ A.mo ≠ A.sh ∧ A.no ≠ A.sh ∧ A.ki ≠ A.sh ∧ A.la ≠ A.sh ∧ A.mo ≠ A.tg ∧ A.no ≠ A.tg ∧ A.ki ≠ A.tg ∧ A.la ≠ A.tg ∧ A.no ≠ A.mo ∧ A.ki ≠ A.mo ∧ A.la ≠ A.mo

theorem TG.of {A : Ads} {w w' : World} (g : TG A w) (hc : ∀ k, k < 10 → k < w.heap.size → w'.heap[k]? = w.heap[k]?) (hl : ∀ a, Lies w a → (a = A.sh ∨ a = A.tg ∨ a = A.mo ∨ a = A.no ∨ a = A.ki ∨ a = A.la) → w'.heap[a.block]? = w.heap[a.block]?) : TG A w' := by
  have c : ∀ (k : Nat) (v : Value), k < 10 → w.cell? ⟨k, 0, none⟩ = some v → w'.cell? ⟨k, 0, none⟩ = some v := fun k v hk h => (World.cell?_of_block (w := w) (a := ⟨k, 0, none⟩) (hc k hk (lt_of_cell h))).trans h
  exact ⟨c _ _ (by decide) g.ty, c _ _ (by decide) g.sh, c _ _ (by decide) g.tg, c _ _ (by decide) g.mo, c _ _ (by decide) g.no, c _ _ (by decide) g.ki, c _ _ (by decide) g.la,
    g.lsh.of (hl _ g.lsh (by simp)), g.ltg.of (hl _ g.ltg (by simp)), g.lmo.of (hl _ g.lmo (by simp)), g.lno.of (hl _ g.lno (by simp)), g.lki.of (hl _ g.lki (by simp)), g.lla.of (hl _ g.lla (by simp)), g.ne⟩
theorem TG.below {A : Ads} {w w' : World} (g : TG A w) {B : Nat} (hB : w.heap.size ≤ B) (h : Below B w w') : TG A w' :=
  g.of (fun k _ hk => h.block k (by omega)) (fun a ha _ => h.block _ (by have := ha.lt; omega))

/-- what is wrong, and its number. -/
def IsWhy (A : Ads) (u : Value) (E : Int) : Prop := u = .iface 69 (.agg #[.int .i64 E]) ∨
  ∃ a, u = .iface 158 (.pointer (some a)) ∧ (a = A.sh ∧ E = 10 ∨ a = A.tg ∧ E = 20 ∨ a = A.mo ∧ E = 11 ∨ (a = A.no ∨ a = A.ki ∨ a = A.la) ∧ E = 21)
/-- what is wrong, wrapped with a place. -/
def IsErr (A : Ads) (v : Value) (E : Int) : Prop := ∃ k u, v = .iface 60 (.agg #[.int .i64 k, u]) ∧ IsWhy A u E

theorem Is_any (k : Int) (a b : Addr) (w : World) (ha : Lies w a) (hb : Lies w b) (w1 : World) (h : Below w.heap.size w w1) :
    Calls Tryd.prog 46 #[.iface 60 (.agg #[.int .i64 k, .iface 158 (.pointer (some a))]), .iface 158 (.pointer (some b))] w1 fun e w' => e = .returned (.bool (decide (a = b))) ∧ Below w.heap.size w w' := by
  by_cases e : a = b
  · subst e
    rw [decide_eq_true rfl]
    exact (Is_same k a w1).mono fun _ _ ⟨h1, h2⟩ => ⟨h1, h.trans (h2.mono h.size)⟩
  · rw [decide_eq_false e]
    obtain ⟨ca, ta, ha'⟩ := ha.of (h.block _ ha.lt)
    obtain ⟨cb, tb, hb'⟩ := hb.of (h.block _ hb.lt)
    exact (Is_other k a b ca cb ta tb w1 e ha' hb').mono fun _ _ ⟨h1, h2⟩ => ⟨h1, h.trans (h2.mono h.size)⟩

theorem errnoOf_size (k n : Int) (A : Ads) (w : World) (g : TG A w) :
    Calls Tryd.prog 29 #[.iface 60 (.agg #[.int .i64 k, .iface 69 (.agg #[.int .i64 n])])] w fun e w' => e = .returned (.int .i64 n) ∧ Below w.heap.size w w' := by
  have gt := (g.below (Nat.le_refl _) ((Below.refl _ _).alloc (Nat.le_refl _) (.cells #[.int .i64 0] 69))).ty
  have H := As_gives _ _ true _ (as2 n k) ⟨w.heap.size, 0, none⟩ (.int .i64 0) (w.alloc (.cells #[.int .i64 0] 69)) gt (by simp) (by simp)
  clear gt g
  go_enter Tryd.func29, Tryd.ntmps29
  go_wp2_with (go_at_call 45; refine H.mono ?_; rintro e w' ⟨rfl, hb, hc⟩)
  go_ret
  exact ⟨rfl, ((Below.refl _ _).alloc (Nat.le_refl _) _).trans hb⟩

set_option maxHeartbeats 1000000 in
theorem errnoOf_sent (k : Int) (a : Addr) (E : Int) (A : Ads) (w : World) (g : TG A w) (la : Lies w a) (hE : E = if a = A.sh then 10 else if a = A.tg then 20 else if a = A.mo then 11 else 21) :
    Calls Tryd.prog 29 #[.iface 60 (.agg #[.int .i64 k, .iface 158 (.pointer (some a))])] w fun e w' => e = .returned (.int .i64 E) ∧ Below w.heap.size w w' := by
  have gt := (g.below (Nat.le_refl _) ((Below.refl _ _).alloc (Nat.le_refl _) (.cells #[.int .i64 0] 69))).ty
  have H := As_gives _ _ false _ (as3 k a) ⟨w.heap.size, 0, none⟩ (.int .i64 0) (w.alloc (.cells #[.int .i64 0] 69)) gt (by simp) (by simp)
  have I1 := hide (Is_any k a A.sh w la g.lsh)
  have I2 := hide (Is_any k a A.tg w la g.ltg)
  have I3 := hide (Is_any k a A.mo w la g.lmo)
  have HE := hide hE
  have G := hide (show ∀ w1, Below w.heap.size w w1 → w1.cell? ⟨4, 0, none⟩ = some (.iface 158 (.pointer (some A.sh))) ∧ w1.cell? ⟨5, 0, none⟩ = some (.iface 158 (.pointer (some A.tg))) ∧ w1.cell? ⟨0, 0, none⟩ = some (.iface 158 (.pointer (some A.mo))) from
    fun w1 h => ⟨(g.below (Nat.le_refl _) h).sh, (g.below (Nat.le_refl _) h).tg, (g.below (Nat.le_refl _) h).mo⟩)
  clear gt g hE la
  go_enter Tryd.func29, Tryd.ntmps29
  go_wp2_with fail
  refine H.mono ?_
  rintro e w1 ⟨rfl, hb, _⟩
  have hb1 : Below w.heap.size w w1 := ((Below.refl _ _).alloc (Nat.le_refl _) _).trans hb
  obtain ⟨c1, _, _⟩ := (unhide G) w1 hb1
  clear hb H
  go_wp2_with fail
  refine ((unhide I1) w1 hb1).mono ?_
  rintro e w2 ⟨rfl, hb2⟩
  obtain ⟨_, c2, _⟩ := (unhide G) w2 hb2
  clear I1 c1
  by_cases e1 : a = A.sh
  · rw [decide_eq_true e1]
    go_wp2
    go_ret
    exact ⟨by rw [unhide HE, if_pos e1]; rfl, hb2⟩
  · rw [decide_eq_false e1]
    go_wp2_with fail
    refine ((unhide I2) w2 hb2).mono ?_
    rintro e w3 ⟨rfl, hb3⟩
    obtain ⟨_, _, c3⟩ := (unhide G) w3 hb3
    clear I2 c2
    by_cases e2 : a = A.tg
    · rw [decide_eq_true e2]
      go_wp2
      go_ret
      exact ⟨by rw [unhide HE, if_neg e1, if_pos e2]; rfl, hb3⟩
    · rw [decide_eq_false e2]
      go_wp2_with fail
      refine ((unhide I3) w3 hb3).mono ?_
      rintro e w4 ⟨rfl, hb4⟩
      by_cases e3 : a = A.mo
      · rw [decide_eq_true e3]
        go_wp2
        go_ret
        exact ⟨by rw [unhide HE, if_neg e1, if_neg e2, if_pos e3]; rfl, hb4⟩
      · rw [decide_eq_false e3]
        go_wp2
        go_ret
        exact ⟨by rw [unhide HE, if_neg e1, if_neg e2, if_neg e3]; rfl, hb4⟩

theorem errnoOf_any (A : Ads) (v : Value) (E : Int) (h : IsErr A v E) (w : World) (g : TG A w) :
    Calls Tryd.prog 29 #[v] w fun e w' => e = .returned (.int .i64 E) ∧ Below w.heap.size w w' := by
  obtain ⟨k, u, rfl, rfl | ⟨a, rfl, h⟩⟩ := h
  · exact errnoOf_size k E A w g
  · obtain ⟨n1, n2, n3, n4, n5, n6, n7, n8, n9, n10, n11, n12⟩ := g.ne
    rcases h with ⟨rfl, rfl⟩ | ⟨rfl, rfl⟩ | ⟨rfl, rfl⟩ | ⟨rfl | rfl | rfl, rfl⟩
    · exact errnoOf_sent k _ _ A w g g.lsh (by simp)
    · exact errnoOf_sent k _ _ A w g g.ltg (by simp [n1])
    · exact errnoOf_sent k _ _ A w g g.lmo (by simp [n2, n6])
    · exact errnoOf_sent k _ _ A w g g.lno (by simp [n3, n7, n10])
    · exact errnoOf_sent k _ _ A w g g.lki (by simp [n4, n8, n11])
    · exact errnoOf_sent k _ _ A w g g.lla (by simp [n5, n9, n12])
end Go.Proofs.YthibodkemnkjeaaDoor.T
