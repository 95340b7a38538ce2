/-
  What utf.signsOf answers: what a range over a text gives. Conditions: none.
-/
import Derived.Test.YtpfopmjpchiekaaDoorUCheck
import Derived.RangeFuncBox
namespace Go.Proofs.YtpfopmjpchiekaaDoor.U
open Go Go.RowKit Go.Shelf
attribute [local go_sem] Oper.semAt_some

/-- cells of numbers. -/
def ints (l : List Nat) : List Value := l.map fun n : Nat => Value.int .i64 (n : Int)
theorem ints_length (l : List Nat) : (ints l).length = l.length := by simp [ints]
theorem infoI : ∃ i, Tryd.prog.info? 3 = some i ∧ i.zero = some (.int .i64 0) ∧ i.size = 1 ∧ i.bytes = 8 := ⟨Tryd.t3, by kernel_rfl, by kernel_rfl, by kernel_rfl, by kernel_rfl⟩
/-- a slice of the call's own memory that holds these numbers. -/
def IsL (w w' : World) (v : Value) (l : List Nat) : Prop := w'.ownsRow w.heap.size 3 1 v l.length (ints l)
def LPost (l : List Nat) (w : World) (e : Ending) (w' : World) : Prop := ∃ v, e = .returned v ∧ IsL w w' v l ∧ Below w.heap.size w w'

def linv {s : ByteArray} (w : World) (pre : List (Sg s)) (W : World) : Prop := ∃ v, Boxed W w.heap.size 22 v ∧ W.ownsRow w.heap.size 3 1 v pre.length (ints (pre.map (·.n))) ∧ Below w.heap.size w W

theorem finL {V : World} {D : Nat} {tmps : Array Value} {v : Value} {R : Ending → World → Prop} (hV : V.heap[D]? = some (.deferred (some []))) (t2 : tmps.getD 2 undef = v) (hp : R (.returned v) (V.putObj D (.deferred none))) :
    bodyPostM Fence.wide 3 Tryd.prog Tryd.f26 R Exit.ret { tmps, defers := [{ target := .collected D, args := #[] }] } V := by
  refine ⟨by simp, .inl ⟨_, _, rfl, run_takeDeferred hV, ?_⟩⟩
  refine ⟨v, ?_, hp⟩
  subst t2
  simp [results, Tryd.results26, go_sem]

set_option maxRecDepth 100000 in
set_option maxHeartbeats 2000000 in
theorem signsOf_any (s : ByteArray) (w : World) (hs : s.size ≤ 1000) :
    Calls Tryd.prog 26 #[.string s] w (LPost ((all s).map (·.n)) w) := by
  refine (callsIn_wide (n := 3)).1 ?_
  refine callsIn_of_wp_marks Tryd.func26 rfl trivial ?_ rfl
  simp only [Tryd.ntmps26, List.size_toArray, List.length_cons, List.length_nil, Nat.reduceAdd, Nat.reduceSub, Array.replicate_succ, Array.replicate_zero, List.push_toArray, List.append_toArray, List.nil_append, List.cons_append]
  refine wpIn_wide.2 ?_
  go_wp2_with fail
  refine (signs_any s _).mono ?_
  rintro e w' ⟨rfl, rfl⟩
  go_wp2
  obtain ⟨W0, hW0⟩ : ∃ W0, W0 = (w.alloc (.cells #[.slice none 0 0] 22)).alloc (.cells #[.string s] 59) := ⟨_, rfl⟩
  have hz : W0.heap.size = w.heap.size + 2 := by rw [hW0]; simp
  have hSt : linv (s := s) w [] W0 := by
    rw [hW0]
    exact ⟨.slice none 0 0, (Boxed.new _ _ _).alloc _, World.ownsRow_nil _ _ _ _, ((Below.refl _ _).alloc (by simp) _).alloc (by simp <;> omega) _⟩
  have hBs : W0.cell? ⟨w.heap.size + 1, 0, none⟩ = some (.string s) := by
    rw [hW0, World.cell?_alloc_at _ _ _ _ (by simp)]
    rfl
  rw [← hW0]
  clear hW0
  refine (wpIn_wide (n := 3)).1 ?_
  refine wpIn_rangeFunc_ownF rfl (by omega) (gf := 51) (lb := #[.pointer (some ⟨w.heap.size + 1, 0, none⟩)]) rfl trivial (enters_of Tryd.func51 (by kernel_rfl) rfl)
    (signs1_stops (3 - 1) (by omega) (w.heap.size + 1) s W0 hBs) KeepsWalks.trans walksK_b (Below.refl _ _) (fun _ => rfl)
    (linv w) (fun _ _ _ => False)
    (fun pre A B row hs hg hr => by
      obtain ⟨v, h1, h2, h3⟩ := hs
      obtain ⟨v', k1, k2, k3⟩ := holdsRow_own w.heap.size w.heap.size 22 3 1 (fun _ : Unit => pre.length) (fun _ => ints (pre.map (·.n))) (fun _ v' => v' = v) () A B row ⟨v, h1, h2, rfl⟩ hg (fun r e => (hr r e).2)
      subst k3
      exact ⟨_, k1, k2, ⟨hg.os.trans h3.os, hg.tape.trans h3.tape, hg.output.trans h3.output, Nat.le_trans h3.size hg.size, fun k hk => (hg.block k (Nat.lt_of_lt_of_le hk h3.size) (fun e => by have := (hr k e.symm).1; omega)).trans (h3.block k hk)⟩⟩)
    (fun _ _ _ _ _ hs _ _ => hs.elim)
    hSt
    (fun x => { tmps := #[.string s, undef, .slice none 0 0, .pointer (some ⟨w.heap.size, 0, none⟩), undef, .int .i32 x.n, .string s, .agg #[.string s], .func (.func 51) #[] #[.pointer (some ⟨w.heap.size + 1, 0, none⟩)], .int .i64 x.p, .int .i32 x.n, undef, undef, undef, undef, undef, undef], defers := [] }) ?assign ?body ?done ?stop
  case assign =>
    intro l x W K hK
    gi_wp2
    exact hK
  case body =>
    rintro l pre x W ⟨v, hv, ho, hb⟩ hN
    go_light
    have c0 := hv.cell
    have c1 := hv.frozen
    have hn := x.hn
    obtain ⟨i0, hi0, hz0, hz1, hz2⟩ := infoI
    have hnw : ∀ (j : Nat) (u : Value), [Value.int .i64 (x.n : Int)][j]? = some u → (W.alloc (.cells #[.int .i64 x.n] 3)).cell? ((⟨W.heap.size, 0, none⟩ : Addr).add j) = some u := news W [.int .i64 x.n] 3
    have HN := hide hnw
    have HO := hide (ho.alloc (.cells #[.int .i64 x.n] 3))
    have Ho := hide ho
    have Hv := hide hv
    have Hb := hide hb
    have hzb := hb.size
    clear hb ho hv hnw hSt hBs hz
    have e0 : wrap64 (x.n : Int) = x.n := by unfold wrap64; omega
    gi_wp2_with (first
      | (gi_at_builtin; refine wpListIn_append_own _ rfl (.tmp 11) (.tmp 14) 22 rfl w.heap.size 3 i0 (.int .i64 0) 1 8 Tryd.underlying22 hi0 hz0 hz1 hz2 rfl (by omega) v pre.length (ints (pre.map (·.n))) rfl (unhide HO) ⟨W.heap.size, 0, none⟩ 1 1 [.int .i64 x.n] rfl rfl (unhide HN) (by simp [Value.oneCell']) (by unfold maxLen; omega) (by omega) (by simp; omega) ?_; intro v' w1 hown' hgrow _; obtain ⟨g', cap', rfl⟩ := ownsRow_succ hown'; obtain ⟨a1, a2, a3, a4, a5⟩ := Boxed.appended (unhide Hv) (show (22 : TypeId) ≠ 3 by decide) (unhide Ho) hzb (Nat.le_refl _) hown' hgrow; have d0 := a1.cell; have d1 := a1.frozen; replace a2 := hide a2; replace a3 := hide a3; replace a4 := hide a4; replace a5 := hide a5; clear a1 hown' hgrow)
      | gi_in)
    refine ⟨unhide a4, (unhide a4).walks, _, unhide a2, ?_, (unhide Hb).trans (unhide a5)⟩
    have := unhide a3
    simpa [ints] using this
  case done =>
    rintro D ys W hD rfl ⟨v, hv, ho, hb⟩ hK
    have c0 := hv.cell
    have HK := hide hK
    have Ho := hide ho
    have Hb := hide hb
    clear hK ho hb hv hSt hBs
    go_wp2
    refine finL (unhide HK) rfl ⟨v, rfl, ?_, ?_⟩
    · have := ownsRow_putObj (unhide Ho) (.deferred none) (unhide HK) rfl
      unfold IsL
      rw [List.length_map]
      exact this
    · have hb := unhide Hb
      exact ⟨hb.os, hb.tape, hb.output, by simpa using hb.size, fun k hk => (World.putObj_heap_other (by omega)).trans (hb.block k hk)⟩
  case stop =>
    rintro D cd pre W hD hpre h hK
    exact h.elim
end Go.Proofs.YtpfopmjpchiekaaDoor.U
