/-
  What utf.checker.check answers by the three rules of a safe line. Conditions: the package-level variables hold what the program's text lays ('Glob').
-/
import Derived.Test.YtpfopmjpchiekaaDoorUCheck
namespace Go.Proofs.YtpfopmjpchiekaaDoor.U
open Go Go.RowKit Go.Shelf
attribute [local go_sem] Oper.semAt_some

/-- may a sign stand at a place of a safe line? -/
def ok3 (s : ByteArray) (p n : Nat) : Bool := plain n && begins p n && ends s p n

set_option maxRecDepth 100000 in
set_option maxHeartbeats 2000000 in
theorem check_safe (s : ByteArray) (Rb : Nat) (aU aS : Addr) (w : World) (g : Glob aU aS w) (hs : s.size ≤ 1000) (hR : w.cell? ⟨Rb, 0, none⟩ = some (.func (.func 33) #[] #[])) (hR1 : w.cell? ⟨Rb, 1, none⟩ = some (.func (.func 34) #[] #[])) (hR2 : w.cell? ⟨Rb, 2, none⟩ = some (.func (.func 35) #[] #[])) :
    Calls Tryd.prog 42 #[.agg #[.string s, .slice (some ⟨Rb, 0, none⟩) 3 3]] w (ChkPost (ok3 s) aS s w) := by
  refine (callsIn_wide (n := 3)).1 ?_
  refine callsIn_of_wp_marks Tryd.func42 rfl trivial ?_ rfl
  simp only [Tryd.ntmps42, List.size_toArray, List.length_cons, List.length_nil, Nat.reduceAdd, Nat.reduceSub, Array.replicate_succ, Array.replicate_zero, List.push_toArray, List.append_toArray, List.nil_append, List.cons_append]
  refine wpIn_wide.2 ?_
  go_wp2
  refine wp_scope_straight ?_
  go_wp2
  refine wp_label ?_
  go_wp2_with (go_at_call 39; refine (signs_any s _).mono ?_; rintro e w' ⟨rfl, rfl⟩)
  obtain ⟨W0, hW0⟩ : ∃ W0, W0 = ((w.alloc (.cells #[.string s, .slice (some ⟨Rb, 0, none⟩) 3 3] 67)).alloc (.cells #[.nilIface] 39)).alloc (.cells #[.string s] 59) := ⟨_, rfl⟩
  have hz : W0.heap.size = w.heap.size + 3 := by rw [hW0]; simp
  have hSt : St s (.slice (some ⟨Rb, 0, none⟩) 3 3) .nilIface w W0 := by
    rw [hW0]
    refine ⟨?_, ?_, ((((Below.refl _ _).alloc (by simp) _).alloc (by simp <;> omega) _).alloc (by simp <;> omega) _), by simp⟩
    · rw [Below.heap_alloc _ _ _ (by simp <;> omega), Below.heap_alloc _ _ _ (by simp)]; exact World.alloc_heap_new _ _
    · rw [Below.heap_alloc _ _ _ (by simp)]; have := World.alloc_heap_new (w.alloc (.cells #[.string s, .slice (some ⟨Rb, 0, none⟩) 3 3] 67)) (.cells #[.nilIface] 39); rwa [World.size_alloc] at this
  have hBs : W0.cell? ⟨w.heap.size + 1 + 1, 0, none⟩ = some (.string s) := by
    rw [hW0, World.cell?_alloc_at _ _ _ _ (by simp)]
    rfl
  rw [← hW0]
  clear hW0
  refine (wpIn_wide (n := 3)).1 ?_
  refine wpIn_rangeFunc_ownF rfl (by omega) (gf := 51) (lb := #[.pointer (some ⟨w.heap.size + 1 + 1, 0, none⟩)]) rfl trivial (enters_of Tryd.func51 (by kernel_rfl) rfl)
    (signs1_stops (3 - 1) (by omega) (w.heap.size + 1 + 1) s W0 hBs) KeepsWalks.trans walksK_b (Below.refl _ _) (fun _ => rfl)
    (inv (ok3 s) s (.slice (some ⟨Rb, 0, none⟩) 3 3) w) (outv (ok3 s) aS s (.slice (some ⟨Rb, 0, none⟩) 3 3) w)
    (fun pre A B row hs hg hr => ⟨hs.1, hs.2.grown hg (fun r e => by have := (hr r e).1; omega)⟩)
    (fun cd pre A B row hs hg hr => by
      obtain ⟨e1, l, x, h1, h2, h3, hst⟩ := hs
      exact ⟨e1, l, x, h1, h2, h3, hst.grown hg (fun r e => by have := (hr r e).1; omega)⟩)
    ⟨by simp, hSt⟩
    (fun x => { tmps := #[.agg #[.string s, .slice (some ⟨Rb, 0, none⟩) 3 3], .pointer (some ⟨w.heap.size, 0, none⟩), .nilIface, .pointer (some ⟨w.heap.size + 1, 0, none⟩), .int .i64 x.p, .int .i32 x.n, undef, undef, undef, .pointer (some ⟨w.heap.size, 0, none⟩), .agg #[.string s], .func (.func 51) #[] #[.pointer (some ⟨w.heap.size + 1 + 1, 0, none⟩)], .int .i64 x.p, .int .i32 x.n,
      undef, undef, undef, undef, undef, undef, undef, undef, undef, undef, undef, undef, undef, undef, undef, undef, undef, undef, undef, undef, undef], defers := [] }) ?assign ?body ?done ?stop
  case assign =>
    intro l x W K hK
    gi_wp2
    exact hK
  case body =>
    rintro l pre x W ⟨hpl, hst⟩ hN
    go_light
    obtain ⟨c0, c1, c2, c3⟩ := hst.cells
    have hr0 := fun W' (hb : Below W.heap.size W W') => (hb.cell (by have := lt_of_cell hR; have := hst.bel.size; simp at *; omega)).trans ((hst.bel.cell (lt_of_cell hR)).trans hR)
    have hr1 := fun W' (hb : Below W.heap.size W W') => (hb.cell (by have := lt_of_cell hR1; have := hst.bel.size; simp at *; omega)).trans ((hst.bel.cell (lt_of_cell hR1)).trans hR1)
    have hr2 := fun W' (hb : Below W.heap.size W W') => (hb.cell (by have := lt_of_cell hR2; have := hst.bel.size; simp at *; omega)).trans ((hst.bel.cell (lt_of_cell hR2)).trans hR2)
    have gW := g.below (Nat.le_refl _) hst.bel
    have H0 := hide fun W' (hb : Below W.heap.size W W') => isPlain_any s x.p x.n aU aS W' (gW.below (Nat.le_refl _) hb)
    have H1 := hide fun W' (hb : Below W.heap.size W W') => mayBegin_any s x.p x.n aU aS W' (gW.below (Nat.le_refl _) hb)
    have H2 := hide fun W' (hb : Below W.heap.size W W') => mayEnd_any s x.p x.n aU aS W' (gW.below (Nat.le_refl _) hb) hs
    have hok : Hid (ok3 s x.p x.n = (plain x.n && begins x.p x.n && ends s x.p x.n)) := rfl
    generalize plain x.n = b0 at *
    generalize begins x.p x.n = b1 at *
    generalize ends s x.p x.n = b2 at *
    have q0 := hr0 W (Below.refl _ _)
    have Hst := hide hst
    have hpl' := hide hpl
    have Hr1 := hide hr1
    have Hr2 := hide hr2
    clear hpl hN g gW hBs hSt hR hR1 hR2 hr0 hr1 hr2 hst
    gi_wp2
    refine wpIn_loop_rounds 4 ?_
    rw [roundsIn_succ]
    cases b0
    · gi_wp2_with fail
      refine ⟨trivial, (CallsIn.inRound _ (callsIn_wide.2 ((unhide H0) _ (Below.refl _ _)))).mono ?_⟩
      rintro e w1 ⟨rfl, hb1⟩
      unfold er
      have hc1 := hb1
      have hst1 := (unhide Hst).below hc1
      obtain ⟨d0, d1, d2, d3⟩ := hst1.cells
      have q1 := (unhide Hr1) _ hc1
      have Hst1 := hide hst1
      have Hb1 := hide hc1
      clear hst1 hc1 hb1 c0 c1 c2 c3 q0
      gi_wp2
      exact ⟨(keepsO (unhide Hb1)).trans (KeepsOthers.setCell _ _ _), rfl, pre, x, rfl, unhide hpl', (unhide hok).trans (rfl), (unhide Hst1).setE _⟩
    · gi_wp2_with fail
      refine ⟨trivial, (CallsIn.inRound _ (callsIn_wide.2 ((unhide H0) _ (Below.refl _ _)))).mono ?_⟩
      rintro e w1 ⟨rfl, hb1⟩
      unfold er
      have hc1 := hb1
      have hst1 := (unhide Hst).below hc1
      obtain ⟨d0, d1, d2, d3⟩ := hst1.cells
      have q1 := (unhide Hr1) _ hc1
      have Hst1 := hide hst1
      have Hb1 := hide hc1
      clear hst1 hc1 hb1 c0 c1 c2 c3 q0
      gi_wp2
      rw [roundsIn_succ]
      cases b1
      · gi_wp2_with fail
        refine ⟨trivial, (CallsIn.inRound _ (callsIn_wide.2 ((unhide H1) _ (unhide Hb1)))).mono ?_⟩
        rintro e w2 ⟨rfl, hb2⟩
        unfold er
        have hc2 := (unhide Hb1).trans (hb2.mono (unhide Hb1).size)
        have hst2 := (unhide Hst).below hc2
        clear d0 d1 d2 d3
        obtain ⟨d0, d1, d2, d3⟩ := hst2.cells
        have q2 := (unhide Hr2) _ hc2
        have Hst2 := hide hst2
        have Hb2 := hide hc2
        clear hst2 hc2 hb2 q1
        gi_wp2
        exact ⟨(keepsO (unhide Hb2)).trans (KeepsOthers.setCell _ _ _), rfl, pre, x, rfl, unhide hpl', (unhide hok).trans (rfl), (unhide Hst2).setE _⟩
      · gi_wp2_with fail
        refine ⟨trivial, (CallsIn.inRound _ (callsIn_wide.2 ((unhide H1) _ (unhide Hb1)))).mono ?_⟩
        rintro e w2 ⟨rfl, hb2⟩
        unfold er
        have hc2 := (unhide Hb1).trans (hb2.mono (unhide Hb1).size)
        have hst2 := (unhide Hst).below hc2
        clear d0 d1 d2 d3
        obtain ⟨d0, d1, d2, d3⟩ := hst2.cells
        have q2 := (unhide Hr2) _ hc2
        have Hst2 := hide hst2
        have Hb2 := hide hc2
        clear hst2 hc2 hb2 q1
        gi_wp2
        rw [roundsIn_succ]
        cases b2
        · gi_wp2_with fail
          refine ⟨trivial, (CallsIn.inRound _ (callsIn_wide.2 ((unhide H2) _ (unhide Hb2)))).mono ?_⟩
          rintro e w3 ⟨rfl, hb3⟩
          unfold er
          have hc3 := (unhide Hb2).trans (hb3.mono (unhide Hb2).size)
          have hst3 := (unhide Hst).below hc3
          clear d0 d1 d2 d3
          obtain ⟨d0, d1, d2, d3⟩ := hst3.cells
          have Hst3 := hide hst3
          have Hb3 := hide hc3
          clear hst3 hc3 hb3 q2
          gi_wp2
          exact ⟨(keepsO (unhide Hb3)).trans (KeepsOthers.setCell _ _ _), rfl, pre, x, rfl, unhide hpl', (unhide hok).trans (rfl), (unhide Hst3).setE _⟩
        · gi_wp2_with fail
          refine ⟨trivial, (CallsIn.inRound _ (callsIn_wide.2 ((unhide H2) _ (unhide Hb2)))).mono ?_⟩
          rintro e w3 ⟨rfl, hb3⟩
          unfold er
          have hc3 := (unhide Hb2).trans (hb3.mono (unhide Hb2).size)
          have hst3 := (unhide Hst).below hc3
          clear d0 d1 d2 d3
          obtain ⟨d0, d1, d2, d3⟩ := hst3.cells
          have Hst3 := hide hst3
          have Hb3 := hide hc3
          clear hst3 hc3 hb3 q2
          gi_wp2
          rw [roundsIn_succ]
          gi_wp2
          refine ⟨keepsO (unhide Hb3), keepsW (unhide Hb3), ?_, unhide Hst3⟩
          intro y hy
          rcases List.mem_append.1 hy with hy | hy
          · exact unhide hpl' y hy
          · rw [List.mem_singleton.1 hy]; exact unhide hok
  case done =>
    rintro D ys W hD rfl ⟨hpl, hst⟩ hK
    obtain ⟨c0, c1, c2, c3⟩ := hst.cells
    have Hst := hide hst
    have HK := hide hK
    have hpl' := hide hpl
    clear hst hK hpl hBs hSt hR hR1 hR2 g
    go_wp2
    refine fin (unhide HK) (by omega) (unhide Hst).bel rfl fun V' hb => ⟨?_, hb⟩
    have := first_pre (ok := ok3 s) (pre := all s) (l := []) (unhide hpl')
    rw [List.append_nil] at this
    rw [this]
    rfl
  case stop =>
    rintro D cd pre W hD hpre ⟨rfl, l, x, rfl, hl, hx, hst⟩ hK
    refine wpIn_exit ?_
    obtain ⟨c0, c1, c2, c3⟩ := hst.cells
    have Hst := hide hst
    have HK := hide hK
    have Hl := hide hl
    have Hx := hide hx
    have Hp := hide hpre
    clear hst hK hl hx hpre hBs hSt hR hR1 hR2 g
    go_wp2
    refine fin (unhide HK) (by omega) (unhide Hst).bel rfl fun V' hb => ⟨?_, hb⟩
    obtain ⟨t, ht⟩ := unhide Hp
    rw [← ht, List.append_assoc, first_pre (unhide Hl), List.cons_append, first, unhide Hx]
    rfl
end Go.Proofs.YtpfopmjpchiekaaDoor.U
