/-
  A range over a function whose rounds lay one box for a loop's variable, and whose iterator may write a block of its own. Conditions: the fence that asks nothing.
-/
import Derived.Test.YthibodkemnkjeaaDoorIter
namespace Go.Proofs.YthibodkemnkjeaaDoor
open Go.RowKit Go.Shelf

theorem round_any {P : Program} {m m' l : Nat} {f : FuncId} {tmps : Array Value} {assign body : Code} {w : World} {R : Ending → World → Prop} (h : RoundIn Fence.wide m P l f tmps assign body w R) : RoundIn Fence.wide m' P l f tmps assign body w R :=
  ⟨h.1, fun c cs _ => h.2 c cs (room_wide _)⟩
theorem But.putObj (b : Nat) (W : World) (o : Obj) : But b W (W.putObj b o) := ⟨rfl, rfl, rfl, by simp, fun _ _ hn => World.putObj_heap_other hn⟩
theorem Two.of_but {p q b : Nat} {A B : World} (h : But b A B) (hp : p ≠ b) (hq : q ≠ b) (hpl : p < A.heap.size) (hql : q < A.heap.size) : Two p q A B := ⟨h.block _ hpl hp, h.block _ hql hq⟩

/-- how a round may be left: it goes on where g holds, else gx does. -/
def roundEnd {σ : Type} (D : Nat) (Kp : World → World → Prop) (I : σ → World → Prop) (Ix : Code → σ → World → Prop) (s : σ) (g gx : Prop) (W : World) : Exit → Act → World → Prop
  | .normal, _, W' => g ∧ Two D (D + 1) W W' ∧ Kp W W' ∧ I s W'
  | .ret, _, W' => gx ∧ Two D (D + 1) W W' ∧ Ix .ret s W'
  | .exit id, _, W' => gx ∧ Two D (D + 1) W W' ∧ Ix (.exit id) s W'
  | .goto t, _, W' => gx ∧ Two D (D + 1) W W' ∧ Ix (.goto t) s W'
  | .panic _, _, _ => False
  | .outgrown, _, _ => False

set_option maxHeartbeats 1000000 in
theorem range_mine {P : Program} {α σ : Type} {g : Operand} {ps : Array Tmp} {assign body : Code} {Q : Exit → Act → World → Prop} {a : Act} {w : World}
    {gf : Nat} {lb : Array Value} (hg : a.eval g = .func (.func gf) #[] lb) (eg : ∀ args w, (callFunc gf args).run P w = .ok (.enter gf args) w)
    (encs : α → Array Value) (hps : ∀ x, (encs x).size = ps.size)
    (Kp Ab : World → World → Prop) (I : σ → World → Prop) (Ix : Code → σ → World → Prop) (Pr : σ → α → World → Prop) (nx : σ → α → σ) (s0 : σ) (S : σ → World → Prop) (Sp : σ → Prop) (G Gx : σ → α → Prop)
    (cs : α → Array Value) (tk : TypeId) (a₁ : α → Nat → Act)
    (hKt : ∀ {A B C : World}, Kp A B → Kp B C → Kp A C) (hKp : ∀ A B, But (w.heap.size + 1) A B → Kp A B)
    (hAb : ∀ A B, Ab A B → w.heap.size + 2 ≤ A.heap.size → Two w.heap.size (w.heap.size + 1) A B)
    (hI : ∀ s A B, But (w.heap.size + 1) A B → I s A → I s B) (hAI : ∀ s A B, Ab A B → w.heap.size + 2 ≤ A.heap.size → I s A → I s B)
    (hIx : ∀ c s A B, But (w.heap.size + 1) A B → Ix c s A → Ix c s B) (hPr : ∀ s x A B, But (w.heap.size + 1) A B → Pr s x A → Pr s x B)
    (hS : ∀ s A B, But (w.heap.size + 1) A B → S s A → S s B) (h0 : I s0 w)
    (hiter : ∀ W : World, But (w.heap.size + 1) w W → W.heap.size = w.heap.size + 2 → ∀ J Jx : σ → World → Prop, (∀ s A B, Ab A B → J s A → J s B) → (∀ s A, J s A → I s A ∧ w.heap.size + 2 ≤ A.heap.size) →
      (∀ s x W' m, J s W' → Pr s x W' → YieldAt Fence.wide m P (w.heap.size + 1) (encs x) W' fun e W2 => (e = .returned (.bool true) ∧ G s x ∧ J (nx s x) W2 ∧ Kp W' W2) ∨ (e = .returned (.bool false) ∧ Gx s x ∧ Jx (nx s x) W2)) →
      J s0 W → CallsIn Fence.wide 6 P gf (#[.func (.yield (w.heap.size + 1)) #[] #[]] ++ lb) W fun e W' => (∃ v, e = .returned v) ∧ ((∃ s, S s W' ∧ J s W') ∨ (∃ s, Sp s ∧ Jx s W')))
    (hassign : ∀ s x W (K : Act → World → Prop), I s W → Pr s x W → K (a₁ x W.heap.size) (W.alloc (.cells (cs x) tk)) →
      assign.wpIn (Fence.wide.inRound (w.heap.size + 1)) 5 P (Exit.then K (fun _ _ _ => False)) { tmps := (ps.zip (encs x)).foldl (fun t (p, v) => t.setIfInBounds p v) a.tmps, defers := [] } W)
    (hbody : ∀ s x B W, I s W → Pr s x W → w.heap.size + 2 ≤ B → W.heap[B]? = some (.cells (cs x) tk (0, 0)) → body.wpIn (Fence.wide.inRound (w.heap.size + 1)) 5 P (roundEnd w.heap.size Kp I Ix (nx s x) (G s x) (Gx s x) W) (a₁ x B) W)
    (hdone : ∀ s W, S s W → I s W → W.heap[w.heap.size]? = some (.deferred (some [])) → Q .normal { a with defers := { target := .collected w.heap.size, args := #[] } :: a.defers } W)
    (hstop : ∀ c s W, Sp s → Ix c s W → W.heap[w.heap.size]? = some (.deferred (some [])) → c.wpIn Fence.wide 7 P Q { a with defers := { target := .collected w.heap.size, args := #[] } :: a.defers } W) :
    (Code.rangeFunc g ps assign body).wpIn Fence.wide 7 P Q a w := by
  refine wpIn_rangeFunc ?_
  intro fn hfn
  obtain ⟨rec, hrec⟩ : ∃ rec : LoopState → Option Code → Loop, rec = fun st pe => { state := st, pending := pe, fn, tmps := a.tmps, params := ps, assign, body, defers := w.heap.size } := ⟨_, rfl⟩
  obtain ⟨W1, hW1⟩ : ∃ W1, W1 = (w.alloc (.deferred (some []))).alloc (.loop (rec .ready none)) := ⟨_, rfl⟩
  have hL1 : W1.heap[w.heap.size + 1]? = some (.loop (rec .ready none)) := by
    rw [hW1]; have := World.alloc_heap_new (w.alloc (.deferred (some []))) (.loop (rec .ready none)); rwa [World.size_alloc] at this
  have hK1 : W1.heap[w.heap.size]? = some (.deferred (some [])) := by
    rw [hW1]; exact (Below.heap_alloc _ _ _ (by simp)).trans (World.alloc_heap_new w _)
  have hb1 : But (w.heap.size + 1) w W1 := by rw [hW1]; exact ((But.refl _ _).alloc _).alloc _
  have hz1 : W1.heap.size = w.heap.size + 2 := by rw [hW1]; simp
  refine ⟨w.heap.size + 1, [{ target := .collected w.heap.size, args := #[] }], W1, { target := .fn (.func gf) lb, args := #[.func (.yield (w.heap.size + 1)) #[] #[]] }, W1, gf,
    #[.func (.yield (w.heap.size + 1)) #[] #[]] ++ lb, W1, ?_, ?_, fun _ _ => trivial, ?_, fun _ => by omega, ?_⟩
  · rw [hW1, hrec]; exact run_enterLoop_outer _ _ _ _ _
  · simp only [resolve, hg]
    simp [go_sem]
  · simp [invoke, go_sem, eg]
  · refine (hiter W1 hb1 hz1
      (fun s W => I s W ∧ W.heap[w.heap.size + 1]? = some (.loop (rec .ready none)) ∧ W.heap[w.heap.size]? = some (.deferred (some [])))
      (fun s W => ∃ c, Ix c s W ∧ W.heap[w.heap.size + 1]? = some (.loop (rec .done (some c))) ∧ W.heap[w.heap.size]? = some (.deferred (some [])))
      (fun s A B hab hs => by
        have hlt := (Array.getElem?_eq_some_iff.1 hs.2.1).1
        obtain ⟨e1, e2⟩ := hAb A B hab (by omega)
        exact ⟨hAI s A B hab (by omega) hs.1, e2.trans hs.2.1, e1.trans hs.2.2⟩)
      (fun s A hs => ⟨hs.1, by have := (Array.getElem?_eq_some_iff.1 hs.2.1).1; omega⟩)
      ?_ ⟨hI _ _ _ hb1 h0, hL1, hK1⟩).mono ?_
    · rintro s x W m ⟨hi, hl, hk⟩ hpr
      have hlt : w.heap.size + 1 < W.heap.size := (Array.getElem?_eq_some_iff.1 hl).1
      have hy := run_yield (P := P) (args := encs x) hl (by rw [hrec]; exact hps x)
      rw [hrec] at hy
      refine ⟨fn, _, assign, body, hy, round_any (roundIn_of_wpIn hfn (hassign s x W _ hi hpr ?_))⟩
      obtain ⟨Wa, hWa⟩ : ∃ Wa, Wa = W.alloc (.cells (cs x) tk) := ⟨_, rfl⟩
      have hba : But (w.heap.size + 1) W Wa := by rw [hWa]; exact (But.refl _ _).alloc _
      have hla : Wa.heap[w.heap.size + 1]? = some (.loop (rec .ready none)) := by rw [hWa]; exact (Below.heap_alloc _ _ _ hlt).trans hl
      have hka : Wa.heap[w.heap.size]? = some (.deferred (some [])) := (hba.block _ (by omega) (by omega)).trans hk
      have hxa : Wa.heap[W.heap.size]? = some (.cells (cs x) tk (0, 0)) := by rw [hWa]; exact World.alloc_heap_new W _
      rw [← hWa]
      refine ⟨_, run_beginRound hla (by rw [hrec]), ?_⟩
      obtain ⟨Wb, hWb⟩ : ∃ Wb, Wb = Wa.putObj (w.heap.size + 1) (.loop { rec .ready none with state := .busy }) := ⟨_, rfl⟩
      have hbb : But (w.heap.size + 1) Wa Wb := by rw [hWb]; exact But.putObj _ _ _
      have hlb : Wb.heap[w.heap.size + 1]? = some (.loop { rec .ready none with state := .busy }) := by rw [hWb]; exact World.putObj_heap_same (Array.getElem?_eq_some_iff.1 hla).1
      have hkb : Wb.heap[w.heap.size]? = some (.deferred (some [])) := (hbb.block _ (Array.getElem?_eq_some_iff.1 hka).1 (by omega)).trans hka
      have hxb : Wb.heap[W.heap.size]? = some (.cells (cs x) tk (0, 0)) := (hbb.block _ (Array.getElem?_eq_some_iff.1 hxa).1 (by omega)).trans hxa
      rw [← hWb]
      refine wpIn_mono (hbody s x W.heap.size Wb (hI _ _ _ (hba.trans hbb) hi) (hPr _ _ _ _ (hba.trans hbb) hpr) (by omega) hxb) ?_
      have fin : ∀ (jump : Option Code) (W3 : World), Two w.heap.size (w.heap.size + 1) Wb W3 →
          (Instr.endRound (w.heap.size + 1) jump).run P W3 = .ok (.bool jump.isNone) (W3.putObj (w.heap.size + 1) (.loop (rec (if jump.isNone then .ready else .done) jump))) ∧
          (W3.putObj (w.heap.size + 1) (.loop (rec (if jump.isNone then .ready else .done) jump))).heap[w.heap.size + 1]? = some (.loop (rec (if jump.isNone then .ready else .done) jump)) ∧
          (W3.putObj (w.heap.size + 1) (.loop (rec (if jump.isNone then .ready else .done) jump))).heap[w.heap.size]? = some (.deferred (some [])) := fun jump W3 hk3 => by
        have hl3 := hk3.2.trans hlb
        have := run_endRound (P := P) jump hl3
        rw [hrec] at this ⊢
        exact ⟨this, World.putObj_heap_same (Array.getElem?_eq_some_iff.1 hl3).1, (World.putObj_heap_other (by omega)).trans (hk3.1.trans hkb)⟩
      rintro e a3 W3 hp
      cases e with
      | normal =>
        obtain ⟨hg3, hk3, hkp3, hi3⟩ := hp
        obtain ⟨hr, hl4, hk4⟩ := fin none W3 hk3
        exact ⟨_, _, hr, .inl ⟨rfl, hg3, ⟨hI _ _ _ (But.putObj _ _ _) hi3, hl4, hk4⟩, hKt (hKp _ _ (hba.trans hbb)) (hKt hkp3 (hKp _ _ (But.putObj _ _ _)))⟩⟩
      | ret =>
        obtain ⟨hg3, hk3, hi3⟩ := hp
        obtain ⟨hr, hl4, hk4⟩ := fin (some .ret) W3 hk3
        exact ⟨_, _, hr, .inr ⟨rfl, hg3, .ret, hIx _ _ _ _ (But.putObj _ _ _) hi3, hl4, hk4⟩⟩
      | exit id =>
        obtain ⟨hg3, hk3, hi3⟩ := hp
        obtain ⟨hr, hl4, hk4⟩ := fin (some (.exit id)) W3 hk3
        exact ⟨_, _, hr, .inr ⟨rfl, hg3, .exit id, hIx _ _ _ _ (But.putObj _ _ _) hi3, hl4, hk4⟩⟩
      | goto t =>
        obtain ⟨hg3, hk3, hi3⟩ := hp
        obtain ⟨hr, hl4, hk4⟩ := fin (some (.goto t)) W3 hk3
        exact ⟨_, _, hr, .inr ⟨rfl, hg3, .goto t, hIx _ _ _ _ (But.putObj _ _ _) hi3, hl4, hk4⟩⟩
      | panic ch => exact hp.elim
      | outgrown => exact hp.elim
    · rintro e W2 ⟨⟨v, rfl⟩, (⟨s, hs, hi, hl, hk⟩ | ⟨s, hSp, c, hi, hl, hk⟩)⟩
      · exact ⟨none, _, by have := run_endLoop (P := P) hl (by rw [hrec]; simp); rw [hrec] at this; exact this, hdone s _ (hS _ _ _ (But.putObj _ _ _) hs) (hI _ _ _ (But.putObj _ _ _) hi) ((World.putObj_heap_other (by omega)).trans hk)⟩
      · exact ⟨some c, _, by have := run_endLoop (P := P) hl (by rw [hrec]; simp); rw [hrec] at this; exact this, hstop c s _ hSp (hIx _ _ _ _ (But.putObj _ _ _) hi) ((World.putObj_heap_other (by omega)).trans hk)⟩
end Go.Proofs.YthibodkemnkjeaaDoor
