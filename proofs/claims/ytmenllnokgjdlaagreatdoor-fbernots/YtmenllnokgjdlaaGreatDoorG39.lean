/- Several texts in one: FRd5, QSwitch, GKids. Each says what it proves, and its conditions. -/
import Derived.Test.YtmenllnokgjdlaaGreatDoorG38
import Derived.Test.YtmenllnokgjdlaaGreatDoorG37
/-
 The reader's condition: a filter without others in it. Conditions: the package-level variables hold what the program's text lays; what is read of values at a time has at most 1000 bytes.
-/
namespace Go.Proofs.YtmenllnokgjdlaaGreatDoor.F
open Go Go.RowKit Go.Shelf Fp
open Dp (mp)
open D (H_ un ext_list)
attribute [local go_sem] Oper.semAt_some
structure Env (A : Ad) (w0 : World) (R kb : Nat) (s : ByteArray) (p : Nat) (w : World) : Prop where
 g : GlobR A w0
 b : Below w0.heap.size w0 w
 lo : w0.heap.size <= R
 r : RAt w R s kb p
 k : KindsAt w kb
 ne : kb ≠ R
theorem KindsAt.lt {W : World} {B : Nat} (h : KindsAt W B) : B < W.heap.size := by
 obtain ⟨n, D, h1, h2⟩ := h
 exact h1.lt
def Pc (p : List UInt8) : Prop := p.length <= 2000 /\ match cutB 61 p with
 | none => True
 | some (a, t) => if (kindOf a).2 = 3 then ∀ q ∈ spl 42 t, q.length <= 1000 else t.length <= 1000
end Go.Proofs.YtmenllnokgjdlaaGreatDoor.F
/-
 A region that draws its order: one condition on the world holds behind every operation, another besides, until a given operation has come up. What yields in every world that meets both may be taken first, if the given operation waits for it. Conditions: none.
-/
namespace Go.Proofs.YtmenllnokgjdlaaGreatDoor
open Go
section
variable {P : Program} {ops : Array Oper} {Q : Exit -> Act -> World -> Prop} {md : Region.Mode} {S0 S1 : World -> Prop} {t : Nat}
def Sw (S0 S1 : World -> Prop) (t : Nat) (listed : Array Bool) (w : World) : Prop := (listed.getD t true = false -> S0 w) /\ S1 w
theorem Sw.set {listed : Array Bool} {w : World} {i : Nat} (h : Sw S0 S1 t listed w) (hi : i ≠ t) : Sw S0 S1 t (listed.setIfInBounds i true) w :=
 ⟨fun e => h.1 (by rwa [getD_set_ne true hi] at e), h.2⟩
def wpAnyS (P : Program) (md : Region.Mode) (ops : Array Oper) (Q : Exit -> Act -> World -> Prop) (S0 S1 : World -> Prop) (t : Nat) : Nat -> Array Bool -> Act -> World -> Prop
 | 0, listed, a, w => Region.ready md ops listed = [] /\ Q .normal a w
 | fuel + 1, listed, a, w =>
  (Region.ready md ops listed = [] -> Q .normal a w) /\
  ∀ i ∈ Region.ready md ops listed, wpOp P ops Q i (fun a' w' => Sw S0 S1 t (listed.setIfInBounds i true) w' /\ wpAnyS P md ops Q S0 S1 t fuel (listed.setIfInBounds i true) a' w') a w
theorem wpAny_of_S : ∀ (fuel : Nat) (listed : Array Bool) (a : Act) (w : World), wpAnyS P md ops Q S0 S1 t fuel listed a w -> wpAny P md ops Q fuel listed a w
 | 0, _, _, _, h => h
 | fuel + 1, _, _, _, h => ⟨h.1, fun i hi => wpOp_mono (fun a' w' h' => wpAny_of_S fuel _ a' w' h'.2) (h.2 i hi)⟩
def waitsB (md : Region.Mode) (ops : Array Oper) (t i : Nat) : Bool := match ops[t]? with
 | some o => o.after.any fun e => Region.binds md e && e.on == i
 | none => false
theorem wpAnyS_first {i : Nat} {oi : Oper} {v : Value} (hi : ops[i]? = some oi) (hsel : ∀ (j : Nat) (o : Oper) cs b, ops[j]? = some o -> o.op ≠ .select cs b)
  (hQ : ∀ c a w, Q (.panic c) (a.put oi.dst v) w -> Q (.panic c) a w) (hit : i ≠ t) (hw : waitsB md ops t i = true) :
  ∀ (fuel : Nat) (listed : Array Bool) (a : Act) (w : World),
   (∀ j oj, ops[j]? = some oj -> j ≠ i -> listed.getD j true = false -> (∀ e ∈ oj.after, Region.binds md e = true -> e.on ≠ i) -> oi.apart ops oj = true) ->
   i ∈ Region.ready md ops listed -> YieldsIf P ops (fun w => S0 w /\ S1 w) oi v a -> listed.getD t true = false -> Sw S0 S1 t listed w ->
   wpAnyS P md ops Q S0 S1 t fuel (listed.setIfInBounds i true) (a.put oi.dst v) w -> wpAnyS P md ops Q S0 S1 t (fuel + 1) listed a w := by
 intro fuel
 induction fuel with
 | zero =>
  intro listed a w _ hr hy ht hS H
  refine ⟨fun h => (by rw [h] at hr; cases hr), fun j hj => ?_⟩
  by_cases hji : j = i
  ·subst hji; exact hy.wpOp hi ⟨hS.1 ht, hS.2⟩ ⟨hS.set hit, H⟩
  ·have := ready_mono hj hji
   rw [H.1] at this
   cases this
 | succ fuel ih =>
  intro listed a w hfree hr hy ht hS H
  refine ⟨fun h => (by rw [h] at hr; cases hr), fun j hj => ?_⟩
  by_cases hji : j = i
  ·subst hji; exact hy.wpOp hi ⟨hS.1 ht, hS.2⟩ ⟨hS.set hit, H⟩
  ·have h1 := H.2 j (ready_mono hj hji)
   obtain ⟨hjun, oj, hoj, hall⟩ := mem_ready.1 hj
   have hnot : ∀ e ∈ oj.after, Region.binds md e = true -> e.on ≠ i := fun e he hb heq => by
    have h1 := hall e he hb
    have h0 := (mem_ready.1 hr).1
    rw [heq] at h1
    rcases Nat.lt_or_ge i listed.size with h' | h'
    ·simp [h'] at h0 h1; rw [h0] at h1; cases h1
    ·simp [Array.getElem?_eq_none h'] at h1
   have hjt : j ≠ t := fun e => by
    subst e
    unfold waitsB at hw
    rw [hoj] at hw
    simp only [Array.any_eq_true', Bool.and_eq_true, beq_iff_eq] at hw
    obtain ⟨e, he, hb, hon⟩ := hw
    exact hnot e he hb hon
   have h2 := wpOp_putIf hoj (hfree j oj hoj hji hjun hnot) (fun cs b => hsel i oi cs b hi) (fun cs b => hsel j oj cs b hoj) hQ hy h1
   have hfree' : ∀ k ok, ops[k]? = some ok -> k ≠ i -> (listed.setIfInBounds j true).getD k true = false ->
     (∀ e ∈ ok.after, Region.binds md e = true -> e.on ≠ i) -> oi.apart ops ok = true := fun k ok hk hki hun hno => by
    refine hfree k ok hk hki ?_ hno
    by_cases hjk : j = k
    ·subst hjk; exact hjun
    ·rw [getD_set_ne true hjk] at hun; exact hun
   refine wpOp_mono (fun a' w' h3 => ?_) h2
   have hS' : Sw S0 S1 t (listed.setIfInBounds j true) w' := ⟨fun e => h3.2.1.1 (by rw [getD_set_ne true hjt, getD_set_ne true hit]; rwa [getD_set_ne true hjt] at e), h3.2.1.2⟩
   refine ⟨hS', ih (listed.setIfInBounds j true) a' w' hfree' (ready_mono hr (Ne.symm hji)) h3.1 (by rw [getD_set_ne true hjt]; exact ht) hS' ?_⟩
   rw [Array.setIfInBounds_comm _ _ hji]
   exact h3.2.2
theorem wpAnyS_take {i : Nat} {oi : Oper} {v : Value} {fuel : Nat} {listed : Array Bool} {a : Act} {w : World} (hi : ops[i]? = some oi)
  (hs : Region.noSelect ops = true) (hf : Region.free md ops listed i = true) (hr : (Region.ready md ops listed).contains i = true) (hB : (decide (i ≠ t) && waitsB md ops t i && !listed.getD t true) = true)
  (hQ : ∀ c a w, Q (.panic c) (a.put oi.dst v) w -> Q (.panic c) a w) (hy : YieldsIf P ops (fun w => S0 w /\ S1 w) oi v a) (hS : Sw S0 S1 t listed w)
  (h : wpAnyS P md ops Q S0 S1 t fuel (listed.setIfInBounds i true) (a.put oi.dst v) w) : wpAnyS P md ops Q S0 S1 t (fuel + 1) listed a w := by
 simp only [Bool.and_eq_true, decide_eq_true_eq, Bool.not_eq_true'] at hB
 exact wpAnyS_first hi (Region.noSelect_spec hs) hQ hB.1.1 hB.1.2 fuel listed a w (Region.free_spec hi hf) (by simpa using hr) hy hB.2 hS h
theorem wpAnyS_first1 {i : Nat} {oi : Oper} {v : Value} (hi : ops[i]? = some oi) (hsel : ∀ (j : Nat) (o : Oper) cs b, ops[j]? = some o -> o.op ≠ .select cs b)
  (hQ : ∀ c a w, Q (.panic c) (a.put oi.dst v) w -> Q (.panic c) a w) (hit : i ≠ t) :
  ∀ (fuel : Nat) (listed : Array Bool) (a : Act) (w : World),
   (∀ j oj, ops[j]? = some oj -> j ≠ i -> listed.getD j true = false -> (∀ e ∈ oj.after, Region.binds md e = true -> e.on ≠ i) -> oi.apart ops oj = true) ->
   i ∈ Region.ready md ops listed -> YieldsIf P ops S1 oi v a -> Sw S0 S1 t listed w ->
   wpAnyS P md ops Q S0 S1 t fuel (listed.setIfInBounds i true) (a.put oi.dst v) w -> wpAnyS P md ops Q S0 S1 t (fuel + 1) listed a w := by
 intro fuel
 induction fuel with
 | zero =>
  intro listed a w _ hr hy hS H
  refine ⟨fun h => (by rw [h] at hr; cases hr), fun j hj => ?_⟩
  by_cases hji : j = i
  ·subst hji; exact hy.wpOp hi hS.2 ⟨hS.set hit, H⟩
  ·have := ready_mono hj hji
   rw [H.1] at this
   cases this
 | succ fuel ih =>
  intro listed a w hfree hr hy hS H
  refine ⟨fun h => (by rw [h] at hr; cases hr), fun j hj => ?_⟩
  by_cases hji : j = i
  ·subst hji; exact hy.wpOp hi hS.2 ⟨hS.set hit, H⟩
  ·have h1 := H.2 j (ready_mono hj hji)
   obtain ⟨hjun, oj, hoj, hall⟩ := mem_ready.1 hj
   have hnot : ∀ e ∈ oj.after, Region.binds md e = true -> e.on ≠ i := fun e he hb heq => by
    have h1 := hall e he hb
    have h0 := (mem_ready.1 hr).1
    rw [heq] at h1
    rcases Nat.lt_or_ge i listed.size with h' | h'
    ·simp [h'] at h0 h1; rw [h0] at h1; cases h1
    ·simp [Array.getElem?_eq_none h'] at h1
   have h2 := wpOp_putIf hoj (hfree j oj hoj hji hjun hnot) (fun cs b => hsel i oi cs b hi) (fun cs b => hsel j oj cs b hoj) hQ hy h1
   have hfree' : ∀ k ok, ops[k]? = some ok -> k ≠ i -> (listed.setIfInBounds j true).getD k true = false ->
     (∀ e ∈ ok.after, Region.binds md e = true -> e.on ≠ i) -> oi.apart ops ok = true := fun k ok hk hki hun hno => by
    refine hfree k ok hk hki ?_ hno
    by_cases hjk : j = k
    ·subst hjk; exact hjun
    ·rw [getD_set_ne true hjk] at hun; exact hun
   refine wpOp_mono (fun a' w' h3 => ?_) h2
   have hS' : Sw S0 S1 t (listed.setIfInBounds j true) w' := ⟨fun e => h3.2.1.1 (by rw [Array.setIfInBounds_comm _ _ (Ne.symm hji), getD_set_ne true hit]; exact e), h3.2.1.2⟩
   refine ⟨hS', ih (listed.setIfInBounds j true) a' w' hfree' (ready_mono hr (Ne.symm hji)) h3.1 hS' ?_⟩
   rw [Array.setIfInBounds_comm _ _ hji]
   exact h3.2.2
theorem wpAnyS_take1 {i : Nat} {oi : Oper} {v : Value} {fuel : Nat} {listed : Array Bool} {a : Act} {w : World} (hi : ops[i]? = some oi)
  (hs : Region.noSelect ops = true) (hf : Region.free md ops listed i = true) (hr : (Region.ready md ops listed).contains i = true) (hB : decide (i ≠ t) = true)
  (hQ : ∀ c a w, Q (.panic c) (a.put oi.dst v) w -> Q (.panic c) a w) (hy : YieldsIf P ops S1 oi v a) (hS : Sw S0 S1 t listed w)
  (h : wpAnyS P md ops Q S0 S1 t fuel (listed.setIfInBounds i true) (a.put oi.dst v) w) : wpAnyS P md ops Q S0 S1 t (fuel + 1) listed a w :=
 wpAnyS_first1 hi (Region.noSelect_spec hs) hQ (of_decide_eq_true hB) fuel listed a w (Region.free_spec hi hf) (by simpa using hr) hy hS h
def AllReadyS (P : Program) (md : Region.Mode) (ops : Array Oper) (Q : Exit -> Act -> World -> Prop) (S0 S1 : World -> Prop) (t fuel : Nat) (listed : Array Bool) (a : Act) (w : World) (rs : List Nat) : Prop :=
 ∀ i ∈ rs, wpOp P ops Q i (fun a' w' => Sw S0 S1 t (listed.setIfInBounds i true) w' /\ wpAnyS P md ops Q S0 S1 t fuel (listed.setIfInBounds i true) a' w') a w
theorem AllReadyS.nil {fuel : Nat} {listed : Array Bool} {a : Act} {w : World} : AllReadyS P md ops Q S0 S1 t fuel listed a w [] := fun _ h => by cases h
theorem AllReadyS.cons {fuel : Nat} {listed : Array Bool} {a : Act} {w : World} {i : Nat} {o : Oper} {rs : List Nat} (ho : ops[i]? = some o)
  (h : ∀ K' : Act -> World -> Prop, Shut (∀ a w, Sw S0 S1 t (listed.setIfInBounds i true) w -> (Sw S0 S1 t (listed.setIfInBounds i true) w -> wpAnyS P md ops Q S0 S1 t fuel (listed.setIfInBounds i true) a w) -> K' a w) -> if Region.wanted o (yielded ops a.tmps) = true then Oper.wp P o a w K' Q else K' (a.put o.dst undef) w)
  (hs : AllReadyS P md ops Q S0 S1 t fuel listed a w rs) : AllReadyS P md ops Q S0 S1 t fuel listed a w (i :: rs) := fun j hj => by
 rcases List.mem_cons.1 hj with rfl | hj
 ·exact wpOp_step ho (fun K' hK => h K' (fun a w hS hW => hK a w ⟨hS, hW hS⟩))
 ·exact hs j hj
theorem wpAnyS_ready {rs : List Nat} {fuel : Nat} {listed : Array Bool} {a : Act} {w : World} (hr : Region.ready md ops listed = rs) (hne : rs ≠ [])
  (h : AllReadyS P md ops Q S0 S1 t fuel listed a w rs) : wpAnyS P md ops Q S0 S1 t (fuel + 1) listed a w :=
 ⟨fun h0 => absurd (hr ▸ h0) hne, hr ▸ h⟩
theorem wpAnyS_done {listed : Array Bool} {a : Act} {w : World} (hr : Region.ready md ops listed = []) (h : Q .normal a w) : ∀ fuel, wpAnyS P md ops Q S0 S1 t fuel listed a w
 | 0 => ⟨hr, h⟩
 | _ + 1 => ⟨fun _ => h, by rw [hr]; simp⟩
end
def onlyS (Q : Exit -> Act -> World -> Prop) : Exit -> Act -> World -> Prop
 | .normal, a, w => Q .normal a w
 | _, _, _ => False
theorem wp_region_sw {P : Program} {Q : Exit -> Act -> World -> Prop} {id : Nat} {a : Act} {w : World} {l : List Oper} (S0 S1 : World -> Prop) (t : Nat) (hm : P.follows .mixedOrders = true)
  (h : wpAnyS P .any l.toArray (onlyS Q) S0 S1 t l.toArray.size (Array.replicate l.toArray.size false) a w.drew) : (Code.region id l.toArray true).wp P Q a w :=
 wp_mono (wp_region_any hm (wpAny_of_S _ _ _ _ h)) fun e _ _ h => by cases e <;> first | exact h | exact h.elim
theorem regionIn_sw {P : Program} {Q : Exit -> Act -> World -> Prop} {lp m id : Nat} {a : Act} {w : World} {l : List Oper} (S0 S1 : World -> Prop) (t : Nat) (hm : P.follows .mixedOrders = true) (hd : noDefer l = true)
  (h : wpAnyS P .any l.toArray (onlyS Q) S0 S1 t l.toArray.size (Array.replicate l.toArray.size false) a w.drew) : (Code.region id l.toArray true).wpIn (Fence.wide.inRound lp) m P Q a w :=
 wpIn_mono (regionIn_round hm (fun i o ho c => noDefer_spec hd i o ho c) (by rintro ⟨a, w, h⟩; exact h) (wpAny_of_S _ _ _ _ h)) (fun e a w h => by cases e <;> first | exact h | exact h.elim)
end Go.Proofs.YtmenllnokgjdlaaGreatDoor
/-
 A list of trees that grows by append in a box of fber's maker: what a round leaves. Conditions: none.
-/
namespace Go.Proofs.YtmenllnokgjdlaaGreatDoor.G
open Go Go.RowKit Go.Shelf Gp
open D (H_ un)
open Tv (Tr)
theorem infoN : ∃ i, Tryz.prog.info? 28 = some i /\ i.zero = some (.agg #[.int .i64 0, .string ⟨#[]⟩, .slice none 0 0]) /\ i.size = 3 /\ i.bytes = 48 := ⟨Tryz.t28, by kernel_rfl, by kernel_rfl, by kernel_rfl, by kernel_rfl⟩
abbrev FD := F.Fd
abbrev fobj (d : FD) : Obj := F.Fd.obj d
abbrev zn : List Value := [.int .i64 0, .string ⟨#[]⟩, .slice none 0 0]
abbrev znObj : Obj := .cells #[.int .i64 0, .string ⟨#[]⟩, .slice none 0 0] 28
abbrev mcs (d : FD) (B : Nat) : Array Value := #[.int .i64 d.k, .string d.a, .string d.v, .slice d.sa d.sn d.sc, .string d.f, .slice d.la d.ln d.lc, .map (some B)]
abbrev set3o (W : World) (g o : Nat) (x y z : Value) : World := ((W.setCell ⟨g, o, none⟩ x).setCell ⟨g, o + 1, none⟩ y).setCell ⟨g, o + 2, none⟩ z
theorem set3o_but (W : World) (g o : Nat) (x y z : Value) : F.But g W (set3o W g o x y z) := (((F.But.refl g W).setCell _ _).setCell _ _).setCell _ _
theorem bt_set (W : World) (b : Nat) (v : Value) : F.But b W (W.setCell ⟨b, 0, none⟩ v) := (F.But.refl b W).setCell 0 v
structure Kin (n : Nat) (w : World) (ms : Array Value) (pre : List (Tr n)) (sl : Value) (W : World) : Prop where
 m : W.heap[w.heap.size]? = some (.cells ms 80 (0, 0))
 t : W.heap[w.heap.size + 1]? = some (.cells #[.int .i64 0, .string ⟨#[]⟩, .slice none 0 0] 28 (0, 0))
 k : W.heap[w.heap.size + 2]? = some (.cells #[sl] 26 (0, 0))
 i : W.heap[w.heap.size + 3]? = some (.cells ms 80 (0, 0))
 gr : Grow n W (w.heap.size + 6) sl pre
 bel : Below w.heap.size w W
theorem Kin.but {n : Nat} {w : World} {ms : Array Value} {pre : List (Tr n)} {sl : Value} {W V : World} {l : Nat} (h : Kin n w ms pre sl W) (hb : F.But l W V) (hl : w.heap.size + 3 < l /\ l < w.heap.size + 6) : Kin n w ms pre sl V := by
 refine ⟨(hb.block _ (Array.getElem?_eq_some_iff.1 h.m).1 (by omega)).trans h.m, (hb.block _ (Array.getElem?_eq_some_iff.1 h.t).1 (by omega)).trans h.t, (hb.block _ (Array.getElem?_eq_some_iff.1 h.k).1 (by omega)).trans h.k, (hb.block _ (Array.getElem?_eq_some_iff.1 h.i).1 (by omega)).trans h.i, h.gr.of fun b hb1 hb2 => hb.block b hb2 (by omega), ?_⟩
 exact ⟨hb.os.trans h.bel.os, hb.tape.trans h.bel.tape, hb.output.trans h.bel.output, Nat.le_trans h.bel.size hb.size, fun k hk => (hb.block k (by have := h.bel.size; omega) (by omega)).trans (h.bel.block k hk)⟩
theorem Kin.below {n : Nat} {w : World} {ms : Array Value} {pre : List (Tr n)} {sl : Value} {W V : World} (h : Kin n w ms pre sl W) (hb : Below W.heap.size W V) : Kin n w ms pre sl V :=
 ⟨(hb.block _ (Array.getElem?_eq_some_iff.1 h.m).1).trans h.m, (hb.block _ (Array.getElem?_eq_some_iff.1 h.t).1).trans h.t, (hb.block _ (Array.getElem?_eq_some_iff.1 h.k).1).trans h.k, (hb.block _ (Array.getElem?_eq_some_iff.1 h.i).1).trans h.i, h.gr.of fun b _ hb2 => hb.block b hb2, h.bel.trans (hb.mono h.bel.size)⟩
theorem Kin.lt {n : Nat} {w : World} {ms : Array Value} {pre : List (Tr n)} {sl : Value} {W : World} (h : Kin n w ms pre sl W) : w.heap.size + 3 < W.heap.size := (Array.getElem?_eq_some_iff.1 h.i).1
theorem kid_end {n : Nat} {w W V w5 X : World} {ms : Array Value} {pre : List (Tr n)} {sl c0 c1 c2 : Value} {g cap lo : Nat} {vs : List (Value × Value × Value)} {T : Tr n}
  (hI : Kin n w ms pre sl W) (hz : w.heap.size + 6 <= W.heap.size) (hV : Below W.heap.size W V) (hvl : vs.length = pre.length)
  (hNs : ∀ (i : Nat) v T, vs[i]? = some v -> pre[i]? = some T -> Node n W (fun b => w.heap.size + 6 <= b /\ some b ≠ sl.ownBlock) (.agg #[v.1, v.2.1, v.2.2]) T)
  (hown : w5.ownsRow (w.heap.size + 6) 28 3 (.slice (some ⟨g, 0, none⟩) (pre.length + 1) cap) (pre.length + 1) (vs.flatMap trip ++ zn))
  (hgrow : V.grownBy w5 sl.ownBlock) (hat : sl.ownBlock = some g \/ V.heap.size <= g)
  (hnew : Node n V (fun b => lo <= b) (.agg #[c0, c1, c2]) T) (hlo : W.heap.size <= lo)
  (hX : X = (set3o w5 g (pre.length * 3) c0 c1 c2).setCell ⟨w.heap.size + 2, 0, none⟩ (.slice (some ⟨g, 0, none⟩) (pre.length + 1) cap) \/ X = set3o (w5.setCell ⟨w.heap.size + 2, 0, none⟩ (.slice (some ⟨g, 0, none⟩) (pre.length + 1) cap)) g (pre.length * 3) c0 c1 c2) :
  Kin n w ms (pre ++ [T]) (.slice (some ⟨g, 0, none⟩) (pre.length + 1) cap) X /\ W.heap.size <= X.heap.size /\ (∀ i, i < w.heap.size + 6 -> i ≠ w.heap.size + 2 -> X.heap[i]? = W.heap[i]?) := by
 have hVz := hV.size
 have ho : ∀ g', sl.ownBlock = some g' -> w.heap.size + 6 <= g' /\ g' < W.heap.size := fun g' h => hI.gr.lt h
 have hg6 : w.heap.size + 6 <= g := by
  rcases hat with h | h
  ·exact (ho g h).1
  ·omega
 have hz5 : V.heap.size <= w5.heap.size := hgrow.size
 have old : ∀ i, i < W.heap.size -> some i ≠ sl.ownBlock -> w5.heap[i]? = W.heap[i]? := fun i h1 h2 => (hgrow.block i (by omega) h2).trans (hV.block i h1)
 have hk5 : w5.heap[w.heap.size + 2]? = some (.cells #[sl] 26 (0, 0)) := (old _ (by omega) (fun e => by have := (ho _ e.symm).1; omega)).trans hI.k
 obtain ⟨hXo, hXb, hXN, hXs, hXz⟩ : X.ownsRow (w.heap.size + 6) 28 3 (.slice (some ⟨g, 0, none⟩) (pre.length + 1) cap) (pre.length + 1) (vs.flatMap trip ++ [c0, c1, c2]) /\ (∀ i, i < w5.heap.size -> i ≠ g -> i ≠ w.heap.size + 2 -> X.heap[i]? = w5.heap[i]?) /\
   X.heap[w.heap.size + 2]? = some (.cells #[.slice (some ⟨g, 0, none⟩) (pre.length + 1) cap] 26 (0, 0)) /\ (X.os = w5.os /\ X.tape = w5.tape /\ X.output = w5.output) /\ w5.heap.size <= X.heap.size := by
  rcases hX with hX | hX
  ·have hb := set3o_but w5 g (pre.length * 3) c0 c1 c2
   have ho := (store3 hown c0 c1 c2).1
   change (set3o w5 g (pre.length * 3) c0 c1 c2).ownsRow _ _ _ _ _ _ at ho
   generalize set3o w5 g (pre.length * 3) c0 c1 c2 = Y at *
   have hbN := (F.But.refl (w.heap.size + 2) Y).setCell 0 (.slice (some ⟨g, 0, none⟩) (pre.length + 1) cap)
   rw [<- hX] at hbN
   refine ⟨by rw [hX]; exact ownsRow_setCell_below ho (by show w.heap.size + 2 < w.heap.size + 6; omega) _, fun i h1 h2 h3 => (hbN.block i (by have := hb.size; omega) h3).trans (hb.block i h1 h2), ?_, ⟨hbN.os.trans hb.os, hbN.tape.trans hb.tape, hbN.output.trans hb.output⟩, Nat.le_trans hb.size hbN.size⟩
   rw [hX]
   exact F.heap_set _ (w.heap.size + 2) 0 _ _ _ ((hb.block (w.heap.size + 2) (by omega) (by omega)).trans hk5)
  ·have hbN := (F.But.refl (w.heap.size + 2) w5).setCell 0 (.slice (some ⟨g, 0, none⟩) (pre.length + 1) cap)
   have hN6 := F.heap_set _ (w.heap.size + 2) 0 _ _ (.slice (some ⟨g, 0, none⟩) (pre.length + 1) cap) hk5
   have ho5 := ownsRow_setCell_below hown (a := ⟨w.heap.size + 2, 0, none⟩) (by show w.heap.size + 2 < w.heap.size + 6; omega) (.slice (some ⟨g, 0, none⟩) (pre.length + 1) cap)
   generalize w5.setCell ⟨w.heap.size + 2, 0, none⟩ (.slice (some ⟨g, 0, none⟩) (pre.length + 1) cap) = Y at *
   have hb := set3o_but Y g (pre.length * 3) c0 c1 c2
   have ho := (store3 ho5 c0 c1 c2).1
   rw [<- hX] at hb
   change (set3o Y g (pre.length * 3) c0 c1 c2).ownsRow _ _ _ _ _ _ at ho
   rw [<- hX] at ho
   refine ⟨ho, fun i h1 h2 h3 => (hb.block i (by have := hbN.size; omega) h2).trans (hbN.block i h1 h3), (hb.block (w.heap.size + 2) (by have := hbN.size; omega) (by omega)).trans hN6, ⟨hb.os.trans hbN.os, hb.tape.trans hbN.tape, hb.output.trans hbN.output⟩, Nat.le_trans hbN.size hb.size⟩
 have far : ∀ i, i < w.heap.size + 6 -> i ≠ w.heap.size + 2 -> X.heap[i]? = W.heap[i]? := fun i h1 h2 =>
  (hXb i (by omega) (by omega) h2).trans (old i (by omega) (fun e => by have := (ho _ e.symm).1; omega))
 refine ⟨⟨(far _ (by omega) (by omega)).trans hI.m, (far _ (by omega) (by omega)).trans hI.t, hXN, (far _ (by omega) (by omega)).trans hI.i, ?_, ?_⟩, by omega, far⟩
 ·refine grow_snoc (lo := lo) (W := V) hvl (fun i v T h1 h2 => (hNs i v T h1 h2).below hV) hXo (fun b h1 h2 h3 h4 => (hXb b (by omega) h4 (by omega)).trans (hgrow.block b h2 h3)) hat hnew (by omega) (fun g' h => by have := (ho g' h).2; omega)
 ·exact ⟨hXs.1.trans (hgrow.os.trans (hV.os.trans hI.bel.os)), hXs.2.1.trans (hgrow.tape.trans (hV.tape.trans hI.bel.tape)), hXs.2.2.trans (hgrow.output.trans (hV.output.trans hI.bel.output)), by have := hI.bel.size; omega, fun i hi => (far i (by omega) (by omega)).trans (hI.bel.block i hi)⟩
theorem kid_far {S : Nat} {U w5 : World} {own : Option Nat} {g bx : Nat} {cb cn : Obj} (ho : ∀ i, own = some i -> S + 6 <= i /\ i < bx) (hS : S + 6 <= bx) (hb : bx < U.heap.size) (hgrow : U.grownBy w5 own) (hat : own = some g \/ g = U.heap.size) (hB : U.heap[bx]? = some cb) (hK : U.heap[S + 2]? = some cn) :
  g ≠ bx /\ g ≠ S + 2 /\ w5.heap[bx]? = some cb /\ w5.heap[S + 2]? = some cn /\ S + 6 <= g := by
 have hg : g < bx /\ S + 6 <= g \/ g = U.heap.size := by
  rcases hat with h | h
  ·exact .inl ⟨(ho g h).2, (ho g h).1⟩
  ·exact .inr h
 exact ⟨by omega, by omega, (hgrow.block bx hb (fun e => by have := ho bx e.symm; omega)).trans hB, (hgrow.block _ (by omega) (fun e => by have := ho _ e.symm; omega)).trans hK, by omega⟩
theorem kid_far0 {S : Nat} {U w5 : World} {own : Option Nat} {g : Nat} {cn : Obj} (ho : ∀ i, own = some i -> S + 6 <= i) (hS : S + 6 <= U.heap.size) (hgrow : U.grownBy w5 own) (hat : own = some g \/ g = U.heap.size) (hK : U.heap[S + 2]? = some cn) :
  g ≠ S + 2 /\ w5.heap[S + 2]? = some cn /\ S + 6 <= g := by
 have hg : S + 6 <= g := by
  rcases hat with h | h
  ·exact ho g h
  ·omega
 exact ⟨by omega, (hgrow.block _ (by omega) (fun e => by have := ho _ e.symm; omega)).trans hK, hg⟩
theorem Kin.sl {n : Nat} {w : World} {ms ms' : Array Value} {pre pre' : List (Tr n)} {sl sl' : Value} {W V : World} (h : Kin n w ms pre sl W) (h' : Kin n w ms' pre' sl' V) (e : W.heap[w.heap.size + 2]? = V.heap[w.heap.size + 2]?) : sl' = sl := by
 have h1 := h.k
 rw [e, h'.k] at h1
 injection h1 with h1
 injection h1 with h1
 injection h1 with h1
 injection h1
end Go.Proofs.YtmenllnokgjdlaaGreatDoor.G
