/- Several texts in one: GRdB, GRdC, GRdD. Each says what it proves, and its conditions. -/
import Derived.Test.YtmenllnokgjdlaaGreatDoorG45
set_option linter.unusedSimpArgs false
set_option maxHeartbeats 8000000
set_option maxRecDepth 100000
/-
 What fber's reader.inside answers. Conditions: the reader's filter answers as it should at one level less.
-/
namespace Go.Proofs.YtmenllnokgjdlaaGreatDoor.G
open Go Go.RowKit Go.Shelf Gp
open D (H_ un)
open F (At FNode box6 box1 set6o set6o_but set6o_own GrowF growF_snoc flat6 flat6_len zfd heap_set infoF range_own)
open Fp (Fl fitF)
open Tv (Tr)
attribute [local go_sem] Oper.semAt_some
structure Rin (n : Nat) (w : World) (B most : Nat) (ka : Option Addr) (kl kc : Nat) (dp : Int) (c : List (Fl n)) (la : Option Addr) (lc : Nat) (W : World) : Prop where
 mo : W.heap[w.heap.size + 2]? = some (.cells #[.int .i64 most] 3 (0, 0))
 l : W.heap[w.heap.size + 3]? = some (.cells #[.slice la c.length lc] 23 (0, 0))
 er : W.heap[w.heap.size + 4]? = some (.cells #[.nilIface] 52 (0, 0))
 rb : W.heap[w.heap.size + 5]? = some (.cells #[.map (some B)] 91 (0, 0))
 kb : W.heap[w.heap.size + 6]? = some (.cells #[.slice ka kl kc] 26 (0, 0))
 db : W.heap[w.heap.size + 7]? = some (.cells #[.int .i64 dp] 3 (0, 0))
 gr : GrowF n W (w.heap.size + 10) (.slice la c.length lc) c
 bel : Below w.heap.size w W
 len : c.length <= most
theorem Rin.but {n : Nat} {w : World} {B most : Nat} {ka : Option Addr} {kl kc : Nat} {dp : Int} {c : List (Fl n)} {la : Option Addr} {lc l : Nat} {W V : World} (h : Rin n w B most ka kl kc dp c la lc W) (hb : F.But l W V) (hl : w.heap.size + 7 < l /\ l < w.heap.size + 10) : Rin n w B most ka kl kc dp c la lc V := by
 have e : ∀ {i : Nat} {o : Obj}, W.heap[i]? = some o -> i < w.heap.size + 8 -> V.heap[i]? = some o := fun {i o} h1 h2 => (hb.block _ (Array.getElem?_eq_some_iff.1 h1).1 (by omega)).trans h1
 refine ⟨e h.mo (by omega), e h.l (by omega), e h.er (by omega), e h.rb (by omega), e h.kb (by omega), e h.db (by omega), h.gr.of fun b hb1 hb2 => hb.block b hb2 (by omega), ?_, h.len⟩
 exact ⟨hb.os.trans h.bel.os, hb.tape.trans h.bel.tape, hb.output.trans h.bel.output, Nat.le_trans h.bel.size hb.size, fun k hk => (hb.block k (by have := h.bel.size; omega) (by omega)).trans (h.bel.block k hk)⟩
theorem Rin.below {n : Nat} {w : World} {B most : Nat} {ka : Option Addr} {kl kc : Nat} {dp : Int} {c : List (Fl n)} {la : Option Addr} {lc : Nat} {W V : World} (h : Rin n w B most ka kl kc dp c la lc W) (hb : Below W.heap.size W V) : Rin n w B most ka kl kc dp c la lc V := by
 have e : ∀ {i : Nat} {o : Obj}, W.heap[i]? = some o -> V.heap[i]? = some o := fun {i o} h1 => (hb.block _ (Array.getElem?_eq_some_iff.1 h1).1).trans h1
 exact ⟨e h.mo, e h.l, e h.er, e h.rb, e h.kb, e h.db, h.gr.of fun b _ hb2 => hb.block b hb2, h.bel.trans (hb.mono h.bel.size), h.len⟩
theorem Rin.same {n : Nat} {w : World} {B most : Nat} {ka : Option Addr} {kl kc : Nat} {dp : Int} {c : List (Fl n)} {la la' : Option Addr} {lc lc' : Nat} {W C : World} (h : Rin n w B most ka kl kc dp c la lc W) (h' : Rin n w B most ka kl kc dp c la' lc' C) (e : W.heap[w.heap.size + 3]? = C.heap[w.heap.size + 3]?) : la' = la /\ lc' = lc := by
 have h1 := (box1 h.l).1
 rw [World.cell?_of_block (w := C) (a := ⟨w.heap.size + 3, 0, none⟩) e, (box1 h'.l).1] at h1
 cases h1
 exact ⟨rfl, rfl⟩
structure Rix (A : Ad) (w : World) (W : World) : Prop where
 l : ∃ a nn cc, W.heap[w.heap.size + 3]? = some (.cells #[.slice a nn cc] 23 (0, 0))
 er : ∃ T y, W.heap[w.heap.size + 4]? = some (.cells #[.iface T y] 52 (0, 0)) /\ IsErr A (.iface T y)
 bel : Below w.heap.size w W
theorem Rix.but {A : Ad} {w : World} {l : Nat} {W V : World} (h : Rix A w W) (hb : F.But l W V) (hl : w.heap.size + 7 < l) : Rix A w V := by
 obtain ⟨⟨a, nn, cc, h1⟩, ⟨T, y, h2, h3⟩, h4⟩ := h
 exact ⟨⟨a, nn, cc, (hb.block _ (Array.getElem?_eq_some_iff.1 h1).1 (by omega)).trans h1⟩, ⟨T, y, (hb.block _ (Array.getElem?_eq_some_iff.1 h2).1 (by omega)).trans h2, h3⟩, ⟨hb.os.trans h4.os, hb.tape.trans h4.tape, hb.output.trans h4.output, Nat.le_trans h4.size hb.size, fun k hk => (hb.block k (by have := h4.size; omega) (by omega)).trans (h4.block k hk)⟩⟩
theorem rin_far {S : Nat} {U w5 : World} {own : Option Nat} {g bx : Nat} {cb cn : Obj} (ho : ∀ i, own = some i -> S + 10 <= i /\ i < bx) (hS : S + 10 <= bx) (hb : bx < U.heap.size) (hgrow : U.grownBy w5 own) (hat : own = some g \/ g = U.heap.size) (hB : U.heap[bx]? = some cb) (hK : U.heap[S + 3]? = some cn) :
  g ≠ bx /\ g ≠ S + 3 /\ w5.heap[bx]? = some cb /\ w5.heap[S + 3]? = some cn /\ S + 10 <= g := by
 have hg : g < bx /\ S + 10 <= g \/ g = U.heap.size := by
  rcases hat with h | h
  ·exact .inl ⟨(ho g h).2, (ho g h).1⟩
  ·exact .inr h
 exact ⟨by omega, by omega, (hgrow.block bx hb (fun e => by have := ho bx e.symm; omega)).trans hB, (hgrow.block _ (by omega) (fun e => by have := ho _ e.symm; omega)).trans hK, by omega⟩
theorem rin_end {n : Nat} {w W V w5 X : World} {B most : Nat} {ka : Option Addr} {kl kc : Nat} {dp : Int} {c : List (Fl n)} {la : Option Addr} {lc g cap : Nat} {vs : List F.Fd} {d : F.Fd} {f : Fl n}
  (hI : Rin n w B most ka kl kc dp c la lc W) (hz : w.heap.size + 10 <= W.heap.size) (hm : c.length < most) (hV : Below W.heap.size W V) (hvl : vs.length = c.length)
  (hNs : ∀ (i : Nat) v G, vs[i]? = some v -> c[i]? = some G -> FNode n W (fun b => w.heap.size + 10 <= b /\ some b ≠ (Value.slice la c.length lc).ownBlock) v G)
  (hown : w5.ownsRow (w.heap.size + 10) 25 6 (.slice (some ⟨g, 0, none⟩) (c.length + 1) cap) (c.length + 1) (flat6 vs ++ (F.Fd.cs zfd).toList))
  (hgrow : V.grownBy w5 (Value.slice la c.length lc).ownBlock) (hat : (Value.slice la c.length lc).ownBlock = some g \/ V.heap.size <= g)
  (hnew : FNode n W (fun b => w.heap.size + 10 <= b /\ some b ≠ (Value.slice la c.length lc).ownBlock) d f)
  (hX : X = (set6o w5 g (c.length * 6) d).setCell ⟨w.heap.size + 3, 0, none⟩ (.slice (some ⟨g, 0, none⟩) (c.length + 1) cap) \/ X = set6o (w5.setCell ⟨w.heap.size + 3, 0, none⟩ (.slice (some ⟨g, 0, none⟩) (c.length + 1) cap)) g (c.length * 6) d) :
  Rin n w B most ka kl kc dp (c ++ [f]) (some ⟨g, 0, none⟩) cap X /\ (∀ i, i < w.heap.size + 10 -> i ≠ w.heap.size + 3 -> X.heap[i]? = W.heap[i]?) := by
 have hVz := hV.size
 have ho : ∀ g', (Value.slice la c.length lc).ownBlock = some g' -> w.heap.size + 10 <= g' /\ g' < W.heap.size := fun g' h => hI.gr.lt h
 have hg6 : w.heap.size + 10 <= g := by
  rcases hat with h | h
  ·exact (ho g h).1
  ·omega
 have hl : (flat6 vs).length = c.length * 6 := by rw [flat6_len, hvl]
 have hz5 : V.heap.size <= w5.heap.size := hgrow.size
 have old : ∀ i, i < W.heap.size -> some i ≠ (Value.slice la c.length lc).ownBlock -> w5.heap[i]? = W.heap[i]? := fun i h1 h2 => (hgrow.block i (by omega) h2).trans (hV.block i h1)
 have hk5 : w5.heap[w.heap.size + 3]? = some (.cells #[.slice la c.length lc] 23 (0, 0)) := (old _ (by omega) (fun e => by have := (ho _ e.symm).1; omega)).trans hI.l
 obtain ⟨hXo, hXb, hXN, hXs, hXz⟩ : X.ownsRow (w.heap.size + 10) 25 6 (.slice (some ⟨g, 0, none⟩) (c.length + 1) cap) (c.length + 1) (flat6 vs ++ (F.Fd.cs d).toList) /\ (∀ i, i < w5.heap.size -> i ≠ g -> i ≠ w.heap.size + 3 -> X.heap[i]? = w5.heap[i]?) /\
   X.heap[w.heap.size + 3]? = some (.cells #[.slice (some ⟨g, 0, none⟩) (c.length + 1) cap] 23 (0, 0)) /\ (X.os = w5.os /\ X.tape = w5.tape /\ X.output = w5.output) /\ w5.heap.size <= X.heap.size := by
  rcases hX with hX | hX
  ·have hb := set6o_but w5 g (c.length * 6) d
   have ho := set6o_own d zfd hown hl
   generalize set6o w5 g (c.length * 6) d = Y at *
   have hbN := bt_set Y (w.heap.size + 3) (.slice (some ⟨g, 0, none⟩) (c.length + 1) cap)
   rw [<- hX] at hbN
   refine ⟨by rw [hX]; exact ownsRow_setCell_below ho (by show w.heap.size + 3 < w.heap.size + 10; omega) _, fun i h1 h2 h3 => (hbN.block i (by have := hb.size; omega) h3).trans (hb.block i h1 h2), ?_, ⟨hbN.os.trans hb.os, hbN.tape.trans hb.tape, hbN.output.trans hb.output⟩, Nat.le_trans hb.size hbN.size⟩
   rw [hX]
   exact heap_set _ (w.heap.size + 3) 0 _ _ _ ((hb.block (w.heap.size + 3) (by omega) (by omega)).trans hk5)
  ·have hbN := bt_set w5 (w.heap.size + 3) (.slice (some ⟨g, 0, none⟩) (c.length + 1) cap)
   have hN6 := heap_set _ (w.heap.size + 3) 0 _ _ (.slice (some ⟨g, 0, none⟩) (c.length + 1) cap) hk5
   have ho5 := ownsRow_setCell_below hown (a := ⟨w.heap.size + 3, 0, none⟩) (by show w.heap.size + 3 < w.heap.size + 10; omega) (.slice (some ⟨g, 0, none⟩) (c.length + 1) cap)
   generalize w5.setCell ⟨w.heap.size + 3, 0, none⟩ (.slice (some ⟨g, 0, none⟩) (c.length + 1) cap) = Y at *
   have hb := set6o_but Y g (c.length * 6) d
   have ho := set6o_own d zfd ho5 hl
   rw [<- hX] at hb ho
   refine ⟨ho, fun i h1 h2 h3 => (hb.block i (by have := hbN.size; omega) h2).trans (hbN.block i h1 h3), (hb.block (w.heap.size + 3) (by have := hbN.size; omega) (by omega)).trans hN6, ⟨hb.os.trans hbN.os, hb.tape.trans hbN.tape, hb.output.trans hbN.output⟩, Nat.le_trans hbN.size hb.size⟩
 have far : ∀ i, i < w.heap.size + 10 -> i ≠ w.heap.size + 3 -> X.heap[i]? = W.heap[i]? := fun i h1 h2 =>
  (hXb i (by omega) (by omega) h2).trans (old i (by omega) (fun e => by have := (ho _ e.symm).1; omega))
 refine ⟨⟨(far _ (by omega) (by omega)).trans hI.mo, ?_, (far _ (by omega) (by omega)).trans hI.er, (far _ (by omega) (by omega)).trans hI.rb, (far _ (by omega) (by omega)).trans hI.kb, (far _ (by omega) (by omega)).trans hI.db, ?_, ?_, by rw [List.length_append, List.length_singleton]; omega⟩, far⟩
 ·rw [List.length_append, List.length_singleton]; exact hXN
 ·rw [List.length_append, List.length_singleton]
  exact growF_snoc (W := W) hvl hNs hXo (fun b h1 h2 h3 h4 => (hXb b (by omega) h4 (by omega)).trans (old b h2 h3)) (hat.imp id fun h => by omega) hnew
 ·exact ⟨hXs.1.trans (hgrow.os.trans (hV.os.trans hI.bel.os)), hXs.2.1.trans (hgrow.tape.trans (hV.tape.trans hI.bel.tape)), hXs.2.2.trans (hgrow.output.trans (hV.output.trans hI.bel.output)), by have := hI.bel.size; omega, fun i hi => (far i (by omega) (by omega)).trans (hI.bel.block i hi)⟩
theorem finI {D : Nat} {V : World} {tmps : Array Value} {x y : Value} {Q : Ending -> World -> Prop} (hV : V.heap[D]? = some (.deferred (some []))) (t8 : tmps.getD 8 undef = x) (t9 : tmps.getD 9 undef = y) (hp : Q (.returned (.tuple #[x, y])) (V.putObj D (.deferred none))) :
  Exit.noGoto (bodyPostM Fence.wide 7 Tryz.prog Tryz.f122 Q) Exit.ret { tmps, defers := [{ target := .collected D, args := #[] }] } V := by
 refine ⟨by simp, .inl ⟨_, _, rfl, run_takeDeferred hV, ?_⟩⟩
 refine ⟨.tuple #[x, y], ?_, hp⟩
 have t8' : tmps[8]?.getD undef = x := by simpa using t8
 have t9' : tmps[9]?.getD undef = y := by simpa using t9
 simp [results, Tryz.results122, go_sem, t8', t9']
theorem finI0 {V : World} {tmps : Array Value} {x y : Value} {Q : Ending -> World -> Prop} (t8 : tmps.getD 8 undef = x) (t9 : tmps.getD 9 undef = y) (hp : Q (.returned (.tuple #[x, y])) V) :
  Exit.noGoto (bodyPostM Fence.wide 7 Tryz.prog Tryz.f122 Q) Exit.ret { tmps, defers := [] } V := by
 have t8' : tmps[8]?.getD undef = x := by simpa using t8
 have t9' : tmps[9]?.getD undef = y := by simpa using t9
 refine ⟨.tuple #[x, y], ?_, hp⟩
 simp [results, Tryz.results122, go_sem, t8', t9']
def InP (n : Nat) (A : Ad) (o : Option (List (Fl n))) (w : World) (e : Ending) (w' : World) : Prop := Below w.heap.size w w' /\ match o with
 | some l => ∃ la lc, e = .returned (.tuple #[.slice la l.length lc, .nilIface]) /\ GrowF n w' w.heap.size (.slice la l.length lc) l /\ l.length <= 8
 | none => ∃ a nn cc T y, e = .returned (.tuple #[.slice a nn cc, .iface T y]) /\ IsErr A (.iface T y)
theorem growF_base {n : Nat} {W : World} {b b' : Nat} {sl : Value} {c : List (Fl n)} (h : GrowF n W b sl c) (hb : b' <= b) : GrowF n W b' sl c := by
 obtain ⟨vs, h1, h2, h3⟩ := h
 exact ⟨vs, h1, F.own_mono h2 hb, fun i v G hv hG => (h3 i v G hv hG).imp fun b hb' _ => ⟨by omega, hb'.2⟩⟩
theorem inside_rd {n : Nat} (IH : RdIs n) (dp : Nat) (hdp : dp <= 8) (hn : n <= 90) (A : Ad) (w : World) (p : Nat -> Prop) (v : Value) (T : Tr (n + 1)) (most B : Nat) (hm8 : most <= 8)
  (g : Glob A w) (hok : okN (n + 1) T) (hN : Node (n + 1) w p v T) (hB : KindsAt w B) :
  Calls Tryz.prog 122 #[.agg #[.map (some B)], v, .int .i64 most, .int .i64 dp] w (InP n A (if (Tv.dat T).size ≠ 0 then none else insd most dp (Tv.kids T)) w) := by
 have hN0 : Node (n + 1) w (fun b => b < w.heap.size) v T := hN.imp fun b _ h => h
 obtain ⟨a, cap, rfl, _, hk4', _⟩ := hN0.shape
 have hk4 : ((Tv.kids T).length : Int) <= 4000 := by omega
 obtain ⟨dd, hdd⟩ : ∃ dd, dd = Tv.dat T := ⟨_, rfl⟩
 obtain ⟨tt, htt⟩ : ∃ tt, tt = Tv.tag T := ⟨_, rfl⟩
 rw [<- hdd, <- htt] at hN0
 rw [<- hdd, <- htt]
 have FACTS : ∀ W1, W1 = ((w.alloc (rbox B)).alloc (.cells #[.int .i64 tt, .string dd, .slice a (Tv.kids T).length cap] 28)).alloc (ibox most) ->
   (W1.cell? ⟨w.heap.size + 1, 1, none⟩ = some (.string dd) /\ Below w.heap.size w W1) /\
   (∀ W5, W5 = (W1.alloc (.cells #[.slice none 0 0] 23)).alloc (.cells #[.nilIface] 52) -> (W5.cell? ⟨w.heap.size, 0, none⟩ = some (.map (some B)) /\ W5.cell? ⟨w.heap.size + 1, 2, none⟩ = some (.slice a (Tv.kids T).length cap)) /\
    ∀ W0, W0 = ((W5.alloc (rbox B)).alloc (kbox a (Tv.kids T).length cap)).alloc (ibox dp) -> W0.heap.size = w.heap.size + 8 /\ Rin n w B most a (Tv.kids T).length cap dp [] none 0 W0) := by
  intro W1 hW1
  have hb1 : Below w.heap.size w W1 := by rw [hW1]; exact (((Below.refl _ _).alloc (Nat.le_refl _) _).alloc (by simp) _).alloc (by simp; omega) _
  have hz1 : W1.heap.size = w.heap.size + 3 := by rw [hW1]; simp
  have h0 : W1.heap[w.heap.size]? = some (.cells #[.map (some B)] 91 (0, 0)) := by
   rw [hW1, Below.heap_alloc _ _ _ (by simp; omega), Below.heap_alloc _ _ _ (by simp)]; exact World.alloc_heap_new w _
  have h1 : W1.heap[w.heap.size + 1]? = some (.cells #[.int .i64 tt, .string dd, .slice a (Tv.kids T).length cap] 28 (0, 0)) := by
   rw [hW1, Below.heap_alloc _ _ _ (by simp)]
   have := World.alloc_heap_new (w.alloc (rbox B)) (.cells #[.int .i64 tt, .string dd, .slice a (Tv.kids T).length cap] 28)
   rwa [World.size_alloc] at this
  have h2 : W1.heap[w.heap.size + 2]? = some (.cells #[.int .i64 most] 3 (0, 0)) := by
   rw [hW1]
   have := World.alloc_heap_new ((w.alloc (rbox B)).alloc (.cells #[.int .i64 tt, .string dd, .slice a (Tv.kids T).length cap] 28)) (ibox most)
   rwa [World.size_alloc, World.size_alloc] at this
  refine ⟨⟨(cells3 h1).1.2.1, hb1⟩, fun W5 hW5 => ?_⟩
  have hb5 : Below W1.heap.size W1 W5 := by rw [hW5]; exact ((Below.refl _ _).alloc (Nat.le_refl _) _).alloc (by simp) _
  have hz5 : W5.heap.size = w.heap.size + 5 := by rw [hW5]; simp [hz1]
  have h3 : W5.heap[w.heap.size + 3]? = some (.cells #[.slice none 0 0] 23 (0, 0)) := by
   rw [hW5, Below.heap_alloc _ _ _ (by simp [hz1]), <- hz1]; exact World.alloc_heap_new W1 _
  have h4 : W5.heap[w.heap.size + 4]? = some (.cells #[.nilIface] 52 (0, 0)) := by
   rw [hW5]
   have := World.alloc_heap_new (W1.alloc (.cells #[.slice none 0 0] 23)) (.cells #[.nilIface] 52)
   rwa [World.size_alloc, hz1] at this
  refine ⟨⟨(box1 ((hb5.block _ (by omega)).trans h0)).1, (cells3 ((hb5.block _ (by omega)).trans h1)).1.2.2⟩, fun W0 hW0 => ?_⟩
  have hb0 : Below W5.heap.size W5 W0 := by rw [hW0]; exact (((Below.refl _ _).alloc (Nat.le_refl _) _).alloc (by simp) _).alloc (by simp; omega) _
  refine ⟨by rw [hW0]; simp [hz5], (hb0.block _ (by omega)).trans ((hb5.block _ (by omega)).trans h2), (hb0.block _ (by omega)).trans h3, (hb0.block _ (by omega)).trans h4, ?_, ?_, ?_, GrowF.nil _ _ _, hb1.trans ((hb5.mono (by omega)).trans (hb0.mono (by omega))), Nat.zero_le _⟩
  ·rw [hW0, Below.heap_alloc _ _ _ (by simp [hz5]), Below.heap_alloc _ _ _ (by simp [hz5]), <- hz5]; exact World.alloc_heap_new W5 _
  ·rw [hW0, Below.heap_alloc _ _ _ (by simp [hz5])]
   have := World.alloc_heap_new (W5.alloc (rbox B)) (kbox a (Tv.kids T).length cap)
   rwa [World.size_alloc, hz5] at this
  ·rw [hW0]
   have := World.alloc_heap_new ((W5.alloc (rbox B)).alloc (kbox a (Tv.kids T).length cap)) (ibox dp)
   rwa [World.size_alloc, World.size_alloc, hz5] at this
 obtain ⟨⟨x1, hb1⟩, hF1⟩ := FACTS _ rfl
 obtain ⟨⟨y0, y2⟩, hF0⟩ := hF1 _ rfl
 dsimp only [rbox, ibox] at x1 y0 y2
 have HF0 := H_ hF0
 have HB1 := H_ hb1
 have HG := H_ g
 have HN := H_ hN0
 have HB := H_ hB
 have HK := H_ hok
 have HIH := H_ IH
 have hmx : Tryz.prog.follows .mixedOrders = true := by kernel_rfl
 clear IH g hN hN0 hB hok FACTS hF1 hF0 hb1 hdd htt
 by_cases hd : dd.size = 0
 ·rw [if_neg (fun h => h hd)]
  obtain rfl := no_size hd
  obtain ⟨O, hO⟩ : ∃ O, O = insd most dp (Tv.kids T) := ⟨_, rfl⟩
  rw [<- hO]
  have HO := H_ hO
  clear hO hd
  refine (callsIn_wide (n := 7)).1 ?_
  refine callsIn_of_wp_marks Tryz.func122 rfl trivial ?_ rfl
  simp only [Tryz.ntmps122, List.size_toArray, List.length_cons, List.length_nil, Nat.reduceAdd, Nat.reduceSub, Array.replicate_succ, Array.replicate_zero, List.push_toArray, List.append_toArray, List.nil_append, List.cons_append]
  refine wpIn_wide.2 ?_
  go_wp2_with fail
  refine wp_scope_straight ?_
  go_wp2_with fail
  refine wp_label ?_
  go_wp2_with fail
  refine (filters_any B a (Tv.kids T).length cap dp _).mono ?_
  rintro e W0 ⟨rfl, hW0⟩
  obtain ⟨hz, hI0⟩ := (un HF0) W0 hW0
  clear hW0 x1 y0 y2 HF0 HB1
  go_wp2_with fail
  refine (wpIn_wide (n := 7)).1 ?_
  refine' range_own (α := Got n) (σ := List (Fl n)) (gf := 170) (lb := #[.pointer (some ⟨w.heap.size + 6, 0, none⟩), .pointer (some ⟨w.heap.size + 5, 0, none⟩), .pointer (some ⟨w.heap.size + 7, 0, none⟩)]) rfl (enters_of Tryz.func170 (by kernel_rfl) rfl)
   (fun x => #[F.Fd.val x.d, x.er]) (fun _ => rfl) (fun _ _ => True) (fun X Y => Below X.heap.size X Y)
   (fun c W => ∃ la lc, Rin n w B most a (Tv.kids T).length cap dp c la lc W) (fun cd _ W => cd = .exit 0 /\ Rix A w W)
   (fun c x W => GotAt A (w.heap.size + 10) (w.heap.size + 3) x W /\ ∃ h : c.length < (Tv.kids T).length, x.o = rd n dp (Tv.kids T)[c.length]) nxG [] (fun c _ => Pre dp (Tv.kids T) c /\ ¬ c.length < (Tv.kids T).length) (fun _ => insd most dp (Tv.kids T) = none) (fun c x => x.o ≠ none /\ c.length < most) (fun c x => x.o = none \/ c.length = most)
   (fun x X => X.alloc (fobj x.d)) _ (fun _ _ => (Below.refl _ _).alloc (Nat.le_refl _) _)
   (fun _ _ => trivial) (fun _ _ _ => trivial) ?_ ?_ ?_ ?_ ?_ ?_ ?_ ?iter ?assign ?body ?done ?stop
  case assign =>
   intro c x W K _ _ hK
   gi_wp2
   exact hK
  ·intro X Y hb hsz
   rw [hz] at hsz ⊢
   exact ⟨hb.block _ (by omega), hb.block _ (by omega)⟩
  ·rintro c X Y hb ⟨la, lc, h2⟩
   rw [hz] at hb
   exact ⟨la, lc, h2.but hb (by omega)⟩
  ·rintro c X Y hb _ ⟨la, lc, h2⟩
   exact ⟨la, lc, h2.below hb⟩
  ·rintro cd c X Y hb ⟨h1, h2⟩
   rw [hz] at hb
   exact ⟨h1, h2.but hb (by omega)⟩
  ·rintro c x X Y hb ⟨⟨⟨h1, h2, h3⟩, h4⟩, h5⟩
   rw [hz] at hb
   refine ⟨⟨⟨h1, Nat.lt_of_lt_of_le h2 hb.size, fun ad nn cc h => h3 ad nn cc (by rw [<- h]; exact (World.cell?_of_block (w := X) (a := ⟨w.heap.size + 3, 0, none⟩) (hb.block _ h2 (by show w.heap.size + 3 ≠ _; omega))).symm)⟩, ?_⟩, h5⟩
   cases ho : x.o with
   | some f => rw [ho] at h4; exact ⟨h4.1, h4.2.of fun b hb1 hb2 => hb.block b hb2 (by omega)⟩
   | none => rw [ho] at h4; exact h4
  ·rintro c X Y hb h
   exact h
  ·exact ⟨none, 0, hI0⟩
  case iter =>
   intro W hbW hzW J Jx hJ hJI hY h0
   rw [hz] at hbW hzW hY hJI ⊢
   refine (filters1_any (un HIH) dp hdp hn A w p tt ⟨#[]⟩ a cap T most B (w.heap.size + 6) (w.heap.size + 5) (w.heap.size + 7) (w.heap.size + 3) (w.heap.size + 8 + 1) (w.heap.size + 10) (un HG) (un HK) (un HN) (un HB) J Jx hJ (fun c X hj => ?_) (fun c x W' m hj hG hx => ?_) W h0).mono ?_
   ·obtain ⟨⟨la, lc, h1⟩, h2⟩ := hJI c X hj
    refine ⟨h1.bel, ⟨h1.kb, h1.rb, h1.db⟩, by omega, by omega, fun ad nn cc hcl => ?_⟩
    rw [(box1 h1.l).1] at hcl
    injection hcl with hcl
    injection hcl with e1 e2 e3
    have := h1.gr.lt (g := ad.block) (by rw [e1]; rfl)
    omega
   ·refine (hY c x W' m hj ⟨hG, hx⟩).mono ?_
    rintro e W2 (⟨h1, h2, h3, _⟩ | ⟨h1, h2, h3⟩)
    ·exact .inl ⟨h1, h2, h3⟩
    ·exact .inr ⟨h1, h2, h3⟩
   ·rintro e W' ⟨h1, ⟨c, h2, h3, h4⟩ | ⟨c, h2, h3⟩⟩
    ·exact ⟨h1, .inl ⟨c, ⟨h2, h3⟩, h4⟩⟩
    ·exact ⟨h1, .inr ⟨c, h2, h3⟩⟩
  case body =>
   rintro c ⟨⟨dk, da, dv, dsa, dsn, dsc, df, dla, dln, dlc⟩, er, o, lo⟩ C W ⟨la, lc, hI⟩ ⟨⟨⟨hlo, hlb, hls⟩, hG⟩, hcl, hrx⟩ hSB hbb ⟨laC, lcC, hIC⟩
   go_light
   rw [hz] at hSB hbb ⊢
   dsimp only at hlo hls hG hrx hbb ⊢
   have hbk : W.heap[C.heap.size]? = some (.cells (F.Fd.cs ⟨dk, da, dv, dsa, dsn, dsc, df, dla, dln, dlc⟩) 25 (0, 0)) := (hbb.block C.heap.size (by simp) (by omega)).trans (World.alloc_heap_new C _)
   have hCW : C.heap.size < W.heap.size := (Array.getElem?_eq_some_iff.1 hbk).1
   obtain ⟨x6, y6⟩ := box1 hI.er
   obtain ⟨x3, y3⟩ := box1 hI.l
   obtain ⟨x2, y2⟩ := box1 hI.mo
   cases o with
   | none =>
    obtain ⟨Ty, y, rfl, hErr⟩ : ∃ Ty y, er = .iface Ty y /\ IsErr A (.iface Ty y) := hG
    have HH := H_ (And.intro hI hErr)
    clear hI hErr hbk hI0 hIC hls hrx
    gi_wp2
    obtain ⟨hI, hErr⟩ := un HH
    have far : ∀ i, i ≠ w.heap.size + 4 -> (W.setCell ⟨w.heap.size + 4, 0, none⟩ (.iface Ty y)).heap[i]? = W.heap[i]? := fun i h => Below.heap_setCell _ _ _ _ h
    have hs4 := bt_set W (w.heap.size + 4) (.iface Ty y)
    exact ⟨by simp, ⟨far _ (by omega), far _ (by omega)⟩, rfl, ⟨_, _, _, (far _ (by omega)).trans hI.l⟩, ⟨_, _, heap_set _ _ 0 _ _ _ hI.er, hErr⟩, ⟨hs4.os.trans hI.bel.os, hs4.tape.trans hI.bel.tape, hs4.output.trans hI.bel.output, Nat.le_trans hI.bel.size hs4.size, fun k hk => (far k (by omega)).trans (hI.bel.block k hk)⟩⟩
   | some f =>
    obtain ⟨rfl, hFn⟩ : er = .nilIface /\ FNode n W (fun b => lo <= b) ⟨dk, da, dv, dsa, dsn, dsc, df, dla, dln, dlc⟩ f := hG
    by_cases h8 : c.length = most
    ·have h8i : ((c.length : Int) == (most : Int)) = true := by rw [h8]; simp
     have hco := ((un HG).next hI.bel).vco
     have HH := H_ hI
     clear hI hbk hI0 hIC hls hrx hFn
     gi_wp2
     have hI := un HH
     have far : ∀ i, i ≠ w.heap.size + 4 -> (W.setCell ⟨w.heap.size + 4, 0, none⟩ (sen A.co)).heap[i]? = W.heap[i]? := fun i h => Below.heap_setCell _ _ _ _ h
     have hs4 := bt_set W (w.heap.size + 4) (sen A.co)
     exact ⟨.inr h8, ⟨far _ (by omega), far _ (by omega)⟩, rfl, ⟨_, _, _, (far _ (by omega)).trans hI.l⟩, ⟨_, _, heap_set _ _ 0 _ _ _ hI.er, IsErr.sen (.inr (.inr (.inl rfl)))⟩, ⟨hs4.os.trans hI.bel.os, hs4.tape.trans hI.bel.tape, hs4.output.trans hI.bel.output, Nat.le_trans hI.bel.size hs4.size, fun k hk => (far k (by omega)).trans (hI.bel.block k hk)⟩⟩
    ·have h8i : ((c.length : Int) == (most : Int)) = false := by rw [beq_eq_false_iff_ne]; omega
     have hcm : c.length < most := by have := hI.len; omega
     obtain ⟨rfl, rfl⟩ := hI.same hIC ((hbb.block (w.heap.size + 3) (by simp; omega) (by omega)).trans (Below.heap_alloc _ _ _ (by omega)))
     have HoB : Hid (∀ i, (Value.slice laC c.length lcC).ownBlock = some i -> w.heap.size + 10 <= i /\ i < C.heap.size) := H_ fun i h => hIC.gr.lt h
     have hVW : Below W.heap.size W W.drew := ⟨rfl, rfl, rfl, Nat.le_refl _, fun _ _ => rfl⟩
     have HFn : Hid (FNode n W (fun b => w.heap.size + 10 <= b /\ some b ≠ (Value.slice laC c.length lcC).ownBlock) ⟨dk, da, dv, dsa, dsn, dsc, df, dla, dln, dlc⟩ f) := H_ (hFn.imp fun b hb _ => ⟨by omega, fun e => by
      cases laC with
      | none => cases e
      | some ad =>
       have h1 := hls ad _ _ x3
       have e2 : b = ad.block := by cases e; rfl
       omega⟩)
     obtain ⟨vs, hvl, hown, hNs⟩ := hI.gr
     have HNs := H_ (And.intro hvl hNs)
     have HI := H_ hI
     have hzW : w.heap.size + 10 <= W.heap.size := by omega
     have HBV := H_ (show W.drew.heap[C.heap.size]? = some (.cells (F.Fd.cs ⟨dk, da, dv, dsa, dsn, dsc, df, dla, dln, dlc⟩) 25 (0, 0)) from hbk)
     have HKV := H_ (show W.drew.heap[w.heap.size + 3]? = some (.cells #[.slice laC c.length lcC] 23 (0, 0)) from hI.l)
     have hownV : W.drew.ownsRow (w.heap.size + 10) 25 6 (.slice laC c.length lcC) c.length (flat6 vs) := hown
     have hl8 : c.length <= 8 := by omega
     obtain ⟨i0, hi0, hz0, hz1, hz2⟩ := infoF
     clear hI hIC hbk hvl hown hNs hFn hbb hI0 hls hrx
     gi_wp2_with fail
     clear x2 x3 x6 y2 y3 y6
     refine regionIn_sw (fun w' => w'.cell? ⟨w.heap.size + 3, 0, none⟩ = some (.slice laC c.length lcC)) (fun w' => w'.cell? ⟨C.heap.size, 0, none⟩ = some (.int .i64 dk) /\ w'.cell? ⟨C.heap.size, 1, none⟩ = some (.string da) /\ w'.cell? ⟨C.heap.size, 2, none⟩ = some (.string dv) /\ w'.cell? ⟨C.heap.size, 3, none⟩ = some (.slice dsa dsn dsc) /\ w'.cell? ⟨C.heap.size, 4, none⟩ = some (.string df) /\ w'.cell? ⟨C.heap.size, 5, none⟩ = some (.slice dla dln dlc)) 4 (by kernel_rfl) (by kernel_rfl) ?_
     generalize W.drew = V at *
     have cK0 := (box1 (un HKV)).1
     have hS1V := (box6 (un HBV)).1
     dsimp only at hS1V
     change wpAnyS _ _ _ _ _ _ _ 8 #[false, false, false, false, false, false, false, false] _ V
     refine wpAnyS_take (i := 0) (v := .slice laC c.length lcC) rfl (by kernel_rfl) (by kernel_rfl) (by kernel_rfl) (by kernel_rfl) (fun _ _ _ h => h) (Or.inl ⟨by kernel_rfl, by rintro w1 ⟨z0, z1⟩; go_simp; all_goals first | rfl | omega⟩) ⟨fun _ => cK0, hS1V⟩ ?_
     simp only [Act.put, nrm]
     refine wpAnyS_take1 (i := 1) (v := .agg #[.int .i64 dk, .string da, .string dv, .slice dsa dsn dsc, .string df, .slice dla dln dlc]) rfl (by kernel_rfl) (by kernel_rfl) (by kernel_rfl) (by kernel_rfl) (fun _ _ _ h => h) (Or.inl ⟨by kernel_rfl, by rintro w1 ⟨s0, s1, s2, s3, s4, s5⟩; go_simp; all_goals first | rfl | omega⟩) ⟨fun _ => cK0, hS1V⟩ ?_
     simp only [Act.put, nrm]
     refine wpAnyS_take1 (i := 2) (v := .int .i64 (c.length : Int)) rfl (by kernel_rfl) (by kernel_rfl) (by kernel_rfl) (by kernel_rfl) (fun _ _ _ h => h) (Or.inl ⟨by kernel_rfl, by rintro w1 ⟨s0, s1, s2, s3, s4, s5⟩; go_simp; all_goals first | rfl | omega⟩) ⟨fun _ => cK0, hS1V⟩ ?_
     simp only [Act.put, nrm]
     refine wpAnyS_ready (rs := [3]) (by kernel_rfl) (by simp) ?_
     refine AllReadyS.cons rfl (fun K hK => ?_) AllReadyS.nil
     rw [if_pos (by kernel_rfl)]
     go_simp
     obtain ⟨U, hU⟩ : ∃ U, U = V.alloc (fobj zfd) := ⟨_, rfl⟩
     obtain ⟨ab, hab⟩ : ∃ ab, ab = V.heap.size := ⟨_, rfl⟩
     have hcz : ∀ (j : Nat) u, (F.Fd.cs zfd).toList[j]? = some u -> U.cell? ((⟨ab, 0, none⟩ : Addr).add j) = some u := by rw [hU, hab]; exact World.news_of_block (World.alloc_heap_new V (fobj zfd))
     have hVU : Below V.heap.size V U := by rw [hU]; exact (Below.refl _ _).alloc (Nat.le_refl _) _
     dsimp only [fobj, F.Fd.obj, F.Fd.cs, zfd] at hU
     rw [<- hU, <- hab]
     have Hcz := H_ hcz
     clear hcz hU hab
     have HUW := H_ (hVW.trans (hVU.mono hVW.size))
     have hzU : W.heap.size <= U.heap.size := (un HUW).size
     have HownU := H_ (F.own_below hownV hVU)
     have HKU := H_ ((hVU.block _ (Array.getElem?_eq_some_iff.1 (un HKV)).1).trans (un HKV))
     have cKU := (box1 (un HKU)).1
     have HBU := H_ ((hVU.block _ (Array.getElem?_eq_some_iff.1 (un HBV)).1).trans (un HBV))
     have hBU := (Array.getElem?_eq_some_iff.1 (un HBU)).1
     have hS1U := (box6 (un HBU)).1
     dsimp only at hS1U
     refine hK.out _ _ ⟨fun _ => cKU, hS1U⟩ (fun _ => ?_)
     clear hK K
     simp only [Act.put, nrm]
     refine wpAnyS_ready (rs := [4]) (by kernel_rfl) (by simp) ?_
     refine AllReadyS.cons rfl (fun K hK => ?_) AllReadyS.nil
     rw [if_pos (by kernel_rfl)]
     refine wp_append_lies _ (.tmp 35) (.tmp 38) 23 rfl (w.heap.size + 10) 25 i0 (F.Fd.val zfd) 6 104 Tryz.underlying23 hi0 hz0 hz1 hz2 rfl (by omega) (.slice laC c.length lcC) c.length (flat6 vs) rfl (un HownU) ⟨ab, 0, none⟩ 1 1 (F.Fd.cs zfd).toList rfl rfl (un Hcz) (by simp [Value.oneCell']) (by omega) (by unfold maxLen; omega) (by omega) (by omega) U.heap.size rfl ?_
     intro gg cp w5 hown5 hgrow hat hglt
     obtain ⟨l0, l1, l2, l3, l4, l5⟩ := F.apd_cells (un HNs).1 hown5
     have m0 := hown5.frozenAt (c.length * 6)
     have m1 := hown5.frozenAt (c.length * 6 + 1)
     have m2 := hown5.frozenAt (c.length * 6 + 2)
     have m3 := hown5.frozenAt (c.length * 6 + 3)
     have m4 := hown5.frozenAt (c.length * 6 + 4)
     have m5 := hown5.frozenAt (c.length * 6 + 5)
     obtain ⟨hgB, hgK, hB5, hK5, hg6⟩ := rin_far (un HoB) hSB hBU hgrow hat (un HBU) (un HKU)
     have cK := (box1 hK5).1
     have fK := (box1 hK5).2
     have hS5 := (box6 hB5).1
     dsimp only at hS5
     have HA := H_ (And.intro hown5 (And.intro hgrow hat))
     clear hown5 hgrow hat
     refine hK.out _ _ ⟨fun h => absurd h (by decide), hS5⟩ (fun _ => ?_)
     clear hK K
     simp only [Act.put, nrm]
     refine wpAnyS_take1 (i := 5) (v := .pointer (some ⟨gg, c.length * 6, none⟩)) rfl (by kernel_rfl) (by kernel_rfl) (by kernel_rfl) (by kernel_rfl) (fun _ _ _ h => h) (Or.inl ⟨by kernel_rfl, by rintro w1 ⟨s0, s1, s2, s3, s4, s5⟩; go_simp; (intro h; omega)⟩) ⟨fun h => absurd h (by decide), hS5⟩ ?_
     simp only [Act.put, nrm]
     refine wpAnyS_ready (rs := [6, 7]) (by kernel_rfl) (by simp) ?_
     refine AllReadyS.cons rfl (fun K hK => ?_) (AllReadyS.cons rfl (fun K hK => ?_) AllReadyS.nil)
     ·rw [if_pos (by kernel_rfl)]
      go_simp
      obtain ⟨Y, hY⟩ : ∃ Y, Y = set6o w5 gg (c.length * 6) ⟨dk, da, dv, dsa, dsn, dsc, df, dla, dln, dlc⟩ := ⟨_, rfl⟩
      have hbY := set6o_but w5 gg (c.length * 6) ⟨dk, da, dv, dsa, dsn, dsc, df, dla, dln, dlc⟩
      dsimp only [set6o] at hY hbY
      rw [<- hY] at hbY ⊢
      replace hY := H_ hY
      have hKY := (hbY.block _ (Array.getElem?_eq_some_iff.1 hK5).1 (Ne.symm hgK)).trans hK5
      have cY := (box1 hKY).1
      have fY := (box1 hKY).2
      have hBY := (hbY.block _ (Array.getElem?_eq_some_iff.1 hB5).1 (Ne.symm hgB)).trans hB5
      have hSY := (box6 hBY).1
      dsimp only at hSY
      clear l0 l1 l2 l3 l4 l5 m0 m1 m2 m3 m4 m5 cK fK
      refine hK.out _ _ ⟨fun h => absurd h (by decide), hSY⟩ (fun _ => ?_)
      clear hK K
      simp only [Act.put, nrm]
      refine wpAnyS_ready (rs := [7]) (by kernel_rfl) (by simp) ?_
      refine AllReadyS.cons rfl (fun K hK => ?_) AllReadyS.nil
      rw [if_pos (by kernel_rfl)]
      go_simp
      have hBZ := (Below.heap_setCell Y ⟨w.heap.size + 3, 0, none⟩ (.slice (some ⟨gg, 0, none⟩) (c.length + 1) cp) C.heap.size (by show C.heap.size ≠ w.heap.size + 3; omega)).trans hBY
      have hSZ := (box6 hBZ).1
      dsimp only at hSZ
      refine hK.out _ _ ⟨fun h => absurd h (by decide), hSZ⟩ (fun _ => ?_)
      clear hK K
      simp only [Act.put, nrm]
      refine wpAnyS_done (by kernel_rfl) ?_ _
      simp only [onlyS]
      gi_wp2
      obtain ⟨hown5, hgrow, hat⟩ := un HA
      obtain ⟨hvl, hNs⟩ := un HNs
      obtain ⟨hI2, hf2⟩ := rin_end (X := Y.setCell ⟨w.heap.size + 3, 0, none⟩ (.slice (some ⟨gg, 0, none⟩) (c.length + 1) cp)) (d := ⟨dk, da, dv, dsa, dsn, dsc, df, dla, dln, dlc⟩) (un HI) hzW hcm (un HUW) hvl hNs hown5 hgrow (hat.imp id fun e => Nat.le_of_eq e.symm) (un HFn) (by rw [un hY]; exact .inl rfl)
      exact ⟨trivial, ⟨hf2 _ (by omega) (by omega), hf2 _ (by omega) (by omega)⟩, trivial, _, _, hI2⟩
     ·rw [if_pos (by kernel_rfl)]
      go_simp
      obtain ⟨Y, hY⟩ : ∃ Y, Y = w5.setCell ⟨w.heap.size + 3, 0, none⟩ (.slice (some ⟨gg, 0, none⟩) (c.length + 1) cp) := ⟨_, rfl⟩
      have hbY := bt_set w5 (w.heap.size + 3) (.slice (some ⟨gg, 0, none⟩) (c.length + 1) cp)
      rw [<- hY] at hbY ⊢
      replace hY := H_ hY
      have hBY := (hbY.block _ (Array.getElem?_eq_some_iff.1 hB5).1 (by omega)).trans hB5
      have hSY := (box6 hBY).1
      dsimp only at hSY
      have hgY := hbY.block gg hglt hgK
      have far := fun i => World.cell?_of_block (w := w5) (w' := Y) (a := ⟨gg, i, none⟩) hgY
      have farf := fun i => World.frozen?_of_block (w := w5) (w' := Y) (a := ⟨gg, i, none⟩) hgY
      rw [<- far] at l0 l1 l2 l3 l4 l5
      rw [<- farf] at m0 m1 m2 m3 m4 m5
      clear far farf cK fK
      refine hK.out _ _ ⟨fun h => absurd h (by decide), hSY⟩ (fun _ => ?_)
      clear hK K
      simp only [Act.put, nrm]
      refine wpAnyS_ready (rs := [6]) (by kernel_rfl) (by simp) ?_
      refine AllReadyS.cons rfl (fun K hK => ?_) AllReadyS.nil
      rw [if_pos (by kernel_rfl)]
      go_simp
      obtain ⟨X, hX⟩ : ∃ X, X = set6o Y gg (c.length * 6) ⟨dk, da, dv, dsa, dsn, dsc, df, dla, dln, dlc⟩ := ⟨_, rfl⟩
      have hbX := set6o_but Y gg (c.length * 6) ⟨dk, da, dv, dsa, dsn, dsc, df, dla, dln, dlc⟩
      dsimp only [set6o] at hX hbX
      rw [<- hX] at hbX ⊢
      replace hX := H_ hX
      have hBZ := (hbX.block _ (Array.getElem?_eq_some_iff.1 hBY).1 (Ne.symm hgB)).trans hBY
      have hSZ := (box6 hBZ).1
      dsimp only at hSZ
      clear l0 l1 l2 l3 l4 l5 m0 m1 m2 m3 m4 m5
      refine hK.out _ _ ⟨fun h => absurd h (by decide), hSZ⟩ (fun _ => ?_)
      clear hK K
      simp only [Act.put, nrm]
      refine wpAnyS_done (by kernel_rfl) ?_ _
      simp only [onlyS]
      gi_wp2
      obtain ⟨hown5, hgrow, hat⟩ := un HA
      obtain ⟨hvl, hNs⟩ := un HNs
      obtain ⟨hI2, hf2⟩ := rin_end (X := X) (d := ⟨dk, da, dv, dsa, dsn, dsc, df, dla, dln, dlc⟩) (un HI) hzW hcm (un HUW) hvl hNs hown5 hgrow (hat.imp id fun e => Nat.le_of_eq e.symm) (un HFn) (by rw [un hX, un hY]; exact .inr rfl)
      exact ⟨trivial, ⟨hf2 _ (by omega) (by omega), hf2 _ (by omega) (by omega)⟩, trivial, _, _, hI2⟩
  case done =>
   rintro c W ⟨hpre, hge⟩ ⟨la, lc, hI⟩ hK
   rw [hz] at hK ⊢
   have hO := insd_end hpre hge hI.len
   rw [<- un HO] at hO
   obtain ⟨x3, y3⟩ := box1 hI.l
   obtain ⟨x4, y4⟩ := box1 hI.er
   have hI8 := hI.len
   by_cases h0 : c.length = 0
   ·rw [if_pos h0] at hO
    subst hO
    have h0i : ((c.length : Int) == 0) = true := by rw [h0]; rfl
    have hco := ((un HG).next hI.bel).vco
    obtain ⟨X, hX⟩ : ∃ X, X = W.setCell ⟨w.heap.size + 4, 0, none⟩ (sen A.co) := ⟨_, rfl⟩
    have far : ∀ i, i ≠ w.heap.size + 4 -> X.heap[i]? = W.heap[i]? := fun i h => by rw [hX]; exact Below.heap_setCell _ _ _ _ h
    have h4 : X.heap[w.heap.size + 4]? = some (.cells #[sen A.co] 52 (0, 0)) := by rw [hX]; exact heap_set _ _ 0 _ _ _ hI.er
    have hXz : X.heap.size = W.heap.size := by rw [hX]; simp
    have hXe : X.os = W.os /\ X.tape = W.tape /\ X.output = W.output := by rw [hX]; exact ⟨rfl, rfl, rfl⟩
    have HX := H_ hX
    have HH := H_ (And.intro hI (And.intro hK (And.intro far (And.intro h4 (And.intro hXz hXe)))))
    clear hI hK far h4 hXz hXe hX hI0 hpre hge HO hI8
    go_wp2_with fail
    rw [<- un HX]
    obtain ⟨hI, hK, far, h4, hXz, hXe⟩ := un HH
    have x3 := (box1 ((far _ (by omega)).trans hI.l)).1
    have x4 := (box1 h4).1
    clear hI hK far h4 hXz hXe y3 y4 hco HX
    refine wp_region_sw (fun _ => True) (fun w' => w'.cell? ⟨w.heap.size + 3, 0, none⟩ = some (.slice la c.length lc) /\ w'.cell? ⟨w.heap.size + 4, 0, none⟩ = some (sen A.co)) 9 (by kernel_rfl) ?_
    have hSq : X.drew.cell? ⟨w.heap.size + 3, 0, none⟩ = some (.slice la c.length lc) /\ X.drew.cell? ⟨w.heap.size + 4, 0, none⟩ = some (sen A.co) := ⟨x3, x4⟩
    change wpAnyS _ _ _ _ _ _ _ 4 #[false, false, false, false] _ _
    refine wpAnyS_take1 (i := 0) (v := .slice la c.length lc) rfl (by kernel_rfl) (by kernel_rfl) (by kernel_rfl) (by kernel_rfl) (fun _ _ _ h => h) (Or.inl ⟨by kernel_rfl, by rintro w1 ⟨s0, s1⟩; go_simp; all_goals first | rfl | omega⟩) ⟨fun _ => trivial, hSq⟩ ?_
    simp only [Act.put, nrm]
    refine wpAnyS_take1 (i := 1) (v := sen A.co) rfl (by kernel_rfl) (by kernel_rfl) (by kernel_rfl) (by kernel_rfl) (fun _ _ _ h => h) (Or.inl ⟨by kernel_rfl, by rintro w1 ⟨s0, s1⟩; go_simp; all_goals first | rfl | omega⟩) ⟨fun _ => trivial, hSq⟩ ?_
    simp only [Act.put, nrm]
    refine wpAnyS_take1 (i := 2) (v := .slice la c.length lc) rfl (by kernel_rfl) (by kernel_rfl) (by kernel_rfl) (by kernel_rfl) (fun _ _ _ h => h) (Or.inl ⟨by kernel_rfl, by rintro w1 ⟨s0, s1⟩; go_simp; all_goals first | rfl | omega⟩) ⟨fun _ => trivial, hSq⟩ ?_
    simp only [Act.put, nrm]
    refine wpAnyS_take1 (i := 3) (v := sen A.co) rfl (by kernel_rfl) (by kernel_rfl) (by kernel_rfl) (by kernel_rfl) (fun _ _ _ h => h) (Or.inl ⟨by kernel_rfl, by rintro w1 ⟨s0, s1⟩; go_simp; all_goals first | rfl | omega⟩) ⟨fun _ => trivial, hSq⟩ ?_
    simp only [Act.put, nrm]
    refine wpAnyS_done (by kernel_rfl) ?_ _
    simp only [onlyS]
    go_wp2
    obtain ⟨hI, hK, far, h4, hXz, hXe⟩ := un HH
    refine finI (D := w.heap.size + 8) (V := X.drew) ((far _ (by omega)).trans hK) rfl rfl ?_
    refine ⟨?_, _, _, _, _, _, rfl, IsErr.sen (.inr (.inr (.inl rfl)))⟩
    exact below_putNew (l := w.heap.size + 8) (w := X.drew) ⟨hXe.1.trans hI.bel.os, hXe.2.1.trans hI.bel.tape, hXe.2.2.trans hI.bel.output, (by show w.heap.size <= X.heap.size; rw [hXz]; exact hI.bel.size), fun k hk => (far k (by omega)).trans (hI.bel.block k hk)⟩ (by omega) _
   ·rw [if_neg h0] at hO
    subst hO
    have h0i : ((c.length : Int) == 0) = false := by rw [beq_eq_false_iff_ne]; omega
    have HH := H_ (And.intro hI hK)
    clear hI hK hI0 hpre hge HO
    go_wp2_with fail
    clear y3 y4
    refine wp_region_sw (fun _ => True) (fun w' => w'.cell? ⟨w.heap.size + 3, 0, none⟩ = some (.slice la c.length lc) /\ w'.cell? ⟨w.heap.size + 4, 0, none⟩ = some (.nilIface)) 9 (by kernel_rfl) ?_
    have hSq : W.drew.cell? ⟨w.heap.size + 3, 0, none⟩ = some (.slice la c.length lc) /\ W.drew.cell? ⟨w.heap.size + 4, 0, none⟩ = some (.nilIface) := ⟨x3, x4⟩
    change wpAnyS _ _ _ _ _ _ _ 4 #[false, false, false, false] _ _
    refine wpAnyS_take1 (i := 0) (v := .slice la c.length lc) rfl (by kernel_rfl) (by kernel_rfl) (by kernel_rfl) (by kernel_rfl) (fun _ _ _ h => h) (Or.inl ⟨by kernel_rfl, by rintro w1 ⟨s0, s1⟩; go_simp; all_goals first | rfl | omega⟩) ⟨fun _ => trivial, hSq⟩ ?_
    simp only [Act.put, nrm]
    refine wpAnyS_take1 (i := 1) (v := .nilIface) rfl (by kernel_rfl) (by kernel_rfl) (by kernel_rfl) (by kernel_rfl) (fun _ _ _ h => h) (Or.inl ⟨by kernel_rfl, by rintro w1 ⟨s0, s1⟩; go_simp; all_goals first | rfl | omega⟩) ⟨fun _ => trivial, hSq⟩ ?_
    simp only [Act.put, nrm]
    refine wpAnyS_take1 (i := 2) (v := .slice la c.length lc) rfl (by kernel_rfl) (by kernel_rfl) (by kernel_rfl) (by kernel_rfl) (fun _ _ _ h => h) (Or.inl ⟨by kernel_rfl, by rintro w1 ⟨s0, s1⟩; go_simp; all_goals first | rfl | omega⟩) ⟨fun _ => trivial, hSq⟩ ?_
    simp only [Act.put, nrm]
    refine wpAnyS_take1 (i := 3) (v := .nilIface) rfl (by kernel_rfl) (by kernel_rfl) (by kernel_rfl) (by kernel_rfl) (fun _ _ _ h => h) (Or.inl ⟨by kernel_rfl, by rintro w1 ⟨s0, s1⟩; go_simp; all_goals first | rfl | omega⟩) ⟨fun _ => trivial, hSq⟩ ?_
    simp only [Act.put, nrm]
    refine wpAnyS_done (by kernel_rfl) ?_ _
    simp only [onlyS]
    go_wp2
    obtain ⟨hI, hK⟩ := un HH
    refine finI (D := w.heap.size + 8) (V := W.drew) hK rfl rfl ?_
    refine ⟨below_putNew hI.bel.drew (by omega) _, la, lc, rfl, growF_base (hI.gr.of (fun b h1 h2 => World.putObj_heap_other (by omega))) (by omega), by omega⟩
  case stop =>
   rintro cd c W hno ⟨rfl, hI⟩ hK
   rw [hz] at hK ⊢
   rw [<- un HO] at hno
   subst hno
   obtain ⟨⟨sa, sn, sc, h3⟩, ⟨Ty, y, h4, hE⟩, hbel⟩ := hI
   obtain ⟨x3, y3⟩ := box1 h3
   obtain ⟨x4, y4⟩ := box1 h4
   have HH := H_ (And.intro hK (And.intro hE hbel))
   clear h3 h4 hE hbel hK hI0
   refine wpIn_exit ?_
   go_wp2_with fail
   clear y3 y4
   refine wp_region_sw (fun _ => True) (fun w' => w'.cell? ⟨w.heap.size + 3, 0, none⟩ = some (.slice sa sn sc) /\ w'.cell? ⟨w.heap.size + 4, 0, none⟩ = some (.iface Ty y)) 9 (by kernel_rfl) ?_
   have hSq : W.drew.cell? ⟨w.heap.size + 3, 0, none⟩ = some (.slice sa sn sc) /\ W.drew.cell? ⟨w.heap.size + 4, 0, none⟩ = some (.iface Ty y) := ⟨x3, x4⟩
   change wpAnyS _ _ _ _ _ _ _ 4 #[false, false, false, false] _ _
   refine wpAnyS_take1 (i := 0) (v := .slice sa sn sc) rfl (by kernel_rfl) (by kernel_rfl) (by kernel_rfl) (by kernel_rfl) (fun _ _ _ h => h) (Or.inl ⟨by kernel_rfl, by rintro w1 ⟨s0, s1⟩; go_simp; all_goals first | rfl | omega⟩) ⟨fun _ => trivial, hSq⟩ ?_
   simp only [Act.put, nrm]
   refine wpAnyS_take1 (i := 1) (v := .iface Ty y) rfl (by kernel_rfl) (by kernel_rfl) (by kernel_rfl) (by kernel_rfl) (fun _ _ _ h => h) (Or.inl ⟨by kernel_rfl, by rintro w1 ⟨s0, s1⟩; go_simp; all_goals first | rfl | omega⟩) ⟨fun _ => trivial, hSq⟩ ?_
   simp only [Act.put, nrm]
   refine wpAnyS_take1 (i := 2) (v := .slice sa sn sc) rfl (by kernel_rfl) (by kernel_rfl) (by kernel_rfl) (by kernel_rfl) (fun _ _ _ h => h) (Or.inl ⟨by kernel_rfl, by rintro w1 ⟨s0, s1⟩; go_simp; all_goals first | rfl | omega⟩) ⟨fun _ => trivial, hSq⟩ ?_
   simp only [Act.put, nrm]
   refine wpAnyS_take1 (i := 3) (v := .iface Ty y) rfl (by kernel_rfl) (by kernel_rfl) (by kernel_rfl) (by kernel_rfl) (fun _ _ _ h => h) (Or.inl ⟨by kernel_rfl, by rintro w1 ⟨s0, s1⟩; go_simp; all_goals first | rfl | omega⟩) ⟨fun _ => trivial, hSq⟩ ?_
   simp only [Act.put, nrm]
   refine wpAnyS_done (by kernel_rfl) ?_ _
   simp only [onlyS]
   go_wp2
   obtain ⟨hK, hE, hbel⟩ := un HH
   refine finI (D := w.heap.size + 8) (V := W.drew) hK rfl rfl ?_
   exact ⟨below_putNew hbel.drew (by omega) _, _, _, _, _, _, rfl, hE⟩
 ·rw [if_pos hd]
  obtain ⟨ne1, ne2⟩ := list_ne hd
  obtain ⟨W1, hW1⟩ : ∃ W1, W1 = ((w.alloc (.cells #[.map (some B)] 91)).alloc (.cells #[.int .i64 tt, .string dd, .slice a (Tv.kids T).length cap] 28)).alloc (.cells #[.int .i64 most] 3) := ⟨_, rfl⟩
  have hbW : Below w.heap.size w W1 := by rw [hW1]; exact un HB1
  have gv := ((un HG).next hbW).vtr
  have HW := H_ hW1
  have HBW := H_ hbW
  clear hW1 hbW HG HB HB1 HF0 HK HN HIH
  refine (callsIn_wide (n := 7)).1 ?_
  refine callsIn_of_wp_marks Tryz.func122 rfl trivial ?_ rfl
  simp only [Tryz.ntmps122, List.size_toArray, List.length_cons, List.length_nil, Nat.reduceAdd, Nat.reduceSub, Array.replicate_succ, Array.replicate_zero, List.push_toArray, List.append_toArray, List.nil_append, List.cons_append]
  refine wpIn_wide.2 ?_
  go_wp2_with fail
  refine wp_scope_straight ?_
  go_wp2_with fail
  rw [<- un HW]
  clear HW x1 y0 y2
  refine wp_region_sw (fun _ => True) (fun w' => w'.cell? ⟨3, 0, none⟩ = some (sen A.tr)) 9 (by kernel_rfl) ?_
  have hSq : W1.drew.cell? ⟨3, 0, none⟩ = some (sen A.tr) := gv
  change wpAnyS _ _ _ _ _ _ _ 3 #[false, false, false] _ _
  refine wpAnyS_take1 (i := 0) (v := sen A.tr) rfl (by kernel_rfl) (by kernel_rfl) (by kernel_rfl) (by kernel_rfl) (fun _ _ _ h => h) (Or.inl ⟨by kernel_rfl, by intro w1 s0; go_simp; all_goals first | rfl | omega⟩) ⟨fun _ => trivial, hSq⟩ ?_
  simp only [Act.put, nrm]
  refine wpAnyS_take1 (i := 1) (v := .slice none 0 0) rfl (by kernel_rfl) (by kernel_rfl) (by kernel_rfl) (by kernel_rfl) (fun _ _ _ h => h) (Or.inl ⟨by kernel_rfl, by intro w1 s0; go_simp; all_goals first | rfl | omega⟩) ⟨fun _ => trivial, hSq⟩ ?_
  simp only [Act.put, nrm]
  refine wpAnyS_take1 (i := 2) (v := sen A.tr) rfl (by kernel_rfl) (by kernel_rfl) (by kernel_rfl) (by kernel_rfl) (fun _ _ _ h => h) (Or.inl ⟨by kernel_rfl, by intro w1 s0; go_simp; all_goals first | rfl | omega⟩) ⟨fun _ => trivial, hSq⟩ ?_
  simp only [Act.put, nrm]
  refine wpAnyS_done (by kernel_rfl) ?_ _
  simp only [onlyS]
  go_wp2
  refine finI0 rfl rfl ?_
  exact ⟨(un HBW).drew, _, _, _, _, _, rfl, IsErr.sen (.inr (.inr (.inr rfl)))⟩
end Go.Proofs.YtmenllnokgjdlaaGreatDoor.G
/-
 What fber's reader.body and reader.filter answer. Conditions: tags are numbers of the machine, data have at most 2000 bytes; the package-level variables hold what the program's text lays.
-/
namespace Go.Proofs.YtmenllnokgjdlaaGreatDoor.G
open Go Go.RowKit Go.Shelf Gp
open D (H_ un)
open F (At FNode box6 box1 set6 set6_blk set6_but GrowF zfd)
open Fp (Fl fitF isSet)
open Tv (Tr)
attribute [local go_sem] Oper.semAt_some
def bodyO {n : Nat} (dp : Nat) (k : Int) (T : Tr (n + 1)) : Option (Fl (n + 1)) := if 6 < dp then none
 else if isSet k then ((if (Tv.dat T).size ≠ 0 then none else insd (if k = 2 then 1 else 8) (dp + 1) (Tv.kids T) : Option (List (Fl n))).map fun l => Fp.mk k ⟨#[]⟩ ⟨#[]⟩ [] ⟨#[]⟩ l)
 else Gp.cond k T
theorem rd_body {n : Nat} (dp : Nat) (T : Tr (n + 1)) : rd (n + 1) dp T = (Gp.kindT (Tv.tag T)).bind fun k => bodyO dp k T := by
 conv => lhs; rw [rd]
 cases Gp.kindT (Tv.tag T) with
 | none => rfl
 | some k =>
  simp only [Option.bind_some]
  unfold bodyO insd
  by_cases h6 : 6 < dp
  ·rw [if_pos h6, if_pos h6]
  ·rw [if_neg h6, if_neg h6]
   cases isSet k with
   | false => rfl
   | true =>
    simp only [if_true]
    by_cases hd : (Tv.dat T).size ≠ 0
    ·rw [if_pos hd, if_pos hd]; rfl
    ·rw [if_neg hd, if_neg hd]
     cases mpT (rd n (dp + 1)) (Tv.kids T) with
     | none => rfl
     | some l =>
      simp only
      by_cases hl : l.length = 0 \/ (if k = 2 then 1 else 8) < l.length
      ·rw [if_pos hl, if_pos hl]; rfl
      ·rw [if_neg hl, if_neg hl]; rfl
theorem finY {b : Nat} {V : World} {tmps : Array Value} {d : FD} {u : Value} {R : Ending -> World -> Prop} (h0 : V.heap[b]? = some (.cells (F.Fd.cs d) 25 (0, 0)))
  (t8 : tmps.getD 8 undef = .pointer (some ⟨b, 0, none⟩)) (t9 : tmps.getD 9 undef = u) (hp : R (.returned (.tuple #[F.Fd.val d, u])) V) :
  bodyPost Tryz.prog Tryz.f90 R Exit.ret { tmps, defers := [] } V := by
 refine ⟨rfl, .tuple #[F.Fd.val d, u], ?_, hp⟩
 obtain ⟨⟨c0, c1, c2, c3, c4, c5⟩, _⟩ := box6 h0
 have t8' : tmps[8]?.getD undef = .pointer (some ⟨b, 0, none⟩) := by simpa using t8
 have t9' : tmps[9]?.getD undef = u := by simpa using t9
 simp [results, Tryz.results90, go_sem, t8', t9', c0, c1, c2, c3, c4, c5]
theorem finZ {b : Nat} {V : World} {tmps : Array Value} {d : FD} {u : Value} {R : Ending -> World -> Prop} (h0 : V.heap[b]? = some (.cells (F.Fd.cs d) 25 (0, 0)))
  (t6 : tmps.getD 6 undef = .pointer (some ⟨b, 0, none⟩)) (t7 : tmps.getD 7 undef = u) (hp : R (.returned (.tuple #[F.Fd.val d, u])) V) :
  bodyPost Tryz.prog Tryz.f59 R Exit.ret { tmps, defers := [] } V := by
 refine ⟨rfl, .tuple #[F.Fd.val d, u], ?_, hp⟩
 obtain ⟨⟨c0, c1, c2, c3, c4, c5⟩, _⟩ := box6 h0
 have t6' : tmps[6]?.getD undef = .pointer (some ⟨b, 0, none⟩) := by simpa using t6
 have t7' : tmps[7]?.getD undef = u := by simpa using t7
 simp [results, Tryz.results59, go_sem, t6', t7', c0, c1, c2, c3, c4, c5]
theorem rnf (w : World) (B l cap : Nat) (t : Int) (dd : ByteArray) (a : Option Addr) : ∀ W1, W1 = ((w.alloc (rbox B)).alloc (.cells #[.int .i64 t, .string dd, .slice a l cap] 28)).alloc (fobj zfd) ->
  Below w.heap.size w W1 /\ W1.heap[w.heap.size]? = some (.cells #[.map (some B)] 91 (0, 0)) /\ W1.heap[w.heap.size + 1]? = some (.cells #[.int .i64 t, .string dd, .slice a l cap] 28 (0, 0)) /\ W1.heap[w.heap.size + 2]? = some (.cells (F.Fd.cs zfd) 25 (0, 0)) := by
 intro W1 hW1
 refine ⟨by rw [hW1]; exact (((Below.refl _ _).alloc (Nat.le_refl _) _).alloc (by simp) _).alloc (by simp; omega) _, ?_, ?_, ?_⟩
 ·rw [hW1, Below.heap_alloc _ _ _ (by simp; omega), Below.heap_alloc _ _ _ (by simp)]; exact World.alloc_heap_new w _
 ·rw [hW1, Below.heap_alloc _ _ _ (by simp)]
  have := World.alloc_heap_new (w.alloc (rbox B)) (.cells #[.int .i64 t, .string dd, .slice a l cap] 28)
  rwa [World.size_alloc] at this
 ·rw [hW1]
  have := World.alloc_heap_new ((w.alloc (rbox B)).alloc (.cells #[.int .i64 t, .string dd, .slice a l cap] 28)) (fobj zfd)
  rwa [World.size_alloc, World.size_alloc] at this
theorem body_any {n : Nat} (IH : RdIs n) (dp : Nat) (hdp : dp <= 8) (hn : n <= 90) (k : Int) (A : Ad) (w : World) (p : Nat -> Prop) (v : Value) (T : Tr (n + 1)) (B : Nat)
  (g : Glob A w) (hok : okN (n + 1) T) (hN : Node (n + 1) w p v T) (hB : KindsAt w B) :
  Calls Tryz.prog 90 #[.agg #[.map (some B)], .int .i64 k, v, .int .i64 dp] w (RdP (n + 1) A (bodyO dp k T) w) := by
 have hN0 := hN
 obtain ⟨a, cap, rfl, _, _, _⟩ := hN0.shape
 obtain ⟨hb1, h0, h1, h2⟩ := rnf w B (Tv.kids T).length cap (Tv.tag T) (Tv.dat T) a _ rfl
 obtain ⟨x0, _⟩ := box1 h0
 obtain ⟨⟨y0, y1, y2⟩, _⟩ := cells3 h1
 obtain ⟨⟨c0, c1, c2, c3, c4, c5⟩, g0, g1, g2, g3, g4, g5⟩ := box6 h2
 dsimp only [rbox, fobj, F.Fd.obj, F.Fd.cs, zfd] at x0 y0 y1 y2 c0 c1 c2 c3 c4 c5 g0 g1 g2 g3 g4 g5
 have HZ := H_ (And.intro hb1 h2)
 obtain ⟨O, hO⟩ : ∃ O, O = bodyO dp k T := ⟨_, rfl⟩
 rw [<- hO]
 by_cases h6 : 6 < dp
 ·have h6i : (6 : Int) < (dp : Int) := by omega
  obtain rfl : O = none := by rw [hO]; unfold bodyO; rw [if_pos h6]
  obtain ⟨W1, hW1⟩ : ∃ W1, W1 = ((w.alloc (.cells #[.map (some B)] 91)).alloc (.cells #[.int .i64 (Tv.tag T), .string (Tv.dat T), .slice a (Tv.kids T).length cap] 28)).alloc (.cells #[.int .i64 0, .string ⟨#[]⟩, .string ⟨#[]⟩, .slice none 0 0, .string ⟨#[]⟩, .slice none 0 0] 25) := ⟨_, rfl⟩
  rw [<- hW1] at c0 c1 c2 c3 c4 c5 g0 g1 g2 g3 g4 g5
  have HZ' : Hid (Below w.heap.size w W1 /\ W1.heap[w.heap.size + 2]? = some (.cells (F.Fd.cs zfd) 25 (0, 0))) := H_ (by rw [hW1]; exact un HZ)
  have gv := (g.next (un HZ').1).vde
  have hgl := D.lt_cell g.vde
  have hgn2 : ¬ w.heap.size + 2 = 1 := by simp only at hgl; omega
  have hgn3 : ¬ w.heap.size + 1 + 1 = 1 := by simp only at hgl; omega
  have HW := H_ hW1
  clear hW1 g hok hN hN0 hB IH HZ hb1 h0 h1 h2 hO hgl y0 y1 y2 x0
  go_enter Tryz.func90, Tryz.ntmps90
  go_wp2_with fail
  rw [<- un HW]
  clear HW
  refine wp_mono (Q := fun e a1 V => match e with | .normal => a1.defers = [] /\ a1.tmps.getD 8 undef = .pointer (some ⟨w.heap.size + 2, 0, none⟩) /\ a1.tmps.getD 9 undef = sen A.de /\ V = (set6 W1 (w.heap.size + 2) zfd).drew | _ => False) ?_ ?_
  ·go_region
   all_goals refine ⟨rfl, by simp, by simp, ?_⟩
   all_goals simp only [set6, zfd]
  rintro e ⟨tmps, defers⟩ U hq
  cases e with
  | normal =>
   obtain ⟨hdf, t8, t9, hU⟩ := hq
   dsimp only at hdf t8 t9
   subst hdf
   have HT := H_ (And.intro t8 (And.intro t9 hU))
   clear t8 t9 hU c0 c1 c2 c3 c4 c5 g0 g1 g2 g3 g4 g5 gv
   go_wp2
   obtain ⟨t8, t9, hU⟩ := un HT
   have g0 := set6_blk (un HZ').2 zfd
   have hbX := below_set6 (un HZ').1 (show w.heap.size <= w.heap.size + 2 by omega) zfd
   generalize set6 W1 (w.heap.size + 2) zfd = X at hU g0 hbX
   subst hU
   refine finY (b := w.heap.size + 2) (d := zfd) (V := X.drew) g0 t8 t9 ?_
   exact ⟨hbX.drew, _, _, _, rfl, IsErr.sen (.inr (.inl rfl))⟩
  | _ => exact hq.elim
 ·have h6i : ¬ (6 : Int) < (dp : Int) := by omega
  have hb1' := hb1
  cases hs : isSet k with
  | false =>
   have hO2 : O = Gp.cond k T := by rw [hO]; unfold bodyO; rw [if_neg h6, hs]; rfl
   have hk : k ≠ 0 /\ k ≠ 1 /\ k ≠ 2 := by
    refine ⟨fun e => ?_, fun e => ?_, fun e => ?_⟩ <;> rw [e] at hs <;> cases hs
   have b0 : (k == 0) = false := by simpa using hk.1
   have b1 : (k == 1) = false := by simpa using hk.2.1
   have b2 : (k == 2) = false := by simpa using hk.2.2
   have HC := H_ (cond_any k T A _ p _ (g.next hb1) (hN.below hb1) hok (by omega))
   rw [<- hO2] at HC
   clear g hok hN hN0 hB IH hb1 h0 h1 h2 hO hO2 hk hs hb1' x0 c0 c1 c2 c3 c4 c5 g0 g1 g2 g3 g4 g5
   go_enter Tryz.func90, Tryz.ntmps90
   go_wp2_with fail
   refine (un HC).mono ?_
   rintro e w2 ⟨hb, hp⟩
   have hB2 := (un HZ).1.trans (hb.mono (un HZ).1.size)
   have hq := (hb.block _ (Array.getElem?_eq_some_iff.1 (un HZ).2).1).trans (un HZ).2
   have hlt2 := hb.size
   obtain ⟨⟨c0, c1, c2, c3, c4, c5⟩, g0, g1, g2, g3, g4, g5⟩ := box6 hq
   dsimp only [zfd] at c0 c1 c2 c3 c4 c5
   have HQ := H_ (And.intro hB2 hq)
   clear hB2 hq hb HZ HC y0 y1 y2
   cases O with
   | none =>
    obtain ⟨⟨dk, da, dv, dsa, dsn, dsc, df, dla, dln, dlc⟩, Ty, y, rfl, hE⟩ := hp
    have HE := H_ hE
    clear hE
    go_wp2
    obtain ⟨hB2, hq⟩ := un HQ
    change bodyPost _ _ _ _ _ (set6 w2 (w.heap.size + 2) ⟨dk, da, dv, dsa, dsn, dsc, df, dla, dln, dlc⟩)
    exact finY (set6_blk hq ⟨dk, da, dv, dsa, dsn, dsc, df, dla, dln, dlc⟩) rfl rfl ⟨below_set6 hB2 (show w.heap.size <= w.heap.size + 2 by omega) ⟨dk, da, dv, dsa, dsn, dsc, df, dla, dln, dlc⟩, _, _, _, rfl, un HE⟩
   | some f =>
    obtain ⟨⟨dk, da, dv, dsa, dsn, dsc, df, dla, dln, dlc⟩, rfl, hF⟩ := hp
    have HF := H_ hF
    clear hF
    go_wp2
    obtain ⟨hB2, hq⟩ := un HQ
    change bodyPost _ _ _ _ _ (set6 w2 (w.heap.size + 2) ⟨dk, da, dv, dsa, dsn, dsc, df, dla, dln, dlc⟩)
    have hbt := set6_but w2 (w.heap.size + 2) ⟨dk, da, dv, dsa, dsn, dsc, df, dla, dln, dlc⟩
    refine finY (set6_blk hq ⟨dk, da, dv, dsa, dsn, dsc, df, dla, dln, dlc⟩) rfl rfl ⟨below_set6 hB2 (show w.heap.size <= w.heap.size + 2 by omega) ⟨dk, da, dv, dsa, dsn, dsc, df, dla, dln, dlc⟩, _, rfl, ((un HF).of fun b h1 h2 => hbt.block b h2 (by simp only [World.size_alloc] at h1; omega)).imp fun b h1 _ => by simp only [World.size_alloc] at h1; omega⟩
  | true =>
   obtain ⟨most, hm⟩ : ∃ most, most = (if k = 2 then 1 else 8 : Nat) := ⟨_, rfl⟩
   obtain ⟨Q, hQ⟩ : ∃ Q, Q = (if (Tv.dat T).size ≠ 0 then none else insd most (dp + 1) (Tv.kids T)) := ⟨_, rfl⟩
   have hO2 : O = Q.map fun l => Fp.mk k ⟨#[]⟩ ⟨#[]⟩ [] ⟨#[]⟩ l := by rw [hO, hQ, hm]; unfold bodyO; rw [if_neg h6, hs]; rfl
   have hm8 : most <= 8 := by rw [hm]; split <;> omega
   have HC := H_ (inside_rd IH (dp + 1) (by omega) hn A _ p _ T most B hm8 (g.next hb1) hok (hN.below hb1) (hB.below hb1))
   rw [<- hQ, show ((dp + 1 : Nat) : Int) = (dp : Int) + 1 from by omega] at HC
   have hdi : (dp : Int) <= 8 := by omega
   have hk3 : ((k == 2) = true /\ (most : Int) = 1) \/ ((k == 2) = false /\ (k == 0) = true /\ (most : Int) = 8) \/ ((k == 2) = false /\ (k == 0) = false /\ (k == 1) = true /\ (most : Int) = 8) := by
    unfold isSet at hs
    simp only [Bool.or_eq_true, beq_iff_eq] at hs
    rcases hs with (h | h) | h <;> subst h <;> rw [hm] <;> simp
   have HO := H_ hO2
   clear g hok hN hN0 hB IH hb1 h0 h1 h2 hO hO2 hs hb1' c0 c1 c2 c3 c4 c5 g0 g1 g2 g3 g4 g5 hQ hm
   rcases hk3 with ⟨b2, hmi⟩ | ⟨b2, b0, hmi⟩ | ⟨b2, b0, b1, hmi⟩
   all_goals
    rw [hmi] at HC
    clear hmi
    go_enter Tryz.func90, Tryz.ntmps90
    go_wp2_with fail
    refine (un HC).mono ?_
    rintro e w2 ⟨hb, hp⟩
    have hB2 := (un HZ).1.trans (hb.mono (un HZ).1.size)
    have hq := (hb.block _ (Array.getElem?_eq_some_iff.1 (un HZ).2).1).trans (un HZ).2
    have hlt2 := hb.size
    obtain ⟨⟨c0, c1, c2, c3, c4, c5⟩, g0, g1, g2, g3, g4, g5⟩ := box6 hq
    dsimp only [zfd] at c0 c1 c2 c3 c4 c5
    have HQ := H_ (And.intro hB2 hq)
    clear hB2 hq hb HZ HC y0 y1 y2 x0
    cases Q with
    | none =>
     obtain ⟨ia, inn, ic, Ty, y, rfl, hE⟩ := hp
     obtain rfl : O = none := by rw [un HO]; rfl
     have HE := H_ hE
     clear hE HO
     go_wp2
     obtain ⟨hB2, hq⟩ := un HQ
     change bodyPost _ _ _ _ _ (set6 w2 (w.heap.size + 2) ⟨k, ⟨#[]⟩, ⟨#[]⟩, none, 0, 0, ⟨#[]⟩, ia, inn, ic⟩)
     exact finY (set6_blk hq ⟨k, ⟨#[]⟩, ⟨#[]⟩, none, 0, 0, ⟨#[]⟩, ia, inn, ic⟩) rfl rfl ⟨below_set6 hB2 (show w.heap.size <= w.heap.size + 2 by omega) ⟨k, ⟨#[]⟩, ⟨#[]⟩, none, 0, 0, ⟨#[]⟩, ia, inn, ic⟩, _, _, _, rfl, un HE⟩
    | some l =>
     obtain ⟨ia, ic, rfl, hGr, hl8⟩ := hp
     obtain rfl : O = some (Fp.mk k ⟨#[]⟩ ⟨#[]⟩ [] ⟨#[]⟩ l) := by rw [un HO]; rfl
     obtain ⟨ia', ic', hsl, hF⟩ := hGr.node k (by omega)
     cases hsl
     have HF := H_ hF
     clear hF HO hGr hl8
     generalize l.length = ll at *
     go_wp2
     obtain ⟨hB2, hq⟩ := un HQ
     change bodyPost _ _ _ _ _ (set6 w2 (w.heap.size + 2) ⟨k, ⟨#[]⟩, ⟨#[]⟩, none, 0, 0, ⟨#[]⟩, ia, ll, ic⟩)
     have hbt := set6_but w2 (w.heap.size + 2) ⟨k, ⟨#[]⟩, ⟨#[]⟩, none, 0, 0, ⟨#[]⟩, ia, ll, ic⟩
     refine finY (set6_blk hq ⟨k, ⟨#[]⟩, ⟨#[]⟩, none, 0, 0, ⟨#[]⟩, ia, ll, ic⟩) rfl rfl ⟨below_set6 hB2 (show w.heap.size <= w.heap.size + 2 by omega) ⟨k, ⟨#[]⟩, ⟨#[]⟩, none, 0, 0, ⟨#[]⟩, ia, ll, ic⟩, _, rfl, ((un HF).of fun b h1 h2 => hbt.block b h2 (by simp only [World.size_alloc] at h1; omega)).imp fun b h1 _ => by simp only [World.size_alloc] at h1; omega⟩
end Go.Proofs.YtmenllnokgjdlaaGreatDoor.G
/-
 What fber's reader.filter, read and Read answer. Conditions: tags are numbers of the machine, data have at most 2000 bytes; the package-level variables hold what the program's text lays.
-/
namespace Go.Proofs.YtmenllnokgjdlaaGreatDoor.G
open Go Go.RowKit Go.Shelf Gp
open D (H_ un)
open F (At FNode box6 box1 set6 set6_blk set6_but GrowF zfd)
open Fp (Fl fitF isSet)
open Tv (Tr)
attribute [local go_sem] Oper.semAt_some
theorem finR {b : Nat} {V : World} {tmps : Array Value} {d : FD} {u : Value} {R : Ending -> World -> Prop} (h0 : V.heap[b]? = some (.cells (F.Fd.cs d) 25 (0, 0)))
  (t2 : tmps.getD 2 undef = .pointer (some ⟨b, 0, none⟩)) (t3 : tmps.getD 3 undef = u) (hp : R (.returned (.tuple #[F.Fd.val d, u])) V) :
  bodyPost Tryz.prog Tryz.f36 R Exit.ret { tmps, defers := [] } V := by
 refine ⟨rfl, .tuple #[F.Fd.val d, u], ?_, hp⟩
 obtain ⟨⟨c0, c1, c2, c3, c4, c5⟩, _⟩ := box6 h0
 have t2' : tmps[2]?.getD undef = .pointer (some ⟨b, 0, none⟩) := by simpa using t2
 have t3' : tmps[3]?.getD undef = u := by simpa using t3
 simp [results, Tryz.results36, go_sem, t2', t3', c0, c1, c2, c3, c4, c5]
theorem filter_rd {n : Nat} (IH : RdIs n) : RdIs (n + 1) := by
 intro dp T A w p v B g hok hN hB hdp hn
 have hN0 := hN
 obtain ⟨a, cap, rfl, _, _, _⟩ := hN0.shape
 obtain ⟨hb1, h0, h1, h2⟩ := rnf w B (Tv.kids T).length cap (Tv.tag T) (Tv.dat T) a _ rfl
 have hlk := (hB.below hb1).look (Tv.tag T) hok.1
 obtain ⟨x0, _⟩ := box1 h0
 obtain ⟨⟨y0, y1, y2⟩, _⟩ := cells3 h1
 dsimp only [rbox, fobj, F.Fd.obj, F.Fd.cs, zfd] at x0 y0 y1 y2 hlk
 have hb1' := hb1
 have hO := rd_body dp T
 obtain ⟨O, hO2⟩ : ∃ O, O = rd (n + 1) dp T := ⟨_, rfl⟩
 rw [<- hO2] at hO ⊢
 cases hk : Gp.kindT (Tv.tag T) with
 | none =>
  rw [hk] at hlk hO
  obtain rfl : O = none := hO
  obtain ⟨W1, hW1⟩ : ∃ W1, W1 = ((w.alloc (.cells #[.map (some B)] 91)).alloc (.cells #[.int .i64 (Tv.tag T), .string (Tv.dat T), .slice a (Tv.kids T).length cap] 28)).alloc (.cells #[.int .i64 0, .string ⟨#[]⟩, .string ⟨#[]⟩, .slice none 0 0, .string ⟨#[]⟩, .slice none 0 0] 25) := ⟨_, rfl⟩
  have HZ' : Hid (Below w.heap.size w W1 /\ W1.heap[w.heap.size + 2]? = some (.cells (F.Fd.cs zfd) 25 (0, 0))) := H_ (by rw [hW1]; exact ⟨hb1, h2⟩)
  have z0 : W1.cell? ⟨w.heap.size + 1, 0, none⟩ = some (.int .i64 (Tv.tag T)) := by rw [hW1]; exact y0
  obtain ⟨⟨c0, c1, c2, c3, c4, c5⟩, g0, g1, g2, g3, g4, g5⟩ := box6 (un HZ').2
  dsimp only [zfd] at c0 c1 c2 c3 c4 c5
  have HW := H_ hW1
  clear hW1 g hok hN hN0 hB IH hb1 h0 h1 h2 hO2 hk hb1' y1 y2
  generalize Tv.tag T = tt at *
  dsimp only [Option.getD, Option.isSome] at hlk
  go_enter Tryz.func59, Tryz.ntmps59
  go_wp2_with fail
  rw [<- un HW]
  clear HW hlk x0 y0
  refine wp_mono (Q := fun e a1 V => match e with | .normal => a1.defers = [] /\ a1.tmps.getD 6 undef = .pointer (some ⟨w.heap.size + 2, 0, none⟩) /\ a1.tmps.getD 7 undef = nok tt /\ V = (set6 W1 (w.heap.size + 2) zfd).drew | _ => False) ?_ ?_
  ·go_region
   all_goals refine ⟨rfl, by simp, by simp, ?_⟩
   all_goals simp only [set6, zfd]
  rintro e ⟨tmps, defers⟩ U hq
  cases e with
  | normal =>
   obtain ⟨hdf, t6, t7, hU⟩ := hq
   dsimp only at hdf t6 t7
   subst hdf
   have HT := H_ (And.intro t6 (And.intro t7 hU))
   clear t6 t7 hU c0 c1 c2 c3 c4 c5 g0 g1 g2 g3 g4 g5 z0
   go_wp2
   obtain ⟨t6, t7, hU⟩ := un HT
   have g0 := set6_blk (un HZ').2 zfd
   have hbX := below_set6 (un HZ').1 (show w.heap.size <= w.heap.size + 2 by omega) zfd
   generalize set6 W1 (w.heap.size + 2) zfd = X at hU g0 hbX
   subst hU
   refine finZ (b := w.heap.size + 2) (d := zfd) (V := X.drew) g0 t6 t7 ?_
   exact ⟨hbX.drew, _, _, _, rfl, IsErr.nok A tt⟩
  | _ => exact hq.elim
 | some k =>
  rw [hk] at hlk hO
  replace hO : O = bodyO dp k T := hO
  dsimp only [Option.getD, Option.isSome] at hlk
  have HC := H_ (body_any IH dp hdp (by omega) k A _ p _ T B (g.next hb1) hok (hN.below hb1) (hB.below hb1))
  rw [<- hO] at HC
  have HZ := H_ (And.intro hb1 h2)
  clear g hok hN hN0 hB IH hb1 h0 h1 h2 hO hO2 hk hb1'
  go_enter Tryz.func59, Tryz.ntmps59
  go_wp2_with fail
  refine (un HC).mono ?_
  rintro e w2 ⟨hb, hp⟩
  have hB2 := (un HZ).1.trans (hb.mono (un HZ).1.size)
  have hq := (hb.block _ (Array.getElem?_eq_some_iff.1 (un HZ).2).1).trans (un HZ).2
  have hlt2 : w.heap.size + 3 <= w2.heap.size := by have := hb.size; simp at this; omega
  have n1 : ¬ w2.heap.size = w.heap.size + 2 := by omega
  have n2 : ¬ w.heap.size + 2 = w2.heap.size := by omega
  have n3 : ¬ w2.heap.size = w.heap.size + 1 + 1 := by omega
  have n4 : ¬ w.heap.size + 1 + 1 = w2.heap.size := by omega
  cases O with
  | none =>
   obtain ⟨⟨dk, da, dv, dsa, dsn, dsc, df, dla, dln, dlc⟩, Ty, y, rfl, hE⟩ := hp
   have hal := (Below.refl w2.heap.size w2).alloc (Nat.le_refl _) (fobj ⟨dk, da, dv, dsa, dsn, dsc, df, dla, dln, dlc⟩)
   have hq2 := (hal.block _ (Array.getElem?_eq_some_iff.1 hq).1).trans hq
   obtain ⟨⟨c0, c1, c2, c3, c4, c5⟩, g0, g1, g2, g3, g4, g5⟩ := box6 hq2
   dsimp only [zfd, fobj, F.Fd.obj, F.Fd.cs] at c0 c1 c2 c3 c4 c5 g0 g1 g2 g3 g4 g5
   have HE := H_ (And.intro (hB2.trans (hal.mono hB2.size)) (And.intro hq2 hE))
   clear hE hb hB2 hq hal hq2 HZ HC x0 y0 y1 y2 hlk
   go_wp2
   obtain ⟨hB3, hq3, hE⟩ := un HE
   change bodyPost _ _ _ _ _ (set6 (w2.alloc (fobj ⟨dk, da, dv, dsa, dsn, dsc, df, dla, dln, dlc⟩)) (w.heap.size + 2) zfd)
   generalize w2.alloc (fobj ⟨dk, da, dv, dsa, dsn, dsc, df, dla, dln, dlc⟩) = X at *
   refine finZ (set6_blk hq3 zfd) rfl rfl ?_
   exact ⟨below_set6 hB3 (show w.heap.size <= w.heap.size + 2 by omega) zfd, _, _, _, rfl, hE.wrap k⟩
  | some f =>
   obtain ⟨⟨dk, da, dv, dsa, dsn, dsc, df, dla, dln, dlc⟩, rfl, hF⟩ := hp
   have hal := (Below.refl w2.heap.size w2).alloc (Nat.le_refl _) (fobj ⟨dk, da, dv, dsa, dsn, dsc, df, dla, dln, dlc⟩)
   have hq2 := (hal.block _ (Array.getElem?_eq_some_iff.1 hq).1).trans hq
   obtain ⟨⟨c0, c1, c2, c3, c4, c5⟩, g0, g1, g2, g3, g4, g5⟩ := box6 hq2
   obtain ⟨⟨d0, d1, d2, d3, d4, d5⟩, _⟩ := box6 (World.alloc_heap_new w2 (fobj ⟨dk, da, dv, dsa, dsn, dsc, df, dla, dln, dlc⟩))
   dsimp only [zfd, fobj, F.Fd.obj, F.Fd.cs] at c0 c1 c2 c3 c4 c5 g0 g1 g2 g3 g4 g5 d0 d1 d2 d3 d4 d5
   have HE := H_ (And.intro (hB2.trans (hal.mono hB2.size)) (And.intro hq2 (And.intro (hF.below hal) (show w.heap.size + 3 <= (w2.alloc (fobj ⟨dk, da, dv, dsa, dsn, dsc, df, dla, dln, dlc⟩)).heap.size by simp; omega))))
   clear hF hb hB2 hq hal hq2 HZ HC x0 y0 y1 y2 hlk
   go_wp2
   obtain ⟨hB3, hq3, hF, hz3⟩ := un HE
   change bodyPost _ _ _ _ _ (set6 (w2.alloc (fobj ⟨dk, da, dv, dsa, dsn, dsc, df, dla, dln, dlc⟩)) (w.heap.size + 2) ⟨dk, da, dv, dsa, dsn, dsc, df, dla, dln, dlc⟩)
   have hbt := set6_but (w2.alloc (fobj ⟨dk, da, dv, dsa, dsn, dsc, df, dla, dln, dlc⟩)) (w.heap.size + 2) ⟨dk, da, dv, dsa, dsn, dsc, df, dla, dln, dlc⟩
   generalize w2.alloc (fobj ⟨dk, da, dv, dsa, dsn, dsc, df, dla, dln, dlc⟩) = X at *
   refine finZ (set6_blk hq3 ⟨dk, da, dv, dsa, dsn, dsc, df, dla, dln, dlc⟩) rfl rfl ?_
   exact ⟨below_set6 hB3 (show w.heap.size <= w.heap.size + 2 by omega) ⟨dk, da, dv, dsa, dsn, dsc, df, dla, dln, dlc⟩, _, rfl, (hF.of fun b h1 h2 => hbt.block b h2 (by simp only [World.size_alloc] at h1; omega)).imp fun b h1 _ => by simp only [World.size_alloc] at h1; omega⟩
theorem rd_any : ∀ n, RdIs n
 | 0 => fun _ T => Empty.elim T
 | n + 1 => filter_rd (rd_any n)
theorem read_rd (n : Nat) (T : Tr n) (A : Ad) (w : World) (p : Nat -> Prop) (v : Value) (g : Glob A w) (hok : okN n T) (hN : Node n w p v T) (hn : n <= 90) :
  Calls Tryz.prog 36 #[v] w (RdP n A (rd n 1 T) w) := by
 have hsh : ∃ tt dd a ll cap, v = .agg #[.int .i64 tt, .string dd, .slice a ll cap] := by
  cases n with
  | zero => exact Empty.elim T
  | succ n =>
   obtain ⟨a, cap, hv, _⟩ := hN.shape
   exact ⟨_, _, _, _, _, hv⟩
 obtain ⟨tt, dd, a, ll, cap, rfl⟩ := hsh
 obtain ⟨W1, hW1⟩ : ∃ W1, W1 = (w.alloc (.cells #[.int .i64 tt, .string dd, .slice a ll cap] 28)).alloc (.cells #[.int .i64 0, .string ⟨#[]⟩, .string ⟨#[]⟩, .slice none 0 0, .string ⟨#[]⟩, .slice none 0 0] 25) := ⟨_, rfl⟩
 have HQ : Hid (Below w.heap.size w W1 /\ W1.heap[w.heap.size]? = some (.cells #[.int .i64 tt, .string dd, .slice a ll cap] 28 (0, 0)) /\ W1.heap[w.heap.size + 1]? = some (.cells (F.Fd.cs zfd) 25 (0, 0))) := H_ (by
  rw [hW1]
  refine ⟨((Below.refl _ _).alloc (Nat.le_refl _) _).alloc (by simp) _, (Below.heap_alloc _ _ _ (by simp)).trans (World.alloc_heap_new w _), ?_⟩
  have := World.alloc_heap_new (w.alloc (.cells #[.int .i64 tt, .string dd, .slice a ll cap] 28)) (fobj zfd)
  rwa [World.size_alloc] at this)
 obtain ⟨O, hO⟩ : ∃ O, O = rd n 1 T := ⟨_, rfl⟩
 have HG := H_ g
 have HK := H_ hok
 have HN := H_ hN
 have HW := H_ hW1
 have rd_any := fun n dp T A w p v B h1 h2 h3 h4 h5 h6 => rd_any n dp T A w p v B h1 h2 h3 h4 h5 h6
 have rd_any := rd_any n 1 T
 rw [<- hO] at rd_any ⊢
 have RD := H_ rd_any
 clear g hok hN hW1 hO rd_any
 go_enter Tryz.func36, Tryz.ntmps36
 go_wp2_with fail
 rw [<- un HW]
 clear HW
 refine wp_region_sw (fun _ => True) (fun w' => w'.cell? ⟨w.heap.size, 0, none⟩ = some (.int .i64 tt) /\ w'.cell? ⟨w.heap.size, 1, none⟩ = some (.string dd) /\ w'.cell? ⟨w.heap.size, 2, none⟩ = some (.slice a ll cap)) 20 (by kernel_rfl) ?_
 have hS0 := (cells3 (w := W1.drew) (un HQ).2.1).1
 have HWV := H_ (show Below W1.heap.size W1 W1.drew from ⟨rfl, rfl, rfl, Nat.le_refl _, fun _ _ => rfl⟩)
 have HQ1 := H_ (show W1.drew.heap[w.heap.size]? = _ from (un HQ).2.1)
 have HQ2 := H_ (show W1.drew.heap[w.heap.size + 1]? = _ from (un HQ).2.2)
 generalize W1.drew = V at *
 change wpAnyS _ _ _ _ _ _ _ 8 #[false, false, false, false, false, false, false, false] _ V
 refine wpAnyS_take1 (i := 2) (v := .agg #[.int .i64 tt, .string dd, .slice a ll cap]) rfl (by kernel_rfl) (by kernel_rfl) (by kernel_rfl) (by kernel_rfl) (fun _ _ _ h => h) (Or.inl ⟨by kernel_rfl, by rintro w1 ⟨s0, s1, s2⟩; go_simp; all_goals first | rfl | omega⟩) ⟨fun _ => trivial, hS0⟩ ?_
 simp only [Act.put, nrm]
 refine wpAnyS_ready (rs := [0]) (by kernel_rfl) (by simp) ?_
 refine AllReadyS.cons rfl (fun K hK => ?_) AllReadyS.nil
 rw [if_pos (by kernel_rfl)]
 go_wp2_with fail
 refine (kinds_any V).mono ?_
 rintro e V1 ⟨rfl, hb, hKd⟩
 have HQ1' := H_ ((hb.block _ (Array.getElem?_eq_some_iff.1 (un HQ1)).1).trans (un HQ1))
 have HQ2' := H_ ((hb.block _ (Array.getElem?_eq_some_iff.1 (un HQ2)).1).trans (un HQ2))
 have hS1 := (cells3 (un HQ1')).1
 have hB1 := (un HQ).1.trans ((un HWV).mono (un HQ).1.size)
 have hB2 := hB1.trans (hb.mono hB1.size)
 obtain ⟨bk, hbk⟩ : ∃ bk, bk = V.heap.size := ⟨_, rfl⟩
 rw [<- hbk] at hKd ⊢
 have HF := H_ ((un RD) A V1 p (.agg #[.int .i64 tt, .string dd, .slice a ll cap]) bk ((un HG).next hB2) (un HK) ((un HN).below hB2) hKd (by decide) hn)
 have HB2 := H_ hB2
 clear hb hKd hB1 hB2 hbk hS0 HQ1 HQ2
 go_wp2
 refine hK.out _ _ ⟨fun _ => trivial, hS1⟩ (fun _ => ?_)
 clear hK K
 simp only [Act.put, nrm]
 refine wpAnyS_take1 (i := 1) (v := .agg #[.map (some bk)]) rfl (by kernel_rfl) (by kernel_rfl) (by kernel_rfl) (by kernel_rfl) (fun _ _ _ h => h) (Or.inl ⟨by kernel_rfl, by rintro w1 ⟨s0, s1, s2⟩; go_simp; all_goals first | rfl | omega⟩) ⟨fun _ => trivial, hS1⟩ ?_
 simp only [Act.put, nrm]
 refine wpAnyS_ready (rs := [3]) (by kernel_rfl) (by simp) ?_
 refine AllReadyS.cons rfl (fun K hK => ?_) AllReadyS.nil
 rw [if_pos (by kernel_rfl)]
 go_wp2_with fail
 refine (un HF).mono ?_
 rintro e V2 ⟨hb, hp⟩
 have HQ1 := H_ ((hb.block _ (Array.getElem?_eq_some_iff.1 (un HQ1')).1).trans (un HQ1'))
 have HQ2 := H_ ((hb.block _ (Array.getElem?_eq_some_iff.1 (un HQ2')).1).trans (un HQ2'))
 have hS2 := (cells3 (un HQ1)).1
 have HB3 := H_ (And.intro ((un HB2).trans (hb.mono (un HB2).size)) (And.intro (un HB2).size (Array.getElem?_eq_some_iff.1 (un HQ2')).1))
 obtain ⟨⟨c0, c1, c2, c3, c4, c5⟩, g0, g1, g2, g3, g4, g5⟩ := box6 (un HQ2)
 dsimp only [zfd] at c0 c1 c2 c3 c4 c5
 clear hb hS1 HQ1' HQ2'
 cases O with
 | none =>
  obtain ⟨⟨dk, da, dv, dsa, dsn, dsc, df, dla, dln, dlc⟩, Ty, y, rfl, hE⟩ := hp
  have HE := H_ hE
  clear hE
  go_wp2
  refine hK.out _ _ ⟨fun _ => trivial, hS2⟩ (fun _ => ?_)
  clear hK K
  simp only [Act.put, nrm]
  refine wpAnyS_take1 (i := 4) (v := .agg #[.int .i64 dk, .string da, .string dv, .slice dsa dsn dsc, .string df, .slice dla dln dlc]) rfl (by kernel_rfl) (by kernel_rfl) (by kernel_rfl) (by kernel_rfl) (fun _ _ _ h => h) (Or.inl ⟨by kernel_rfl, by rintro w1 ⟨s0, s1, s2⟩; go_simp; all_goals first | rfl | omega⟩) ⟨fun _ => trivial, hS2⟩ ?_
  simp only [Act.put, nrm]
  refine wpAnyS_take1 (i := 5) (v := .iface Ty y) rfl (by kernel_rfl) (by kernel_rfl) (by kernel_rfl) (by kernel_rfl) (fun _ _ _ h => h) (Or.inl ⟨by kernel_rfl, by rintro w1 ⟨s0, s1, s2⟩; go_simp; all_goals first | rfl | omega⟩) ⟨fun _ => trivial, hS2⟩ ?_
  simp only [Act.put, nrm]
  refine wpAnyS_ready (rs := [6]) (by kernel_rfl) (by simp) ?_
  refine AllReadyS.cons rfl (fun K hK => ?_) AllReadyS.nil
  rw [if_pos (by kernel_rfl)]
  go_simp
  have hS3 := (cells3 (w := set6 V2 (w.heap.size + 1) ⟨dk, da, dv, dsa, dsn, dsc, df, dla, dln, dlc⟩) (((set6_but V2 (w.heap.size + 1) ⟨dk, da, dv, dsa, dsn, dsc, df, dla, dln, dlc⟩).block w.heap.size (Array.getElem?_eq_some_iff.1 (un HQ1)).1 (by omega)).trans (un HQ1))).1
  dsimp only [set6] at hS3
  refine hK.out _ _ ⟨fun _ => trivial, hS3⟩ (fun _ => ?_)
  clear hK K
  simp only [Act.put, nrm]
  refine wpAnyS_take1 (i := 7) (v := .iface Ty y) rfl (by kernel_rfl) (by kernel_rfl) (by kernel_rfl) (by kernel_rfl) (fun _ _ _ h => h) (Or.inl ⟨by kernel_rfl, by rintro w1 ⟨s0, s1, s2⟩; go_simp; all_goals first | rfl | omega⟩) ⟨fun _ => trivial, hS3⟩ ?_
  simp only [Act.put, nrm]
  refine wpAnyS_done (by kernel_rfl) ?_ _
  simp only [onlyS]
  go_wp2
  change bodyPost _ _ _ _ _ (set6 V2 (w.heap.size + 1) ⟨dk, da, dv, dsa, dsn, dsc, df, dla, dln, dlc⟩)
  exact finR (set6_blk (un HQ2) ⟨dk, da, dv, dsa, dsn, dsc, df, dla, dln, dlc⟩) rfl rfl ⟨below_set6 (un HB3).1 (Nat.le_succ _) ⟨dk, da, dv, dsa, dsn, dsc, df, dla, dln, dlc⟩, _, _, _, rfl, un HE⟩
 | some f =>
  obtain ⟨⟨dk, da, dv, dsa, dsn, dsc, df, dla, dln, dlc⟩, rfl, hF⟩ := hp
  have HFn := H_ hF
  clear hF
  go_wp2
  refine hK.out _ _ ⟨fun _ => trivial, hS2⟩ (fun _ => ?_)
  clear hK K
  simp only [Act.put, nrm]
  refine wpAnyS_take1 (i := 4) (v := .agg #[.int .i64 dk, .string da, .string dv, .slice dsa dsn dsc, .string df, .slice dla dln dlc]) rfl (by kernel_rfl) (by kernel_rfl) (by kernel_rfl) (by kernel_rfl) (fun _ _ _ h => h) (Or.inl ⟨by kernel_rfl, by rintro w1 ⟨s0, s1, s2⟩; go_simp; all_goals first | rfl | omega⟩) ⟨fun _ => trivial, hS2⟩ ?_
  simp only [Act.put, nrm]
  refine wpAnyS_take1 (i := 5) (v := .nilIface) rfl (by kernel_rfl) (by kernel_rfl) (by kernel_rfl) (by kernel_rfl) (fun _ _ _ h => h) (Or.inl ⟨by kernel_rfl, by rintro w1 ⟨s0, s1, s2⟩; go_simp; all_goals first | rfl | omega⟩) ⟨fun _ => trivial, hS2⟩ ?_
  simp only [Act.put, nrm]
  refine wpAnyS_ready (rs := [6]) (by kernel_rfl) (by simp) ?_
  refine AllReadyS.cons rfl (fun K hK => ?_) AllReadyS.nil
  rw [if_pos (by kernel_rfl)]
  go_simp
  have hS3 := (cells3 (w := set6 V2 (w.heap.size + 1) ⟨dk, da, dv, dsa, dsn, dsc, df, dla, dln, dlc⟩) (((set6_but V2 (w.heap.size + 1) ⟨dk, da, dv, dsa, dsn, dsc, df, dla, dln, dlc⟩).block w.heap.size (Array.getElem?_eq_some_iff.1 (un HQ1)).1 (by omega)).trans (un HQ1))).1
  dsimp only [set6] at hS3
  refine hK.out _ _ ⟨fun _ => trivial, hS3⟩ (fun _ => ?_)
  clear hK K
  simp only [Act.put, nrm]
  refine wpAnyS_take1 (i := 7) (v := .nilIface) rfl (by kernel_rfl) (by kernel_rfl) (by kernel_rfl) (by kernel_rfl) (fun _ _ _ h => h) (Or.inl ⟨by kernel_rfl, by rintro w1 ⟨s0, s1, s2⟩; go_simp; all_goals first | rfl | omega⟩) ⟨fun _ => trivial, hS3⟩ ?_
  simp only [Act.put, nrm]
  refine wpAnyS_done (by kernel_rfl) ?_ _
  simp only [onlyS]
  go_wp2
  change bodyPost _ _ _ _ _ (set6 V2 (w.heap.size + 1) ⟨dk, da, dv, dsa, dsn, dsc, df, dla, dln, dlc⟩)
  have hbt := set6_but V2 (w.heap.size + 1) ⟨dk, da, dv, dsa, dsn, dsc, df, dla, dln, dlc⟩
  obtain ⟨hB3, hlo, hlt⟩ := un HB3
  exact finR (set6_blk (un HQ2) ⟨dk, da, dv, dsa, dsn, dsc, df, dla, dln, dlc⟩) rfl rfl ⟨below_set6 hB3 (Nat.le_succ _) ⟨dk, da, dv, dsa, dsn, dsc, df, dla, dln, dlc⟩, _, rfl, ((un HFn).of fun b h1 h2 => hbt.block b h2 (by omega)).imp fun b h1 _ => by omega⟩
end Go.Proofs.YtmenllnokgjdlaaGreatDoor.G
