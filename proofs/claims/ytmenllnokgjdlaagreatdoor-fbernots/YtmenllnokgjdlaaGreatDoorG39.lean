/- Several texts in one: TvBack, GDoorD, GLaid, FDoor, GShown, GNotsLaw, GNotsShut, GNotsCard. Each says what it proves, and its conditions. -/
import Derived.Test.YtmenllnokgjdlaaGreatDoorG38
import Derived.Test.YtmenllnokgjdlaaGreatDoorCards
import Derived.Test.YtmenllnokgjdlaaGreatDoorTie
import Derived.ProofKit
import Derived.OpenShut
import Derived.Deep.DeepHandedRow
import Derived.Stop.LaidTwo
set_option linter.unusedSimpArgs false
set_option maxHeartbeats 8000000
set_option maxRecDepth 100000
/-
 What is read of the bytes of a right tree, and of what was read: plain mathematics; no program. Conditions: none.
-/
namespace Tv
theorem headT_err {l : List UInt8} {p stop : Nat} {E : Int} (h : headT l p stop = .error E) : E ≠ 0 := by
 unfold headT at h
 split at h
 ·cases h; omega
 ·split at h
  ·cases h; omega
  ·split at h
   next hne => cases h; exact hne
   next => split at h
       ·cases h; omega
       ·cases h
theorem readL_err {α : Type} {rd : Nat -> Nat -> Except Int (α × Nat × Nat)} (hr : ∀ p c E, rd p c = .error E -> E ≠ 0) : ∀ (f p stop c : Nat) (E : Int), readL rd f p stop c = .error E -> E ≠ 0
 | 0, p, stop, c, E, h => by cases h
 | f + 1, p, stop, c, E, h => by
  unfold readL at h
  split at h
  ·split at h
   next e he => cases h; exact hr _ _ _ he
   next x nx c' he =>
    split at h
    next e he2 => cases h; exact readL_err hr f _ _ _ _ he2
    next => cases h
  ·cases h
theorem readT_err (l : List UInt8) : ∀ (k p stop c : Nat) (E : Int), readT l k p stop c = .error E -> E ≠ 0
 | 0, p, stop, c, E, h => by cases h; omega
 | k + 1, p, stop, c, E, h => by
  unfold readT at h
  split at h
  ·cases h; omega
  ·split at h
   next e he => cases h; exact headT_err he
   next t a b he =>
    split at h
    ·split at h
     next e he2 => cases h; exact readL_err (fun q c' E hq => readT_err l k q b c' E hq) _ _ _ _ _ he2
     next => cases h
    ·cases h
theorem dec_err {l : List UInt8} {p E : Int} (h : decT l p = .error E) : E ≠ 0 := by
 unfold decT at h
 split at h
 next hp =>
  split at h
  next e he => cases h; exact readT_err l 12 _ _ _ _ he
  next T' nx' c' hr =>
   split at h
   next => cases h
   next => cases h; omega
 next => cases h; omega
end Tv
/-
 What fber.Read and fber.Decode answer. Conditions: tags are numbers of the machine, data and texts have at most 2000 bytes; the package-level variables hold what the program's text lays.
-/
namespace Go.Proofs.YtmenllnokgjdlaaGreatDoor.G
open Go Go.RowKit Go.Shelf Gp
open D (H_ un)
open F (At FNode box6 box1 set6 set6_blk set6_but zfd)
open Fp (Fl)
open Tv (Tr)
attribute [local go_sem] Oper.semAt_some
def ReadPost (n : Nat) (o : Option (Fl n)) (w : World) (e : Ending) (w' : World) : Prop := Below w.heap.size w w' /\ match o with
 | some f => ∃ d : FD, e = .returned (.tuple #[F.Fd.val d, .int .i64 0]) /\ FNode n w' (fun b => w.heap.size <= b) d f
 | none => e = .returned (.tuple #[F.Fd.val zfd, .int .i64 80])
theorem finQ {b : Nat} {V : World} {tmps : Array Value} {d : FD} {u : Value} {R : Ending -> World -> Prop} (h0 : V.heap[b]? = some (.cells (F.Fd.cs d) 25 (0, 0)))
  (t2 : tmps.getD 2 undef = .pointer (some ⟨b, 0, none⟩)) (t3 : tmps.getD 3 undef = u) (hp : R (.returned (.tuple #[F.Fd.val d, u])) V) :
  bodyPost Tryz.prog Tryz.f16 R Exit.ret { tmps, defers := [] } V := by
 refine ⟨rfl, .tuple #[F.Fd.val d, u], ?_, hp⟩
 obtain ⟨⟨c0, c1, c2, c3, c4, c5⟩, _⟩ := box6 h0
 have t2' : tmps[2]?.getD undef = .pointer (some ⟨b, 0, none⟩) := by simpa using t2
 have t3' : tmps[3]?.getD undef = u := by simpa using t3
 simp [results, Tryz.results16, go_sem, t2', t3', c0, c1, c2, c3, c4, c5]
theorem finD {b : Nat} {V : World} {tmps : Array Value} {d : FD} {u : Value} {R : Ending -> World -> Prop} (h0 : V.heap[b]? = some (.cells (F.Fd.cs d) 25 (0, 0)))
  (t2 : tmps.getD 2 undef = .pointer (some ⟨b, 0, none⟩)) (t3 : tmps.getD 3 undef = u) (hp : R (.returned (.tuple #[F.Fd.val d, u])) V) :
  bodyPost Tryz.prog Tryz.f20 R Exit.ret { tmps, defers := [] } V := by
 refine ⟨rfl, .tuple #[F.Fd.val d, u], ?_, hp⟩
 obtain ⟨⟨c0, c1, c2, c3, c4, c5⟩, _⟩ := box6 h0
 have t2' : tmps[2]?.getD undef = .pointer (some ⟨b, 0, none⟩) := by simpa using t2
 have t3' : tmps[3]?.getD undef = u := by simpa using t3
 simp [results, Tryz.results20, go_sem, t2', t3', c0, c1, c2, c3, c4, c5]
theorem read_door (n : Nat) (T : Tr n) (A : Ad) (w : World) (p : Nat -> Prop) (v : Value) (g : Glob A w) (hok : okN n T) (hN : Node n w p v T) (hn : n <= 90) :
  Calls Tryz.prog 16 #[v] w (ReadPost n (rd n 1 T) w) := by
 have hsh : ∃ tt dd a ll cap, v = .agg #[.int .i64 tt, .string dd, .slice a ll cap] := by
  cases n with
  | zero => exact Empty.elim T
  | succ n =>
   obtain ⟨a, cap, hv, _⟩ := hN.shape
   exact ⟨_, _, _, _, _, hv⟩
 obtain ⟨tt, dd, a, ll, cap, rfl⟩ := hsh
 have hb0 : Below w.heap.size w ((w.alloc (.cells #[.int .i64 tt, .string dd, .slice a ll cap] 28)).alloc (fobj zfd)) := ((Below.refl _ _).alloc (Nat.le_refl _) _).alloc (by simp) _
 have q0 : ((w.alloc (.cells #[.int .i64 tt, .string dd, .slice a ll cap] 28)).alloc (fobj zfd)).heap[w.heap.size]? = some (.cells #[.int .i64 tt, .string dd, .slice a ll cap] 28 (0, 0)) := (Below.heap_alloc _ _ _ (by simp)).trans (World.alloc_heap_new w _)
 have q1 : ((w.alloc (.cells #[.int .i64 tt, .string dd, .slice a ll cap] 28)).alloc (fobj zfd)).heap[w.heap.size + 1]? = some (.cells (F.Fd.cs zfd) 25 (0, 0)) := by
  have := World.alloc_heap_new (w.alloc (.cells #[.int .i64 tt, .string dd, .slice a ll cap] 28)) (fobj zfd)
  rwa [World.size_alloc] at this
 have HR := H_ (read_rd n T A _ p _ (g.next hb0) hok (hN.below hb0) hn)
 obtain ⟨⟨x0, x1, x2⟩, _⟩ := cells3 q0
 dsimp only [fobj, F.Fd.obj, F.Fd.cs, zfd] at x0 x1 x2
 have HQ := H_ (And.intro hb0 q1)
 have HG := H_ g
 obtain ⟨O, hO⟩ : ∃ O, O = rd n 1 T := ⟨_, rfl⟩
 rw [<- hO] at HR ⊢
 clear g hok hN hb0 q0 q1 hO
 go_enter Tryz.func16, Tryz.ntmps16
 go_wp2_with fail
 refine (un HR).mono ?_
 rintro e w2 ⟨hb, hp⟩
 have hB2 := (un HQ).1.trans (hb.mono (un HQ).1.size)
 have hq := (hb.block _ (Array.getElem?_eq_some_iff.1 (un HQ).2).1).trans (un HQ).2
 have hlt2 : w.heap.size + 2 <= w2.heap.size := by have := hb.size; simp at this; omega
 have n1 : ¬ w2.heap.size = w.heap.size + 1 := by omega
 have n2 : ¬ w.heap.size + 1 = w2.heap.size := by omega
 cases O with
 | none =>
  obtain ⟨⟨dk, da, dv, dsa, dsn, dsc, df, dla, dln, dlc⟩, Ty, y, rfl, hE⟩ := hp
  have hal := (Below.refl w2.heap.size w2).alloc (Nat.le_refl _) (fobj ⟨dk, da, dv, dsa, dsn, dsc, df, dla, dln, dlc⟩)
  have hB3 := hB2.trans (hal.mono hB2.size)
  have hq3 := (hal.block _ (Array.getElem?_eq_some_iff.1 hq).1).trans hq
  have HO := H_ (errnoOf_any (.iface Ty y) A _ ((un HG).next hB3) hE)
  have HZ := H_ (And.intro hB3 hq3)
  clear hE hb hB2 hq hal hB3 hq3 HR HQ HG x0 x1 x2
  go_wp2_with fail
  refine (un HO).mono ?_
  rintro e w3 ⟨rfl, hb⟩
  have hB4 := (un HZ).1.trans (hb.mono (un HZ).1.size)
  have hq4 := (hb.block _ (Array.getElem?_eq_some_iff.1 (un HZ).2).1).trans (un HZ).2
  obtain ⟨⟨c0, c1, c2, c3, c4, c5⟩, g0, g1, g2, g3, g4, g5⟩ := box6 hq4
  dsimp only [zfd] at c0 c1 c2 c3 c4 c5
  have HY := H_ (And.intro hB4 hq4)
  clear hb hB4 hq4 HZ HO
  go_wp2
  change bodyPost _ _ _ _ _ (set6 w3 (w.heap.size + 1) zfd)
  refine finQ (set6_blk (un HY).2 zfd) rfl rfl ?_
  exact ⟨below_set6 (un HY).1 (Nat.le_succ _) zfd, rfl⟩
 | some f =>
  obtain ⟨⟨dk, da, dv, dsa, dsn, dsc, df, dla, dln, dlc⟩, rfl, hF⟩ := hp
  have hal := (Below.refl w2.heap.size w2).alloc (Nat.le_refl _) (fobj ⟨dk, da, dv, dsa, dsn, dsc, df, dla, dln, dlc⟩)
  have hB3 := hB2.trans (hal.mono hB2.size)
  have hq3 := (hal.block _ (Array.getElem?_eq_some_iff.1 hq).1).trans hq
  obtain ⟨⟨c0, c1, c2, c3, c4, c5⟩, g0, g1, g2, g3, g4, g5⟩ := box6 hq3
  obtain ⟨⟨d0, d1, d2, d3, d4, d5⟩, _⟩ := box6 (World.alloc_heap_new w2 (fobj ⟨dk, da, dv, dsa, dsn, dsc, df, dla, dln, dlc⟩))
  dsimp only [zfd, fobj, F.Fd.obj, F.Fd.cs] at c0 c1 c2 c3 c4 c5 g0 g1 g2 g3 g4 g5 d0 d1 d2 d3 d4 d5
  have HE := H_ (And.intro hB3 (And.intro hq3 (hF.below hal)))
  clear hF hb hB2 hq hal hB3 hq3 HR HQ HG x0 x1 x2
  go_wp2
  obtain ⟨hB3, hq3, hF⟩ := un HE
  change bodyPost _ _ _ _ _ (set6 (w2.alloc (fobj ⟨dk, da, dv, dsa, dsn, dsc, df, dla, dln, dlc⟩)) (w.heap.size + 1) ⟨dk, da, dv, dsa, dsn, dsc, df, dla, dln, dlc⟩)
  have hbt := set6_but (w2.alloc (fobj ⟨dk, da, dv, dsa, dsn, dsc, df, dla, dln, dlc⟩)) (w.heap.size + 1) ⟨dk, da, dv, dsa, dsn, dsc, df, dla, dln, dlc⟩
  generalize w2.alloc (fobj ⟨dk, da, dv, dsa, dsn, dsc, df, dla, dln, dlc⟩) = X at *
  refine finQ (set6_blk hq3 ⟨dk, da, dv, dsa, dsn, dsc, df, dla, dln, dlc⟩) rfl rfl ?_
  exact ⟨below_set6 hB3 (Nat.le_succ _) ⟨dk, da, dv, dsa, dsn, dsc, df, dla, dln, dlc⟩, _, rfl, (hF.of fun b h1 h2 => hbt.block b h2 (by simp only [World.size_alloc] at h1; omega)).imp fun b h1 _ => by simp only [World.size_alloc] at h1; omega⟩
theorem head_tag {l : List UInt8} {p stop t a b : Nat} (h : Tv.headT l p stop = .ok (t, a, b)) : t < 256 := by
 unfold Tv.headT at h
 split at h
 ·cases h
 ·split at h
  ·cases h
  ·split at h
   ·cases h
   ·split at h
    ·cases h
    ·cases h
     exact UInt8.toNat_lt _
theorem ok_readL {l : List UInt8} {k : Nat} {q : Nat} (IH : ∀ p stop c T nx c', Tv.readT l k p stop c = .ok (T, nx, c') -> okN (k + 1) T) (stop : Nat) : ∀ (f p c : Nat) (ts : List (Tr (k + 1))) (c' : Nat), Tv.readL (fun q c' => Tv.readT l k q stop c') f p q c = .ok (ts, c') -> ∀ T ∈ ts, okN (k + 1) T
 | 0, p, c, ts, c', h => by cases h; intro T hT; cases hT
 | f + 1, p, c, ts, c', h => by
  rw [Tv.readL] at h
  split at h
  ·cases h1 : Tv.readT l k p stop c with
   | error e => rw [h1] at h; cases h
   | ok r =>
    obtain ⟨x, nx, c1⟩ := r
    rw [h1] at h
    simp only at h
    cases h2 : Tv.readL (fun q c' => Tv.readT l k q stop c') f nx q c1 with
    | error e => rw [h2] at h; cases h
    | ok r =>
     obtain ⟨xs, c2⟩ := r
     rw [h2] at h
     cases h
     intro T hT
     rcases List.mem_cons.1 hT with rfl | hT
     ·exact IH _ _ _ _ _ _ h1
     ·exact ok_readL IH stop f _ _ _ _ h2 T hT
  ·cases h; intro T hT; cases hT
theorem wf_small {t : Nat} (h : t < 256) : (Lit.int .i64 (t : Int)).wf = true := by
 have : ∀ t : Fin 256, (Lit.int .i64 (t.val : Int)).wf = true := by decide +kernel
 exact this ⟨t, h⟩
theorem ok_readT {l : List UInt8} (hl : l.length <= 2000) : ∀ (k p stop c : Nat) (T : Tr (k + 1)) (nx c' : Nat), Tv.readT l k p stop c = .ok (T, nx, c') -> okN (k + 1) T
 | 0, p, stop, c, T, nx, c', h => by cases h
 | k + 1, p, stop, c, T, nx, c', h => by
  rw [Tv.readT] at h
  split at h
  ·cases h
  ·cases h1 : Tv.headT l p stop with
   | error e => rw [h1] at h; cases h
   | ok r =>
    obtain ⟨t, a, b⟩ := r
    rw [h1] at h
    simp only at h
    have ht := head_tag h1
    split at h
    ·cases h2 : Tv.readL (fun q c' => Tv.readT l k q b c') (b - a) a b (c + 1) with
     | error e => rw [h2] at h; cases h
     | ok r =>
      obtain ⟨ks, c2⟩ := r
      rw [h2] at h
      cases h
      exact ⟨wf_small ht, Nat.zero_le _, ok_readL (fun p stop c T nx c' h => ok_readT hl k p stop c T nx c' h) _ _ _ _ _ _ h2⟩
    ·cases h
     refine ⟨wf_small ht, ?_, fun x hx => by cases hx⟩
     show (List.toArray _).size <= 2000
     simp
     omega
theorem ok_whole {l : List UInt8} (hl : l.length <= 2000) {T : Tr 13} (h : Tv.wholeT l = .ok T) : okN 13 T := by
 have key : ∀ T' nx, Tv.decT l 0 = .ok (T', nx) -> okN 13 T' := by
  intro T' nx h1
  unfold Tv.decT at h1
  split at h1
  ·cases h2 : Tv.readT l 12 (0 : Int).toNat l.length 0 with
   | error e => rw [h2] at h1; cases h1
   | ok r =>
    obtain ⟨T2, nx2, c2⟩ := r
    rw [h2] at h1
    simp only at h1
    split at h1
    ·cases h1
     exact ok_readT hl 12 _ _ _ _ _ _ h2
    ·cases h1
  ·cases h1
 unfold Tv.wholeT at h
 cases h1 : Tv.decT l 0 with
 | error e => rw [h1] at h; cases h
 | ok r =>
  obtain ⟨T', nx⟩ := r
  rw [h1] at h
  simp only at h
  split at h
  ·cases h
  ·cases h
   exact key _ _ h1
theorem err_ne {l : List UInt8} {E : Int} (h : Tv.wholeT l = .error E) : E ≠ 0 := by
 unfold Tv.wholeT at h
 cases h1 : Tv.decT l 0 with
 | error e =>
  rw [h1] at h
  cases h
  exact Tv.dec_err h1
 | ok r =>
  obtain ⟨T', nx⟩ := r
  rw [h1] at h
  simp only at h
  split at h
  ·cases h
   decide
  ·cases h
def decO (l : List UInt8) : Option (Fl 13) := match Tv.wholeT l with
 | .error _ => none
 | .ok T => rd 13 1 T
theorem decode_door (s : ByteArray) (A : Ad) (w : World) (g : Glob A w) (hs : s.size <= 2000) :
  Calls Tryz.prog 20 #[.string s] w (ReadPost 13 (decO s.data.toList) w) := by
 have hb0 : Below w.heap.size w (w.alloc (fobj zfd)) := (Below.refl _ _).alloc (Nat.le_refl _) _
 have q1 : (w.alloc (fobj zfd)).heap[w.heap.size]? = some (.cells (F.Fd.cs zfd) 25 (0, 0)) := World.alloc_heap_new _ _
 have HR := H_ (whole_any s A.t A.aS A.aF _ (g.next hb0).gt (by omega))
 have hsl : s.data.toList.length <= 2000 := by rw [Array.length_toList]; exact hs
 have HOk := H_ fun T (h : Tv.wholeT s.data.toList = .ok T) => ok_whole hsl h
 have HQ := H_ (And.intro hb0 q1)
 have HG := H_ g
 clear g hb0 q1 hsl hs
 obtain ⟨O, hO⟩ : ∃ O, O = decO s.data.toList := ⟨_, rfl⟩
 rw [<- hO]
 unfold decO at hO
 have HO' := H_ hO
 clear hO
 go_enter Tryz.func20, Tryz.ntmps20
 go_wp2_with fail
 refine (un HR).mono ?_
 rintro e w2 ⟨hb, hp⟩
 have hB2 := (un HQ).1.trans (hb.mono (un HQ).1.size)
 have hq := (hb.block _ (Array.getElem?_eq_some_iff.1 (un HQ).2).1).trans (un HQ).2
 have hlt2 : w.heap.size + 1 <= w2.heap.size := by have := hb.size; simp at this; omega
 have n1 : ¬ w2.heap.size = w.heap.size := by omega
 have n2 : ¬ w.heap.size = w2.heap.size := by omega
 have hO := un HO'
 clear HO'
 cases hw : Tv.wholeT s.data.toList with
 | error E =>
  rw [hw] at hp hO
  subst hO
  obtain rfl := hp
  have hne : E ≠ 0 := err_ne hw
  have bE : (E != 0) = true := by simpa using hne
  have hal := (Below.refl w2.heap.size w2).alloc (Nat.le_refl _) znObj
  have hB3 := hB2.trans (hal.mono hB2.size)
  have hq3 := (hal.block _ (Array.getElem?_eq_some_iff.1 hq).1).trans hq
  have HO := H_ (errnoOf_any (nov E) A _ ((un HG).next hB3) (IsErr.nov A E))
  have HZ := H_ (And.intro hB3 hq3)
  clear hb hB2 hq hal hB3 hq3 HR HQ HG HOk hw hne
  go_wp2_with fail
  refine (un HO).mono ?_
  rintro e w3 ⟨rfl, hb⟩
  have hB4 := (un HZ).1.trans (hb.mono (un HZ).1.size)
  have hq4 := (hb.block _ (Array.getElem?_eq_some_iff.1 (un HZ).2).1).trans (un HZ).2
  obtain ⟨⟨c0, c1, c2, c3, c4, c5⟩, g0, g1, g2, g3, g4, g5⟩ := box6 hq4
  dsimp only [zfd] at c0 c1 c2 c3 c4 c5
  have HY := H_ (And.intro hB4 hq4)
  clear hb hB4 hq4 HZ HO
  go_wp2
  change bodyPost _ _ _ _ _ (set6 w3 w.heap.size zfd)
  refine finD (set6_blk (un HY).2 zfd) rfl rfl ?_
  exact ⟨below_set6 (un HY).1 (Nat.le_refl _) zfd, rfl⟩
 | ok T =>
  rw [hw] at hp hO
  obtain ⟨v, rfl, hNd⟩ := hp
  obtain ⟨ka, kc, rfl, _, _, _⟩ := hNd.shape
  have hal := (Below.refl w2.heap.size w2).alloc (Nat.le_refl _) (.cells #[.int .i64 (Tv.tag T), .string (Tv.dat T), .slice ka (Tv.kids T).length kc] 28)
  have hB3 := hB2.trans (hal.mono hB2.size)
  have hq3 := (hal.block _ (Array.getElem?_eq_some_iff.1 hq).1).trans hq
  have HRd := H_ (read_door 13 T A _ _ _ ((un HG).next hB3) ((un HOk) T hw) (hNd.below hal) (by decide))
  rw [show rd 13 1 T = O from hO.symm] at HRd
  have HZ := H_ (And.intro hB3 hq3)
  obtain ⟨⟨d0, d1, d2⟩, _⟩ := cells3 (World.alloc_heap_new w2 (.cells #[.int .i64 (Tv.tag T), .string (Tv.dat T), .slice ka (Tv.kids T).length kc] 28))
  have hsz : (w2.alloc (.cells #[.int .i64 (Tv.tag T), .string (Tv.dat T), .slice ka (Tv.kids T).length kc] 28)).heap.size = w2.heap.size + 1 := by simp
  have HSz := H_ hsz
  clear hb hB2 hq hal hB3 hq3 HR HQ HG HOk hw hNd hO hsz
  go_wp2_with fail
  refine (un HRd).mono ?_
  rintro e w3 ⟨hb, hp⟩
  have hB4 := (un HZ).1.trans (hb.mono (un HZ).1.size)
  have hq4 := (hb.block _ (Array.getElem?_eq_some_iff.1 (un HZ).2).1).trans (un HZ).2
  have hz3 := hb.size
  rw [un HSz] at hz3
  obtain ⟨⟨c0, c1, c2, c3, c4, c5⟩, g0, g1, g2, g3, g4, g5⟩ := box6 hq4
  dsimp only [zfd] at c0 c1 c2 c3 c4 c5
  have HY := H_ (And.intro hB4 hq4)
  clear hb hB4 hq4 HZ HRd d0 d1 d2
  cases O with
  | none =>
   obtain rfl := hp
   go_wp2
   change bodyPost _ _ _ _ _ (set6 w3 w.heap.size zfd)
   refine finD (set6_blk (un HY).2 zfd) rfl rfl ?_
   exact ⟨below_set6 (un HY).1 (Nat.le_refl _) zfd, rfl⟩
  | some f =>
   obtain ⟨⟨dk, da, dv, dsa, dsn, dsc, df, dla, dln, dlc⟩, rfl, hF⟩ := hp
   have HF := H_ hF
   clear hF
   go_wp2
   change bodyPost _ _ _ _ _ (set6 w3 w.heap.size ⟨dk, da, dv, dsa, dsn, dsc, df, dla, dln, dlc⟩)
   have hbt := set6_but w3 w.heap.size ⟨dk, da, dv, dsa, dsn, dsc, df, dla, dln, dlc⟩
   refine finD (set6_blk (un HY).2 ⟨dk, da, dv, dsa, dsn, dsc, df, dla, dln, dlc⟩) rfl rfl ?_
   exact ⟨below_set6 (un HY).1 (Nat.le_refl _) ⟨dk, da, dv, dsa, dsn, dsc, df, dla, dln, dlc⟩, _, rfl, ((un HF).of fun b h1 h2 => hbt.block b h2 (by rw [un HSz] at h1; omega)).imp fun b h1 _ => by rw [un HSz] at h1; omega⟩
end Go.Proofs.YtmenllnokgjdlaaGreatDoor.G
/-
 What the rows' list of variables gives a walk ('Glob'), and a world that holds it. Conditions: none.
-/
namespace Go.Proofs.YtmenllnokgjdlaaGreatDoor.G
open Go Go.ChangeShapes Go.WideShapes Go.ChangeAt Go.RowKit
theorem laid_first {P : Program} {n0 nm : String} {text0 : List UInt8} {r : List (String × DataW Unit)} {W : World} {ps : List MemPlace} {g0 : Nat} {ti tp te ts : TypeId} {ms : Array (String × TypeId)} {f : Field}
  (h : DataW.LaidVars P W ((n0, .iface nm (.ptr (.agg [.lit (.string text0)]))) :: r) ps)
  (hrows : ∀ b off, MemPlace.cell b off ∈ ps -> (∃ c t, W.heap[b]? = some (.cells c t (0, 0))) /\ ∀ u v, W.cell? ⟨b, off, none⟩ = some (.iface u v) -> Value.okWide P W .any 0 u v)
  (hg0 : P.globalNamed n0 = some g0) (ht0 : (P.globals[g0]?).map (·.type) = some ti)
  (hi : P.underlying ti = some (.interface ms)) (hrow : ∀ u, P.typeName? 3 u = some nm -> u = tp)
  (hp : P.underlying tp = some (.pointer te)) (he : P.underlying te = some (.struct #[f])) (hft : f.type = ts) (hfo : f.offset = 0) (hs : P.underlying ts = some .string) (hc : P.cellsOf te = 1) (hcs : P.cellsOf ts = 1) :
  ∃ (a : Addr) (c : Array Value) (t : TypeId) (ps' : List MemPlace), W.var? P n0 = some #[.iface tp (.pointer (some a))] /\ W.heap[a.block]? = some (.cells c t (0, 0)) /\ ps = .cell g0 0 :: .cell a.block a.off :: ps' /\ DataW.LaidVars P W r ps' := by
 obtain ⟨g0', t0', cs0, f0, p0, q0, hg0', ht0', hv0, hd0, hrest, e0⟩ := h
 obtain rfl := Option.some.inj (hg0.symm.trans hg0')
 obtain rfl := Option.some.inj (ht0.symm.trans ht0')
 subst e0
 obtain ⟨l0⟩ := cs0
 have ok0 : ∀ u v, l0 = [.iface u v] -> Value.okWide P W .any 0 u v := fun u v e => by
  subst e
  exact (hrows g0 0 (by simp [MemPlace.row])).2 u v (by simpa using World.var?_cell hg0' hv0 0)
 obtain ⟨a0, s0, rfl, hc0, hs0, hz0, rfl⟩ := errorString_of_trod hi hrow hp he hft hfo hs hc hcs hd0 ok0
 obtain ⟨c0, t0, hb0⟩ := (hrows a0.block a0.off (by simp [MemPlace.row])).1
 exact ⟨a0, c0, t0, q0, hv0, hb0, by simp [MemPlace.row], hrest⟩
theorem own : ownKnob Tryz.prog.godebug = none := by kernel_rfl
theorem gTy : Tryz.prog.globalNamed "errors.errorType" = some 15 := by kernel_rfl
theorem g0N : Tryz.prog.globalNamed "latiner/size.errShort" = some 20 := by kernel_rfl
theorem g0T : (Tryz.prog.globals[20]?).map (·.type) = some 52 := by kernel_rfl
theorem g1N : Tryz.prog.globalNamed "latiner/size.errForm" = some 18 := by kernel_rfl
theorem g1T : (Tryz.prog.globals[18]?).map (·.type) = some 52 := by kernel_rfl
theorem g2N : Tryz.prog.globalNamed "latiner/filt.errDeep" = some 5 := by kernel_rfl
theorem g2T : (Tryz.prog.globals[5]?).map (·.type) = some 52 := by kernel_rfl
theorem g3N : Tryz.prog.globalNamed "latiner/filt.errCount" = some 6 := by kernel_rfl
theorem g3T : (Tryz.prog.globals[6]?).map (·.type) = some 52 := by kernel_rfl
theorem g4N : Tryz.prog.globalNamed "latiner/filt.errName" = some 7 := by kernel_rfl
theorem g4T : (Tryz.prog.globals[7]?).map (·.type) = some 52 := by kernel_rfl
theorem g5N : Tryz.prog.globalNamed "latiner/filt.errLong" = some 8 := by kernel_rfl
theorem g5T : (Tryz.prog.globals[8]?).map (·.type) = some 52 := by kernel_rfl
theorem g6N : Tryz.prog.globalNamed "latiner/filt.errField" = some 9 := by kernel_rfl
theorem g6T : (Tryz.prog.globals[9]?).map (·.type) = some 52 := by kernel_rfl
theorem g7N : Tryz.prog.globalNamed "latiner/filt.errSign" = some 10 := by kernel_rfl
theorem g7T : (Tryz.prog.globals[10]?).map (·.type) = some 52 := by kernel_rfl
theorem g8N : Tryz.prog.globalNamed "latiner/filt.errMore" = some 11 := by kernel_rfl
theorem g8T : (Tryz.prog.globals[11]?).map (·.type) = some 52 := by kernel_rfl
theorem g9N : Tryz.prog.globalNamed "latiner/tlv.errShort" = some 16 := by kernel_rfl
theorem g9T : (Tryz.prog.globals[16]?).map (·.type) = some 52 := by kernel_rfl
theorem g10N : Tryz.prog.globalNamed "latiner/tlv.errTag" = some 17 := by kernel_rfl
theorem g10T : (Tryz.prog.globals[17]?).map (·.type) = some 52 := by kernel_rfl
theorem g11N : Tryz.prog.globalNamed "latiner/tlv.errMore" = some 4 := by kernel_rfl
theorem g11T : (Tryz.prog.globals[4]?).map (·.type) = some 52 := by kernel_rfl
theorem g12N : Tryz.prog.globalNamed "latiner/tlv.errNode" = some 12 := by kernel_rfl
theorem g12T : (Tryz.prog.globals[12]?).map (·.type) = some 52 := by kernel_rfl
theorem g13N : Tryz.prog.globalNamed "latiner/tlv.errKind" = some 13 := by kernel_rfl
theorem g13T : (Tryz.prog.globals[13]?).map (·.type) = some 52 := by kernel_rfl
theorem g14N : Tryz.prog.globalNamed "latiner/tlv.errLarge" = some 14 := by kernel_rfl
theorem g14T : (Tryz.prog.globals[14]?).map (·.type) = some 52 := by kernel_rfl
theorem g15N : Tryz.prog.globalNamed "latiner/fber.errRight" = some 0 := by kernel_rfl
theorem g15T : (Tryz.prog.globals[0]?).map (·.type) = some 52 := by kernel_rfl
theorem g16N : Tryz.prog.globalNamed "latiner/fber.errDeep" = some 1 := by kernel_rfl
theorem g16T : (Tryz.prog.globals[1]?).map (·.type) = some 52 := by kernel_rfl
theorem g17N : Tryz.prog.globalNamed "latiner/fber.errCount" = some 2 := by kernel_rfl
theorem g17T : (Tryz.prog.globals[2]?).map (·.type) = some 52 := by kernel_rfl
theorem g18N : Tryz.prog.globalNamed "latiner/fber.errTree" = some 3 := by kernel_rfl
theorem g18T : (Tryz.prog.globals[3]?).map (·.type) = some 52 := by kernel_rfl
theorem rtRow : (Tryz.prog.cutTypes.find? (·.1 == "internal/reflectlite.rtype")).map (·.2) = some 180 := by kernel_rfl
theorem oneRow : ((List.range 379).filter fun t => Tryz.prog.rowNamed t [101, 114, 114, 111, 114]) = [52] := by kernel_rfl
theorem nTypes : Tryz.prog.types.size = 379 := by kernel_rfl
theorem handleError : typeHandle Tryz.prog 52 = .pointer (some ⟨29, 52, none⟩) := by kernel_rfl
theorem cellsES : Tryz.prog.cellsOf 368 = 1 := by kernel_rfl
theorem cellsStr : Tryz.prog.cellsOf 9 = 1 := by kernel_rfl
abbrev Ls : List (String × DataW Unit) := [("errors.errorType", Rows.laid_errors_errorType), ("latiner/size.errShort", Rows.laid_latiner_size_errShort), ("latiner/size.errForm", Rows.laid_latiner_size_errForm), ("latiner/filt.errDeep", Rows.laid_latiner_filt_errDeep), ("latiner/filt.errCount", Rows.laid_latiner_filt_errCount), ("latiner/filt.errName", Rows.laid_latiner_filt_errName), ("latiner/filt.errLong", Rows.laid_latiner_filt_errLong), ("latiner/filt.errField", Rows.laid_latiner_filt_errField), ("latiner/filt.errSign", Rows.laid_latiner_filt_errSign), ("latiner/filt.errMore", Rows.laid_latiner_filt_errMore), ("latiner/tlv.errShort", Rows.laid_latiner_tlv_errShort), ("latiner/tlv.errTag", Rows.laid_latiner_tlv_errTag), ("latiner/tlv.errMore", Rows.laid_latiner_tlv_errMore), ("latiner/tlv.errNode", Rows.laid_latiner_tlv_errNode), ("latiner/tlv.errKind", Rows.laid_latiner_tlv_errKind), ("latiner/tlv.errLarge", Rows.laid_latiner_tlv_errLarge), ("latiner/fber.errRight", Rows.laid_latiner_fber_errRight), ("latiner/fber.errDeep", Rows.laid_latiner_fber_errDeep), ("latiner/fber.errCount", Rows.laid_latiner_fber_errCount), ("latiner/fber.errTree", Rows.laid_latiner_fber_errTree)]
theorem star : "*" ++ "errors.errorString" = "*errors.errorString" := by decide
theorem rowES (u : TypeId) (h : Tryz.prog.typeName? 3 u = some "*errors.errorString") : u = 350 :=
 typeName_ptr_named (P := Tryz.prog) (nm := "errors.errorString") (by rw [star]; kernel_rfl) (by kernel_rfl) (by decide) u (by rw [star]; exact h)
abbrev LsAll : List (String × DataW Unit) := [("unicode/utf8.acceptRanges", Rows.laid_unicode_utf8_acceptRanges), ("errors.errorType", Rows.laid_errors_errorType), ("latiner/size.errShort", Rows.laid_latiner_size_errShort), ("latiner/size.errForm", Rows.laid_latiner_size_errForm), ("latiner/filt.errDeep", Rows.laid_latiner_filt_errDeep), ("latiner/filt.errCount", Rows.laid_latiner_filt_errCount), ("latiner/filt.errName", Rows.laid_latiner_filt_errName), ("latiner/filt.errLong", Rows.laid_latiner_filt_errLong), ("latiner/filt.errField", Rows.laid_latiner_filt_errField), ("latiner/filt.errSign", Rows.laid_latiner_filt_errSign), ("latiner/filt.errMore", Rows.laid_latiner_filt_errMore), ("latiner/tlv.errShort", Rows.laid_latiner_tlv_errShort), ("latiner/tlv.errTag", Rows.laid_latiner_tlv_errTag), ("latiner/tlv.errMore", Rows.laid_latiner_tlv_errMore), ("latiner/tlv.errNode", Rows.laid_latiner_tlv_errNode), ("latiner/tlv.errKind", Rows.laid_latiner_tlv_errKind), ("latiner/tlv.errLarge", Rows.laid_latiner_tlv_errLarge), ("latiner/fber.errRight", Rows.laid_latiner_fber_errRight), ("latiner/fber.errDeep", Rows.laid_latiner_fber_errDeep), ("latiner/fber.errCount", Rows.laid_latiner_fber_errCount), ("latiner/fber.errTree", Rows.laid_latiner_fber_errTree), ("unicode/utf8.first", Rows.laid_unicode_utf8_first)]
theorem keep_eq : (LsAll.filter fun x => !(x.1 == "unicode/utf8.acceptRanges" || x.1 == "unicode/utf8.first")) = Ls := by kernel_rfl
theorem glob_of_laid {W : World} (hall : laidMetH Tryz.prog LsAll W) : ∃ a, Glob a W := by
 have h : laidMetH Tryz.prog Ls W := by rw [<- keep_eq]; exact hall.filter _
 have h' : laidMet Tryz.prog [("latiner/size.errShort", Rows.laid_latiner_size_errShort), ("latiner/size.errForm", Rows.laid_latiner_size_errForm), ("latiner/filt.errDeep", Rows.laid_latiner_filt_errDeep), ("latiner/filt.errCount", Rows.laid_latiner_filt_errCount), ("latiner/filt.errName", Rows.laid_latiner_filt_errName), ("latiner/filt.errLong", Rows.laid_latiner_filt_errLong), ("latiner/filt.errField", Rows.laid_latiner_filt_errField), ("latiner/filt.errSign", Rows.laid_latiner_filt_errSign), ("latiner/filt.errMore", Rows.laid_latiner_filt_errMore), ("latiner/tlv.errShort", Rows.laid_latiner_tlv_errShort), ("latiner/tlv.errTag", Rows.laid_latiner_tlv_errTag), ("latiner/tlv.errMore", Rows.laid_latiner_tlv_errMore), ("latiner/tlv.errNode", Rows.laid_latiner_tlv_errNode), ("latiner/tlv.errKind", Rows.laid_latiner_tlv_errKind), ("latiner/tlv.errLarge", Rows.laid_latiner_tlv_errLarge), ("latiner/fber.errRight", Rows.laid_latiner_fber_errRight), ("latiner/fber.errDeep", Rows.laid_latiner_fber_errDeep), ("latiner/fber.errCount", Rows.laid_latiner_fber_errCount), ("latiner/fber.errTree", Rows.laid_latiner_fber_errTree)] W /\ handlesMet Tryz.prog [("errors.errorType", Rows.laid_errors_errorType)] W := h
 obtain ⟨hd, hh⟩ := h'
 obtain ⟨name, u, ty, x1, x2, x3, x4, e5h⟩ := hh _ (List.mem_singleton.2 rfl)
 have en : name = [101, 114, 114, 111, 114] := (Option.some.inj x1).symm
 subst en
 obtain rfl := Option.some.inj (rtRow.symm.trans x2)
 have hm : ty ∈ (List.range 379).filter fun t => Tryz.prog.rowNamed t [101, 114, 114, 111, 114] := List.mem_filter.2 ⟨List.mem_range.2 (by rw [<- nTypes]; exact x3), x4⟩
 rw [oneRow] at hm
 obtain rfl := List.mem_singleton.1 hm
 rw [handleError] at e5h
 obtain ⟨ps0, h0, hnd, hrows⟩ := hd
 obtain ⟨a0, c0, t0, ps1, v0, b0, rfl, h1⟩ := laid_first h0 (fun b off hm => hrows b off (by simp [hm])) g0N g0T Tryz.underlying52 rowES Tryz.underlying350 Tryz.underlying368 rfl rfl Tryz.underlying9 cellsES cellsStr
 obtain ⟨a1, c1, t1, ps2, v1, b1, rfl, h2⟩ := laid_first h1 (fun b off hm => hrows b off (by simp [hm])) g1N g1T Tryz.underlying52 rowES Tryz.underlying350 Tryz.underlying368 rfl rfl Tryz.underlying9 cellsES cellsStr
 obtain ⟨a2, c2, t2, ps3, v2, b2, rfl, h3⟩ := laid_first h2 (fun b off hm => hrows b off (by simp [hm])) g2N g2T Tryz.underlying52 rowES Tryz.underlying350 Tryz.underlying368 rfl rfl Tryz.underlying9 cellsES cellsStr
 obtain ⟨a3, c3, t3, ps4, v3, b3, rfl, h4⟩ := laid_first h3 (fun b off hm => hrows b off (by simp [hm])) g3N g3T Tryz.underlying52 rowES Tryz.underlying350 Tryz.underlying368 rfl rfl Tryz.underlying9 cellsES cellsStr
 obtain ⟨a4, c4, t4, ps5, v4, b4, rfl, h5⟩ := laid_first h4 (fun b off hm => hrows b off (by simp [hm])) g4N g4T Tryz.underlying52 rowES Tryz.underlying350 Tryz.underlying368 rfl rfl Tryz.underlying9 cellsES cellsStr
 obtain ⟨a5, c5, t5, ps6, v5, b5, rfl, h6⟩ := laid_first h5 (fun b off hm => hrows b off (by simp [hm])) g5N g5T Tryz.underlying52 rowES Tryz.underlying350 Tryz.underlying368 rfl rfl Tryz.underlying9 cellsES cellsStr
 obtain ⟨a6, c6, t6, ps7, v6, b6, rfl, h7⟩ := laid_first h6 (fun b off hm => hrows b off (by simp [hm])) g6N g6T Tryz.underlying52 rowES Tryz.underlying350 Tryz.underlying368 rfl rfl Tryz.underlying9 cellsES cellsStr
 obtain ⟨a7, c7, t7, ps8, v7, b7, rfl, h8⟩ := laid_first h7 (fun b off hm => hrows b off (by simp [hm])) g7N g7T Tryz.underlying52 rowES Tryz.underlying350 Tryz.underlying368 rfl rfl Tryz.underlying9 cellsES cellsStr
 obtain ⟨a8, c8, t8, ps9, v8, b8, rfl, h9⟩ := laid_first h8 (fun b off hm => hrows b off (by simp [hm])) g8N g8T Tryz.underlying52 rowES Tryz.underlying350 Tryz.underlying368 rfl rfl Tryz.underlying9 cellsES cellsStr
 obtain ⟨a9, c9, t9, ps10, v9, b9, rfl, h10⟩ := laid_first h9 (fun b off hm => hrows b off (by simp [hm])) g9N g9T Tryz.underlying52 rowES Tryz.underlying350 Tryz.underlying368 rfl rfl Tryz.underlying9 cellsES cellsStr
 obtain ⟨a10, c10, t10, ps11, v10, b10, rfl, h11⟩ := laid_first h10 (fun b off hm => hrows b off (by simp [hm])) g10N g10T Tryz.underlying52 rowES Tryz.underlying350 Tryz.underlying368 rfl rfl Tryz.underlying9 cellsES cellsStr
 obtain ⟨a11, c11, t11, ps12, v11, b11, rfl, h12⟩ := laid_first h11 (fun b off hm => hrows b off (by simp [hm])) g11N g11T Tryz.underlying52 rowES Tryz.underlying350 Tryz.underlying368 rfl rfl Tryz.underlying9 cellsES cellsStr
 obtain ⟨a12, c12, t12, ps13, v12, b12, rfl, h13⟩ := laid_first h12 (fun b off hm => hrows b off (by simp [hm])) g12N g12T Tryz.underlying52 rowES Tryz.underlying350 Tryz.underlying368 rfl rfl Tryz.underlying9 cellsES cellsStr
 obtain ⟨a13, c13, t13, ps14, v13, b13, rfl, h14⟩ := laid_first h13 (fun b off hm => hrows b off (by simp [hm])) g13N g13T Tryz.underlying52 rowES Tryz.underlying350 Tryz.underlying368 rfl rfl Tryz.underlying9 cellsES cellsStr
 obtain ⟨a14, c14, t14, ps15, v14, b14, rfl, h15⟩ := laid_first h14 (fun b off hm => hrows b off (by simp [hm])) g14N g14T Tryz.underlying52 rowES Tryz.underlying350 Tryz.underlying368 rfl rfl Tryz.underlying9 cellsES cellsStr
 obtain ⟨a15, c15, t15, ps16, v15, b15, rfl, h16⟩ := laid_first h15 (fun b off hm => hrows b off (by simp [hm])) g15N g15T Tryz.underlying52 rowES Tryz.underlying350 Tryz.underlying368 rfl rfl Tryz.underlying9 cellsES cellsStr
 obtain ⟨a16, c16, t16, ps17, v16, b16, rfl, h17⟩ := laid_first h16 (fun b off hm => hrows b off (by simp [hm])) g16N g16T Tryz.underlying52 rowES Tryz.underlying350 Tryz.underlying368 rfl rfl Tryz.underlying9 cellsES cellsStr
 obtain ⟨a17, c17, t17, ps18, v17, b17, rfl, h18⟩ := laid_first h17 (fun b off hm => hrows b off (by simp [hm])) g17N g17T Tryz.underlying52 rowES Tryz.underlying350 Tryz.underlying368 rfl rfl Tryz.underlying9 cellsES cellsStr
 obtain ⟨a18, c18, t18, ps19, v18, b18, rfl, h19⟩ := laid_first h18 (fun b off hm => hrows b off (by simp [hm])) g18N g18T Tryz.underlying52 rowES Tryz.underlying350 Tryz.underlying368 rfl rfl Tryz.underlying9 cellsES cellsStr
 clear hrows h19
 have eT := World.var?_cell gTy e5h 0
 have n0_1 : a0 ≠ a1 := fun e => by rw [e] at hnd; simp at hnd
 have n10_9 : a10 ≠ a9 := fun e => by rw [e] at hnd; simp at hnd
 have n11_9 : a11 ≠ a9 := fun e => by rw [e] at hnd; simp at hnd
 have n12_9 : a12 ≠ a9 := fun e => by rw [e] at hnd; simp at hnd
 have n13_9 : a13 ≠ a9 := fun e => by rw [e] at hnd; simp at hnd
 have n14_9 : a14 ≠ a9 := fun e => by rw [e] at hnd; simp at hnd
 have n11_10 : a11 ≠ a10 := fun e => by rw [e] at hnd; simp at hnd
 have n12_10 : a12 ≠ a10 := fun e => by rw [e] at hnd; simp at hnd
 have n13_10 : a13 ≠ a10 := fun e => by rw [e] at hnd; simp at hnd
 have n14_10 : a14 ≠ a10 := fun e => by rw [e] at hnd; simp at hnd
 have n12_11 : a12 ≠ a11 := fun e => by rw [e] at hnd; simp at hnd
 have n13_11 : a13 ≠ a11 := fun e => by rw [e] at hnd; simp at hnd
 have n14_11 : a14 ≠ a11 := fun e => by rw [e] at hnd; simp at hnd
 exact ⟨⟨⟨⟨⟨a0, a0, a0⟩, a0, a0, a0, a0⟩, a2, a3, a4, a5, a6, a7, a8⟩, ⟨a9, a10, a11, a12, a13, a14⟩, a0, a1, a15, a16, a17, a18⟩, ⟨⟨by simpa using eT, by simpa using World.var?_cell g2N v2 0, by simpa using World.var?_cell g3N v3 0, by simpa using World.var?_cell g4N v4 0, by simpa using World.var?_cell g5N v5 0, by simpa using World.var?_cell g6N v6 0, by simpa using World.var?_cell g7N v7 0, by simpa using World.var?_cell g8N v8 0, ⟨_, _, b2⟩, ⟨_, _, b3⟩, ⟨_, _, b4⟩, ⟨_, _, b5⟩, ⟨_, _, b6⟩, ⟨_, _, b7⟩, ⟨_, _, b8⟩⟩, ⟨⟨by simpa using eT, by simpa using World.var?_cell g0N v0 0, by simpa using World.var?_cell g1N v1 0, n0_1, ⟨_, _, b0⟩, ⟨_, _, b1⟩⟩, ⟨by simpa using eT, by simpa using World.var?_cell g9N v9 0, by simpa using World.var?_cell g10N v10 0, by simpa using World.var?_cell g11N v11 0, by simpa using World.var?_cell g12N v12 0, by simpa using World.var?_cell g13N v13 0, by simpa using World.var?_cell g14N v14 0, ⟨_, _, b9⟩, ⟨_, _, b10⟩, ⟨_, _, b11⟩, ⟨_, _, b12⟩, ⟨_, _, b13⟩, ⟨_, _, b14⟩, ⟨n10_9, n11_9, n12_9, n13_9, n14_9, n11_10, n12_10, n13_10, n14_10, n12_11, n13_11, n14_11⟩⟩⟩, by simpa using World.var?_cell g15N v15 0, by simpa using World.var?_cell g16N v16 0, by simpa using World.var?_cell g17N v17 0, by simpa using World.var?_cell g18N v18 0, ⟨_, _, b15⟩, ⟨_, _, b16⟩, ⟨_, _, b17⟩, ⟨_, _, b18⟩⟩⟩
abbrev sentS0 : ByteArray := ⟨#[98, 121, 116, 101, 115, 32, 97, 114, 101, 32, 109, 105, 115, 115, 105, 110, 103]⟩
abbrev sentS1 : ByteArray := ⟨#[110, 111, 32, 108, 101, 110, 103, 116, 104, 32, 98, 101, 103, 105, 110, 115, 32, 115, 111]⟩
abbrev sentS2 : ByteArray := ⟨#[116, 111, 111, 32, 100, 101, 101, 112]⟩
abbrev sentS3 : ByteArray := ⟨#[116, 111, 111, 32, 109, 97, 110, 121, 44, 32, 111, 114, 32, 110, 111, 110, 101]⟩
abbrev sentS4 : ByteArray := ⟨#[110, 111, 32, 97, 116, 116, 114, 105, 98, 117, 116, 101, 39, 115, 32, 110, 97, 109, 101]⟩
abbrev sentS5 : ByteArray := ⟨#[116, 111, 111, 32, 108, 111, 110, 103, 44, 32, 111, 114, 32, 101, 109, 112, 116, 121, 32, 119, 104, 101, 114, 101, 32, 105, 116, 32, 109, 97, 121, 32, 110, 111, 116, 32, 98, 101]⟩
abbrev sentS6 : ByteArray := ⟨#[115, 111, 109, 101, 116, 104, 105, 110, 103, 32, 116, 104, 97, 116, 32, 116, 104, 105, 115, 32, 107, 105, 110, 100, 32, 104, 97, 115, 32, 110, 111, 116]⟩
abbrev sentS7 : ByteArray := ⟨#[97, 32, 115, 105, 103, 110, 32, 105, 115, 32, 109, 105, 115, 115, 105, 110, 103]⟩
abbrev sentS8 : ByteArray := ⟨#[109, 111, 114, 101, 32, 115, 116, 97, 110, 100, 115, 32, 98, 101, 104, 105, 110, 100, 32, 116, 104, 101, 32, 102, 105, 108, 116, 101, 114]⟩
abbrev sentS9 : ByteArray := ⟨#[98, 121, 116, 101, 115, 32, 97, 114, 101, 32, 109, 105, 115, 115, 105, 110, 103]⟩
abbrev sentS10 : ByteArray := ⟨#[116, 104, 101, 32, 116, 97, 103, 32, 103, 111, 101, 115, 32, 111, 110]⟩
abbrev sentS11 : ByteArray := ⟨#[109, 111, 114, 101, 32, 115, 116, 97, 110, 100, 115, 32, 98, 101, 104, 105, 110, 100, 32, 116, 104, 101, 32, 116, 114, 101, 101]⟩
abbrev sentS12 : ByteArray := ⟨#[116, 111, 111, 32, 109, 97, 110, 121, 32, 116, 114, 101, 101, 115, 44, 32, 111, 114, 32, 116, 111, 111, 32, 100, 101, 101, 112]⟩
abbrev sentS13 : ByteArray := ⟨#[110, 111, 32, 116, 97, 103, 44, 32, 111, 114, 32, 110, 111, 116, 32, 119, 104, 97, 116, 32, 105, 116, 32, 97, 108, 108, 111, 119, 115]⟩
abbrev sentS14 : ByteArray := ⟨#[116, 111, 111, 32, 109, 97, 110, 121, 32, 98, 121, 116, 101, 115]⟩
abbrev sentS15 : ByteArray := ⟨#[116, 104, 101, 32, 102, 105, 108, 116, 101, 114, 32, 105, 115, 32, 110, 111, 116, 32, 114, 105, 103, 104, 116]⟩
abbrev sentS16 : ByteArray := ⟨#[116, 111, 111, 32, 100, 101, 101, 112]⟩
abbrev sentS17 : ByteArray := ⟨#[116, 111, 111, 32, 109, 97, 110, 121, 32, 116, 114, 101, 101, 115, 32, 105, 110, 32, 105, 116, 44, 32, 111, 114, 32, 116, 111, 111, 32, 102, 101, 119]⟩
abbrev sentS18 : ByteArray := ⟨#[115, 111, 109, 101, 116, 104, 105, 110, 103, 32, 105, 110, 32, 105, 116, 32, 116, 104, 97, 116, 32, 116, 104, 105, 115, 32, 107, 105, 110, 100, 32, 104, 97, 115, 32, 110, 111, 116]⟩
theorem laid_met (os : Os) (args : Array Value) : laidMetH Tryz.prog LsAll (({ World.holding Tryz.prog os ⟨#[.cells #[.string sentS0] 368, .cells #[.string sentS1] 368, .cells #[.string sentS2] 368, .cells #[.string sentS3] 368, .cells #[.string sentS4] 368, .cells #[.string sentS5] 368, .cells #[.string sentS6] 368, .cells #[.string sentS7] 368, .cells #[.string sentS8] 368, .cells #[.string sentS9] 368, .cells #[.string sentS10] 368, .cells #[.string sentS11] 368, .cells #[.string sentS12] 368, .cells #[.string sentS13] 368, .cells #[.string sentS14] 368, .cells #[.string sentS15] 368, .cells #[.string sentS16] 368, .cells #[.string sentS17] 368, .cells #[.string sentS18] 368], #[], []⟩ with heap := ((((((((((((((((((((((World.holding Tryz.prog os ⟨#[.cells #[.string sentS0] 368, .cells #[.string sentS1] 368, .cells #[.string sentS2] 368, .cells #[.string sentS3] 368, .cells #[.string sentS4] 368, .cells #[.string sentS5] 368, .cells #[.string sentS6] 368, .cells #[.string sentS7] 368, .cells #[.string sentS8] 368, .cells #[.string sentS9] 368, .cells #[.string sentS10] 368, .cells #[.string sentS11] 368, .cells #[.string sentS12] 368, .cells #[.string sentS13] 368, .cells #[.string sentS14] 368, .cells #[.string sentS15] 368, .cells #[.string sentS16] 368, .cells #[.string sentS17] 368, .cells #[.string sentS18] 368], #[], []⟩).heap.modify 20 fun | .cells _ t frozen => .cells #[.iface 350 (.pointer (some ⟨(World.holding Tryz.prog default ⟨#[], #[], []⟩).heap.size + 0, 0, none⟩))] t frozen | o => o).modify 18 fun | .cells _ t frozen => .cells #[.iface 350 (.pointer (some ⟨(World.holding Tryz.prog default ⟨#[], #[], []⟩).heap.size + 1, 0, none⟩))] t frozen | o => o).modify 5 fun | .cells _ t frozen => .cells #[.iface 350 (.pointer (some ⟨(World.holding Tryz.prog default ⟨#[], #[], []⟩).heap.size + 2, 0, none⟩))] t frozen | o => o).modify 6 fun | .cells _ t frozen => .cells #[.iface 350 (.pointer (some ⟨(World.holding Tryz.prog default ⟨#[], #[], []⟩).heap.size + 3, 0, none⟩))] t frozen | o => o).modify 7 fun | .cells _ t frozen => .cells #[.iface 350 (.pointer (some ⟨(World.holding Tryz.prog default ⟨#[], #[], []⟩).heap.size + 4, 0, none⟩))] t frozen | o => o).modify 8 fun | .cells _ t frozen => .cells #[.iface 350 (.pointer (some ⟨(World.holding Tryz.prog default ⟨#[], #[], []⟩).heap.size + 5, 0, none⟩))] t frozen | o => o).modify 9 fun | .cells _ t frozen => .cells #[.iface 350 (.pointer (some ⟨(World.holding Tryz.prog default ⟨#[], #[], []⟩).heap.size + 6, 0, none⟩))] t frozen | o => o).modify 10 fun | .cells _ t frozen => .cells #[.iface 350 (.pointer (some ⟨(World.holding Tryz.prog default ⟨#[], #[], []⟩).heap.size + 7, 0, none⟩))] t frozen | o => o).modify 11 fun | .cells _ t frozen => .cells #[.iface 350 (.pointer (some ⟨(World.holding Tryz.prog default ⟨#[], #[], []⟩).heap.size + 8, 0, none⟩))] t frozen | o => o).modify 16 fun | .cells _ t frozen => .cells #[.iface 350 (.pointer (some ⟨(World.holding Tryz.prog default ⟨#[], #[], []⟩).heap.size + 9, 0, none⟩))] t frozen | o => o).modify 17 fun | .cells _ t frozen => .cells #[.iface 350 (.pointer (some ⟨(World.holding Tryz.prog default ⟨#[], #[], []⟩).heap.size + 10, 0, none⟩))] t frozen | o => o).modify 4 fun | .cells _ t frozen => .cells #[.iface 350 (.pointer (some ⟨(World.holding Tryz.prog default ⟨#[], #[], []⟩).heap.size + 11, 0, none⟩))] t frozen | o => o).modify 12 fun | .cells _ t frozen => .cells #[.iface 350 (.pointer (some ⟨(World.holding Tryz.prog default ⟨#[], #[], []⟩).heap.size + 12, 0, none⟩))] t frozen | o => o).modify 13 fun | .cells _ t frozen => .cells #[.iface 350 (.pointer (some ⟨(World.holding Tryz.prog default ⟨#[], #[], []⟩).heap.size + 13, 0, none⟩))] t frozen | o => o).modify 14 fun | .cells _ t frozen => .cells #[.iface 350 (.pointer (some ⟨(World.holding Tryz.prog default ⟨#[], #[], []⟩).heap.size + 14, 0, none⟩))] t frozen | o => o).modify 0 fun | .cells _ t frozen => .cells #[.iface 350 (.pointer (some ⟨(World.holding Tryz.prog default ⟨#[], #[], []⟩).heap.size + 15, 0, none⟩))] t frozen | o => o).modify 1 fun | .cells _ t frozen => .cells #[.iface 350 (.pointer (some ⟨(World.holding Tryz.prog default ⟨#[], #[], []⟩).heap.size + 16, 0, none⟩))] t frozen | o => o).modify 2 fun | .cells _ t frozen => .cells #[.iface 350 (.pointer (some ⟨(World.holding Tryz.prog default ⟨#[], #[], []⟩).heap.size + 17, 0, none⟩))] t frozen | o => o).modify 3 fun | .cells _ t frozen => .cells #[.iface 350 (.pointer (some ⟨(World.holding Tryz.prog default ⟨#[], #[], []⟩).heap.size + 18, 0, none⟩))] t frozen | o => o).modify 22 fun | .cells _ t frozen => .cells (([128,191,160,191,128,159,144,191,128,143,0,0,0,0,0,0,0,0,0,0,0,0,0,0,0,0,0,0,0,0,0,0] : List Nat).map fun (n : Nat) => Value.int .u8 (n : Int)).toArray t frozen | o => o).modify 21 fun | .cells _ t frozen => .cells ((Go.Pinned.utf8FirstZ : List Nat).map fun (n : Nat) => Value.int .u8 (n : Int)).toArray t frozen | o => o).modify 15 fun | .cells _ t frozen => .cells #[.iface 180 (.agg #[.pointer (some ⟨29, 52, none⟩)])] t frozen | o => o } : World).forCall (fun _ _ => 0) ⟨#[], args, []⟩).memory :=
 laidMetH_of_parts (laidMet_of_run' 8 (by kernel_rfl) (by kernel_rfl)) (by kernel_rfl)
end Go.Proofs.YtmenllnokgjdlaaGreatDoor.G
/-
 What filt.Print answers. Conditions: the package-level variables hold what the program's text lays.
-/
namespace Go.Proofs.YtmenllnokgjdlaaGreatDoor.F
open Go Go.RowKit Go.Shelf Fp
open D (H_ un)
attribute [local go_sem] Oper.semAt_some
def prtF {n : Nat} (F : Fl (n + 1)) : Value := if right (n + 1) 6 F then .tuple #[.string ⟨(text (n + 1) F).toArray⟩, .int .i64 0] else .tuple #[.string ⟨#[]⟩, .int .i64 80]
theorem print_any (n : Nat) (F : Fl (n + 1)) (A : Ad) (w : World) (p : Nat -> Prop) (d : Fd) (g : Glob A w) (hN : FNode (n + 1) w p d F) (hn : n <= 99) :
  Calls Tryz.prog 29 #[d.val] w fun e w' => e = .returned (prtF F) /\ Below w.heap.size w w' := by
 have hb0 : Below w.heap.size w (w.alloc d.obj) := (Below.refl _ _).alloc (Nat.le_refl _) _
 have hbx := At.new w d
 have H := H_ (check_any n F A (w.alloc d.obj) p d (g.alloc d.obj) (hN.below hb0) hn)
 have HT := H_ fun (W : World) (B : Nat) (hb : Below w.heap.size w W) (hB : SignsAt W B) (hr : right (n + 1) 6 F = true) => text_any (n + 1) 6 F W p d B (Nat.le_refl _) hr (hN.below hb) hB
 have HG := H_ g
 have HB := H_ hb0
 have HX := H_ hbx
 obtain ⟨k, a, v, sa, sn, sc, f, la, ln, lc⟩ := d
 unfold prtF
 cases hr : right (n + 1) 6 F
 ·rw [hr] at H
  clear hN hb0 hbx g HT
  rw [if_neg (by simp)]
  go_enter Tryz.func29, Tryz.ntmps29
  go_wp2_with fail
  refine (un H).mono ?_
  rintro e w1 ⟨hb, hp⟩
  rw [if_neg (by simp)] at hp
  obtain ⟨u, rfl, hE⟩ := hp
  obtain ⟨T, x, rfl⟩ := hE.form
  have HB1 := H_ ((un HB).trans (hb.mono (un HB).size))
  have HO := H_ (errnoOf_any _ A w1 ((un HG).next (un HB1)) hE)
  clear hb hE H
  go_wp2_with fail
  refine (un HO).mono ?_
  rintro e w2 ⟨rfl, hb⟩
  have HB2 := H_ ((un HB1).trans (hb.mono (un HB1).size))
  clear hb
  go_wp2
  go_ret2
  exact ⟨rfl, un HB2⟩
 ·rw [hr] at H
  have HR := H_ hr
  clear hN hb0 hbx g hr
  rw [if_pos rfl]
  obtain ⟨tx, htx⟩ : ∃ tx : ByteArray, tx = ⟨(text (n + 1) F).toArray⟩ := ⟨_, rfl⟩
  rw [<- htx] at HT ⊢
  clear htx
  go_enter Tryz.func29, Tryz.ntmps29
  go_wp2_with fail
  refine (un H).mono ?_
  rintro e w1 ⟨hb, hp⟩
  rw [if_pos rfl] at hp
  subst hp
  have hB1 := (un HB).trans (hb.mono (un HB).size)
  have hS : At w1.drew w.heap.size 0 ⟨k, a, v, sa, sn, sc, f, la, ln, lc⟩ := ((un HX).of (hb.block _ (un HX).lt)).of rfl
  have HB1 := H_ (show Below w.heap.size w w1.drew from hB1.drew)
  clear hb H hB1
  go_wp2_with fail
  refine wp_region_held (S := fun w' => At w' w.heap.size 0 ⟨k, a, v, sa, sn, sc, f, la, ln, lc⟩) (by kernel_rfl) ?_
  change wpAnyH _ _ _ _ _ 6 #[false, false, false, false, false, false] _ w1.drew
  refine wpAnyH_take (i := 2) (v := .agg #[.int .i64 k, .string a, .string v, .slice sa sn sc, .string f, .slice la ln lc]) rfl (by kernel_rfl) (by kernel_rfl) (by kernel_rfl) (fun _ _ _ h => h) (Or.inl ⟨by kernel_rfl, by
   intro w2 hS1
   obtain ⟨c0, c1, c2, c3, c4, c5⟩ := hS1
   dsimp only at c0 c1 c2 c3 c4 c5
   go_simp
   try rfl⟩) hS ?_
  simp only [Act.put, nrm]
  refine rdyy 0 rfl (fun K hK => ?_)
  rw [if_pos (by kernel_rfl)]
  go_wp2_with fail
  refine (signs_any _).mono ?_
  rintro e w2 ⟨rfl, hb, hsg⟩
  have hS2 : At w2 w.heap.size 0 ⟨k, a, v, sa, sn, sc, f, la, ln, lc⟩ := hS.of (hb.block _ hS.lt)
  have HB2 := H_ ((un HB1).trans (hb.mono (un HB1).size))
  have HTT := H_ ((un HT) w2 _ (un HB2) hsg (un HR))
  generalize w1.drew.heap.size = bb at *
  clear hb hsg HT
  go_wp2
  refine hK.out _ _ hS2 (fun _ => ?_)
  clear hK K
  simp only [Act.put, nrm]
  refine tkk 1 (.agg #[.map (some bb)]) rfl (by intro w3 hS1; go_simp; try rfl) hS2 ?_
  simp only [Act.put, nrm]
  refine rdyy 3 rfl (fun K hK => ?_)
  rw [if_pos (by kernel_rfl)]
  go_wp2_with fail
  refine (un HTT).mono ?_
  rintro e w3 ⟨rfl, hb⟩
  have hS3 : At w3 w.heap.size 0 ⟨k, a, v, sa, sn, sc, f, la, ln, lc⟩ := hS2.of (hb.block _ hS2.lt)
  have HB3 := H_ ((un HB2).trans (hb.mono (un HB2).size))
  clear hb HTT
  go_wp2
  refine hK.out _ _ hS3 (fun _ => ?_)
  clear hK K
  simp only [Act.put, nrm]
  refine tkk 4 (.string tx) rfl (by intro w4 hS1; go_simp; try rfl) hS3 ?_
  simp only [Act.put, nrm]
  refine tkk 5 (.int .i64 0) rfl (by intro w4 hS1; go_simp; try rfl) hS3 ?_
  simp only [Act.put, nrm]
  refine wpAnyH_done (by kernel_rfl) ?_ _
  go_wp2
  go_ret2
  exact ⟨rfl, un HB3⟩
end Go.Proofs.YtmenllnokgjdlaaGreatDoor.F
/-
 The law file's shown() and cut(). Conditions: the package-level variables hold what the program's text lays.
-/
namespace Go.Proofs.YtmenllnokgjdlaaGreatDoor.G
open Go Go.RowKit Go.Shelf Gp
open D (H_ un)
open F (At FNode box6 zfd prtF)
open Fp (Fl)
open Tv (Tr)
attribute [local go_sem] Oper.semAt_some
theorem step {w w1 w2 : World} (h : Below w.heap.size w w1) (k : Below w1.heap.size w1 w2) : Below w.heap.size w w2 := h.trans (k.mono h.size)
def x0G : Fl 1 := Fp.mk 3 ⟨#[97]⟩ ⟨#[98]⟩ [] ⟨#[]⟩ []
def x1G : Fl 13 := Fp.mk 4 ⟨#[97]⟩ ⟨#[]⟩ [⟨#[120]⟩] ⟨#[]⟩ []
theorem x0_enc : encB 0 x0G = .tuple #[.string ⟨#[163, 6, 4, 1, 97, 4, 1, 98]⟩, .int .i64 0] := by kernel_rfl
theorem s1_dec : decO (⟨#[164, 8, 4, 1, 97, 48, 3, 129, 1, 120]⟩ : ByteArray).data.toList = some x1G := by kernel_rfl
theorem s2_dec : decO (⟨#[164, 5, 4, 1, 97, 48, 0]⟩ : ByteArray).data.toList = none := by kernel_rfl
theorem s3_dec : decO (⟨#[135, 0]⟩ : ByteArray).data.toList = none := by kernel_rfl
theorem x1_prt : prtF x1G = .tuple #[.string ⟨#[40, 97, 61, 42, 120, 42, 41]⟩, .int .i64 0] := by kernel_rfl
theorem shown_true (A : Ad) (w : World) (g : Glob A w) : Calls Tryz.prog 10 #[] w fun e w' => e = .returned (.bool true) /\ Below w.heap.size w w' := by
 have h1 := encode_door 0 x0G A w (fun _ => True) ⟨3, ⟨#[97]⟩, ⟨#[98]⟩, none, 0, 0, ⟨#[]⟩, none, 0, 0⟩ g (gval_node 3 w _ (by decide) (by decide)) (by decide)
 rw [x0_enc] at h1
 have h2 := fun W (h : Below w.heap.size w W) => decode_door ⟨#[164, 8, 4, 1, 97, 48, 3, 129, 1, 120]⟩ A W (g.next h) (by decide)
 rw [s1_dec] at h2
 have h3 := fun W (h : Below w.heap.size w W) => decode_door ⟨#[164, 5, 4, 1, 97, 48, 0]⟩ A W (g.next h) (by decide)
 rw [s2_dec] at h3
 have h4 := fun W (h : Below w.heap.size w W) => decode_door ⟨#[135, 0]⟩ A W (g.next h) (by decide)
 rw [s3_dec] at h4
 have h5 := fun W (h : Below w.heap.size w W) d (hN : FNode 13 W (fun _ => True) d x1G) => F.print_any 12 x1G A.f W _ d (g.next h).gf hN (by decide)
 rw [x1_prt] at h5
 have e1 := H_ h1
 have e2 := H_ h2
 have e3 := H_ h3
 have e4 := H_ h4
 have e5 := H_ h5
 clear h1 h2 h3 h4 h5 g
 go_enter Tryz.func10, Tryz.ntmps10
 go_wp2_with fail
 refine (un e1).mono ?_
 rintro e w1 ⟨rfl, hb⟩
 have B1 := H_ hb
 clear hb e1
 go_wp2_with fail
 refine ((un e2) _ (un B1)).mono ?_
 rintro e w2 ⟨hb, ⟨dk, da, dv, dsa, dsn, dsc, df, dla, dln, dlc⟩, rfl, hN⟩
 have hal := (Below.refl w2.heap.size w2).alloc (Nat.le_refl _) (fobj ⟨dk, da, dv, dsa, dsn, dsc, df, dla, dln, dlc⟩)
 have Y2 := H_ (And.intro ((hN.below hal).imp (q := fun _ => True) fun _ _ _ => trivial) (World.alloc_heap_new w2 (fobj ⟨dk, da, dv, dsa, dsn, dsc, df, dla, dln, dlc⟩)))
 have B2 := H_ (step (step (un B1) hb) hal)
 clear hb hN hal B1 e2
 go_wp2_with fail
 refine ((un e3) _ (un B2)).mono ?_
 rintro e w3 ⟨hb, rfl⟩
 have hal := (Below.refl w3.heap.size w3).alloc (Nat.le_refl _) (fobj zfd)
 have hbb := step hb hal
 have Y3 := H_ (And.intro ((un Y2).1.below hbb) ((hbb.block _ (Array.getElem?_eq_some_iff.1 (un Y2).2).1).trans (un Y2).2))
 have B3 := H_ (step (un B2) hbb)
 clear hb hal hbb B2 Y2 e3
 generalize w2.heap.size = n2 at *
 go_wp2_with fail
 refine ((un e4) _ (un B3)).mono ?_
 rintro e w4 ⟨hb, rfl⟩
 have hal := (Below.refl w4.heap.size w4).alloc (Nat.le_refl _) (fobj zfd)
 have hbb := step hb hal
 have Y4 := H_ (And.intro ((un Y3).1.below hbb) ((hbb.block _ (Array.getElem?_eq_some_iff.1 (un Y3).2).1).trans (un Y3).2))
 have B4 := H_ (step (un B3) hbb)
 clear hb hal hbb B3 Y3 e4
 generalize w3.heap.size = n3 at *
 obtain ⟨⟨c0, c1, c2, c3, c4, c5⟩, _⟩ := box6 (un Y4).2
 dsimp only [fobj, F.Fd.obj, F.Fd.cs, zfd] at c0 c1 c2 c3 c4 c5
 go_wp2_with fail
 refine ((un e5) _ (un B4) ⟨dk, da, dv, dsa, dsn, dsc, df, dla, dln, dlc⟩ (un Y4).1).mono ?_
 rintro e w5 ⟨rfl, hb⟩
 have B5 := H_ (step (un B4) hb)
 have t0 : ((⟨#[163, 6, 4, 1, 97, 4, 1, 98]⟩ : ByteArray).toList == ByteArray.toList ⟨#[163, 6, 4, 1, 97, 4, 1, 98]⟩) = true := by simp
 have t1 : ((⟨#[40, 97, 61, 42, 120, 42, 41]⟩ : ByteArray).toList == ByteArray.toList ⟨#[40, 97, 61, 42, 120, 42, 41]⟩) = true := by simp
 clear hb B4 Y4 e5 c0 c1 c2 c3 c4 c5
 go_wp2
 go_ret
 exact ⟨rfl, un B5⟩
end Go.Proofs.YtmenllnokgjdlaaGreatDoor.G
/-
 FberNots: so many nots around a filter of a name are right, and have a tree, just up to five, for any number. Conditions: the package-level variables hold what the program's text lays (the card ties them).
-/
namespace Go.Proofs.YtmenllnokgjdlaaGreatDoor.G.Nots
open Go Go.RowKit Go.Shelf Gp Go.ChangeShapes Go.WideShapes Go.ChangeAt Go.ChangeMaps
open D (H_ un)
open F (At FNode box6 zfd set6 set6_blk set6_but At.box)
open Fp (Fl)
def nt : Nat -> (L : Nat) -> Fl (L + 1)
 | 0, _ => Fp.mk 7 ⟨#[97]⟩ ⟨#[]⟩ [] ⟨#[]⟩ []
 | _ + 1, 0 => Fp.mk 2 ⟨#[]⟩ ⟨#[]⟩ [] ⟨#[]⟩ []
 | i + 1, L + 1 => Fp.mk 2 ⟨#[]⟩ ⟨#[]⟩ [] ⟨#[]⟩ [nt i L]
def bs (i : Nat) : List UInt8 := Tv.enc 15 (tree 13 (nt i 12))
abbrev bb (i : Nat) : ByteArray := ⟨(bs i).toArray⟩
theorem yes : ∀ i, i <= 5 -> encB 12 (nt i 12) = .tuple #[.string (bb i), .int .i64 0] /\ (bb i).size = 3 + 2 * i /\ decO (bb i).data.toList = some (nt i 12)
 | 0, _ => ⟨by kernel_rfl, by kernel_rfl, by kernel_rfl⟩
 | 1, _ => ⟨by kernel_rfl, by kernel_rfl, by kernel_rfl⟩
 | 2, _ => ⟨by kernel_rfl, by kernel_rfl, by kernel_rfl⟩
 | 3, _ => ⟨by kernel_rfl, by kernel_rfl, by kernel_rfl⟩
 | 4, _ => ⟨by kernel_rfl, by kernel_rfl, by kernel_rfl⟩
 | 5, _ => ⟨by kernel_rfl, by kernel_rfl, by kernel_rfl⟩
 | i + 6, h => by omega
theorem no : ∀ i, 5 < i -> i <= 9 -> encB 12 (nt i 12) = .tuple #[.string ⟨#[]⟩, .int .i64 80] /\ Fp.right 13 6 (nt i 12) = false
 | 0, h, _ => by omega
 | 1, h, _ => by omega
 | 2, h, _ => by omega
 | 3, h, _ => by omega
 | 4, h, _ => by omega
 | 5, h, _ => by omega
 | 6, _, _ => ⟨by kernel_rfl, by kernel_rfl⟩
 | 7, _, _ => ⟨by kernel_rfl, by kernel_rfl⟩
 | 8, _, _ => ⟨by kernel_rfl, by kernel_rfl⟩
 | 9, _, _ => ⟨by kernel_rfl, by kernel_rfl⟩
 | i + 10, _, h => by omega
theorem nil_dec : decO (⟨#[]⟩ : ByteArray).data.toList = none := by kernel_rfl
structure Bn (b i : Nat) (d : FD) (W : World) : Prop where
 blk : W.heap[b]? = some (.cells (F.Fd.cs d) 25 (0, 0))
 n : ∀ L, i <= L -> FNode (L + 1) W (fun q => q ≠ b) d (nt i L)
theorem Bn.below {b i : Nat} {d : FD} {W V : World} (h : Bn b i d W) (hb : Below W.heap.size W V) : Bn b i d V :=
 ⟨(hb.block _ (Array.getElem?_eq_some_iff.1 h.blk).1).trans h.blk, fun L hL => (h.n L hL).below hb⟩
theorem bn_first {b : Nat} {W : World} (h : W.heap[b]? = some (.cells (F.Fd.cs ⟨7, ⟨#[97]⟩, ⟨#[]⟩, none, 0, 0, ⟨#[]⟩, none, 0, 0⟩) 25 (0, 0))) : Bn b 0 ⟨7, ⟨#[97]⟩, ⟨#[]⟩, none, 0, 0, ⟨#[]⟩, none, 0, 0⟩ W :=
 ⟨h, fun L _ => by cases L <;> exact gval_node 7 W _ (by decide) (by decide)⟩
theorem bn_next {b i : Nat} {d : FD} {W X : World} (h : Bn b i d W) (hX : X = set6 (W.alloc (fobj d)) b ⟨2, ⟨#[]⟩, ⟨#[]⟩, none, 0, 0, ⟨#[]⟩, some ⟨W.heap.size, 0, none⟩, 1, 1⟩) : Bn b (i + 1) ⟨2, ⟨#[]⟩, ⟨#[]⟩, none, 0, 0, ⟨#[]⟩, some ⟨W.heap.size, 0, none⟩, 1, 1⟩ X := by
 have hb := (Array.getElem?_eq_some_iff.1 h.blk).1
 have hal := (Below.refl W.heap.size W).alloc (Nat.le_refl _) (fobj d)
 have hbt := set6_but (W.alloc (fobj d)) b ⟨2, ⟨#[]⟩, ⟨#[]⟩, none, 0, 0, ⟨#[]⟩, some ⟨W.heap.size, 0, none⟩, 1, 1⟩
 have hq := set6_blk ((hal.block _ hb).trans h.blk) ⟨2, ⟨#[]⟩, ⟨#[]⟩, none, 0, 0, ⟨#[]⟩, some ⟨W.heap.size, 0, none⟩, 1, 1⟩
 rw [<- hX] at hbt hq
 refine ⟨hq, fun L hL => ?_⟩
 obtain ⟨L, rfl⟩ : ∃ L', L = L' + 1 := ⟨L - 1, by omega⟩
 have hn := h.n L (by omega)
 have hd : X.heap[W.heap.size]? = some (.cells (F.Fd.cs d) 25 (0, 0)) := (hbt.block _ (by simp) (by omega)).trans (World.alloc_heap_new W _)
 refine ⟨⟨rfl, rfl, rfl, rfl, rfl, rfl⟩, ⟨Nat.zero_le _, Nat.zero_le _, Nat.zero_le _, Nat.zero_le _, (fun x hx => by cases hx), by show 1 <= 1000; omega⟩, .inl rfl, .inr ⟨W.heap.size, 0, rfl, (show W.heap.size ≠ b by omega), fun j G hG => ?_⟩⟩
 match j, hG with
 | 0, hG =>
  cases hG
  refine ⟨d, At.box hd, ?_⟩
  exact hn.of fun q h1 h2 => (hbt.block q (by simp; omega) h1).trans (hal.block q h2)
theorem walk (x : Int) (a : Ad) (w : World) (g : Glob a w) :
  Calls Tryz.prog 9 #[.int .i64 x] w fun e w' => e = .returned (.bool true) /\ Below w.heap.size w w' := by
 have HSh := H_ (shown_true a w g)
 have Hg := H_ g
 obtain ⟨N, hN, hN9⟩ : ∃ N : Nat, min (max x 0) 9 = (N : Int) /\ N <= 9 := ⟨(min (max x 0) 9).toNat, by omega, by omega⟩
 have HNn := H_ hN9
 have hNi : (N : Int) <= 9 := by omega
 clear g
 go_enter Tryz.func9, Tryz.ntmps9
 go_wp2_with fail
 refine (un HSh).mono ?_
 rintro e w1 ⟨rfl, hb⟩
 have hal := (Below.refl w1.heap.size w1).alloc (Nat.le_refl _) (fobj ⟨7, ⟨#[97]⟩, ⟨#[]⟩, none, 0, 0, ⟨#[]⟩, none, 0, 0⟩)
 have B1 := H_ (step hb hal)
 have X1 := H_ (bn_first (World.alloc_heap_new w1 (fobj ⟨7, ⟨#[97]⟩, ⟨#[]⟩, none, 0, 0, ⟨#[]⟩, none, 0, 0⟩)))
 have hlow : w.heap.size <= w1.heap.size := hb.size
 clear hb hal HSh
 go_wp2
 obtain ⟨b, hbe⟩ : ∃ b, b = w1.heap.size := ⟨_, rfl⟩
 rw [<- hbe] at X1 hlow ⊢
 clear hbe
 go_loopw [5] (fun i wr => ∃ (j : Nat) (d : FD), j <= N /\ i = .int .i64 (j : Int) /\ Hid (Bn b j d wr) /\ Hid (Below w.heap.size w wr)) (fun i _ => N - (intOf i).toNat)
 case atStart => exact ⟨0, _, Nat.zero_le _, rfl, X1, B1⟩
 case round =>
  obtain ⟨j, ⟨dk, da, dv, dsa, dsn, dsc, df, dla, dln, dlc⟩, hj, rfl, hX, hB⟩ := hrel
  clear X1 B1
  by_cases hlt : j < N
  ·have hlt' : (j : Int) < N := by omega
   have hbl := (Array.getElem?_eq_some_iff.1 (un hX).blk).1
   obtain ⟨⟨x0, x1, x2, x3, x4, x5⟩, _⟩ := box6 (un hX).blk
   obtain ⟨⟨c0, c1, c2, c3, c4, c5⟩, g0, g1, g2, g3, g4, g5⟩ := box6 ((Below.heap_alloc wr (fobj ⟨dk, da, dv, dsa, dsn, dsc, df, dla, dln, dlc⟩) b hbl).trans (un hX).blk)
   dsimp only [fobj, F.Fd.obj, F.Fd.cs] at x0 x1 x2 x3 x4 x5 c0 c1 c2 c3 c4 c5 g0 g1 g2 g3 g4 g5
   obtain ⟨X, hXc⟩ : ∃ X, X = set6 (wr.alloc (fobj ⟨dk, da, dv, dsa, dsn, dsc, df, dla, dln, dlc⟩)) b ⟨2, ⟨#[]⟩, ⟨#[]⟩, none, 0, 0, ⟨#[]⟩, some ⟨wr.heap.size, 0, none⟩, 1, 1⟩ := ⟨_, rfl⟩
   have HX2 := H_ (bn_next (un hX) hXc)
   have HB2 := H_ (show Below w.heap.size w X by rw [hXc]; exact below_set6 ((un hB).alloc (un hB).size (fobj ⟨dk, da, dv, dsa, dsn, dsc, df, dla, dln, dlc⟩)) hlow _)
   dsimp only [set6, fobj, F.Fd.obj, F.Fd.cs] at hXc
   simp only [World.setCell_alloc_past, World.size_setCell, hbl] at hXc
   have HXe := H_ hXc.symm
   clear hXc
   go_wp2
   clear c0 c1 c2 c3 c4 c5 g0 g1 g2 g3 g4 g5 x0 x1 x2 x3 x4 x5
   rw [un HXe]
   clear HXe
   exact ⟨⟨j + 1, _, by omega, by simp, HX2, HB2⟩, by simp [intOf]; omega⟩
  ·have hge : ¬ (j : Int) < N := by omega
   obtain rfl : j = N := by omega
   obtain ⟨⟨x0, x1, x2, x3, x4, x5⟩, _⟩ := box6 (un hX).blk
   dsimp only at x0 x1 x2 x3 x4 x5
   have he := encode_door 12 (nt j 12) a wr _ ⟨dk, da, dv, dsa, dsn, dsc, df, dla, dln, dlc⟩ ((un Hg).next (un hB)) ((un hX).n 12 (by omega)) (by decide)
   by_cases h5 : j <= 5
   ·obtain ⟨y1, y2, y3⟩ := yes j h5
    rw [y1] at he
    have HE := H_ he
    obtain ⟨S, hS⟩ : ∃ S, S = bb j := ⟨_, rfl⟩
    rw [<- hS] at HE y2 y3
    have hSz : (S.size : Int) = 3 + 2 * (j : Int) := by omega
    have hs2 : S.size <= 2000 := by omega
    have hd := fun W (h : Below w.heap.size w W) => decode_door S a W ((un Hg).next h) hs2
    rw [y3] at hd
    have HD := H_ hd
    have h5i : ¬ (5 : Int) < j := by omega
    have HSz := H_ hSz
    clear he y1 y2 y3 hS hs2 hd hN hSz
    go_wp2_with fail
    refine (un HE).mono ?_
    rintro e w2 ⟨rfl, hb⟩
    have B2 := H_ (step (un hB) hb)
    have X2 := H_ ((un hX).below hb)
    clear hb hX hB HE x0 x1 x2 x3 x4 x5
    go_wp2_with fail
    refine ((un HD) _ (un B2)).mono ?_
    rintro e w3 ⟨hb, ⟨ek, ea, ev, esa, esn, esc, ef, ela, eln, elc⟩, rfl, hNd⟩
    have hal := (Below.refl w3.heap.size w3).alloc (Nat.le_refl _) (fobj ⟨ek, ea, ev, esa, esn, esc, ef, ela, eln, elc⟩)
    have hbb := step hb hal
    have B3 := H_ (step (un B2) hbb)
    have X3 := H_ ((un X2).below hbb)
    have hq3 := World.alloc_heap_new w3 (fobj ⟨ek, ea, ev, esa, esn, esc, ef, ela, eln, elc⟩)
    have HSm := H_ (F.same_any 13 (nt j 12) (nt j 12) _ _ _ _ _ (hNd.below hal) ((un X3).n 12 (by omega)))
    rw [show Fp.same 13 (nt j 12) (nt j 12) = true from (Fp.same_iff 13 _ _).2 rfl] at HSm
    obtain ⟨⟨c0, c1, c2, c3, c4, c5⟩, _⟩ := box6 hq3
    obtain ⟨⟨x0, x1, x2, x3, x4, x5⟩, _⟩ := box6 (un X3).blk
    dsimp only [fobj, F.Fd.obj, F.Fd.cs] at c0 c1 c2 c3 c4 c5 x0 x1 x2 x3 x4 x5
    have hSz := un HSz
    clear hb hal hbb hq3 hNd B2 X2 HD X3
    go_wp2_with fail
    refine (un HSm).mono ?_
    rintro e w4 ⟨rfl, hb⟩
    have B4 := H_ (step (un B3) hb)
    clear hb HSm B3 c0 c1 c2 c3 c4 c5 x0 x1 x2 x3 x4 x5
    go_wp2
    go_ret
    exact ⟨rfl, un B4⟩
   ·obtain ⟨y1, y2⟩ := no j (by omega) (un HNn)
    rw [y1] at he
    have HE := H_ he
    have hd := fun W (h : Below w.heap.size w W) => decode_door ⟨#[]⟩ a W ((un Hg).next h) (by decide)
    rw [nil_dec] at hd
    have HD := H_ hd
    have h5i : (5 : Int) < j := by omega
    have HR := H_ fun W (h : Below w.heap.size w W) d (hN : FNode 13 W (fun q => q ≠ b) d (nt j 12)) => F.right_any 12 (nt j 12) a.f W _ d ((un Hg).next h).gf hN (by decide)
    rw [y2] at HR
    clear he y1 y2 hd hN
    go_wp2_with fail
    refine (un HE).mono ?_
    rintro e w2 ⟨rfl, hb⟩
    have B2 := H_ (step (un hB) hb)
    have X2 := H_ ((un hX).below hb)
    clear hb hX hB HE x0 x1 x2 x3 x4 x5
    go_wp2_with fail
    refine ((un HD) _ (un B2)).mono ?_
    rintro e w3 ⟨hb, rfl⟩
    have hbb := step hb ((Below.refl w3.heap.size w3).alloc (Nat.le_refl _) (fobj zfd))
    have B3 := H_ (step (un B2) hbb)
    have X3 := H_ ((un X2).below hbb)
    obtain ⟨⟨x0, x1, x2, x3, x4, x5⟩, _⟩ := box6 (un X3).blk
    dsimp only [fobj, F.Fd.obj, F.Fd.cs, zfd] at x0 x1 x2 x3 x4 x5
    clear hb hbb B2 X2 HD
    go_wp2_with fail
    refine ((un HR) _ (un B3) ⟨dk, da, dv, dsa, dsn, dsc, df, dla, dln, dlc⟩ ((un X3).n 12 (by omega))).mono ?_
    rintro e w4 ⟨rfl, hb⟩
    have B4 := H_ (step (un B3) hb)
    clear hb HR B3 X3 x0 x1 x2 x3 x4 x5
    go_wp2
    go_ret
    exact ⟨rfl, un B4⟩
theorem contract (H : Type) (enc : TypeId × Value -> H) (W : World) (base : Nat) (args : Array Value) (ds gs : List (DataW H)) (before : List MemPlace)
  (hval : ∀ (j : Nat) t v, Tryz.f9.params[j]? = some t -> args[j]? = some v -> Value.okWide Tryz.prog W .any base t v)
  (hW : DataW.Whole enc Tryz.prog Tryz.f9.params.toList Rows.fberNotsSpec.vars false W args.toList ds gs before) (hL : laidMetH Tryz.prog Rows.fberNotsRow.laid W) :
  Calls Tryz.prog 9 args W fun e W' => ∃ v, e = .returned v /\ Rows.fberNotsSpec.post enc Tryz.prog Tryz.f9 false true false false W args v W' := by
 obtain ⟨a, g⟩ := glob_of_laid hL
 have hW' := hW
 obtain ⟨p, q, hA0, hV, rfl, hfz, hnd⟩ := hW
 have hA : DataW.TrodAll enc Tryz.prog W 0 (fun _ => true) true Tryz.f9.params.toList args.toList ds p := hA0
 rw [Tryz.params9] at hA hval
 obtain ⟨v0, vs0, d0, ds0, p0, q0, hargs0, rfl, rfl, h0, r0⟩ := trodAll_cons hA
 obtain ⟨rfl, rfl, rfl⟩ := trodAll_nil r0
 obtain rfl : args = #[v0] := by cases args; simp_all
 obtain ⟨rfl, rfl⟩ := trodVars_none hV
 obtain ⟨x0, rfl, rfl, rfl, wf0⟩ := open_int Tryz.underlying3 (hval 0 3 v0 rfl rfl) h0
 clear hA0
 simp only [List.append_nil] at hW'
 refine (walk x0 a W g).mono fun e W' ⟨he, hg⟩ => ?_
 subst he
 refine ⟨_, rfl, _, _, _, [], [], [], hW', ?_, ?_, ?_, hg.frame _, fun h => by cases h⟩
 ·exact trodAll_cons_mk (shut_bool Tryz.underlying4 _) trodAll_mk0
 ·exact trodAll_cons_mk (shut_int Tryz.underlying3 wf0) (trodAll_mk0)
 ·rfl
theorem reads (os : Os) {H : Type} (enc : TypeId × Value -> H) : ∃ places, DataW.whole enc Tryz.prog (({ World.holding Tryz.prog os ⟨#[.cells #[.string sentS0] 368, .cells #[.string sentS1] 368, .cells #[.string sentS2] 368, .cells #[.string sentS3] 368, .cells #[.string sentS4] 368, .cells #[.string sentS5] 368, .cells #[.string sentS6] 368, .cells #[.string sentS7] 368, .cells #[.string sentS8] 368, .cells #[.string sentS9] 368, .cells #[.string sentS10] 368, .cells #[.string sentS11] 368, .cells #[.string sentS12] 368, .cells #[.string sentS13] 368, .cells #[.string sentS14] 368, .cells #[.string sentS15] 368, .cells #[.string sentS16] 368, .cells #[.string sentS17] 368, .cells #[.string sentS18] 368], #[], []⟩ with heap := ((((((((((((((((((((((World.holding Tryz.prog os ⟨#[.cells #[.string sentS0] 368, .cells #[.string sentS1] 368, .cells #[.string sentS2] 368, .cells #[.string sentS3] 368, .cells #[.string sentS4] 368, .cells #[.string sentS5] 368, .cells #[.string sentS6] 368, .cells #[.string sentS7] 368, .cells #[.string sentS8] 368, .cells #[.string sentS9] 368, .cells #[.string sentS10] 368, .cells #[.string sentS11] 368, .cells #[.string sentS12] 368, .cells #[.string sentS13] 368, .cells #[.string sentS14] 368, .cells #[.string sentS15] 368, .cells #[.string sentS16] 368, .cells #[.string sentS17] 368, .cells #[.string sentS18] 368], #[], []⟩).heap.modify 20 fun | .cells _ t frozen => .cells #[.iface 350 (.pointer (some ⟨(World.holding Tryz.prog default ⟨#[], #[], []⟩).heap.size + 0, 0, none⟩))] t frozen | o => o).modify 18 fun | .cells _ t frozen => .cells #[.iface 350 (.pointer (some ⟨(World.holding Tryz.prog default ⟨#[], #[], []⟩).heap.size + 1, 0, none⟩))] t frozen | o => o).modify 5 fun | .cells _ t frozen => .cells #[.iface 350 (.pointer (some ⟨(World.holding Tryz.prog default ⟨#[], #[], []⟩).heap.size + 2, 0, none⟩))] t frozen | o => o).modify 6 fun | .cells _ t frozen => .cells #[.iface 350 (.pointer (some ⟨(World.holding Tryz.prog default ⟨#[], #[], []⟩).heap.size + 3, 0, none⟩))] t frozen | o => o).modify 7 fun | .cells _ t frozen => .cells #[.iface 350 (.pointer (some ⟨(World.holding Tryz.prog default ⟨#[], #[], []⟩).heap.size + 4, 0, none⟩))] t frozen | o => o).modify 8 fun | .cells _ t frozen => .cells #[.iface 350 (.pointer (some ⟨(World.holding Tryz.prog default ⟨#[], #[], []⟩).heap.size + 5, 0, none⟩))] t frozen | o => o).modify 9 fun | .cells _ t frozen => .cells #[.iface 350 (.pointer (some ⟨(World.holding Tryz.prog default ⟨#[], #[], []⟩).heap.size + 6, 0, none⟩))] t frozen | o => o).modify 10 fun | .cells _ t frozen => .cells #[.iface 350 (.pointer (some ⟨(World.holding Tryz.prog default ⟨#[], #[], []⟩).heap.size + 7, 0, none⟩))] t frozen | o => o).modify 11 fun | .cells _ t frozen => .cells #[.iface 350 (.pointer (some ⟨(World.holding Tryz.prog default ⟨#[], #[], []⟩).heap.size + 8, 0, none⟩))] t frozen | o => o).modify 16 fun | .cells _ t frozen => .cells #[.iface 350 (.pointer (some ⟨(World.holding Tryz.prog default ⟨#[], #[], []⟩).heap.size + 9, 0, none⟩))] t frozen | o => o).modify 17 fun | .cells _ t frozen => .cells #[.iface 350 (.pointer (some ⟨(World.holding Tryz.prog default ⟨#[], #[], []⟩).heap.size + 10, 0, none⟩))] t frozen | o => o).modify 4 fun | .cells _ t frozen => .cells #[.iface 350 (.pointer (some ⟨(World.holding Tryz.prog default ⟨#[], #[], []⟩).heap.size + 11, 0, none⟩))] t frozen | o => o).modify 12 fun | .cells _ t frozen => .cells #[.iface 350 (.pointer (some ⟨(World.holding Tryz.prog default ⟨#[], #[], []⟩).heap.size + 12, 0, none⟩))] t frozen | o => o).modify 13 fun | .cells _ t frozen => .cells #[.iface 350 (.pointer (some ⟨(World.holding Tryz.prog default ⟨#[], #[], []⟩).heap.size + 13, 0, none⟩))] t frozen | o => o).modify 14 fun | .cells _ t frozen => .cells #[.iface 350 (.pointer (some ⟨(World.holding Tryz.prog default ⟨#[], #[], []⟩).heap.size + 14, 0, none⟩))] t frozen | o => o).modify 0 fun | .cells _ t frozen => .cells #[.iface 350 (.pointer (some ⟨(World.holding Tryz.prog default ⟨#[], #[], []⟩).heap.size + 15, 0, none⟩))] t frozen | o => o).modify 1 fun | .cells _ t frozen => .cells #[.iface 350 (.pointer (some ⟨(World.holding Tryz.prog default ⟨#[], #[], []⟩).heap.size + 16, 0, none⟩))] t frozen | o => o).modify 2 fun | .cells _ t frozen => .cells #[.iface 350 (.pointer (some ⟨(World.holding Tryz.prog default ⟨#[], #[], []⟩).heap.size + 17, 0, none⟩))] t frozen | o => o).modify 3 fun | .cells _ t frozen => .cells #[.iface 350 (.pointer (some ⟨(World.holding Tryz.prog default ⟨#[], #[], []⟩).heap.size + 18, 0, none⟩))] t frozen | o => o).modify 22 fun | .cells _ t frozen => .cells (([128,191,160,191,128,159,144,191,128,143,0,0,0,0,0,0,0,0,0,0,0,0,0,0,0,0,0,0,0,0,0,0] : List Nat).map fun (n : Nat) => Value.int .u8 (n : Int)).toArray t frozen | o => o).modify 21 fun | .cells _ t frozen => .cells ((Go.Pinned.utf8FirstZ : List Nat).map fun (n : Nat) => Value.int .u8 (n : Int)).toArray t frozen | o => o).modify 15 fun | .cells _ t frozen => .cells #[.iface 180 (.agg #[.pointer (some ⟨29, 52, none⟩)])] t frozen | o => o } : World).forCall (fun _ _ => 0) ⟨#[], #[.int .i64 0], []⟩).memory Tryz.f9.params.toList Rows.fberNotsSpec.vars false #[Value.int .i64 0].toList 8 = some ([.lit (.int .i64 0)], [], places) :=
 ⟨[], by kernel_rfl⟩
theorem lifted (os : Os) (started : os.Started) (H : Type) (enc : TypeId × Value -> H) (F : Stop.Interp) :
  ReturnsInHanded {} Tryz.checked os 9 .any ((OpenSpec.ofChange Rows.fberNotsSpec).preRow enc Tryz.prog Tryz.f9 Rows.fberNotsRow.domain false Rows.fberNotsRow.laid) (((OpenSpec.ofChange Rows.fberNotsSpec).at F).post enc Tryz.prog Tryz.f9 false true false false) := by
 obtain ⟨places, hx⟩ := reads os enc
 refine returnsInHanded_of_row (C := Tryz.checked) (s := OpenSpec.ofChange Rows.fberNotsSpec) own started (by kernel_rfl) Tryz.func9
  (witness_row_at (enc := enc) (C := Tryz.checked) false ({ World.holding Tryz.prog os ⟨#[.cells #[.string sentS0] 368, .cells #[.string sentS1] 368, .cells #[.string sentS2] 368, .cells #[.string sentS3] 368, .cells #[.string sentS4] 368, .cells #[.string sentS5] 368, .cells #[.string sentS6] 368, .cells #[.string sentS7] 368, .cells #[.string sentS8] 368, .cells #[.string sentS9] 368, .cells #[.string sentS10] 368, .cells #[.string sentS11] 368, .cells #[.string sentS12] 368, .cells #[.string sentS13] 368, .cells #[.string sentS14] 368, .cells #[.string sentS15] 368, .cells #[.string sentS16] 368, .cells #[.string sentS17] 368, .cells #[.string sentS18] 368], #[], []⟩ with heap := ((((((((((((((((((((((World.holding Tryz.prog os ⟨#[.cells #[.string sentS0] 368, .cells #[.string sentS1] 368, .cells #[.string sentS2] 368, .cells #[.string sentS3] 368, .cells #[.string sentS4] 368, .cells #[.string sentS5] 368, .cells #[.string sentS6] 368, .cells #[.string sentS7] 368, .cells #[.string sentS8] 368, .cells #[.string sentS9] 368, .cells #[.string sentS10] 368, .cells #[.string sentS11] 368, .cells #[.string sentS12] 368, .cells #[.string sentS13] 368, .cells #[.string sentS14] 368, .cells #[.string sentS15] 368, .cells #[.string sentS16] 368, .cells #[.string sentS17] 368, .cells #[.string sentS18] 368], #[], []⟩).heap.modify 20 fun | .cells _ t frozen => .cells #[.iface 350 (.pointer (some ⟨(World.holding Tryz.prog default ⟨#[], #[], []⟩).heap.size + 0, 0, none⟩))] t frozen | o => o).modify 18 fun | .cells _ t frozen => .cells #[.iface 350 (.pointer (some ⟨(World.holding Tryz.prog default ⟨#[], #[], []⟩).heap.size + 1, 0, none⟩))] t frozen | o => o).modify 5 fun | .cells _ t frozen => .cells #[.iface 350 (.pointer (some ⟨(World.holding Tryz.prog default ⟨#[], #[], []⟩).heap.size + 2, 0, none⟩))] t frozen | o => o).modify 6 fun | .cells _ t frozen => .cells #[.iface 350 (.pointer (some ⟨(World.holding Tryz.prog default ⟨#[], #[], []⟩).heap.size + 3, 0, none⟩))] t frozen | o => o).modify 7 fun | .cells _ t frozen => .cells #[.iface 350 (.pointer (some ⟨(World.holding Tryz.prog default ⟨#[], #[], []⟩).heap.size + 4, 0, none⟩))] t frozen | o => o).modify 8 fun | .cells _ t frozen => .cells #[.iface 350 (.pointer (some ⟨(World.holding Tryz.prog default ⟨#[], #[], []⟩).heap.size + 5, 0, none⟩))] t frozen | o => o).modify 9 fun | .cells _ t frozen => .cells #[.iface 350 (.pointer (some ⟨(World.holding Tryz.prog default ⟨#[], #[], []⟩).heap.size + 6, 0, none⟩))] t frozen | o => o).modify 10 fun | .cells _ t frozen => .cells #[.iface 350 (.pointer (some ⟨(World.holding Tryz.prog default ⟨#[], #[], []⟩).heap.size + 7, 0, none⟩))] t frozen | o => o).modify 11 fun | .cells _ t frozen => .cells #[.iface 350 (.pointer (some ⟨(World.holding Tryz.prog default ⟨#[], #[], []⟩).heap.size + 8, 0, none⟩))] t frozen | o => o).modify 16 fun | .cells _ t frozen => .cells #[.iface 350 (.pointer (some ⟨(World.holding Tryz.prog default ⟨#[], #[], []⟩).heap.size + 9, 0, none⟩))] t frozen | o => o).modify 17 fun | .cells _ t frozen => .cells #[.iface 350 (.pointer (some ⟨(World.holding Tryz.prog default ⟨#[], #[], []⟩).heap.size + 10, 0, none⟩))] t frozen | o => o).modify 4 fun | .cells _ t frozen => .cells #[.iface 350 (.pointer (some ⟨(World.holding Tryz.prog default ⟨#[], #[], []⟩).heap.size + 11, 0, none⟩))] t frozen | o => o).modify 12 fun | .cells _ t frozen => .cells #[.iface 350 (.pointer (some ⟨(World.holding Tryz.prog default ⟨#[], #[], []⟩).heap.size + 12, 0, none⟩))] t frozen | o => o).modify 13 fun | .cells _ t frozen => .cells #[.iface 350 (.pointer (some ⟨(World.holding Tryz.prog default ⟨#[], #[], []⟩).heap.size + 13, 0, none⟩))] t frozen | o => o).modify 14 fun | .cells _ t frozen => .cells #[.iface 350 (.pointer (some ⟨(World.holding Tryz.prog default ⟨#[], #[], []⟩).heap.size + 14, 0, none⟩))] t frozen | o => o).modify 0 fun | .cells _ t frozen => .cells #[.iface 350 (.pointer (some ⟨(World.holding Tryz.prog default ⟨#[], #[], []⟩).heap.size + 15, 0, none⟩))] t frozen | o => o).modify 1 fun | .cells _ t frozen => .cells #[.iface 350 (.pointer (some ⟨(World.holding Tryz.prog default ⟨#[], #[], []⟩).heap.size + 16, 0, none⟩))] t frozen | o => o).modify 2 fun | .cells _ t frozen => .cells #[.iface 350 (.pointer (some ⟨(World.holding Tryz.prog default ⟨#[], #[], []⟩).heap.size + 17, 0, none⟩))] t frozen | o => o).modify 3 fun | .cells _ t frozen => .cells #[.iface 350 (.pointer (some ⟨(World.holding Tryz.prog default ⟨#[], #[], []⟩).heap.size + 18, 0, none⟩))] t frozen | o => o).modify 22 fun | .cells _ t frozen => .cells (([128,191,160,191,128,159,144,191,128,143,0,0,0,0,0,0,0,0,0,0,0,0,0,0,0,0,0,0,0,0,0,0] : List Nat).map fun (n : Nat) => Value.int .u8 (n : Int)).toArray t frozen | o => o).modify 21 fun | .cells _ t frozen => .cells ((Go.Pinned.utf8FirstZ : List Nat).map fun (n : Nat) => Value.int .u8 (n : Int)).toArray t frozen | o => o).modify 15 fun | .cells _ t frozen => .cells #[.iface 180 (.agg #[.pointer (some ⟨29, 52, none⟩)])] t frozen | o => o } : World) #[.int .i64 0] rfl (by kernel_rfl) (by kernel_rfl) (by kernel_rfl)
   (OpenSpec.preRow_of_cond 8 hx (by kernel_rfl) (fun k hk => by cases hk) (by kernel_rfl) (laid_met os _))) ?_
 intro W base args ds gs before hval hW _ _ _ hL _ _
 exact contract H enc W base args ds gs before hval hW hL
end Go.Proofs.YtmenllnokgjdlaaGreatDoor.G.Nots
/-
 FberNots: what the row says of the program's text, alone (the kernel's memory).
-/
namespace Go.Proofs.YtmenllnokgjdlaaGreatDoor.G.Nots
open Go
theorem closed : joinedFacts Tryz.pinned.checked.prog 9 Tryz.f9 (OpenSpec.ofChange Rows.fberNotsSpec).bare Rows.fberNotsRow = true := by kernel_rfl
end Go.Proofs.YtmenllnokgjdlaaGreatDoor.G.Nots
/-
 FberNots: the card, out of the walk (GNotsLaw).
-/
namespace Go.Proofs.YtmenllnokgjdlaaGreatDoor.G.Nots
open Go Go.RowKit Go.Shelf Gp Go.ChangeShapes Go.WideShapes Go.ChangeAt Go.ChangeMaps
theorem said : Rows.FberNotsSaid :=
 OpenClaim.holds_of_cond 9 Tryz.f9 rfl rfl rfl rfl rfl rfl rfl ⟨rfl, rfl, rfl, rfl, rfl⟩ rfl rfl rfl rfl rfl (by kernel_rfl) Tryz.func9 closed
  (of_decide_eq_true (by kernel_rfl)) (by unfold Func.isWrapper; first | (rw [if_pos (by decide +kernel)]; kernel_rfl) | (rw [if_neg (by decide +kernel)]; exact ⟨rfl, rfl⟩))
  (fun os started H enc _ F => by rw [OpenClaim.pre_eq_preRow]; exact lifted os started H enc F)
theorem plain (f : FuncId) (fn : Func) (hf : Tryz.pinned.checked.prog.funcNamed "latiner/latinerlaw09.FberNots" = some f) (hfn : Tryz.pinned.checked.prog.funcs[f]? = some fn) :
  true = Tryz.pinned.checked.prog.looks [] /\ ∀ (j : Nat) t, fn.params[j]? = some t -> Tryz.pinned.checked.prog.wantsStandIn t = false := by
 obtain rfl : f = 9 := Option.some.inj ((show Tryz.prog.funcNamed "latiner/latinerlaw09.FberNots" = some 9 by kernel_rfl).symm.trans hf) |>.symm
 obtain rfl : fn = Tryz.f9 := (Option.some.inj (Tryz.func9.symm.trans hfn)).symm
 refine ⟨by kernel_rfl, fun j t ht => ?_⟩
 rw [Tryz.params9] at ht
 have hm : t = 3 := by have := Array.mem_of_getElem? ht; simp at this; first | exact this | omega | (rcases this with h | h | h <;> simp [h]) | (rcases this with h | h | h | h <;> simp [h])
 subst hm
 exact (show Tryz.prog.wantsStandIn 3 = false by kernel_rfl)
theorem card : Rows.FberNotsCardSaid :=
 Claim7.holds_tied_plain_at .later [] _ _ _ _ said (fun _ h => by cases h) (by kernel_rfl) (fun _ h => by cases h) fberNots_row_tie rfl ⟨rfl, rfl⟩ (by kernel_rfl) rfl plain (by kernel_rfl)
end Go.Proofs.YtmenllnokgjdlaaGreatDoor.G.Nots
namespace Go.Proofs.YtmenllnokgjdlaaGreatDoor
theorem fberNots_holds : Rows.FberNotsCardSaid := G.Nots.card
#print axioms fberNots_holds
end Go.Proofs.YtmenllnokgjdlaaGreatDoor
