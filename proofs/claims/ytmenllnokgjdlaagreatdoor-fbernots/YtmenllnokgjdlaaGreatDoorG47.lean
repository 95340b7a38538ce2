/- Several texts in one: TvBack, GDoorD. Each says what it proves, and its conditions. -/
import Derived.Test.YtmenllnokgjdlaaGreatDoorG46
set_option linter.unusedSimpArgs false
set_option maxHeartbeats 4000000
set_option maxRecDepth 100000
/-
 What is read of the bytes of a right tree, and of what was read: plain mathematics; no program. Conditions: none.
-/
namespace Tv
theorem headT_err {l : List UInt8} {p stop : Nat} {E : Int} (h : headT l p stop = .error E) : E ≠ 0 := by
 unfold headT at h
 split at h
 ·cases h; omega
 ·split at h
  ·cases h; omega
  ·split at h
   next hne => cases h; exact hne
   next => split at h
       ·cases h; omega
       ·cases h
theorem readL_err {α : Type} {rd : Nat -> Nat -> Except Int (α × Nat × Nat)} (hr : ∀ p c E, rd p c = .error E -> E ≠ 0) : ∀ (f p stop c : Nat) (E : Int), readL rd f p stop c = .error E -> E ≠ 0
 | 0, p, stop, c, E, h => by cases h
 | f + 1, p, stop, c, E, h => by
  unfold readL at h
  split at h
  ·split at h
   next e he => cases h; exact hr _ _ _ he
   next x nx c' he =>
    split at h
    next e he2 => cases h; exact readL_err hr f _ _ _ _ he2
    next => cases h
  ·cases h
theorem readT_err (l : List UInt8) : ∀ (k p stop c : Nat) (E : Int), readT l k p stop c = .error E -> E ≠ 0
 | 0, p, stop, c, E, h => by cases h; omega
 | k + 1, p, stop, c, E, h => by
  unfold readT at h
  split at h
  ·cases h; omega
  ·split at h
   next e he => cases h; exact headT_err he
   next t a b he =>
    split at h
    ·split at h
     next e he2 => cases h; exact readL_err (fun q c' E hq => readT_err l k q b c' E hq) _ _ _ _ _ he2
     next => cases h
    ·cases h
theorem dec_err {l : List UInt8} {p E : Int} (h : decT l p = .error E) : E ≠ 0 := by
 unfold decT at h
 split at h
 next hp =>
  split at h
  next e he => cases h; exact readT_err l 12 _ _ _ _ he
  next T' nx' c' hr =>
   split at h
   next => cases h
   next => cases h; omega
 next => cases h; omega
end Tv
/-
 What fber.Read and fber.Decode answer. Conditions: tags are numbers of the machine, data and texts have at most 2000 bytes; the package-level variables hold what the program's text lays.
-/
namespace Go.Proofs.YtmenllnokgjdlaaGreatDoor.G
open Go Go.RowKit Go.Shelf Gp
open D (H_ un)
open F (At FNode box6 box1 set6 set6_blk set6_but zfd)
open Fp (Fl)
open Tv (Tr)
attribute [local go_sem] Oper.semAt_some
def ReadPost (n : Nat) (o : Option (Fl n)) (w : World) (e : Ending) (w' : World) : Prop := Below w.heap.size w w' /\ match o with
 | some f => ∃ d : FD, e = .returned (.tuple #[F.Fd.val d, .int .i64 0]) /\ FNode n w' (fun b => w.heap.size <= b) d f
 | none => e = .returned (.tuple #[F.Fd.val zfd, .int .i64 80])
theorem finQ {b : Nat} {V : World} {tmps : Array Value} {d : FD} {u : Value} {R : Ending -> World -> Prop} (h0 : V.heap[b]? = some (.cells (F.Fd.cs d) 25 (0, 0)))
  (t2 : tmps.getD 2 undef = .pointer (some ⟨b, 0, none⟩)) (t3 : tmps.getD 3 undef = u) (hp : R (.returned (.tuple #[F.Fd.val d, u])) V) :
  bodyPost Tryz.prog Tryz.f16 R Exit.ret { tmps, defers := [] } V := by
 refine ⟨rfl, .tuple #[F.Fd.val d, u], ?_, hp⟩
 obtain ⟨⟨c0, c1, c2, c3, c4, c5⟩, _⟩ := box6 h0
 have t2' : tmps[2]?.getD undef = .pointer (some ⟨b, 0, none⟩) := by simpa using t2
 have t3' : tmps[3]?.getD undef = u := by simpa using t3
 simp [results, Tryz.results16, go_sem, t2', t3', c0, c1, c2, c3, c4, c5]
theorem finD {b : Nat} {V : World} {tmps : Array Value} {d : FD} {u : Value} {R : Ending -> World -> Prop} (h0 : V.heap[b]? = some (.cells (F.Fd.cs d) 25 (0, 0)))
  (t2 : tmps.getD 2 undef = .pointer (some ⟨b, 0, none⟩)) (t3 : tmps.getD 3 undef = u) (hp : R (.returned (.tuple #[F.Fd.val d, u])) V) :
  bodyPost Tryz.prog Tryz.f20 R Exit.ret { tmps, defers := [] } V := by
 refine ⟨rfl, .tuple #[F.Fd.val d, u], ?_, hp⟩
 obtain ⟨⟨c0, c1, c2, c3, c4, c5⟩, _⟩ := box6 h0
 have t2' : tmps[2]?.getD undef = .pointer (some ⟨b, 0, none⟩) := by simpa using t2
 have t3' : tmps[3]?.getD undef = u := by simpa using t3
 simp [results, Tryz.results20, go_sem, t2', t3', c0, c1, c2, c3, c4, c5]
theorem read_door (n : Nat) (T : Tr n) (A : Ad) (w : World) (p : Nat -> Prop) (v : Value) (g : Glob A w) (hok : okN n T) (hN : Node n w p v T) (hn : n <= 90) :
  Calls Tryz.prog 16 #[v] w (ReadPost n (rd n 1 T) w) := by
 have hsh : ∃ tt dd a ll cap, v = .agg #[.int .i64 tt, .string dd, .slice a ll cap] := by
  cases n with
  | zero => exact Empty.elim T
  | succ n =>
   obtain ⟨a, cap, hv, _⟩ := hN.shape
   exact ⟨_, _, _, _, _, hv⟩
 obtain ⟨tt, dd, a, ll, cap, rfl⟩ := hsh
 have hb0 : Below w.heap.size w ((w.alloc (.cells #[.int .i64 tt, .string dd, .slice a ll cap] 28)).alloc (fobj zfd)) := ((Below.refl _ _).alloc (Nat.le_refl _) _).alloc (by simp) _
 have q0 : ((w.alloc (.cells #[.int .i64 tt, .string dd, .slice a ll cap] 28)).alloc (fobj zfd)).heap[w.heap.size]? = some (.cells #[.int .i64 tt, .string dd, .slice a ll cap] 28 (0, 0)) := (Below.heap_alloc _ _ _ (by simp)).trans (World.alloc_heap_new w _)
 have q1 : ((w.alloc (.cells #[.int .i64 tt, .string dd, .slice a ll cap] 28)).alloc (fobj zfd)).heap[w.heap.size + 1]? = some (.cells (F.Fd.cs zfd) 25 (0, 0)) := by
  have := World.alloc_heap_new (w.alloc (.cells #[.int .i64 tt, .string dd, .slice a ll cap] 28)) (fobj zfd)
  rwa [World.size_alloc] at this
 have HR := H_ (read_rd n T A _ p _ (g.next hb0) hok (hN.below hb0) hn)
 obtain ⟨⟨x0, x1, x2⟩, _⟩ := cells3 q0
 dsimp only [fobj, F.Fd.obj, F.Fd.cs, zfd] at x0 x1 x2
 have HQ := H_ (And.intro hb0 q1)
 have HG := H_ g
 obtain ⟨O, hO⟩ : ∃ O, O = rd n 1 T := ⟨_, rfl⟩
 rw [<- hO] at HR ⊢
 clear g hok hN hb0 q0 q1 hO
 go_enter Tryz.func16, Tryz.ntmps16
 go_wp2_with fail
 refine (un HR).mono ?_
 rintro e w2 ⟨hb, hp⟩
 have hB2 := (un HQ).1.trans (hb.mono (un HQ).1.size)
 have hq := (hb.block _ (Array.getElem?_eq_some_iff.1 (un HQ).2).1).trans (un HQ).2
 have hlt2 : w.heap.size + 2 <= w2.heap.size := by have := hb.size; simp at this; omega
 have n1 : ¬ w2.heap.size = w.heap.size + 1 := by omega
 have n2 : ¬ w.heap.size + 1 = w2.heap.size := by omega
 cases O with
 | none =>
  obtain ⟨⟨dk, da, dv, dsa, dsn, dsc, df, dla, dln, dlc⟩, Ty, y, rfl, hE⟩ := hp
  have hal := (Below.refl w2.heap.size w2).alloc (Nat.le_refl _) (fobj ⟨dk, da, dv, dsa, dsn, dsc, df, dla, dln, dlc⟩)
  have hB3 := hB2.trans (hal.mono hB2.size)
  have hq3 := (hal.block _ (Array.getElem?_eq_some_iff.1 hq).1).trans hq
  have HO := H_ (errnoOf_any (.iface Ty y) A _ ((un HG).next hB3) hE)
  have HZ := H_ (And.intro hB3 hq3)
  clear hE hb hB2 hq hal hB3 hq3 HR HQ HG x0 x1 x2
  go_wp2_with fail
  refine (un HO).mono ?_
  rintro e w3 ⟨rfl, hb⟩
  have hB4 := (un HZ).1.trans (hb.mono (un HZ).1.size)
  have hq4 := (hb.block _ (Array.getElem?_eq_some_iff.1 (un HZ).2).1).trans (un HZ).2
  obtain ⟨⟨c0, c1, c2, c3, c4, c5⟩, g0, g1, g2, g3, g4, g5⟩ := box6 hq4
  dsimp only [zfd] at c0 c1 c2 c3 c4 c5
  have HY := H_ (And.intro hB4 hq4)
  clear hb hB4 hq4 HZ HO
  go_wp2
  change bodyPost _ _ _ _ _ (set6 w3 (w.heap.size + 1) zfd)
  refine finQ (set6_blk (un HY).2 zfd) rfl rfl ?_
  exact ⟨below_set6 (un HY).1 (Nat.le_succ _) zfd, rfl⟩
 | some f =>
  obtain ⟨⟨dk, da, dv, dsa, dsn, dsc, df, dla, dln, dlc⟩, rfl, hF⟩ := hp
  have hal := (Below.refl w2.heap.size w2).alloc (Nat.le_refl _) (fobj ⟨dk, da, dv, dsa, dsn, dsc, df, dla, dln, dlc⟩)
  have hB3 := hB2.trans (hal.mono hB2.size)
  have hq3 := (hal.block _ (Array.getElem?_eq_some_iff.1 hq).1).trans hq
  obtain ⟨⟨c0, c1, c2, c3, c4, c5⟩, g0, g1, g2, g3, g4, g5⟩ := box6 hq3
  obtain ⟨⟨d0, d1, d2, d3, d4, d5⟩, _⟩ := box6 (World.alloc_heap_new w2 (fobj ⟨dk, da, dv, dsa, dsn, dsc, df, dla, dln, dlc⟩))
  dsimp only [zfd, fobj, F.Fd.obj, F.Fd.cs] at c0 c1 c2 c3 c4 c5 g0 g1 g2 g3 g4 g5 d0 d1 d2 d3 d4 d5
  have HE := H_ (And.intro hB3 (And.intro hq3 (hF.below hal)))
  clear hF hb hB2 hq hal hB3 hq3 HR HQ HG x0 x1 x2
  go_wp2
  obtain ⟨hB3, hq3, hF⟩ := un HE
  change bodyPost _ _ _ _ _ (set6 (w2.alloc (fobj ⟨dk, da, dv, dsa, dsn, dsc, df, dla, dln, dlc⟩)) (w.heap.size + 1) ⟨dk, da, dv, dsa, dsn, dsc, df, dla, dln, dlc⟩)
  have hbt := set6_but (w2.alloc (fobj ⟨dk, da, dv, dsa, dsn, dsc, df, dla, dln, dlc⟩)) (w.heap.size + 1) ⟨dk, da, dv, dsa, dsn, dsc, df, dla, dln, dlc⟩
  generalize w2.alloc (fobj ⟨dk, da, dv, dsa, dsn, dsc, df, dla, dln, dlc⟩) = X at *
  refine finQ (set6_blk hq3 ⟨dk, da, dv, dsa, dsn, dsc, df, dla, dln, dlc⟩) rfl rfl ?_
  exact ⟨below_set6 hB3 (Nat.le_succ _) ⟨dk, da, dv, dsa, dsn, dsc, df, dla, dln, dlc⟩, _, rfl, (hF.of fun b h1 h2 => hbt.block b h2 (by simp only [World.size_alloc] at h1; omega)).imp fun b h1 _ => by simp only [World.size_alloc] at h1; omega⟩
theorem head_tag {l : List UInt8} {p stop t a b : Nat} (h : Tv.headT l p stop = .ok (t, a, b)) : t < 256 := by
 unfold Tv.headT at h
 split at h
 ·cases h
 ·split at h
  ·cases h
  ·split at h
   ·cases h
   ·split at h
    ·cases h
    ·cases h
     exact UInt8.toNat_lt _
theorem ok_readL {l : List UInt8} {k : Nat} {q : Nat} (IH : ∀ p stop c T nx c', Tv.readT l k p stop c = .ok (T, nx, c') -> okN (k + 1) T) (stop : Nat) : ∀ (f p c : Nat) (ts : List (Tr (k + 1))) (c' : Nat), Tv.readL (fun q c' => Tv.readT l k q stop c') f p q c = .ok (ts, c') -> ∀ T ∈ ts, okN (k + 1) T
 | 0, p, c, ts, c', h => by cases h; intro T hT; cases hT
 | f + 1, p, c, ts, c', h => by
  rw [Tv.readL] at h
  split at h
  ·cases h1 : Tv.readT l k p stop c with
   | error e => rw [h1] at h; cases h
   | ok r =>
    obtain ⟨x, nx, c1⟩ := r
    rw [h1] at h
    simp only at h
    cases h2 : Tv.readL (fun q c' => Tv.readT l k q stop c') f nx q c1 with
    | error e => rw [h2] at h; cases h
    | ok r =>
     obtain ⟨xs, c2⟩ := r
     rw [h2] at h
     cases h
     intro T hT
     rcases List.mem_cons.1 hT with rfl | hT
     ·exact IH _ _ _ _ _ _ h1
     ·exact ok_readL IH stop f _ _ _ _ h2 T hT
  ·cases h; intro T hT; cases hT
theorem wf_small {t : Nat} (h : t < 256) : (Lit.int .i64 (t : Int)).wf = true := by
 have : ∀ t : Fin 256, (Lit.int .i64 (t.val : Int)).wf = true := by decide +kernel
 exact this ⟨t, h⟩
theorem ok_readT {l : List UInt8} (hl : l.length <= 2000) : ∀ (k p stop c : Nat) (T : Tr (k + 1)) (nx c' : Nat), Tv.readT l k p stop c = .ok (T, nx, c') -> okN (k + 1) T
 | 0, p, stop, c, T, nx, c', h => by cases h
 | k + 1, p, stop, c, T, nx, c', h => by
  rw [Tv.readT] at h
  split at h
  ·cases h
  ·cases h1 : Tv.headT l p stop with
   | error e => rw [h1] at h; cases h
   | ok r =>
    obtain ⟨t, a, b⟩ := r
    rw [h1] at h
    simp only at h
    have ht := head_tag h1
    split at h
    ·cases h2 : Tv.readL (fun q c' => Tv.readT l k q b c') (b - a) a b (c + 1) with
     | error e => rw [h2] at h; cases h
     | ok r =>
      obtain ⟨ks, c2⟩ := r
      rw [h2] at h
      cases h
      exact ⟨wf_small ht, Nat.zero_le _, ok_readL (fun p stop c T nx c' h => ok_readT hl k p stop c T nx c' h) _ _ _ _ _ _ h2⟩
    ·cases h
     refine ⟨wf_small ht, ?_, fun x hx => by cases hx⟩
     show (List.toArray _).size <= 2000
     simp
     omega
theorem ok_whole {l : List UInt8} (hl : l.length <= 2000) {T : Tr 13} (h : Tv.wholeT l = .ok T) : okN 13 T := by
 have key : ∀ T' nx, Tv.decT l 0 = .ok (T', nx) -> okN 13 T' := by
  intro T' nx h1
  unfold Tv.decT at h1
  split at h1
  ·cases h2 : Tv.readT l 12 (0 : Int).toNat l.length 0 with
   | error e => rw [h2] at h1; cases h1
   | ok r =>
    obtain ⟨T2, nx2, c2⟩ := r
    rw [h2] at h1
    simp only at h1
    split at h1
    ·cases h1
     exact ok_readT hl 12 _ _ _ _ _ _ h2
    ·cases h1
  ·cases h1
 unfold Tv.wholeT at h
 cases h1 : Tv.decT l 0 with
 | error e => rw [h1] at h; cases h
 | ok r =>
  obtain ⟨T', nx⟩ := r
  rw [h1] at h
  simp only at h
  split at h
  ·cases h
  ·cases h
   exact key _ _ h1
theorem err_ne {l : List UInt8} {E : Int} (h : Tv.wholeT l = .error E) : E ≠ 0 := by
 unfold Tv.wholeT at h
 cases h1 : Tv.decT l 0 with
 | error e =>
  rw [h1] at h
  cases h
  exact Tv.dec_err h1
 | ok r =>
  obtain ⟨T', nx⟩ := r
  rw [h1] at h
  simp only at h
  split at h
  ·cases h
   decide
  ·cases h
def decO (l : List UInt8) : Option (Fl 13) := match Tv.wholeT l with
 | .error _ => none
 | .ok T => rd 13 1 T
theorem decode_door (s : ByteArray) (A : Ad) (w : World) (g : Glob A w) (hs : s.size <= 2000) :
  Calls Tryz.prog 20 #[.string s] w (ReadPost 13 (decO s.data.toList) w) := by
 have hb0 : Below w.heap.size w (w.alloc (fobj zfd)) := (Below.refl _ _).alloc (Nat.le_refl _) _
 have q1 : (w.alloc (fobj zfd)).heap[w.heap.size]? = some (.cells (F.Fd.cs zfd) 25 (0, 0)) := World.alloc_heap_new _ _
 have HR := H_ (whole_any s A.t A.aS A.aF _ (g.next hb0).gt (by omega))
 have hsl : s.data.toList.length <= 2000 := by rw [Array.length_toList]; exact hs
 have HOk := H_ fun T (h : Tv.wholeT s.data.toList = .ok T) => ok_whole hsl h
 have HQ := H_ (And.intro hb0 q1)
 have HG := H_ g
 clear g hb0 q1 hsl hs
 obtain ⟨O, hO⟩ : ∃ O, O = decO s.data.toList := ⟨_, rfl⟩
 rw [<- hO]
 unfold decO at hO
 have HO' := H_ hO
 clear hO
 go_enter Tryz.func20, Tryz.ntmps20
 go_wp2_with fail
 refine (un HR).mono ?_
 rintro e w2 ⟨hb, hp⟩
 have hB2 := (un HQ).1.trans (hb.mono (un HQ).1.size)
 have hq := (hb.block _ (Array.getElem?_eq_some_iff.1 (un HQ).2).1).trans (un HQ).2
 have hlt2 : w.heap.size + 1 <= w2.heap.size := by have := hb.size; simp at this; omega
 have n1 : ¬ w2.heap.size = w.heap.size := by omega
 have n2 : ¬ w.heap.size = w2.heap.size := by omega
 have hO := un HO'
 clear HO'
 cases hw : Tv.wholeT s.data.toList with
 | error E =>
  rw [hw] at hp hO
  subst hO
  obtain rfl := hp
  have hne : E ≠ 0 := err_ne hw
  have bE : (E != 0) = true := by simpa using hne
  have hal := (Below.refl w2.heap.size w2).alloc (Nat.le_refl _) znObj
  have hB3 := hB2.trans (hal.mono hB2.size)
  have hq3 := (hal.block _ (Array.getElem?_eq_some_iff.1 hq).1).trans hq
  have HO := H_ (errnoOf_any (nov E) A _ ((un HG).next hB3) (IsErr.nov A E))
  have HZ := H_ (And.intro hB3 hq3)
  clear hb hB2 hq hal hB3 hq3 HR HQ HG HOk hw hne
  go_wp2_with fail
  refine (un HO).mono ?_
  rintro e w3 ⟨rfl, hb⟩
  have hB4 := (un HZ).1.trans (hb.mono (un HZ).1.size)
  have hq4 := (hb.block _ (Array.getElem?_eq_some_iff.1 (un HZ).2).1).trans (un HZ).2
  obtain ⟨⟨c0, c1, c2, c3, c4, c5⟩, g0, g1, g2, g3, g4, g5⟩ := box6 hq4
  dsimp only [zfd] at c0 c1 c2 c3 c4 c5
  have HY := H_ (And.intro hB4 hq4)
  clear hb hB4 hq4 HZ HO
  go_wp2
  change bodyPost _ _ _ _ _ (set6 w3 w.heap.size zfd)
  refine finD (set6_blk (un HY).2 zfd) rfl rfl ?_
  exact ⟨below_set6 (un HY).1 (Nat.le_refl _) zfd, rfl⟩
 | ok T =>
  rw [hw] at hp hO
  obtain ⟨v, rfl, hNd⟩ := hp
  obtain ⟨ka, kc, rfl, _, _, _⟩ := hNd.shape
  have hal := (Below.refl w2.heap.size w2).alloc (Nat.le_refl _) (.cells #[.int .i64 (Tv.tag T), .string (Tv.dat T), .slice ka (Tv.kids T).length kc] 28)
  have hB3 := hB2.trans (hal.mono hB2.size)
  have hq3 := (hal.block _ (Array.getElem?_eq_some_iff.1 hq).1).trans hq
  have HRd := H_ (read_door 13 T A _ _ _ ((un HG).next hB3) ((un HOk) T hw) (hNd.below hal) (by decide))
  rw [show rd 13 1 T = O from hO.symm] at HRd
  have HZ := H_ (And.intro hB3 hq3)
  obtain ⟨⟨d0, d1, d2⟩, _⟩ := cells3 (World.alloc_heap_new w2 (.cells #[.int .i64 (Tv.tag T), .string (Tv.dat T), .slice ka (Tv.kids T).length kc] 28))
  have hsz : (w2.alloc (.cells #[.int .i64 (Tv.tag T), .string (Tv.dat T), .slice ka (Tv.kids T).length kc] 28)).heap.size = w2.heap.size + 1 := by simp
  have HSz := H_ hsz
  clear hb hB2 hq hal hB3 hq3 HR HQ HG HOk hw hNd hO hsz
  go_wp2_with fail
  refine (un HRd).mono ?_
  rintro e w3 ⟨hb, hp⟩
  have hB4 := (un HZ).1.trans (hb.mono (un HZ).1.size)
  have hq4 := (hb.block _ (Array.getElem?_eq_some_iff.1 (un HZ).2).1).trans (un HZ).2
  have hz3 := hb.size
  rw [un HSz] at hz3
  obtain ⟨⟨c0, c1, c2, c3, c4, c5⟩, g0, g1, g2, g3, g4, g5⟩ := box6 hq4
  dsimp only [zfd] at c0 c1 c2 c3 c4 c5
  have HY := H_ (And.intro hB4 hq4)
  clear hb hB4 hq4 HZ HRd d0 d1 d2
  cases O with
  | none =>
   obtain rfl := hp
   go_wp2
   change bodyPost _ _ _ _ _ (set6 w3 w.heap.size zfd)
   refine finD (set6_blk (un HY).2 zfd) rfl rfl ?_
   exact ⟨below_set6 (un HY).1 (Nat.le_refl _) zfd, rfl⟩
  | some f =>
   obtain ⟨⟨dk, da, dv, dsa, dsn, dsc, df, dla, dln, dlc⟩, rfl, hF⟩ := hp
   have HF := H_ hF
   clear hF
   go_wp2
   change bodyPost _ _ _ _ _ (set6 w3 w.heap.size ⟨dk, da, dv, dsa, dsn, dsc, df, dla, dln, dlc⟩)
   have hbt := set6_but w3 w.heap.size ⟨dk, da, dv, dsa, dsn, dsc, df, dla, dln, dlc⟩
   refine finD (set6_blk (un HY).2 ⟨dk, da, dv, dsa, dsn, dsc, df, dla, dln, dlc⟩) rfl rfl ?_
   exact ⟨below_set6 (un HY).1 (Nat.le_refl _) ⟨dk, da, dv, dsa, dsn, dsc, df, dla, dln, dlc⟩, _, rfl, ((un HF).of fun b h1 h2 => hbt.block b h2 (by rw [un HSz] at h1; omega)).imp fun b h1 _ => by rw [un HSz] at h1; omega⟩
end Go.Proofs.YtmenllnokgjdlaaGreatDoor.G
