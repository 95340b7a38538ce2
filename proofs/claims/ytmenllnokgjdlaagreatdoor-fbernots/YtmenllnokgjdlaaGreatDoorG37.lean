/- Several texts in one: GTake, GAsk, GCond, FRd6, FRd7, FGrow, FRd8, FApd. Each says what it proves, and its conditions. -/
import Derived.Test.YtmenllnokgjdlaaGreatDoorG36
set_option linter.unusedSimpArgs false
set_option maxHeartbeats 4000000
set_option maxRecDepth 100000
/-
 What fber.takePieces puts into a filter. Conditions: six pieces at most.
-/
namespace Go.Proofs.YtmenllnokgjdlaaGreatDoor.G
open Go Go.RowKit Go.Shelf Gp
open D (H_ un)
open F (At FNode Strs strs infoS own_below own_cells box6 cells_new set6 set6_blk heap_set)
open Tv (Tr)
attribute [local go_sem] Oper.semAt_some
def okN : (n : Nat) -> Tr n -> Prop
 | 0, t => Empty.elim t
 | n + 1, T => (Lit.int .i64 (Tv.tag T)).wf = true /\ (Tv.dat T).size <= 2000 /\ ∀ x ∈ Tv.kids T, okN n x
theorem okN_dat : ∀ {n : Nat} {T : Tr n}, okN n T -> (datN n T).size <= 2000
 | 0, t, _ => Empty.elim t
 | _ + 1, _, h => h.2.1
theorem node_td : ∀ {m : Nat} {W : World} {p : Nat -> Prop} {t : Int} {d : ByteArray} {a : Option Addr} {l c : Nat} {T : Tr m}, Node m W p (.agg #[.int .i64 t, .string d, .slice a l c]) T -> t = tagN m T /\ d = datN m T /\ l = (kidsN m T).length /\ d.size <= 9000
 | 0, _, _, _, _, _, _, _, T, _ => Empty.elim T
 | m + 1, W, p, t, d, a, l, c, T, ⟨a', c', h, hd, _⟩ => by
  injection h with h
  have e' := congrArg Array.toList h
  simp only [List.cons.injEq, Value.int.injEq, Value.string.injEq, Value.slice.injEq, true_and, and_true] at e'
  obtain ⟨rfl, rfl, _, rfl, _⟩ := e'
  exact ⟨rfl, rfl, rfl, hd⟩
theorem take_step {m : Nat} {ks : List (Tr m)} {j : Nat} (h : j < ks.length) : take (ks.take (j + 1)) = put (take (ks.take j)) (tagN m ks[j]) (datN m ks[j]) := by
 unfold take
 rw [List.take_succ_eq_append_getElem h, List.foldl_append]
 rfl
theorem put_le {s : ByteArray × List ByteArray × ByteArray} {t : Int} {d : ByteArray} {M : Nat} (h : s.2.1.length <= M) : (put s t d).2.1.length <= M + 1 := by
 unfold put
 split
 ·show s.2.1.length <= _; omega
 ·split
  ·show (s.2.1 ++ [d]).length <= _; simp; omega
  ·split <;> (show s.2.1.length <= _; omega)
theorem take_le {m : Nat} : ∀ (ks : List (Tr m)), (take ks).2.1.length <= ks.length := by
 intro ks
 have key : ∀ (l : List (Tr m)) (s : ByteArray × List ByteArray × ByteArray), (l.foldl (fun s x => put s (tagN m x) (datN m x)) s).2.1.length <= s.2.1.length + l.length := by
  intro l
  induction l with
  | nil => intro s; simp
  | cons x l ih =>
   intro s
   rw [List.foldl_cons]
   have h1 := ih (put s (tagN m x) (datN m x))
   have h2 := put_le (t := tagN m x) (d := datN m x) (Nat.le_refl s.2.1.length)
   rw [List.length_cons]
   omega
 have := key ks (⟨#[]⟩, [], ⟨#[]⟩)
 simpa [take] using this
structure Tin (w : World) (bf : Nat) (k : Int) (nm : ByteArray) (s : ByteArray × List ByteArray × ByteArray) (sa : Option Addr) (sc : Nat) (W : World) : Prop where
 b : W.heap[bf]? = some (.cells (F.Fd.cs ⟨k, nm, s.1, sa, s.2.1.length, sc, s.2.2, none, 0, 0⟩) 25 (0, 0))
 own : W.ownsRow w.heap.size 9 1 (.slice sa s.2.1.length sc) s.2.1.length (strs s.2.1)
 but : F.But bf w W
theorem Tin.below {w : World} {bf : Nat} {k : Int} {nm : ByteArray} {s : ByteArray × List ByteArray × ByteArray} {sa : Option Addr} {sc : Nat} {W V : World} (h : Tin w bf k nm s sa sc W) (hb : Below W.heap.size W V) : Tin w bf k nm s sa sc V :=
 ⟨(hb.block _ (Array.getElem?_eq_some_iff.1 h.b).1).trans h.b, own_below h.own hb, h.but.trans (F.But.of_below hb)⟩
def TakePost (bf : Nat) (k : Int) (nm : ByteArray) (s : ByteArray × List ByteArray × ByteArray) (w : World) (e : Ending) (w' : World) : Prop := (∃ v, e = .returned v) /\ ∃ sa sc, Tin w bf k nm s sa sc w'
theorem takeP_any {m : Nat} (y : Tr (m + 1)) (w : World) (p : Nat -> Prop) (a : Option Addr) (cap bf : Nat) (k : Int) (nm : ByteArray) (hN : Node (m + 1) w p (.agg #[.int .i64 (Tv.tag y), .string (Tv.dat y), .slice a (Tv.kids y).length cap]) y) (hp : ¬ p bf) (h6 : (Tv.kids y).length <= 6)
  (hb : w.heap[bf]? = some (.cells (F.Fd.cs ⟨k, nm, ⟨#[]⟩, none, 0, 0, ⟨#[]⟩, none, 0, 0⟩) 25 (0, 0))) :
  Calls Tryz.prog 171 #[.pointer (some ⟨bf, 0, none⟩), .slice a (Tv.kids y).length cap] w (TakePost bf k nm (take (Tv.kids y)) w) := by
 have h6i : ((Tv.kids y).length : Int) <= 6 := by omega
 have hT0 : Tin w bf k nm (take ((Tv.kids y).take 0)) none 0 w := ⟨hb, World.ownsRow_nil w _ _ 1, F.But.refl _ _⟩
 have HT0 := H_ hT0
 have HN := H_ hN
 have hbl := (Array.getElem?_eq_some_iff.1 hb).1
 obtain ⟨i0, hi0, hz0, hz1, hz2⟩ := infoS
 clear hT0 hN hb
 go_enter Tryz.func171, Tryz.ntmps171
 go_wp2
 go_loopw [9] (fun i wr => ∃ (j : Nat) (sa : Option Addr) (sc : Nat), j <= (Tv.kids y).length /\ i = .int .i64 (j : Int) /\ Hid (Tin w bf k nm (take ((Tv.kids y).take j)) sa sc wr)) (fun i _ => (Tv.kids y).length - (intOf i).toNat)
 case atStart => exact ⟨0, none, 0, Nat.zero_le _, rfl, HT0⟩
 case round =>
  obtain ⟨j, sa, sc, hj, rfl, hT⟩ := hrel
  clear HT0
  by_cases hlt : j < (Tv.kids y).length
  ·have hNw : Node (m + 1) wr p (.agg #[.int .i64 (Tv.tag y), .string (Tv.dat y), .slice a (Tv.kids y).length cap]) y := (un HN).of fun b h1 h2 => (un hT).but.block b h2 (fun e => hp (e ▸ h1))
   obtain ⟨a', cap', hv, _, _, hks⟩ := hNw.shape
   injection hv with hv
   have e' := congrArg Array.toList hv
   simp only [List.cons.injEq, Value.slice.injEq, true_and, and_true] at e'
   obtain ⟨rfl, rfl⟩ := e'
   obtain ⟨g, off, ha, hpg, t, d, a1, l1, c1, q0, q1, q2, hN1⟩ := hks j hlt
   obtain ⟨ht, hd, -, hd9⟩ := node_td hN1
   have htk := take_step hlt
   rw [<- ht, <- hd] at htk
   have hsl : (take ((Tv.kids y).take j)).2.1.length <= 6 := Nat.le_trans (take_le _) (by rw [List.length_take]; omega)
   generalize take ((Tv.kids y).take j) = s at *
   have hal := (Below.refl wr.heap.size wr).alloc (Nat.le_refl _) (.cells #[.int .i64 t, .string d, .slice a1 l1 c1] 28)
   have hbx := World.alloc_heap_new wr (.cells #[.int .i64 t, .string d, .slice a1 l1 c1] 28)
   have HC := H_ fun W => F.clone_any d W (by omega)
   have HTk := H_ htk
   have Hal := H_ (And.intro hal hbx)
   have HT := H_ (un hT)
   have hlt' : (j : Int) < (Tv.kids y).length := by omega
   obtain ⟨⟨x0, x1, x2⟩, _⟩ := cells3 hbx
   subst ha
   clear hv hks hNw hN1 ht hd htk hal hbx hT hd9
   go_wp2_with fail
   refine ((un HC) _).mono ?_
   rintro e w2 ⟨rfl, hb2⟩
   have hb3 := (un Hal).1.trans (hb2.mono (un Hal).1.size)
   obtain ⟨⟨z0, z1, z2⟩, _⟩ := cells3 ((hb2.block _ (by simp)).trans (un Hal).2)
   have hT2 := (un HT).below hb3
   obtain ⟨⟨y0, y1, y2, y3, y4, y5⟩, f0, f1, f2, f3, f4, f5⟩ := box6 hT2.b
   dsimp only at y0 y1 y2 y3 y4 y5
   have HT2 := H_ hT2
   have hw2 : w.heap.size <= w2.heap.size := hT2.but.size
   have hbf2 : bf < w2.heap.size := (Array.getElem?_eq_some_iff.1 hT2.b).1
   clear hb2 hb3 hT2 Hal HT HC x0 x1 x2 q0 q1 q2
   by_cases h128 : t = 128
   ·subst h128
    have hput : put s 128 d = (d, s.2.1, s.2.2) := by unfold put; rw [if_pos rfl]
    have HT3 : Hid (Tin w bf k nm (put s 128 d) sa sc (w2.setCell ⟨bf, 2, none⟩ (.string d))) := H_ (by
     have h := un HT2
     rw [hput]
     exact ⟨heap_set w2 bf 2 _ _ _ h.b, ownsRow_setCell_below h.own (a := ⟨bf, 2, none⟩) hbl _, h.but.setCell 2 _⟩)
    clear hput
    go_wp2
    go_roundw
    case rel => exact ⟨j + 1, sa, sc, by omega, by simp, by rw [un HTk]; exact HT3⟩
    case measure => simp [intOf]; omega
   ·have b128 : (t == 128) = false := by simpa using h128
    by_cases h129 : t = 129
    ·subst h129
     have hput : put s 129 d = (s.1, s.2.1 ++ [d], s.2.2) := by unfold put; rw [if_neg (by decide), if_pos rfl]
     have HO := H_ (((un HT2).own).alloc (.cells #[.string d] 9))
     have HPut := H_ hput
     clear hput
     go_wp2_with (at_builtin; refine wpList_append_lies _ rfl (.tmp 30) (.tmp 32) 22 rfl w.heap.size 9 i0 (.string ⟨#[]⟩) 1 16 Tryz.underlying22 hi0 hz0 hz1 hz2 rfl (by omega) _ s.2.1.length _ rfl (un HO) ⟨w2.heap.size, 0, none⟩ 1 1 [.string d] rfl rfl (cells_new w2 _ _) (by simp [Value.oneCell']) (by omega) (by unfold maxLen; omega) (by omega) (by simp; omega) (w2.heap.size + 1) (by simp) ?_; intro gg cp w5 hown hgrow hat2 hglt; have hb5 : w5.heap[bf]? = some (.cells (F.Fd.cs ⟨k, nm, s.1, sa, s.2.1.length, sc, s.2.2, none, 0, 0⟩) 25 (0, 0)) := (hgrow.block bf (by simp; omega) (fun e => by have := ((un HO).lt _ e.symm).1; omega)).trans ((Below.heap_alloc _ _ _ hbf2).trans (un HT2).b); obtain ⟨⟨u0, u1, u2, u3, u4, u5⟩, v0, v1, v2, v3, v4, v5⟩ := box6 hb5; dsimp only at u0 u1 u2 u3 u4 u5; have HAll := H_ (And.intro hb5 (And.intro hown hgrow)); clear hb5 hown hgrow hat2 hglt y0 y1 y2 y3 y4 y5 f0 f1 f2 f3 f4 f5)
     obtain ⟨hb5, hown, hgrow⟩ := un HAll
     have HT3 : Hid (Tin w bf k nm (put s 129 d) (some ⟨gg, 0, none⟩) cp (w5.setCell ⟨bf, 3, none⟩ (.slice (some ⟨gg, 0, none⟩) (s.2.1.length + 1) cp))) := H_ (by
      have h := un HT2
      rw [un HPut]
      refine ⟨?_, ?_, ?_⟩
      ·have := heap_set w5 bf 3 _ _ (.slice (some ⟨gg, 0, none⟩) (s.2.1.length + 1) cp) hb5
       simpa using this
      ·have := ownsRow_setCell_below hown (a := ⟨bf, 3, none⟩) hbl (.slice (some ⟨gg, 0, none⟩) (s.2.1.length + 1) cp)
       simpa [strs] using this
      ·have hz5 : w2.heap.size <= w5.heap.size := by have := hgrow.size; simp at this; omega
       refine F.But.setCell ⟨hgrow.os.trans h.but.os, hgrow.tape.trans h.but.tape, hgrow.output.trans h.but.output, Nat.le_trans h.but.size hz5, fun q hq hn => ?_⟩ 3 _
       exact (hgrow.block q (by simp; omega) (fun e => by have := ((un HO).lt _ e.symm).1; omega)).trans ((Below.heap_alloc _ _ _ (by omega)).trans (h.but.block q hq hn)))
     clear hb5 hown hgrow HO HPut HAll
     go_roundw
     case rel => exact ⟨j + 1, _, _, by omega, by simp, by rw [un HTk]; exact HT3⟩
     case measure => simp [intOf]; omega
    ·have b129 : (t == 129) = false := by simpa using h129
     by_cases h130 : t = 130
     ·subst h130
      have hput : put s 130 d = (s.1, s.2.1, d) := by unfold put; rw [if_neg (by decide), if_neg (by decide), if_pos rfl]
      have HT3 : Hid (Tin w bf k nm (put s 130 d) sa sc (w2.setCell ⟨bf, 4, none⟩ (.string d))) := H_ (by
       have h := un HT2
       rw [hput]
       exact ⟨heap_set w2 bf 4 _ _ _ h.b, ownsRow_setCell_below h.own (a := ⟨bf, 4, none⟩) hbl _, h.but.setCell 4 _⟩)
      clear hput
      go_wp2
      go_roundw
      case rel => exact ⟨j + 1, sa, sc, by omega, by simp, by rw [un HTk]; exact HT3⟩
      case measure => simp [intOf]; omega
     ·have b130 : (t == 130) = false := by simpa using h130
      have hput : put s t d = s := by unfold put; rw [if_neg h128, if_neg h129, if_neg h130]
      have HT3 : Hid (Tin w bf k nm (put s t d) sa sc w2) := H_ (by rw [hput]; exact un HT2)
      clear hput
      go_wp2
      go_roundw
      case rel => exact ⟨j + 1, sa, sc, by omega, by simp, by rw [un HTk]; exact HT3⟩
      case measure => simp [intOf]; omega
  ·have hge : ¬ (j : Int) < (Tv.kids y).length := by omega
   have hT' := un hT
   rw [List.take_of_length_le (by omega)] at hT'
   have HT' := H_ hT'
   clear hT hT'
   go_wp2
   refine bodyPost_ret (results_none rfl _ _ _) rfl ?_
   exact ⟨⟨_, rfl⟩, _, _, un HT'⟩
end Go.Proofs.YtmenllnokgjdlaaGreatDoor.G
/-
 What fber.asked answers. Conditions: tags are numbers of the machine, data have at most 2000 bytes; the package-level variables hold what the program's text lays.
-/
namespace Go.Proofs.YtmenllnokgjdlaaGreatDoor.G
open Go Go.RowKit Go.Shelf Gp
open D (H_ un)
open F (At FNode Strs strs box6 set6 set6_blk set6_but heap_set zfd Is Sm own_cells)
open Fp (Fl)
open Tv (Tr)
attribute [local go_sem] Oper.semAt_some
def AskPost (m : Nat) (A : Ad) (o : Option (Fl (m + 1))) (w : World) (e : Ending) (w' : World) : Prop := Below w.heap.size w w' /\ match o with
 | some f => ∃ d : FD, e = .returned (.tuple #[F.Fd.val d, .nilIface]) /\ FNode (m + 1) w' (fun b => w.heap.size <= b) d f
 | none => ∃ (d : FD) (T : TypeId) (y : Value), e = .returned (.tuple #[F.Fd.val d, .iface T y]) /\ IsErr A (.iface T y)
theorem finK {b : Nat} {V : World} {tmps : Array Value} {d : FD} {u : Value} {R : Ending -> World -> Prop} (h0 : V.heap[b]? = some (.cells (F.Fd.cs d) 25 (0, 0)))
  (t4 : tmps.getD 4 undef = .pointer (some ⟨b, 0, none⟩)) (t5 : tmps.getD 5 undef = u) (hp : R (.returned (.tuple #[F.Fd.val d, u])) V) :
  bodyPost Tryz.prog Tryz.f152 R Exit.ret { tmps, defers := [] } V := by
 refine ⟨rfl, .tuple #[F.Fd.val d, u], ?_, hp⟩
 obtain ⟨⟨c0, c1, c2, c3, c4, c5⟩, _⟩ := box6 h0
 have t4' : tmps[4]?.getD undef = .pointer (some ⟨b, 0, none⟩) := by simpa using t4
 have t5' : tmps[5]?.getD undef = u := by simpa using t5
 simp [results, Tryz.results152, go_sem, t4', t5', c0, c1, c2, c3, c4, c5]
theorem gval_node {m : Nat} (k : Int) {a v : ByteArray} (W : World) (p : Nat -> Prop) (ha : a.size <= 2000) (hv : v.size <= 2000) : FNode (m + 1) W p ⟨k, a, v, none, 0, 0, ⟨#[]⟩, none, 0, 0⟩ (Fp.mk k a v [] ⟨#[]⟩ []) :=
 ⟨⟨rfl, rfl, rfl, rfl, rfl, rfl⟩, ⟨ha, hv, Nat.zero_le _, Nat.zero_le _, (fun x hx => by cases hx), Nat.zero_le _⟩, .inl rfl, .inl rfl⟩
theorem below_set6 {B b : Nat} {a W : World} (h : Below B a W) (hb : B <= b) (d : FD) : Below B a (set6 W b d) :=
 ⟨(set6_but W b d).os.trans h.os, (set6_but W b d).tape.trans h.tape, (set6_but W b d).output.trans h.output, Nat.le_trans h.size (set6_but W b d).size, fun k hk => by
  have h1 := h.block k hk
  by_cases hl : k < W.heap.size
  ·exact ((set6_but W b d).block k hl (by omega)).trans h1
  ·have hz : (set6 W b d).heap.size = W.heap.size := by simp
   rw [<- h1, Array.getElem?_eq_none (by omega), Array.getElem?_eq_none (by omega)]⟩
theorem asked_len {n m : Nat} {k : Int} {T : Tr (n + 1)} (h7 : k ≠ 7) (hl : (Tv.kids T).length ≠ 2) : (asked k T : Option (Fl (m + 1))) = none := by
 unfold asked
 rw [if_neg h7]
 match hk : Tv.kids T with
 | [] => rfl
 | [x] => rfl
 | [x, y] => rw [hk] at hl; exact absurd rfl hl
 | x :: y :: z :: r => rfl
theorem asked_two {n m : Nat} {k : Int} {T : Tr (n + 1)} {x y : Tr n} (h7 : k ≠ 7) (hk : Tv.kids T = [x, y]) : (asked k T : Option (Fl (m + 1))) = if k ≠ 4 then some (Fp.mk k (datN n x) (datN n y) [] ⟨#[]⟩ []) else if 6 < (kidsN n y).length then none
  else some (Fp.mk 4 (datN n x) (take (kidsN n y)).1 (take (kidsN n y)).2.1 (take (kidsN n y)).2.2 []) := by
 unfold asked
 rw [if_neg h7, hk]
theorem take_small {m : Nat} {M : Nat} : ∀ (ks : List (Tr m)), (∀ x ∈ ks, (datN m x).size <= M) -> (take ks).1.size <= M /\ (take ks).2.2.size <= M /\ ∀ x ∈ (take ks).2.1, x.size <= M := by
 have key : ∀ (l : List (Tr m)) (s : ByteArray × List ByteArray × ByteArray), (∀ x ∈ l, (datN m x).size <= M) -> (s.1.size <= M /\ s.2.2.size <= M /\ ∀ x ∈ s.2.1, x.size <= M) ->
   (l.foldl (fun s x => put s (tagN m x) (datN m x)) s).1.size <= M /\ (l.foldl (fun s x => put s (tagN m x) (datN m x)) s).2.2.size <= M /\ ∀ x ∈ (l.foldl (fun s x => put s (tagN m x) (datN m x)) s).2.1, x.size <= M := by
  intro l
  induction l with
  | nil => intro s _ h; exact h
  | cons x l ih =>
   intro s hl h
   rw [List.foldl_cons]
   refine ih _ (fun z hz => hl z (by simp [hz])) ?_
   have hx := hl x (by simp)
   unfold put
   split
   ·exact ⟨hx, h.2.1, h.2.2⟩
   ·split
    ·refine ⟨h.1, h.2.1, fun z hz => ?_⟩
     rcases List.mem_append.1 hz with h1 | h1
     ·exact h.2.2 z h1
     ·simp at h1; rw [h1]; exact hx
    ·split
     ·exact ⟨h.1, hx, h.2.2⟩
     ·exact h
 intro ks h
 exact key ks _ h ⟨Nat.zero_le _, Nat.zero_le _, fun x hx => by cases hx⟩
theorem asked_any {n m : Nat} (k : Int) (T : Tr (n + 1)) (A : Ad) (w : World) (p : Nat -> Prop) (v : Value) (g : Glob A w) (hN : Node (n + 1) w p v T) (hok : okN (n + 1) T) :
  Calls Tryz.prog 152 #[.int .i64 k, v] w (AskPost m A (asked k T) w) := by
 have hN0 : Node (n + 1) w (fun b => b < w.heap.size) v T := hN.imp fun b _ h => h
 obtain ⟨a, cap, rfl, _, _, hks⟩ := hN0.shape
 obtain ⟨_, hdz, hkok⟩ := hok
 have hb0 : Below w.heap.size w ((w.alloc (.cells #[.int .i64 (Tv.tag T), .string (Tv.dat T), .slice a (Tv.kids T).length cap] 28)).alloc (fobj zfd)) := ((Below.refl _ _).alloc (Nat.le_refl _) _).alloc (by simp) _
 have q0 : ((w.alloc (.cells #[.int .i64 (Tv.tag T), .string (Tv.dat T), .slice a (Tv.kids T).length cap] 28)).alloc (fobj zfd)).heap[w.heap.size]? = some (.cells #[.int .i64 (Tv.tag T), .string (Tv.dat T), .slice a (Tv.kids T).length cap] 28 (0, 0)) := (Below.heap_alloc _ _ _ (by simp)).trans (World.alloc_heap_new w _)
 have q1 : ((w.alloc (.cells #[.int .i64 (Tv.tag T), .string (Tv.dat T), .slice a (Tv.kids T).length cap] 28)).alloc (fobj zfd)).heap[w.heap.size + 1]? = some (.cells (F.Fd.cs zfd) 25 (0, 0)) := by
  have := World.alloc_heap_new (w.alloc (.cells #[.int .i64 (Tv.tag T), .string (Tv.dat T), .slice a (Tv.kids T).length cap] 28)) (fobj zfd)
  rwa [World.size_alloc] at this
 obtain ⟨⟨x0, x1, x2⟩, _⟩ := cells3 q0
 obtain ⟨⟨c0, c1, c2, c3, c4, c5⟩, g0, g1, g2, g3, g4, g5⟩ := box6 q1
 dsimp only [fobj, F.Fd.obj, F.Fd.cs, zfd] at x0 x1 x2 c0 c1 c2 c3 c4 c5 g0 g1 g2 g3 g4 g5
 have HB := H_ hb0
 have HQ := H_ (And.intro q0 q1)
 have HG := H_ g
 have HN := H_ hN0
 have hgl := D.lt_cell g.vco
 have hgn1 : ¬ w.heap.size + 1 = 2 := by simp only at hgl; omega
 have gv := (g.next hb0).vco
 dsimp only [fobj, F.Fd.obj, F.Fd.cs, zfd] at gv
 clear hgl
 by_cases h7 : k = 7
 ·subst h7
  rw [show (asked 7 T : Option (Fl (m + 1))) = some (Fp.mk 7 (Tv.dat T) ⟨#[]⟩ [] ⟨#[]⟩ []) from by unfold asked; rw [if_pos rfl]]
  have HC := H_ fun W => F.clone_any (Tv.dat T) W (by omega)
  have HZ := H_ hdz
  generalize Tv.dat T = dd at *
  clear hN hN0 hks hkok g hb0 q0 q1 hgn1 gv c0 c1 c2 c3 c4 c5 g0 g1 g2 g3 g4 g5 HN
  go_enter Tryz.func152, Tryz.ntmps152
  go_wp2_with fail
  refine ((un HC) _).mono ?_
  rintro e w2 ⟨rfl, hb⟩
  have hB2 := (un HB).trans (hb.mono (un HB).size)
  have hq1 := (hb.block _ (Array.getElem?_eq_some_iff.1 (un HQ).2).1).trans (un HQ).2
  obtain ⟨⟨c0, c1, c2, c3, c4, c5⟩, g0, g1, g2, g3, g4, g5⟩ := box6 hq1
  dsimp only [zfd] at c0 c1 c2 c3 c4 c5
  have HB2 := H_ (And.intro hB2 hq1)
  clear hb hB2 hq1 HB HQ HC x0 x1 x2
  go_wp2
  change bodyPost _ _ _ _ _ (set6 w2 (w.heap.size + 1) ⟨7, dd, ⟨#[]⟩, none, 0, 0, ⟨#[]⟩, none, 0, 0⟩)
  refine finK (set6_blk (un HB2).2 _) rfl rfl ⟨below_set6 (un HB2).1 (by omega) _, _, rfl, gval_node 7 _ _ (un HZ) (Nat.zero_le _)⟩
 ·have b7 : (k == 7) = false := by simpa using h7
  by_cases hl : (Tv.kids T).length = 2
  ·have hT2 : ∃ x y, Tv.kids T = [x, y] := by
    match hk : Tv.kids T, hl with
    | [x, y], _ => exact ⟨x, y, rfl⟩
   obtain ⟨x, y, hk⟩ := hT2
   cases n with
   | zero => exact Empty.elim x
   | succ n =>
   obtain ⟨gk, off, ha, hpg, tx, dx, ax, lx, cx, u0, u1, u2, hNx⟩ := hks 0 (by omega)
   obtain ⟨g', off', ha', _, ty, dy, ay, ly, cy, v0, v1, v2, hNy⟩ := hks 1 (by omega)
   rw [ha] at ha'
   cases ha'
   subst ha
   rw [show (Tv.kids T)[0] = x from by simp [hk]] at hNx
   rw [show (Tv.kids T)[1] = y from by simp [hk]] at hNy
   have hokx := hkok x (by rw [hk]; simp)
   have hoky := hkok y (by rw [hk]; simp)
   obtain ⟨_, hdx, _, _⟩ := node_td hNx
   obtain ⟨hty, hdy, hly, _⟩ := node_td hNy
   have hxs : dx.size <= 2000 := by rw [hdx]; exact okN_dat hokx
   have hys : dy.size <= 2000 := by rw [hdy]; exact okN_dat hoky
   rw [asked_two h7 hk, <- hdx, <- hdy, <- hly]
   obtain ⟨O, hO⟩ : ∃ O : Option (Fl (m + 1)), O = if k ≠ 4 then some (Fp.mk k dx dy [] ⟨#[]⟩ []) else if 6 < ly then none else some (Fp.mk 4 dx (take (kidsN (n + 1) y)).1 (take (kidsN (n + 1) y)).2.1 (take (kidsN (n + 1) y)).2.2 []) := ⟨_, rfl⟩
   rw [<- hO]
   have HO := H_ hO
   have HL := H_ hl
   have bl : (((Tv.kids T).length : Int) != 2) = false := by simp; omega
   have bi : (1 : Int) < (Tv.kids T).length := by omega
   have bj : (0 : Int) < (Tv.kids T).length := by omega
   have U1 := (hb0.cell (D.lt_cell u1)).trans u1
   simp only [Nat.zero_mul, Nat.add_zero] at U1
   have HC := H_ fun W => F.clone_any dx W (by omega)
   have HV := H_ (And.intro v0 (And.intro v1 v2))
   have HNy := H_ hNy
   have HXY := H_ (And.intro hxs hys)
   have Hoky := H_ hoky
   have Hly := H_ hly
   dsimp only [fobj, F.Fd.obj, F.Fd.cs, zfd] at U1
   clear hl hk hO hN hN0 hks hkok g hb0 q0 q1 HN h7 hdz u0 u1 u2 v0 v1 v2 hNx hNy hokx hoky hdx hdy hty hly gv c0 c1 c2 c3 c4 c5 g0 g1 g2 g3 g4 g5 hxs hys x0 x1
   go_enter Tryz.func152, Tryz.ntmps152
   go_wp2_with fail
   refine ((un HC) _).mono ?_
   rintro e w2 ⟨rfl, hb⟩
   have hB2 := (un HB).trans (hb.mono (un HB).size)
   have hq1 := (hb.block _ (Array.getElem?_eq_some_iff.1 (un HQ).2).1).trans (un HQ).2
   have hq0 := (hb.block _ (Array.getElem?_eq_some_iff.1 (un HQ).1).1).trans (un HQ).1
   have hz2 : w.heap.size + 2 <= w2.heap.size := by have := hb.size; simp at this; omega
   have X2 := fun o => (cells3 ((Below.heap_alloc w2 o _ (Array.getElem?_eq_some_iff.1 hq0).1).trans hq0)).1.2.2
   have lift : ∀ (o : Obj) (q : Nat) u, w.cell? ⟨gk, q, none⟩ = some u -> (w2.alloc o).cell? ⟨gk, q, none⟩ = some u := fun o q u h => by
    have h2 := (hB2.cell (D.lt_cell h)).trans h
    rw [World.cell?_alloc_lt _ _ _ (D.lt_cell h2)]; exact h2
   have V0 := fun o => lift o _ _ (un HV).1
   have V1 := fun o => lift o _ _ (un HV).2.1
   have V2 := fun o => lift o _ _ (un HV).2.2
   simp only [Nat.one_mul] at V0 V1 V2
   have hE4 : Below w2.heap.size w2 ((w2.alloc (.cells #[.int .i64 k, .string dx, .string ⟨#[]⟩, .slice none 0 0, .string ⟨#[]⟩, .slice none 0 0] 25)).alloc (.cells #[.int .i64 ty, .string dy, .slice ay ly cy] 28)) := ((Below.refl _ _).alloc (Nat.le_refl _) _).alloc (by simp) _
   have hF4 : ((w2.alloc (.cells #[.int .i64 k, .string dx, .string ⟨#[]⟩, .slice none 0 0, .string ⟨#[]⟩, .slice none 0 0] 25)).alloc (.cells #[.int .i64 ty, .string dy, .slice ay ly cy] 28)).heap[w2.heap.size]? = some (.cells (F.Fd.cs ⟨k, dx, ⟨#[]⟩, none, 0, 0, ⟨#[]⟩, none, 0, 0⟩) 25 (0, 0)) := (Below.heap_alloc _ _ _ (by simp)).trans (World.alloc_heap_new w2 _)
   have hV4 : ((w2.alloc (.cells #[.int .i64 k, .string dx, .string ⟨#[]⟩, .slice none 0 0, .string ⟨#[]⟩, .slice none 0 0] 25)).alloc (.cells #[.int .i64 ty, .string dy, .slice ay ly cy] 28)).heap[w2.heap.size + 1]? = some (.cells #[.int .i64 ty, .string dy, .slice ay ly cy] 28 (0, 0)) := by
    have := World.alloc_heap_new (w2.alloc (.cells #[.int .i64 k, .string dx, .string ⟨#[]⟩, .slice none 0 0, .string ⟨#[]⟩, .slice none 0 0] 25)) (.cells #[.int .i64 ty, .string dy, .slice ay ly cy] 28)
    rwa [World.size_alloc] at this
   obtain ⟨⟨z0, z1, z2⟩, _⟩ := cells3 hV4
   have hq4 := (hE4.block _ (Array.getElem?_eq_some_iff.1 hq1).1).trans hq1
   have HE4 := H_ (And.intro hE4 (And.intro hF4 hq4))
   have HB2 := H_ hB2
   have n1 : ¬ w2.heap.size = w.heap.size + 1 := by omega
   have n2 : ¬ w.heap.size + 1 = w2.heap.size := by omega
   clear hb hB2 hq1 hq0 lift HB HQ HC HV hE4 hF4 hV4 hq4 U1 x2
   by_cases h4 : k ≠ 4
   ·obtain rfl : O = some (Fp.mk k dx dy [] ⟨#[]⟩ []) := by rw [un HO, if_pos h4]
    have HCy := H_ fun W => F.clone_any dy W (by have := (un HXY).2; omega)
    have b4 : (k != 4) = true := by simpa using h4
    clear h4 hgn1 HG
    go_wp2_with fail
    refine ((un HCy) _).mono ?_
    rintro e w5 ⟨rfl, hb⟩
    obtain ⟨hE4, hF4, hq4⟩ := un HE4
    have hF5 := (hb.block _ (Array.getElem?_eq_some_iff.1 hF4).1).trans hF4
    have hq5 := (hb.block _ (Array.getElem?_eq_some_iff.1 hq4).1).trans hq4
    have hB5 := ((un HB2).trans (hE4.mono (un HB2).size))
    have hB5 := hB5.trans (hb.mono hB5.size)
    obtain ⟨⟨c0, c1, c2, c3, c4, c5⟩, g0, g1, g2, g3, g4, g5⟩ := box6 hq5
    obtain ⟨⟨d0, d1, d2, d3, d4, d5⟩, f0, f1, f2, f3, f4, f5⟩ := box6 hF5
    dsimp only [zfd] at c0 c1 c2 c3 c4 c5 d0 d1 d2 d3 d4 d5
    have HZ := H_ (And.intro hB5 hq5)
    clear hE4 hF4 hq4 hF5 hq5 hB5 hb HE4 HCy X2 V0 V1 V2 z0 z1 z2
    go_wp2
    obtain ⟨hB5, hq5⟩ := un HZ
    have hB6 : Below w.heap.size w (w5.setCell ⟨w2.heap.size, 2, none⟩ (.string dy)) := ⟨hB5.os, hB5.tape, hB5.output, by simpa using hB5.size, fun q hq => (Below.heap_setCell _ _ _ _ (by show q ≠ w2.heap.size; omega)).trans (hB5.block q hq)⟩
    have hq6 := (Below.heap_setCell w5 ⟨w2.heap.size, 2, none⟩ (.string dy) (w.heap.size + 1) (by show w.heap.size + 1 ≠ w2.heap.size; omega)).trans hq5
    change bodyPost _ _ _ _ _ (set6 (w5.setCell ⟨w2.heap.size, 2, none⟩ (.string dy)) (w.heap.size + 1) ⟨k, dx, dy, none, 0, 0, ⟨#[]⟩, none, 0, 0⟩)
    generalize w5.setCell ⟨w2.heap.size, 2, none⟩ (.string dy) = w6 at *
    exact finK (set6_blk hq6 _) rfl rfl ⟨below_set6 hB6 (by omega) _, _, rfl, gval_node k _ _ (un HXY).1 (un HXY).2⟩
   ·have b4 : (k != 4) = false := by simpa using h4
    by_cases hy6 : 6 < ly
    ·obtain rfl : O = none := by rw [un HO, if_neg h4, if_pos hy6]
     have hy6i : (6 : Int) < ly := by omega
     obtain ⟨W4, hW4⟩ : ∃ W4, W4 = ((w2.alloc (.cells #[.int .i64 k, .string dx, .string ⟨#[]⟩, .slice none 0 0, .string ⟨#[]⟩, .slice none 0 0] 25)).alloc (.cells #[.int .i64 ty, .string dy, .slice ay ly cy] 28)) := ⟨_, rfl⟩
     obtain ⟨hE4, hF4, hq4⟩ := un HE4
     rw [<- hW4] at hE4 hq4
     have hB4 := (un HB2).trans (hE4.mono (un HB2).size)
     have gv := ((un HG).next hB4).vco
     obtain ⟨⟨c0, c1, c2, c3, c4, c5⟩, g0, g1, g2, g3, g4, g5⟩ := box6 hq4
     dsimp only [zfd] at c0 c1 c2 c3 c4 c5
     have HZ := H_ (And.intro hB4 hq4)
     have HWe := H_ hW4
     clear hE4 hF4 hq4 HE4 hB4 hW4 HG hy6 HNy
     go_wp2_with fail
     rw [<- un HWe]
     clear HWe z0 z1 z2 V0 V1 V2 X2
     refine wp_mono (Q := fun e a1 V => match e with | .normal => a1.defers = [] /\ a1.tmps.getD 4 undef = .pointer (some ⟨w.heap.size + 1, 0, none⟩) /\ a1.tmps.getD 5 undef = sen A.co /\ V = (set6 W4 (w.heap.size + 1) zfd).drew | _ => False) ?_ ?_
     ·go_region
      all_goals refine ⟨rfl, by simp, by simp, ?_⟩
      all_goals simp only [set6, zfd]
     rintro e ⟨tmps, defers⟩ U hq
     cases e with
     | normal =>
      obtain ⟨hdf, t4, t5, hU⟩ := hq
      dsimp only at hdf t4 t5
      subst hdf
      have HT := H_ (And.intro t4 (And.intro t5 hU))
      clear t4 t5 hU c0 c1 c2 c3 c4 c5 g0 g1 g2 g3 g4 g5 gv
      go_wp2
      obtain ⟨t4, t5, hU⟩ := un HT
      have g0 := set6_blk (un HZ).2 zfd
      have hbX := below_set6 (un HZ).1 (Nat.le_succ w.heap.size) zfd
      generalize set6 W4 (w.heap.size + 1) zfd = X at hU g0 hbX
      subst hU
      exact finK (b := w.heap.size + 1) (d := zfd) (V := X.drew) g0 t4 t5 ⟨hbX.drew, _, _, _, rfl, IsErr.sen (.inr (.inr (.inl rfl)))⟩
     | _ => exact hq.elim
    ·obtain rfl : O = some (Fp.mk 4 dx (take (Tv.kids y)).1 (take (Tv.kids y)).2.1 (take (Tv.kids y)).2.2 []) := by rw [un HO, if_neg h4, if_neg hy6]; rfl
     have hy6i : ¬ (6 : Int) < ly := by omega
     have hly := un Hly
     have hNy := (un HNy).below (un HB2)
     obtain ⟨hE4, hF4, hq4⟩ := un HE4
     have hNy := hNy.below hE4
     obtain ⟨hty, hdy, -, -⟩ := node_td hNy
     change ty = Tv.tag y at hty
     change dy = Tv.dat y at hdy
     change ly = (Tv.kids y).length at hly
     have hks6 : (Tv.kids y).length <= 6 := by omega
     have hTP := takeP_any y ((w2.alloc (.cells #[.int .i64 k, .string dx, .string ⟨#[]⟩, .slice none 0 0, .string ⟨#[]⟩, .slice none 0 0] 25)).alloc (.cells #[.int .i64 ty, .string dy, .slice ay ly cy] 28)) (fun b => b < w.heap.size) ay cy w2.heap.size k dx (by rw [<- hty, <- hdy, <- hly]; exact hNy) (by omega) hks6 hF4
     rw [<- hly] at hTP
     have HTP := H_ hTP
     clear hty hdy hly hNy hTP hE4 hF4 hq4 HG hgn1
     go_wp2_with fail
     refine (un HTP).mono ?_
     rintro e w5 ⟨⟨vv, rfl⟩, sa, sc, hT⟩
     obtain ⟨hE4, hF4, hq4⟩ := un HE4
     have hq5 := (hT.but.block _ (Array.getElem?_eq_some_iff.1 hq4).1 (by omega)).trans hq4
     have hB4 := (un HB2).trans (hE4.mono (un HB2).size)
     have hB5 : Below w.heap.size w w5 := ⟨hT.but.os.trans hB4.os, hT.but.tape.trans hB4.tape, hT.but.output.trans hB4.output, Nat.le_trans hB4.size hT.but.size, fun q hq => (hT.but.block q (by have := hB4.size; omega) (by omega)).trans (hB4.block q hq)⟩
     have hsm := take_small (M := 2000) (Tv.kids y) (fun x hx => okN_dat ((un Hoky).2.2 x hx))
     have hsl := take_le (Tv.kids y)
     generalize take (Tv.kids y) = s at *
     obtain ⟨⟨c0, c1, c2, c3, c4, c5⟩, g0, g1, g2, g3, g4, g5⟩ := box6 hq5
     obtain ⟨⟨d0, d1, d2, d3, d4, d5⟩, f0, f1, f2, f3, f4, f5⟩ := box6 hT.b
     dsimp only [zfd] at c0 c1 c2 c3 c4 c5 d0 d1 d2 d3 d4 d5
     have hz4 := hE4.size
     have HZ := H_ (And.intro hB5 (And.intro hq5 (And.intro hT (And.intro hsm (And.intro hsl hz4)))))
     clear hE4 hF4 hq4 hq5 hB4 hB5 hT hsm HE4 HTP X2 V0 V1 V2 z0 z1 z2 hz4
     go_wp2
     obtain ⟨hB5, hq5, hT, hsm, hsl, hz4⟩ := un HZ
     change bodyPost _ _ _ _ _ (set6 w5 (w.heap.size + 1) ⟨k, dx, s.1, sa, s.2.1.length, sc, s.2.2, none, 0, 0⟩)
     have hbt := set6_but w5 (w.heap.size + 1) ⟨k, dx, s.1, sa, s.2.1.length, sc, s.2.2, none, 0, 0⟩
     have g0 := set6_blk hq5 ⟨k, dx, s.1, sa, s.2.1.length, sc, s.2.2, none, 0, 0⟩
     have hbX := below_set6 hB5 (Nat.le_succ w.heap.size) ⟨k, dx, s.1, sa, s.2.1.length, sc, s.2.2, none, 0, 0⟩
     generalize set6 w5 (w.heap.size + 1) ⟨k, dx, s.1, sa, s.2.1.length, sc, s.2.2, none, 0, 0⟩ = X at *
     refine finK g0 rfl rfl ⟨hbX, _, rfl, ⟨(Classical.not_not.1 h4), rfl, rfl, rfl, rfl, rfl⟩, ⟨(un HXY).1, hsm.1, hsm.2.1, ?_, hsm.2.2, Nat.zero_le _⟩, ?_, .inl rfl⟩
     ·show s.2.1.length <= 1000
      omega
     ·show Strs X _ sa s.2.1
      by_cases hnil : s.2.1 = []
      ·exact .inl hnil
      ·have hpos : 0 < s.2.1.length := by
        cases hs : s.2.1 with
        | nil => exact absurd hs hnil
        | cons _ _ => simp
       obtain ⟨gg, cp, hsl2, _, _⟩ := hT.own.form hpos
       injection hsl2 with e1 _ e3
       subst e1
       have ho := hT.own
       obtain ⟨hc1, hc2, _⟩ := own_cells s.2.1 ho
       have hgl := (ho.lt gg rfl).1
       refine .inr ⟨gg, 0, rfl, by omega, fun i x hi => ?_⟩
       have h1 := hc1 i x hi
       exact (World.cell?_of_block (w := w5) (a := ⟨gg, 0 + i, none⟩) (hbt.block gg hc2 (by omega))).trans h1
  ·rw [asked_len h7 hl]
   have bl : (((Tv.kids T).length : Int) != 2) = true := by simp; omega
   obtain ⟨W, hW⟩ : ∃ W, W = ((w.alloc (.cells #[.int .i64 (Tv.tag T), .string (Tv.dat T), .slice a (Tv.kids T).length cap] 28)).alloc (.cells #[.int .i64 0, .string ⟨#[]⟩, .string ⟨#[]⟩, .slice none 0 0, .string ⟨#[]⟩, .slice none 0 0] 25)) := ⟨_, rfl⟩
   rw [<- hW] at c0 c1 c2 c3 c4 c5 g0 g1 g2 g3 g4 g5 gv
   have HB' : Hid (Below w.heap.size w W) := H_ (by rw [hW]; exact un HB)
   have HQ' : Hid (W.heap[w.heap.size + 1]? = some (.cells (F.Fd.cs zfd) 25 (0, 0))) := H_ (by rw [hW]; exact (un HQ).2)
   have HWe := H_ hW
   clear hN hN0 hks hkok g hb0 q0 q1 HN hl h7 hdz hW HB HQ HG
   go_enter Tryz.func152, Tryz.ntmps152
   go_wp2_with fail
   rw [<- un HWe]
   clear HWe x0 x1 x2
   refine wp_mono (Q := fun e a1 V => match e with | .normal => a1.defers = [] /\ a1.tmps.getD 4 undef = .pointer (some ⟨w.heap.size + 1, 0, none⟩) /\ a1.tmps.getD 5 undef = sen A.co /\ V = (set6 W (w.heap.size + 1) zfd).drew | _ => False) ?_ ?_
   ·go_region
    all_goals refine ⟨rfl, by simp, by simp, ?_⟩
    all_goals simp only [set6, zfd]
   rintro e ⟨tmps, defers⟩ U hq
   cases e with
   | normal =>
    obtain ⟨hdf, t4, t5, hU⟩ := hq
    dsimp only at hdf t4 t5
    subst hdf
    have HT := H_ (And.intro t4 (And.intro t5 hU))
    clear t4 t5 hU c0 c1 c2 c3 c4 c5 g0 g1 g2 g3 g4 g5 gv
    go_wp2
    obtain ⟨t4, t5, hU⟩ := un HT
    have g0 := set6_blk (un HQ') zfd
    have hbX := below_set6 (un HB') (Nat.le_succ w.heap.size) zfd
    generalize set6 W (w.heap.size + 1) zfd = X at hU g0 hbX
    subst hU
    exact finK (b := w.heap.size + 1) (d := zfd) (V := X.drew) g0 t4 t5 ⟨hbX.drew, _, _, _, rfl, IsErr.sen (.inr (.inr (.inl rfl)))⟩
   | _ => exact hq.elim
end Go.Proofs.YtmenllnokgjdlaaGreatDoor.G
/-
 What fber.condition answers. Conditions: tags are numbers of the machine, data have at most 2000 bytes; the package-level variables hold what the program's text lays.
-/
namespace Go.Proofs.YtmenllnokgjdlaaGreatDoor.G
open Go Go.RowKit Go.Shelf Gp
open D (H_ un)
open F (At FNode box6 box1 set6 set6_blk set6_but zfd)
open Fp (Fl fitF)
open Tv (Tr)
attribute [local go_sem] Oper.semAt_some
theorem right_leaf {n : Nat} {f : Fl (n + 1)} (h : Fp.ls f = []) : Fp.right (n + 1) 6 f = fitF f := by
 rw [Fp.right, h]
 simp
theorem finC {b : Nat} {V : World} {tmps : Array Value} {d : FD} {u : Value} {R : Ending -> World -> Prop} (h0 : V.heap[b]? = some (.cells (F.Fd.cs d) 25 (0, 0)))
  (t4 : tmps.getD 4 undef = .pointer (some ⟨b, 0, none⟩)) (t5 : tmps.getD 5 undef = u) (hp : R (.returned (.tuple #[F.Fd.val d, u])) V) :
  bodyPost Tryz.prog Tryz.f123 R Exit.ret { tmps, defers := [] } V := by
 refine ⟨rfl, .tuple #[F.Fd.val d, u], ?_, hp⟩
 obtain ⟨⟨c0, c1, c2, c3, c4, c5⟩, _⟩ := box6 h0
 have t4' : tmps[4]?.getD undef = .pointer (some ⟨b, 0, none⟩) := by simpa using t4
 have t5' : tmps[5]?.getD undef = u := by simpa using t5
 simp [results, Tryz.results123, go_sem, t4', t5', c0, c1, c2, c3, c4, c5]
theorem cond_any {n : Nat} (k : Int) (T : Tr (n + 1)) (A : Ad) (w : World) (p : Nat -> Prop) (v : Value) (g : Glob A w) (hN : Node (n + 1) w p v T) (hok : okN (n + 1) T) (hn : n <= 97) :
  Calls Tryz.prog 123 #[.int .i64 k, v] w (AskPost n A (Gp.cond k T) w) := by
 have hN0 := hN
 obtain ⟨a, cap, rfl, _, _, _⟩ := hN0.shape
 have hb0 : Below w.heap.size w ((w.alloc (.cells #[.int .i64 (Tv.tag T), .string (Tv.dat T), .slice a (Tv.kids T).length cap] 28)).alloc (fobj zfd)) := ((Below.refl _ _).alloc (Nat.le_refl _) _).alloc (by simp) _
 have q0 : ((w.alloc (.cells #[.int .i64 (Tv.tag T), .string (Tv.dat T), .slice a (Tv.kids T).length cap] 28)).alloc (fobj zfd)).heap[w.heap.size]? = some (.cells #[.int .i64 (Tv.tag T), .string (Tv.dat T), .slice a (Tv.kids T).length cap] 28 (0, 0)) := (Below.heap_alloc _ _ _ (by simp)).trans (World.alloc_heap_new w _)
 have q1 : ((w.alloc (.cells #[.int .i64 (Tv.tag T), .string (Tv.dat T), .slice a (Tv.kids T).length cap] 28)).alloc (fobj zfd)).heap[w.heap.size + 1]? = some (.cells (F.Fd.cs zfd) 25 (0, 0)) := by
  have := World.alloc_heap_new (w.alloc (.cells #[.int .i64 (Tv.tag T), .string (Tv.dat T), .slice a (Tv.kids T).length cap] 28)) (fobj zfd)
  rwa [World.size_alloc] at this
 have HA := H_ (asked_any (m := n) k T A _ p _ (g.next hb0) (hN.below hb0) hok)
 obtain ⟨⟨x0, x1, x2⟩, _⟩ := cells3 q0
 dsimp only [fobj, F.Fd.obj, F.Fd.cs, zfd] at x0 x1 x2
 have HB := H_ hb0
 have HQ := H_ (And.intro q0 q1)
 have HG := H_ g
 have HN := H_ hN
 obtain ⟨O, hO⟩ : ∃ O, O = (Gp.cond k T : Option (Fl (n + 1))) := ⟨_, rfl⟩
 rw [<- hO]
 have HO := H_ hO
 clear g hN hN0 hb0 q0 q1 hok hO
 go_enter Tryz.func123, Tryz.ntmps123
 go_wp2_with fail
 refine (un HA).mono ?_
 rintro e w1 ⟨hb, hp⟩
 have hB1 := (un HB).trans (hb.mono (un HB).size)
 have hq0 := (hb.block _ (Array.getElem?_eq_some_iff.1 (un HQ).1).1).trans (un HQ).1
 have hq1 := (hb.block _ (Array.getElem?_eq_some_iff.1 (un HQ).2).1).trans (un HQ).2
 have hz1 : w.heap.size + 2 <= w1.heap.size := by have := hb.size; simp at this; omega
 cases ha : (asked k T : Option (Fl (n + 1))) with
 | none =>
  rw [ha] at hp
  obtain ⟨⟨dk, da, dv, dsa, dsn, dsc, df, dla, dln, dlc⟩, Ty, y, rfl, hE⟩ := hp
  obtain rfl : O = none := by rw [un HO]; unfold Gp.cond; rw [ha]
  have hB2 : ∀ o, Below w.heap.size w (w1.alloc o) := fun o => hB1.alloc hB1.size _
  have hq2 : ∀ o, (w1.alloc o).heap[w.heap.size + 1]? = _ := fun o => (Below.heap_alloc w1 o _ (Array.getElem?_eq_some_iff.1 hq1).1).trans hq1
  obtain ⟨⟨c0, c1, c2, c3, c4, c5⟩, g0, g1, g2, g3, g4, g5⟩ := box6 (hq2 (.cells #[.int .i64 dk, .string da, .string dv, .slice dsa dsn dsc, .string df, .slice dla dln dlc] 25))
  dsimp only [zfd] at c0 c1 c2 c3 c4 c5
  have HZ := H_ (And.intro (hB2 (.cells #[.int .i64 dk, .string da, .string dv, .slice dsa dsn dsc, .string df, .slice dla dln dlc] 25)) (hq2 (.cells #[.int .i64 dk, .string da, .string dv, .slice dsa dsn dsc, .string df, .slice dla dln dlc] 25)))
  have HE := H_ hE
  clear hB1 hq0 hq1 hb HB HQ HA HG hE hB2 hq2 ha x0 x1 x2
  go_wp2
  obtain ⟨hB2, hq2⟩ := un HZ
  change bodyPost _ _ _ _ _ (set6 (w1.alloc (.cells #[.int .i64 dk, .string da, .string dv, .slice dsa dsn dsc, .string df, .slice dla dln dlc] 25)) (w.heap.size + 1) zfd)
  generalize w1.alloc (.cells #[.int .i64 dk, .string da, .string dv, .slice dsa dsn dsc, .string df, .slice dla dln dlc] 25) = W at *
  exact finC (set6_blk hq2 zfd) rfl rfl ⟨below_set6 hB2 (Nat.le_succ _) zfd, _, _, _, rfl, un HE⟩
 | some f =>
  rw [ha] at hp
  obtain ⟨d, rfl, hF⟩ := hp
  obtain ⟨hls, -⟩ := asked_ls ha
  have hal := fun o => (Below.refl w1.heap.size w1).alloc (Nat.le_refl _) o
  have hB2 : Below w.heap.size w (w1.alloc (fobj d)) := hB1.alloc hB1.size _
  have HBd := H_ (build_any n f A (w1.alloc (fobj d)) _ d ((un HG).next hB2) (hF.below (hal _)) (by omega))
  have hf2 : (w1.alloc (fobj d)).heap[w1.heap.size]? = some (.cells (F.Fd.cs d) 25 (0, 0)) := World.alloc_heap_new w1 _
  have hq02 := (Below.heap_alloc w1 (fobj d) _ (Array.getElem?_eq_some_iff.1 hq0).1).trans hq0
  have hq12 := (Below.heap_alloc w1 (fobj d) _ (Array.getElem?_eq_some_iff.1 hq1).1).trans hq1
  have HZ := H_ (And.intro hB2 (And.intro hf2 (And.intro hq02 (And.intro hq12 (hF.below (hal (fobj d)))))))
  obtain ⟨⟨y0, y1, y2, y3, y4, y5⟩, _⟩ := box6 hf2
  have hsz1 : (w1.alloc (fobj d)).heap.size = w1.heap.size + 1 := by simp
  have hO : O = if fitF f = true /\ Tv.same (n + 3) (tree (n + 1) f) (up2 (n + 1) T) = true then some f else none := by rw [un HO]; unfold Gp.cond; rw [ha]
  have HO' := H_ hO
  obtain ⟨dk, da, dv, dsa, dsn, dsc, df, dla, dln, dlc⟩ := d
  dsimp only [fobj, F.Fd.obj, F.Fd.cs] at y0 y1 y2 y3 y4 y5
  clear hB1 hq0 hq1 hb HB HQ HA hal hB2 hf2 hq02 hq12 hF ha x0 x1 x2 hO HO
  go_wp2_with fail
  refine (un HBd).mono ?_
  rintro e w2 ⟨hb, hp⟩
  obtain ⟨hB2, hf2, hq02, hq12, hF⟩ := un HZ
  have hB3 := hB2.trans (hb.mono hB2.size)
  have hf3 := (hb.block _ (Array.getElem?_eq_some_iff.1 hf2).1).trans hf2
  have hq03 := (hb.block _ (Array.getElem?_eq_some_iff.1 hq02).1).trans hq02
  have hq13 := (hb.block _ (Array.getElem?_eq_some_iff.1 hq12).1).trans hq12
  have hF3 := hF.below hb
  have hlt3 := (Array.getElem?_eq_some_iff.1 hf3).1
  have n1 : ¬ w1.heap.size = w.heap.size + 1 := by omega
  have n2 : ¬ w.heap.size + 1 = w1.heap.size := by omega
  rw [right_leaf hls] at hp
  clear hB2 hf2 hq02 hq12 hF HZ HBd y0 y1 y2 y3 y4 y5
  cases hr : fitF f with
  | false =>
   rw [hr, if_neg (by simp)] at hp
   obtain ⟨Ty, y, rfl, hE⟩ := hp
   obtain rfl : O = none := by rw [un HO', if_neg (fun h => by rw [hr] at h; cases h.1)]
   have hB4 : Below w.heap.size w (w2.alloc znObj) := hB3.alloc hB3.size _
   have hf4 := (Below.heap_alloc w2 znObj _ hlt3).trans hf3
   have hq4 := (Below.heap_alloc w2 znObj _ (Array.getElem?_eq_some_iff.1 hq13).1).trans hq13
   obtain ⟨⟨c0, c1, c2, c3, c4, c5⟩, g0, g1, g2, g3, g4, g5⟩ := box6 hq4
   obtain ⟨⟨y0, y1, y2, y3, y4, y5⟩, _⟩ := box6 hf4
   dsimp only [zfd, fobj, F.Fd.obj, F.Fd.cs] at c0 c1 c2 c3 c4 c5 y0 y1 y2 y3 y4 y5
   have HZ := H_ (And.intro hB4 (And.intro hq4 hE))
   clear hb hB3 hf3 hq03 hq13 hF3 hr HO' hB4 hf4 hq4 hE HG
   go_wp2
   obtain ⟨hB4, hq4, hE⟩ := un HZ
   change bodyPost _ _ _ _ _ (set6 (w2.alloc znObj) (w.heap.size + 1) ⟨dk, da, dv, dsa, dsn, dsc, df, dla, dln, dlc⟩)
   generalize w2.alloc znObj = W at *
   exact finC (set6_blk hq4 ⟨dk, da, dv, dsa, dsn, dsc, df, dla, dln, dlc⟩) rfl rfl ⟨below_set6 hB4 (Nat.le_succ _) ⟨dk, da, dv, dsa, dsn, dsc, df, dla, dln, dlc⟩, _, _, _, rfl, hE⟩
  | true =>
   rw [hr, if_pos rfl] at hp
   obtain ⟨ct, cs, ca, cn, cc, rfl, hNd⟩ := hp
   obtain ⟨W4, hW4⟩ : ∃ W4, W4 = w2.alloc (.cells #[.int .i64 ct, .string cs, .slice ca cn cc] 28) := ⟨_, rfl⟩
   have hal4 : Below w2.heap.size w2 W4 := by rw [hW4]; exact (Below.refl _ _).alloc (Nat.le_refl _) _
   have hB4 := hB3.trans (hal4.mono hB3.size)
   have hf4 := (hal4.block _ hlt3).trans hf3
   have hq04 := (hal4.block _ (Array.getElem?_eq_some_iff.1 hq03).1).trans hq03
   have hq4 := (hal4.block _ (Array.getElem?_eq_some_iff.1 hq13).1).trans hq13
   have hm4 : W4.heap[w2.heap.size]? = some (.cells #[.int .i64 ct, .string cs, .slice ca cn cc] 28 (0, 0)) := by rw [hW4]; exact World.alloc_heap_new _ _
   have hF4 := hF3.below hal4
   have HS := H_ (same_any (n + 3) (tree (n + 1) f) (up2 (n + 1) T) W4 _ _ _ _ (hNd.below hal4) (node_up2 ((un HN).below hB4)))
   obtain ⟨⟨z0, z1, z2⟩, _⟩ := cells3 hm4
   obtain ⟨⟨x0, x1, x2⟩, _⟩ := cells3 hq04
   have HZ := H_ (And.intro hB4 (And.intro hf4 (And.intro hq4 hF4)))
   rw [hW4] at z0 z1 z2 x0 x1 x2
   rw [hW4] at HS HZ
   have hO := un HO'
   rw [hr] at hO
   have HO := H_ hO
   clear hb hB3 hf3 hq03 hq13 hF3 hr HO' hB4 hf4 hq4 hq04 hm4 hF4 hW4 hal4 hNd hO
   generalize hsb : Tv.same (n + 3) (tree (n + 1) f) (up2 (n + 1) T) = sb at *
   clear hsb
   cases sb with
   | true =>
    go_wp2_with fail
    refine (un HS).mono ?_
    rintro e w5 ⟨rfl, hb⟩
    obtain ⟨hB4, hf4, hq4, hF4⟩ := un HZ
    have hB5 := hB4.trans (hb.mono hB4.size)
    have hf5 := (hb.block _ (Array.getElem?_eq_some_iff.1 hf4).1).trans hf4
    have hq5 := (hb.block _ (Array.getElem?_eq_some_iff.1 hq4).1).trans hq4
    have hF5 := hF4.below hb
    obtain ⟨⟨c0, c1, c2, c3, c4, c5⟩, g0, g1, g2, g3, g4, g5⟩ := box6 hq5
    obtain ⟨⟨y0, y1, y2, y3, y4, y5⟩, _⟩ := box6 hf5
    dsimp only [zfd, fobj, F.Fd.obj, F.Fd.cs] at c0 c1 c2 c3 c4 c5 y0 y1 y2 y3 y4 y5
    have HY := H_ (And.intro hB5 (And.intro hq5 hF5))
    clear hB4 hf4 hq4 hF4 hB5 hf5 hq5 hF5 hb HZ HS z0 z1 z2 x0 x1 x2 HG
    go_wp2
    obtain ⟨hB5, hq5, hF5⟩ := un HY
    obtain rfl : O = some f := by have := un HO; simpa using this
    change bodyPost _ _ _ _ _ (set6 w5 (w.heap.size + 1) ⟨dk, da, dv, dsa, dsn, dsc, df, dla, dln, dlc⟩)
    have hbt := set6_but w5 (w.heap.size + 1) ⟨dk, da, dv, dsa, dsn, dsc, df, dla, dln, dlc⟩
    exact finC (set6_blk hq5 ⟨dk, da, dv, dsa, dsn, dsc, df, dla, dln, dlc⟩) rfl rfl ⟨below_set6 hB5 (Nat.le_succ _) ⟨dk, da, dv, dsa, dsn, dsc, df, dla, dln, dlc⟩, _, rfl, (hF5.of fun b h1 h2 => hbt.block b h2 (by simp only [World.size_alloc] at h1; omega)).imp fun b h1 _ => by simp only [World.size_alloc] at h1; omega⟩
   | false =>
    go_wp2_with fail
    refine (un HS).mono ?_
    rintro e w5 ⟨rfl, hb⟩
    obtain ⟨hB4, hf4, hq4, hF4⟩ := un HZ
    have hB5 := hB4.trans (hb.mono hB4.size)
    have hf5 := (hb.block _ (Array.getElem?_eq_some_iff.1 hf4).1).trans hf4
    have hq5 := (hb.block _ (Array.getElem?_eq_some_iff.1 hq4).1).trans hq4
    have gv := ((un HG).next hB5).vtr
    obtain ⟨⟨c0, c1, c2, c3, c4, c5⟩, g0, g1, g2, g3, g4, g5⟩ := box6 hq5
    obtain ⟨⟨y0, y1, y2, y3, y4, y5⟩, _⟩ := box6 hf5
    dsimp only [zfd, fobj, F.Fd.obj, F.Fd.cs] at c0 c1 c2 c3 c4 c5 y0 y1 y2 y3 y4 y5
    have HY := H_ (And.intro hB5 hq5)
    clear hB4 hf4 hq4 hF4 hB5 hf5 hq5 hb HZ HS z0 z1 z2 x0 x1 x2 HG
    go_wp2
    obtain ⟨hB5, hq5⟩ := un HY
    obtain rfl : O = none := by have := un HO; simpa using this
    change bodyPost _ _ _ _ _ (set6 w5 (w.heap.size + 1) ⟨dk, da, dv, dsa, dsn, dsc, df, dla, dln, dlc⟩)
    exact finC (set6_blk hq5 ⟨dk, da, dv, dsa, dsn, dsc, df, dla, dln, dlc⟩) rfl rfl ⟨below_set6 hB5 (Nat.le_succ _) ⟨dk, da, dv, dsa, dsn, dsc, df, dla, dln, dlc⟩, _, _, _, rfl, IsErr.sen (.inr (.inr (.inr rfl)))⟩
end Go.Proofs.YtmenllnokgjdlaaGreatDoor.G
/-
 The closure that filter defers. Conditions: the package-level variables hold what the program's text lays.
-/
namespace Go.Proofs.YtmenllnokgjdlaaGreatDoor.F
open Go Go.RowKit Go.Shelf Fp
open D (H_ un ext_list)
attribute [local go_sem] Oper.semAt_some
end Go.Proofs.YtmenllnokgjdlaaGreatDoor.F
/-
 The iterator of reader.filters. Conditions: the reader's filter answers as it should at one depth more.
-/
namespace Go.Proofs.YtmenllnokgjdlaaGreatDoor.F
open Go Go.RowKit Go.Shelf Fp
open D (H_ un ext_list)
attribute [local go_sem] Oper.semAt_some
structure Kz (A : Ad) (w0 : World) (R kb : Nat) (s : ByteArray) (bR bD : Nat) (X Y : World) : Prop where
 size : X.heap.size <= Y.heap.size
 env : ∀ p, Env A w0 R kb s p X -> Env A w0 R kb s p Y
 r : bR < X.heap.size -> Y.heap[bR]? = X.heap[bR]?
 d : bD < X.heap.size -> Y.heap[bD]? = X.heap[bD]?
theorem Kz.trans {A : Ad} {w0 : World} {R kb : Nat} {s : ByteArray} {bR bD : Nat} {X Y Z : World} (h : Kz A w0 R kb s bR bD X Y) (k : Kz A w0 R kb s bR bD Y Z) : Kz A w0 R kb s bR bD X Z :=
 ⟨Nat.le_trans h.size k.size, fun p e => k.env p (h.env p e), fun hl => (k.r (Nat.lt_of_lt_of_le hl h.size)).trans (h.r hl), fun hl => (k.d (Nat.lt_of_lt_of_le hl h.size)).trans (h.d hl)⟩
end Go.Proofs.YtmenllnokgjdlaaGreatDoor.F
/-
 A list of filters that grows by append: what lies in memory. Conditions: none.
-/
namespace Go.Proofs.YtmenllnokgjdlaaGreatDoor.F
open Go Go.RowKit Go.Shelf Fp
open D (H_ un ext_list)
def flat6 (vs : List Fd) : List Value := vs.flatMap fun d => d.cs.toList
theorem flat6_len : ∀ vs : List Fd, (flat6 vs).length = vs.length * 6
 | [] => rfl
 | d :: vs => by
  have := flat6_len vs
  show (d.cs.toList ++ flat6 vs).length = (vs.length + 1) * 6
  rw [List.length_append, this, show d.cs.toList.length = 6 from rfl]
  omega
theorem flat6_get : ∀ (vs : List Fd) (i : Nat) (d : Fd), vs[i]? = some d -> ∀ (j : Nat) u, d.cs.toList[j]? = some u -> (flat6 vs)[i * 6 + j]? = some u
 | [], i, d, h, _, _, _ => by simp at h
 | x :: vs, 0, d, h, j, u, hj => by
  simp at h
  subst h
  have hlt : j < x.cs.toList.length := (List.getElem?_eq_some_iff.1 hj).1
  show (x.cs.toList ++ flat6 vs)[0 * 6 + j]? = _
  rw [Nat.zero_mul, Nat.zero_add, List.getElem?_append_left hlt]
  exact hj
 | x :: vs, i + 1, d, h, j, u, hj => by
  have ih := flat6_get vs i d (by simpa using h) j u hj
  show (x.cs.toList ++ flat6 vs)[(i + 1) * 6 + j]? = _
  have hl : x.cs.toList.length = 6 := rfl
  rw [List.getElem?_append_right (by omega), hl, show (i + 1) * 6 + j - 6 = i * 6 + j by omega]
  exact ih
abbrev set6o (W : World) (g o : Nat) (d : Fd) : World := (((((W.setCell ⟨g, o, none⟩ (.int .i64 d.k)).setCell ⟨g, o + 1, none⟩ (.string d.a)).setCell ⟨g, o + 2, none⟩ (.string d.v)).setCell ⟨g, o + 3, none⟩ (.slice d.sa d.sn d.sc)).setCell ⟨g, o + 4, none⟩ (.string d.f)).setCell ⟨g, o + 5, none⟩ (.slice d.la d.ln d.lc)
theorem set6o_but (W : World) (g o : Nat) (d : Fd) : But g W (set6o W g o d) := ((((((But.refl g W).setCell _ _).setCell _ _).setCell _ _).setCell _ _).setCell _ _).setCell _ _
theorem set6_list (xs : List Value) (d e : Fd) : ((((((xs ++ e.cs.toList).set xs.length (.int .i64 d.k)).set (xs.length + 1) (.string d.a)).set (xs.length + 2) (.string d.v)).set (xs.length + 3) (.slice d.sa d.sn d.sc)).set (xs.length + 4) (.string d.f)).set (xs.length + 5) (.slice d.la d.ln d.lc) = xs ++ d.cs.toList := by
 induction xs with
 | nil => rfl
 | cons x xs ih =>
  simp only [List.cons_append, List.length_cons]
  show x :: (((((((xs ++ e.cs.toList).set xs.length _).set (xs.length + 1) _).set (xs.length + 2) _).set (xs.length + 3) _).set (xs.length + 4) _).set (xs.length + 5) _) = _
  rw [ih]
theorem set6o_own {W : World} {base g n cap : Nat} {xs : List Value} (d e : Fd) (h : W.ownsRow base 25 6 (.slice (some ⟨g, 0, none⟩) (n + 1) cap) (n + 1) (xs ++ e.cs.toList)) (hx : xs.length = n * 6) :
  (set6o W g (n * 6) d).ownsRow base 25 6 (.slice (some ⟨g, 0, none⟩) (n + 1) cap) (n + 1) (xs ++ d.cs.toList) := by
 have h1 := ((((((h.stored (n * 6) (.int .i64 d.k)).1.stored (n * 6 + 1) (.string d.a)).1.stored (n * 6 + 2) (.string d.v)).1.stored (n * 6 + 3) (.slice d.sa d.sn d.sc)).1.stored (n * 6 + 4) (.string d.f)).1.stored (n * 6 + 5) (.slice d.la d.ln d.lc)).1
 rw [<- hx, set6_list] at h1
 rw [<- hx]
 exact h1
def GrowF (n : Nat) (W : World) (base : Nat) (sl : Value) (pre : List (Fl n)) : Prop :=
 ∃ vs : List Fd, vs.length = pre.length /\ W.ownsRow base 25 6 sl pre.length (flat6 vs) /\
  ∀ (i : Nat) v F, vs[i]? = some v -> pre[i]? = some F -> FNode n W (fun b => base <= b /\ some b ≠ sl.ownBlock) v F
theorem GrowF.nil (n : Nat) (W : World) (base : Nat) : GrowF n W base (.slice none 0 0) [] := ⟨[], rfl, World.ownsRow_nil W base _ 6, fun i v F h => by simp at h⟩
theorem GrowF.of {n : Nat} {W W' : World} {base : Nat} {sl : Value} {pre : List (Fl n)} (h : GrowF n W base sl pre) (hb : ∀ b, base <= b -> b < W.heap.size -> W'.heap[b]? = W.heap[b]?) : GrowF n W' base sl pre := by
 obtain ⟨vs, hl, ho, hN⟩ := h
 refine ⟨vs, hl, ⟨ho.1, ?_⟩, fun i v F hv hF => (hN i v F hv hF).of fun b hp hlt => hb b hp.1 hlt⟩
 rcases ho.2 with h | ⟨g, cap, cur, e, hg, hc, h⟩
 ·exact .inl h
 ·exact .inr ⟨g, cap, cur, e, hg, (hb g hg (Array.getElem?_eq_some_iff.1 hc).1).trans hc, h⟩
theorem GrowF.lt {n : Nat} {W : World} {base : Nat} {sl : Value} {pre : List (Fl n)} (h : GrowF n W base sl pre) {g : Nat} (hg : sl.ownBlock = some g) : base <= g /\ g < W.heap.size := by
 obtain ⟨vs, hl, ho, hN⟩ := h
 exact ho.lt g hg
theorem growF_snoc {n : Nat} {W W5 : World} {base g cap : Nat} {sl : Value} {pre : List (Fl n)} {vs : List Fd} {d : Fd} {F : Fl n} (hvl : vs.length = pre.length)
  (hN : ∀ (i : Nat) v F, vs[i]? = some v -> pre[i]? = some F -> FNode n W (fun b => base <= b /\ some b ≠ sl.ownBlock) v F)
  (hown : W5.ownsRow base 25 6 (.slice (some ⟨g, 0, none⟩) (pre.length + 1) cap) (pre.length + 1) (flat6 vs ++ d.cs.toList))
  (hsame : ∀ b, base <= b -> b < W.heap.size -> some b ≠ sl.ownBlock -> b ≠ g -> W5.heap[b]? = W.heap[b]?) (hg : sl.ownBlock = some g \/ W.heap.size <= g)
  (hnew : FNode n W (fun b => base <= b /\ some b ≠ sl.ownBlock) d F) :
  GrowF n W5 base (.slice (some ⟨g, 0, none⟩) (pre.length + 1) cap) (pre ++ [F]) := by
 have hG : ∀ b, base <= b /\ some b ≠ sl.ownBlock -> b < W.heap.size -> b ≠ g := fun b hb hl e => by
  rcases hg with hg | hg
  ·exact hb.2 (by rw [hg, e])
  ·omega
 have step : ∀ {v : Fd} {F : Fl n}, FNode n W (fun b => base <= b /\ some b ≠ sl.ownBlock) v F -> FNode n W5 (fun b => base <= b /\ some b ≠ (Value.slice (some ⟨g, 0, none⟩) (pre.length + 1) cap).ownBlock) v F := fun h =>
  (h.imp (q := fun b => (base <= b /\ some b ≠ sl.ownBlock) /\ b ≠ g) (fun b hb hl => ⟨hb, hG b hb hl⟩)).of (fun b hb hl => hsame b hb.1.1 hl hb.1.2 hb.2) |>.imp (fun b hb _ => ⟨hb.1.1, fun e => hb.2 (by simpa [Value.ownBlock] using e)⟩)
 refine ⟨vs ++ [d], by simp [hvl], by simpa [List.flatMap_append, flat6] using hown, fun i v F' hv hF => ?_⟩
 by_cases hi : i < pre.length
 ·rw [List.getElem?_append_left (by omega)] at hv hF
  exact step (hN i v F' hv hF)
 ·have hiv : i = pre.length := by
   have := (List.getElem?_eq_some_iff.1 hF).1
   simp at this; omega
  subst hiv
  rw [List.getElem?_append_right (by omega)] at hv hF
  simp [hvl] at hv hF
  subst hv; subst hF
  exact step hnew
theorem GrowF.node {n : Nat} {W : World} {base : Nat} {sl : Value} {pre : List (Fl n)} (h : GrowF n W base sl pre) (k : Int) (hp : pre.length <= 1000) :
  ∃ la lc, sl = .slice la pre.length lc /\ FNode (n + 1) W (fun b => base <= b) ⟨k, ⟨#[]⟩, ⟨#[]⟩, none, 0, 0, ⟨#[]⟩, la, pre.length, lc⟩ (mk k ⟨#[]⟩ ⟨#[]⟩ [] ⟨#[]⟩ pre) := by
 obtain ⟨vs, hl, ho, hN⟩ := h
 have hI : ∀ la lc, Is ⟨k, ⟨#[]⟩, ⟨#[]⟩, none, 0, 0, ⟨#[]⟩, la, pre.length, lc⟩ (mk k ⟨#[]⟩ ⟨#[]⟩ [] ⟨#[]⟩ pre) := fun la lc => ⟨rfl, rfl, rfl, rfl, rfl, rfl⟩
 have hS : Sm (mk k ⟨#[]⟩ ⟨#[]⟩ [] ⟨#[]⟩ pre) := ⟨Nat.zero_le _, Nat.zero_le _, Nat.zero_le _, Nat.zero_le _, (fun x hx => by cases hx), hp⟩
 rcases ho.2 with ⟨rfl, h0⟩ | ⟨g, cap, cur, rfl, hg, hc, _⟩
 ·have hnil : pre = [] := List.length_eq_zero_iff.1 h0
  exact ⟨none, 0, by rw [h0], hI _ _, hS, .inl rfl, .inl hnil⟩
 ·refine ⟨_, cap, rfl, hI _ _, hS, .inl rfl, .inr ⟨g, 0, rfl, hg, fun i F hF => ?_⟩⟩
  rw [ls_mk] at hF
  have hi := (List.getElem?_eq_some_iff.1 hF).1
  have hv : vs[i]? = some vs[i] := List.getElem?_eq_getElem (by omega)
  have hcl : ∀ (j : Nat) u, vs[i].cs.toList[j]? = some u -> W.cell? ⟨g, 0 + i * 6 + j, none⟩ = some u := fun j u hj => by
   have := ho.cells (g := g) rfl (i * 6 + j) u (flat6_get vs i _ hv j u hj)
   rw [Addr.add_lit] at this
   rw [Nat.add_assoc]
   exact this
  exact ⟨vs[i], ⟨hcl 0 _ rfl, hcl 1 _ rfl, hcl 2 _ rfl, hcl 3 _ rfl, hcl 4 _ rfl, hcl 5 _ rfl⟩, (hN i _ F hv hF).imp fun b hb _ => hb.1⟩
end Go.Proofs.YtmenllnokgjdlaaGreatDoor.F
/-
 The reader's body where no set's sign stands; reader.filters. Conditions: the package-level variables hold what the program's text lays; what is read of values at a time has at most 1000 bytes.
-/
namespace Go.Proofs.YtmenllnokgjdlaaGreatDoor.F
open Go Go.RowKit Go.Shelf Fp
open D (H_ un ext_list)
attribute [local go_sem] Oper.semAt_some
end Go.Proofs.YtmenllnokgjdlaaGreatDoor.F
/-
 What the body's loop keeps at a set's sign, and what an append in it leaves. Conditions: none.
-/
namespace Go.Proofs.YtmenllnokgjdlaaGreatDoor.F
open Go Go.RowKit Go.Shelf Fp
open D (H_ un ext_list)
theorem infoF : ∃ i, Tryz.prog.info? 25 = some i /\ i.zero = some zfd.val /\ i.size = 6 /\ i.bytes = 104 := ⟨Tryz.t25, by kernel_rfl, by kernel_rfl, by kernel_rfl, by kernel_rfl⟩
structure Bin (k : Nat) (w : World) (R N : Nat) (kk : Int) (fs : List (Fl (k + 2))) (la : Option Addr) (lc : Nat) (W : World) : Prop where
 b0 : W.heap[w.heap.size]? = some (.cells zfd.cs 25 (0, 0))
 f : W.heap[N]? = some (.cells (Fd.cs ⟨kk, ⟨#[]⟩, ⟨#[]⟩, none, 0, 0, ⟨#[]⟩, la, fs.length, lc⟩) 25 (0, 0))
 wr : W.heap[N + 1]? = some (.cells #[.nilIface] 52 (0, 0))
 gr : GrowF (k + 2) W (N + 6) (.slice la fs.length lc) fs
 bel : But R w W
 len : fs.length <= 8
def Fr (N : Nat) (W : World) (b : Nat) : Prop := N + 6 <= b /\ N < W.heap.size /\ ∀ a n c, W.cell? ⟨N, 5, none⟩ = some (.slice (some a) n c) -> a.block ≠ b
theorem Bin.own {k : Nat} {w : World} {R N : Nat} {kk : Int} {fs : List (Fl (k + 2))} {la : Option Addr} {lc : Nat} {W : World} (h : Bin k w R N kk fs la lc W) {g : Nat} (hg : (Value.slice la fs.length lc).ownBlock = some g) : N + 6 <= g /\ g < W.heap.size := h.gr.lt hg
theorem Bin.fr {k : Nat} {w : World} {R N : Nat} {kk : Int} {fs : List (Fl (k + 2))} {la : Option Addr} {lc : Nat} {W : World} (h : Bin k w R N kk fs la lc W) (hz : N + 6 <= W.heap.size) (hR : R ≠ N) (Y : World) (b : Nat) (hb : But R W Y) (hl : W.heap.size <= b) : Fr N Y b := by
 refine ⟨by omega, by have := hb.size; omega, fun a n c hc => ?_⟩
 have h5 : Y.cell? ⟨N, 5, none⟩ = some (.slice la fs.length lc) := (World.cell?_of_block (w := W) (a := ⟨N, 5, none⟩) (hb.block N (by omega) (Ne.symm hR))).trans (box6 h.f).1.2.2.2.2.2
 rw [h5] at hc
 cases hc
 have := h.own (g := a.block) rfl
 omega
theorem apd_cells {W : World} {base g n cap : Nat} {vs : List Fd} (hvl : vs.length = n) (h : W.ownsRow base 25 6 (.slice (some ⟨g, 0, none⟩) (n + 1) cap) (n + 1) (flat6 vs ++ zfd.cs.toList)) :
  W.cell? ⟨g, n * 6, none⟩ = some (.int .i64 0) /\ W.cell? ⟨g, n * 6 + 1, none⟩ = some (.string ⟨#[]⟩) /\ W.cell? ⟨g, n * 6 + 2, none⟩ = some (.string ⟨#[]⟩) /\ W.cell? ⟨g, n * 6 + 3, none⟩ = some (.slice none 0 0) /\ W.cell? ⟨g, n * 6 + 4, none⟩ = some (.string ⟨#[]⟩) /\ W.cell? ⟨g, n * 6 + 5, none⟩ = some (.slice none 0 0) := by
 have hl : (flat6 vs).length = n * 6 := by rw [flat6_len, hvl]
 have key : ∀ j, j < 6 -> W.cell? ⟨g, n * 6 + j, none⟩ = zfd.cs.toList[j]? := fun j hj => by
  rw [h.cellAt (n * 6 + j) (by omega), List.getElem?_append_right (by omega), hl, Nat.add_sub_cancel_left]
 exact ⟨key 0 (by omega), key 1 (by omega), key 2 (by omega), key 3 (by omega), key 4 (by omega), key 5 (by omega)⟩
end Go.Proofs.YtmenllnokgjdlaaGreatDoor.F
