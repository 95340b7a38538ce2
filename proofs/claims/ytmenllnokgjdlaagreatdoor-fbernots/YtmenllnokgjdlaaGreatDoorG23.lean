/- Several texts in one: FPass, FSigns, DNums, FName. Each says what it proves, and its conditions. -/
import Derived.Test.YtmenllnokgjdlaaGreatDoorG22
import Derived.Maps.StringElems
set_option maxHeartbeats 2000000
set_option maxRecDepth 100000
/-
 How filt.pass goes through the filters in a filter, and filt.all's iterator. Conditions: none.
-/
namespace Go.Proofs.YtmenllnokgjdlaaGreatDoor.F
open Go Go.RowKit Go.Shelf Fp
open D (H_ un)
attribute [local go_sem] Oper.semAt_some
structure Pv where
 deep : Nat
 ok : Bool
 nm : ByteArray
def vis : (n : Nat) -> Nat -> Fl n -> List Pv
 | 0, _, t => Empty.elim t
 | n + 1, deep, F => ⟨deep, fitF F, Fp.nm F⟩ :: ((ls F).map (vis n (deep + 1))).flatten
theorem vis_right : ∀ (n deep : Nat) (F : Fl n), right n (7 - deep) F = (vis n deep F).all fun q => decide (q.deep <= 6) && q.ok
 | 0, _, t => Empty.elim t
 | n + 1, deep, F => by
  rw [right, vis, List.all_cons, List.all_flatten, List.all_map]
  congr 1
  ·congr 1
   show decide (0 < 7 - deep) = decide (deep <= 6)
   exact decide_eq_decide.2 (by omega)
  ·congr 1
   funext x
   rw [show 7 - deep - 1 = 7 - (deep + 1) by omega]
   exact vis_right n (deep + 1) x
def Kf (Lo l : Nat) (A B : World) : Prop := A.heap.size <= B.heap.size /\ ∀ k, k < A.heap.size -> k ≠ l -> (k < Lo \/ ∃ cs, A.heap[k]? = some (.cells cs 25 (0, 0))) -> B.heap[k]? = A.heap[k]?
theorem Kf.refl (Lo l : Nat) (A : World) : Kf Lo l A A := ⟨Nat.le_refl _, fun _ _ _ _ => rfl⟩
theorem Kf.trans {Lo l : Nat} {A B C : World} (h : Kf Lo l A B) (k : Kf Lo l B C) : Kf Lo l A C := ⟨Nat.le_trans h.1 k.1, fun i hi hn ho => by
 have e := h.2 i hi hn ho
 exact (k.2 i (Nat.lt_of_lt_of_le hi h.1) hn (ho.imp id fun ⟨cs, hc⟩ => ⟨cs, e.trans hc⟩)).trans e⟩
theorem Kf.of_but {Lo l : Nat} {A B : World} (h : But l A B) : Kf Lo l A B := ⟨h.size, fun k hk hn _ => h.block k hk hn⟩
theorem Kf.of_below {Lo l : Nat} {A B : World} (h : Below A.heap.size A B) : Kf Lo l A B := ⟨h.size, fun k hk _ _ => h.block k hk⟩
theorem Kf.alloc {Lo l : Nat} {A B : World} (h : Kf Lo l A B) (o : Obj) : Kf Lo l A (B.alloc o) := h.trans (Kf.of_below ((Below.refl _ _).alloc (Nat.le_refl _) o))
def PrV (Lo : Nat) (q : Pv) (d : Fd) (W : World) : Prop := ∃ (n : Nat) (F : Fl (n + 1)), Is d F /\ Sm F /\ Strs W (fun b => b < Lo) d.sa (an F) /\ q.ok = fitF F /\ q.nm = Fp.nm F
def Took {σ : Type} (G Gx : σ -> Pv -> Prop) (nx : σ -> Pv -> σ) (J Jx : σ -> World -> Prop) (Lo l : Nat) (s : σ) (q : Pv) (W : World) (e : Ending) (W2 : World) : Prop :=
 (e = .returned (.bool true) /\ G s q /\ J (nx s q) W2 /\ Kf Lo l W W2) \/ (e = .returned (.bool false) /\ Gx s q /\ Jx (nx s q) W2)
def Ran {σ : Type} (G Gx : σ -> Pv -> Prop) (nx : σ -> Pv -> σ) (J Jx : σ -> World -> Prop) (Lo l : Nat) (s : σ) (L : List Pv) (W : World) (e : Ending) (W' : World) : Prop :=
 (e = .returned (.bool true) /\ (∀ L1 q L2, L = L1 ++ q :: L2 -> G (L1.foldl nx s) q) /\ J (L.foldl nx s) W' /\ Kf Lo l W W') \/
 (e = .returned (.bool false) /\ ∃ L1 q L2, L = L1 ++ q :: L2 /\ Gx (L1.foldl nx s) q /\ Jx (nx (L1.foldl nx s) q) W')
theorem goods_app {σ : Type} {G : σ -> Pv -> Prop} {nx : σ -> Pv -> σ} {s : σ} {A B : List Pv} (hA : ∀ L1 q L2, A = L1 ++ q :: L2 -> G (L1.foldl nx s) q) (hB : ∀ L1 q L2, B = L1 ++ q :: L2 -> G (L1.foldl nx (A.foldl nx s)) q) :
  ∀ L1 q L2, A ++ B = L1 ++ q :: L2 -> G (L1.foldl nx s) q := by
 intro L1 q L2 h
 rcases List.append_eq_append_iff.1 h with ⟨c, h1, h2⟩ | ⟨c, h1, h2⟩
 ·rw [h1, List.foldl_append]
  exact hB c q L2 h2
 ·cases c with
  | nil =>
   rw [List.append_nil] at h1
   rw [h1] at hB
   rw [List.nil_append] at h2
   exact hB [] q L2 h2.symm
  | cons y c =>
   rw [List.cons_append] at h2
   obtain ⟨rfl, _⟩ := List.cons.inj h2
   exact hA L1 q c h1
theorem pass_any {σ : Type} (Lo l : Nat) (hLo : Lo <= l) (G Gx : σ -> Pv -> Prop) (nx : σ -> Pv -> σ) (J Jx : σ -> World -> Prop) (hJ : ∀ s A o, J s A -> J s (A.alloc o)) (hJX : ∀ s A, J s A -> l < A.heap.size)
  (Ok : σ -> Pv -> Prop)
  (hY : ∀ s q d W m, J s W -> Ok s q -> PrV Lo q d W -> YieldAt Fence.wide m Tryz.prog l #[.int .i64 q.deep, d.val] W (Took G Gx nx J Jx Lo l s q W)) :
  ∀ (n : Nat) (F : Fl n) (s : σ) (deep : Nat) (W : World) (d : Fd), (∀ L1 q L2, vis n deep F = L1 ++ q :: L2 -> Ok (L1.foldl nx s) q) -> FNode n W (fun b => b < Lo) d F -> J s W -> deep <= 1000 - n -> n <= 100 ->
   Calls Tryz.prog 102 #[d.val, .int .i64 deep, .func (.yield l) #[] #[]] W (Ran G Gx nx J Jx Lo l s (vis n deep F) W) := by
 intro n
 induction n with
 | zero => intro F; exact Empty.elim F
 | succ n ih =>
  intro F s deep W d hok hN hj hdp hn
  have HOK := H_ hok
  clear hok
  obtain ⟨k, a, v, sa, sn, sc, f, la, ln, lc⟩ := d
  have hI := hN.is
  have hln : ln = (ls F).length := hI.ln
  have hk' : (ln : Int) <= 1000 := by have := hN.sm.ln; omega
  have hyv := hY s ⟨deep, fitF F, Fp.nm F⟩ ⟨k, a, v, sa, sn, sc, f, la, ln, lc⟩ (W.alloc (.cells #[.int .i64 k, .string a, .string v, .slice sa sn sc, .string f, .slice la ln lc] 25)) 4 (hJ _ _ _ hj) ((un HOK) [] _ _ (by rw [vis]; rfl))
   ⟨n, F, hI, hN.sm, hN.strs.of (fun b _ hl => Below.heap_alloc W _ b hl), rfl, rfl⟩
  have HN := H_ hN
  have IH := H_ ih
  have HY := H_ hY
  have HI := H_ hln
  clear ih hN hY hI hln
  obtain ⟨fn, tmps, assign, body, hy, hR⟩ := hyv
  dsimp only at hy
  refine (callsIn_wide (n := 5)).1 ?_
  refine callsIn_of_wp Tryz.func102 rfl trivial ?_ rfl
  simp only [Tryz.ntmps102, List.size_toArray, List.length_cons, List.length_nil, Nat.reduceAdd, Nat.reduceSub, Array.replicate_succ, Array.replicate_zero, List.push_toArray, List.append_toArray, List.nil_append, List.cons_append]
  gi_wp2
  refine hR.mono ?_
  rintro e W2 (⟨rfl, hg, hj2, hlow⟩ | ⟨rfl, hg, hx⟩)
  ·have hbox : W2.heap[W.heap.size]? = some (.cells #[.int .i64 k, .string a, .string v, .slice sa sn sc, .string f, .slice la ln lc] 25 (0, 0)) :=
    (hlow.2 _ (by simp) (fun e => by have := hJX _ _ hj; omega) (.inr ⟨_, World.alloc_heap_new W _⟩)).trans (World.alloc_heap_new W _)
   have b5 := (At.box (d := ⟨k, a, v, sa, sn, sc, f, la, ln, lc⟩) hbox).c5
   have hlow2 : Kf Lo l W W2 := ((Kf.refl _ _ W).alloc _).trans hlow
   have HG := H_ hg
   clear hR hg hlow hbox
   gi_wp2
   gi_loopw [17] (fun y wr => ∃ i : Nat, i <= (ls F).length /\ y = .int .i64 i /\ Hid (∀ L1 q L2, ((⟨deep, fitF F, Fp.nm F⟩ : Pv) :: (((ls F).take i).map (vis n (deep + 1))).flatten) = L1 ++ q :: L2 -> G (L1.foldl nx s) q) /\ J (((⟨deep, fitF F, Fp.nm F⟩ : Pv) :: (((ls F).take i).map (vis n (deep + 1))).flatten).foldl nx s) wr /\ Kf Lo l W wr)
    (fun y _ => (ls F).length - (intOf y).toNat)
   case atStart =>
    refine ⟨0, Nat.zero_le _, rfl, ?_, hj2, hlow2⟩
    show ∀ L1 q L2, _
    intro L1 q L2 h
    cases L1 with
    | nil => obtain ⟨rfl, _⟩ := List.cons.inj h; exact un HG
    | cons y L1 => simp at h
   case round =>
    obtain ⟨i, hi, rfl, hgs, hj3, hlow3⟩ := hrel
    clear b5 hlow2 hj2 hy
    have hln := un HI
    by_cases hlt : i < (ls F).length
    ·obtain ⟨g, off, ha⟩ := (un HN).kids
     have ha : la = some ⟨g, off, none⟩ := ha.resolve_right (fun e => by rw [e] at hlt; cases hlt)
     have hNr := (un HN).of (W' := wr) (fun b hb hl => hlow3.2 b hl (by omega) (.inl hb))
     obtain ⟨⟨k', a', v', sa', sn', sc', f', la', ln', lc'⟩, hat, hNi⟩ := hNr.kid ha hlt
     obtain ⟨c0, c1, c2, c3, c4, c5⟩ := hat
     dsimp only at c0 c1 c2 c3 c4 c5
     have H := H_ (fun o => by
      have := (un IH) (ls F)[i] (((⟨deep, fitF F, Fp.nm F⟩ : Pv) :: (((ls F).take i).map (vis n (deep + 1))).flatten).foldl nx s) (deep + 1) (wr.alloc o) _ (fun L1 q L2 e => by
       rw [<- List.foldl_append]
       exact (un HOK) _ q (L2 ++ (((ls F).drop (i + 1)).map (vis n (deep + 1))).flatten) (by
        rw [vis]
        conv => lhs; rw [<- List.take_append_drop i (ls F), List.drop_eq_getElem_cons hlt]
        rw [List.map_append, List.map_cons, List.flatten_append, List.flatten_cons, e]
        simp)) (hNi.of (W' := wr.alloc o) fun b _ hl => Below.heap_alloc wr o b hl) (hJ _ _ _ hj3) (by omega) (by omega)
      rw [Int.natCast_add] at this
      exact this)
     have htk : ((⟨deep, fitF F, Fp.nm F⟩ : Pv) :: (((ls F).take (i + 1)).map (vis n (deep + 1))).flatten) = ((⟨deep, fitF F, Fp.nm F⟩ : Pv) :: (((ls F).take i).map (vis n (deep + 1))).flatten) ++ vis n (deep + 1) (ls F)[i] := by
      rw [List.take_succ_eq_append_getElem hlt, List.map_append, List.flatten_append, List.cons_append]
      simp
     have htot : vis (n + 1) deep F = ((⟨deep, fitF F, Fp.nm F⟩ : Pv) :: (((ls F).take (i + 1)).map (vis n (deep + 1))).flatten) ++ (((ls F).drop (i + 1)).map (vis n (deep + 1))).flatten := by
      rw [vis, List.cons_append, <- List.flatten_append, <- List.map_append, List.take_append_drop]
     have hlt' : (i : Int) < ln := by omega
     have hd1 : (deep : Int) <= 1000 := by omega
     subst ha
     have HT := H_ htk
     have HT2 := H_ htot
     clear hNi hNr htk htot hln
     gi_wp2_with fail
     refine ⟨trivial, (callsIn_wide.2 ((un H) _)).mono ?_⟩
     rintro e W3 (⟨rfl, hs2, hj4, hlow4⟩ | ⟨rfl, L1, q, L2, hs2, hg2, hx⟩)
     ·have Hs := H_ (goods_app (un hgs) hs2)
      rw [<- List.foldl_append, <- un HT] at hj4
      rw [<- un HT] at Hs
      clear hgs hs2 H
      gi_wp2
      go_roundw
      case rel => exact ⟨i + 1, by omega, by simp, Hs, hj4, hlow3.trans (((Kf.refl _ _ wr).alloc _).trans hlow4)⟩
      case measure => simp [intOf]; omega
     ·have Hs : Hid (∃ L1 q L2, vis (n + 1) deep F = L1 ++ q :: L2 /\ Gx (L1.foldl nx s) q /\ Jx (nx (L1.foldl nx s) q) W3) := H_ ⟨((⟨deep, fitF F, Fp.nm F⟩ : Pv) :: (((ls F).take i).map (vis n (deep + 1))).flatten) ++ L1, q, L2 ++ (((ls F).drop (i + 1)).map (vis n (deep + 1))).flatten, by
       rw [un HT2, un HT, hs2]; simp, by rw [List.foldl_append]; exact hg2, by rw [List.foldl_append]; exact hx⟩
      clear hgs hs2 H hg2 hx
      gi_wp2
      go_ret
      exact .inr ⟨rfl, un Hs⟩
    ·have hge : ¬ (i : Int) < ln := by omega
     have hfin : ((⟨deep, fitF F, Fp.nm F⟩ : Pv) :: (((ls F).take i).map (vis n (deep + 1))).flatten) = vis (n + 1) deep F := by rw [List.take_of_length_le (by omega), vis]
     rw [hfin] at hj3 hgs
     clear hfin hln
     gi_wp2
     go_ret
     exact .inl ⟨rfl, un hgs, hj3, hlow3⟩
  ·have Hs : Hid (∃ L1 q L2, vis (n + 1) deep F = L1 ++ q :: L2 /\ Gx (L1.foldl nx s) q /\ Jx (nx (L1.foldl nx s) q) W2) := H_ ⟨[], _, _, rfl, hg, hx⟩
   clear hR hg hx
   gi_wp2
   go_ret
   exact .inr ⟨rfl, un Hs⟩
theorem all_any (d : Fd) (w : World) :
  Calls Tryz.prog 66 #[d.val] w fun e w' => e = .returned (.func (.func 101) #[] #[.pointer (some ⟨w.heap.size, 0, none⟩)]) /\ w' = w.alloc d.obj := by
 obtain ⟨k, a, v, sa, sn, sc, f, la, ln, lc⟩ := d
 go_enter Tryz.func66, Tryz.ntmps66
 go_wp2
 go_ret
 exact ⟨rfl, rfl⟩
theorem all1_any {σ : Type} (n Lo l Bx : Nat) (hLo : Lo <= l) (F : Fl (n + 1)) (G Gx : σ -> Pv -> Prop) (nx : σ -> Pv -> σ) (J Jx : σ -> World -> Prop) (hJ : ∀ s A o, J s A -> J s (A.alloc o)) (hJX : ∀ s A, J s A -> l < A.heap.size)
  (Ok : σ -> Pv -> Prop)
  (hY : ∀ s q d W m, J s W -> Ok s q -> PrV Lo q d W -> YieldAt Fence.wide m Tryz.prog l #[.int .i64 q.deep, d.val] W (Took G Gx nx J Jx Lo l s q W))
  (s : σ) (W : World) (d : Fd) (hok : ∀ L1 q L2, vis (n + 1) 1 F = L1 ++ q :: L2 -> Ok (L1.foldl nx s) q) (hN : FNode (n + 1) W (fun b => b < Lo) d F) (hn : n <= 99) (hj : J s W) (hB : At W Bx 0 d) :
  CallsIn Fence.wide 6 Tryz.prog 101 #[.func (.yield l) #[] #[], .pointer (some ⟨Bx, 0, none⟩)] W fun e W' => (∃ v, e = .returned v) /\ ∃ e', Ran G Gx nx J Jx Lo l s (vis (n + 1) 1 F) W e' W' := by
 have H := pass_any Lo l hLo G Gx nx J Jx hJ hJX Ok hY (n + 1) F s 1 W d hok hN hj (by omega) (by omega)
 obtain ⟨k, a, v, sa, sn, sc, f, la, ln, lc⟩ := d
 obtain ⟨c0, c1, c2, c3, c4, c5⟩ := hB
 dsimp only at c0 c1 c2 c3 c4 c5
 rw [show ((1 : Nat) : Int) = 1 from rfl] at H
 clear hY hN hok
 refine callsIn_of_wp Tryz.func101 rfl trivial ?_ rfl
 simp only [Tryz.ntmps101, List.size_toArray, List.length_cons, List.length_nil, Nat.reduceAdd, Nat.reduceSub, Array.replicate_succ, Array.replicate_zero, List.push_toArray, List.append_toArray, List.nil_append, List.cons_append]
 gi_wp2_with fail
 refine ⟨trivial, (callsIn_wide.2 H).mono ?_⟩
 rintro e W3 (⟨rfl, h1, h2, h3⟩ | ⟨rfl, h1⟩)
 ·gi_wp2
  go_end0
  exact ⟨⟨_, rfl⟩, .returned (.bool true), .inl ⟨rfl, h1, h2, h3⟩⟩
 ·gi_wp2
  go_end0
  exact ⟨⟨_, rfl⟩, .returned (.bool false), .inr ⟨rfl, h1⟩⟩
end Go.Proofs.YtmenllnokgjdlaaGreatDoor.F
/-
 The maps of filt.signs and of filt.kinds, and what is looked up in them. Conditions: none.
-/
namespace Go.Proofs.YtmenllnokgjdlaaGreatDoor.F
open Go Go.RowKit Go.Shelf Go.Maps Fp
open D (H_ un)
theorem lawI : Keyed Tryz.prog 3 := int_keyed Tryz.underlying3
theorem zeroS (w : World) : (zeroValue 9).run Tryz.prog w = .ok (.string ⟨#[]⟩) w := by kernel_rfl
theorem zeroI (w : World) : (zeroValue 3).run Tryz.prog w = .ok (.int .i64 0) w := by kernel_rfl
abbrev Dt := DataW Unit
def hasSgn (k : Int) : Bool := k == 0 || k == 1 || k == 2 || k == 3 || k == 5 || k == 6 || k == 8 || k == 7
abbrev kI (k : Int) : Lit := .int .i64 k
abbrev kS (l : List UInt8) : Lit := .string l
def SD : Dt := ((((((((DataW.map [] : Dt).put (kI 0) (.lit (.string [38]))).put (kI 1) (.lit (.string [124]))).put (kI 2) (.lit (.string [33]))).put (kI 3) (.lit (.string [61]))).put (kI 5) (.lit (.string [62, 61]))).put (kI 6) (.lit (.string [60, 61]))).put (kI 8) (.lit (.string [126, 61]))).put (kI 7) (.lit (.string [61, 42]))
theorem sd_at (k : Int) (h : hasSgn k = true) (z : Dt) : SD.atKey (kI k) z = .lit (.string (sgn k)) := by
 unfold hasSgn at h
 simp only [Bool.or_eq_true, beq_iff_eq] at h
 rcases h with ((((((h | h) | h) | h) | h) | h) | h) | h <;> subst h <;> rfl
def SignsAt (W : World) (B : Nat) : Prop := W.ownsMap Tryz.prog 3 (plainElem Tryz.prog 9) B 8 SD
theorem SignsAt.below {W W' : World} {B : Nat} (h : SignsAt W B) (hb : Below W.heap.size W W') : SignsAt W' B :=
 World.ownsMap.kept (row := none) h ⟨hb.os, hb.tape, hb.output, hb.size, fun k hk _ => hb.block k hk⟩ (by simp)
theorem SignsAt.look {W : World} {B : Nat} (h : SignsAt W B) (k : Int) (hk : hasSgn k = true) : (Instr.lookup 72 (.map (some B)) (.int .i64 k) false).run Tryz.prog W = .ok (.string ⟨(sgn k).toArray⟩) W := by
 have hwf : (Lit.int .i64 k).wf = true := by
  unfold hasSgn at hk
  simp only [Bool.or_eq_true, beq_iff_eq] at hk
  rcases hk with ((((((h | h) | h) | h) | h) | h) | h) | h <;> subst h <;> decide
 obtain ⟨v, ps, h1, h2⟩ := World.ownsMap.lookup h lawI Tryz.underlying72 (zeroS W) (plainElem_string Tryz.underlying9 (by decide)) (keyOf_int_mk Tryz.underlying3 hwf)
 obtain ⟨s, rfl, h3, _⟩ := plainElem_string_inv Tryz.underlying9 h2
 rw [sd_at k hk] at h3
 simp only [Prod.mk.injEq, DataW.lit.injEq, Lit.string.injEq] at h3
 rw [h1, h3.1]
theorem wpList_insert_own {H : Type} {P : Program} (w : World) {ops : Array Oper} {rest : List Oper} {o : Oper} {a : Act} {Q : Exit -> Act -> World -> Prop}
  (hg : o.guard = none) (m x v : Operand) (t : TypeId) (hop : o.op = Op.insert t m x v)
  (k e : TypeId) (K : Keyed P k) (ht : P.underlying t = some (.map k e)) (R : Value -> Option (DataW H × List MemPlace)) (b n : Nat) (D : DataW H)
  (hm : a.eval m = .map (some b)) (hown : w.ownsMap P k R b n D) (hn : n < maxLen) (key val : Value) (kl : Lit) (hx : a.eval x = key) (hv : a.eval v = val) (hkey : keyOf P k key = some kl)
  (d : DataW H) (ps : List MemPlace) (hval : R val = some (d, ps))
  (hK : ∀ w', w'.ownsMap P k R b (n + 1) (D.put kl d) -> w.grownBy w' (some b) -> wpList P ops Q rest (a.put o.dst undef) w') :
  wpList P ops Q (o :: rest) a w := by
 refine wpList_plain hg fun K' hK' => ?_
 obtain ⟨w', hrun, r1, r2⟩ := hown.update K ht hn hkey hval
 unfold Oper.wp
 simp [execOp, hop, hm, hx, hv, hrun, Result.andThen]
 exact hK' _ _ (hK w' r1 r2)
theorem signs_any (w : World) : Calls Tryz.prog 50 #[] w fun e w' => e = .returned (.map (some w.heap.size)) /\ Below w.heap.size w w' /\ SignsAt w' w.heap.size := by
 have hmm := @run_makeMap Tryz.prog
 have hown0 := World.ownsMap_made w Tryz.prog 3 (plainElem (H := Unit) Tryz.prog 9)
 have hg0 : w.grownBy (w.alloc (.map #[] 0)) (some w.heap.size) := (World.grownBy_alloc w _ none).but _
 go_enter Tryz.func50, Tryz.ntmps50
 go_wp2_with (first | (refine wpList_insert_own _ rfl _ _ _ 72 rfl 3 9 lawI Tryz.underlying72 (plainElem (H := Unit) Tryz.prog 9) w.heap.size 0 _ rfl hown0 (by decide) _ _ _ rfl rfl (keyOf_int_mk Tryz.underlying3 (by decide)) _ [] (plainElem_string Tryz.underlying9 (by decide)) ?_; intro w1 hown1 hq1; have hg1 := hg0.andThen hq1 (by simp); clear hown0 hg0 hq1) | (refine wpList_insert_own _ rfl _ _ _ 72 rfl 3 9 lawI Tryz.underlying72 (plainElem (H := Unit) Tryz.prog 9) w.heap.size 1 _ rfl hown1 (by decide) _ _ _ rfl rfl (keyOf_int_mk Tryz.underlying3 (by decide)) _ [] (plainElem_string Tryz.underlying9 (by decide)) ?_; intro w2 hown2 hq2; have hg2 := hg1.andThen hq2 (by simp); clear hown1 hg1 hq2) | (refine wpList_insert_own _ rfl _ _ _ 72 rfl 3 9 lawI Tryz.underlying72 (plainElem (H := Unit) Tryz.prog 9) w.heap.size 2 _ rfl hown2 (by decide) _ _ _ rfl rfl (keyOf_int_mk Tryz.underlying3 (by decide)) _ [] (plainElem_string Tryz.underlying9 (by decide)) ?_; intro w3 hown3 hq3; have hg3 := hg2.andThen hq3 (by simp); clear hown2 hg2 hq3) | (refine wpList_insert_own _ rfl _ _ _ 72 rfl 3 9 lawI Tryz.underlying72 (plainElem (H := Unit) Tryz.prog 9) w.heap.size 3 _ rfl hown3 (by decide) _ _ _ rfl rfl (keyOf_int_mk Tryz.underlying3 (by decide)) _ [] (plainElem_string Tryz.underlying9 (by decide)) ?_; intro w4 hown4 hq4; have hg4 := hg3.andThen hq4 (by simp); clear hown3 hg3 hq4) | (refine wpList_insert_own _ rfl _ _ _ 72 rfl 3 9 lawI Tryz.underlying72 (plainElem (H := Unit) Tryz.prog 9) w.heap.size 4 _ rfl hown4 (by decide) _ _ _ rfl rfl (keyOf_int_mk Tryz.underlying3 (by decide)) _ [] (plainElem_string Tryz.underlying9 (by decide)) ?_; intro w5 hown5 hq5; have hg5 := hg4.andThen hq5 (by simp); clear hown4 hg4 hq5) | (refine wpList_insert_own _ rfl _ _ _ 72 rfl 3 9 lawI Tryz.underlying72 (plainElem (H := Unit) Tryz.prog 9) w.heap.size 5 _ rfl hown5 (by decide) _ _ _ rfl rfl (keyOf_int_mk Tryz.underlying3 (by decide)) _ [] (plainElem_string Tryz.underlying9 (by decide)) ?_; intro w6 hown6 hq6; have hg6 := hg5.andThen hq6 (by simp); clear hown5 hg5 hq6) | (refine wpList_insert_own _ rfl _ _ _ 72 rfl 3 9 lawI Tryz.underlying72 (plainElem (H := Unit) Tryz.prog 9) w.heap.size 6 _ rfl hown6 (by decide) _ _ _ rfl rfl (keyOf_int_mk Tryz.underlying3 (by decide)) _ [] (plainElem_string Tryz.underlying9 (by decide)) ?_; intro w7 hown7 hq7; have hg7 := hg6.andThen hq7 (by simp); clear hown6 hg6 hq7) | (refine wpList_insert_own _ rfl _ _ _ 72 rfl 3 9 lawI Tryz.underlying72 (plainElem (H := Unit) Tryz.prog 9) w.heap.size 7 _ rfl hown7 (by decide) _ _ _ rfl rfl (keyOf_int_mk Tryz.underlying3 (by decide)) _ [] (plainElem_string Tryz.underlying9 (by decide)) ?_; intro w8 hown8 hq8; have hg8 := hg7.andThen hq8 (by simp); clear hown7 hg7 hq8))
 go_ret
 exact ⟨rfl, ⟨hg8.os, hg8.tape, hg8.output, hg8.size, fun k hk => hg8.block k hk (fun e => by cases e; omega)⟩, hown8⟩
def kindS (l : List UInt8) : Option Int := if l = [38] then some 0 else if l = [124] then some 1 else if l = [33] then some 2 else if l = [61] then some 3 else if l = [62, 61] then some 5 else if l = [60, 61] then some 6 else if l = [126, 61] then some 8 else if l = [61, 42] then some 7 else none
theorem kI_same (x y : Int) : (kI x).sameKey (kI y) = decide (x = y) := by
 show (Lit.int _ _).sameKey (Lit.int _ _) = _
 by_cases h : x = y
 ·subst h; rw [decide_eq_true rfl]; simp [Lit.sameKey]
 ·rw [decide_eq_false h]; simp [Lit.sameKey, h]
structure Told (left : Lit -> Bool) (D : Dt) : Prop where
 m : IsMap D
 sub : ∀ x, left (kI x) = true -> hasSgn x = true
 has : ∀ l, Maps.has D (kS l) = match kindS l with | some k => !left (kI k) | none => false
 at_ : ∀ l k z, kindS l = some k -> left (kI k) = false -> D.atKey (kS l) z = .lit (.int .i64 k)
def KindsAt (W : World) (B : Nat) : Prop := ∃ n D, W.ownsMap Tryz.prog 9 (plainElem Tryz.prog 3) B n D /\ Told (fun _ => false) D
end Go.Proofs.YtmenllnokgjdlaaGreatDoor.F
/-
 What dn.isNumbers and dn.IsType answer. Conditions: none.
-/
namespace Go.Proofs.YtmenllnokgjdlaaGreatDoor.D
open Go Go.RowKit Go.Shelf Dp
attribute [local go_sem] Oper.semAt_some
structure Nin (s : ByteArray) (n : Nat) (w W : World) : Prop where
 br : W.heap[w.heap.size]? = some (.cells #[.bool false] 4)
 bn : W.heap[w.heap.size + 2]? = some (.cells #[.int .i64 (n : Int)] 3)
 bel : Below w.heap.size w W
 size : w.heap.size + 4 <= W.heap.size
theorem Nin.cl {s : ByteArray} {n : Nat} {w W : World} (h : Nin s n w W) : W.cell? ⟨w.heap.size, 0, none⟩ = some (.bool false) /\ W.cell? ⟨w.heap.size + 2, 0, none⟩ = some (.int .i64 (n : Int)) /\ W.frozen? ⟨w.heap.size, 0, none⟩ = false /\ W.frozen? ⟨w.heap.size + 2, 0, none⟩ = false := by
 have h1 := h.br
 have h2 := h.bn
 simp [World.cell?, World.frozen?, h1, h2]
theorem Nin.grown {s : ByteArray} {n : Nat} {w W W' : World} {row : Option Nat} (h : Nin s n w W) (hg : W.grownBy W' row) (hr : ∀ r, row = some r -> w.heap.size + 4 <= r) : Nin s n w W' := by
 have hz := h.size
 have hk : ∀ k, k < w.heap.size + 4 -> W'.heap[k]? = W.heap[k]? := fun k hk => hg.block k (by omega) (fun e => by have := hr k e.symm; omega)
 exact ⟨(hk _ (by omega)).trans h.br, (hk _ (by omega)).trans h.bn, ⟨hg.os.trans h.bel.os, hg.tape.trans h.bel.tape, hg.output.trans h.bel.output, Nat.le_trans h.bel.size hg.size, fun k hk' => (hk k (by omega)).trans (h.bel.block k hk')⟩, Nat.le_trans hz hg.size⟩
theorem Nin.set {s : ByteArray} {n : Nat} {w W : World} (h : Nin s n w W) (m : Nat) : Nin s m w (W.setCell ⟨w.heap.size + 2, 0, none⟩ (.int .i64 (m : Int))) := by
 have o : ∀ k, k ≠ w.heap.size + 2 -> (W.setCell ⟨w.heap.size + 2, 0, none⟩ (.int .i64 (m : Int))).heap[k]? = W.heap[k]? := fun k hk => Below.heap_setCell _ _ _ _ hk
 exact ⟨(o _ (by omega)).trans h.br, heap_setCell_same W _ 0 _ _ _ h.bn, h.bel.setCell (by show w.heap.size <= w.heap.size + 2; omega) _, by simp; exact h.size⟩
theorem Nin.setR {s : ByteArray} {n : Nat} {w W : World} (h : Nin s n w W) : Nin s n w (W.setCell ⟨w.heap.size, 0, none⟩ (.bool false)) := by
 have o : ∀ k, k ≠ w.heap.size -> (W.setCell ⟨w.heap.size, 0, none⟩ (.bool false)).heap[k]? = W.heap[k]? := fun k hk => Below.heap_setCell _ _ _ _ hk
 exact ⟨heap_setCell_same W _ 0 _ _ _ h.br, (o _ (by omega)).trans h.bn, h.bel.setCell (Nat.le_refl _) _, by simp; exact h.size⟩
def ninv (s : ByteArray) (w : World) (pre : List (It fun _ => True)) (W : World) : Prop := (∀ x ∈ pre, num (x.1.g s).data.toList = true) /\ Nin s pre.length w W
def nout (s : ByteArray) (w : World) (cd : Code) (pre : List (It fun _ => True)) (W : World) : Prop := cd = .ret /\ (∃ x ∈ pre, num (x.1.g s).data.toList = false) /\ ∃ n, Nin s n w W
theorem ext_small (s : ByteArray) (a b : Nat) : (s.extract a b).size <= s.size := by rw [ByteArray.size_extract]; omega
theorem finN {w V : World} {D : Nat} {tmps : Array Value} {b : Bool} {R : Ending -> World -> Prop} (hV : V.heap[D]? = some (.deferred (some []))) (hD : w.heap.size + 4 <= D) (hb : Below w.heap.size w V) (t2 : tmps.getD 2 undef = .pointer (some ⟨w.heap.size, 0, none⟩)) (hc : V.cell? ⟨w.heap.size, 0, none⟩ = some (.bool b))
  (hp : ∀ V', Below w.heap.size w V' -> R (.returned (.bool b)) V') :
  bodyPostM Fence.wide 3 Tryz.prog Tryz.f175 R Exit.ret { tmps, defers := [{ target := .collected D, args := #[] }] } V := by
 refine ⟨by simp, .inl ⟨_, _, rfl, run_takeDeferred hV, ?_⟩⟩
 refine ⟨.bool b, ?_, hp _ (C.putObj_below hb (by omega))⟩
 have hc' : (V.putObj D (.deferred none)).cell? ⟨w.heap.size, 0, none⟩ = some (.bool b) := by
  rw [World.cell?_of_block (w := V) (a := ⟨w.heap.size, 0, none⟩) (World.putObj_heap_other (by show w.heap.size ≠ D; omega))]
  exact hc
 have t2' : tmps[2]?.getD undef = .pointer (some ⟨w.heap.size, 0, none⟩) := by simpa using t2
 simp [results, Tryz.results175, go_sem, t2', hc']
theorem isNumbers_any (s : ByteArray) (w : World) (hs : s.size <= 1000) :
  Calls Tryz.prog 175 #[.string s] w fun e w' => e = .returned (.bool (nums s.data.toList)) /\ Below w.heap.size w w' := by
 refine (callsIn_wide (n := 3)).1 ?_
 refine callsIn_of_wp_marks Tryz.func175 rfl trivial ?_ rfl
 simp only [Tryz.ntmps175, List.size_toArray, List.length_cons, List.length_nil, Nat.reduceAdd, Nat.reduceSub, Array.replicate_succ, Array.replicate_zero, List.push_toArray, List.append_toArray, List.nil_append, List.cons_append]
 refine wpIn_wide.2 ?_
 go_wp2_with fail
 refine (pieces_any s 46 _).mono ?_
 rintro e w' ⟨rfl, rfl⟩
 go_wp2
 obtain ⟨W0, hW0⟩ : ∃ W0, W0 = (((w.alloc (.cells #[.bool false] 4)).alloc (.cells #[.string s, .int .u8 46] 284)).alloc (.cells #[.int .i64 0] 3)).alloc (cb s 46) := ⟨_, rfl⟩
 have hz : W0.heap.size = w.heap.size + 4 := by rw [hW0]; simp
 have hSt : Nin s 0 w W0 := by
  rw [hW0]
  refine ⟨?_, ?_, ?_, by simp⟩
  ·rw [Below.heap_alloc _ _ _ (by simp <;> omega), Below.heap_alloc _ _ _ (by simp <;> omega), Below.heap_alloc _ _ _ (by simp)]; exact World.alloc_heap_new _ _
  ·rw [Below.heap_alloc _ _ _ (by simp <;> omega)]; have := World.alloc_heap_new ((w.alloc (.cells #[.bool false] 4)).alloc (.cells #[.string s, .int .u8 46] 284)) (.cells #[.int .i64 0] 3); rwa [World.size_alloc, World.size_alloc] at this
  ·repeat (refine Below.alloc ?_ (by simp <;> omega) _)
   exact Below.refl _ _
 have hBs : W0.cell? ⟨w.heap.size + 3, 0, none⟩ = some (.string s) /\ W0.cell? ⟨w.heap.size + 3, 1, none⟩ = some (.int .u8 ((46 : UInt8).toNat : Int)) := by
  rw [hW0, World.cell?_alloc_at _ _ _ _ (by simp), World.cell?_alloc_at _ _ _ _ (by simp)]
  exact ⟨rfl, rfl⟩
 rw [<- hW0]
 clear hW0
 refine (wpIn_wide (n := 3)).1 ?_
 refine wpIn_rangeFunc_ownF rfl (by omega) (gf := 213) (lb := #[.pointer (some ⟨w.heap.size + 3, 0, none⟩)]) rfl trivial (enters_of Tryz.func213 (by kernel_rfl) rfl)
  (pieces1_stops (fun _ => True) (3 - 1) (by omega) (w.heap.size + 3) s 46 W0 (by omega) (fun _ _ => trivial) hBs.1 hBs.2) C.Two.trans (fun W l o o' hl h1 h2 h3 => C.Two.book (w := W0) (by omega) (by omega) W l o o' hl h1 h2 h3) (Below.refl _ _) (fun _ => rfl)
  (ninv s w) (nout s w)
  (fun pre A B' row hs hg hr => ⟨hs.1, hs.2.grown hg (fun r e => by have := (hr r e).1; omega)⟩)
  (fun cd pre A B' row hs hg hr => ⟨hs.1, hs.2.1, let ⟨n, h⟩ := hs.2.2; ⟨n, h.grown hg (fun r e => by have := (hr r e).1; omega)⟩⟩)
  ⟨by simp, hSt⟩
  (fun x => { tmps := #[.string s, undef, .pointer (some ⟨w.heap.size, 0, none⟩), .pointer (some ⟨w.heap.size + 1, 0, none⟩), .pointer (some ⟨w.heap.size + 1 + 1, 0, none⟩), undef, .string (x.1.g s), .string s, .agg #[.string s], .agg #[.string s, .int .u8 46], .agg #[.string s, .int .u8 46], .func (.func 213) #[] #[.pointer (some ⟨w.heap.size + 1 + 1 + 1, 0, none⟩)], .int .i64 x.1.i, .string (x.1.g s), undef, undef, undef, undef, undef, undef, undef], defers := [] }) ?assign ?body ?done ?stop
 case assign =>
  intro l x W K hK
  gi_wp2
  exact hK
 case body =>
  rintro l pre x W ⟨hall, hin⟩ hN
  go_light
  have hsm := ext_small s x.1.fr x.1.to
  have H := isNumber_any (x.1.g s) W (by show (s.extract x.1.fr x.1.to).size <= 1000; omega)
  obtain ⟨c0, c1, f0, f1⟩ := hin.cl
  have hpl : (pre.length : Int) <= 2000 := by omega
  cases hb : num (x.1.g s).data.toList
  ·rw [hb] at H
   have H' := H_ H
   have Hin := H_ hin
   have Hb := H_ hb
   clear H hin hb hN hSt hBs hz hsm hall
   gi_wp2_with fail
   refine ⟨trivial, (E.inR (un H')).mono ?_⟩
   rintro e w' ⟨rfl, rfl⟩
   gi_wp2
   exact ⟨KeepsOthers.setCell _ _ _, rfl, ⟨x, by simp, un Hb⟩, _, (un Hin).setR⟩
  ·rw [hb] at H
   have H' := H_ H
   have Hin := H_ hin
   have Hall : Hid (∀ y ∈ pre ++ [x], num (y.1.g s).data.toList = true) := H_ (fun y hy => by
    rcases List.mem_append.1 hy with h | h
    ·exact hall y h
    ·rw [List.mem_singleton.1 h]; exact hb)
   clear H hin hb hN hSt hBs hz hsm hall
   gi_wp2_with fail
   refine ⟨trivial, (E.inR (un H')).mono ?_⟩
   rintro e w' ⟨rfl, rfl⟩
   gi_wp2
   refine ⟨KeepsOthers.setCell _ _ _, ⟨Below.heap_setCell _ _ _ _ (by show w.heap.size + 3 ≠ w.heap.size + 1 + 1; omega), Below.heap_setCell _ _ _ _ (by show w.heap.size + 3 ≠ w.heap.size + 1 + 1; omega)⟩, un Hall, ?_⟩
   have := (un Hin).set (pre.length + 1)
   rw [List.length_append]
   exact this
 case done =>
  rintro D ys W hD hys ⟨hall, hin⟩ hK
  have hys : vals ys = pks s 46 := hys
  obtain ⟨c0, c1, f0, f1⟩ := hin.cl
  have HK := H_ hK
  have Hin := H_ hin
  clear hK hin hSt hBs
  go_wp2
  have hbb : decide ((1 : Int) < ys.length) = nums s.data.toList := by
   have he := pks_pcs s 46 (by decide)
   unfold nums
   rw [<- he, <- hys, vals, List.length_map, List.length_map, Bool.eq_iff_iff, Bool.and_eq_true, List.all_eq_true]
   simp only [decide_eq_true_eq]
   constructor
   ·intro h
    refine ⟨by omega, fun l hl => ?_⟩
    obtain ⟨x, hx, rfl⟩ := List.mem_map.1 hl
    obtain ⟨y, hy, rfl⟩ := List.mem_map.1 hx
    exact hall y hy
   ·intro h
    have := h.1
    omega
  rw [hbb]
  refine finN (b := nums s.data.toList) ((Below.heap_setCell _ _ _ _ (by show D ≠ w.heap.size; omega)).trans (un HK)) (by omega) ((un Hin).bel.setCell (Nat.le_refl _) _) rfl ?_ fun V' hb => ⟨rfl, hb⟩
  have := heap_setCell_same W _ 0 _ _ (.bool (nums s.data.toList)) (un Hin).br
  simp [World.cell?, this]
 case stop =>
  rintro D cd pre W hD hpre ⟨rfl, hno, n, hin⟩ hK
  have hbb : nums s.data.toList = false := by
   have he := pks_pcs s 46 (by decide)
   obtain ⟨x, hx, hn⟩ := hno
   unfold nums
   rw [<- he, Bool.and_eq_false_iff]
   right
   rw [List.all_eq_false]
   obtain ⟨t, ht⟩ := hpre
   exact ⟨_, List.mem_map.2 ⟨x.1, by rw [<- ht]; exact List.mem_append_left _ (List.mem_map_of_mem hx), rfl⟩, by rw [hn]; simp⟩
  obtain ⟨c0, c1, f0, f1⟩ := hin.cl
  have HK := H_ hK
  have Hin := H_ hin
  clear hK hin hSt hBs hno hpre
  gi_wp2
  rw [hbb]
  exact finN (b := false) (un HK) (by omega) (un Hin).bel rfl c0 fun V' hb => ⟨rfl, hb⟩
theorem isType_any (s : ByteArray) (w : World) (hs : s.size <= 1000) :
  Calls Tryz.prog 157 #[.string s] w fun e w' => e = .returned (.bool (isTy s)) /\ Below w.heap.size w w' := by
 have H1 := H_ fun W => isWord_any s W hs
 have H2 := H_ fun W => isNumbers_any s W hs
 have hl : s.data.toList.length = s.size := Array.length_toList
 unfold isTy tyL
 rw [hl]
 clear hl
 by_cases h : s.size <= 20
 ·have h' : (s.size : Int) <= 20 := by omega
  rw [decide_eq_true h, Bool.true_and]
  generalize nums s.data.toList = b2 at *
  generalize word s.data.toList = b1 at *
  cases b1
  ·go_enter Tryz.func157, Tryz.ntmps157
   go_wp2_with fail
   refine ((un H1) _).mono ?_
   rintro e w1 ⟨rfl, rfl⟩
   go_wp2_with fail
   refine ((un H2) _).mono ?_
   rintro e w2 ⟨rfl, hb⟩
   have HB := H_ hb
   clear hb
   go_wp2
   go_ret
   exact ⟨rfl, un HB⟩
  ·go_enter Tryz.func157, Tryz.ntmps157
   go_wp2_with fail
   refine ((un H1) _).mono ?_
   rintro e w1 ⟨rfl, rfl⟩
   go_wp2
   go_ret
   exact ⟨rfl, Below.refl _ _⟩
 ·have h' : ¬ (s.size : Int) <= 20 := by omega
  rw [decide_eq_false h, Bool.false_and]
  go_enter Tryz.func157, Tryz.ntmps157
  go_wp2
  go_ret
  exact ⟨rfl, Below.refl _ _⟩
end Go.Proofs.YtmenllnokgjdlaaGreatDoor.D
/-
 What filt.inOption, isOption, areOptions, isTypeWithOptions and IsName answer. Conditions: the text has at most 100000000 bytes.
-/
namespace Go.Proofs.YtmenllnokgjdlaaGreatDoor.F
open Go Go.RowKit Go.Shelf Fp
open D (H_ un ext_list drop_at drop_out beq_int finN)
attribute [local go_sem] Oper.semAt_some
theorem inOption_0 (x : UInt8) (w : World) (_h0 : 65 <= x.toNat) (_h1 : x.toNat <= 90) :
  Calls Tryz.prog 196 #[.int .u8 x.toNat] w fun e w' => e = .returned (.bool true) /\ w' = w := by
 have k0 : 65 <= (x.toNat : Int) := by omega
 have k1 : (x.toNat : Int) <= 90 := by omega
 clear _h0 _h1
 go_enter Tryz.func196, Tryz.ntmps196
 go_wp2
 go_ret
 exact ⟨rfl, rfl⟩
theorem inOption_1 (x : UInt8) (w : World) (_h0 : 65 <= x.toNat) (_h1 : ¬ x.toNat <= 90) (_h2 : 97 <= x.toNat) (_h3 : x.toNat <= 122) :
  Calls Tryz.prog 196 #[.int .u8 x.toNat] w fun e w' => e = .returned (.bool true) /\ w' = w := by
 have k0 : 65 <= (x.toNat : Int) := by omega
 have k1 : ¬ (x.toNat : Int) <= 90 := by omega
 have k2 : 97 <= (x.toNat : Int) := by omega
 have k3 : (x.toNat : Int) <= 122 := by omega
 clear _h0 _h1 _h2 _h3
 go_enter Tryz.func196, Tryz.ntmps196
 go_wp2
 go_ret
 exact ⟨rfl, rfl⟩
theorem inOption_2 (x : UInt8) (w : World) (_h0 : 65 <= x.toNat) (_h1 : ¬ x.toNat <= 90) (_h2 : 97 <= x.toNat) (_h3 : ¬ x.toNat <= 122) (_h4 : 48 <= x.toNat) (_h5 : ¬ x.toNat <= 57) (_h6 : ¬ x.toNat = 45) :
  Calls Tryz.prog 196 #[.int .u8 x.toNat] w fun e w' => e = .returned (.bool false) /\ w' = w := by
 have k0 : 65 <= (x.toNat : Int) := by omega
 have k1 : ¬ (x.toNat : Int) <= 90 := by omega
 have k2 : 97 <= (x.toNat : Int) := by omega
 have k3 : ¬ (x.toNat : Int) <= 122 := by omega
 have k4 : 48 <= (x.toNat : Int) := by omega
 have k5 : ¬ (x.toNat : Int) <= 57 := by omega
 have k6 : ((x.toNat : Int) == 45) = false := by simp; omega
 clear _h0 _h1 _h2 _h3 _h4 _h5 _h6
 go_enter Tryz.func196, Tryz.ntmps196
 go_wp2
 go_ret
 exact ⟨rfl, rfl⟩
theorem inOption_3 (x : UInt8) (w : World) (_h0 : 65 <= x.toNat) (_h1 : ¬ x.toNat <= 90) (_h2 : ¬ 97 <= x.toNat) (_h3 : 48 <= x.toNat) (_h4 : ¬ x.toNat <= 57) (_h5 : ¬ x.toNat = 45) :
  Calls Tryz.prog 196 #[.int .u8 x.toNat] w fun e w' => e = .returned (.bool false) /\ w' = w := by
 have k0 : 65 <= (x.toNat : Int) := by omega
 have k1 : ¬ (x.toNat : Int) <= 90 := by omega
 have k2 : ¬ 97 <= (x.toNat : Int) := by omega
 have k3 : 48 <= (x.toNat : Int) := by omega
 have k4 : ¬ (x.toNat : Int) <= 57 := by omega
 have k5 : ((x.toNat : Int) == 45) = false := by simp; omega
 clear _h0 _h1 _h2 _h3 _h4 _h5
 go_enter Tryz.func196, Tryz.ntmps196
 go_wp2
 go_ret
 exact ⟨rfl, rfl⟩
theorem inOption_4 (x : UInt8) (w : World) (_h0 : ¬ 65 <= x.toNat) (_h1 : ¬ 97 <= x.toNat) (_h2 : 48 <= x.toNat) (_h3 : x.toNat <= 57) :
  Calls Tryz.prog 196 #[.int .u8 x.toNat] w fun e w' => e = .returned (.bool true) /\ w' = w := by
 have k0 : ¬ 65 <= (x.toNat : Int) := by omega
 have k1 : ¬ 97 <= (x.toNat : Int) := by omega
 have k2 : 48 <= (x.toNat : Int) := by omega
 have k3 : (x.toNat : Int) <= 57 := by omega
 clear _h0 _h1 _h2 _h3
 go_enter Tryz.func196, Tryz.ntmps196
 go_wp2
 go_ret
 exact ⟨rfl, rfl⟩
theorem inOption_5 (x : UInt8) (w : World) (_h0 : ¬ 65 <= x.toNat) (_h1 : ¬ 97 <= x.toNat) (_h2 : 48 <= x.toNat) (_h3 : ¬ x.toNat <= 57) (_h4 : ¬ x.toNat = 45) :
  Calls Tryz.prog 196 #[.int .u8 x.toNat] w fun e w' => e = .returned (.bool false) /\ w' = w := by
 have k0 : ¬ 65 <= (x.toNat : Int) := by omega
 have k1 : ¬ 97 <= (x.toNat : Int) := by omega
 have k2 : 48 <= (x.toNat : Int) := by omega
 have k3 : ¬ (x.toNat : Int) <= 57 := by omega
 have k4 : ((x.toNat : Int) == 45) = false := by simp; omega
 clear _h0 _h1 _h2 _h3 _h4
 go_enter Tryz.func196, Tryz.ntmps196
 go_wp2
 go_ret
 exact ⟨rfl, rfl⟩
theorem inOption_6 (x : UInt8) (w : World) (_h0 : ¬ 65 <= x.toNat) (_h1 : ¬ 97 <= x.toNat) (_h2 : ¬ 48 <= x.toNat) (_h3 : x.toNat = 45) :
  Calls Tryz.prog 196 #[.int .u8 x.toNat] w fun e w' => e = .returned (.bool true) /\ w' = w := by
 have k0 : ¬ 65 <= (x.toNat : Int) := by omega
 have k1 : ¬ 97 <= (x.toNat : Int) := by omega
 have k2 : ¬ 48 <= (x.toNat : Int) := by omega
 have k3 : ((x.toNat : Int) == 45) = true := by simp; omega
 clear _h0 _h1 _h2 _h3
 go_enter Tryz.func196, Tryz.ntmps196
 go_wp2
 go_ret
 exact ⟨rfl, rfl⟩
theorem inOption_7 (x : UInt8) (w : World) (_h0 : ¬ 65 <= x.toNat) (_h1 : ¬ 97 <= x.toNat) (_h2 : ¬ 48 <= x.toNat) (_h3 : ¬ x.toNat = 45) :
  Calls Tryz.prog 196 #[.int .u8 x.toNat] w fun e w' => e = .returned (.bool false) /\ w' = w := by
 have k0 : ¬ 65 <= (x.toNat : Int) := by omega
 have k1 : ¬ 97 <= (x.toNat : Int) := by omega
 have k2 : ¬ 48 <= (x.toNat : Int) := by omega
 have k3 : ((x.toNat : Int) == 45) = false := by simp; omega
 clear _h0 _h1 _h2 _h3
 go_enter Tryz.func196, Tryz.ntmps196
 go_wp2
 go_ret
 exact ⟨rfl, rfl⟩
theorem inOption_any (x : UInt8) (w : World) :
  Calls Tryz.prog 196 #[.int .u8 x.toNat] w fun e w' => e = .returned (.bool (Dp.fit x)) /\ w' = w := by
 have fx : Dp.fit x = (decide (48 <= x.toNat /\ x.toNat <= 57) || decide (x.toNat = 45) || decide (65 <= x.toNat /\ x.toNat <= 90 \/ 97 <= x.toNat /\ x.toNat <= 122)) := by
  have : (x == 45) = decide (x.toNat = 45) := by
   rw [Bool.eq_iff_iff, beq_iff_eq, decide_eq_true_eq]
   exact ⟨fun h => by subst h; rfl, fun h => UInt8.toNat_inj.1 h⟩
  unfold Dp.fit Dp.dig Dp.ltr
  rw [this, Bool.eq_iff_iff]
  simp
 have yes : (48 <= x.toNat /\ x.toNat <= 57) \/ x.toNat = 45 \/ (65 <= x.toNat /\ x.toNat <= 90 \/ 97 <= x.toNat /\ x.toNat <= 122) -> Dp.fit x = true := fun h => by rw [fx]; simp; omega
 have no : ¬ ((48 <= x.toNat /\ x.toNat <= 57) \/ x.toNat = 45 \/ (65 <= x.toNat /\ x.toNat <= 90 \/ 97 <= x.toNat /\ x.toNat <= 122)) -> Dp.fit x = false := fun h => by rw [fx]; simp; omega
 by_cases h1 : 65 <= x.toNat
 ·by_cases h2 : x.toNat <= 90
  ·rw [yes (by omega)]; exact inOption_0 x w h1 h2
  by_cases h3 : 97 <= x.toNat
  ·by_cases h4 : x.toNat <= 122
   ·rw [yes (by omega)]; exact inOption_1 x w h1 h2 h3 h4
   ·rw [no (by omega)]; exact inOption_2 x w h1 h2 h3 h4 (by omega) (by omega) (by omega)
  ·rw [no (by omega)]; exact inOption_3 x w h1 h2 h3 (by omega) (by omega) (by omega)
 ·by_cases h5 : 48 <= x.toNat
  ·by_cases h6 : x.toNat <= 57
   ·rw [yes (by omega)]; exact inOption_4 x w h1 (by omega) h5 h6
   ·rw [no (by omega)]; exact inOption_5 x w h1 (by omega) h5 h6 (by omega)
  ·by_cases h7 : x.toNat = 45
   ·rw [yes (by omega)]; exact inOption_6 x w h1 (by omega) h5 h7
   ·rw [no (by omega)]; exact inOption_7 x w h1 (by omega) h5 h7
theorem isOption_any (s : ByteArray) (w : World) (hs : s.size <= 100000000) :
  Calls Tryz.prog 177 #[.string s] w fun e w' => e = .returned (.bool (opt s.data.toList)) /\ w' = w := by
 have H := H_ fun x W => inOption_any x W
 have ho : opt s.data.toList = (s.toList != ([] : List UInt8) && s.data.toList.all Dp.fit) := by rw [ByteArray.toList_eq]; rfl
 rw [ho]
 clear ho
 obtain ⟨r, hr⟩ : ∃ r, s.data.toList.all Dp.fit = r := ⟨_, rfl⟩
 rw [hr]
 have Hr := H_ hr
 clear hr
 go_enter Tryz.func177, Tryz.ntmps177
 go_wp2
 go_loopw [6] (fun ix wr => ∃ j : Nat, j <= s.size /\ ix = .int .i64 (j : Int) /\ Hid ((s.data.toList.drop j).all Dp.fit = r) /\ wr = w)
  (fun ix _ => s.size - (intOf ix).toNat)
 case atStart => exact ⟨0, Nat.zero_le _, rfl, by rw [List.drop_zero]; exact Hr, rfl⟩
 case round =>
  obtain ⟨j, hj, rfl, hd, rfl⟩ := hrel
  by_cases hlt : j < s.size
  ·have hlt' : (j : Int) < s.size := by omega
   have hj' : (j : Int) <= 100000000 := by omega
   obtain ⟨b, hb⟩ : ∃ b, Dp.fit s[j] = b := ⟨_, rfl⟩
   have Hc := H_ ((un H) s[j])
   rw [hb] at Hc
   have Hn : Hid ((b && (s.data.toList.drop (j + 1)).all Dp.fit) = r) := H_ (by rw [<- hb, <- List.all_cons, <- drop_at hlt]; exact un hd)
   obtain ⟨y, hy⟩ : ∃ y, s[j] = y := ⟨_, rfl⟩
   rw [hy] at Hc
   clear hb hd
   cases b
   ·obtain rfl : r = false := by rw [<- un Hn]; rfl
    go_wp2_with fail
    refine ((un Hc) _).mono ?_
    rintro e w1 ⟨rfl, rfl⟩
    go_wp2
    go_ret
    rw [Bool.and_false]
    exact ⟨rfl, rfl⟩
   ·go_wp2_with fail
    refine ((un Hc) _).mono ?_
    rintro e w1 ⟨rfl, rfl⟩
    go_wp2
    go_roundw
    case rel => exact ⟨j + 1, by omega, by simp, by have := un Hn; rw [Bool.true_and] at this; exact this, by first | rfl | trivial⟩
    case measure => simp [intOf]; omega
  ·have hge : ¬ (j : Int) < s.size := by omega
   have hd := un hd
   rw [drop_out hlt] at hd
   obtain rfl : r = true := by rw [<- hd]; rfl
   clear hd
   go_wp2
   go_ret
   exact ⟨by show Ending.returned (Value.bool (!s.toList.isEmpty)) = _; cases s.toList <;> rfl, rfl⟩
theorem below_but {n b : Nat} {w A B : World} (h : Below n w A) (k : But b A B) (hn : n <= w.heap.size) (hb : n <= b) : Below n w B :=
 ⟨k.os.trans h.os, k.tape.trans h.tape, k.output.trans h.output, Nat.le_trans h.size k.size, fun i hi => (k.block i (by have := h.size; omega) (by omega)).trans (h.block i hi)⟩
structure Bx (w : World) (W : World) : Prop where
 b : W.heap[w.heap.size]? = some (.cells #[.bool false] 4 (0, 0))
 bel : Below w.heap.size w W
theorem Bx.but {w A B : World} {b : Nat} (h : Bx w A) (k : But b A B) (hb : w.heap.size < b) : Bx w B :=
 ⟨(k.block _ (Array.getElem?_eq_some_iff.1 h.b).1 (by omega)).trans h.b, below_but h.bel k (Nat.le_refl _) (by omega)⟩
theorem Bx.cell {w W : World} (h : Bx w W) : W.cell? ⟨w.heap.size, 0, none⟩ = some (.bool false) /\ W.frozen? ⟨w.heap.size, 0, none⟩ = false := by
 constructor <;> simp [World.cell?, World.frozen?, h.b]
theorem finO {w V : World} {D : Nat} {tmps : Array Value} {b : Bool} {R : Ending -> World -> Prop} (hV : V.heap[D]? = some (.deferred (some []))) (hD : w.heap.size + 4 <= D) (hb : Below w.heap.size w V) (t2 : tmps.getD 2 undef = .pointer (some ⟨w.heap.size, 0, none⟩)) (hc : V.cell? ⟨w.heap.size, 0, none⟩ = some (.bool b))
  (hp : ∀ V', Below w.heap.size w V' -> R (.returned (.bool b)) V') :
  bodyPostM Fence.wide 7 Tryz.prog Tryz.f158 R Exit.ret { tmps, defers := [{ target := .collected D, args := #[] }] } V := by
 refine ⟨by simp, .inl ⟨_, _, rfl, run_takeDeferred hV, ?_⟩⟩
 refine ⟨.bool b, ?_, hp _ (C.putObj_below hb (by omega))⟩
 have hc' : (V.putObj D (.deferred none)).cell? ⟨w.heap.size, 0, none⟩ = some (.bool b) := by
  rw [World.cell?_of_block (w := V) (a := ⟨w.heap.size, 0, none⟩) (World.putObj_heap_other (by show w.heap.size ≠ D; omega))]
  exact hc
 have t2' : tmps[2]?.getD undef = .pointer (some ⟨w.heap.size, 0, none⟩) := by simpa using t2
 simp [results, Tryz.results158, go_sem, t2', hc']
theorem spb_mem {c : UInt8} {s : ByteArray} (x : ByteArray) (h : x ∈ spb c s) : x.size <= s.size /\ x.data.toList ∈ spl c s.data.toList := by
 unfold spb at h
 obtain ⟨l, hl, rfl⟩ := List.mem_map.1 h
 have h2 := spl_small c _ l hl
 rw [Array.length_toList] at h2
 refine ⟨?_, by simpa using hl⟩
 show l.toArray.size <= _
 simpa using h2
theorem areOptions_any (s : ByteArray) (w : World) (hs : s.size <= 100000000) :
  Calls Tryz.prog 158 #[.string s] w fun e w' => e = .returned (.bool ((spl 59 s.data.toList).all opt)) /\ Below w.heap.size w w' := by
 have hall : (spl 59 s.data.toList).all opt = (spb 59 s).all fun x => opt x.data.toList := by
  unfold spb
  rw [List.all_map]
  rfl
 rw [hall]
 clear hall
 have hb0 : Below w.heap.size w (w.alloc (.cells #[.bool false] 4)) := (Below.refl _ _).alloc (Nat.le_refl _) _
 have HX := H_ (World.alloc_heap_new w (.cells #[.bool false] 4))
 have HSp := H_ (splitSeq_any 59 s (w.alloc (.cells #[.bool false] 4)))
 refine (callsIn_wide (n := 7)).1 ?_
 refine callsIn_of_wp_marks Tryz.func158 rfl trivial ?_ rfl
 simp only [Tryz.ntmps158, List.size_toArray, List.length_cons, List.length_nil, Nat.reduceAdd, Nat.reduceSub, Array.replicate_succ, Array.replicate_zero, List.push_toArray, List.append_toArray, List.nil_append, List.cons_append]
 refine wpIn_wide.2 ?_
 go_wp2_with fail
 refine (un HSp).mono ?_
 rintro e W0 ⟨rfl, hbw, hz, hB3⟩
 have hI0 : Bx w W0 := ⟨(hbw.block _ (by simp)).trans (un HX), hb0.trans (hbw.mono (by simp))⟩
 rw [show (w.alloc (.cells #[.bool false] 4)).heap.size = w.heap.size + 1 by simp] at *
 clear HX HSp hbw hb0
 go_wp2
 refine (wpIn_wide (n := 7)).1 ?_
 refine range_own (α := ByteArray) (σ := List ByteArray) (gf := 218) (lb := #[.pointer (some ⟨w.heap.size + 1 + 1, 0, none⟩), .pointer (some ⟨w.heap.size + 1, 0, none⟩), .pointer (some ⟨w.heap.size + 1 + 1 + 1, 0, none⟩)]) rfl (enters_of Tryz.func218 (by kernel_rfl) rfl)
  (fun x => #[.string x]) (fun _ => rfl) (Kpt fun k => w.heap.size + 1 <= k /\ k < w.heap.size + 1 + 3) (But (w.heap.size + 1))
  (fun _ W => Bx w W) (fun cd _ W => cd = .ret /\ Bx w W) (fun q x _ => q ++ [x] <+: spb 59 s) (fun q x => q ++ [x]) [] (fun q _ => (spb 59 s).all (fun x => opt x.data.toList) = true) (fun _ => (spb 59 s).all (fun x => opt x.data.toList) = false) (fun _ x => opt x.data.toList = true) (fun _ x => opt x.data.toList = false)
  (fun _ B => B) (fun x _ => { tmps := #[.string s, undef, .pointer (some ⟨w.heap.size, 0, none⟩), .string x, .string s, .func (.func 218) #[] #[.pointer (some ⟨w.heap.size + 1 + 1, 0, none⟩), .pointer (some ⟨w.heap.size + 1, 0, none⟩), .pointer (some ⟨w.heap.size + 1 + 1 + 1, 0, none⟩)], .string x, undef, undef, undef], defers := [] }) (fun _ _ => Below.refl _ _)
  Kpt.trans ?_ ?_ ?_ ?_ ?_ (fun _ _ _ _ _ h => h) (fun _ _ _ _ h => h) hI0 ?iter ?assign ?body ?done ?stop
 ·intro A B hb
  rw [hz] at hb
  exact Kpt.of_but hb (by omega)
 ·intro A B hb hsz
  rw [hz] at hsz ⊢
  exact ⟨hb.block _ (by omega) (by omega), hb.block _ (by omega) (by omega)⟩
 ·intro _ A B hb h
  rw [hz] at hb
  exact h.but hb (by omega)
 ·intro _ A B hb _ h
  exact h.but hb (by omega)
 ·rintro _ _ A B hb ⟨h1, h2⟩
  rw [hz] at hb
  exact ⟨h1, h2.but hb (by omega)⟩
 case iter =>
  intro W hbW hzW J Jx hJ hJI hY h0
  rw [hz] at hbW hzW hY ⊢
  refine (split1_any 59 s (w.heap.size + 1) (w.heap.size + 4 + 1) hs (fun _ x => opt x.data.toList = true) (fun _ x => opt x.data.toList = false) J Jx (fun q A A' hb h => hJ q A A' hb h) (fun q x W' m hj hp => (hY q x W' m hj hp).mono ?_) W h0 (hB3.kept (Kpt.of_but hbW (by omega)))).mono ?_
  ·rintro e W2 (⟨h1, h2, h3, h4⟩ | ⟨h1, h2, h3⟩)
   ·exact .inl ⟨h1, h2, h3, h4⟩
   ·exact .inr ⟨h1, h2, h3⟩
  ·rintro e W' ⟨h1, ⟨h2, h3⟩ | ⟨q, x, h2, h3, h4⟩⟩
   ·refine ⟨h1, .inl ⟨_, ?_, h3⟩⟩
    rw [List.all_eq_true]
    intro x hx
    obtain ⟨q, t, e⟩ := List.append_of_mem hx
    exact h2 q x ⟨t, by rw [e]; simp⟩
   ·refine ⟨h1, .inr ⟨_, ?_, h4⟩⟩
    rw [List.all_eq_false]
    obtain ⟨t, e⟩ := h2
    exact ⟨x, by rw [<- e]; simp, by rw [h3]; simp⟩
 case assign =>
  intro q x W K _ _ hK
  gi_wp2
  exact hK
 case body =>
  rintro q x B W hI hp hB hbb _
  go_light
  have hxs : x.size <= 100000000 := by
   have := (spb_mem x (hp.subset (by simp))).1
   omega
  have H := H_ fun W => isOption_any x W hxs
  obtain ⟨c0, f0⟩ := hI.cell
  have HI := H_ hI
  have Hp := H_ hp
  clear hI hB hbb hB3 hI0 hp hxs
  cases ho : opt x.data.toList
  ·rw [ho] at H
   clear ho
   gi_wp2_with fail
   refine ⟨trivial, (E.inR ((un H) _)).mono ?_⟩
   rintro e w' ⟨rfl, rfl⟩
   gi_wp2
   exact ⟨trivial, ⟨Below.heap_setCell _ _ _ _ (by show w.heap.size + 1 + 3 ≠ w.heap.size; omega), Below.heap_setCell _ _ _ _ (by show w.heap.size + 1 + 3 + 1 ≠ w.heap.size; omega)⟩, rfl, heap_set _ _ 0 _ _ _ (un HI).b, (un HI).bel.setCell (p := ⟨w.heap.size, 0, none⟩) (Nat.le_refl _) _⟩
  ·rw [ho] at H
   clear ho
   gi_wp2_with fail
   refine ⟨trivial, (E.inR ((un H) _)).mono ?_⟩
   rintro e w' ⟨rfl, rfl⟩
   gi_wp2
   exact ⟨trivial, ⟨rfl, rfl⟩, Kpt.refl _ _, un HI⟩
 case done =>
  intro q W hall hI hK
  obtain ⟨c0, f0⟩ := hI.cell
  have HK := H_ hK
  have HI := H_ hI
  have HA := H_ hall
  clear hK hI hI0 hB3 hall
  go_wp2
  rw [un HA]
  refine finO (b := true) ((Below.heap_setCell _ _ _ _ (by show W0.heap.size ≠ w.heap.size; omega)).trans (un HK)) (by omega) ((un HI).bel.setCell (p := ⟨w.heap.size, 0, none⟩) (Nat.le_refl _) _) rfl ?_ fun V' hb => ⟨rfl, hb⟩
  have := heap_set W _ 0 _ _ (.bool true) (un HI).b
  simp [World.cell?, this]
 case stop =>
  rintro cd q W hno ⟨rfl, hI⟩ hK
  obtain ⟨c0, f0⟩ := hI.cell
  have HK := H_ hK
  have HI := H_ hI
  have HA := H_ hno
  clear hK hI hI0 hB3 hno
  gi_wp2
  rw [un HA]
  exact finO (b := false) (un HK) (by omega) (un HI).bel rfl c0 fun V' hb => ⟨rfl, hb⟩
theorem typeWith_any (s : ByteArray) (w : World) (hs : s.size <= 30) :
  Calls Tryz.prog 132 #[.string s] w fun e w' => e = .returned (.bool (okName s)) /\ Below w.heap.size w w' := by
 have hl : decide (s.data.toList.length <= 30) = true := by rw [Array.length_toList]; exact decide_eq_true hs
 have ho : okName s = match cutB 59 s.data.toList with
   | none => Dp.tyL s.data.toList
   | some (k, o) => Dp.tyL k && (spl 59 o).all opt := by
  unfold okName nmL
  rw [hl, Bool.true_and]
  rfl
 rw [ho]
 clear ho hl
 cases h : cutB 59 s.data.toList with
 | none =>
  have HC := H_ fun W => cut_none 59 s W h
  have HT := H_ fun W => D.isType_any s W (by omega)
  show Calls _ _ _ _ fun e w' => e = .returned (.bool (Dp.isTy s)) /\ _
  clear h
  generalize Dp.isTy s = b at *
  cases b
  ·go_enter Tryz.func132, Tryz.ntmps132
   go_wp2_with fail
   refine ((un HC) _).mono ?_
   rintro e w1 ⟨rfl, hb⟩
   have HB := H_ hb
   clear hb HC
   go_wp2_with fail
   refine ((un HT) _).mono ?_
   rintro e w2 ⟨rfl, hb⟩
   have HB2 := H_ ((un HB).trans (hb.mono (un HB).size))
   clear hb HB
   go_wp2
   go_ret
   exact ⟨rfl, un HB2⟩
  ·go_enter Tryz.func132, Tryz.ntmps132
   go_wp2_with fail
   refine ((un HC) _).mono ?_
   rintro e w1 ⟨rfl, hb⟩
   have HB := H_ hb
   clear hb HC
   go_wp2_with fail
   refine ((un HT) _).mono ?_
   rintro e w2 ⟨rfl, hb⟩
   have HB2 := H_ ((un HB).trans (hb.mono (un HB).size))
   clear hb HB
   go_wp2
   go_ret
   exact ⟨rfl, un HB2⟩
 | some q =>
  obtain ⟨k, o⟩ := q
  have hcs := (cutB_some _ _ _ _ h).1
  have hln : s.data.toList.length <= 30 := by rw [Array.length_toList]; exact hs
  rw [hcs] at hln
  simp only [List.length_append, List.length_cons] at hln
  have HC := H_ fun W => cut_some 59 s k o W (by omega) h
  have HT := H_ fun W => D.isType_any ⟨k.toArray⟩ W (by show k.toArray.size <= 1000; simp; omega)
  have HO := H_ fun W => areOptions_any ⟨o.toArray⟩ W (by show o.toArray.size <= 100000000; simp; omega)
  show Calls _ _ _ _ fun e w' => e = .returned (.bool (Dp.isTy ⟨k.toArray⟩ && (spl 59 (ByteArray.mk o.toArray).data.toList).all opt)) /\ _
  clear h hcs hln
  generalize (⟨k.toArray⟩ : ByteArray) = kk at *
  generalize (⟨o.toArray⟩ : ByteArray) = oo at *
  generalize Dp.isTy kk = b at *
  generalize (spl 59 oo.data.toList).all opt = b2 at *
  cases b
  ·go_enter Tryz.func132, Tryz.ntmps132
   go_wp2_with fail
   refine ((un HC) _).mono ?_
   rintro e w1 ⟨rfl, hb⟩
   have HB := H_ hb
   clear hb HC
   go_wp2_with fail
   refine ((un HT) _).mono ?_
   rintro e w2 ⟨rfl, hb⟩
   have HB2 := H_ ((un HB).trans (hb.mono (un HB).size))
   clear hb HB
   go_wp2
   go_ret
   exact ⟨rfl, un HB2⟩
  ·go_enter Tryz.func132, Tryz.ntmps132
   go_wp2_with fail
   refine ((un HC) _).mono ?_
   rintro e w1 ⟨rfl, hb⟩
   have HB := H_ hb
   clear hb HC
   go_wp2_with fail
   refine ((un HT) _).mono ?_
   rintro e w2 ⟨rfl, hb⟩
   have HB2 := H_ ((un HB).trans (hb.mono (un HB).size))
   clear hb HB
   go_wp2_with fail
   refine ((un HO) _).mono ?_
   rintro e w3 ⟨rfl, hb⟩
   have HB3 := H_ ((un HB2).trans (hb.mono (un HB2).size))
   clear hb HB2
   go_wp2
   go_ret
   exact ⟨rfl, un HB3⟩
theorem isName_any (s : ByteArray) (w : World) :
  Calls Tryz.prog 104 #[.string s] w fun e w' => e = .returned (.bool (okName s)) /\ Below w.heap.size w w' := by
 by_cases hs : s.size <= 30
 ·have H := H_ fun W => typeWith_any s W hs
  have hs' : (s.size : Int) <= 30 := by omega
  generalize okName s = b at *
  clear hs
  go_enter Tryz.func104, Tryz.ntmps104
  go_wp2_with fail
  refine ((un H) _).mono ?_
  rintro e w1 ⟨rfl, hb⟩
  have HB := H_ hb
  clear hb
  go_wp2
  go_ret
  exact ⟨rfl, un HB⟩
 ·have hs' : ¬ (s.size : Int) <= 30 := by omega
  rw [show okName s = false by unfold okName nmL; rw [decide_eq_false (by rw [Array.length_toList]; exact hs)]; rfl]
  clear hs
  go_enter Tryz.func104, Tryz.ntmps104
  go_wp2
  go_ret
  exact ⟨rfl, Below.refl _ _⟩
end Go.Proofs.YtmenllnokgjdlaaGreatDoor.F
