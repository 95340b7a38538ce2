/- Several texts in one: FRd7, FGrow, FRd8, FApd. Each says what it proves, and its conditions. -/
import Derived.Test.YtjhnblgamodekaaGreatDoorG33
set_option maxHeartbeats 4000000
set_option maxRecDepth 100000
/-
 The iterator of reader.filters. Conditions: the reader's filter answers as it should at one depth more.
-/
namespace Go.Proofs.YtjhnblgamodekaaGreatDoor.F
open Go Go.RowKit Go.Shelf Fp
open D (H_ un ext_list)
attribute [local go_sem] Oper.semAt_some
structure Kz (A : Ad) (w0 : World) (R kb : Nat) (s : ByteArray) (bR bD : Nat) (X Y : World) : Prop where
 size : X.heap.size <= Y.heap.size
 env : ∀ p, Env A w0 R kb s p X -> Env A w0 R kb s p Y
 r : bR < X.heap.size -> Y.heap[bR]? = X.heap[bR]?
 d : bD < X.heap.size -> Y.heap[bD]? = X.heap[bD]?
theorem Kz.trans {A : Ad} {w0 : World} {R kb : Nat} {s : ByteArray} {bR bD : Nat} {X Y Z : World} (h : Kz A w0 R kb s bR bD X Y) (k : Kz A w0 R kb s bR bD Y Z) : Kz A w0 R kb s bR bD X Z :=
 ⟨Nat.le_trans h.size k.size, fun p e => k.env p (h.env p e), fun hl => (k.r (Nat.lt_of_lt_of_le hl h.size)).trans (h.r hl), fun hl => (k.d (Nat.lt_of_lt_of_le hl h.size)).trans (h.d hl)⟩
structure Got (k : Nat) where
 d : Fd
 er : Value
 o : Option (Fl (k + 2))
 p : Nat
def GotAt {k : Nat} (A : Ad) (w0 : World) (R kb : Nat) (s : ByteArray) (P : World -> Nat -> Prop) (x : Got k) (W : World) : Prop := (match x.o with
 | some F => x.er = .nilIface /\ FNode (k + 2) W (P W) x.d F /\ Env A w0 R kb s x.p W
 | none => ∃ T v, x.er = .iface T v /\ IsErr A (.iface T v))
def nxG {k : Nat} (c : List (Fl (k + 2))) (x : Got k) : List (Fl (k + 2)) := match x.o with
 | some F => c ++ [F]
 | none => c
def GoneG {k : Nat} (A : Ad) (w0 : World) (R kb : Nat) (s : ByteArray) (bR bD : Nat) (J Jx : List (Fl (k + 2)) -> World -> Prop) (c : List (Fl (k + 2))) (x : Got k) (W : World) (e : Ending) (W2 : World) : Prop :=
 (e = .returned (.bool true) /\ (x.o ≠ none /\ c.length < 8) /\ J (nxG c x) W2 /\ Kz A w0 R kb s bR bD W W2) \/ (e = .returned (.bool false) /\ (x.o = none \/ c.length = 8) /\ Jx (nxG c x) W2)
theorem rdB_len {n : Nat} {rd : List UInt8 -> Option (Fl n × List UInt8)} (hrd : ∀ l F r, rd l = some (F, r) -> r.length <= l.length) {l : List UInt8} {F : Fl (n + 1)} {r : List UInt8} (h : rdB rd l = some (F, r)) : r.length <= l.length := by
 have hL : ∀ (m : Nat) (l : List UInt8) fs r, rdL rd m l = some (fs, r) -> r.length <= l.length := by
  intro m
  induction m with
  | zero =>
   intro l fs r h
   rw [rdL] at h
   split at h
   ·cases h
   ·cases h; exact Nat.le_refl _
  | succ m ih =>
   intro l fs r h
   rw [rdL] at h
   split at h
   ·cases hx : rd l with
    | none => rw [hx] at h; cases h
    | some q =>
     obtain ⟨x, l'⟩ := q
     rw [hx] at h
     simp only at h
     rw [Option.map_eq_some_iff] at h
     obtain ⟨⟨ys, q'⟩, h2, h3⟩ := h
     cases h3
     exact Nat.le_trans (ih _ _ _ h2) (hrd _ _ _ hx)
   ·cases h; exact Nat.le_refl _
 unfold rdB at h
 split at h
 ·rw [Option.map_eq_some_iff] at h
  obtain ⟨⟨ys, q'⟩, h2, h3⟩ := h
  cases h3
  have h4 : q'.length <= l.tail.length := hL _ _ _ _ h2
  rw [List.length_tail] at h4
  exact Nat.le_trans h4 (Nat.sub_le _ _)
 ·split at h
  ·cases h
  ·rw [Option.map_eq_some_iff] at h
   obtain ⟨G, h2, h3⟩ := h
   cases h3
   simp
theorem rdF_len : ∀ (k : Nat) (l : List UInt8) (F : Fl (k + 2)) (r : List UInt8), rdF k l = some (F, r) -> r.length < l.length
 | 0, l, F, r, h => by cases h
 | k + 1, l, F, r, h => by
  rw [rdF] at h
  split at h
  ·rename_i h40
   cases h1 : rdB (rdF k) l.tail with
   | none => rw [h1] at h; cases h
   | some q =>
    obtain ⟨G, q⟩ := q
    rw [h1] at h
    simp only at h
    split at h
    ·cases h
     have h2 := rdB_len (fun l F r h => Nat.le_of_lt (rdF_len k l F r h)) h1
     cases l with
     | nil => cases h40
     | cons y ys => simp only [List.tail_cons] at h2; rw [List.length_tail, List.length_cons]; omega
    ·cases h
  ·cases h
theorem rdL_end {α : Type} (rd : List UInt8 -> Option (α × List UInt8)) (m : Nat) {l : List UInt8} (h : l.head? ≠ some 40) : rdL rd m l = some ([], l) := by
 cases m with
 | zero => rw [rdL, if_neg h]
 | succ m => rw [rdL, if_neg h]
theorem rdL_no {α : Type} (rd : List UInt8 -> Option (α × List UInt8)) (m : Nat) {l : List UInt8} (h : l.head? = some 40) (hn : rd l = none \/ m = 0) : rdL rd m l = none := by
 cases m with
 | zero => rw [rdL, if_pos h]
 | succ m =>
  rw [rdL, if_pos h, hn.resolve_right (by omega)]
theorem rdL_step {α : Type} (rd : List UInt8 -> Option (α × List UInt8)) {c : List α} {x : α} {l0 l r : List UInt8} (hl : c.length < 8) (h : l.head? = some 40) (hx : rd l = some (x, r)) (he : rdL rd 8 l0 = (rdL rd (8 - c.length) l).map fun q => (c ++ q.1, q.2)) :
  rdL rd 8 l0 = (rdL rd (8 - (c ++ [x]).length) r).map fun q => ((c ++ [x]) ++ q.1, q.2) := by
 obtain ⟨m, hm⟩ : ∃ m, 8 - c.length = m + 1 := ⟨8 - c.length - 1, by omega⟩
 rw [he, hm, show 8 - (c ++ [x]).length = m by rw [List.length_append, List.length_singleton]; omega, rdL, if_pos h, hx]
 simp only
 rw [Option.map_map]
 congr 1
 funext q
 simp
theorem at1_head {s : ByteArray} {p : Nat} {c : UInt8} (h : at1 s p c = true) : (s.data.toList.drop p).head? = some c := of_decide_eq_true h
theorem at1_not {s : ByteArray} {p : Nat} {c : UInt8} (h : at1 s p c = false) : (s.data.toList.drop p).head? ≠ some c := of_decide_eq_false h
theorem got_any {k : Nat} {A : Ad} {w0 : World} {R kb p : Nat} {P : World -> Nat -> Prop} {s : ByteArray} {w w' : World} {e : Ending} {l : List UInt8} (hE : Env A w0 R kb s p w) (hLo : ∀ Y b, But R w Y -> w.heap.size <= b -> P Y b) (h : RdPost (k + 1) A R kb s (rdF k l) w e w') :
  ∃ x : Got k, e = .returned (.tuple #[x.d.val, x.er]) /\ But R w w' /\ GotAt A w0 R kb s P x (w'.alloc x.d.obj) /\ (match x.o with | some F => rdF k l = some (F, s.data.toList.drop x.p) /\ x.p <= s.size | none => rdF k l = none) := by
 obtain ⟨hb, h⟩ := h
 cases ho : rdF k l with
 | none =>
  rw [ho] at h
  obtain ⟨d, T, v, h1, h2⟩ := h
  exact ⟨⟨d, _, none, 0⟩, h1, hb, ⟨T, v, rfl, h2⟩, rfl⟩
 | some q =>
  obtain ⟨F, r⟩ := q
  rw [ho] at h
  obtain ⟨d, h1, h2, q, h3, h4, h5⟩ := h
  have hal := fun W : World => (Below.refl W.heap.size W).alloc (Nat.le_refl _) d.obj
  exact ⟨⟨d, _, some F, q⟩, h1, hb, ⟨rfl, (h2.below (hal _)).imp fun b hb' _ => hLo _ b (hb.alloc _) hb', (hE.but hb h3).below (hal _)⟩, by rw [h5], h4⟩
theorem filters1_any (k : Nat) (A : Ad) (w0 : World) (R kb : Nat) (s : ByteArray) (hs : s.size <= 100000000) (deep : Int)
  (IH : ∀ p w, Env A w0 R kb s p w -> p <= s.size -> Calls Tryz.prog 45 #[.pointer (some ⟨R, 0, none⟩), .int .i64 deep] w (RdPost (k + 1) A R kb s (rdF k (s.data.toList.drop p)) w))
  (bR bD l : Nat) (P : List (Fl (k + 2)) -> World -> Nat -> Prop) (hbR : bR ≠ R) (hbD : bD ≠ R) (J Jx : List (Fl (k + 2)) -> World -> Prop)
  (hJ : ∀ c X Y, But R X Y -> J c X -> J c Y) (hJl : ∀ c X, J c X -> c.length <= 8 /\ (∀ Y b, But R X Y -> X.heap.size <= b -> P c Y b))
  (hY : ∀ c (x : Got k) W m, J c W -> GotAt A w0 R kb s (P c) x W -> YieldAt Fence.wide m Tryz.prog l #[x.d.val, x.er] W (GoneG A w0 R kb s bR bD J Jx c x W))
  (W : World) (l0 : List UInt8) (p0 : Nat) (hp0 : p0 <= s.size) (hl0 : l0 = s.data.toList.drop p0) (h0 : J [] W) (hE : Env A w0 R kb s p0 W)
  (hR : W.heap[bR]? = some (.cells #[.pointer (some ⟨R, 0, none⟩)] 109 (0, 0))) (hD : W.heap[bD]? = some (.cells #[.int .i64 deep] 3 (0, 0))) :
  CallsIn Fence.wide 6 Tryz.prog 115 #[.func (.yield l) #[] #[], .pointer (some ⟨bR, 0, none⟩), .pointer (some ⟨bD, 0, none⟩)] W fun e W' => (∃ v, e = .returned v) /\
   ((∃ c p, rdL (rdF k) 8 l0 = some (c, s.data.toList.drop p) /\ p <= s.size /\ Env A w0 R kb s p W' /\ J c W') \/ (∃ c, rdL (rdF k) 8 l0 = none /\ Jx c W')) := by
 have HH := H_ (And.intro h0 (And.intro hE (And.intro hR hD)))
 have HJ := H_ hJ
 have HJl := H_ hJl
 have HY := H_ hY
 have HI := H_ IH
 clear hJ hJl hY IH h0 hE hR hD
 refine callsIn_of_wp Tryz.func115 rfl trivial ?_ rfl
 simp only [Tryz.ntmps115, List.size_toArray, List.length_cons, List.length_nil, Nat.reduceAdd, Nat.reduceSub, Array.replicate_succ, Array.replicate_zero, List.push_toArray, List.append_toArray, List.nil_append, List.cons_append]
 gi_wp2
 gi_loopw [4, 5] (fun _ _ wr => ∃ (c : List (Fl (k + 2))) (p : Nat), p <= s.size /\ Hid (rdL (rdF k) 8 l0 = (rdL (rdF k) (8 - c.length) (s.data.toList.drop p)).map fun q => (c ++ q.1, q.2)) /\ Hid (J c wr) /\ Hid (Env A w0 R kb s p wr) /\ Hid (wr.heap[bR]? = some (.cells #[.pointer (some ⟨R, 0, none⟩)] 109 (0, 0)) /\ wr.heap[bD]? = some (.cells #[.int .i64 deep] 3 (0, 0))))
  (fun _ _ wr => match wr.cell? ⟨R, 1, none⟩ with | some (.int _ q) => s.size - q.toNat | _ => 0)
 case atStart =>
  refine ⟨[], p0, hp0, H_ ?_, H_ (un HH).1, H_ (un HH).2.1, H_ (un HH).2.2⟩
  rw [hl0]
  show rdL (rdF k) 8 _ = Option.map _ (rdL (rdF k) 8 _)
  cases rdL (rdF k) 8 (s.data.toList.drop p0) with
  | none => rfl
  | some q => rfl
 case round =>
  obtain ⟨c, p, hp, hEq, hj, hE, hbx⟩ := hrel
  clear HH
  obtain ⟨hlen, _⟩ := (un HJl) c wr (un hj)
  have HC := H_ fun z : Kw wr => z.call (has_any s p 40 z.w hs (by omega))
  obtain ⟨⟨x0, x1, x2⟩, _⟩ := (un hE).r.cells
  have y0 := (box1 (un hbx).1).1
  have y1 := (box1 (un hbx).2).1
  have q0 := fun z : Kw wr => Kw.cell z x0 (D.lt_cell x0)
  have q1 := fun z : Kw wr => Kw.cell z x1 (D.lt_cell x1)
  have q2 := fun z : Kw wr => Kw.cell z y0 (D.lt_cell y0)
  have hne : Nonempty (Kw wr) := kwNonempty wr
  have hmx : Tryz.prog.follows .mixedOrders = true := by kernel_rfl
  cases hb : at1 s p 40 with
  | false =>
   rw [hb] at HC
   have Hb := H_ hb
   clear x0 x1 x2 y0 y1 hb
   gi_wp2_with fail
   refine wpIn_wide.2 ?_
   refine wp_region_kw0 (by kernel_rfl) (by kernel_rfl) ?_
   repeat (go_big_quiet_step (first | with_reducible exact (un HC) _))
   refine wpQuiet_nil ?_
   rintro w' ⟨z, rfl⟩
   clear q0 q1 q2 hne HC
   gi_wp2
   go_end0
   refine ⟨⟨_, rfl⟩, .inl ⟨c, p, ?_, hp, (un hE).below z.b, (un HJ) c _ _ (But.of_below z.b) (un hj)⟩⟩
   rw [un hEq, rdL_end _ _ (at1_not (un Hb))]
   simp
  | true =>
   rw [hb] at HC
   have Hb := H_ hb
   clear x0 x1 x2 y0 y1 hb
   gi_wp2_with fail
   refine wpIn_wide.2 ?_
   refine wp_region_kw0 (by kernel_rfl) (by kernel_rfl) ?_
   repeat (go_big_quiet_step (first | with_reducible exact (un HC) _))
   refine wpQuiet_nil ?_
   rintro w' ⟨z, rfl⟩
   clear q0 q1 q2 hne HC
   have hbz := z.b
   have hEz := (un hE).below hbz
   have hRz := (hbz.block _ (Array.getElem?_eq_some_iff.1 (un hbx).1).1).trans (un hbx).1
   have hDz := (hbz.block _ (Array.getElem?_eq_some_iff.1 (un hbx).2).1).trans (un hbx).2
   have hjz := (un HJ) c _ _ (But.of_below hbz) (un hj)
   have hLz := ((un HJl) c _ hjz).2
   have y0 := (box1 hRz).1
   have y1 := (box1 hDz).1
   have hF := H_ ((un HI) p z.w hEz hp)
   have HZ := H_ (And.intro hEz (And.intro hLz (And.intro hRz (And.intro hDz hjz))))
   have hE0 := hE
   clear hbz hEz hLz hRz hDz hjz hE hj hbx
   gi_wp2_with fail
   refine ⟨trivial, (callsIn_wide.2 (un hF)).mono ?_⟩
   rintro e w3 he
   obtain ⟨hEz, hLz, hRz, hDz, hjz⟩ := un HZ
   obtain ⟨x, rfl, hb3, hG, hx⟩ := got_any hEz hLz he
   have hR3 := (hb3.block _ (Array.getElem?_eq_some_iff.1 hRz).1 hbR).trans hRz
   have hD3 := (hb3.block _ (Array.getElem?_eq_some_iff.1 hDz).1 hbD).trans hDz
   have hR4 := (Below.heap_alloc w3 x.d.obj _ (Array.getElem?_eq_some_iff.1 hR3).1).trans hR3
   have hD4 := (Below.heap_alloc w3 x.d.obj _ (Array.getElem?_eq_some_iff.1 hD3).1).trans hD3
   have hj4 := (un HJ) c _ _ (hb3.alloc x.d.obj) hjz
   obtain ⟨fn, tmps, assign, body, hy, hRd⟩ := (un HY) c x (w3.alloc x.d.obj) 5 hj4 hG
   have HX := H_ (And.intro hx (And.intro hR4 (And.intro hD4 hG)))
   have hxe : (x.o = none -> ∃ T v, x.er = .iface T v) /\ (x.o ≠ none -> x.er = .nilIface) := by
    unfold GotAt at hG
    cases ho : x.o with
    | none => rw [ho] at hG; obtain ⟨T, v, h1, _⟩ := hG; exact ⟨fun _ => ⟨T, v, h1⟩, fun h => (h rfl).elim⟩
    | some F => rw [ho] at hG; exact ⟨fun h => (by cases h), fun _ => hG.1⟩
   have Hxe := H_ hxe
   clear hxe y0 y1 he hF hEz hLz hRz hDz hjz hb3 hG hx hR3 hD3 hR4 hD4 hj4 HZ
   obtain ⟨⟨dk, da, dv, dsa, dsn, dsc, df, dla, dln, dlc⟩, er, o, xp⟩ := x
   dsimp only at hy hRd Hxe HX ⊢
   gi_wp2_with fail
   refine hRd.mono ?_
   rintro e W3 (⟨rfl, ⟨ho, hc8⟩, hj3, hk3⟩ | ⟨rfl, hw, hx3⟩)
   ·cases o with
    | none => exact absurd rfl ho
    | some F =>
     obtain rfl : er = .nilIface := (un Hxe).2 ho
     obtain ⟨hx, hR4, hD4, hG⟩ := un HX
     have hE3 := hk3.env xp hG.2.2
     have hR5 := (hk3.r (Array.getElem?_eq_some_iff.1 hR4).1).trans hR4
     have hD5 := (hk3.d (Array.getElem?_eq_some_iff.1 hD4).1).trans hD4
     have HZ := H_ (And.intro hx (And.intro hE3 (And.intro hR5 (And.intro hD5 hj3))))
     clear hx hR4 hD4 hG hE3 hR5 hD5 hk3 hj3 ho Hxe HX hRd
     gi_wp2
     go_roundw
     case rel =>
      obtain ⟨hx, hE3, hR5, hD5, hj3⟩ := un HZ
      exact ⟨c ++ [F], xp, hx.2, H_ (rdL_step (rdF k) hc8 (at1_head (un Hb)) hx.1 (un hEq)), H_ hj3, H_ hE3, H_ ⟨hR5, hD5⟩⟩
     case measure =>
      obtain ⟨hx, hE3, hR5, hD5, hj3⟩ := un HZ
      have h1 := rdF_len _ _ _ _ hx.1
      have h2 := hE3.r.cells.1.2.1
      have h3 := (un hE0).r.cells.1.2.1
      simp only [h2, h3]
      simp only [List.length_drop] at h1
      have h4 : s.data.toList.length = s.size := Array.length_toList
      have h5 := hx.2
      omega
   ·have hnone : rdL (rdF k) 8 l0 = none := by
     rw [un hEq, rdL_no _ _ (at1_head (un Hb)) ?_]
     ·rfl
     ·rcases hw with h | h
      ·left
       have hx := (un HX).1
       dsimp only at h hx
       rw [h] at hx
       exact hx
      ·right
       omega
    have HN := H_ (And.intro hnone hx3)
    clear hnone hx3 hw HX Hxe hRd
    gi_wp2
    refine bodyPost_ret (results_none rfl _ _ _) rfl ?_
    exact ⟨⟨_, rfl⟩, .inr ⟨_, (un HN).1, (un HN).2⟩⟩
end Go.Proofs.YtjhnblgamodekaaGreatDoor.F
/-
 A list of filters that grows by append: what lies in memory. Conditions: none.
-/
namespace Go.Proofs.YtjhnblgamodekaaGreatDoor.F
open Go Go.RowKit Go.Shelf Fp
open D (H_ un ext_list)
def flat6 (vs : List Fd) : List Value := vs.flatMap fun d => d.cs.toList
theorem flat6_len : ∀ vs : List Fd, (flat6 vs).length = vs.length * 6
 | [] => rfl
 | d :: vs => by
  have := flat6_len vs
  show (d.cs.toList ++ flat6 vs).length = (vs.length + 1) * 6
  rw [List.length_append, this, show d.cs.toList.length = 6 from rfl]
  omega
theorem flat6_get : ∀ (vs : List Fd) (i : Nat) (d : Fd), vs[i]? = some d -> ∀ (j : Nat) u, d.cs.toList[j]? = some u -> (flat6 vs)[i * 6 + j]? = some u
 | [], i, d, h, _, _, _ => by simp at h
 | x :: vs, 0, d, h, j, u, hj => by
  simp at h
  subst h
  have hlt : j < x.cs.toList.length := (List.getElem?_eq_some_iff.1 hj).1
  show (x.cs.toList ++ flat6 vs)[0 * 6 + j]? = _
  rw [Nat.zero_mul, Nat.zero_add, List.getElem?_append_left hlt]
  exact hj
 | x :: vs, i + 1, d, h, j, u, hj => by
  have ih := flat6_get vs i d (by simpa using h) j u hj
  show (x.cs.toList ++ flat6 vs)[(i + 1) * 6 + j]? = _
  have hl : x.cs.toList.length = 6 := rfl
  rw [List.getElem?_append_right (by omega), hl, show (i + 1) * 6 + j - 6 = i * 6 + j by omega]
  exact ih
abbrev set6o (W : World) (g o : Nat) (d : Fd) : World := (((((W.setCell ⟨g, o, none⟩ (.int .i64 d.k)).setCell ⟨g, o + 1, none⟩ (.string d.a)).setCell ⟨g, o + 2, none⟩ (.string d.v)).setCell ⟨g, o + 3, none⟩ (.slice d.sa d.sn d.sc)).setCell ⟨g, o + 4, none⟩ (.string d.f)).setCell ⟨g, o + 5, none⟩ (.slice d.la d.ln d.lc)
theorem set6o_but (W : World) (g o : Nat) (d : Fd) : But g W (set6o W g o d) := ((((((But.refl g W).setCell _ _).setCell _ _).setCell _ _).setCell _ _).setCell _ _).setCell _ _
theorem set6_list (xs : List Value) (d e : Fd) : ((((((xs ++ e.cs.toList).set xs.length (.int .i64 d.k)).set (xs.length + 1) (.string d.a)).set (xs.length + 2) (.string d.v)).set (xs.length + 3) (.slice d.sa d.sn d.sc)).set (xs.length + 4) (.string d.f)).set (xs.length + 5) (.slice d.la d.ln d.lc) = xs ++ d.cs.toList := by
 induction xs with
 | nil => rfl
 | cons x xs ih =>
  simp only [List.cons_append, List.length_cons]
  show x :: (((((((xs ++ e.cs.toList).set xs.length _).set (xs.length + 1) _).set (xs.length + 2) _).set (xs.length + 3) _).set (xs.length + 4) _).set (xs.length + 5) _) = _
  rw [ih]
theorem set6o_own {W : World} {base g n cap : Nat} {xs : List Value} (d e : Fd) (h : W.ownsRow base 25 6 (.slice (some ⟨g, 0, none⟩) (n + 1) cap) (n + 1) (xs ++ e.cs.toList)) (hx : xs.length = n * 6) :
  (set6o W g (n * 6) d).ownsRow base 25 6 (.slice (some ⟨g, 0, none⟩) (n + 1) cap) (n + 1) (xs ++ d.cs.toList) := by
 have h1 := ((((((h.stored (n * 6) (.int .i64 d.k)).1.stored (n * 6 + 1) (.string d.a)).1.stored (n * 6 + 2) (.string d.v)).1.stored (n * 6 + 3) (.slice d.sa d.sn d.sc)).1.stored (n * 6 + 4) (.string d.f)).1.stored (n * 6 + 5) (.slice d.la d.ln d.lc)).1
 rw [<- hx, set6_list] at h1
 rw [<- hx]
 exact h1
def GrowF (n : Nat) (W : World) (base : Nat) (sl : Value) (pre : List (Fl n)) : Prop :=
 ∃ vs : List Fd, vs.length = pre.length /\ W.ownsRow base 25 6 sl pre.length (flat6 vs) /\
  ∀ (i : Nat) v F, vs[i]? = some v -> pre[i]? = some F -> FNode n W (fun b => base <= b /\ some b ≠ sl.ownBlock) v F
theorem GrowF.nil (n : Nat) (W : World) (base : Nat) : GrowF n W base (.slice none 0 0) [] := ⟨[], rfl, World.ownsRow_nil W base _ 6, fun i v F h => by simp at h⟩
theorem GrowF.of {n : Nat} {W W' : World} {base : Nat} {sl : Value} {pre : List (Fl n)} (h : GrowF n W base sl pre) (hb : ∀ b, base <= b -> b < W.heap.size -> W'.heap[b]? = W.heap[b]?) : GrowF n W' base sl pre := by
 obtain ⟨vs, hl, ho, hN⟩ := h
 refine ⟨vs, hl, ⟨ho.1, ?_⟩, fun i v F hv hF => (hN i v F hv hF).of fun b hp hlt => hb b hp.1 hlt⟩
 rcases ho.2 with h | ⟨g, cap, cur, e, hg, hc, h⟩
 ·exact .inl h
 ·exact .inr ⟨g, cap, cur, e, hg, (hb g hg (Array.getElem?_eq_some_iff.1 hc).1).trans hc, h⟩
theorem GrowF.lt {n : Nat} {W : World} {base : Nat} {sl : Value} {pre : List (Fl n)} (h : GrowF n W base sl pre) {g : Nat} (hg : sl.ownBlock = some g) : base <= g /\ g < W.heap.size := by
 obtain ⟨vs, hl, ho, hN⟩ := h
 exact ho.lt g hg
theorem growF_snoc {n : Nat} {W W5 : World} {base g cap : Nat} {sl : Value} {pre : List (Fl n)} {vs : List Fd} {d : Fd} {F : Fl n} (hvl : vs.length = pre.length)
  (hN : ∀ (i : Nat) v F, vs[i]? = some v -> pre[i]? = some F -> FNode n W (fun b => base <= b /\ some b ≠ sl.ownBlock) v F)
  (hown : W5.ownsRow base 25 6 (.slice (some ⟨g, 0, none⟩) (pre.length + 1) cap) (pre.length + 1) (flat6 vs ++ d.cs.toList))
  (hsame : ∀ b, base <= b -> b < W.heap.size -> some b ≠ sl.ownBlock -> b ≠ g -> W5.heap[b]? = W.heap[b]?) (hg : sl.ownBlock = some g \/ W.heap.size <= g)
  (hnew : FNode n W (fun b => base <= b /\ some b ≠ sl.ownBlock) d F) :
  GrowF n W5 base (.slice (some ⟨g, 0, none⟩) (pre.length + 1) cap) (pre ++ [F]) := by
 have hG : ∀ b, base <= b /\ some b ≠ sl.ownBlock -> b < W.heap.size -> b ≠ g := fun b hb hl e => by
  rcases hg with hg | hg
  ·exact hb.2 (by rw [hg, e])
  ·omega
 have step : ∀ {v : Fd} {F : Fl n}, FNode n W (fun b => base <= b /\ some b ≠ sl.ownBlock) v F -> FNode n W5 (fun b => base <= b /\ some b ≠ (Value.slice (some ⟨g, 0, none⟩) (pre.length + 1) cap).ownBlock) v F := fun h =>
  (h.imp (q := fun b => (base <= b /\ some b ≠ sl.ownBlock) /\ b ≠ g) (fun b hb hl => ⟨hb, hG b hb hl⟩)).of (fun b hb hl => hsame b hb.1.1 hl hb.1.2 hb.2) |>.imp (fun b hb _ => ⟨hb.1.1, fun e => hb.2 (by simpa [Value.ownBlock] using e)⟩)
 refine ⟨vs ++ [d], by simp [hvl], by simpa [List.flatMap_append, flat6] using hown, fun i v F' hv hF => ?_⟩
 by_cases hi : i < pre.length
 ·rw [List.getElem?_append_left (by omega)] at hv hF
  exact step (hN i v F' hv hF)
 ·have hiv : i = pre.length := by
   have := (List.getElem?_eq_some_iff.1 hF).1
   simp at this; omega
  subst hiv
  rw [List.getElem?_append_right (by omega)] at hv hF
  simp [hvl] at hv hF
  subst hv; subst hF
  exact step hnew
theorem GrowF.node {n : Nat} {W : World} {base : Nat} {sl : Value} {pre : List (Fl n)} (h : GrowF n W base sl pre) (k : Int) (hp : pre.length <= 1000) :
  ∃ la lc, sl = .slice la pre.length lc /\ FNode (n + 1) W (fun b => base <= b) ⟨k, ⟨#[]⟩, ⟨#[]⟩, none, 0, 0, ⟨#[]⟩, la, pre.length, lc⟩ (mk k ⟨#[]⟩ ⟨#[]⟩ [] ⟨#[]⟩ pre) := by
 obtain ⟨vs, hl, ho, hN⟩ := h
 have hI : ∀ la lc, Is ⟨k, ⟨#[]⟩, ⟨#[]⟩, none, 0, 0, ⟨#[]⟩, la, pre.length, lc⟩ (mk k ⟨#[]⟩ ⟨#[]⟩ [] ⟨#[]⟩ pre) := fun la lc => ⟨rfl, rfl, rfl, rfl, rfl, rfl⟩
 have hS : Sm (mk k ⟨#[]⟩ ⟨#[]⟩ [] ⟨#[]⟩ pre) := ⟨Nat.zero_le _, Nat.zero_le _, Nat.zero_le _, Nat.zero_le _, (fun x hx => by cases hx), hp⟩
 rcases ho.2 with ⟨rfl, h0⟩ | ⟨g, cap, cur, rfl, hg, hc, _⟩
 ·have hnil : pre = [] := List.length_eq_zero_iff.1 h0
  exact ⟨none, 0, by rw [h0], hI _ _, hS, .inl rfl, .inl hnil⟩
 ·refine ⟨_, cap, rfl, hI _ _, hS, .inl rfl, .inr ⟨g, 0, rfl, hg, fun i F hF => ?_⟩⟩
  rw [ls_mk] at hF
  have hi := (List.getElem?_eq_some_iff.1 hF).1
  have hv : vs[i]? = some vs[i] := List.getElem?_eq_getElem (by omega)
  have hcl : ∀ (j : Nat) u, vs[i].cs.toList[j]? = some u -> W.cell? ⟨g, 0 + i * 6 + j, none⟩ = some u := fun j u hj => by
   have := ho.cells (g := g) rfl (i * 6 + j) u (flat6_get vs i _ hv j u hj)
   rw [Addr.add_lit] at this
   rw [Nat.add_assoc]
   exact this
  exact ⟨vs[i], ⟨hcl 0 _ rfl, hcl 1 _ rfl, hcl 2 _ rfl, hcl 3 _ rfl, hcl 4 _ rfl, hcl 5 _ rfl⟩, (hN i _ F hv hF).imp fun b hb _ => hb.1⟩
end Go.Proofs.YtjhnblgamodekaaGreatDoor.F
/-
 The reader's body where no set's sign stands; reader.filters. Conditions: the package-level variables hold what the program's text lays; what is read of values at a time has at most 1000 bytes.
-/
namespace Go.Proofs.YtjhnblgamodekaaGreatDoor.F
open Go Go.RowKit Go.Shelf Fp
open D (H_ un ext_list)
attribute [local go_sem] Oper.semAt_some
theorem filters_any (R : Nat) (deep : Int) (w : World) :
  Calls Tryz.prog 96 #[.pointer (some ⟨R, 0, none⟩), .int .i64 deep] w fun e w' => e = .returned (.func (.func 115) #[] #[.pointer (some ⟨w.heap.size, 0, none⟩), .pointer (some ⟨w.heap.size + 1, 0, none⟩)]) /\
   w' = (w.alloc (.cells #[.pointer (some ⟨R, 0, none⟩)] 109)).alloc (.cells #[.int .i64 deep] 3) := by
 have hmf : ∀ (fn : Fn) (first cap : Array Value) (w : World), (Instr.makeFunc fn first cap).run Tryz.prog w = .ok (.func fn first cap) w := fun _ _ _ _ => rfl
 go_enter Tryz.func96, Tryz.ntmps96
 go_wp2
 go_ret
 exact ⟨rfl, rfl⟩
theorem Env.but2 {A : Ad} {w0 : World} {R kb b : Nat} {s : ByteArray} {p : Nat} {w w' : World} (h : Env A w0 R kb s p w) (hb : But b w w') (h1 : b ≠ R) (h2 : b ≠ kb) (h3 : w0.heap.size <= b) : Env A w0 R kb s p w' :=
 ⟨h.g, below_but h.b hb (Nat.le_refl _) h3, h.lo, h.r.but hb h1, h.k.of (hb.block _ h.k.lt (Ne.symm h2)), h.ne⟩
theorem sign_set (s : ByteArray) (p : Nat) (hp : p <= s.size) : ∃ ko, kindS (s.extract (min (p : Int) s.size).toNat (min ((p : Int) + 1) s.size).toNat).data.toList = ko /\
  ((s.data.toList.drop p).head?.bind setK = if (ko.isSome && isSet (ko.getD 0)) = true then some (ko.getD 0) else none) /\ ((ko.isSome && isSet (ko.getD 0)) = true -> (s.extract (min (p : Int) s.size).toNat (min ((p : Int) + 1) s.size).toNat).size = 1 /\ p < s.size) := by
 refine ⟨_, rfl, ?_⟩
 have hz : s.size = s.data.toList.length := (Array.length_toList).symm
 have hes : (s.extract (min (p : Int) s.size).toNat (min ((p : Int) + 1) s.size).toNat).size = min (p + 1) s.size - p := by
  rw [ByteArray.size_extract]; omega
 rw [hes, ext_list, hz]
 generalize hl : s.data.toList = l at *
 by_cases h : p < l.length
 ·rw [show (min (p : Int) l.length).toNat = p by omega, show (min ((p : Int) + 1) l.length).toNat = p + 1 by omega]
  have e : (l.take (p + 1)).drop p = [l[p]] := by
   rw [List.take_succ_eq_append_getElem h, List.drop_append]
   simp [Nat.min_eq_left (Nat.le_of_lt h)]
  rw [e, List.drop_eq_getElem_cons h, List.head?_cons, Option.bind_some]
  refine ⟨?_, fun _ => by omega⟩
  unfold kindS setK
  generalize l[p] = x
  by_cases h1 : x = 38
  ·subst h1; rfl
  by_cases h2 : x = 124
  ·subst h2; rfl
  by_cases h3 : x = 33
  ·subst h3; rfl
  by_cases h4 : x = 61
  ·subst h4; rfl
  simp [h1, h2, h3, h4]
 ·rw [show (min (p : Int) l.length).toNat = l.length by omega, show (min ((p : Int) + 1) l.length).toNat = l.length by omega, List.drop_eq_nil_of_le (Nat.le_of_not_lt h)]
  have e : (l.take l.length).drop l.length = [] := by simp
  rw [e]
  exact ⟨rfl, fun h => by cases h⟩
theorem finB {b : Nat} {V : World} {tmps : Array Value} {d : Fd} {u : Value} {Q : Ending -> World -> Prop} (h0 : V.heap[b]? = some (.cells d.cs 25 (0, 0)))
  (t4 : tmps.getD 4 undef = .pointer (some ⟨b, 0, none⟩)) (t5 : tmps.getD 5 undef = u) (hp : Q (.returned (.tuple #[d.val, u])) V) :
  Exit.noGoto (bodyPostM Fence.wide 7 Tryz.prog Tryz.f75 Q) Exit.ret { tmps, defers := [] } V := by
 refine ⟨.tuple #[d.val, u], ?_, hp⟩
 obtain ⟨⟨c0, c1, c2, c3, c4, c5⟩, _⟩ := box6 h0
 have t4' : tmps[4]?.getD undef = .pointer (some ⟨b, 0, none⟩) := by simpa using t4
 have t5' : tmps[5]?.getD undef = u := by simpa using t5
 simp [results, Tryz.results75, go_sem, t4', t5', c0, c1, c2, c3, c4, c5]
theorem rd_store {m : Nat} {A : Ad} {R kb : Nat} {s : ByteArray} {o : Option (Fl (m + 1) × List UInt8)} {w z w3 : World} {e : Ending} (h : RdPost m A R kb s o z e w3) (hz : Below w.heap.size w z) (hn : w.heap.size < z.heap.size) (hR : R < w.heap.size) :
  ∃ (d : Fd) (er : Value), e = .returned (.tuple #[d.val, er]) /\ But R z w3 /\ RdPost m A R kb s o w e (set6 w3 w.heap.size d) := by
 obtain ⟨hb, h⟩ := h
 have hbw : But R w w3 := (But.of_below hz).trans hb
 cases o with
 | none =>
  obtain ⟨d, T, x, rfl, hE⟩ := h
  exact ⟨d, _, rfl, hb, hbw.late (set6_but _ _ _) (Nat.le_refl _), d, T, x, rfl, hE⟩
 | some q =>
  obtain ⟨F, r⟩ := q
  obtain ⟨d, rfl, hN, q, hr, hq, hd⟩ := h
  have hS := set6_but w3 w.heap.size d
  exact ⟨d, _, rfl, hb, hbw.late hS (Nat.le_refl _), d, rfl, (hN.of fun b hb hl => hS.block b hl (by omega)).imp fun b hb _ => by omega, q, hr.but hS (by omega), hq, hd⟩
theorem body_leaf (n : Nat) (A : Ad) (w0 : World) (R kb p : Nat) (s : ByteArray) (deep : Int) (w : World) (hE : Env A w0 R kb s p w) (hs : s.size <= 100000000) (hp : p <= s.size)
  (hno : (s.data.toList.drop p).head?.bind setK = none) (hPc : ∀ q c, cutB 41 (s.data.toList.drop p) = some (q, c) -> Pc q) :
  Calls Tryz.prog 75 #[.pointer (some ⟨R, 0, none⟩), .int .i64 deep] w (RdPost n A R kb s (rdCon (s.data.toList.drop p)) w) := by
 obtain ⟨V, hV⟩ : ∃ V, V = w.alloc (.cells zfd.cs 25) := ⟨_, rfl⟩
 have hVb : Below w.heap.size w V := by rw [hV]; exact (Below.refl _ _).alloc (Nat.le_refl _) _
 have hV0 : V.heap[w.heap.size]? = some (.cells zfd.cs 25 (0, 0)) := by rw [hV]; exact World.alloc_heap_new _ _
 have hVz : w.heap.size < V.heap.size := by rw [hV]; simp
 have hRw := hE.r.lt
 have hEV := hE.below hVb
 obtain ⟨⟨k0, k1, k2⟩, _⟩ := hEV.r.cells
 have q0 := fun z : Kw V => Kw.cell z k0 (D.lt_cell k0)
 have q1 := fun z : Kw V => Kw.cell z k1 (D.lt_cell k1)
 have hne : Nonempty (Kw V) := kwNonempty V
 have hmx : Tryz.prog.follows .mixedOrders = true := by kernel_rfl
 have HVw := H_ hV
 have HC := fun z : Kw V => z.call (piece_any s p (p + 1) z.w hs (by omega))
 rw [show ((p + 1 : Nat) : Int) = (p : Int) + 1 by omega] at HC
 obtain ⟨ko, hko, hks, _⟩ := sign_set s p hp
 have hsz : (s.extract (min (p : Int) s.size).toNat (min ((p : Int) + 1) s.size).toNat).size <= maxLen := by rw [ByteArray.size_extract]; unfold maxLen; omega
 generalize s.extract (min (p : Int) s.size).toNat (min ((p : Int) + 1) s.size).toNat = sg at *
 have Hlook : Hid (∀ W, KindsAt W kb -> (Instr.lookup 73 (.map (some kb)) (.string sg) true).run Tryz.prog W = .ok (.tuple #[.int .i64 (ko.getD 0), .bool ko.isSome]) W) := H_ fun W (h : KindsAt W kb) => by
  have := h.look sg hsz
  rwa [hko] at this
 have hset : ko = none \/ ∃ kk, ko = some kk /\ isSet kk = false := by
  rw [hno] at hks
  cases ko with
  | none => exact .inl rfl
  | some kk =>
   right
   refine ⟨kk, rfl, ?_⟩
   cases hi : isSet kk with
   | false => rfl
   | true => rw [show ((some kk : Option Int).isSome && isSet ((some kk : Option Int).getD 0)) = true from hi] at hks; cases hks
 have HC := H_ HC
 have HE := H_ hEV
 have HVx := H_ (And.intro hVb hV0)
 have HCon := H_ fun W (h : Env A w0 R kb s p W) => condition_any n A w0 R kb p s W h hs hp hPc
 have hpi : (p : Int) <= 100000000 := by omega
 clear hE hs hp hV hVb hV0 hEV k0 k1 k2 hko hks hno hPc hsz
 have key : ∀ b : Bool, ko.isSome = b -> (b = true -> isSet (ko.getD 0) = false) -> Calls Tryz.prog 75 #[.pointer (some ⟨R, 0, none⟩), .int .i64 deep] w (RdPost n A R kb s (rdCon (s.data.toList.drop p)) w) := by
  intro b hb hi
  rw [hb] at Hlook
  have HS : Hid (b = true -> ∀ W, Calls Tryz.prog 39 #[.int .i64 (ko.getD 0)] W fun e w' => e = .returned (.bool false) /\ w' = W) := H_ (fun h W => by have := isSet_any (ko.getD 0) W; rwa [hi h] at this)
  clear hb hi hset
  generalize ko.getD 0 = kk at *
  cases b with
  | false =>
   refine (callsIn_wide (n := 7)).1 ?_
   refine callsIn_of_wp_marks Tryz.func75 rfl trivial ?_ rfl
   simp only [Tryz.ntmps75, List.size_toArray, List.length_cons, List.length_nil, Nat.reduceAdd, Nat.reduceSub, Array.replicate_succ, Array.replicate_zero, List.push_toArray, List.append_toArray, List.nil_append, List.cons_append]
   refine wpIn_wide.2 ?_
   go_wp2_with fail
   refine wp_scope_straight ?_
   go_wp2_with fail
   rw [<- un HVw]
   refine wp_region_kw0 (by kernel_rfl) (by kernel_rfl) ?_
   repeat (go_big_quiet_step (first | with_reducible exact (un HC) _))
   refine wpQuiet_nil ?_
   rintro w' ⟨z, rfl⟩
   have hEz := (un HE).below z.b
   obtain ⟨⟨k0, k1, k2⟩, _⟩ := hEz.r.cells
   have hl := (un Hlook) z.w hEz.k
   have HEz := H_ hEz
   clear q0 q1 hne hEz HC Hlook
   go_wp2_with fail
   refine ((un HCon) _ (un HEz)).mono ?_
   rintro e w3 hR
   have hzz := z.b.size
   obtain ⟨d, er, rfl, hb3, hP⟩ := rd_store hR ((un HVx).1.trans (z.b.mono (by omega))) (by omega) hRw
   have h3 := (hb3.block w.heap.size (by omega) (by omega)).trans ((z.b.block _ hVz).trans (un HVx).2)
   obtain ⟨⟨c0, c1, c2, c3, c4, c5⟩, f0, f1, f2, f3, f4, f5⟩ := box6 h3
   dsimp only at c0 c1 c2 c3 c4 c5
   have h6 := set6_blk h3 d
   have HQ := H_ (And.intro h6 hP)
   clear hR hzz hb3 hP h3 h6 hl k0 k1 k2
   obtain ⟨dk, da, dv, dsa, dsn, dsc, df, dla, dln, dlc⟩ := d
   go_wp2
   obtain ⟨h6, hP⟩ := un HQ
   exact finB (b := w.heap.size) (d := ⟨dk, da, dv, dsa, dsn, dsc, df, dla, dln, dlc⟩) (u := er) h6 rfl rfl hP
  | true =>
   refine (callsIn_wide (n := 7)).1 ?_
   refine callsIn_of_wp_marks Tryz.func75 rfl trivial ?_ rfl
   simp only [Tryz.ntmps75, List.size_toArray, List.length_cons, List.length_nil, Nat.reduceAdd, Nat.reduceSub, Array.replicate_succ, Array.replicate_zero, List.push_toArray, List.append_toArray, List.nil_append, List.cons_append]
   refine wpIn_wide.2 ?_
   go_wp2_with fail
   refine wp_scope_straight ?_
   go_wp2_with fail
   rw [<- un HVw]
   refine wp_region_kw0 (by kernel_rfl) (by kernel_rfl) ?_
   repeat (go_big_quiet_step (first | with_reducible exact (un HC) _))
   refine wpQuiet_nil ?_
   rintro w' ⟨z, rfl⟩
   have hEz := (un HE).below z.b
   obtain ⟨⟨k0, k1, k2⟩, _⟩ := hEz.r.cells
   have hl := (un Hlook) z.w hEz.k
   have HEz := H_ hEz
   clear q0 q1 hne hEz HC Hlook
   go_wp2_with fail
   refine ((un HS) (by first | rfl | trivial) _).mono ?_
   rintro e w2 ⟨rfl, rfl⟩
   go_wp2_with fail
   refine ((un HCon) _ (un HEz)).mono ?_
   rintro e w3 hR
   have hzz := z.b.size
   obtain ⟨d, er, rfl, hb3, hP⟩ := rd_store hR ((un HVx).1.trans (z.b.mono (by omega))) (by omega) hRw
   have h3 := (hb3.block w.heap.size (by omega) (by omega)).trans ((z.b.block _ hVz).trans (un HVx).2)
   obtain ⟨⟨c0, c1, c2, c3, c4, c5⟩, f0, f1, f2, f3, f4, f5⟩ := box6 h3
   dsimp only at c0 c1 c2 c3 c4 c5
   have h6 := set6_blk h3 d
   have HQ := H_ (And.intro h6 hP)
   clear hR hzz hb3 hP h3 h6 hl k0 k1 k2
   obtain ⟨dk, da, dv, dsa, dsn, dsc, df, dla, dln, dlc⟩ := d
   go_wp2
   obtain ⟨h6, hP⟩ := un HQ
   exact finB (b := w.heap.size) (d := ⟨dk, da, dv, dsa, dsn, dsc, df, dla, dln, dlc⟩) (u := er) h6 rfl rfl hP
 rcases hset with rfl | ⟨kk, rfl, hk⟩
 ·exact key false rfl (fun h => by cases h)
 ·exact key true rfl (fun _ => hk)
end Go.Proofs.YtjhnblgamodekaaGreatDoor.F
/-
 What the body's loop keeps at a set's sign, and what an append in it leaves. Conditions: none.
-/
namespace Go.Proofs.YtjhnblgamodekaaGreatDoor.F
open Go Go.RowKit Go.Shelf Fp
open D (H_ un ext_list)
theorem infoF : ∃ i, Tryz.prog.info? 25 = some i /\ i.zero = some zfd.val /\ i.size = 6 /\ i.bytes = 104 := ⟨Tryz.t25, by kernel_rfl, by kernel_rfl, by kernel_rfl, by kernel_rfl⟩
structure Bin (k : Nat) (w : World) (R N : Nat) (kk : Int) (fs : List (Fl (k + 2))) (la : Option Addr) (lc : Nat) (W : World) : Prop where
 b0 : W.heap[w.heap.size]? = some (.cells zfd.cs 25 (0, 0))
 f : W.heap[N]? = some (.cells (Fd.cs ⟨kk, ⟨#[]⟩, ⟨#[]⟩, none, 0, 0, ⟨#[]⟩, la, fs.length, lc⟩) 25 (0, 0))
 wr : W.heap[N + 1]? = some (.cells #[.nilIface] 42 (0, 0))
 gr : GrowF (k + 2) W (N + 6) (.slice la fs.length lc) fs
 bel : But R w W
 len : fs.length <= 8
theorem Bin.but {k : Nat} {w : World} {R N : Nat} {kk : Int} {fs : List (Fl (k + 2))} {la : Option Addr} {lc l : Nat} {W V : World} (h : Bin k w R N kk fs la lc W) (hb : But l W V) (hN : w.heap.size < N) (hl : (N + 1 < l /\ l < N + 6) \/ (l = R /\ R < w.heap.size)) : Bin k w R N kk fs la lc V :=
 ⟨(hb.block _ (Array.getElem?_eq_some_iff.1 h.b0).1 (by omega)).trans h.b0, (hb.block _ (Array.getElem?_eq_some_iff.1 h.f).1 (by omega)).trans h.f, (hb.block _ (Array.getElem?_eq_some_iff.1 h.wr).1 (by omega)).trans h.wr, h.gr.of fun b hb1 hb2 => hb.block b hb2 (by omega), (by
  rcases hl with hl | ⟨rfl, _⟩
  ·exact h.bel.late hb (by omega)
  ·exact h.bel.trans hb), h.len⟩
structure Bix (A : Ad) (w : World) (R N : Nat) (W : World) : Prop where
 b0 : W.heap[w.heap.size]? = some (.cells zfd.cs 25 (0, 0))
 f : ∃ d : Fd, W.heap[N]? = some (.cells d.cs 25 (0, 0))
 wr : ∃ T x, W.heap[N + 1]? = some (.cells #[.iface T x] 42 (0, 0)) /\ IsErr A (.iface T x)
 bel : But R w W
theorem Bix.but {A : Ad} {w : World} {R N l : Nat} {W V : World} (h : Bix A w R N W) (hb : But l W V) (hN : w.heap.size < N) (hl : N + 1 < l) : Bix A w R N V := by
 obtain ⟨h0, ⟨d, h1⟩, ⟨T, x, h2, h3⟩, h4⟩ := h
 exact ⟨(hb.block _ (Array.getElem?_eq_some_iff.1 h0).1 (by omega)).trans h0, ⟨d, (hb.block _ (Array.getElem?_eq_some_iff.1 h1).1 (by omega)).trans h1⟩, ⟨T, x, (hb.block _ (Array.getElem?_eq_some_iff.1 h2).1 (by omega)).trans h2, h3⟩, h4.late hb (by omega)⟩
theorem Env.low {A : Ad} {w0 : World} {R kb p N : Nat} {s : ByteArray} {w w' : World} (h : Env A w0 R kb s p w) (hb : Below N w w') (hR : R < N) (hk : kb < N) : Env A w0 R kb s p w' :=
 ⟨h.g, h.b.trans (hb.mono (by have := h.lo; omega)), h.lo, ⟨(hb.block _ hR).trans h.r.blk⟩, h.k.of (hb.block _ hk), h.ne⟩
def Fr (N : Nat) (W : World) (b : Nat) : Prop := N + 6 <= b /\ N < W.heap.size /\ ∀ a n c, W.cell? ⟨N, 5, none⟩ = some (.slice (some a) n c) -> a.block ≠ b
theorem Fr.but {N l : Nat} {X Y : World} {b : Nat} (h : Fr N X b) (hb : But l X Y) (hl : l ≠ N) : Fr N Y b :=
 ⟨h.1, by have := hb.size; have := h.2.1; omega, fun a n c hc => h.2.2 a n c (by
  rw [<- World.cell?_of_block (w := X) (a := ⟨N, 5, none⟩) (hb.block N h.2.1 (Ne.symm hl))]; exact hc)⟩
theorem Bin.own {k : Nat} {w : World} {R N : Nat} {kk : Int} {fs : List (Fl (k + 2))} {la : Option Addr} {lc : Nat} {W : World} (h : Bin k w R N kk fs la lc W) {g : Nat} (hg : (Value.slice la fs.length lc).ownBlock = some g) : N + 6 <= g /\ g < W.heap.size := h.gr.lt hg
theorem Bin.fr {k : Nat} {w : World} {R N : Nat} {kk : Int} {fs : List (Fl (k + 2))} {la : Option Addr} {lc : Nat} {W : World} (h : Bin k w R N kk fs la lc W) (hz : N + 6 <= W.heap.size) (hR : R ≠ N) (Y : World) (b : Nat) (hb : But R W Y) (hl : W.heap.size <= b) : Fr N Y b := by
 refine ⟨by omega, by have := hb.size; omega, fun a n c hc => ?_⟩
 have h5 : Y.cell? ⟨N, 5, none⟩ = some (.slice la fs.length lc) := (World.cell?_of_block (w := W) (a := ⟨N, 5, none⟩) (hb.block N (by omega) (Ne.symm hR))).trans (box6 h.f).1.2.2.2.2.2
 rw [h5] at hc
 cases hc
 have := h.own (g := a.block) rfl
 omega
theorem Bin.same {k : Nat} {w : World} {R N : Nat} {kk : Int} {fs : List (Fl (k + 2))} {la la' : Option Addr} {lc lc' : Nat} {W B : World} (h : Bin k w R N kk fs la lc W) (h' : Bin k w R N kk fs la' lc' B) (e : W.heap[N]? = B.heap[N]?) : la' = la /\ lc' = lc := by
 have h1 := (box6 h.f).1.2.2.2.2.2
 have h2 := (box6 h'.f).1.2.2.2.2.2
 rw [World.cell?_of_block (w := B) (a := ⟨N, 5, none⟩) e, h2] at h1
 cases h1
 exact ⟨rfl, rfl⟩
theorem apd_end {k : Nat} {w : World} {R N : Nat} {kk : Int} {fs : List (Fl (k + 2))} {la : Option Addr} {lc : Nat} {W V w5 X : World} {d : Fd} {F : Fl (k + 2)} {g cap : Nat} {vs : List Fd}
  (hI : Bin k w R N kk fs la lc W) (hVW : V.heap = W.heap /\ V.os = W.os /\ V.tape = W.tape /\ V.output = W.output) (hNw : w.heap.size < N) (hNW : N + 6 <= W.heap.size) (h8 : fs.length ≠ 8) (hvl : vs.length = fs.length)
  (hNs : ∀ (i : Nat) v F, vs[i]? = some v -> fs[i]? = some F -> FNode (k + 2) W (fun b => N + 6 <= b /\ some b ≠ (Value.slice la fs.length lc).ownBlock) v F)
  (hown : w5.ownsRow (N + 6) 25 6 (.slice (some ⟨g, 0, none⟩) (fs.length + 1) cap) (fs.length + 1) (flat6 vs ++ zfd.cs.toList))
  (hgrow : (V.alloc zfd.obj).grownBy w5 (Value.slice la fs.length lc).ownBlock) (hat : (Value.slice la fs.length lc).ownBlock = some g \/ g = V.heap.size + 1)
  (hnew : FNode (k + 2) W (Fr N W) d F)
  (hX : X = (set6o w5 g (fs.length * 6) d).setCell ⟨N, 5, none⟩ (.slice (some ⟨g, 0, none⟩) (fs.length + 1) cap) \/ X = set6o (w5.setCell ⟨N, 5, none⟩ (.slice (some ⟨g, 0, none⟩) (fs.length + 1) cap)) g (fs.length * 6) d) :
  (∃ la lc, Bin k w R N kk (fs ++ [F]) la lc X) /\ Below N W X /\ (∀ i, N < i -> i < N + 6 -> X.heap[i]? = W.heap[i]?) := by
 obtain ⟨hv1, hv2, hv3, hv4⟩ := hVW
 have hVz : V.heap.size = W.heap.size := by rw [hv1]
 have hgN : N + 6 <= g := by
  rcases hat with h | h
  ·exact (hI.own h).1
  ·omega
 have hl : (flat6 vs).length = fs.length * 6 := by rw [flat6_len, hvl]
 have old : ∀ i, i < W.heap.size -> some i ≠ (Value.slice la fs.length lc).ownBlock -> w5.heap[i]? = W.heap[i]? := fun i h1 h2 =>
  (hgrow.block i (by simp; omega) h2).trans ((Below.heap_alloc _ _ _ (by omega)).trans (by rw [hv1]))
 have hz5 : W.heap.size < w5.heap.size := by have := hgrow.size; simp at this; omega
 have hN5 : w5.heap[N]? = some (.cells (Fd.cs ⟨kk, ⟨#[]⟩, ⟨#[]⟩, none, 0, 0, ⟨#[]⟩, la, fs.length, lc⟩) 25 (0, 0)) :=
  (old N (by omega) (fun e => by have := (hI.own e.symm).1; omega)).trans hI.f
 obtain ⟨hXo, hXb, hXN, hXs, hXz⟩ : X.ownsRow (N + 6) 25 6 (.slice (some ⟨g, 0, none⟩) (fs.length + 1) cap) (fs.length + 1) (flat6 vs ++ d.cs.toList) /\ (∀ i, i < w5.heap.size -> i ≠ g -> i ≠ N -> X.heap[i]? = w5.heap[i]?) /\
   X.heap[N]? = some (.cells (Fd.cs ⟨kk, ⟨#[]⟩, ⟨#[]⟩, none, 0, 0, ⟨#[]⟩, some ⟨g, 0, none⟩, fs.length + 1, cap⟩) 25 (0, 0)) /\ (X.os = w5.os /\ X.tape = w5.tape /\ X.output = w5.output) /\ w5.heap.size <= X.heap.size := by
  rcases hX with hX | hX
  ·have hb := set6o_but w5 g (fs.length * 6) d
   have ho := set6o_own d zfd hown hl
   generalize set6o w5 g (fs.length * 6) d = Y at *
   have hbN := (But.refl N Y).setCell 5 (.slice (some ⟨g, 0, none⟩) (fs.length + 1) cap)
   rw [<- hX] at hbN
   refine ⟨by rw [hX]; exact ownsRow_setCell_below ho (by show N < N + 6; omega) _, fun i h1 h2 h3 => (hbN.block i (by have := hb.size; omega) h3).trans (hb.block i h1 h2), ?_, ⟨hbN.os.trans hb.os, hbN.tape.trans hb.tape, hbN.output.trans hb.output⟩, Nat.le_trans hb.size hbN.size⟩
   rw [hX]
   exact heap_set _ N 5 _ _ _ ((hb.block N (by omega) (by omega)).trans hN5)
  ·have hbN := (But.refl N w5).setCell 5 (.slice (some ⟨g, 0, none⟩) (fs.length + 1) cap)
   have hN6 := heap_set _ N 5 _ _ (.slice (some ⟨g, 0, none⟩) (fs.length + 1) cap) hN5
   have ho5 := ownsRow_setCell_below hown (a := ⟨N, 5, none⟩) (by show N < N + 6; omega) (.slice (some ⟨g, 0, none⟩) (fs.length + 1) cap)
   generalize w5.setCell ⟨N, 5, none⟩ (.slice (some ⟨g, 0, none⟩) (fs.length + 1) cap) = Y at *
   have hb := set6o_but Y g (fs.length * 6) d
   have ho := set6o_own d zfd ho5 hl
   rw [<- hX] at hb ho
   refine ⟨ho, fun i h1 h2 h3 => (hb.block i (by have := hbN.size; omega) h2).trans (hbN.block i h1 h3), (hb.block N (by have := hbN.size; omega) (by omega)).trans hN6, ⟨hb.os.trans hbN.os, hb.tape.trans hbN.tape, hb.output.trans hbN.output⟩, Nat.le_trans hbN.size hb.size⟩
 have far : ∀ i, i < N + 6 -> i ≠ N -> X.heap[i]? = W.heap[i]? := fun i h1 h2 =>
  (hXb i (by omega) (by omega) h2).trans (old i (by omega) (fun e => by have := (hI.own e.symm).1; omega))
 have hBl : Below N W X := ⟨hXs.1.trans (hgrow.os.trans hv2), hXs.2.1.trans (hgrow.tape.trans hv3), hXs.2.2.trans (hgrow.output.trans hv4), by omega, fun i hi => far i (by omega) (by omega)⟩
 refine ⟨⟨some ⟨g, 0, none⟩, cap, (far _ (by omega) (by omega)).trans hI.b0, ?_, (far _ (by omega) (by omega)).trans hI.wr, ?_, ⟨hBl.os.trans hI.bel.os, hBl.tape.trans hI.bel.tape, hBl.output.trans hI.bel.output, Nat.le_trans hI.bel.size hBl.size, fun i hi hn => (hBl.block i (by omega)).trans (hI.bel.block i hi hn)⟩, by have := hI.len; rw [List.length_append, List.length_singleton]; omega⟩, hBl, fun i h1 h2 => far i h2 (by omega)⟩
 ·rw [List.length_append, List.length_singleton]; exact hXN
 ·rw [List.length_append, List.length_singleton]
  refine growF_snoc hvl hNs hXo (fun b h1 h2 h3 h4 => (hXb b (by omega) h4 (by omega)).trans (old b h2 h3)) ?_ (hnew.imp fun b hb _ => ⟨hb.1, fun e => ?_⟩)
  ·rcases hat with h | h
   ·exact .inl h
   ·exact .inr (by omega)
  ·have h5 := (box6 hI.f).1.2.2.2.2.2
   cases la with
   | none => cases e
   | some a => exact hb.2.2 a _ _ h5 (by cases e; rfl)
theorem apd_cells {W : World} {base g n cap : Nat} {vs : List Fd} (hvl : vs.length = n) (h : W.ownsRow base 25 6 (.slice (some ⟨g, 0, none⟩) (n + 1) cap) (n + 1) (flat6 vs ++ zfd.cs.toList)) :
  W.cell? ⟨g, n * 6, none⟩ = some (.int .i64 0) /\ W.cell? ⟨g, n * 6 + 1, none⟩ = some (.string ⟨#[]⟩) /\ W.cell? ⟨g, n * 6 + 2, none⟩ = some (.string ⟨#[]⟩) /\ W.cell? ⟨g, n * 6 + 3, none⟩ = some (.slice none 0 0) /\ W.cell? ⟨g, n * 6 + 4, none⟩ = some (.string ⟨#[]⟩) /\ W.cell? ⟨g, n * 6 + 5, none⟩ = some (.slice none 0 0) := by
 have hl : (flat6 vs).length = n * 6 := by rw [flat6_len, hvl]
 have key : ∀ j, j < 6 -> W.cell? ⟨g, n * 6 + j, none⟩ = zfd.cs.toList[j]? := fun j hj => by
  rw [h.cellAt (n * 6 + j) (by omega), List.getElem?_append_right (by omega), hl, Nat.add_sub_cancel_left]
 exact ⟨key 0 (by omega), key 1 (by omega), key 2 (by omega), key 3 (by omega), key 4 (by omega), key 5 (by omega)⟩
theorem apd_far {V w5 : World} {N b g : Nat} {own : Option Nat} {cb cn : Obj} (ho : ∀ i, own = some i -> N + 6 <= i /\ i < b) (hN : N < b) (hb : b < V.heap.size) (hgrow : (V.alloc zfd.obj).grownBy w5 own) (hat : own = some g \/ g = V.heap.size + 1) (hB : V.heap[b]? = some cb) (hNN : V.heap[N]? = some cn) :
  g ≠ b /\ g ≠ N /\ w5.heap[b]? = some cb /\ w5.heap[N]? = some cn := by
 have hg : g < b /\ N + 6 <= g \/ g = V.heap.size + 1 := by
  rcases hat with h | h
  ·exact .inl ⟨(ho g h).2, (ho g h).1⟩
  ·exact .inr h
 have old : ∀ i o, i < V.heap.size -> own ≠ some i -> V.heap[i]? = some o -> w5.heap[i]? = some o := fun i o h1 h2 h3 =>
  (hgrow.block i (by simp; omega) (fun e => h2 e.symm)).trans ((Below.heap_alloc _ _ _ h1).trans h3)
 exact ⟨by omega, by omega, old b cb hb (fun e => by have := ho b e; omega) hB, old N cn (by omega) (fun e => by have := ho N e; omega) hNN⟩
theorem cells6_new (W : World) (d : Fd) : ∀ (j : Nat) (u : Value), d.cs.toList[j]? = some u -> (W.alloc d.obj).cell? ((⟨W.heap.size, 0, none⟩ : Addr).add j) = some u := World.news_of_block (World.alloc_heap_new W _)
end Go.Proofs.YtjhnblgamodekaaGreatDoor.F
