/- What the law file's Cut gives of a filter that lies in memory. Conditions: none. -/
import Derived.Test.YtjhnblgamodekaaGreatDoorG34
set_option linter.unusedSimpArgs false
set_option linter.unusedVariables false
set_option maxHeartbeats 8000000
set_option maxRecDepth 100000
namespace Go.Proofs.YtjhnblgamodekaaGreatDoor.F
open Go Go.RowKit Go.Shelf Fp
open D (H_ un ext_list)
theorem GrowF.kids {n : Nat} {W : World} {base : Nat} {la : Option Addr} {lc : Nat} {pre : List (Fl n)} (h : GrowF n W base (.slice la pre.length lc) pre) :
  pre = [] \/ ∃ g off, la = some ⟨g, off, none⟩ /\ base <= g /\ ∀ (i : Nat) F, pre[i]? = some F -> ∃ e : Fd, At W g (off + i * 6) e /\ FNode n W (fun b => base <= b) e F := by
 obtain ⟨vs, hl, ho, hN⟩ := h
 rcases ho.2 with ⟨_, h0⟩ | ⟨g, cap, cur, e, hg, hc, _⟩
 ·exact .inl (List.length_eq_zero_iff.1 h0)
 ·cases e
  refine .inr ⟨g, 0, rfl, hg, fun i F hF => ?_⟩
  have hi := (List.getElem?_eq_some_iff.1 hF).1
  have hv : vs[i]? = some vs[i] := List.getElem?_eq_getElem (by omega)
  have hcl : ∀ (j : Nat) u, vs[i].cs.toList[j]? = some u -> W.cell? ⟨g, 0 + i * 6 + j, none⟩ = some u := fun j u hj => by
   have := ho.cells (g := g) rfl (i * 6 + j) u (flat6_get vs i _ hv j u hj)
   rw [Addr.add_lit] at this
   rw [Nat.add_assoc]
   exact this
  exact ⟨vs[i], ⟨hcl 0 _ rfl, hcl 1 _ rfl, hcl 2 _ rfl, hcl 3 _ rfl, hcl 4 _ rfl, hcl 5 _ rfl⟩, (hN i _ F hv hF).imp fun b hb _ => hb.1⟩
theorem owns_below {W V : World} {base : Nat} {e : TypeId} {size : Nat} {v : Value} {n : Nat} {xs : List Value} (h : W.ownsRow base e size v n xs) (hb : Below W.heap.size W V) : V.ownsRow base e size v n xs :=
 h.kept (row := none) ⟨hb.os, hb.tape, hb.output, hb.size, fun k hk _ => hb.block k hk⟩ (by cases hv : v.ownBlock <;> simp)
def CutPost (W : World) (k : Nat) (F : Fl k) (e : Ending) (V : World) : Prop := Below W.heap.size W V /\ ∃ d : Fd, e = .returned d.val /\ FNode k V (fun b => W.heap.size <= b) d F
abbrev Fd.out (d : Fd) (sa : Option Addr) (sn sc : Nat) (la : Option Addr) (ln lc : Nat) : Fd := ⟨d.k, cutS d.a, cutS d.v, sa, sn, sc, cutS d.f, la, ln, lc⟩
structure Box3F (W : World) (d o : Fd) (V : World) : Prop where
 b0 : V.heap[W.heap.size]? = some (.cells d.cs 25 (0, 0))
 b1 : V.heap[W.heap.size + 1]? = some (.cells zfd.cs 25 (0, 0))
 b2 : V.heap[W.heap.size + 1 + 1]? = some (.cells o.cs 25 (0, 0))
 bel : Below W.heap.size W V
 sz : W.heap.size + 3 <= V.heap.size
theorem Box3F.keep {W : World} {d o : Fd} {V V' : World} (h : Box3F W d o V) (hb : Below (W.heap.size + 3) V V') : Box3F W d o V' :=
 ⟨(hb.block _ (by omega)).trans h.b0, (hb.block _ (by omega)).trans h.b1, (hb.block _ (by omega)).trans h.b2, h.bel.trans (hb.mono (by omega)), Nat.le_trans h.sz hb.size⟩
theorem Box3F.set {W : World} {d o : Fd} {V : World} (h : Box3F W d o V) (i : Nat) (v : Value) (o' : Fd) (ho : o.cs.setIfInBounds i v = o'.cs) : Box3F W d o' (V.setCell ⟨W.heap.size + 1 + 1, i, none⟩ v) :=
 ⟨(Below.heap_setCell _ _ _ _ (by show W.heap.size ≠ W.heap.size + 1 + 1; omega)).trans h.b0, (Below.heap_setCell _ _ _ _ (by show W.heap.size + 1 ≠ W.heap.size + 1 + 1; omega)).trans h.b1,
  (heap_set _ _ i _ _ _ h.b2).trans (by rw [ho]), h.bel.setCell (by show W.heap.size <= W.heap.size + 1 + 1; omega) _, by rw [size_setCell]; exact h.sz⟩
structure Inv1 (W : World) (d : Fd) (sa : Option Addr) (sc : Nat) (pre : List ByteArray) (V : World) : Prop where
 bx : Box3F W d (d.out sa pre.length sc none 0 0) V
 own : V.ownsRow (W.heap.size + 3) 9 1 (.slice sa pre.length sc) pre.length (strs pre)
structure Inv2 (k : Nat) (W : World) (d : Fd) (sa : Option Addr) (sc : Nat) (xs : List ByteArray) (la : Option Addr) (lc : Nat) (pre : List (Fl k)) (V : World) : Prop where
 bx : Box3F W d (d.out sa xs.length sc la pre.length lc) V
 own : V.ownsRow (W.heap.size + 3) 9 1 (.slice sa xs.length sc) xs.length (strs xs)
 gr : GrowF k V (W.heap.size + 3) (.slice la pre.length lc) pre
theorem Inv2.below {k : Nat} {W : World} {d : Fd} {sa : Option Addr} {sc : Nat} {xs : List ByteArray} {la : Option Addr} {lc : Nat} {pre : List (Fl k)} {V V' : World} (h : Inv2 k W d sa sc xs la lc pre V) (hb : Below V.heap.size V V') : Inv2 k W d sa sc xs la lc pre V' :=
 ⟨h.bx.keep (hb.mono h.bx.sz), owns_below h.own hb, h.gr.of fun b _ hl => hb.block b hl⟩
theorem Inv2.snoc {k : Nat} {W : World} {d : Fd} {sa : Option Addr} {sc : Nat} {xs : List ByteArray} {la : Option Addr} {lc : Nat} {pre : List (Fl k)} {V w2 w5 : World} {vs : List Fd} {e : Fd} {F : Fl k} {gg cp : Nat}
  (h : Inv2 k W d sa sc xs la lc pre V) (hvl : vs.length = pre.length) (hNs : ∀ (i : Nat) v F, vs[i]? = some v -> pre[i]? = some F -> FNode k w2 (fun b => W.heap.size + 3 <= b /\ some b ≠ (Value.slice la pre.length lc).ownBlock) v F)
  (_hb : Below V.heap.size V w2) (h2 : Inv2 k W d sa sc xs la lc pre w2) (hN : FNode k w2 (fun b => V.heap.size <= b) e F)
  (hown : w5.ownsRow (W.heap.size + 3) 25 6 (.slice (some ⟨gg, 0, none⟩) (pre.length + 1) cp) (pre.length + 1) (flat6 vs ++ e.cs.toList))
  (hgrow : (w2.alloc e.obj).grownBy w5 (Value.slice la pre.length lc).ownBlock) (hat : (Value.slice la pre.length lc).ownBlock = some gg \/ gg = w2.heap.size + 1) :
  Inv2 k W d sa sc xs (some ⟨gg, 0, none⟩) cp (pre ++ [F]) (w5.setCell ⟨W.heap.size + 1 + 1, 5, none⟩ (.slice (some ⟨gg, 0, none⟩) (pre.length + 1) cp)) := by
 have hob : ∀ g', (Value.slice la pre.length lc).ownBlock = some g' -> W.heap.size + 3 <= g' /\ g' < V.heap.size := fun g' hg' => h.gr.lt hg'
 have hz := h2.bx.sz
 have hb5 : Below (W.heap.size + 3) w2 w5 := ((Below.refl (W.heap.size + 3) w2).alloc hz _).grown hgrow (by simp; omega) (fun q hq => (hob q hq).1)
 have old : ∀ b, b < w2.heap.size -> some b ≠ (Value.slice la pre.length lc).ownBlock -> w5.heap[b]? = w2.heap[b]? := fun b h1 h3 => (hgrow.block b (by simp; omega) h3).trans (Below.heap_alloc _ _ _ h1)
 refine ⟨?_, ?_, ?_⟩
 ·rw [show (pre ++ [F]).length = pre.length + 1 by simp]
  exact (h2.bx.keep hb5).set 5 _ (d.out sa xs.length sc (some ⟨gg, 0, none⟩) (pre.length + 1) cp) rfl
 ·refine ownsRow_setCell_below ?_ (a := ⟨W.heap.size + 1 + 1, 5, none⟩) (by show W.heap.size + 1 + 1 < _; omega) _
  refine ⟨h2.own.1, ?_⟩
  rcases h2.own.2 with hn | ⟨g, cap, cur, e3, hg, hc, hr⟩
  ·exact .inl hn
  ·refine .inr ⟨g, cap, cur, e3, hg, (old g (Array.getElem?_eq_some_iff.1 hc).1 (fun e4 => ?_)).trans hc, hr⟩
   rcases h2.gr with ⟨vs', _, ho, _⟩
   rcases ho.2 with ⟨e5, _⟩ | ⟨g', cap', cur', e5, hg', hc', _⟩
   ·rw [e5] at e4; cases e4
   ·rw [e5] at e4
    have e6 : g = g' := by simpa [Value.ownBlock] using e4
    subst e6
    rw [hc] at hc'
    cases hc'
 ·rw [show (pre ++ [F]).length = pre.length + 1 by simp]
  refine growF_snoc (W := w2) (sl := .slice la pre.length lc) hvl hNs (ownsRow_setCell_below hown (a := ⟨W.heap.size + 1 + 1, 5, none⟩) (by show W.heap.size + 1 + 1 < _; omega) _) (fun b h1 h3 h4 _ => (Below.heap_setCell _ _ _ _ (by show b ≠ W.heap.size + 1 + 1; omega)).trans (old b h3 h4)) ?_ (hN.imp fun b hb' _ => ⟨by have := h.bx.sz; omega, fun e4 => by have := hob b e4.symm; omega⟩)
  rcases hat with hat | hat
  ·exact .inl hat
  ·exact .inr (by rw [hat]; omega)
theorem cut_node {k : Nat} {W : World} {d : Fd} {sa : Option Addr} {sc : Nat} {xs : List ByteArray} {la : Option Addr} {lc : Nat} {pre : List (Fl k)} {V : World} (h : Inv2 k W d sa sc xs la lc pre V) (h1 : xs.length <= 10) (h2 : pre.length <= 10) (hx : ∀ x ∈ xs, x.size <= 61) :
  FNode (k + 1) V (fun b => W.heap.size + 3 <= b) (d.out sa xs.length sc la pre.length lc) (mk d.k (cutS d.a) (cutS d.v) xs (cutS d.f) pre) := by
 have q1 := cutS_size d.a
 have q2 := cutS_size d.v
 have q3 := cutS_size d.f
 obtain ⟨sa', sc', e, hst⟩ := own_strs h.own rfl
 cases e
 exact ⟨⟨rfl, rfl, rfl, rfl, rfl, rfl⟩, ⟨by rw [nm_mk]; omega, by rw [va_mk]; omega, by rw [fi_mk]; omega, by rw [an_mk]; omega, fun x hx' => by have := hx x hx'; omega, by rw [ls_mk]; omega⟩, hst, h.gr.kids⟩
theorem cutAt_any : ∀ (k : Nat) (F : Fl k) (W : World) (d : Fd), k <= 8 -> CutF k W d F -> Calls Tryz.prog 20 #[d.val, .int .i64 (k : Int)] W (CutPost W k F) := by
 intro k
 induction k with
 | zero => intro F; exact Empty.elim F
 | succ k ih =>
  intro F W d hk8 hC
  obtain ⟨hsz, ⟨hkd, hnm, hva, hfi⟩, han, hanx, hls, hlsx⟩ := hC
  have HF : Hid (F = mk d.k (cutS d.a) (cutS d.v) (an F) (cutS d.f) (ls F)) := H_ (by rw [<- hkd, <- hnm, <- hva, <- hfi]; exact (mk_eta F).symm)
  rw [show (((k + 1 : Nat)) : Int) = (k : Int) + 1 by omega]
  have IH := H_ ih
  have Han := H_ han
  have Hanx := H_ hanx
  have Hls := H_ hls
  have Hlsx := H_ hlsx
  have hk0 : (k : Int) <= 7 := by omega
  obtain ⟨hsa, hsv, hsf, hsn, hsl⟩ := hsz
  have Hx61 : Hid (∀ x ∈ an F, x.size <= 61) := H_ (by
   intro x hx
   obtain ⟨i, hi⟩ := List.getElem?_of_mem hx
   rcases hanx with h | ⟨g, off, _, h⟩
   ·rw [h] at hi; cases hi
   ·obtain ⟨s, _, _, rfl⟩ := h i x hi
    exact cutS_size s)
  generalize an F = xs at *
  generalize ls F = ks at *
  obtain ⟨i0, hi0, hy0, hy1, hy2⟩ := infoF
  obtain ⟨i1, hi1, hs0, hs1, hs2⟩ := infoS
  clear ih hkd hnm hva hfi han hanx hls hlsx hsa hsv hsf hsn hsl
  obtain ⟨dk, da, dv, dsa, dsn, dsc, df, dla, dln, dlc⟩ := d
  go_enter Tryz.func20, Tryz.ntmps20
  go_wp2_with fail
  refine wp_region_held (S := fun w' => w'.cell? ⟨W.heap.size, 0, none⟩ = some (.int .i64 dk) /\ w'.cell? ⟨W.heap.size, 1, none⟩ = some (.string da) /\ w'.cell? ⟨W.heap.size, 2, none⟩ = some (.string dv) /\ w'.cell? ⟨W.heap.size, 4, none⟩ = some (.string df)) (by kernel_rfl) ?_
  obtain ⟨X0, hX0⟩ : ∃ X0, X0 = ((W.alloc (Fd.obj ⟨dk, da, dv, dsa, dsn, dsc, df, dla, dln, dlc⟩)).alloc zfd.obj).drew := ⟨_, rfl⟩
  change wpAnyH _ _ _ _ _ 26 #[false, false, false, false, false, false, false, false, false, false, false, false, false, false, false, false, false, false, false, false, false, false, false, false, false, false] _ ((W.alloc (Fd.obj ⟨dk, da, dv, dsa, dsn, dsc, df, dla, dln, dlc⟩)).alloc zfd.obj).drew
  have hz0 : X0.heap.size = W.heap.size + 1 + 1 := by rw [hX0]; simp [World.drew]
  have hb0 : X0.heap[W.heap.size]? = some (.cells (Fd.cs ⟨dk, da, dv, dsa, dsn, dsc, df, dla, dln, dlc⟩) 25 (0, 0)) := by rw [hX0]; exact (Below.heap_alloc _ _ _ (by simp)).trans (World.alloc_heap_new W _)
  have hb1 : X0.heap[W.heap.size + 1]? = some (.cells zfd.cs 25 (0, 0)) := by rw [hX0]; have := World.alloc_heap_new (W.alloc (Fd.obj ⟨dk, da, dv, dsa, dsn, dsc, df, dla, dln, dlc⟩)) zfd.obj; rwa [World.size_alloc] at this
  have hbl : Below W.heap.size W X0 := by rw [hX0]; exact (((Below.refl _ _).alloc (Nat.le_refl _) _).alloc (by simp) _).drew
  rw [<- hX0]
  clear hX0
  have hS : (fun w' => w'.cell? ⟨W.heap.size, 0, none⟩ = some (.int .i64 dk) /\ w'.cell? ⟨W.heap.size, 1, none⟩ = some (.string da) /\ w'.cell? ⟨W.heap.size, 2, none⟩ = some (.string dv) /\ w'.cell? ⟨W.heap.size, 4, none⟩ = some (.string df)) X0 := ⟨(box6 hb0).1.1, (box6 hb0).1.2.1, (box6 hb0).1.2.2.1, (box6 hb0).1.2.2.2.2.1⟩
  have hSa : ∀ o, (fun w' => w'.cell? ⟨W.heap.size, 0, none⟩ = some (.int .i64 dk) /\ w'.cell? ⟨W.heap.size, 1, none⟩ = some (.string da) /\ w'.cell? ⟨W.heap.size, 2, none⟩ = some (.string dv) /\ w'.cell? ⟨W.heap.size, 4, none⟩ = some (.string df)) (X0.alloc o) := fun o => by
   have hq := (Below.heap_alloc X0 o W.heap.size (by omega)).trans hb0
   exact ⟨(box6 hq).1.1, (box6 hq).1.2.1, (box6 hq).1.2.2.1, (box6 hq).1.2.2.2.2.1⟩
  have HSa := H_ hSa
  have HB := H_ (And.intro hb0 (And.intro hb1 hbl))
  clear hSa hb0 hb1 hbl
  refine tkk 0 (.pointer (some ⟨W.heap.size, 0, none⟩)) rfl (by rintro w1 ⟨s0, s1, s2, s3⟩; go_simp; all_goals first | rfl | omega) hS ?_
  simp only [Act.put, nrm]
  refine tkk 1 (.int .i64 dk) rfl (by rintro w1 ⟨s0, s1, s2, s3⟩; go_simp; all_goals first | rfl | omega) hS ?_
  simp only [Act.put, nrm]
  refine tkk 2 (.pointer (some ⟨W.heap.size, 1, none⟩)) rfl (by rintro w1 ⟨s0, s1, s2, s3⟩; go_simp; all_goals first | rfl | omega) hS ?_
  simp only [Act.put, nrm]
  refine tkk 3 (.string da) rfl (by rintro w1 ⟨s0, s1, s2, s3⟩; go_simp; all_goals first | rfl | omega) hS ?_
  simp only [Act.put, nrm]
  refine tkk 4 (.pointer (some ⟨W.heap.size, 1, none⟩)) rfl (by rintro w1 ⟨s0, s1, s2, s3⟩; go_simp; all_goals first | rfl | omega) hS ?_
  simp only [Act.put, nrm]
  refine tkk 5 (.string da) rfl (by rintro w1 ⟨s0, s1, s2, s3⟩; go_simp; all_goals first | rfl | omega) hS ?_
  simp only [Act.put, nrm]
  refine tkk 6 (.int .i64 (da.size : Int)) rfl (by rintro w1 ⟨s0, s1, s2, s3⟩; go_simp; all_goals first | rfl | omega) hS ?_
  simp only [Act.put, nrm]
  refine tkk 7 (.int .i64 (min (da.size : Int) 61)) rfl (by rintro w1 ⟨s0, s1, s2, s3⟩; go_simp; all_goals first | rfl | omega) hS ?_
  simp only [Act.put, nrm]
  refine tkk 8 (.string (cutS da)) rfl (by rintro w1 ⟨s0, s1, s2, s3⟩; go_simp; all_goals first | rfl | omega) hS ?_
  simp only [Act.put, nrm]
  refine tkk 9 (.pointer (some ⟨W.heap.size, 2, none⟩)) rfl (by rintro w1 ⟨s0, s1, s2, s3⟩; go_simp; all_goals first | rfl | omega) hS ?_
  simp only [Act.put, nrm]
  refine tkk 10 (.string dv) rfl (by rintro w1 ⟨s0, s1, s2, s3⟩; go_simp; all_goals first | rfl | omega) hS ?_
  simp only [Act.put, nrm]
  refine tkk 11 (.pointer (some ⟨W.heap.size, 2, none⟩)) rfl (by rintro w1 ⟨s0, s1, s2, s3⟩; go_simp; all_goals first | rfl | omega) hS ?_
  simp only [Act.put, nrm]
  refine tkk 12 (.string dv) rfl (by rintro w1 ⟨s0, s1, s2, s3⟩; go_simp; all_goals first | rfl | omega) hS ?_
  simp only [Act.put, nrm]
  refine tkk 13 (.int .i64 (dv.size : Int)) rfl (by rintro w1 ⟨s0, s1, s2, s3⟩; go_simp; all_goals first | rfl | omega) hS ?_
  simp only [Act.put, nrm]
  refine tkk 14 (.int .i64 (min (dv.size : Int) 61)) rfl (by rintro w1 ⟨s0, s1, s2, s3⟩; go_simp; all_goals first | rfl | omega) hS ?_
  simp only [Act.put, nrm]
  refine tkk 15 (.string (cutS dv)) rfl (by rintro w1 ⟨s0, s1, s2, s3⟩; go_simp; all_goals first | rfl | omega) hS ?_
  simp only [Act.put, nrm]
  refine tkk 16 (.pointer (some ⟨W.heap.size, 4, none⟩)) rfl (by rintro w1 ⟨s0, s1, s2, s3⟩; go_simp; all_goals first | rfl | omega) hS ?_
  simp only [Act.put, nrm]
  refine tkk 17 (.string df) rfl (by rintro w1 ⟨s0, s1, s2, s3⟩; go_simp; all_goals first | rfl | omega) hS ?_
  simp only [Act.put, nrm]
  refine tkk 18 (.pointer (some ⟨W.heap.size, 4, none⟩)) rfl (by rintro w1 ⟨s0, s1, s2, s3⟩; go_simp; all_goals first | rfl | omega) hS ?_
  simp only [Act.put, nrm]
  refine tkk 19 (.string df) rfl (by rintro w1 ⟨s0, s1, s2, s3⟩; go_simp; all_goals first | rfl | omega) hS ?_
  simp only [Act.put, nrm]
  refine tkk 20 (.int .i64 (df.size : Int)) rfl (by rintro w1 ⟨s0, s1, s2, s3⟩; go_simp; all_goals first | rfl | omega) hS ?_
  simp only [Act.put, nrm]
  refine tkk 21 (.int .i64 (min (df.size : Int) 61)) rfl (by rintro w1 ⟨s0, s1, s2, s3⟩; go_simp; all_goals first | rfl | omega) hS ?_
  simp only [Act.put, nrm]
  refine tkk 22 (.string (cutS df)) rfl (by rintro w1 ⟨s0, s1, s2, s3⟩; go_simp; all_goals first | rfl | omega) hS ?_
  simp only [Act.put, nrm]
  refine tkk 23 (.agg #[.int .i64 dk, .string (cutS da), .string (cutS dv), .slice none 0 0, .string (cutS df), .slice none 0 0]) rfl (by rintro w1 ⟨s0, s1, s2, s3⟩; go_simp; all_goals first | rfl | omega) hS ?_
  simp only [Act.put, nrm]
  refine rdyy 24 rfl (fun K hK => ?_)
  rw [if_pos (by kernel_rfl)]
  go_simp
  refine hK.out _ _ ((un HSa) _) (fun _ => ?_)
  clear hK K
  simp only [Act.put, nrm]
  refine rdyy 25 rfl (fun K hK => ?_)
  rw [if_pos (by kernel_rfl)]
  go_simp
  refine hK.out _ _ ((un HSa) _) (fun _ => ?_)
  clear hK K
  simp only [Act.put, nrm]
  refine wpAnyH_done (by kernel_rfl) ?_ _
  have HI1 : Hid (Inv1 W ⟨dk, da, dv, dsa, dsn, dsc, df, dla, dln, dlc⟩ none 0 [] (X0.alloc (Fd.obj (Fd.out ⟨dk, da, dv, dsa, dsn, dsc, df, dla, dln, dlc⟩ none 0 0 none 0 0)))) := by
   obtain ⟨hb0, hb1, hbl⟩ := un HB
   refine H_ ⟨⟨(Below.heap_alloc _ _ _ (by omega)).trans hb0, (Below.heap_alloc _ _ _ (by omega)).trans hb1, ?_, hbl.alloc hbl.size _, by rw [World.size_alloc]; omega⟩, World.ownsRow_nil _ _ _ 1⟩
   rw [<- hz0]
   exact World.alloc_heap_new X0 _
  clear HB HSa hS hz0
  go_wp2
  go_loopw [6] (fun y wr => ∃ (i : Nat) (sa : Option Addr) (sc : Nat), i <= xs.length /\ y = .int .i64 i /\ Hid (Inv1 W ⟨dk, da, dv, dsa, dsn, dsc, df, dla, dln, dlc⟩ sa sc (xs.take i) wr)) (fun y _ => xs.length - (intOf y).toNat)
  case atStart => exact ⟨0, none, 0, Nat.zero_le _, rfl, HI1⟩
  case round =>
   obtain ⟨i, sa, sc, hi, rfl, hI⟩ := hrel
   clear HI1
   have HB := H_ (un hI).bx
   have HOw := H_ (un hI).own
   have cD := (box6 (un HB).b0).1.2.2.2.1
   dsimp only at cD
   by_cases hlt : i < xs.length
   ·have hxl := un Han
    have hl1 : (i : Int) < dsn := by omega
    have hl2 : (i : Int) < 10 := by omega
    obtain ⟨g, off, hga, hx⟩ := (un Hanx).resolve_left (fun e => by rw [e] at hlt; cases hlt)
    subst hga
    obtain ⟨s, hss, hsc, hse⟩ := hx i _ (List.getElem?_eq_getElem hlt)
    have z1 := ((un HB).bel.cell (D.lt_cell hsc)).trans hsc
    have hgW : g < W.heap.size := D.lt_cell hsc
    obtain ⟨pre, hpre⟩ : ∃ pre, pre = xs.take i := ⟨_, rfl⟩
    have hpl : pre.length = i := by rw [hpre, List.length_take]; omega
    have hnx : xs.take (i + 1) = pre ++ [cutS s] := by rw [hpre, List.take_succ_eq_append_getElem hlt, hse]
    rw [<- hpre] at HB HOw
    subst hpl
    have Hnx := H_ hnx
    have Hpre := H_ hpre
    have hzX := (un HB).sz
    unfold maxLen at hss
    clear hnx hpre hI hx hsc hse hxl hzX
    go_wp2_with fail
    refine wp_region_held (S := fun w' => w'.cell? ⟨W.heap.size, 3, none⟩ = some (.slice (some ⟨g, off, none⟩) dsn dsc) /\ w'.cell? ⟨g, off + pre.length, none⟩ = some (.string s)) (by kernel_rfl) ?_
    change wpAnyH _ _ _ _ _ 19 #[false, false, false, false, false, false, false, false, false, false, false, false, false, false, false, false, false, false, false] _ wr.drew
    obtain ⟨X0, hX0⟩ : ∃ X0, X0 = wr.drew := ⟨_, rfl⟩
    have hbX : Below wr.heap.size wr X0 := by rw [hX0]; exact (Below.refl _ _).drew
    have HBX := H_ ((un HB).keep (hbX.mono (un HB).sz))
    have hzX := (un HBX).sz
    have HO0 := H_ (owns_below (un HOw) hbX)
    have hS : (fun w' => w'.cell? ⟨W.heap.size, 3, none⟩ = some (.slice (some ⟨g, off, none⟩) dsn dsc) /\ w'.cell? ⟨g, off + pre.length, none⟩ = some (.string s)) X0 := ⟨(box6 (un HBX).b0).1.2.2.2.1, (hbX.cell (D.lt_cell z1)).trans z1⟩
    have HSof : Hid (∀ Y, Below (W.heap.size + 3) X0 Y -> (fun w' => w'.cell? ⟨W.heap.size, 3, none⟩ = some (.slice (some ⟨g, off, none⟩) dsn dsc) /\ w'.cell? ⟨g, off + pre.length, none⟩ = some (.string s)) Y) := H_ fun Y hY => ⟨(hY.cell (by show W.heap.size < W.heap.size + 3; omega)).trans hS.1, (hY.cell (by show g < W.heap.size + 3; omega)).trans hS.2⟩
    have HSof2 : Hid (∀ (Y : World), ((fun w' => w'.cell? ⟨W.heap.size, 3, none⟩ = some (.slice (some ⟨g, off, none⟩) dsn dsc) /\ w'.cell? ⟨g, off + pre.length, none⟩ = some (.string s)) Y) -> ∀ v, ((fun w' => w'.cell? ⟨W.heap.size, 3, none⟩ = some (.slice (some ⟨g, off, none⟩) dsn dsc) /\ w'.cell? ⟨g, off + pre.length, none⟩ = some (.string s)) (Y.setCell ⟨W.heap.size + 1 + 1, 3, none⟩ v))) := H_ fun Y hY v => ⟨(World.cell?_setCell_far _ _ _ _ (by show W.heap.size + 1 + 1 ≠ W.heap.size; omega)).trans hY.1, (World.cell?_setCell_far _ _ _ _ (by show W.heap.size + 1 + 1 ≠ g; omega)).trans hY.2⟩
    have hSa : (fun w' => w'.cell? ⟨W.heap.size, 3, none⟩ = some (.slice (some ⟨g, off, none⟩) dsn dsc) /\ w'.cell? ⟨g, off + pre.length, none⟩ = some (.string s)) (X0.alloc (.cells #[.string (cutS s)] 9)) := (un HSof) _ ((Below.refl _ _).alloc hzX _)
    have cX := (box6 (un HBX).b2).1.2.2.2.1
    dsimp only at cX
    have cY : (X0.alloc (.cells #[.string (cutS s)] 9)).cell? ⟨W.heap.size + 1 + 1, 3, none⟩ = some (.slice sa pre.length sc) := by rw [World.cell?_alloc_lt _ _ _ (D.lt_cell cX)]; exact cX
    have HN := H_ (cells_new X0 (.string (cutS s)) 9)
    have Hown : Hid (∀ q, (Value.slice sa pre.length sc).ownBlock = some q -> W.heap.size + 3 <= q) := H_ fun q hq => ((un HO0).lt q hq).1
    have HO := H_ ((un HO0).alloc (.cells #[.string (cutS s)] 9))
    rw [<- hX0]
    clear hX0 hbX z1 cD
    refine tkk 0 (.pointer (some ⟨W.heap.size + 1 + 1, 3, none⟩)) rfl (by rintro w1 ⟨s0, s1⟩; go_simp; all_goals first | rfl | omega) hS ?_
    simp only [Act.put, nrm]
    refine tkk 2 (.pointer (some ⟨W.heap.size, 3, none⟩)) rfl (by rintro w1 ⟨s0, s1⟩; go_simp; all_goals first | rfl | omega) hS ?_
    simp only [Act.put, nrm]
    refine tkk 3 (.slice (some ⟨g, off, none⟩) dsn dsc) rfl (by rintro w1 ⟨s0, s1⟩; go_simp; all_goals first | rfl | omega) hS ?_
    simp only [Act.put, nrm]
    refine tkk 4 (.int .i64 (pre.length : Int)) rfl (by rintro w1 ⟨s0, s1⟩; go_simp; all_goals first | rfl | omega) hS ?_
    simp only [Act.put, nrm]
    refine tkk 5 (.pointer (some ⟨g, off + pre.length, none⟩)) rfl (by rintro w1 ⟨s0, s1⟩; go_simp; all_goals first | rfl | omega) hS ?_
    simp only [Act.put, nrm]
    refine tkk 6 (.string s) rfl (by rintro w1 ⟨s0, s1⟩; go_simp; all_goals first | rfl | omega) hS ?_
    simp only [Act.put, nrm]
    refine tkk 7 (.pointer (some ⟨W.heap.size, 3, none⟩)) rfl (by rintro w1 ⟨s0, s1⟩; go_simp; all_goals first | rfl | omega) hS ?_
    simp only [Act.put, nrm]
    refine tkk 8 (.slice (some ⟨g, off, none⟩) dsn dsc) rfl (by rintro w1 ⟨s0, s1⟩; go_simp; all_goals first | rfl | omega) hS ?_
    simp only [Act.put, nrm]
    refine tkk 9 (.int .i64 (pre.length : Int)) rfl (by rintro w1 ⟨s0, s1⟩; go_simp; all_goals first | rfl | omega) hS ?_
    simp only [Act.put, nrm]
    refine tkk 10 (.pointer (some ⟨g, off + pre.length, none⟩)) rfl (by rintro w1 ⟨s0, s1⟩; go_simp; all_goals first | rfl | omega) hS ?_
    simp only [Act.put, nrm]
    refine tkk 11 (.string s) rfl (by rintro w1 ⟨s0, s1⟩; go_simp; all_goals first | rfl | omega) hS ?_
    simp only [Act.put, nrm]
    refine tkk 12 (.int .i64 (s.size : Int)) rfl (by rintro w1 ⟨s0, s1⟩; go_simp; all_goals first | rfl | omega) hS ?_
    simp only [Act.put, nrm]
    refine tkk 13 (.int .i64 (min (s.size : Int) 61)) rfl (by rintro w1 ⟨s0, s1⟩; go_simp; all_goals first | rfl | omega) hS ?_
    simp only [Act.put, nrm]
    refine tkk 14 (.string (cutS s)) rfl (by rintro w1 ⟨s0, s1⟩; go_simp; all_goals first | rfl | omega) hS ?_
    simp only [Act.put, nrm]
    refine wpAnyH_ready (rs := [1, 15]) (by kernel_rfl) (by simp) ?_
    refine (AllReadyH.cons rfl (fun K hK => ?_) (AllReadyH.cons rfl (fun K hK => ?_) AllReadyH.nil))
    rw [if_pos (by kernel_rfl)]
    go_simp
    refine hK.out _ _ hS (fun _ => ?_)
    clear hK K
    simp only [Act.put, nrm]
    refine rdyy 15 rfl (fun K hK => ?_)
    rw [if_pos (by kernel_rfl)]
    go_simp
    refine hK.out _ _ hSa (fun _ => ?_)
    clear hK K
    simp only [Act.put, nrm]
    rotate_left
    rw [if_pos (by kernel_rfl)]
    go_simp
    refine hK.out _ _ hSa (fun _ => ?_)
    clear hK K
    simp only [Act.put, nrm]
    refine rdyy 1 rfl (fun K hK => ?_)
    rw [if_pos (by kernel_rfl)]
    go_simp
    refine hK.out _ _ hSa (fun _ => ?_)
    clear hK K
    simp only [Act.put, nrm]
    rotate_left
    all_goals
     refine rdyy 16 rfl (fun K hK => ?_)
     rw [if_pos (by kernel_rfl)]
     refine wp_append_lies _ (.tmp 44) (.tmp 58) 22 rfl (W.heap.size + 3) 9 i1 (.string ⟨#[]⟩) 1 16 Tryz.underlying22 hi1 hs0 hs1 hs2 rfl (by omega) (.slice sa pre.length sc) pre.length (strs pre) rfl (un HO) ⟨X0.heap.size, 0, none⟩ 1 1 [.string (cutS s)] rfl rfl (un HN) (by simp [Value.oneCell']) (by omega) (by unfold maxLen; omega) (by omega) (by simp; omega) (X0.heap.size + 1) (by simp) ?_
     intro gg cp w5 hown5 hgrow hat hglt
     have HB5 := H_ ((un HBX).keep (((Below.refl (W.heap.size + 3) X0).alloc hzX _).grown hgrow (by simp; omega) (fun q hq => (un Hown q hq))))
     have hS5 := (un HSof) w5 ((((Below.refl (W.heap.size + 3) X0).alloc hzX _).grown hgrow (by simp; omega) (fun q hq => (un Hown q hq))))
     have c5 := (box6 (un HB5).b2).1.2.2.2.1
     have f5 := (box6 (un HB5).b2).2.2.2.2.1
     dsimp only at c5
     have HO5 := H_ hown5
     clear hown5 hgrow hat
     refine hK.out _ _ hS5 (fun _ => ?_)
     clear hK K
     simp only [Act.put, nrm]
     refine tkk 17 (.pointer (some ⟨W.heap.size + 1 + 1, 3, none⟩)) rfl (by rintro w1 ⟨s0, s1⟩; go_simp; all_goals first | rfl | omega) hS5 ?_
     simp only [Act.put, nrm]
     refine rdyy 18 rfl (fun K hK => ?_)
     rw [if_pos (by kernel_rfl)]
     go_simp
     have HB6 := H_ ((un HB5).set 3 (.slice (some ⟨gg, 0, none⟩) (pre.length + 1) cp) (Fd.out ⟨dk, da, dv, some ⟨g, off, none⟩, dsn, dsc, df, dla, dln, dlc⟩ (some ⟨gg, 0, none⟩) (pre.length + 1) cp none 0 0) rfl)
     have hS6 := (un HSof2) w5 hS5 (.slice (some ⟨gg, 0, none⟩) (pre.length + 1) cp)
     have HO6 := H_ (ownsRow_setCell_below (un HO5) (a := ⟨W.heap.size + 1 + 1, 3, none⟩) (by show W.heap.size + 1 + 1 < _; omega) (.slice (some ⟨gg, 0, none⟩) (pre.length + 1) cp))
     have HZ : Hid (Inv1 W ⟨dk, da, dv, some ⟨g, off, none⟩, dsn, dsc, df, dla, dln, dlc⟩ (some ⟨gg, 0, none⟩) cp (pre ++ [cutS s]) (w5.setCell ⟨W.heap.size + 1 + 1, 3, none⟩ (.slice (some ⟨gg, 0, none⟩) (pre.length + 1) cp))) := H_ ⟨by rw [List.length_append, List.length_singleton]; exact un HB6, by rw [show strs (pre ++ [cutS s]) = strs pre ++ [Value.string (cutS s)] by simp [strs], List.length_append, List.length_singleton]; exact un HO6⟩
     have HZ2 : Hid (Inv1 W ⟨dk, da, dv, some ⟨g, off, none⟩, dsn, dsc, df, dla, dln, dlc⟩ (some ⟨gg, 0, none⟩) cp (xs.take (pre.length + 1)) (w5.setCell ⟨W.heap.size + 1 + 1, 3, none⟩ (.slice (some ⟨gg, 0, none⟩) (pre.length + 1) cp))) := H_ (by rw [un Hnx]; exact un HZ)
     refine hK.out _ _ hS6 (fun _ => ?_)
     clear hK K
     simp only [Act.put, nrm]
     refine wpAnyH_done (by kernel_rfl) ?_ _
     clear HSof HSof2 HB5 HB6 HO5 HO6 HZ HO HN HO0 Hown hS hSa hS5 hS6 cX cY c5 f5
     go_wp2
     go_roundw
     case rel => exact ⟨pre.length + 1, _, _, by omega, by simp, HZ2⟩
     case measure => simp [intOf]; omega
   ·have hie : i = xs.length := by omega
    subst hie
    rw [List.take_length] at HB HOw
    have HI2 : Hid (Inv2 k W ⟨dk, da, dv, dsa, dsn, dsc, df, dla, dln, dlc⟩ sa sc xs none 0 [] wr) := H_ ⟨un HB, un HOw, GrowF.nil _ _ _⟩
    have hxl := un Han
    have hcs : ¬ ((xs.length : Nat) : Int) < dsn \/ (((xs.length : Nat) : Int) < dsn /\ ¬ ((xs.length : Nat) : Int) < 10) := by omega
    have hxl10 : xs.length <= 10 := by omega
    clear HB HOw hI hxl hlt hi Hanx
    rcases hcs with c1 | ⟨c1, c2⟩
    all_goals
     go_wp2_with fail
     clear cD
     go_loopw [7] (fun y wr => ∃ (i : Nat) (la : Option Addr) (lc : Nat), i <= ks.length /\ y = .int .i64 i /\ Hid (Inv2 k W ⟨dk, da, dv, dsa, dsn, dsc, df, dla, dln, dlc⟩ sa sc xs la lc (ks.take i) wr)) (fun y _ => ks.length - (intOf y).toNat)
     case atStart => exact ⟨0, none, 0, Nat.zero_le _, rfl, HI2⟩
     case round =>
      obtain ⟨i, la, lc, hi, rfl, hI⟩ := hrel
      clear HI2
      have cD := (box6 (un hI).bx.b0).1.2.2.2.2.2
      dsimp only at cD
      have hkn := un Hls
      by_cases hlt : i < ks.length
      ·obtain ⟨hk1, hl1, hl2⟩ : (1 : Int) < (k : Int) + 1 /\ (i : Int) < dln /\ (i : Int) < 10 := by
        by_cases hk1 : k = 0
        ·rw [if_pos hk1] at hkn; omega
        ·rw [if_neg hk1] at hkn; omega
       obtain ⟨g, off, hga, hx⟩ := (un Hlsx).resolve_left (fun e => by rw [e] at hlt; cases hlt)
       subst hga
       obtain ⟨⟨ek, ea, ev, esa, esn, esc, ef, ela, eln, elc⟩, hAt, hCi⟩ := hx i _ (List.getElem?_eq_getElem hlt)
       have z1 := hAt.of ((un hI).bx.bel.block g hAt.lt)
       have hgW : g < W.heap.size := hAt.lt
       have hIu := un hI
       obtain ⟨pre, hpre⟩ : ∃ pre, pre = ks.take i := ⟨_, rfl⟩
       have hpl : pre.length = i := by rw [hpre, List.length_take]; omega
       have hnx : ks.take (i + 1) = pre ++ [ks[i]] := by rw [hpre, List.take_succ_eq_append_getElem hlt]
       rw [<- hpre] at hIu
       generalize hx9 : ks[i] = X at *
       subst hpl
       have hwk : IntKind.i64.wrap (k : Int) = k := by rw [IntKind.wrap_i64]; omega
       have HI := H_ hIu
       have HCi := H_ hCi
       have Hnx := H_ hnx
       have Hpre := H_ hpre
       clear hIu hnx hpre hI hx hAt hCi hkn hx9
       go_wp2_with fail
       refine wp_region_held (S := fun w' => w'.cell? ⟨W.heap.size, 5, none⟩ = some (.slice (some ⟨g, off, none⟩) dln dlc) /\ At w' g (off + pre.length * 6) ⟨ek, ea, ev, esa, esn, esc, ef, ela, eln, elc⟩) (by kernel_rfl) ?_
       change wpAnyH _ _ _ _ _ 14 #[false, false, false, false, false, false, false, false, false, false, false, false, false, false] _ wr.drew
       obtain ⟨X0, hX0⟩ : ∃ X0, X0 = wr.drew := ⟨_, rfl⟩
       have hbX : Below wr.heap.size wr X0 := by rw [hX0]; exact (Below.refl _ _).drew
       have HI0 := H_ ((un HI).below hbX)
       have hzX := (un HI0).bx.sz
       have hS : (fun w' => w'.cell? ⟨W.heap.size, 5, none⟩ = some (.slice (some ⟨g, off, none⟩) dln dlc) /\ At w' g (off + pre.length * 6) ⟨ek, ea, ev, esa, esn, esc, ef, ela, eln, elc⟩) X0 := ⟨(box6 (un HI0).bx.b0).1.2.2.2.2.2, z1.of (hbX.block _ z1.lt)⟩
       have HSof : Hid (∀ Y, Below (W.heap.size + 3) X0 Y -> (fun w' => w'.cell? ⟨W.heap.size, 5, none⟩ = some (.slice (some ⟨g, off, none⟩) dln dlc) /\ At w' g (off + pre.length * 6) ⟨ek, ea, ev, esa, esn, esc, ef, ela, eln, elc⟩) Y) := H_ fun Y hY => ⟨(hY.cell (by show W.heap.size < W.heap.size + 3; omega)).trans hS.1, hS.2.of (hY.block _ (by omega))⟩
       have HSof2 : Hid (∀ (Y : World), ((fun w' => w'.cell? ⟨W.heap.size, 5, none⟩ = some (.slice (some ⟨g, off, none⟩) dln dlc) /\ At w' g (off + pre.length * 6) ⟨ek, ea, ev, esa, esn, esc, ef, ela, eln, elc⟩) Y) -> ∀ v, ((fun w' => w'.cell? ⟨W.heap.size, 5, none⟩ = some (.slice (some ⟨g, off, none⟩) dln dlc) /\ At w' g (off + pre.length * 6) ⟨ek, ea, ev, esa, esn, esc, ef, ela, eln, elc⟩) (Y.setCell ⟨W.heap.size + 1 + 1, 5, none⟩ v))) := H_ fun Y hY v => ⟨(World.cell?_setCell_far _ _ _ _ (by show W.heap.size + 1 + 1 ≠ W.heap.size; omega)).trans hY.1, hY.2.of (Below.heap_setCell _ _ _ _ (by show g ≠ W.heap.size + 1 + 1; omega))⟩
       have cX := (box6 (un HI0).bx.b2).1.2.2.2.2.2
       dsimp only at cX
       have HC := H_ ((un IH) X X0 ⟨ek, ea, ev, esa, esn, esc, ef, ela, eln, elc⟩ (by omega) ((un HCi).below ((un HI0).bx.bel)))
       rw [<- hX0]
       clear hX0 hbX z1 cD HCi
       refine tkk 0 (.pointer (some ⟨W.heap.size + 1 + 1, 5, none⟩)) rfl (by rintro w1 ⟨s0, ⟨e0, e1, e2, e3, e4, e5⟩⟩; go_simp; all_goals first | rfl | omega) hS ?_
       simp only [Act.put, nrm]
       refine tkk 2 (.pointer (some ⟨W.heap.size, 5, none⟩)) rfl (by rintro w1 ⟨s0, ⟨e0, e1, e2, e3, e4, e5⟩⟩; go_simp; all_goals first | rfl | omega) hS ?_
       simp only [Act.put, nrm]
       refine tkk 3 (.slice (some ⟨g, off, none⟩) dln dlc) rfl (by rintro w1 ⟨s0, ⟨e0, e1, e2, e3, e4, e5⟩⟩; go_simp; all_goals first | rfl | omega) hS ?_
       simp only [Act.put, nrm]
       refine tkk 4 (.int .i64 (pre.length : Int)) rfl (by rintro w1 ⟨s0, ⟨e0, e1, e2, e3, e4, e5⟩⟩; go_simp; all_goals first | rfl | omega) hS ?_
       simp only [Act.put, nrm]
       refine tkk 5 (.pointer (some ⟨g, off + pre.length * 6, none⟩)) rfl (by rintro w1 ⟨s0, ⟨e0, e1, e2, e3, e4, e5⟩⟩; go_simp; all_goals first | rfl | omega) hS ?_
       simp only [Act.put, nrm]
       refine tkk 6 (.agg #[.int .i64 ek, .string ea, .string ev, .slice esa esn esc, .string ef, .slice ela eln elc]) rfl (by rintro w1 ⟨s0, ⟨e0, e1, e2, e3, e4, e5⟩⟩; go_simp; all_goals first | rfl | omega) hS ?_
       simp only [Act.put, nrm]
       refine tkk 7 (.int .i64 ((k : Int) + 1)) rfl (by rintro w1 ⟨s0, ⟨e0, e1, e2, e3, e4, e5⟩⟩; go_simp; all_goals first | rfl | omega) hS ?_
       simp only [Act.put, nrm]
       refine tkk 8 (.int .i64 (k : Int)) rfl (by rintro w1 ⟨s0, ⟨e0, e1, e2, e3, e4, e5⟩⟩; go_simp; all_goals first | rfl | omega) hS ?_
       simp only [Act.put, nrm]
       refine wpAnyH_ready (rs := [1, 9]) (by kernel_rfl) (by simp) ?_
       refine (AllReadyH.cons rfl (fun K hK => ?_) (AllReadyH.cons rfl (fun K hK => ?_) AllReadyH.nil))
       ·rw [if_pos (by kernel_rfl)]
        go_simp
        refine hK.out _ _ hS (fun _ => ?_)
        clear hK K
        simp only [Act.put, nrm]
        refine rdyy 9 rfl (fun K hK => ?_)
        rw [if_pos (by kernel_rfl)]
        go_wp2_with fail
        refine (un HC).mono ?_
        rintro e w2 ⟨hb2, ⟨vk, va, vv, vsa, vsn, vsc, vf, vla, vln, vlc⟩, rfl, hN2⟩
        have hS2 := (un HSof) w2 (hb2.mono hzX)
        have HI2 := H_ ((un HI0).below hb2)
        have hz2 := (un HI2).bx.sz
        have c2 := (box6 (un HI2).bx.b2).1.2.2.2.2.2
        dsimp only at c2
        have Hb2 := H_ hb2
        have HN2 := H_ hN2
        clear hb2 hN2 HC
        go_wp2
        refine hK.out _ _ hS2 (fun _ => ?_)
        clear hK K
        simp only [Act.put, nrm]
        refine rdyy 10 rfl (fun K hK => ?_)
        rw [if_pos (by kernel_rfl)]
        go_simp
        have hS3 := (un HSof) (w2.alloc (.cells #[.int .i64 vk, .string va, .string vv, .slice vsa vsn vsc, .string vf, .slice vla vln vlc] 25)) (((un Hb2).mono hzX).trans ((Below.refl _ _).alloc hz2 _))
        have c3 : (w2.alloc (.cells #[.int .i64 vk, .string va, .string vv, .slice vsa vsn vsc, .string vf, .slice vla vln vlc] 25)).cell? ⟨W.heap.size + 1 + 1, 5, none⟩ = some (.slice la pre.length lc) := by rw [World.cell?_alloc_lt _ _ _ (D.lt_cell c2)]; exact c2
        refine hK.out _ _ hS3 (fun _ => ?_)
        clear hK K
        simp only [Act.put, nrm]
        obtain ⟨vs, hvl, hownL, hNs⟩ := (un HI2).gr
        have HO := H_ (hownL.alloc (.cells #[.int .i64 vk, .string va, .string vv, .slice vsa vsn vsc, .string vf, .slice vla vln vlc] 25))
        have HN := H_ (cells6_new w2 ⟨vk, va, vv, vsa, vsn, vsc, vf, vla, vln, vlc⟩)
        have HNs := H_ (And.intro hvl hNs)
        clear hownL hNs
        refine rdyy 11 rfl (fun K hK => ?_)
        rw [if_pos (by kernel_rfl)]
        refine wp_append_lies _ (.tmp 77) (.tmp 86) 23 rfl (W.heap.size + 3) 25 i0 zfd.val 6 104 Tryz.underlying23 hi0 hy0 hy1 hy2 rfl (by omega) (.slice la pre.length lc) pre.length (flat6 vs) rfl (un HO) ⟨w2.heap.size, 0, none⟩ 1 1 (Fd.cs ⟨vk, va, vv, vsa, vsn, vsc, vf, vla, vln, vlc⟩).toList rfl rfl (un HN) (by simp [Value.oneCell']) (by omega) (by unfold maxLen; omega) (by omega) (by simp; omega) (w2.heap.size + 1) (by simp) ?_
        intro gg cp w5 hown5 hgrow hat hglt
        have hb5 : Below (W.heap.size + 3) w2 w5 := ((Below.refl (W.heap.size + 3) w2).alloc hz2 _).grown hgrow (by simp; omega) (fun q hq => ((un HI2).gr.lt hq).1)
        have hS5 := (un HSof) w5 (((un Hb2).mono hzX).trans hb5)
        have HB5 := H_ ((un HI2).bx.keep hb5)
        have c5 := (box6 (un HB5).b2).1.2.2.2.2.2
        have f5 := (box6 (un HB5).b2).2.2.2.2.2.2
        dsimp only at c5
        have HA := H_ (And.intro hown5 (And.intro hgrow hat))
        clear hown5 hgrow hat hb5
        refine hK.out _ _ hS5 (fun _ => ?_)
        clear hK K
        simp only [Act.put, nrm]
        refine tkk 12 (.pointer (some ⟨W.heap.size + 1 + 1, 5, none⟩)) rfl (by rintro w1 ⟨s0, ⟨e0, e1, e2, e3, e4, e5⟩⟩; go_simp; all_goals first | rfl | omega) hS5 ?_
        simp only [Act.put, nrm]
        refine rdyy 13 rfl (fun K hK => ?_)
        rw [if_pos (by kernel_rfl)]
        go_simp
        have hS6 := (un HSof2) w5 hS5 (.slice (some ⟨gg, 0, none⟩) (pre.length + 1) cp)
        have HZ := H_ ((un HI0).snoc (un HNs).1 (un HNs).2 (un Hb2) (un HI2) (un HN2) (un HA).1 (un HA).2.1 (un HA).2.2)
        refine hK.out _ _ hS6 (fun _ => ?_)
        clear hK K
        simp only [Act.put, nrm]
        refine wpAnyH_done (by kernel_rfl) ?_ _
        clear HSof HSof2 HNs Hb2 HI2 HN2 HA HI0 HI
        go_wp2
        go_roundw
        case rel => exact ⟨pre.length + 1, _, _, by omega, by simp, H_ ((un Hnx).symm ▸ (un HZ))⟩
        case measure => simp [intOf]; omega
       ·rw [if_pos (by kernel_rfl)]
        go_wp2_with fail
        refine (un HC).mono ?_
        rintro e w2 ⟨hb2, ⟨vk, va, vv, vsa, vsn, vsc, vf, vla, vln, vlc⟩, rfl, hN2⟩
        have hS2 := (un HSof) w2 (hb2.mono hzX)
        have HI2 := H_ ((un HI0).below hb2)
        have hz2 := (un HI2).bx.sz
        have c2 := (box6 (un HI2).bx.b2).1.2.2.2.2.2
        dsimp only at c2
        have Hb2 := H_ hb2
        have HN2 := H_ hN2
        clear hb2 hN2 HC
        go_wp2
        refine hK.out _ _ hS2 (fun _ => ?_)
        clear hK K
        simp only [Act.put, nrm]
        refine wpAnyH_ready (rs := [1, 10]) (by kernel_rfl) (by simp) ?_
        refine (AllReadyH.cons rfl (fun K hK => ?_) (AllReadyH.cons rfl (fun K hK => ?_) AllReadyH.nil))
        rw [if_pos (by kernel_rfl)]
        go_simp
        refine hK.out _ _ hS2 (fun _ => ?_)
        clear hK K
        simp only [Act.put, nrm]
        refine rdyy 10 rfl (fun K hK => ?_)
        rw [if_pos (by kernel_rfl)]
        go_simp
        have hS3 := (un HSof) (w2.alloc (.cells #[.int .i64 vk, .string va, .string vv, .slice vsa vsn vsc, .string vf, .slice vla vln vlc] 25)) (((un Hb2).mono hzX).trans ((Below.refl _ _).alloc hz2 _))
        have c3 : (w2.alloc (.cells #[.int .i64 vk, .string va, .string vv, .slice vsa vsn vsc, .string vf, .slice vla vln vlc] 25)).cell? ⟨W.heap.size + 1 + 1, 5, none⟩ = some (.slice la pre.length lc) := by rw [World.cell?_alloc_lt _ _ _ (D.lt_cell c2)]; exact c2
        refine hK.out _ _ hS3 (fun _ => ?_)
        clear hK K
        simp only [Act.put, nrm]
        rotate_left
        rw [if_pos (by kernel_rfl)]
        go_simp
        have hS3 := (un HSof) (w2.alloc (.cells #[.int .i64 vk, .string va, .string vv, .slice vsa vsn vsc, .string vf, .slice vla vln vlc] 25)) (((un Hb2).mono hzX).trans ((Below.refl _ _).alloc hz2 _))
        have c3 : (w2.alloc (.cells #[.int .i64 vk, .string va, .string vv, .slice vsa vsn vsc, .string vf, .slice vla vln vlc] 25)).cell? ⟨W.heap.size + 1 + 1, 5, none⟩ = some (.slice la pre.length lc) := by rw [World.cell?_alloc_lt _ _ _ (D.lt_cell c2)]; exact c2
        refine hK.out _ _ hS3 (fun _ => ?_)
        clear hK K
        simp only [Act.put, nrm]
        refine rdyy 1 rfl (fun K hK => ?_)
        rw [if_pos (by kernel_rfl)]
        go_simp
        refine hK.out _ _ hS3 (fun _ => ?_)
        clear hK K
        simp only [Act.put, nrm]
        rotate_left
        all_goals
         obtain ⟨vs, hvl, hownL, hNs⟩ := (un HI2).gr
         have HO := H_ (hownL.alloc (.cells #[.int .i64 vk, .string va, .string vv, .slice vsa vsn vsc, .string vf, .slice vla vln vlc] 25))
         have HN := H_ (cells6_new w2 ⟨vk, va, vv, vsa, vsn, vsc, vf, vla, vln, vlc⟩)
         have HNs := H_ (And.intro hvl hNs)
         clear hownL hNs
         refine rdyy 11 rfl (fun K hK => ?_)
         rw [if_pos (by kernel_rfl)]
         refine wp_append_lies _ (.tmp 77) (.tmp 86) 23 rfl (W.heap.size + 3) 25 i0 zfd.val 6 104 Tryz.underlying23 hi0 hy0 hy1 hy2 rfl (by omega) (.slice la pre.length lc) pre.length (flat6 vs) rfl (un HO) ⟨w2.heap.size, 0, none⟩ 1 1 (Fd.cs ⟨vk, va, vv, vsa, vsn, vsc, vf, vla, vln, vlc⟩).toList rfl rfl (un HN) (by simp [Value.oneCell']) (by omega) (by unfold maxLen; omega) (by omega) (by simp; omega) (w2.heap.size + 1) (by simp) ?_
         intro gg cp w5 hown5 hgrow hat hglt
         have hb5 : Below (W.heap.size + 3) w2 w5 := ((Below.refl (W.heap.size + 3) w2).alloc hz2 _).grown hgrow (by simp; omega) (fun q hq => ((un HI2).gr.lt hq).1)
         have hS5 := (un HSof) w5 (((un Hb2).mono hzX).trans hb5)
         have HB5 := H_ ((un HI2).bx.keep hb5)
         have c5 := (box6 (un HB5).b2).1.2.2.2.2.2
         have f5 := (box6 (un HB5).b2).2.2.2.2.2.2
         dsimp only at c5
         have HA := H_ (And.intro hown5 (And.intro hgrow hat))
         clear hown5 hgrow hat hb5
         refine hK.out _ _ hS5 (fun _ => ?_)
         clear hK K
         simp only [Act.put, nrm]
         refine tkk 12 (.pointer (some ⟨W.heap.size + 1 + 1, 5, none⟩)) rfl (by rintro w1 ⟨s0, ⟨e0, e1, e2, e3, e4, e5⟩⟩; go_simp; all_goals first | rfl | omega) hS5 ?_
         simp only [Act.put, nrm]
         refine rdyy 13 rfl (fun K hK => ?_)
         rw [if_pos (by kernel_rfl)]
         go_simp
         have hS6 := (un HSof2) w5 hS5 (.slice (some ⟨gg, 0, none⟩) (pre.length + 1) cp)
         have HZ := H_ ((un HI0).snoc (un HNs).1 (un HNs).2 (un Hb2) (un HI2) (un HN2) (un HA).1 (un HA).2.1 (un HA).2.2)
         refine hK.out _ _ hS6 (fun _ => ?_)
         clear hK K
         simp only [Act.put, nrm]
         refine wpAnyH_done (by kernel_rfl) ?_ _
         clear HSof HSof2 HNs Hb2 HI2 HN2 HA HI0 HI
         go_wp2
         go_roundw
         case rel => exact ⟨pre.length + 1, _, _, by omega, by simp, H_ ((un Hnx).symm ▸ (un HZ))⟩
         case measure => simp [intOf]; omega
      ·have hie : i = ks.length := by omega
       subst hie
       have hIu := un hI
       rw [List.take_length] at hIu
       have hk10 : ks.length <= 10 := by rw [hkn]; split <;> omega
       have hF := cut_node hIu hxl10 hk10 (fun x hx => (un Hx61) x hx)
       obtain ⟨⟨f0, f1, f2, f3, f4, f5⟩, f6, f7, f8, f9, fa, fb⟩ := box6 hIu.bx.b1
       obtain ⟨⟨o0, o1, o2, o3, o4, o5⟩, _⟩ := box6 hIu.bx.b2
       dsimp only at f0 f1 f2 f3 f4 f5 o0 o1 o2 o3 o4 o5
       have HFin := H_ (And.intro hF (And.intro hIu.bx.bel hIu.bx.sz))
       have hcs : ¬ ((ks.length : Nat) : Int) < dln \/ (((ks.length : Nat) : Int) < dln /\ ¬ ((ks.length : Nat) : Int) < 10) \/ (((ks.length : Nat) : Int) < dln /\ ((ks.length : Nat) : Int) < 10 /\ ¬ (1 : Int) < (k : Int) + 1) := by
        by_cases hk1 : k = 0
        ·subst hk1; omega
        ·rw [if_neg hk1] at hkn; omega
       clear hIu hF hI hkn hk10 hlt hi
       have fin : ∀ W3 : World, W3 = set6 wr (W.heap.size + 1) (Fd.out ⟨dk, da, dv, dsa, dsn, dsc, df, dla, dln, dlc⟩ sa xs.length sc la ks.length lc) -> CutPost W (k + 1) F (.returned (Fd.val (Fd.out ⟨dk, da, dv, dsa, dsn, dsc, df, dla, dln, dlc⟩ sa xs.length sc la ks.length lc))) W3 := by
        rintro W3 rfl
        obtain ⟨hF, hbel, hsz⟩ := un HFin
        have hb := set6_but wr (W.heap.size + 1) (Fd.out ⟨dk, da, dv, dsa, dsn, dsc, df, dla, dln, dlc⟩ sa xs.length sc la ks.length lc)
        refine ⟨hbel.trans (hb.below (by omega) (by omega)), _, rfl, ?_⟩
        rw [un HF]
        exact (hF.of fun b h1 h2 => hb.block b h2 (by omega)).imp fun b hb' _ => by omega
       have Hfin := H_ fin
       clear fin
       rcases hcs with d1 | ⟨d1, d2⟩ | ⟨d1, d2, d3⟩
       all_goals
        go_wp2_with fail
        refine bodyPost_ret (v := Fd.val (Fd.out ⟨dk, da, dv, dsa, dsn, dsc, df, dla, dln, dlc⟩ sa xs.length sc la ks.length lc)) (by simp [results, Tryz.results20, go_sem, f0, f1, f2, f3, f4, f5]) rfl ?_
        exact (un Hfin) _ rfl
theorem Cut_any (F : Fl 8) (W : World) (d : Fd) (hC : CutF 8 W d F) : Calls Tryz.prog 5 #[d.val] W (CutPost W 8 F) := by
 have hb0 : Below W.heap.size W ((W.alloc d.obj).alloc zfd.obj) := ((Below.refl _ _).alloc (Nat.le_refl _) _).alloc (by simp) _
 have hq : ((W.alloc d.obj).alloc zfd.obj).heap[W.heap.size + 1]? = some (.cells zfd.cs 25 (0, 0)) := by
  have := World.alloc_heap_new (W.alloc d.obj) zfd.obj
  rwa [World.size_alloc] at this
 have hsz : ((W.alloc d.obj).alloc zfd.obj).heap.size = W.heap.size + 2 := by simp
 have H := cutAt_any 8 F _ d (Nat.le_refl _) (hC.below hb0)
 have HC := H_ H
 have HQ := H_ (And.intro hq (And.intro hsz hb0))
 clear hC hq hsz hb0 H
 obtain ⟨dk, da, dv, dsa, dsn, dsc, df, dla, dln, dlc⟩ := d
 go_enter Tryz.func5, Tryz.ntmps5
 go_wp2_with fail
 refine (un HC).mono ?_
 rintro e w2 ⟨hb2, ⟨ek, ea, ev, esa, esn, esc, ef, ela, eln, elc⟩, rfl, hN2⟩
 obtain ⟨hq, hsz, hb0⟩ := un HQ
 have hq2 := (hb2.block (W.heap.size + 1) (by omega)).trans hq
 obtain ⟨⟨c0, c1, c2, c3, c4, c5⟩, g0, g1, g2, g3, g4, g5⟩ := box6 hq2
 dsimp only at c0 c1 c2 c3 c4 c5
 have hlt2 : W.heap.size + 1 < w2.heap.size := (Array.getElem?_eq_some_iff.1 hq2).1
 rw [hsz] at hN2
 have HF := H_ (And.intro (hb0.trans (hb2.mono (by omega))) hN2)
 clear hb2 hN2 HC HQ hq hsz hb0 hq2
 go_wp2_with fail
 refine bodyPost_ret (v := Fd.val ⟨ek, ea, ev, esa, esn, esc, ef, ela, eln, elc⟩) (by simp [results, Tryz.results5, go_sem, c0, c1, c2, c3, c4, c5]) rfl ?_
 obtain ⟨hb, hN⟩ := un HF
 have hs := set6_but w2 (W.heap.size + 1) ⟨ek, ea, ev, esa, esn, esc, ef, ela, eln, elc⟩
 exact ⟨hb.trans (hs.below (by omega) hlt2), _, rfl, (hN.of fun b h1 h2 => hs.block b h2 (by omega)).imp fun b h1 _ => by omega⟩
end Go.Proofs.YtjhnblgamodekaaGreatDoor.F
