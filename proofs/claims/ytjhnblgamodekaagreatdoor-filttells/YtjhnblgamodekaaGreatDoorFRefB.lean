/- What the document's own item of layer 8 answers. Conditions: none. -/
import Derived.Test.YtjhnblgamodekaaGreatDoorG40
set_option linter.unusedSimpArgs false
set_option linter.unusedVariables false
set_option maxHeartbeats 8000000
set_option maxRecDepth 100000
namespace Go.Proofs.YtjhnblgamodekaaGreatDoor.F
open Go Go.RowKit Go.Shelf Fp
open D (H_ un)
open Dp (mp)
open E (und)
attribute [local go_sem] Oper.semAt_some
def ItPost (n : Nat) (p : List UInt8) (w : World) (e : Ending) (W : World) : Prop := Below w.heap.size w W /\
 ((∃ d : Fd, e = .returned (.tuple #[d.val, .bool false]) /\ (rdC p : Option (Fl (n + 1))) = none) \/
  ∃ (d : Fd) (G : Fl (n + 1)), e = .returned (.tuple #[d.val, .bool true]) /\ FNode (n + 1) W (fun b => w.heap.size <= b) d G /\ (rdC p = some G \/ (rdC p : Option (Fl (n + 1))) = none /\ fitF G = false))
theorem kindOf_bare {l : List UInt8} {y : UInt8} (h : ([62, 60, 126] : List UInt8).contains y = false) : kindOf (l ++ [y]) = (l ++ [y], 3) := by
 unfold kindOf
 simp at h
 simp [h]
theorem kindOf_nil : kindOf [] = ([], 3) := rfl
theorem name_of {N : ByteArray} {a : List UInt8} (h : dt N = a) : (⟨a.toArray⟩ : ByteArray) = N := by rw [<- h]
theorem sm_it {n : Nat} {k : Int} {a v f : ByteArray} {l : List ByteArray} (ha : a.size <= 900) (hv : v.size <= 900) (hf : f.size <= 900) (hl : l.length <= 1000) (hx : ∀ x ∈ l, x.size <= 900) : Sm (mk k a v l f ([] : List (Fl n))) :=
 ⟨by rw [nm_mk]; omega, by rw [va_mk]; omega, by rw [fi_mk]; omega, by rw [an_mk]; exact hl, fun x hx' => by have := hx x hx'; omega, by simp⟩
theorem it_node {n : Nat} {W : World} {p : Nat -> Prop} {k : Int} {a v : ByteArray} (ha : a.size <= 900) (hv : v.size <= 900) : FNode (n + 1) W p ⟨k, a, v, none, 0, 0, ⟨#[]⟩, none, 0, 0⟩ (mk k a v [] ⟨#[]⟩ []) :=
 ⟨⟨rfl, rfl, rfl, rfl, rfl, rfl⟩, sm_it ha hv (by decide) (by simp) (by simp), .inl rfl, .inl rfl⟩
theorem und_small (t : ByteArray) : (und false t).1.size <= t.size := by
 rcases E.und_cases false t with h | h
 ·exact h.2
 ·rw [h]; exact Nat.zero_le _
theorem mp_all {α : Type} (f : List UInt8 -> Option α) (P : α -> Prop) : ∀ (xs : List (List UInt8)) (l : List α), (∀ x ∈ xs, ∀ a, f x = some a -> P a) -> mp f xs = some l -> ∀ a ∈ l, P a
 | [], l, _, h => by cases h; simp
 | x :: xs, l, hp, h => by
  rw [mp] at h
  cases h1 : f x with
  | none => rw [h1] at h; cases h
  | some y =>
   cases h2 : mp f xs with
   | none => rw [h1, h2] at h; cases h
   | some l' =>
    rw [h1, h2] at h
    cases h
    intro a ha
    rcases List.mem_cons.1 ha with rfl | ha
    ·exact hp x (by simp) _ h1
    ·exact mp_all f P xs l' (fun z hz => hp z (by simp [hz])) h2 a ha
theorem pcs_small {t : List UInt8} {xs : List ByteArray} (ht : t.length <= 900) (h : mp rdV (spl 42 t) = some xs) : ∀ x ∈ xs, x.size <= 900 :=
 mp_all rdV (fun x => x.size <= 900) _ _ (fun l hl v hv => by have := rdV_small hv; have := spl_small 42 t l hl; omega) h
theorem own_capS {W : World} {base g n c : Nat} {xs : List Value} (h : W.ownsRow base 9 1 (.slice (some ⟨g, 0, none⟩) n c) n xs) : n <= c := by
 rcases h.2 with ⟨e, _⟩ | ⟨g', cap, cur, e, _, _, h1, _⟩
 ·cases e
 ·cases e; exact h1
theorem subs_node {n : Nat} {W : World} {p : Nat -> Prop} {a : ByteArray} {g m c : Nat} {xs : List ByteArray} (hm : xs.length = m + 2) (hx : ∀ x ∈ xs, x.size <= 900) (hl : xs.length <= 1000) (ha : a.size <= 900) (hp : p g) (hc : ∀ (i : Nat) x, xs[i]? = some x -> W.cell? ⟨g, 0 + i, none⟩ = some (.string x)) :
  FNode (n + 1) W p ⟨4, a, xs.headD ⟨#[]⟩, some ⟨g, 1, none⟩, m, c, xs.getLastD ⟨#[]⟩, none, 0, 0⟩ (subs a xs) := by
 have hlen : xs.tail.dropLast.length = m := by rw [List.length_dropLast, List.length_tail]; omega
 refine ⟨⟨rfl, rfl, rfl, rfl, hlen.symm, rfl⟩, sm_it ha ?_ ?_ (by omega) fun x h => hx x ?_, ?_, .inl rfl⟩
 ·match xs, hm with
  | x :: xs, _ => exact hx x (by simp)
 ·match xs, hm with
  | x :: xs, _ =>
   rw [List.getLastD_eq_getLast?, List.getLast?_eq_some_getLast (by simp)]
   exact hx _ (List.getLast_mem _)
 ·exact List.mem_of_mem_tail ((List.dropLast_sublist _).subset h)
 ·refine .inr ⟨g, 1, rfl, hp, fun i x hi => ?_⟩
  have h2 : xs[1 + i]? = some x := by
   have h3 : xs.tail.dropLast[i]? = some x := hi
   obtain ⟨h4, h5⟩ := List.getElem?_eq_some_iff.1 h3
   rw [List.getElem_dropLast, List.getElem_tail] at h5
   rw [<- h5, Nat.add_comm 1 i]
   exact List.getElem?_eq_getElem _
  have := hc (1 + i) x h2
  rwa [Nat.zero_add] at this
theorem head_at {xs : List ByteArray} {m : Nat} (hm : xs.length = m + 2) : xs[0]? = some (xs.headD ⟨#[]⟩) := by
 match xs, hm with
 | x :: xs, _ => rfl
theorem last_at {xs : List ByteArray} {m : Nat} (hm : xs.length = m + 2) : xs[m + 1]? = some (xs.getLastD ⟨#[]⟩) := by
 rw [List.getLastD_eq_getLast?, List.getLast?_eq_getElem?, hm, show m + 2 - 1 = m + 1 by omega]
 obtain ⟨x, hx⟩ : ∃ x, xs[m + 1]? = some x := ⟨_, List.getElem?_eq_getElem (by omega)⟩
 rw [hx]
 rfl
theorem star_mem {l : List UInt8} : cutB 42 l = none -> 42 ∉ l := (cutB_none 42 l).1
theorem star_in {l p q : List UInt8} (h : cutB 42 l = some (p, q)) : 42 ∈ l := by rw [(cutB_some 42 l p q h).1]; simp
theorem item_no (n : Nat) (s : ByteArray) (w : World) (hs : s.size <= 900) (hc : cutB 61 (dt s) = none) :
  Calls Tryz.prog 49 #[.string s] w (ItPost n (dt s) w) := by
 have HF := H_ fun W => refFind_any s 61 0 W (by omega) (Nat.zero_le _)
 rw [fnd_none hc] at HF
 have HR := H_ (rdC_no (n := n) hc)
 obtain ⟨X, hX⟩ : ∃ X, X = w.alloc zfd.obj := ⟨_, rfl⟩
 have hXq : X.heap[w.heap.size]? = some (.cells zfd.cs 25 (0, 0)) := by rw [hX]; exact World.alloc_heap_new _ _
 have hXb : Below w.heap.size w X := by rw [hX]; exact (Below.refl _ _).alloc (Nat.le_refl _) _
 have hXc := hX.symm
 obtain ⟨⟨c0, c1, c2, c3, c4, c5⟩, g0, g1, g2, g3, g4, g5⟩ := box6 hXq
 dsimp only at c0 c1 c2 c3 c4 c5
 have HB := H_ hXb
 have HZ := H_ (Array.getElem?_eq_some_iff.1 hXq).1
 clear hX hXq hXb hc
 go_enter Tryz.func49, Tryz.ntmps49
 go_wp2_with fail
 refine ((un HF) _).mono ?_
 rintro e w1 ⟨rfl, hw1⟩
 rw [hw1]
 clear hw1 HF
 go_wp2
 refine bodyPost_ret (v := .tuple #[zfd.val, .bool false]) (by simp [results, Tryz.results49, go_sem, c0, c1, c2, c3, c4, c5]) rfl ?_
 exact ⟨(un HB).trans ((set6_but X w.heap.size zfd).below (Nat.le_refl _) (un HZ)), .inl ⟨zfd, rfl, un HR⟩⟩
theorem item_mark (n : Nat) (s : ByteArray) (w : World) (hs : s.size <= 900) {a t : List UInt8} (y : UInt8) (kk : Int) (hyk : (y = 62 /\ kk = 5) \/ (y = 60 /\ kk = 6) \/ (y = 126 /\ kk = 8)) (hc : cutB 61 (dt s) = some (a ++ [y], t)) :
  Calls Tryz.prog 49 #[.string s] w (ItPost n (dt s) w) := by
 have hrd := rdC_at (n := n) hc
 rw [show kindOf (a ++ [y]) = (a, kk) by
  rcases hyk with ⟨rfl, rfl⟩ | ⟨rfl, rfl⟩ | ⟨rfl, rfl⟩
  ·exact (kindOf_snoc a).1
  ·exact (kindOf_snoc a).2.1
  ·exact (kindOf_snoc a).2.2] at hrd
 have HF := H_ fun W => refFind_any s 61 0 W (by omega) (Nat.zero_le _)
 rw [fnd_cut hc] at HF
 obtain ⟨hz, hp, hq⟩ := cut_sizes hc
 obtain ⟨j, hj⟩ : ∃ j, a.length = j := ⟨_, rfl⟩
 have hlen : (a ++ [y]).length = j + 1 := by rw [List.length_append, hj]; rfl
 rw [hlen] at HF hz hp hq
 have hsz : j < s.size := by omega
 have hsy : s[j] = y := by
  have h1 : dt s = (a ++ [y]) ++ 61 :: t := (cutB_some 61 _ _ _ hc).1
  have h2 : (dt s)[j]? = some y := by rw [h1, <- hj]; simp
  have h3 : (dt s)[j]? = some s[j] := List.getElem?_eq_getElem (by rw [show (dt s).length = s.size from Array.length_toList]; exact hsz)
  rw [h2] at h3
  exact (Option.some.inj h3).symm
 obtain ⟨V, hV⟩ : ∃ V, s.extract (j + 1 + 1) s.size = V := ⟨_, rfl⟩
 rw [hV] at hq
 have hVz : V.size <= 900 := by rw [<- hV, ByteArray.size_extract]; omega
 have hji : ((j : Nat) : Int) < s.size := by omega
 have hj1 : ((j : Int) + 1) < s.size := by omega
 have hj2 : ((j : Int) + 1 + 1) <= s.size := by omega
 have hj9 : (s.size : Int) <= 900 := by omega
 have e2 : ((j : Int) + 1 + 1).toNat = j + 1 + 1 := by omega
 have e3 : ((j : Int) + 2).toNat = j + 1 + 1 := by omega
 rw [show (((j + 1 : Nat) : Nat) : Int) = (j : Int) + 1 by omega] at HF
 have hal : dt (s.extract 0 j) = a := by
  show (s.extract 0 j).data.toList = a
  have h1 : (dt s).take (j + 1) = a ++ [y] := by
   have : (s.extract 0 (j + 1)).data.toList = a ++ [y] := hp
   rw [ByteArray.data_extract, Array.toList_extract, List.extract_eq_take_drop, List.drop_zero, Nat.sub_zero] at this
   exact this
  rw [ByteArray.data_extract, Array.toList_extract, List.extract_eq_take_drop, List.drop_zero, Nat.sub_zero]
  have h2 := congrArg (List.take j) h1
  rw [List.take_take, Nat.min_eq_left (Nat.le_succ j)] at h2
  show (dt s).take j = a
  rw [h2, <- hj]
  simp
 obtain ⟨N, hN⟩ : ∃ N, s.extract 0 j = N := ⟨_, rfl⟩
 rw [hN] at hal
 have hNz : N.size <= 900 := by rw [<- hN, ByteArray.size_extract]; omega
 rw [name_of hal, rdVals_one (.inl (by show kk ≠ 3; omega)), rdV_of hq] at hrd
 have HR := H_ fun W => E.refReadFilter_any V W (by omega)
 unfold E.RPost at HR
 have hvz : (und false V).1.size <= 900 := Nat.le_trans (und_small V) hVz
 generalize und false V = ve at *
 obtain ⟨v, er⟩ := ve
 dsimp only at HR hrd hvz
 have HVz := H_ (And.intro hNz hvz)
 have HRd := H_ hrd
 clear hrd hvz
 have HA := H_ fun W => E.among_any y ⟨#[62, 60, 126]⟩ W (by decide)
 rw [show (ByteArray.mk #[62, 60, 126]).data.toList.contains y = true by rcases hyk with ⟨rfl, _⟩ | ⟨rfl, _⟩ | ⟨rfl, _⟩ <;> rfl] at HA
 have Hy := H_ hsy
 obtain ⟨N0, hN0⟩ : ∃ N, s.extract 0 (j + 1) = N := ⟨_, rfl⟩
 obtain ⟨W1, hW1⟩ : ∃ W1, W1 = (w.alloc zfd.obj).alloc (Fd.obj ⟨kk, N, ⟨#[]⟩, none, 0, 0, ⟨#[]⟩, none, 0, 0⟩) := ⟨_, rfl⟩
 have h1 : W1.heap[w.heap.size + 1]? = some (.cells (Fd.cs ⟨kk, N, ⟨#[]⟩, none, 0, 0, ⟨#[]⟩, none, 0, 0⟩) 25 (0, 0)) := by rw [hW1]; have := World.alloc_heap_new (w.alloc zfd.obj) (Fd.obj ⟨kk, N, ⟨#[]⟩, none, 0, 0, ⟨#[]⟩, none, 0, 0⟩); rwa [World.size_alloc] at this
 have h0 : W1.heap[w.heap.size]? = some (.cells zfd.cs 25 (0, 0)) := by rw [hW1]; exact (Below.heap_alloc _ _ _ (by simp)).trans (World.alloc_heap_new _ _)
 have hbb : Below w.heap.size w W1 := by rw [hW1]; exact ((Below.refl _ _).alloc (Nat.le_refl _) _).alloc (by simp) _
 have HWf := H_ (And.intro h1 (And.intro h0 (And.intro hbb (And.intro (Array.getElem?_eq_some_iff.1 h1).1 (Array.getElem?_eq_some_iff.1 h0).1))))
 have HW1 := H_ hW1
 clear hc hz hp hq hlen hal hj hNz hVz hsy hW1 h1 h0 hbb
 rcases hyk with ⟨e1, e4⟩ | ⟨e1, e4⟩ | ⟨e1, e4⟩
 focus
  have hsyi : (s[j].toNat : Int) = 62 := by rw [un Hy, e1]; rfl
  rw [e1] at HA
  go_enter Tryz.func49, Tryz.ntmps49
  go_wp2_with fail
  refine ((un HF) _).mono ?_
  rintro e w1 ⟨rfl, hw1⟩
  rw [hw1]
  clear hw1 HF
  go_wp2_with fail
  refine ((un HA) _).mono ?_
  rintro e w1 ⟨rfl, hw1⟩
  rw [hw1]
  clear hw1 HA
  go_wp2_with fail
 rotate_left
 focus
  have hsyi : (s[j].toNat : Int) = 60 := by rw [un Hy, e1]; rfl
  rw [e1] at HA
  go_enter Tryz.func49, Tryz.ntmps49
  go_wp2_with fail
  refine ((un HF) _).mono ?_
  rintro e w1 ⟨rfl, hw1⟩
  rw [hw1]
  clear hw1 HF
  go_wp2_with fail
  refine ((un HA) _).mono ?_
  rintro e w1 ⟨rfl, hw1⟩
  rw [hw1]
  clear hw1 HA
  go_wp2_with fail
 rotate_left
 focus
  have hsyi : (s[j].toNat : Int) = 126 := by rw [un Hy, e1]; rfl
  rw [e1] at HA
  go_enter Tryz.func49, Tryz.ntmps49
  go_wp2_with fail
  refine ((un HF) _).mono ?_
  rintro e w1 ⟨rfl, hw1⟩
  rw [hw1]
  clear hw1 HF
  go_wp2_with fail
  refine ((un HA) _).mono ?_
  rintro e w1 ⟨rfl, hw1⟩
  rw [hw1]
  clear hw1 HA
  go_wp2_with fail
 rotate_left
 all_goals
  rw [e4] at HW1
  rw [<- (show W1 = _ from un HW1)]
  clear HW1 e1 e4 Hy hsyi
  refine ((un HR) _).mono ?_
  rintro e w2 ⟨rfl, hb2⟩
  have hq1 := (hb2.block _ (un HWf).2.2.2.1).trans (un HWf).1
  have hq0 := (hb2.block _ (un HWf).2.2.2.2).trans (un HWf).2.1
  have hbw : Below w.heap.size w w2 := (un HWf).2.2.1.trans (hb2.mono (un HWf).2.2.1.size)
  obtain ⟨X, hX⟩ : ∃ X, X = w2.setCell ⟨w.heap.size + 1, 2, none⟩ (.string v) := ⟨_, rfl⟩
  have hXq1 : X.heap[w.heap.size + 1]? = some (.cells (Fd.cs ⟨kk, N, v, none, 0, 0, ⟨#[]⟩, none, 0, 0⟩) 25 (0, 0)) := by rw [hX]; exact heap_set w2 (w.heap.size + 1) 2 _ _ _ hq1
  have hXq0 : X.heap[w.heap.size]? = some (.cells zfd.cs 25 (0, 0)) := by rw [hX]; exact (Below.heap_setCell _ _ _ _ (by show w.heap.size ≠ w.heap.size + 1; omega)).trans hq0
  have hXb : Below w.heap.size w X := by rw [hX]; exact Below.setCell hbw (p := ⟨w.heap.size + 1, 2, none⟩) (by show w.heap.size <= w.heap.size + 1; omega) _
  have hXc := hX.symm
  obtain ⟨⟨k0, k1, k2, k3, k4, k5⟩, j0, j1, j2, j3, j4, j5⟩ := box6 hXq1
  obtain ⟨⟨c0, c1, c2, c3, c4, c5⟩, g0, g1, g2, g3, g4, g5⟩ := box6 hXq0
  obtain ⟨⟨x0, x1, x2, x3, x4, x5⟩, y0, y1, y2, y3, y4, y5⟩ := box6 hq1
  dsimp only at k0 k1 k2 k3 k4 k5 c0 c1 c2 c3 c4 c5 x0 x1 x2 x3 x4 x5
  have HB := H_ hXb
  have HXz := H_ (Array.getElem?_eq_some_iff.1 hXq0).1
  clear hX hXq1 hXq0 hXb hq1 hq0 hbw hb2 HR
  have hse := set6_but X w.heap.size ⟨kk, N, v, none, 0, 0, ⟨#[]⟩, none, 0, 0⟩
  have HE := H_ ((un HB).trans (hse.below (Nat.le_refl _) (un HXz)))
  clear hse HB HXz
  by_cases her : er = 0
  ·subst her
   have hrd := un HRd
   rw [if_pos rfl, Option.map_some] at hrd
   have HRd2 := H_ hrd
   clear hrd HRd
   go_wp2
   refine bodyPost_ret (v := .tuple #[Fd.val ⟨kk, N, v, none, 0, 0, ⟨#[]⟩, none, 0, 0⟩, .bool true]) (by simp [results, Tryz.results49, go_sem, c0, c1, c2, c3, c4, c5]) rfl ?_
   exact ⟨un HE, .inr ⟨_, _, rfl, it_node (un HVz).1 (un HVz).2, .inl (un HRd2)⟩⟩
  ·have hrd := un HRd
   rw [if_neg her, Option.map_none] at hrd
   have HRd2 := H_ hrd
   have her0 : (er == 0) = false := by simpa using her
   clear hrd HRd her
   go_wp2
   refine bodyPost_ret (v := .tuple #[Fd.val ⟨kk, N, v, none, 0, 0, ⟨#[]⟩, none, 0, 0⟩, .bool false]) (by simp [results, Tryz.results49, go_sem, c0, c1, c2, c3, c4, c5]) rfl ?_
   exact ⟨un HE, .inl ⟨_, rfl, un HRd2⟩⟩
theorem item_bare_star (n : Nat) (s : ByteArray) (w : World) (hs : s.size <= 900) {t : List UInt8} (hc : cutB 61 (dt s) = some ([], t)) (hst : t = [42]) :
  Calls Tryz.prog 49 #[.string s] w (ItPost n (dt s) w) := by
 have hrd := rdC_at (n := n) hc
 rw [kindOf_nil] at hrd
 have HF := H_ fun W => refFind_any s 61 0 W (by omega) (Nat.zero_le _)
 rw [fnd_cut hc] at HF
 obtain ⟨hz, hp, hq⟩ := cut_sizes hc
 rw [show ([] : List UInt8).length = 0 from rfl] at HF hz hp hq
 obtain ⟨V, hV⟩ : ∃ V, s.extract 1 s.size = V := ⟨_, rfl⟩
 rw [show s.extract (0 + 1) s.size = V from hV] at hq
 have hVz : V.size <= 900 := by rw [<- hV, ByteArray.size_extract]; omega
 obtain ⟨N, hN⟩ : ∃ N, ByteArray.empty = N := ⟨_, rfl⟩
 replace hp : dt N = [] := by rw [<- hN]; rfl
 have hNz : N.size <= 900 := by rw [<- hN]; decide
 have hj1 : (1 : Int) <= s.size := by omega
 have hj9 : (s.size : Int) <= 900 := by omega
 rw [show (((0 : Nat) : Nat) : Int) = 0 from rfl] at HF
 rw [name_of hp, hst, rdVals_star] at hrd
 have HRd := H_ (And.intro hrd hNz)
 have hVe : V = ⟨#[42]⟩ := by rw [<- E.mk_data V, show V.data.toList = [42] from hq.trans hst]
 have hv1 : (V.toList == ([42] : List UInt8)) = true := by rw [hVe]; kernel_rfl
 clear hrd hst hVe
 clear hc hz hp hq hNz hVz
 go_enter Tryz.func49, Tryz.ntmps49
 go_wp2_with fail
 refine ((un HF) _).mono ?_
 rintro e w1 ⟨rfl, hw1⟩
 rw [hw1]
 clear hw1 HF
 go_wp2
 refine bodyPost_ret (v := .tuple #[Fd.val ⟨7, N, ⟨#[]⟩, none, 0, 0, ⟨#[]⟩, none, 0, 0⟩, .bool true]) (by simp [results, Tryz.results49, go_sem]) rfl ?_
 refine ⟨?_, .inr ⟨_, _, rfl, it_node (un HRd).2 (by decide), .inl (un HRd).1⟩⟩
 exact ((Below.refl _ _).alloc (Nat.le_refl _) _).alloc (by simp) _
theorem item_bare_one (n : Nat) (s : ByteArray) (w : World) (hs : s.size <= 900) {t : List UInt8} (hc : cutB 61 (dt s) = some ([], t)) (hst : t ≠ [42]) (hno : cutB 42 t = none) :
  Calls Tryz.prog 49 #[.string s] w (ItPost n (dt s) w) := by
 have hrd := rdC_at (n := n) hc
 rw [kindOf_nil] at hrd
 have HF := H_ fun W => refFind_any s 61 0 W (by omega) (Nat.zero_le _)
 rw [fnd_cut hc] at HF
 obtain ⟨hz, hp, hq⟩ := cut_sizes hc
 rw [show ([] : List UInt8).length = 0 from rfl] at HF hz hp hq
 obtain ⟨V, hV⟩ : ∃ V, s.extract 1 s.size = V := ⟨_, rfl⟩
 rw [show s.extract (0 + 1) s.size = V from hV] at hq
 have hVz : V.size <= 900 := by rw [<- hV, ByteArray.size_extract]; omega
 obtain ⟨N, hN⟩ : ∃ N, ByteArray.empty = N := ⟨_, rfl⟩
 replace hp : dt N = [] := by rw [<- hN]; rfl
 have hNz : N.size <= 900 := by rw [<- hN]; decide
 have hj1 : (1 : Int) <= s.size := by omega
 have hj9 : (s.size : Int) <= 900 := by omega
 rw [show (((0 : Nat) : Nat) : Int) = 0 from rfl] at HF
 rw [name_of hp, rdVals_one (.inr (star_mem hno)), rdV_of hq] at hrd
 have HS := H_ fun W => refFind_any V 42 0 W (by omega) (Nat.zero_le _)
 rw [fnd_none (by rw [show V.data.toList = t from hq]; exact hno)] at HS
 have hv1 : (V.toList == ([42] : List UInt8)) = false := by
  rw [beq_eq_false_iff_ne, ByteArray.toList_eq]
  exact fun e => hst (hq ▸ e)
 have HR := H_ fun W => E.refReadFilter_any V W (by omega)
 unfold E.RPost at HR
 have hvz : (und false V).1.size <= 900 := Nat.le_trans (und_small V) hVz
 generalize und false V = ve at *
 obtain ⟨v, er⟩ := ve
 dsimp only at HR hrd hvz
 have HVz := H_ (And.intro hNz hvz)
 have HRd := H_ hrd
 clear hrd hvz
 clear hst hno
 clear hc hz hp hq hNz hVz
 go_enter Tryz.func49, Tryz.ntmps49
 go_wp2_with fail
 refine ((un HF) _).mono ?_
 rintro e w1 ⟨rfl, hw1⟩
 rw [hw1]
 clear hw1 HF
 go_wp2_with fail
 refine ((un HS) _).mono ?_
 rintro e w1 ⟨rfl, hw1⟩
 rw [hw1]
 clear hw1 HS
 go_wp2_with fail
 refine ((un HR) _).mono ?_
 rintro e w2 ⟨rfl, hb2⟩
 have hq1 : w2.heap[w.heap.size + 1]? = some (.cells (Fd.cs ⟨3, N, ⟨#[]⟩, none, 0, 0, ⟨#[]⟩, none, 0, 0⟩) 25 (0, 0)) := (hb2.block _ (by simp)).trans (by have := World.alloc_heap_new (w.alloc zfd.obj) (Fd.obj ⟨3, N, ⟨#[]⟩, none, 0, 0, ⟨#[]⟩, none, 0, 0⟩); rwa [World.size_alloc] at this)
 have hq0 : w2.heap[w.heap.size]? = some (.cells zfd.cs 25 (0, 0)) := (hb2.block _ (by simp; omega)).trans ((Below.heap_alloc _ _ _ (by simp)).trans (World.alloc_heap_new _ _))
 have hbw : Below w.heap.size w w2 := (((Below.refl _ _).alloc (Nat.le_refl _) _).alloc (by simp) _).trans (hb2.mono (by simp; omega))
 obtain ⟨X, hX⟩ : ∃ X, X = w2.setCell ⟨w.heap.size + 1, 2, none⟩ (.string v) := ⟨_, rfl⟩
 have hXq1 : X.heap[w.heap.size + 1]? = some (.cells (Fd.cs ⟨3, N, v, none, 0, 0, ⟨#[]⟩, none, 0, 0⟩) 25 (0, 0)) := by rw [hX]; exact heap_set w2 (w.heap.size + 1) 2 _ _ _ hq1
 have hXq0 : X.heap[w.heap.size]? = some (.cells zfd.cs 25 (0, 0)) := by rw [hX]; exact (Below.heap_setCell _ _ _ _ (by show w.heap.size ≠ w.heap.size + 1; omega)).trans hq0
 have hXb : Below w.heap.size w X := by rw [hX]; exact Below.setCell hbw (p := ⟨w.heap.size + 1, 2, none⟩) (by show w.heap.size <= w.heap.size + 1; omega) _
 have hXc := hX.symm
 obtain ⟨⟨k0, k1, k2, k3, k4, k5⟩, j0, j1, j2, j3, j4, j5⟩ := box6 hXq1
 obtain ⟨⟨c0, c1, c2, c3, c4, c5⟩, g0, g1, g2, g3, g4, g5⟩ := box6 hXq0
 obtain ⟨⟨x0, x1, x2, x3, x4, x5⟩, y0, y1, y2, y3, y4, y5⟩ := box6 hq1
 dsimp only at k0 k1 k2 k3 k4 k5 c0 c1 c2 c3 c4 c5 x0 x1 x2 x3 x4 x5
 have HB := H_ hXb
 have HXz := H_ (Array.getElem?_eq_some_iff.1 hXq0).1
 clear hX hXq1 hXq0 hXb hq1 hq0 hbw hb2 HR
 have hse := set6_but X w.heap.size ⟨3, N, v, none, 0, 0, ⟨#[]⟩, none, 0, 0⟩
 have HE := H_ ((un HB).trans (hse.below (Nat.le_refl _) (un HXz)))
 clear hse HB HXz
 by_cases her : er = 0
 ·subst her
  have hrd := un HRd
  rw [if_pos rfl, Option.map_some] at hrd
  have HRd2 := H_ hrd
  clear hrd HRd
  go_wp2
  refine bodyPost_ret (v := .tuple #[Fd.val ⟨3, N, v, none, 0, 0, ⟨#[]⟩, none, 0, 0⟩, .bool true]) (by simp [results, Tryz.results49, go_sem, c0, c1, c2, c3, c4, c5]) rfl ?_
  exact ⟨un HE, .inr ⟨_, _, rfl, it_node (un HVz).1 (un HVz).2, .inl (un HRd2)⟩⟩
 ·have hrd := un HRd
  rw [if_neg her, Option.map_none] at hrd
  have HRd2 := H_ hrd
  have her0 : (er == 0) = false := by simpa using her
  clear hrd HRd her
  go_wp2
  refine bodyPost_ret (v := .tuple #[Fd.val ⟨3, N, v, none, 0, 0, ⟨#[]⟩, none, 0, 0⟩, .bool false]) (by simp [results, Tryz.results49, go_sem, c0, c1, c2, c3, c4, c5]) rfl ?_
  exact ⟨un HE, .inl ⟨_, rfl, un HRd2⟩⟩
theorem item_sign_star (n : Nat) (s : ByteArray) (w : World) (hs : s.size <= 900) {a t : List UInt8} {y : UInt8} (hny : ([62, 60, 126] : List UInt8).contains y = false) (hc : cutB 61 (dt s) = some (a ++ [y], t)) (hst : t = [42]) :
  Calls Tryz.prog 49 #[.string s] w (ItPost n (dt s) w) := by
 have hrd := rdC_at (n := n) hc
 rw [kindOf_bare hny] at hrd
 have HF := H_ fun W => refFind_any s 61 0 W (by omega) (Nat.zero_le _)
 rw [fnd_cut hc] at HF
 obtain ⟨hz, hp, hq⟩ := cut_sizes hc
 obtain ⟨j, hj⟩ : ∃ j, a.length = j := ⟨_, rfl⟩
 have hlen : (a ++ [y]).length = j + 1 := by rw [List.length_append, hj]; rfl
 rw [hlen] at HF hz hp hq
 have hsz : j < s.size := by omega
 have hsy : s[j] = y := by
  have h1 : dt s = (a ++ [y]) ++ 61 :: t := (cutB_some 61 _ _ _ hc).1
  have h2 : (dt s)[j]? = some y := by rw [h1, <- hj]; simp
  have h3 : (dt s)[j]? = some s[j] := List.getElem?_eq_getElem (by rw [show (dt s).length = s.size from Array.length_toList]; exact hsz)
  rw [h2] at h3
  exact (Option.some.inj h3).symm
 obtain ⟨V, hV⟩ : ∃ V, s.extract (j + 1 + 1) s.size = V := ⟨_, rfl⟩
 rw [hV] at hq
 have hVz : V.size <= 900 := by rw [<- hV, ByteArray.size_extract]; omega
 have hji : ((j : Nat) : Int) < s.size := by omega
 have hj1 : ((j : Int) + 1) < s.size := by omega
 have hj2 : ((j : Int) + 1 + 1) <= s.size := by omega
 have hj9 : (s.size : Int) <= 900 := by omega
 have e2 : ((j : Int) + 1 + 1).toNat = j + 1 + 1 := by omega
 have e3 : ((j : Int) + 2).toNat = j + 1 + 1 := by omega
 rw [show (((j + 1 : Nat) : Nat) : Int) = (j : Int) + 1 by omega] at HF
 obtain ⟨N, hN⟩ : ∃ N, s.extract 0 (j + 1) = N := ⟨_, rfl⟩
 rw [hN] at hp
 have hNz : N.size <= 900 := by rw [<- hN, ByteArray.size_extract]; omega
 have HA := H_ fun W => E.among_any y ⟨#[62, 60, 126]⟩ W (by decide)
 rw [show (ByteArray.mk #[62, 60, 126]).data.toList.contains y = false from hny] at HA
 have hsyi : s[j] = y := hsy
 rw [name_of hp, hst, rdVals_star] at hrd
 have HRd := H_ (And.intro hrd hNz)
 have hVe : V = ⟨#[42]⟩ := by rw [<- E.mk_data V, show V.data.toList = [42] from hq.trans hst]
 have hv1 : (V.toList == ([42] : List UInt8)) = true := by rw [hVe]; kernel_rfl
 clear hrd hst hVe
 clear hc hz hp hq hlen hj hNz hVz hsy hny
 go_enter Tryz.func49, Tryz.ntmps49
 go_wp2_with fail
 refine ((un HF) _).mono ?_
 rintro e w1 ⟨rfl, hw1⟩
 rw [hw1]
 clear hw1 HF
 go_wp2_with fail
 refine ((un HA) _).mono ?_
 rintro e w1 ⟨rfl, hw1⟩
 rw [hw1]
 clear hw1 HA
 go_wp2
 refine bodyPost_ret (v := .tuple #[Fd.val ⟨7, N, ⟨#[]⟩, none, 0, 0, ⟨#[]⟩, none, 0, 0⟩, .bool true]) (by simp [results, Tryz.results49, go_sem]) rfl ?_
 refine ⟨?_, .inr ⟨_, _, rfl, it_node (un HRd).2 (by decide), .inl (un HRd).1⟩⟩
 exact ((Below.refl _ _).alloc (Nat.le_refl _) _).alloc (by simp) _
theorem item_sign_one (n : Nat) (s : ByteArray) (w : World) (hs : s.size <= 900) {a t : List UInt8} {y : UInt8} (hny : ([62, 60, 126] : List UInt8).contains y = false) (hc : cutB 61 (dt s) = some (a ++ [y], t)) (hst : t ≠ [42]) (hno : cutB 42 t = none) :
  Calls Tryz.prog 49 #[.string s] w (ItPost n (dt s) w) := by
 have hrd := rdC_at (n := n) hc
 rw [kindOf_bare hny] at hrd
 have HF := H_ fun W => refFind_any s 61 0 W (by omega) (Nat.zero_le _)
 rw [fnd_cut hc] at HF
 obtain ⟨hz, hp, hq⟩ := cut_sizes hc
 obtain ⟨j, hj⟩ : ∃ j, a.length = j := ⟨_, rfl⟩
 have hlen : (a ++ [y]).length = j + 1 := by rw [List.length_append, hj]; rfl
 rw [hlen] at HF hz hp hq
 have hsz : j < s.size := by omega
 have hsy : s[j] = y := by
  have h1 : dt s = (a ++ [y]) ++ 61 :: t := (cutB_some 61 _ _ _ hc).1
  have h2 : (dt s)[j]? = some y := by rw [h1, <- hj]; simp
  have h3 : (dt s)[j]? = some s[j] := List.getElem?_eq_getElem (by rw [show (dt s).length = s.size from Array.length_toList]; exact hsz)
  rw [h2] at h3
  exact (Option.some.inj h3).symm
 obtain ⟨V, hV⟩ : ∃ V, s.extract (j + 1 + 1) s.size = V := ⟨_, rfl⟩
 rw [hV] at hq
 have hVz : V.size <= 900 := by rw [<- hV, ByteArray.size_extract]; omega
 have hji : ((j : Nat) : Int) < s.size := by omega
 have hj1 : ((j : Int) + 1) < s.size := by omega
 have hj2 : ((j : Int) + 1 + 1) <= s.size := by omega
 have hj9 : (s.size : Int) <= 900 := by omega
 have e2 : ((j : Int) + 1 + 1).toNat = j + 1 + 1 := by omega
 have e3 : ((j : Int) + 2).toNat = j + 1 + 1 := by omega
 rw [show (((j + 1 : Nat) : Nat) : Int) = (j : Int) + 1 by omega] at HF
 obtain ⟨N, hN⟩ : ∃ N, s.extract 0 (j + 1) = N := ⟨_, rfl⟩
 rw [hN] at hp
 have hNz : N.size <= 900 := by rw [<- hN, ByteArray.size_extract]; omega
 have HA := H_ fun W => E.among_any y ⟨#[62, 60, 126]⟩ W (by decide)
 rw [show (ByteArray.mk #[62, 60, 126]).data.toList.contains y = false from hny] at HA
 have hsyi : s[j] = y := hsy
 rw [name_of hp, rdVals_one (.inr (star_mem hno)), rdV_of hq] at hrd
 have HS := H_ fun W => refFind_any V 42 0 W (by omega) (Nat.zero_le _)
 rw [fnd_none (by rw [show V.data.toList = t from hq]; exact hno)] at HS
 have hv1 : (V.toList == ([42] : List UInt8)) = false := by
  rw [beq_eq_false_iff_ne, ByteArray.toList_eq]
  exact fun e => hst (hq ▸ e)
 have HR := H_ fun W => E.refReadFilter_any V W (by omega)
 unfold E.RPost at HR
 have hvz : (und false V).1.size <= 900 := Nat.le_trans (und_small V) hVz
 generalize und false V = ve at *
 obtain ⟨v, er⟩ := ve
 dsimp only at HR hrd hvz
 have HVz := H_ (And.intro hNz hvz)
 have HRd := H_ hrd
 clear hrd hvz
 clear hst hno
 clear hc hz hp hq hlen hj hNz hVz hsy hny
 go_enter Tryz.func49, Tryz.ntmps49
 go_wp2_with fail
 refine ((un HF) _).mono ?_
 rintro e w1 ⟨rfl, hw1⟩
 rw [hw1]
 clear hw1 HF
 go_wp2_with fail
 refine ((un HA) _).mono ?_
 rintro e w1 ⟨rfl, hw1⟩
 rw [hw1]
 clear hw1 HA
 go_wp2_with fail
 refine ((un HS) _).mono ?_
 rintro e w1 ⟨rfl, hw1⟩
 rw [hw1]
 clear hw1 HS
 go_wp2_with fail
 refine ((un HR) _).mono ?_
 rintro e w2 ⟨rfl, hb2⟩
 have hq1 : w2.heap[w.heap.size + 1]? = some (.cells (Fd.cs ⟨3, N, ⟨#[]⟩, none, 0, 0, ⟨#[]⟩, none, 0, 0⟩) 25 (0, 0)) := (hb2.block _ (by simp)).trans (by have := World.alloc_heap_new (w.alloc zfd.obj) (Fd.obj ⟨3, N, ⟨#[]⟩, none, 0, 0, ⟨#[]⟩, none, 0, 0⟩); rwa [World.size_alloc] at this)
 have hq0 : w2.heap[w.heap.size]? = some (.cells zfd.cs 25 (0, 0)) := (hb2.block _ (by simp; omega)).trans ((Below.heap_alloc _ _ _ (by simp)).trans (World.alloc_heap_new _ _))
 have hbw : Below w.heap.size w w2 := (((Below.refl _ _).alloc (Nat.le_refl _) _).alloc (by simp) _).trans (hb2.mono (by simp; omega))
 obtain ⟨X, hX⟩ : ∃ X, X = w2.setCell ⟨w.heap.size + 1, 2, none⟩ (.string v) := ⟨_, rfl⟩
 have hXq1 : X.heap[w.heap.size + 1]? = some (.cells (Fd.cs ⟨3, N, v, none, 0, 0, ⟨#[]⟩, none, 0, 0⟩) 25 (0, 0)) := by rw [hX]; exact heap_set w2 (w.heap.size + 1) 2 _ _ _ hq1
 have hXq0 : X.heap[w.heap.size]? = some (.cells zfd.cs 25 (0, 0)) := by rw [hX]; exact (Below.heap_setCell _ _ _ _ (by show w.heap.size ≠ w.heap.size + 1; omega)).trans hq0
 have hXb : Below w.heap.size w X := by rw [hX]; exact Below.setCell hbw (p := ⟨w.heap.size + 1, 2, none⟩) (by show w.heap.size <= w.heap.size + 1; omega) _
 have hXc := hX.symm
 obtain ⟨⟨k0, k1, k2, k3, k4, k5⟩, j0, j1, j2, j3, j4, j5⟩ := box6 hXq1
 obtain ⟨⟨c0, c1, c2, c3, c4, c5⟩, g0, g1, g2, g3, g4, g5⟩ := box6 hXq0
 obtain ⟨⟨x0, x1, x2, x3, x4, x5⟩, y0, y1, y2, y3, y4, y5⟩ := box6 hq1
 dsimp only at k0 k1 k2 k3 k4 k5 c0 c1 c2 c3 c4 c5 x0 x1 x2 x3 x4 x5
 have HB := H_ hXb
 have HXz := H_ (Array.getElem?_eq_some_iff.1 hXq0).1
 clear hX hXq1 hXq0 hXb hq1 hq0 hbw hb2 HR
 have hse := set6_but X w.heap.size ⟨3, N, v, none, 0, 0, ⟨#[]⟩, none, 0, 0⟩
 have HE := H_ ((un HB).trans (hse.below (Nat.le_refl _) (un HXz)))
 clear hse HB HXz
 by_cases her : er = 0
 ·subst her
  have hrd := un HRd
  rw [if_pos rfl, Option.map_some] at hrd
  have HRd2 := H_ hrd
  clear hrd HRd
  go_wp2
  refine bodyPost_ret (v := .tuple #[Fd.val ⟨3, N, v, none, 0, 0, ⟨#[]⟩, none, 0, 0⟩, .bool true]) (by simp [results, Tryz.results49, go_sem, c0, c1, c2, c3, c4, c5]) rfl ?_
  exact ⟨un HE, .inr ⟨_, _, rfl, it_node (un HVz).1 (un HVz).2, .inl (un HRd2)⟩⟩
 ·have hrd := un HRd
  rw [if_neg her, Option.map_none] at hrd
  have HRd2 := H_ hrd
  have her0 : (er == 0) = false := by simpa using her
  clear hrd HRd her
  go_wp2
  refine bodyPost_ret (v := .tuple #[Fd.val ⟨3, N, v, none, 0, 0, ⟨#[]⟩, none, 0, 0⟩, .bool false]) (by simp [results, Tryz.results49, go_sem, c0, c1, c2, c3, c4, c5]) rfl ?_
  exact ⟨un HE, .inl ⟨_, rfl, un HRd2⟩⟩
end Go.Proofs.YtjhnblgamodekaaGreatDoor.F
