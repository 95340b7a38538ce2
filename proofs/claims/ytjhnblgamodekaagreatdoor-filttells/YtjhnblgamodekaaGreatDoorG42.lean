/- Several texts in one: FRefS, FRefC. Each says what it proves, and its conditions. -/
import Derived.Test.YtjhnblgamodekaaGreatDoorFRefB
set_option linter.unusedSimpArgs false
set_option linter.unusedVariables false
set_option maxHeartbeats 8000000
set_option maxRecDepth 100000
/-
 What the document's own item of layer 8 answers where pieces stand; and for every text. Conditions: none.
-/
namespace Go.Proofs.YtjhnblgamodekaaGreatDoor.F
open Go Go.RowKit Go.Shelf Fp
open D (H_ un)
open Dp (mp)
open E (und)
attribute [local go_sem] Oper.semAt_some
theorem item_bare_subs (n : Nat) (s : ByteArray) (w : World) (hs : s.size <= 900) {t : List UInt8} (hc : cutB 61 (dt s) = some ([], t)) {p q : List UInt8} (hst : t ≠ [42]) (hno : cutB 42 t = some (p, q)) :
  Calls Tryz.prog 49 #[.string s] w (ItPost n (dt s) w) := by
 have hrd := rdC_at (n := n) hc
 rw [kindOf_nil] at hrd
 have HF := H_ fun W => refFind_any s 61 0 W (by omega) (Nat.zero_le _)
 rw [fnd_cut hc] at HF
 obtain ⟨hz, hp, hq⟩ := cut_sizes hc
 rw [show ([] : List UInt8).length = 0 from rfl] at HF hz hp hq
 obtain ⟨V, hV⟩ : ∃ V, s.extract 1 s.size = V := ⟨_, rfl⟩
 rw [show s.extract (0 + 1) s.size = V from hV] at hq
 have hVz : V.size <= 900 := by rw [<- hV, ByteArray.size_extract]; omega
 obtain ⟨N, hN⟩ : ∃ N, ByteArray.empty = N := ⟨_, rfl⟩
 replace hp : dt N = [] := by rw [<- hN]; rfl
 have hNz : N.size <= 900 := by rw [<- hN]; decide
 have hj1 : (1 : Int) <= s.size := by omega
 have hj9 : (s.size : Int) <= 900 := by omega
 rw [show (((0 : Nat) : Nat) : Int) = 0 from rfl] at HF
 rw [name_of hp] at hrd
 have HS := H_ fun W => refFind_any V 42 0 W (by omega) (Nat.zero_le _)
 rw [fnd_cut (by rw [show V.data.toList = t from hq]; exact hno)] at HS
 have hpl : (0 : Int) <= (p.length : Int) := by omega
 have hv1 : (V.toList == ([42] : List UInt8)) = false := by
  rw [beq_eq_false_iff_ne, ByteArray.toList_eq]
  exact fun e => hst (hq ▸ e)
 have HPc := H_ fun W => refPcs_any V W hVz
 rw [show V.data.toList = t from hq] at HPc
 have htl : t.length <= 900 := by rw [<- hq]; exact Nat.le_trans (Nat.le_of_eq Array.length_toList) hVz
 have HNo := H_ fun (h : mp rdV (spl 42 t) = none) => hrd.trans (rdVals_subs_bad (n := n) (a := N) (star_in hno) hst h)
 have HYes := H_ fun xs (h : mp rdV (spl 42 t) = some xs) => rdVals_subs (n := n) (a := N) (star_in hno) hst h
 have HSm := H_ fun xs (h : mp rdV (spl 42 t) = some xs) => And.intro (pcs_small htl h) (show 2 <= xs.length /\ xs.length <= 1000 by
  rw [mp_len _ _ _ h]
  refine ⟨spl_two (star_in hno), ?_⟩
  rw [spl_len]
  have := List.count_le_length (a := (42 : UInt8)) (l := t)
  omega)
 have HRd := H_ (And.intro hrd hNz)
 obtain ⟨plen, hplen⟩ : ∃ x, p.length = x := ⟨_, rfl⟩
 rw [hplen] at HS hpl
 clear hst hno hrd htl hplen
 clear hc hz hp hq hNz hVz
 generalize mp rdV (spl 42 t) = om at *
 go_enter Tryz.func49, Tryz.ntmps49
 go_wp2_with fail
 refine ((un HF) _).mono ?_
 rintro e w1 ⟨rfl, hw1⟩
 rw [hw1]
 clear hw1 HF
 go_wp2_with fail
 refine ((un HS) _).mono ?_
 rintro e w1 ⟨rfl, hw1⟩
 rw [hw1]
 clear hw1 HS
 go_wp2_with fail
 refine ((un HPc) _).mono ?_
 rintro e w2 ⟨hb2, hpost⟩
 clear HPc
 have hq1 : w2.heap[w.heap.size + 1]? = some (.cells (Fd.cs ⟨4, N, ⟨#[]⟩, none, 0, 0, ⟨#[]⟩, none, 0, 0⟩) 25 (0, 0)) := (hb2.block _ (by simp)).trans (by have := World.alloc_heap_new (w.alloc zfd.obj) (Fd.obj ⟨4, N, ⟨#[]⟩, none, 0, 0, ⟨#[]⟩, none, 0, 0⟩); rwa [World.size_alloc] at this)
 have hq0 : w2.heap[w.heap.size]? = some (.cells zfd.cs 25 (0, 0)) := (hb2.block _ (by simp; omega)).trans ((Below.heap_alloc _ _ _ (by simp)).trans (World.alloc_heap_new _ _))
 have hbw : Below w.heap.size w w2 := (((Below.refl _ _).alloc (Nat.le_refl _) _).alloc (by simp) _).trans (hb2.mono (by simp; omega))
 rcases hpost with ⟨rfl, rfl⟩ | ⟨xs, lv, rfl, rfl, hown⟩
 ·obtain ⟨⟨c0, c1, c2, c3, c4, c5⟩, g0, g1, g2, g3, g4, g5⟩ := box6 hq0
  dsimp only at c0 c1 c2 c3 c4 c5
  have HN := H_ ((un HNo) rfl)
  have HE := H_ (hbw.trans ((set6_but w2 w.heap.size zfd).below (Nat.le_refl _) (Array.getElem?_eq_some_iff.1 hq0).1))
  clear HYes HSm HNo HRd hq1 hq0 hbw hb2
  go_wp2
  refine bodyPost_ret (v := .tuple #[zfd.val, .bool false]) (by simp [results, Tryz.results49, go_sem, c0, c1, c2, c3, c4, c5]) rfl ?_
  exact ⟨un HE, .inl ⟨_, rfl, un HN⟩⟩
 ·obtain ⟨hxs, hx2, hxl⟩ := (un HSm) xs rfl
  obtain ⟨m, hm⟩ : ∃ m, xs.length = m + 2 := ⟨xs.length - 2, by omega⟩
  obtain ⟨g, cap, rfl, -⟩ := hown.form (by omega)
  have hcap := own_capS hown
  have hgl := hown.lt g rfl
  have hcel := (own_cells _ hown).1
  have hgB : w.heap.size + 2 <= g := by have := hgl.1; simp at this; omega
  have hG := (un HYes) xs rfl
  rw [<- (un HRd).1] at hG
  have hx0 := hcel 0 _ (head_at hm)
  have hxm := hcel (m + 1) _ (last_at hm)
  have HNode := H_ fun (Z : World) (h : Z.heap[g]? = w2.heap[g]?) => subs_node (n := n) (W := Z) (p := fun b => w.heap.size <= b) (a := N) (g := g) (m := m) (c := cap - 1) (xs := xs) hm hxs hxl (un HRd).2 (by omega) fun i x hi => (World.cell?_of_block (w := w2) (a := ⟨g, 0 + i, none⟩) h).trans (hcel i x hi)
  have HG := H_ hG
  rw [hm] at hcap
  rw [hm]
  generalize xs.headD ⟨#[]⟩ = xa at *
  generalize xs.getLastD ⟨#[]⟩ = xb at *
  clear HYes HSm HNo HRd hown hcel hG hx2
  obtain ⟨X1, hX1⟩ : ∃ X, X = w2.setCell ⟨w.heap.size + 1, 2, none⟩ (.string xa) := ⟨_, rfl⟩
  obtain ⟨X2, hX2⟩ : ∃ X, X = X1.setCell ⟨w.heap.size + 1, 4, none⟩ (.string xb) := ⟨_, rfl⟩
  obtain ⟨X3, hX3⟩ : ∃ X, X = X2.setCell ⟨w.heap.size + 1, 3, none⟩ (.slice (some ⟨g, 1, none⟩) m (cap - 1)) := ⟨_, rfl⟩
  have hX1q : X1.heap[w.heap.size + 1]? = some (.cells (Fd.cs ⟨4, N, xa, none, 0, 0, ⟨#[]⟩, none, 0, 0⟩) 25 (0, 0)) := by rw [hX1]; exact heap_set w2 (w.heap.size + 1) 2 _ _ _ hq1
  have hX2q : X2.heap[w.heap.size + 1]? = some (.cells (Fd.cs ⟨4, N, xa, none, 0, 0, xb, none, 0, 0⟩) 25 (0, 0)) := by rw [hX2]; exact heap_set X1 (w.heap.size + 1) 4 _ _ _ hX1q
  have hX3q : X3.heap[w.heap.size + 1]? = some (.cells (Fd.cs ⟨4, N, xa, some ⟨g, 1, none⟩, m, cap - 1, xb, none, 0, 0⟩) 25 (0, 0)) := by rw [hX3]; exact heap_set X2 (w.heap.size + 1) 3 _ _ _ hX2q
  have far1 : ∀ b, b ≠ w.heap.size + 1 -> X1.heap[b]? = w2.heap[b]? := fun b h => by rw [hX1]; exact Below.heap_setCell _ _ _ _ h
  have far2 : ∀ b, b ≠ w.heap.size + 1 -> X2.heap[b]? = w2.heap[b]? := fun b h => by rw [hX2]; exact (Below.heap_setCell _ _ _ _ h).trans (far1 b h)
  have far3 : ∀ b, b ≠ w.heap.size + 1 -> X3.heap[b]? = w2.heap[b]? := fun b h => by rw [hX3]; exact (Below.heap_setCell _ _ _ _ h).trans (far2 b h)
  have hX3z : X3.heap[w.heap.size]? = some (.cells zfd.cs 25 (0, 0)) := (far3 _ (by omega)).trans hq0
  have hbX : Below w.heap.size w X3 := by
   rw [hX3, hX2, hX1]
   exact ((hbw.setCell (p := ⟨w.heap.size + 1, 2, none⟩) (by show w.heap.size <= w.heap.size + 1; omega) _).setCell (p := ⟨w.heap.size + 1, 4, none⟩) (by show w.heap.size <= w.heap.size + 1; omega) _).setCell (p := ⟨w.heap.size + 1, 3, none⟩) (by show w.heap.size <= w.heap.size + 1; omega) _
  have hxm1 : X1.cell? ⟨g, m + 1, none⟩ = some (.string xb) := by
   have := (World.cell?_of_block (w := w2) (a := ⟨g, 0 + (m + 1), none⟩) (far1 g (by omega))).trans hxm
   rwa [Nat.zero_add] at this
  have hXG := H_ (far3 g (by omega))
  obtain ⟨⟨-, -, x2, -, -, -⟩, -, -, p2, -, -, -⟩ := box6 hq1
  obtain ⟨⟨-, -, -, -, t4, -⟩, -, -, -, -, r4, -⟩ := box6 hX1q
  obtain ⟨⟨-, -, -, z3, -, -⟩, -, -, -, s3, -, -⟩ := box6 hX2q
  obtain ⟨⟨k0, k1, k2, k3, k4, k5⟩, j0, j1, j2, j3, j4, j5⟩ := box6 hX3q
  obtain ⟨⟨c0, c1, c2, c3, c4, c5⟩, g0, g1, g2, g3, g4, g5⟩ := box6 hX3z
  dsimp only at k0 k1 k2 k3 k4 k5 c0 c1 c2 c3 c4 c5 x2 t4 z3
  have hse := set6_but X3 w.heap.size ⟨4, N, xa, some ⟨g, 1, none⟩, m, cap - 1, xb, none, 0, 0⟩
  have HE := H_ (hbX.trans (hse.below (Nat.le_refl _) (Array.getElem?_eq_some_iff.1 hX3z).1))
  have HSe := H_ ((hse.block g (Nat.lt_of_lt_of_le hgl.2 (by have := hbX.size; rw [hX3, hX2, hX1, size_setCell, size_setCell, size_setCell]; exact Nat.le_refl _)) (by omega)))
  have hX1c := hX1.symm
  have hX2c := hX2.symm
  have hX3c := hX3.symm
  have e5 : ((m : Int) + 2 - 1).toNat = m + 1 := by omega
  have e6 : ((m : Int) + 1).toNat = m + 1 := by omega
  have hmi : (m : Int) <= 1000 := by omega
  have hc1 : ¬ cap = 1 := by omega
  have hl2 : (m : Int) + 1 <= cap := by omega
  have hl3 : (1 : Int) <= (m : Int) + 1 := by omega
  have hn2 : ¬ (m : Int) + 2 < 2 := by omega
  have hn3 : (0 : Int) <= m := by omega
  have hn4 : (0 : Int) < (m : Int) + 2 := by omega
  have hn5 : (m : Int) + 2 - 1 = (m : Int) + 1 := by omega
  have hci : (m : Int) + 2 <= cap := by omega
  clear hX1 hX2 hX3 hX1q hX2q hX3q far1 far2 far3 hX3z hbX hse hq1 hq0 hbw hb2 hxm hgl
  iterate 2 (first | go_values | go_skip | go_guarded | go_step | go_upon | go_in | go_back | go_simp)
  go_wp2
  refine bodyPost_ret (v := .tuple #[Fd.val ⟨4, N, xa, some ⟨g, 1, none⟩, m, cap - 1, xb, none, 0, 0⟩, .bool true]) (by simp [results, Tryz.results49, go_sem, c0, c1, c2, c3, c4, c5]) rfl ?_
  exact ⟨un HE, .inr ⟨_, _, rfl, (un HNode) _ ((un HSe).trans (un hXG)), un HG⟩⟩
theorem item_sign_subs (n : Nat) (s : ByteArray) (w : World) (hs : s.size <= 900) {a t : List UInt8} {y : UInt8} (hny : ([62, 60, 126] : List UInt8).contains y = false) (hc : cutB 61 (dt s) = some (a ++ [y], t)) {p q : List UInt8} (hst : t ≠ [42]) (hno : cutB 42 t = some (p, q)) :
  Calls Tryz.prog 49 #[.string s] w (ItPost n (dt s) w) := by
 have hrd := rdC_at (n := n) hc
 rw [kindOf_bare hny] at hrd
 have HF := H_ fun W => refFind_any s 61 0 W (by omega) (Nat.zero_le _)
 rw [fnd_cut hc] at HF
 obtain ⟨hz, hp, hq⟩ := cut_sizes hc
 obtain ⟨j, hj⟩ : ∃ j, a.length = j := ⟨_, rfl⟩
 have hlen : (a ++ [y]).length = j + 1 := by rw [List.length_append, hj]; rfl
 rw [hlen] at HF hz hp hq
 have hsz : j < s.size := by omega
 have hsy : s[j] = y := by
  have h1 : dt s = (a ++ [y]) ++ 61 :: t := (cutB_some 61 _ _ _ hc).1
  have h2 : (dt s)[j]? = some y := by rw [h1, <- hj]; simp
  have h3 : (dt s)[j]? = some s[j] := List.getElem?_eq_getElem (by rw [show (dt s).length = s.size from Array.length_toList]; exact hsz)
  rw [h2] at h3
  exact (Option.some.inj h3).symm
 obtain ⟨V, hV⟩ : ∃ V, s.extract (j + 1 + 1) s.size = V := ⟨_, rfl⟩
 rw [hV] at hq
 have hVz : V.size <= 900 := by rw [<- hV, ByteArray.size_extract]; omega
 have hji : ((j : Nat) : Int) < s.size := by omega
 have hj1 : ((j : Int) + 1) < s.size := by omega
 have hj2 : ((j : Int) + 1 + 1) <= s.size := by omega
 have hj9 : (s.size : Int) <= 900 := by omega
 have e2 : ((j : Int) + 1 + 1).toNat = j + 1 + 1 := by omega
 have e3 : ((j : Int) + 2).toNat = j + 1 + 1 := by omega
 rw [show (((j + 1 : Nat) : Nat) : Int) = (j : Int) + 1 by omega] at HF
 obtain ⟨N, hN⟩ : ∃ N, s.extract 0 (j + 1) = N := ⟨_, rfl⟩
 rw [hN] at hp
 have hNz : N.size <= 900 := by rw [<- hN, ByteArray.size_extract]; omega
 have HA := H_ fun W => E.among_any y ⟨#[62, 60, 126]⟩ W (by decide)
 rw [show (ByteArray.mk #[62, 60, 126]).data.toList.contains y = false from hny] at HA
 have hsyi : s[j] = y := hsy
 rw [name_of hp] at hrd
 have HS := H_ fun W => refFind_any V 42 0 W (by omega) (Nat.zero_le _)
 rw [fnd_cut (by rw [show V.data.toList = t from hq]; exact hno)] at HS
 have hpl : (0 : Int) <= (p.length : Int) := by omega
 have hv1 : (V.toList == ([42] : List UInt8)) = false := by
  rw [beq_eq_false_iff_ne, ByteArray.toList_eq]
  exact fun e => hst (hq ▸ e)
 have HPc := H_ fun W => refPcs_any V W hVz
 rw [show V.data.toList = t from hq] at HPc
 have htl : t.length <= 900 := by rw [<- hq]; exact Nat.le_trans (Nat.le_of_eq Array.length_toList) hVz
 have HNo := H_ fun (h : mp rdV (spl 42 t) = none) => hrd.trans (rdVals_subs_bad (n := n) (a := N) (star_in hno) hst h)
 have HYes := H_ fun xs (h : mp rdV (spl 42 t) = some xs) => rdVals_subs (n := n) (a := N) (star_in hno) hst h
 have HSm := H_ fun xs (h : mp rdV (spl 42 t) = some xs) => And.intro (pcs_small htl h) (show 2 <= xs.length /\ xs.length <= 1000 by
  rw [mp_len _ _ _ h]
  refine ⟨spl_two (star_in hno), ?_⟩
  rw [spl_len]
  have := List.count_le_length (a := (42 : UInt8)) (l := t)
  omega)
 have HRd := H_ (And.intro hrd hNz)
 obtain ⟨plen, hplen⟩ : ∃ x, p.length = x := ⟨_, rfl⟩
 rw [hplen] at HS hpl
 clear hst hno hrd htl hplen
 clear hc hz hp hq hlen hj hNz hVz hsy hny
 generalize mp rdV (spl 42 t) = om at *
 go_enter Tryz.func49, Tryz.ntmps49
 go_wp2_with fail
 refine ((un HF) _).mono ?_
 rintro e w1 ⟨rfl, hw1⟩
 rw [hw1]
 clear hw1 HF
 go_wp2_with fail
 refine ((un HA) _).mono ?_
 rintro e w1 ⟨rfl, hw1⟩
 rw [hw1]
 clear hw1 HA
 go_wp2_with fail
 refine ((un HS) _).mono ?_
 rintro e w1 ⟨rfl, hw1⟩
 rw [hw1]
 clear hw1 HS
 go_wp2_with fail
 refine ((un HPc) _).mono ?_
 rintro e w2 ⟨hb2, hpost⟩
 clear HPc
 have hq1 : w2.heap[w.heap.size + 1]? = some (.cells (Fd.cs ⟨4, N, ⟨#[]⟩, none, 0, 0, ⟨#[]⟩, none, 0, 0⟩) 25 (0, 0)) := (hb2.block _ (by simp)).trans (by have := World.alloc_heap_new (w.alloc zfd.obj) (Fd.obj ⟨4, N, ⟨#[]⟩, none, 0, 0, ⟨#[]⟩, none, 0, 0⟩); rwa [World.size_alloc] at this)
 have hq0 : w2.heap[w.heap.size]? = some (.cells zfd.cs 25 (0, 0)) := (hb2.block _ (by simp; omega)).trans ((Below.heap_alloc _ _ _ (by simp)).trans (World.alloc_heap_new _ _))
 have hbw : Below w.heap.size w w2 := (((Below.refl _ _).alloc (Nat.le_refl _) _).alloc (by simp) _).trans (hb2.mono (by simp; omega))
 rcases hpost with ⟨rfl, rfl⟩ | ⟨xs, lv, rfl, rfl, hown⟩
 ·obtain ⟨⟨c0, c1, c2, c3, c4, c5⟩, g0, g1, g2, g3, g4, g5⟩ := box6 hq0
  dsimp only at c0 c1 c2 c3 c4 c5
  have HN := H_ ((un HNo) rfl)
  have HE := H_ (hbw.trans ((set6_but w2 w.heap.size zfd).below (Nat.le_refl _) (Array.getElem?_eq_some_iff.1 hq0).1))
  clear HYes HSm HNo HRd hq1 hq0 hbw hb2
  go_wp2
  refine bodyPost_ret (v := .tuple #[zfd.val, .bool false]) (by simp [results, Tryz.results49, go_sem, c0, c1, c2, c3, c4, c5]) rfl ?_
  exact ⟨un HE, .inl ⟨_, rfl, un HN⟩⟩
 ·obtain ⟨hxs, hx2, hxl⟩ := (un HSm) xs rfl
  obtain ⟨m, hm⟩ : ∃ m, xs.length = m + 2 := ⟨xs.length - 2, by omega⟩
  obtain ⟨g, cap, rfl, -⟩ := hown.form (by omega)
  have hcap := own_capS hown
  have hgl := hown.lt g rfl
  have hcel := (own_cells _ hown).1
  have hgB : w.heap.size + 2 <= g := by have := hgl.1; simp at this; omega
  have hG := (un HYes) xs rfl
  rw [<- (un HRd).1] at hG
  have hx0 := hcel 0 _ (head_at hm)
  have hxm := hcel (m + 1) _ (last_at hm)
  have HNode := H_ fun (Z : World) (h : Z.heap[g]? = w2.heap[g]?) => subs_node (n := n) (W := Z) (p := fun b => w.heap.size <= b) (a := N) (g := g) (m := m) (c := cap - 1) (xs := xs) hm hxs hxl (un HRd).2 (by omega) fun i x hi => (World.cell?_of_block (w := w2) (a := ⟨g, 0 + i, none⟩) h).trans (hcel i x hi)
  have HG := H_ hG
  rw [hm] at hcap
  rw [hm]
  generalize xs.headD ⟨#[]⟩ = xa at *
  generalize xs.getLastD ⟨#[]⟩ = xb at *
  clear HYes HSm HNo HRd hown hcel hG hx2
  obtain ⟨X1, hX1⟩ : ∃ X, X = w2.setCell ⟨w.heap.size + 1, 2, none⟩ (.string xa) := ⟨_, rfl⟩
  obtain ⟨X2, hX2⟩ : ∃ X, X = X1.setCell ⟨w.heap.size + 1, 4, none⟩ (.string xb) := ⟨_, rfl⟩
  obtain ⟨X3, hX3⟩ : ∃ X, X = X2.setCell ⟨w.heap.size + 1, 3, none⟩ (.slice (some ⟨g, 1, none⟩) m (cap - 1)) := ⟨_, rfl⟩
  have hX1q : X1.heap[w.heap.size + 1]? = some (.cells (Fd.cs ⟨4, N, xa, none, 0, 0, ⟨#[]⟩, none, 0, 0⟩) 25 (0, 0)) := by rw [hX1]; exact heap_set w2 (w.heap.size + 1) 2 _ _ _ hq1
  have hX2q : X2.heap[w.heap.size + 1]? = some (.cells (Fd.cs ⟨4, N, xa, none, 0, 0, xb, none, 0, 0⟩) 25 (0, 0)) := by rw [hX2]; exact heap_set X1 (w.heap.size + 1) 4 _ _ _ hX1q
  have hX3q : X3.heap[w.heap.size + 1]? = some (.cells (Fd.cs ⟨4, N, xa, some ⟨g, 1, none⟩, m, cap - 1, xb, none, 0, 0⟩) 25 (0, 0)) := by rw [hX3]; exact heap_set X2 (w.heap.size + 1) 3 _ _ _ hX2q
  have far1 : ∀ b, b ≠ w.heap.size + 1 -> X1.heap[b]? = w2.heap[b]? := fun b h => by rw [hX1]; exact Below.heap_setCell _ _ _ _ h
  have far2 : ∀ b, b ≠ w.heap.size + 1 -> X2.heap[b]? = w2.heap[b]? := fun b h => by rw [hX2]; exact (Below.heap_setCell _ _ _ _ h).trans (far1 b h)
  have far3 : ∀ b, b ≠ w.heap.size + 1 -> X3.heap[b]? = w2.heap[b]? := fun b h => by rw [hX3]; exact (Below.heap_setCell _ _ _ _ h).trans (far2 b h)
  have hX3z : X3.heap[w.heap.size]? = some (.cells zfd.cs 25 (0, 0)) := (far3 _ (by omega)).trans hq0
  have hbX : Below w.heap.size w X3 := by
   rw [hX3, hX2, hX1]
   exact ((hbw.setCell (p := ⟨w.heap.size + 1, 2, none⟩) (by show w.heap.size <= w.heap.size + 1; omega) _).setCell (p := ⟨w.heap.size + 1, 4, none⟩) (by show w.heap.size <= w.heap.size + 1; omega) _).setCell (p := ⟨w.heap.size + 1, 3, none⟩) (by show w.heap.size <= w.heap.size + 1; omega) _
  have hxm1 : X1.cell? ⟨g, m + 1, none⟩ = some (.string xb) := by
   have := (World.cell?_of_block (w := w2) (a := ⟨g, 0 + (m + 1), none⟩) (far1 g (by omega))).trans hxm
   rwa [Nat.zero_add] at this
  have hXG := H_ (far3 g (by omega))
  obtain ⟨⟨-, -, x2, -, -, -⟩, -, -, p2, -, -, -⟩ := box6 hq1
  obtain ⟨⟨-, -, -, -, t4, -⟩, -, -, -, -, r4, -⟩ := box6 hX1q
  obtain ⟨⟨-, -, -, z3, -, -⟩, -, -, -, s3, -, -⟩ := box6 hX2q
  obtain ⟨⟨k0, k1, k2, k3, k4, k5⟩, j0, j1, j2, j3, j4, j5⟩ := box6 hX3q
  obtain ⟨⟨c0, c1, c2, c3, c4, c5⟩, g0, g1, g2, g3, g4, g5⟩ := box6 hX3z
  dsimp only at k0 k1 k2 k3 k4 k5 c0 c1 c2 c3 c4 c5 x2 t4 z3
  have hse := set6_but X3 w.heap.size ⟨4, N, xa, some ⟨g, 1, none⟩, m, cap - 1, xb, none, 0, 0⟩
  have HE := H_ (hbX.trans (hse.below (Nat.le_refl _) (Array.getElem?_eq_some_iff.1 hX3z).1))
  have HSe := H_ ((hse.block g (Nat.lt_of_lt_of_le hgl.2 (by have := hbX.size; rw [hX3, hX2, hX1, size_setCell, size_setCell, size_setCell]; exact Nat.le_refl _)) (by omega)))
  have hX1c := hX1.symm
  have hX2c := hX2.symm
  have hX3c := hX3.symm
  have e5 : ((m : Int) + 2 - 1).toNat = m + 1 := by omega
  have e6 : ((m : Int) + 1).toNat = m + 1 := by omega
  have hmi : (m : Int) <= 1000 := by omega
  have hc1 : ¬ cap = 1 := by omega
  have hl2 : (m : Int) + 1 <= cap := by omega
  have hl3 : (1 : Int) <= (m : Int) + 1 := by omega
  have hn2 : ¬ (m : Int) + 2 < 2 := by omega
  have hn3 : (0 : Int) <= m := by omega
  have hn4 : (0 : Int) < (m : Int) + 2 := by omega
  have hn5 : (m : Int) + 2 - 1 = (m : Int) + 1 := by omega
  have hci : (m : Int) + 2 <= cap := by omega
  clear hX1 hX2 hX3 hX1q hX2q hX3q far1 far2 far3 hX3z hbX hse hq1 hq0 hbw hb2 hxm hgl
  iterate 2 (first | go_values | go_skip | go_guarded | go_step | go_upon | go_in | go_back | go_simp)
  go_wp2
  refine bodyPost_ret (v := .tuple #[Fd.val ⟨4, N, xa, some ⟨g, 1, none⟩, m, cap - 1, xb, none, 0, 0⟩, .bool true]) (by simp [results, Tryz.results49, go_sem, c0, c1, c2, c3, c4, c5]) rfl ?_
  exact ⟨un HE, .inr ⟨_, _, rfl, (un HNode) _ ((un HSe).trans (un hXG)), un HG⟩⟩
theorem refItem_any (n : Nat) (s : ByteArray) (w : World) (hs : s.size <= 900) :
  Calls Tryz.prog 49 #[.string s] w (ItPost n (dt s) w) := by
 cases hc : cutB 61 (dt s) with
 | none => exact item_no n s w hs hc
 | some at2 =>
  obtain ⟨a, t⟩ := at2
  rcases List.eq_nil_or_concat a with rfl | ⟨a0, y, rfl⟩
  ·by_cases hst : t = [42]
   ·exact item_bare_star n s w hs hc hst
   ·cases hno : cutB 42 t with
    | none => exact item_bare_one n s w hs hc hst hno
    | some pq => exact item_bare_subs n s w hs hc hst hno
  ·rw [List.concat_eq_append] at hc
   by_cases h62 : y = 62
   ·exact item_mark n s w hs y 5 (.inl ⟨h62, rfl⟩) hc
   ·by_cases h60 : y = 60
    ·exact item_mark n s w hs y 6 (.inr (.inl ⟨h60, rfl⟩)) hc
    ·by_cases h126 : y = 126
     ·exact item_mark n s w hs y 8 (.inr (.inr ⟨h126, rfl⟩)) hc
     ·have hny : ([62, 60, 126] : List UInt8).contains y = false := by simp [h62, h60, h126]
      by_cases hst : t = [42]
      ·exact item_sign_star n s w hs hny hc hst
      ·cases hno : cutB 42 t with
       | none => exact item_sign_one n s w hs hny hc hst hno
       | some pq => exact item_sign_subs n s w hs hny hc hst hno
end Go.Proofs.YtjhnblgamodekaaGreatDoor.F
/-
 What the document's own read of layer 8 answers, at one depth. Conditions: none.
-/
namespace Go.Proofs.YtjhnblgamodekaaGreatDoor.F
open Go Go.RowKit Go.Shelf Fp
open D (H_ un)
open Dp (mp)
attribute [local go_sem] Oper.semAt_some
def RdPst (k : Nat) (s : ByteArray) (p : Nat) (w : World) (e : Ending) (W : World) : Prop := Below w.heap.size w W /\
 ((∃ (d : Fd) (c : Int), e = .returned (.tuple #[d.val, .int .i64 c, .bool false]) /\ rdF k ((dt s).drop p) = none) \/
  ∃ (d : Fd) (G : Fl (k + 2)) (q : Nat), e = .returned (.tuple #[d.val, .int .i64 (q : Int), .bool true]) /\ p < q /\ q <= s.size /\ FNode (k + 2) W (fun b => w.heap.size <= b) d G /\ rdF k ((dt s).drop p) = if right (k + 2) k G then some (G, (dt s).drop q) else none)
def RdIs (k : Nat) (s : ByteArray) : Prop := ∀ (p : Nat) (w : World), p <= s.size -> Calls Tryz.prog 27 #[.string s, .int .i64 (p : Int), .int .i64 (k : Int)] w (RdPst k s p w)
theorem dt_len (s : ByteArray) : (dt s).length = s.size := Array.length_toList
theorem dt_at {s : ByteArray} {p : Nat} (h : p < s.size) : (dt s).drop p = s[p] :: (dt s).drop (p + 1) := E.drop_at h
theorem dt_out {s : ByteArray} {p : Nat} (h : s.size <= p) : (dt s).drop p = [] := List.drop_eq_nil_of_le (by rw [dt_len]; exact h)
theorem head_dt {s : ByteArray} {p : Nat} (h : p < s.size) : ((dt s).drop p).head? = some s[p] := by rw [dt_at h]; rfl
theorem fnd_from {c : UInt8} {l p q : List UInt8} {fr : Nat} (h : cutB c (l.drop fr) = some (p, q)) : fnd c fr l = (fr : Int) + p.length := by
 unfold fnd
 rw [h]
 simp
theorem fnd_from_none {c : UInt8} {l : List UInt8} {fr : Nat} (h : cutB c (l.drop fr) = none) : fnd c fr l = -1 := by
 unfold fnd
 rw [h]
theorem dt_mid {s : ByteArray} {fr : Nat} {p q : List UInt8} {c : UInt8} (hf : fr <= s.size) (h : cutB c ((dt s).drop fr) = some (p, q)) : fr + p.length < s.size /\ dt (s.extract fr (fr + p.length)) = p /\ (dt s).drop (fr + p.length + 1) = q := by
 obtain ⟨e, _⟩ := cutB_some c _ _ _ h
 have hl : ((dt s).drop fr).length = s.size - fr := by rw [List.length_drop, dt_len]
 rw [e] at hl
 simp only [List.length_append, List.length_cons] at hl
 refine ⟨by omega, ?_, ?_⟩
 ·show (s.extract fr (fr + p.length)).data.toList = p
  rw [ByteArray.data_extract, Array.toList_extract, List.extract_eq_take_drop]
  show List.take (fr + p.length - fr) (List.drop fr (dt s)) = p
  rw [e, show fr + p.length - fr = p.length by omega]
  simp
 ·rw [Nat.add_assoc, <- List.drop_drop, e, show p ++ c :: q = (p ++ [c]) ++ q by simp, List.drop_append_of_le_length (by simp)]
  rw [List.drop_eq_nil_of_le (by simp), List.nil_append]
theorem no_setK {y : UInt8} (h : setK y = none) : (ByteArray.mk #[38, 124, 33]).data.toList.contains y = false := by
 unfold setK at h
 have h1 : y ≠ 38 := fun e => by rw [if_pos e] at h; cases h
 have h2 : y ≠ 124 := fun e => by rw [if_neg h1, if_pos e] at h; cases h
 have h3 : y ≠ 33 := fun e => by rw [if_neg h1, if_neg h2, if_pos e] at h; cases h
 show ([38, 124, 33] : List UInt8).contains y = false
 simp [h1, h2, h3]
theorem read_zero (s : ByteArray) (p : Nat) (w : World) (hs : s.size <= 900) (hp : p <= s.size) :
  Calls Tryz.prog 27 #[.string s, .int .i64 (p : Int), .int .i64 0] w (RdPst 0 s p w) := by
 have HR := H_ (show rdF 0 ((dt s).drop p) = none from rfl)
 obtain ⟨X, hX⟩ : ∃ X, X = w.alloc zfd.obj := ⟨_, rfl⟩
 have hXq : X.heap[w.heap.size]? = some (.cells zfd.cs 25 (0, 0)) := by rw [hX]; exact World.alloc_heap_new _ _
 have hXb : Below w.heap.size w X := by rw [hX]; exact (Below.refl _ _).alloc (Nat.le_refl _) _
 have hXc := hX.symm
 obtain ⟨⟨c0, c1, c2, c3, c4, c5⟩, g0, g1, g2, g3, g4, g5⟩ := box6 hXq
 dsimp only at c0 c1 c2 c3 c4 c5
 have HB := H_ hXb
 have HZ := H_ (Array.getElem?_eq_some_iff.1 hXq).1
 clear hX hXq hXb
 go_enter Tryz.func27, Tryz.ntmps27
 go_wp2
 refine bodyPost_ret (v := .tuple #[zfd.val, .int .i64 0, .bool false]) (by simp [results, Tryz.results27, go_sem, c0, c1, c2, c3, c4, c5]) rfl ?_
 exact ⟨(un HB).trans ((set6_but X w.heap.size zfd).below (Nat.le_refl _) (un HZ)), .inl ⟨zfd, 0, rfl, un HR⟩⟩
theorem read_short (k : Nat) (s : ByteArray) (p : Nat) (w : World) (hs : s.size <= 900) (hp : p <= s.size) (hk : k <= 9) (h : s.size <= p + 1) :
  Calls Tryz.prog 27 #[.string s, .int .i64 (p : Int), .int .i64 ((k + 1 : Nat) : Int)] w (RdPst (k + 1) s p w) := by
 have HR := H_ (rdF_short (k := k + 1) (l := (dt s).drop p) (by rw [List.length_drop, dt_len]; omega))
 have h1 : (s.size : Int) <= (p : Int) + 1 := by omega
 have h2 : ¬ ((k + 1 : Nat) : Int) < 1 := by omega
 have h3 : (p : Int) <= 900 := by omega
 rw [show ((k + 1 : Nat) : Int) = (k : Int) + 1 by omega] at h2 ⊢
 obtain ⟨X, hX⟩ : ∃ X, X = w.alloc zfd.obj := ⟨_, rfl⟩
 have hXq : X.heap[w.heap.size]? = some (.cells zfd.cs 25 (0, 0)) := by rw [hX]; exact World.alloc_heap_new _ _
 have hXb : Below w.heap.size w X := by rw [hX]; exact (Below.refl _ _).alloc (Nat.le_refl _) _
 have hXc := hX.symm
 obtain ⟨⟨c0, c1, c2, c3, c4, c5⟩, g0, g1, g2, g3, g4, g5⟩ := box6 hXq
 dsimp only at c0 c1 c2 c3 c4 c5
 have HB := H_ hXb
 have HZ := H_ (Array.getElem?_eq_some_iff.1 hXq).1
 clear hX hXq hXb
 clear hs hp hk h
 go_enter Tryz.func27, Tryz.ntmps27
 go_wp2
 refine bodyPost_ret (v := .tuple #[zfd.val, .int .i64 0, .bool false]) (by simp [results, Tryz.results27, go_sem, c0, c1, c2, c3, c4, c5]) rfl ?_
 exact ⟨(un HB).trans ((set6_but X w.heap.size zfd).below (Nat.le_refl _) (un HZ)), .inl ⟨zfd, 0, rfl, un HR⟩⟩
theorem read_head (k : Nat) (s : ByteArray) (p : Nat) (w : World) (hs : s.size <= 900) (hk : k <= 9) (hp : p + 1 < s.size) (h : s[p] ≠ 40) :
  Calls Tryz.prog 27 #[.string s, .int .i64 (p : Int), .int .i64 ((k + 1 : Nat) : Int)] w (RdPst (k + 1) s p w) := by
 have HR := H_ (rdF_head (k := k + 1) (l := (dt s).drop p) (by rw [head_dt (by omega)]; exact fun e => h (Option.some.inj e)))
 have h1 : ¬ (s.size : Int) <= (p : Int) + 1 := by omega
 have h2 : ¬ ((k + 1 : Nat) : Int) < 1 := by omega
 have h3 : (p : Int) <= 900 := by omega
 have h4 : (p : Int) < s.size := by omega
 have hb := E.beq_u8 s[p] 40 h
 rw [show (((40 : UInt8).toNat : Nat) : Int) = 40 from rfl] at hb
 have hbn : ((s[p].toNat : Int) != 40) = true := by rw [bne, hb]; rfl
 rw [show ((k + 1 : Nat) : Int) = (k : Int) + 1 by omega] at h2 ⊢
 obtain ⟨X, hX⟩ : ∃ X, X = w.alloc zfd.obj := ⟨_, rfl⟩
 have hXq : X.heap[w.heap.size]? = some (.cells zfd.cs 25 (0, 0)) := by rw [hX]; exact World.alloc_heap_new _ _
 have hXb : Below w.heap.size w X := by rw [hX]; exact (Below.refl _ _).alloc (Nat.le_refl _) _
 have hXc := hX.symm
 obtain ⟨⟨c0, c1, c2, c3, c4, c5⟩, g0, g1, g2, g3, g4, g5⟩ := box6 hXq
 dsimp only at c0 c1 c2 c3 c4 c5
 have HB := H_ hXb
 have HZ := H_ (Array.getElem?_eq_some_iff.1 hXq).1
 clear hX hXq hXb
 clear hs hk h hb
 go_enter Tryz.func27, Tryz.ntmps27
 go_wp2
 refine bodyPost_ret (v := .tuple #[zfd.val, .int .i64 0, .bool false]) (by simp [results, Tryz.results27, go_sem, c0, c1, c2, c3, c4, c5]) rfl ?_
 exact ⟨(un HB).trans ((set6_but X w.heap.size zfd).below (Nat.le_refl _) (un HZ)), .inl ⟨zfd, 0, rfl, un HR⟩⟩
theorem read_leaf_no (k : Nat) (s : ByteArray) (p : Nat) (w : World) (hs : s.size <= 900) (hk : k <= 9) (hp : p + 1 < s.size) (h : s[p] = 40) (hy : setK s[p + 1] = none) (hc : cutB 41 ((dt s).drop (p + 1)) = none) :
  Calls Tryz.prog 27 #[.string s, .int .i64 (p : Int), .int .i64 ((k + 1 : Nat) : Int)] w (RdPst (k + 1) s p w) := by
 have hl : (dt s).drop p = 40 :: s[p + 1] :: (dt s).drop (p + 2) := by rw [dt_at (by omega), h, dt_at hp]
 have HR := H_ (show rdF (k + 1) ((dt s).drop p) = none by rw [rdF_leaf hl hy, <- dt_at hp, hc])
 have HF := H_ fun W => refFind_any s 41 (p + 1) W (by omega) (by omega)
 rw [fnd_from_none hc, show ((p + 1 : Nat) : Int) = (p : Int) + 1 by omega] at HF
 have HA := H_ fun W => (E.among_any s[p + 1] ⟨#[38, 124, 33]⟩ W (by decide) : Calls Tryz.prog _ _ W _)
 rw [show (ByteArray.mk #[38, 124, 33]).data.toList.contains s[p + 1] = false from no_setK hy] at HA
 have h1 : ¬ (s.size : Int) <= (p : Int) + 1 := by omega
 have h2 : ¬ ((k + 1 : Nat) : Int) < 1 := by omega
 have h3 : (p : Int) <= 900 := by omega
 have h4 : (p : Int) < s.size := by omega
 have h5 : (p : Int) + 1 < s.size := by omega
 have h6 : (s.size : Int) <= 900 := by omega
 have hb40 : (s[p].toNat : Int) = 40 := by rw [h]; rfl
 rw [show ((k + 1 : Nat) : Int) = (k : Int) + 1 by omega] at h2 ⊢
 obtain ⟨X, hX⟩ : ∃ X, X = w.alloc zfd.obj := ⟨_, rfl⟩
 have hXq : X.heap[w.heap.size]? = some (.cells zfd.cs 25 (0, 0)) := by rw [hX]; exact World.alloc_heap_new _ _
 have hXb : Below w.heap.size w X := by rw [hX]; exact (Below.refl _ _).alloc (Nat.le_refl _) _
 have hXc := hX.symm
 obtain ⟨⟨c0, c1, c2, c3, c4, c5⟩, g0, g1, g2, g3, g4, g5⟩ := box6 hXq
 dsimp only at c0 c1 c2 c3 c4 c5
 have HB := H_ hXb
 have HZ := H_ (Array.getElem?_eq_some_iff.1 hXq).1
 clear hX hXq hXb
 clear hs hk h hy hl hc
 go_enter Tryz.func27, Tryz.ntmps27
 go_wp2_with fail
 refine ((un HA) _).mono ?_
 rintro e w1 ⟨rfl, hw1⟩
 rw [hw1]
 clear hw1 HA
 go_wp2_with fail
 refine ((un HF) _).mono ?_
 rintro e w1 ⟨rfl, hw1⟩
 rw [hw1]
 clear hw1 HF
 go_wp2
 refine bodyPost_ret (v := .tuple #[zfd.val, .int .i64 0, .bool false]) (by simp [results, Tryz.results27, go_sem, c0, c1, c2, c3, c4, c5]) rfl ?_
 exact ⟨(un HB).trans ((set6_but X w.heap.size zfd).below (Nat.le_refl _) (un HZ)), .inl ⟨zfd, 0, rfl, un HR⟩⟩
theorem read_leaf (k : Nat) (s : ByteArray) (p : Nat) (w : World) (hs : s.size <= 900) (hk : k <= 9) (hp : p + 1 < s.size) (h : s[p] = 40) (hy : setK s[p + 1] = none) {a q : List UInt8} (hc : cutB 41 ((dt s).drop (p + 1)) = some (a, q)) :
  Calls Tryz.prog 27 #[.string s, .int .i64 (p : Int), .int .i64 ((k + 1 : Nat) : Int)] w (RdPst (k + 1) s p w) := by
 have h1 : ¬ (s.size : Int) <= (p : Int) + 1 := by omega
 have h2 : ¬ ((k + 1 : Nat) : Int) < 1 := by omega
 have h3 : (p : Int) <= 900 := by omega
 have h4 : (p : Int) < s.size := by omega
 have h5 : (p : Int) + 1 < s.size := by omega
 have h6 : (s.size : Int) <= 900 := by omega
 have hb40 : (s[p].toNat : Int) = 40 := by rw [h]; rfl
 rw [show ((k + 1 : Nat) : Int) = (k : Int) + 1 by omega] at h2 ⊢
 have hl : (dt s).drop p = 40 :: s[p + 1] :: (dt s).drop (p + 2) := by rw [dt_at (by omega), h, dt_at hp]
 have hc2 : cutB 41 (s[p + 1] :: (dt s).drop (p + 2)) = some (a, q) := by rw [<- dt_at hp]; exact hc
 have HL := H_ (rdF_leaf (k := k) hl hy)
 have HG := H_ fun (G : Fl (k + 3)) hG => leaf_got (k := k) (G := G) hl hy hc2 hG
 have hno : (rdC a : Option (Fl (k + 3))) = none -> rdF (k + 1) ((dt s).drop p) = none := fun e => by rw [rdF_leaf hl hy, hc2]; simp only [e]
 have HNo := H_ hno
 obtain ⟨hm1, hm2, hm3⟩ := dt_mid (by omega) hc
 have HF := H_ fun W => refFind_any s 41 (p + 1) W (by omega) (by omega)
 rw [fnd_from hc, show ((p + 1 : Nat) : Int) = (p : Int) + 1 by omega] at HF
 obtain ⟨j, hj⟩ : ∃ j, p + 1 + a.length = j := ⟨_, rfl⟩
 rw [show (p : Int) + 1 + (a.length : Int) = (j : Int) by omega] at HF
 rw [hj] at hm1 hm2 hm3
 obtain ⟨A, hA⟩ : ∃ A, s.extract (p + 1) j = A := ⟨_, rfl⟩
 rw [hA] at hm2
 have HI := H_ fun W => refItem_any (k + 2) A W (by rw [<- hA, ByteArray.size_extract]; omega)
 rw [hm2] at HI
 have HA := H_ fun W => (E.among_any s[p + 1] ⟨#[38, 124, 33]⟩ W (by decide) : Calls Tryz.prog _ _ W _)
 rw [show (ByteArray.mk #[38, 124, 33]).data.toList.contains s[p + 1] = false from no_setK hy] at HA
 have hjp : (p : Int) + 1 <= (j : Int) := by omega
 have hjs : (j : Int) < s.size := by omega
 have HJ := H_ (And.intro (show p < j + 1 by omega) (show j + 1 <= s.size by omega))
 rw [<- hm3] at HG
 obtain ⟨X, hX⟩ : ∃ X, X = w.alloc zfd.obj := ⟨_, rfl⟩
 have hXq : X.heap[w.heap.size]? = some (.cells zfd.cs 25 (0, 0)) := by rw [hX]; exact World.alloc_heap_new _ _
 have hXb : Below w.heap.size w X := by rw [hX]; exact (Below.refl _ _).alloc (Nat.le_refl _) _
 have hXc := hX.symm
 obtain ⟨⟨c0, c1, c2, c3, c4, c5⟩, g0, g1, g2, g3, g4, g5⟩ := box6 hXq
 dsimp only at c0 c1 c2 c3 c4 c5
 have HB := H_ hXb
 have HZ := H_ (Array.getElem?_eq_some_iff.1 hXq).1
 have HQ := H_ hXq
 clear hX hXq hXb
 clear hs hk h hy hl hc hc2 hno hm1 hm2 hm3 hj
 go_enter Tryz.func27, Tryz.ntmps27
 go_wp2_with fail
 refine ((un HA) _).mono ?_
 rintro e w1 ⟨rfl, hw1⟩
 rw [hw1]
 clear hw1 HA
 go_wp2_with fail
 refine ((un HF) _).mono ?_
 rintro e w1 ⟨rfl, hw1⟩
 rw [hw1]
 clear hw1 HF
 go_wp2_with fail
 refine ((un HI) _).mono ?_
 rintro e w1 ⟨hb, hpost⟩
 clear HI hXc c0 c1 c2 c3 c4 c5 g0 g1 g2 g3 g4 g5
 have HQ1 := H_ ((hb.block _ (un HZ)).trans (un HQ))
 have HB1 := H_ ((un HB).trans (hb.mono (un HB).size))
 have HZ1 := H_ (Nat.lt_of_lt_of_le (un HZ) hb.size)
 have HXZ := HZ
 clear hb HB HQ HZ
 rcases hpost with ⟨⟨dk, da, dv, dsa, dsn, dsc, df, dla, dln, dlc⟩, rfl, hrd⟩ | ⟨⟨dk, da, dv, dsa, dsn, dsc, df, dla, dln, dlc⟩, G, rfl, hN, hG⟩
 ·have HR := H_ ((un HNo) hrd)
  obtain ⟨Y, hY⟩ : ∃ Y, Y = w1.alloc (Fd.obj ⟨dk, da, dv, dsa, dsn, dsc, df, dla, dln, dlc⟩) := ⟨_, rfl⟩
  have hYw : Below w1.heap.size w1 Y := by rw [hY]; exact (Below.refl w1.heap.size w1).alloc (Nat.le_refl _) _
  have hYq0 := (hYw.block _ (un HZ1)).trans (un HQ1)
  have hYq1 : Y.heap[w1.heap.size]? = some (.cells (Fd.cs ⟨dk, da, dv, dsa, dsn, dsc, df, dla, dln, dlc⟩) 25 (0, 0)) := by rw [hY]; exact World.alloc_heap_new _ _
  have HYb := H_ ((un HB1).trans (hYw.mono (un HB1).size))
  have HYz := H_ (Nat.lt_of_lt_of_le (un HZ1) hYw.size)
  have HYw := H_ hYw
  have hYc := hY.symm
  dsimp only [Fd.obj, Fd.cs] at hYc
  obtain ⟨⟨c0, c1, c2, c3, c4, c5⟩, g0, g1, g2, g3, g4, g5⟩ := box6 hYq0
  obtain ⟨⟨k0, k1, k2, k3, k4, k5⟩, l0, l1, l2, l3, l4, l5⟩ := box6 hYq1
  dsimp only at c0 c1 c2 c3 c4 c5 k0 k1 k2 k3 k4 k5
  clear hY hYw hYq0 hYq1 HQ1 HB1 HZ1
  go_wp2
  refine bodyPost_ret (v := .tuple #[Fd.val ⟨dk, da, dv, dsa, dsn, dsc, df, dla, dln, dlc⟩, .int .i64 ((j + 1 : Nat) : Int), .bool false]) (by simp [results, Tryz.results27, go_sem, c0, c1, c2, c3, c4, c5]) rfl ?_
  exact ⟨(un HYb).trans ((set6_but Y w.heap.size ⟨dk, da, dv, dsa, dsn, dsc, df, dla, dln, dlc⟩).below (Nat.le_refl _) (un HYz)), .inl ⟨_, _, rfl, un HR⟩⟩
 ·have HN := H_ hN
  have HR := H_ ((un HG) G hG)
  clear hN hG
  obtain ⟨Y, hY⟩ : ∃ Y, Y = w1.alloc (Fd.obj ⟨dk, da, dv, dsa, dsn, dsc, df, dla, dln, dlc⟩) := ⟨_, rfl⟩
  have hYw : Below w1.heap.size w1 Y := by rw [hY]; exact (Below.refl w1.heap.size w1).alloc (Nat.le_refl _) _
  have hYq0 := (hYw.block _ (un HZ1)).trans (un HQ1)
  have hYq1 : Y.heap[w1.heap.size]? = some (.cells (Fd.cs ⟨dk, da, dv, dsa, dsn, dsc, df, dla, dln, dlc⟩) 25 (0, 0)) := by rw [hY]; exact World.alloc_heap_new _ _
  have HYb := H_ ((un HB1).trans (hYw.mono (un HB1).size))
  have HYz := H_ (Nat.lt_of_lt_of_le (un HZ1) hYw.size)
  have HYw := H_ hYw
  have hYc := hY.symm
  dsimp only [Fd.obj, Fd.cs] at hYc
  obtain ⟨⟨c0, c1, c2, c3, c4, c5⟩, g0, g1, g2, g3, g4, g5⟩ := box6 hYq0
  obtain ⟨⟨k0, k1, k2, k3, k4, k5⟩, l0, l1, l2, l3, l4, l5⟩ := box6 hYq1
  dsimp only at c0 c1 c2 c3 c4 c5 k0 k1 k2 k3 k4 k5
  clear hY hYw hYq0 hYq1 HQ1 HB1 HZ1
  go_wp2
  refine bodyPost_ret (v := .tuple #[Fd.val ⟨dk, da, dv, dsa, dsn, dsc, df, dla, dln, dlc⟩, .int .i64 ((j + 1 : Nat) : Int), .bool true]) (by simp [results, Tryz.results27, go_sem, c0, c1, c2, c3, c4, c5]) rfl ?_
  have hb := set6_but Y w.heap.size ⟨dk, da, dv, dsa, dsn, dsc, df, dla, dln, dlc⟩
  refine ⟨(un HYb).trans (hb.below (Nat.le_refl _) (un HYz)), .inr ⟨_, G, j + 1, rfl, (un HJ).1, (un HJ).2, ?_, un HR⟩⟩
  exact (((un HN).below (un HYw)).of fun b h1 h2 => hb.block b h2 (by have := un HXZ; omega)).imp fun b h1 _ => by have := un HXZ; omega
end Go.Proofs.YtjhnblgamodekaaGreatDoor.F
