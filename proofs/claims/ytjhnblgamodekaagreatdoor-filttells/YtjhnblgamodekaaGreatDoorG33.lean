/- Several texts in one: FRd2, FRd3, FRd4, FRd5, FRd6. Each says what it proves, and its conditions. -/
import Derived.Test.YtjhnblgamodekaaGreatDoorG32
import Derived.Lib.SliceRun
set_option linter.unusedSimpArgs false
set_option maxHeartbeats 4000000
set_option maxRecDepth 100000
/-
 readValue, strings.Count at one byte, slices.Clone of texts, readPieces. Conditions: the package-level variables hold what the program's text lays; the bounds that each names.
-/
namespace Go.Proofs.YtjhnblgamodekaaGreatDoor.F
open Go Go.RowKit Go.Shelf Fp
open D (H_ un ext_list)
attribute [local go_sem] Oper.semAt_some
theorem rdV_is (s : ByteArray) : rdV s.data.toList = if (E.und false s).2 = 0 then some (E.und false s).1 else none := by
 unfold rdV
 rw [E.mk_data]
theorem rdV_small {t : List UInt8} {v : ByteArray} (h : rdV t = some v) : v.size <= t.length := by
 unfold rdV at h
 split at h
 ·rename_i h0
  cases h
  rcases E.und_cases false ⟨t.toArray⟩ with h1 | h1
  ·have := h1.2
   rw [show (⟨t.toArray⟩ : ByteArray).size = t.length by show t.toArray.size = _; simp] at this
   exact this
  ·rw [h1] at h0
   cases h0
 ·cases h
def ValPost (A : Ad) (o : Option ByteArray) (w : World) (e : Ending) (w' : World) : Prop := Below w.heap.size w w' /\ match o with
 | some v => e = .returned (.tuple #[.string v, .nilIface])
 | none => ∃ T x, e = .returned (.tuple #[.string ⟨#[]⟩, .iface T x]) /\ IsErr A (.iface T x)
theorem readValue_any (s : ByteArray) (A : Ad) (w : World) (g : Glob A w) (hs : s.size <= 1000) :
  Calls Tryz.prog 138 #[.string s] w (ValPost A (rdV s.data.toList) w) := by
 have H := H_ (E.readFilter_any s A.e w g.ge hs)
 rw [rdV_is]
 generalize E.und false s = r at *
 obtain ⟨v, j⟩ := r
 dsimp only at *
 clear hs g
 by_cases h0 : j = 0
 ·subst h0
  rw [if_pos rfl]
  go_enter Tryz.func138, Tryz.ntmps138
  go_wp2_with fail
  refine (un H).mono ?_
  rintro e w1 ⟨rfl, hb⟩
  have HB := H_ hb
  clear hb H
  go_wp2
  go_ret2
  exact ⟨un HB, rfl⟩
 ·rw [if_neg h0]
  have hb0 : (j == 0) = false := beq_eq_false_iff_ne.2 h0
  clear h0
  go_enter Tryz.func138, Tryz.ntmps138
  go_wp2_with fail
  refine (un H).mono ?_
  rintro e w1 ⟨rfl, hb⟩
  have HB := H_ hb
  clear hb H
  go_wp2
  go_ret2
  exact ⟨un HB, _, _, rfl, IsErr.nov A j⟩
theorem count_any (c : UInt8) (s : ByteArray) (w : World) :
  Calls Tryz.prog 139 #[.string s, .string ⟨#[c]⟩] w fun e w' => e = .returned (.int .i64 (s.data.toList.count c)) /\ w' = w := by
 have hx := @run_callFunc_extern Tryz.prog 151 _ Extern.BytealgCount.count Tryz.func151 (by kernel_rfl) (by kernel_rfl) (by kernel_rfl) (by kernel_rfl)
 have hr := fun w => Lib.run_countString (P := Tryz.prog) s c.toNat w
 rw [show (c.toNat : Int).toNat.toUInt8 = c by simp, show Lib.countByte s.data.toList c = s.data.toList.count c from rfl] at hr
 generalize s.data.toList.count c = n at *
 have hg : (⟨#[c]⟩ : ByteArray)[0]'(by show 0 < 1; decide) = c := rfl
 have hc1 : ((⟨#[c]⟩ : ByteArray).size : Int) = 1 := rfl
 go_enter Tryz.func139, Tryz.ntmps139
 go_wp2
 go_ret
 exact ⟨rfl, rfl⟩
theorem cloneS_any (b off c : Nat) (xs : List ByteArray) (w : World) (hbig : xs.length <= 10000) (hc : ∀ (j : Nat) x, xs[j]? = some x -> w.cell? ⟨b, off + j, none⟩ = some (.string x)) :
  Calls Tryz.prog 152 #[.slice (some ⟨b, off, none⟩) xs.length c] w fun e w' => ∃ v', e = .returned v' /\ w'.ownsRow w.heap.size 9 1 v' xs.length (strs xs) /\ Below w.heap.size w w' := by
 obtain ⟨i0, hi, hz0, hz1, hz2⟩ := infoS
 have q22 : ∀ (w : World) (a : Option Addr) (n c n' c' : Nat), (binOp .eql 22 (.slice a n c) (.slice none n' c')).run Tryz.prog w = .ok (.bool a.isNone) w := fun w a n c n' c' => Lib.run_eql_slice_nil w _ _ a n c n' c' Tryz.underlying22
 have HC := H_ hc
 clear hc
 go_enter Tryz.func152, Tryz.ntmps152
 go_wp2_with (at_builtin; refine wpList_append_own _ rfl _ _ 22 rfl w.heap.size 9 i0 (.string ⟨#[]⟩) 1 16 Tryz.underlying22 hi hz0 hz1 hz2 rfl (by decide) _ _ _ rfl (World.ownsRow_made w #[] 0 (Nat.le_refl _) (Nat.zero_le _) rfl) ⟨b, off, none⟩ xs.length c (strs xs) rfl ?qc1 ?qc2 ?qc3 ?qc4 ?qc5 ?qc6 ?_)
 case qc1 => simp
 case qc2 =>
  intro j u hj
  rw [Addr.add_lit]
  refine Lib.cell?_alloc_some _ ?_
  rw [List.getElem?_map, Option.map_eq_some_iff] at hj
  obtain ⟨x, h1, rfl⟩ := hj
  exact un HC j x h1
 case qc3 => intro u hu; obtain ⟨x, _, rfl⟩ := List.mem_map.1 hu; rfl
 case qc4 => unfold maxLen; omega
 case qc5 => omega
 case qc6 => simp
 intro v' w1 hown hgrow hnil
 go_wp2
 go_ret
 refine ⟨v', rfl, by simpa using hown, ?_⟩
 exact ((Below.refl _ w).alloc (Nat.le_refl _) _).grown hgrow (by simp) (by intro k hk; simp [Value.ownBlock] at hk; omega)
abbrev set6 (W : World) (b : Nat) (d : Fd) : World := (((((W.setCell ⟨b, 0, none⟩ (.int .i64 d.k)).setCell ⟨b, 1, none⟩ (.string d.a)).setCell ⟨b, 2, none⟩ (.string d.v)).setCell ⟨b, 3, none⟩ (.slice d.sa d.sn d.sc)).setCell ⟨b, 4, none⟩ (.string d.f)).setCell ⟨b, 5, none⟩ (.slice d.la d.ln d.lc)
theorem set6_blk {W : World} {b : Nat} {c : Fd} {T : TypeId} (h : W.heap[b]? = some (.cells c.cs T (0, 0))) (d : Fd) : (set6 W b d).heap[b]? = some (.cells d.cs T (0, 0)) :=
 heap_set _ b 5 _ _ _ (heap_set _ b 4 _ _ _ (heap_set _ b 3 _ _ _ (heap_set _ b 2 _ _ _ (heap_set _ b 1 _ _ _ (heap_set W b 0 _ _ _ h)))))
theorem set6_but (W : World) (b : Nat) (d : Fd) : But b W (set6 W b d) := ((((((But.refl b W).setCell 0 _).setCell 1 _).setCell 2 _).setCell 3 _).setCell 4 _).setCell 5 _
theorem box6 {W : World} {b : Nat} {d : Fd} {T : TypeId} (h : W.heap[b]? = some (.cells d.cs T (0, 0))) :
  (W.cell? ⟨b, 0, none⟩ = some (.int .i64 d.k) /\ W.cell? ⟨b, 1, none⟩ = some (.string d.a) /\ W.cell? ⟨b, 2, none⟩ = some (.string d.v) /\ W.cell? ⟨b, 3, none⟩ = some (.slice d.sa d.sn d.sc) /\ W.cell? ⟨b, 4, none⟩ = some (.string d.f) /\ W.cell? ⟨b, 5, none⟩ = some (.slice d.la d.ln d.lc)) /\
  (W.frozen? ⟨b, 0, none⟩ = false /\ W.frozen? ⟨b, 1, none⟩ = false /\ W.frozen? ⟨b, 2, none⟩ = false /\ W.frozen? ⟨b, 3, none⟩ = false /\ W.frozen? ⟨b, 4, none⟩ = false /\ W.frozen? ⟨b, 5, none⟩ = false) := by
 refine ⟨⟨?_, ?_, ?_, ?_, ?_, ?_⟩, ?_, ?_, ?_, ?_, ?_, ?_⟩ <;> simp [World.cell?, World.frozen?, h]
theorem box1 {W : World} {b : Nat} {v : Value} {T : TypeId} (h : W.heap[b]? = some (.cells #[v] T (0, 0))) : W.cell? ⟨b, 0, none⟩ = some v /\ W.frozen? ⟨b, 0, none⟩ = false := by
 constructor <;> simp [World.cell?, World.frozen?, h]
end Go.Proofs.YtjhnblgamodekaaGreatDoor.F
/-
 readPieces. Conditions: the package-level variables hold what the program's text lays; each piece has at most 1000 bytes, and there are 2 to 100.
-/
namespace Go.Proofs.YtjhnblgamodekaaGreatDoor.F
open Go Go.RowKit Go.Shelf Fp
open Dp (mp)
open D (H_ un ext_list)
attribute [local go_sem] Oper.semAt_some
structure Pin (w : World) (vals : List ByteArray) (v : Value) (W : World) : Prop where
 b0 : W.heap[w.heap.size]? = some (.cells zfd.cs 25 (0, 0))
 b1 : W.heap[w.heap.size + 1]? = some (.cells #[.nilIface] 42 (0, 0))
 nin : Nin w (w.heap.size + 2) (w.heap.size + 8) vals v W
theorem Pin.but {w : World} {vals : List ByteArray} {v : Value} {W V : World} {l : Nat} (h : Pin w vals v W) (hb : But l W V) (h1 : w.heap.size + 2 < l) (h2 : l < w.heap.size + 8) : Pin w vals v V :=
 ⟨(hb.block _ (Array.getElem?_eq_some_iff.1 h.b0).1 (by omega)).trans h.b0, (hb.block _ (Array.getElem?_eq_some_iff.1 h.b1).1 (by omega)).trans h.b1, h.nin.but hb h1 h2⟩
theorem Pin.below {w : World} {vals : List ByteArray} {v : Value} {W V : World} (h : Pin w vals v W) (hb : Below W.heap.size W V) : Pin w vals v V :=
 ⟨(hb.block _ (Array.getElem?_eq_some_iff.1 h.b0).1).trans h.b0, (hb.block _ (Array.getElem?_eq_some_iff.1 h.b1).1).trans h.b1, h.nin.below hb⟩
def Kq (n : Nat) (A B : World) : Prop := Kpt (fun k => n + 3 <= k /\ k < n + 6) A B /\ Two (n + 6) (n + 6 + 1) A B
theorem Kq.trans {n : Nat} {A B C : World} (h : Kq n A B) (k : Kq n B C) : Kq n A C := ⟨h.1.trans k.1, h.2.trans k.2⟩
theorem Kq.below {n : Nat} {A B : World} (h : Below A.heap.size A B) (hz : n + 8 <= A.heap.size) : Kq n A B := ⟨Kpt.of_below h, h.block _ (by omega), h.block _ (by omega)⟩
theorem Pin.app {w : World} {vals : List ByteArray} {v v' : Value} {x : ByteArray} {W V : World} (h : Pin w vals v W) (hown : V.ownsRow (w.heap.size + 8) 9 1 v' (vals.length + 1) (strs vals ++ [.string x])) (hg : W.grownBy V v.ownBlock) (hz : w.heap.size + 8 <= W.heap.size) :
  Pin w (vals ++ [x]) v' (V.setCell ⟨w.heap.size + 2, 0, none⟩ v') /\ Kq w.heap.size W (V.setCell ⟨w.heap.size + 2, 0, none⟩ v') /\ V.cell? ⟨w.heap.size + 2, 0, none⟩ = some v /\ V.frozen? ⟨w.heap.size + 2, 0, none⟩ = false := by
 obtain ⟨h1, h2, h3, h4⟩ := Nin.app (D := w.heap.size + 6) h.nin (by omega) hown hg hz
 have hrow : ∀ k, v.ownBlock = some k -> w.heap.size + 8 <= k := fun k e => (h.nin.own.lt k e).1
 have hk : ∀ k, k < w.heap.size + 8 -> k ≠ w.heap.size + 2 -> (V.setCell ⟨w.heap.size + 2, 0, none⟩ v').heap[k]? = W.heap[k]? := fun k hl hn =>
  (Below.heap_setCell _ _ _ _ hn).trans (hg.block k (by omega) (fun e => by have := hrow k e.symm; omega))
 refine ⟨⟨(hk _ (by omega) (by omega)).trans h.b0, (hk _ (by omega) (by omega)).trans h.b1, h1⟩, ⟨⟨h2.1.1, fun k hs _ => hk k (by omega) (by omega)⟩, h2.2⟩, h3, h4⟩
theorem spb_map (c : UInt8) (s : ByteArray) : (spb c s).map (fun x => x.data.toList) = spl c s.data.toList := by
 unfold spb
 rw [List.map_map]
 conv => rhs; rw [<- List.map_id (spl c s.data.toList)]
 refine List.map_congr_left fun l _ => ?_
 show l.toArray.toList = l
 simp
theorem spb_small {s : ByteArray} (hP : ∀ l ∈ spl 42 s.data.toList, l.length <= 1000) {q : List ByteArray} {x : ByteArray} (h : q ++ [x] <+: spb 42 s) : x.size <= 1000 := by
 have h1 := hP x.data.toList (spb_mem x (h.subset (by simp))).2
 rwa [E.len_toList] at h1
theorem mps {α : Type} (f : List UInt8 -> Option α) (xs : List (List UInt8)) (y : List UInt8) (l : List α) (h : mp f xs = some l) : mp f (xs ++ [y]) = (f y).map fun a => l ++ [a] := by
 rw [Dp.mp_app, h, mp, mp]
 cases f y <;> rfl
theorem mpb {α : Type} (f : List UInt8 -> Option α) (xs ys : List (List UInt8)) (y : List UInt8) (h : f y = none) : mp f (xs ++ [y] ++ ys) = none := by
 rw [Dp.mp_app, Dp.mp_app, mp, mp, h]
 cases mp f xs <;> rfl
def PcsPost (A : Ad) (o : Option (List ByteArray)) (w : World) (e : Ending) (w' : World) : Prop := Below w.heap.size w w' /\ match o with
 | some l => ∃ sa sc, e = .returned (.tuple #[Fd.val ⟨4, ⟨#[]⟩, l.headD ⟨#[]⟩, sa, l.tail.dropLast.length, sc, l.getLastD ⟨#[]⟩, none, 0, 0⟩, .nilIface]) /\ Strs w' (fun b => w.heap.size <= b) sa l.tail.dropLast
 | none => ∃ T x, e = .returned (.tuple #[zfd.val, .iface T x]) /\ IsErr A (.iface T x)
theorem own_strs {W : World} {base n : Nat} {v : Value} {xs : List ByteArray} (h : W.ownsRow base 9 1 v n (strs xs)) (hn : xs.length = n) : ∃ sa sc, v = .slice sa n sc /\ Strs W (fun b => base <= b) sa xs := by
 cases xs with
 | nil =>
  rcases h.2 with ⟨h1, h2⟩ | ⟨g, cap, cur, h1, _⟩
  ·exact ⟨none, 0, by rw [h1, h2], .inl rfl⟩
  ·exact ⟨_, _, h1, .inl rfl⟩
 | cons y ys =>
  obtain ⟨g, cap, rfl, h1, _⟩ := h.form (by rw [<- hn]; simp)
  exact ⟨_, _, rfl, .inr ⟨g, 0, rfl, h1, (own_cells _ h).1⟩⟩
theorem finP {w V : World} {D : Nat} {tmps : Array Value} {d : Fd} {u : Value} {R : Ending -> World -> Prop} (hV : V.heap[D]? = some (.deferred (some []))) (hD : w.heap.size + 2 <= D)
  (h0 : V.heap[w.heap.size]? = some (.cells d.cs 25 (0, 0))) (h1 : V.heap[w.heap.size + 1]? = some (.cells #[u] 42 (0, 0)))
  (t2 : tmps.getD 2 undef = .pointer (some ⟨w.heap.size, 0, none⟩)) (t3 : tmps.getD 3 undef = .pointer (some ⟨w.heap.size + 1, 0, none⟩)) (hp : R (.returned (.tuple #[d.val, u])) (V.putObj D (.deferred none))) :
  bodyPostM Fence.wide 7 Tryz.prog Tryz.f140 R Exit.ret { tmps, defers := [{ target := .collected D, args := #[] }] } V := by
 refine ⟨by simp, .inl ⟨_, _, rfl, run_takeDeferred hV, ?_⟩⟩
 refine ⟨.tuple #[d.val, u], ?_, hp⟩
 obtain ⟨⟨c0, c1, c2, c3, c4, c5⟩, _⟩ := box6 (W := V.putObj D (.deferred none)) ((World.putObj_heap_other (by omega)).trans h0)
 have c6 := (box1 (W := V.putObj D (.deferred none)) ((World.putObj_heap_other (by omega)).trans h1)).1
 have t2' : tmps[2]?.getD undef = .pointer (some ⟨w.heap.size, 0, none⟩) := by simpa using t2
 have t3' : tmps[3]?.getD undef = .pointer (some ⟨w.heap.size + 1, 0, none⟩) := by simpa using t3
 simp [results, Tryz.results140, go_sem, t2', t3', c0, c1, c2, c3, c4, c5, c6]
theorem readPieces_any (s : ByteArray) (A : Ad) (w : World) (g : Glob A w) (hs : s.size <= 100000000) (hP : ∀ l ∈ spl 42 s.data.toList, l.length <= 1000) (h2 : 2 <= (spl 42 s.data.toList).length) (h9 : (spl 42 s.data.toList).length <= 100) :
  Calls Tryz.prog 140 #[.string s] w (PcsPost A (mp rdV (spl 42 s.data.toList)) w) := by
 obtain ⟨V, hV⟩ : ∃ V, V = ((w.alloc (.cells zfd.cs 25)).alloc (.cells #[.nilIface] 42)).alloc (.cells #[.slice none 0 0] 22) := ⟨_, rfl⟩
 have hVz : V.heap.size = w.heap.size + 3 := by rw [hV]; simp
 have hVb : Below w.heap.size w V := by rw [hV]; exact (((Below.refl _ _).alloc (Nat.le_refl _) _).alloc (by simp) _).alloc (by simp; omega) _
 have hV0 : V.heap[w.heap.size]? = some (.cells zfd.cs 25 (0, 0)) := by
  rw [hV, Below.heap_alloc _ _ _ (by simp; omega), Below.heap_alloc _ _ _ (by simp)]; exact World.alloc_heap_new _ _
 have hV1 : V.heap[w.heap.size + 1]? = some (.cells #[.nilIface] 42 (0, 0)) := by
  rw [hV, Below.heap_alloc _ _ _ (by simp)]; have := World.alloc_heap_new (w.alloc (.cells zfd.cs 25)) (.cells #[.nilIface] 42); rwa [World.size_alloc] at this
 have hV2 : V.heap[w.heap.size + 2]? = some (.cells #[.slice none 0 0] 22 (0, 0)) := by
  rw [hV]; have := World.alloc_heap_new ((w.alloc (.cells zfd.cs 25)).alloc (.cells #[.nilIface] 42)) (.cells #[.slice none 0 0] 22); rwa [World.size_alloc, World.size_alloc] at this
 have HSp := splitSeq_any 42 s V
 rw [hVz] at HSp
 have HSp := H_ HSp
 have HVw := H_ hV
 have HVx := H_ (And.intro hVb (And.intro hV0 (And.intro hV1 hV2)))
 have Hg := H_ g
 have HP := H_ hP
 have HL := H_ (And.intro h2 h9)
 clear hV hVb hV0 hV1 hV2 g hP h2 h9
 refine (callsIn_wide (n := 7)).1 ?_
 refine callsIn_of_wp_marks Tryz.func140 rfl trivial ?_ rfl
 simp only [Tryz.ntmps140, List.size_toArray, List.length_cons, List.length_nil, Nat.reduceAdd, Nat.reduceSub, Array.replicate_succ, Array.replicate_zero, List.push_toArray, List.append_toArray, List.nil_append, List.cons_append]
 refine wpIn_wide.2 ?_
 go_wp2_with fail
 rw [<- un HVw]
 refine (un HSp).mono ?_
 rintro e W0 ⟨rfl, hbw, hz, hB3⟩
 rw [<- hVz] at hbw
 have hB0 := (un HVx).1.trans (hbw.mono (by omega))
 have hI0 : Pin w [] (.slice none 0 0) W0 := by
  obtain ⟨h1, h2, h3, h4⟩ := un HVx
  exact ⟨(hbw.block _ (by omega)).trans h2, (hbw.block _ (by omega)).trans h3, ⟨(hbw.block _ (by omega)).trans h4, World.ownsRow_nil _ _ _ _, hB0, ⟨by omega, by omega⟩, by omega⟩⟩
 clear HSp hbw HVw HVx hVz
 replace hz : W0.heap.size = w.heap.size + 6 := by omega
 go_wp2
 refine (wpIn_wide (n := 7)).1 ?_
 refine range_own (α := ByteArray) (σ := List ByteArray) (gf := 129) (lb := #[.pointer (some ⟨w.heap.size + 3 + 1, 0, none⟩), .pointer (some ⟨w.heap.size + 3, 0, none⟩), .pointer (some ⟨w.heap.size + 3 + 1 + 1, 0, none⟩)]) rfl (enters_of Tryz.func129 (by kernel_rfl) rfl)
  (fun x => #[.string x]) (fun _ => rfl) (Kpt fun k => w.heap.size + 3 <= k /\ k < w.heap.size + 6) (But (w.heap.size + 3))
  (fun q W => ∃ vals v, mp rdV (q.map fun x => x.data.toList) = some vals /\ Pin w vals v W)
  (fun cd _ W => cd = .ret /\ ∃ T x, IsErr A (.iface T x) /\ W.heap[w.heap.size]? = some (.cells zfd.cs 25 (0, 0)) /\ W.heap[w.heap.size + 1]? = some (.cells #[.iface T x] 42 (0, 0)) /\ Below w.heap.size w W)
  (fun q x _ => q ++ [x] <+: spb 42 s) (fun q x => q ++ [x]) [] (fun q _ => q = spb 42 s) (fun _ => mp rdV (spl 42 s.data.toList) = none) (fun _ _ => True) (fun _ x => rdV x.data.toList = none)
  (fun _ B => B) (fun x _ => { tmps := #[.string s, undef, .pointer (some ⟨w.heap.size, 0, none⟩), .pointer (some ⟨w.heap.size + 1, 0, none⟩), .pointer (some ⟨w.heap.size + 1 + 1, 0, none⟩), .string x, undef, undef, undef, .string s, .func (.func 129) #[] #[.pointer (some ⟨w.heap.size + 3 + 1, 0, none⟩), .pointer (some ⟨w.heap.size + 3, 0, none⟩), .pointer (some ⟨w.heap.size + 3 + 1 + 1, 0, none⟩)], .string x, undef, undef, undef, undef, undef, undef, undef, undef, undef, undef, undef, undef, undef, undef, undef, undef, undef, undef, undef, undef, undef, undef, undef, undef, undef, undef, undef, undef], defers := [] }) (fun _ _ => Below.refl _ _)
  Kpt.trans ?_ ?_ ?_ ?_ ?_ (fun _ _ _ _ _ h => h) (fun _ _ _ _ h => h) ⟨[], _, rfl, hI0⟩ ?iter ?assign ?body ?done ?stop
 ·intro X Y hb
  rw [hz] at hb
  exact Kpt.of_but hb (by omega)
 ·intro X Y hb hsz
  rw [hz] at hsz ⊢
  exact ⟨hb.block _ (by omega) (by omega), hb.block _ (by omega) (by omega)⟩
 ·rintro _ X Y hb ⟨vals, v, h1, h2⟩
  rw [hz] at hb
  exact ⟨vals, v, h1, h2.but hb (by omega) (by omega)⟩
 ·rintro _ X Y hb _ ⟨vals, v, h1, h2⟩
  exact ⟨vals, v, h1, h2.but hb (by omega) (by omega)⟩
 ·rintro _ _ X Y hb ⟨h1, T, x, h2, h3, h4, h5⟩
  rw [hz] at hb
  exact ⟨h1, T, x, h2, (hb.block _ (Array.getElem?_eq_some_iff.1 h3).1 (by omega)).trans h3, (hb.block _ (Array.getElem?_eq_some_iff.1 h4).1 (by omega)).trans h4, below_but h5 hb (Nat.le_refl _) (by omega)⟩
 case iter =>
  intro W hbW hzW J Jx hJ hJI hY h0
  rw [hz] at hbW hzW hY ⊢
  refine (split1_any 42 s (w.heap.size + 3) (w.heap.size + 6 + 1) hs (fun _ _ => True) (fun _ x => rdV x.data.toList = none) J Jx (fun q A A' hb h => hJ q A A' hb h) (fun q x W' m hj hp => (hY q x W' m hj hp).mono ?_) W h0 (hB3.kept (Kpt.of_but hbW (by omega)))).mono ?_
  ·rintro e W2 (⟨h1, h2, h3, h4⟩ | ⟨h1, h2, h3⟩)
   ·exact .inl ⟨h1, h2, h3, h4⟩
   ·exact .inr ⟨h1, h2, h3⟩
  ·rintro e W' ⟨h1, ⟨h2, h3⟩ | ⟨q, x, h2, h3, h4⟩⟩
   ·exact ⟨h1, .inl ⟨_, rfl, h3⟩⟩
   ·refine ⟨h1, .inr ⟨_, ?_, h4⟩⟩
    obtain ⟨t, e⟩ := h2
    rw [<- spb_map, <- e, List.map_append, List.map_append]
    exact mpb _ _ _ _ h3
 case assign =>
  intro q x W K _ _ hK
  gi_wp2
  exact hK
 case body =>
  rintro q x B W ⟨vals, v, hmp, hI⟩ hp hB hbb _
  go_light
  rw [hz] at hB hbb ⊢
  have hx := spb_small (un HP) hp
  have hlen : vals.length < 100 := by
   have h1 := Dp.mp_len rdV _ _ hmp
   have h2 := hp.length_le
   rw [List.length_map] at h1
   have h3 : (spb 42 s).length = (spl 42 s.data.toList).length := by unfold spb; rw [List.length_map]
   rw [List.length_append, h3] at h2
   have h4 := (un HL).2
   simp only [List.length_singleton] at h2
   omega
  have HR := readValue_any x A W ((un Hg).below (Nat.le_refl _) hI.nin.bel) hx
  have hsz : w.heap.size + 8 <= W.heap.size := by have := hbb.size; omega
  have HI := H_ hI
  cases hr : rdV x.data.toList with
  | none =>
   rw [hr] at HR
   have HR := H_ HR
   clear hI hp hB hbb hB3 hI0 hmp hx hr hlen
   gi_wp2_with fail
   refine ⟨trivial, (E.inR (un HR)).mono ?_⟩
   rintro e w' ⟨hb, T, y, rfl, hE⟩
   have hI2 := (un HI).below hb
   have HI2 := H_ hI2
   have HE := H_ hE
   have HB := H_ hb
   obtain ⟨⟨c0, c1, c2, c3, c4, c5⟩, f0, f1, f2, f3, f4, f5⟩ := box6 hI2.b0
   dsimp only at c0 c1 c2 c3 c4 c5
   obtain ⟨c6, f6⟩ := box1 hI2.b1
   clear hI2 hE hb HR
   gi_wp2
   have hb5 := set6_but w' w.heap.size zfd
   have h5 := set6_blk (un HI2).b0 zfd
   have h6 := (hb5.block _ (Array.getElem?_eq_some_iff.1 (un HI2).b1).1 (by omega)).trans (un HI2).b1
   have hbel := below_but (un HI2).nin.bel hb5 (Nat.le_refl _) (Nat.le_refl _)
   have hb := un HB
   have hbs := hb.size
   have far : ∀ k, w.heap.size + 2 <= k -> k < w.heap.size + 8 -> ((set6 w' w.heap.size zfd).setCell ⟨w.heap.size + 1, 0, none⟩ (.iface T y)).heap[k]? = W.heap[k]? := fun k h7 h8 =>
    (Below.heap_setCell _ _ _ _ (by show k ≠ w.heap.size + 1; omega)).trans ((hb5.block k (by omega) (by omega)).trans (hb.block k (by omega)))
   exact ⟨trivial, ⟨far _ (by omega) (by omega), far _ (by omega) (by omega)⟩, rfl, T, y, un HE, (Below.heap_setCell _ _ _ _ (by show w.heap.size ≠ w.heap.size + 1; omega)).trans h5, heap_set _ _ 0 _ _ _ h6, hbel.setCell (p := ⟨w.heap.size + 1, 0, none⟩) (by show w.heap.size <= w.heap.size + 1; omega) _⟩
  | some u =>
   rw [hr] at HR
   have HR := H_ HR
   have Hmp2 : Hid (mp rdV ((q ++ [x]).map fun x => x.data.toList) = some (vals ++ [u])) := H_ (by rw [List.map_append, List.map_cons, List.map_nil, mps _ _ _ _ hmp, hr]; rfl)
   clear hI hp hB hbb hB3 hI0 hmp hx hr
   obtain ⟨i0, hi0, hz0, hz1, hz2⟩ := infoS
   gi_wp2_with fail
   refine ⟨trivial, (E.inR (un HR)).mono ?_⟩
   rintro e w' ⟨hb, rfl⟩
   have hI2 := (un HI).below hb
   have HKb := H_ (Kq.below hb hsz)
   have hsz2 := Nat.le_trans hsz hb.size
   obtain ⟨c2, f2⟩ := hI2.nin.cl
   have HI2 := H_ hI2
   have HI3 := H_ (hI2.below ((Below.refl _ _).alloc (Nat.le_refl _) (.cells #[.string u] 9)))
   have HKc := H_ (Kq.below ((Below.refl w'.heap.size w').alloc (Nat.le_refl _) (.cells #[.string u] 9)) hsz2)
   have c3 : (w'.alloc (.cells #[.string u] 9)).cell? ⟨w.heap.size + 2, 0, none⟩ = some v := (un HI3).nin.cl.1
   clear hI2 hb HR
   gi_wp2_with (first
    | (gi_at_builtin; refine wpListIn_append_own _ rfl (.tmp 21) (.tmp 23) 22 rfl (w.heap.size + 8) 9 i0 (.string ⟨#[]⟩) 1 16 Tryz.underlying22 hi0 hz0 hz1 hz2 rfl (by omega) v vals.length _ rfl (un HI3).nin.own ⟨w'.heap.size, 0, none⟩ 1 1 [.string u] rfl rfl (cells_new w' _ _) (by simp [Value.oneCell']) (by unfold maxLen; omega) (by omega) (by simp; omega) ?_; intro v' w2 hown hgrow _; obtain ⟨g', cap', rfl, _⟩ := hown.form (by omega); obtain ⟨p1, p2, d1, d2⟩ := (un HI3).app hown hgrow (by simp; omega); have HQ := H_ p1; have HKT := H_ (((un HKb).trans (un HKc)).trans p2); clear hown hgrow p1 p2)
    | gi_in)
   exact ⟨trivial, (un HKT).2, (un HKT).1, _, _, un Hmp2, un HQ⟩
 case done =>
  rintro q W rfl ⟨vals, v, hmp, hI⟩ hK
  rw [spb_map] at hmp
  rw [hz] at hK ⊢
  have HMp := H_ hmp
  have hvl : vals.length = (spl 42 s.data.toList).length := Dp.mp_len rdV _ _ hmp
  obtain ⟨hl2, hl9⟩ := un HL
  rw [<- hvl] at hl2 hl9
  obtain ⟨k, hk⟩ : ∃ k, vals.length = k + 2 := ⟨vals.length - 2, by omega⟩
  obtain ⟨g0, cap, rfl, hcs⟩ := hI.nin.own.form (by omega)
  obtain ⟨hcl, hg0, hcap⟩ := own_cells vals hI.nin.own
  have c2 := hI.nin.cl.1
  rw [hk] at c2 hcap
  obtain ⟨x0, hx0⟩ : ∃ x0, vals[0]? = some x0 := ⟨_, List.getElem?_eq_getElem (by omega)⟩
  obtain ⟨x1, hx1⟩ : ∃ x1, vals[k + 1]? = some x1 := ⟨_, List.getElem?_eq_getElem (by omega)⟩
  have d0 := hcl 0 x0 hx0
  have d1 := hcl (k + 1) x1 hx1
  rw [Nat.zero_add] at d1
  obtain ⟨mid, hmid⟩ : ∃ mid, mid = vals.tail.dropLast := ⟨_, rfl⟩
  have hml : mid.length = k := by rw [hmid]; simp; omega
  have hmc : ∀ V : World, (∀ b, b < W.heap.size -> V.heap[b]? = W.heap[b]?) -> ∀ (j : Nat) x, mid[j]? = some x -> V.cell? ⟨g0, 1 + j, none⟩ = some (.string x) := fun V hV j x hj => by
   have h1 : j < mid.length := (List.getElem?_eq_some_iff.1 hj).1
   have : vals[1 + j]? = some x := by
    rw [<- hj, hmid, List.getElem?_dropLast, if_pos (by rw [List.length_tail]; omega), List.getElem?_tail, Nat.add_comm]
   have h2 := hcl (1 + j) x this
   rw [Nat.zero_add] at h2
   exact (World.cell?_of_block (w := W) (a := ⟨g0, 1 + j, none⟩) (hV g0 hg0)).trans h2
  have HC := H_ fun (V : World) cp (hV : ∀ b, b < W.heap.size -> V.heap[b]? = W.heap[b]?) => cloneS_any g0 1 cp mid V (by omega) (hmc V hV)
  rw [hml] at HC
  have HK := H_ hK
  have HI := H_ hI
  have HM := H_ (And.intro hk (And.intro hx0 (And.intro hx1 (And.intro hmid hml))))
  have hk9 : (k : Int) <= 100 := by omega
  have hcap2 : (k : Int) + 2 <= cap := by omega
  clear hK hI hI0 hB3 hmp hvl HL hcl hmc hk hx0 hx1 hmid hml hl2 hl9 hcap
  go_wp2_with fail
  rw [show (k : Int) + 2 - 1 = (k : Int) + 1 by omega]
  refine wp_mono (Q := fun e a1 V => match e with | .normal => a1.defers = [{ target := .collected (w.heap.size + 6), args := #[] }] /\ a1.tmps.getD 2 undef = .pointer (some ⟨w.heap.size, 0, none⟩) /\ a1.tmps.getD 3 undef = .pointer (some ⟨w.heap.size + 1, 0, none⟩) /\ ∃ sa sc w3, Below W.heap.size W w3 /\ V = (set6 w3 w.heap.size ⟨4, ⟨#[]⟩, x0, sa, k, sc, x1, none, 0, 0⟩).setCell ⟨w.heap.size + 1, 0, none⟩ .nilIface /\ Strs w3 (fun b => W.heap.size <= b) sa mid | _ => False) ?_ ?_
  ·refine wp_region_held_drew (S := fun w' => w'.cell? ⟨w.heap.size + 2, 0, none⟩ = some (.slice (some ⟨g0, 0, none⟩) (k + 2) cap) /\ w'.cell? ⟨g0, 0, none⟩ = some (.string x0) /\ w'.cell? ⟨g0, k + 1, none⟩ = some (.string x1)) (by kernel_rfl) ⟨c2, d0, d1⟩ ?_
   intro hS0
   have l1 : (0 : Int) <= (k : Int) + 1 := by omega
   have l2 : (k : Int) + 1 <= cap := by omega
   have l3 : (1 : Int) <= (k : Int) + 1 := by omega
   have l4 : (k : Int) + 1 < (k : Int) + 2 := by omega
   have HD := H_ (And.intro d0 d1)
   obtain ⟨V, hVW⟩ : ∃ V, V = W.drew := ⟨_, rfl⟩
   rw [<- hVW] at hS0 ⊢
   replace hVW := H_ hVW
   clear c2 d0 d1
   change wpAnyH _ _ _ _ _ 14 #[false, false, false, false, false, false, false, false, false, false, false, false, false, false] _ V
   refine tkk 0 (.slice (some ⟨g0, 0, none⟩) (k + 2) cap) rfl (by rintro w1 ⟨s2, s0, s1⟩; go_simp; all_goals first | rfl | omega | (intro _; exfalso; omega)) hS0 ?_
   simp only [Act.put, nrm]
   refine tkk 1 (.pointer (some ⟨g0, 0, none⟩)) rfl (by rintro w1 ⟨s2, s0, s1⟩; go_simp; all_goals first | rfl | omega | (intro _; exfalso; omega)) hS0 ?_
   simp only [Act.put, nrm]
   refine tkk 2 (.string x0) rfl (by rintro w1 ⟨s2, s0, s1⟩; go_simp; all_goals first | rfl | omega | (intro _; exfalso; omega)) hS0 ?_
   simp only [Act.put, nrm]
   refine tkk 3 (.slice (some ⟨g0, 0, none⟩) (k + 2) cap) rfl (by rintro w1 ⟨s2, s0, s1⟩; go_simp; all_goals first | rfl | omega | (intro _; exfalso; omega)) hS0 ?_
   simp only [Act.put, nrm]
   refine tkk 4 (.int .i64 ((k : Int) + 1)) rfl (by rintro w1 ⟨s2, s0, s1⟩; go_simp; all_goals first | rfl | omega | (intro _; exfalso; omega)) hS0 ?_
   simp only [Act.put, nrm]
   refine tkk 5 (.slice (some ⟨g0, 1, none⟩) k (cap - 1)) rfl (by rintro w1 ⟨s2, s0, s1⟩; go_simp; all_goals first | rfl | omega | (intro _; exfalso; omega)) hS0 ?_
   simp only [Act.put, nrm]
   refine tkk 7 (.slice (some ⟨g0, 0, none⟩) (k + 2) cap) rfl (by rintro w1 ⟨s2, s0, s1⟩; go_simp; all_goals first | rfl | omega | (intro _; exfalso; omega)) hS0 ?_
   simp only [Act.put, nrm]
   refine tkk 8 (.int .i64 ((k : Int) + 1)) rfl (by rintro w1 ⟨s2, s0, s1⟩; go_simp; all_goals first | rfl | omega | (intro _; exfalso; omega)) hS0 ?_
   simp only [Act.put, nrm]
   refine tkk 9 (.pointer (some ⟨g0, k + 1, none⟩)) rfl (by rintro w1 ⟨s2, s0, s1⟩; go_simp; all_goals first | rfl | omega | (intro _; exfalso; omega)) hS0 ?_
   simp only [Act.put, nrm]
   refine tkk 10 (.string x1) rfl (by rintro w1 ⟨s2, s0, s1⟩; go_simp; all_goals first | rfl | omega | (intro _; exfalso; omega)) hS0 ?_
   simp only [Act.put, nrm]
   clear hS0 l1 l2 l3 l4
   refine rdyy 6 rfl (fun K hK => ?_)
   rw [if_pos (by kernel_rfl)]
   go_wp2_with fail
   refine ((un HC) V _ ?_).mono ?_
   ·intro b hb; rw [un hVW]; rfl
   rintro e w3 ⟨v', rfl, hown, hb⟩
   obtain ⟨sa, sc, rfl, hst⟩ := own_strs hown (un HM).2.2.2.2
   replace hb : Below W.heap.size W w3 := by rw [un hVW] at hb; exact ⟨hb.os, hb.tape, hb.output, hb.size, hb.block⟩
   replace hst : Strs w3 (fun b => W.heap.size <= b) sa mid := by rw [un hVW] at hst; exact hst
   have hI3 := (un HI).below hb
   obtain ⟨⟨e0, e1, e2, e3, e4, e5⟩, r0, r1, r2, r3, r4, r5⟩ := box6 hI3.b0
   dsimp only at e0 e1 e2 e3 e4 e5
   obtain ⟨e6, r6⟩ := box1 hI3.b1
   have hg0n : w.heap.size ≠ g0 /\ w.heap.size + 1 ≠ g0 := by have := hcs.1; omega
   have hS3 : w3.cell? ⟨w.heap.size + 2, 0, none⟩ = some (.slice (some ⟨g0, 0, none⟩) (k + 2) cap) /\ w3.cell? ⟨g0, 0, none⟩ = some (.string x0) /\ w3.cell? ⟨g0, k + 1, none⟩ = some (.string x1) := by
    have h2 := hI3.nin.cl.1
    rw [(un HM).1] at h2
    exact ⟨h2, (hb.cell (D.lt_cell (un HD).1)).trans (un HD).1, (hb.cell (D.lt_cell (un HD).2)).trans (un HD).2⟩
   have HN := H_ (And.intro hb hst)
   clear hI3 hb hst hown
   go_wp2
   refine hK.out _ _ hS3 (fun _ => ?_)
   clear hK K
   simp only [Act.put, nrm]
   refine rdyy 11 rfl (fun K hK => ?_)
   rw [if_pos (by kernel_rfl)]
   go_simp
   refine hK.out _ _ hS3 (fun _ => ?_)
   clear hK K
   simp only [Act.put, nrm]
   refine rdyy 12 rfl (fun K hK => ?_)
   rw [if_pos (by kernel_rfl)]
   go_simp
   have hb6 := set6_but w3 w.heap.size ⟨4, ⟨#[]⟩, x0, sa, k, sc, x1, none, 0, 0⟩
   have hS6 : (set6 w3 w.heap.size ⟨4, ⟨#[]⟩, x0, sa, k, sc, x1, none, 0, 0⟩).cell? ⟨w.heap.size + 2, 0, none⟩ = some (.slice (some ⟨g0, 0, none⟩) (k + 2) cap) /\ (set6 w3 w.heap.size ⟨4, ⟨#[]⟩, x0, sa, k, sc, x1, none, 0, 0⟩).cell? ⟨g0, 0, none⟩ = some (.string x0) /\ (set6 w3 w.heap.size ⟨4, ⟨#[]⟩, x0, sa, k, sc, x1, none, 0, 0⟩).cell? ⟨g0, k + 1, none⟩ = some (.string x1) :=
    ⟨hb6.cell hS3.1 (by show w.heap.size + 2 ≠ w.heap.size; omega), hb6.cell hS3.2.1 (Ne.symm hg0n.1), hb6.cell hS3.2.2 (Ne.symm hg0n.1)⟩
   refine hK.out _ _ hS6 (fun _ => ?_)
   clear hK K hb6
   simp only [Act.put, nrm]
   refine rdyy 13 rfl (fun K hK => ?_)
   rw [if_pos (by kernel_rfl)]
   go_simp
   have hS7 : ((set6 w3 w.heap.size ⟨4, ⟨#[]⟩, x0, sa, k, sc, x1, none, 0, 0⟩).setCell ⟨w.heap.size + 1, 0, none⟩ .nilIface).cell? ⟨w.heap.size + 2, 0, none⟩ = some (.slice (some ⟨g0, 0, none⟩) (k + 2) cap) /\ ((set6 w3 w.heap.size ⟨4, ⟨#[]⟩, x0, sa, k, sc, x1, none, 0, 0⟩).setCell ⟨w.heap.size + 1, 0, none⟩ .nilIface).cell? ⟨g0, 0, none⟩ = some (.string x0) /\ ((set6 w3 w.heap.size ⟨4, ⟨#[]⟩, x0, sa, k, sc, x1, none, 0, 0⟩).setCell ⟨w.heap.size + 1, 0, none⟩ .nilIface).cell? ⟨g0, k + 1, none⟩ = some (.string x1) := by
    refine ⟨?_, ?_, ?_⟩
    ·rw [World.cell?_setCell_far _ _ _ _ (by show w.heap.size + 1 ≠ w.heap.size + 2; omega)]; exact hS6.1
    ·rw [World.cell?_setCell_far _ _ _ _ hg0n.2]; exact hS6.2.1
    ·rw [World.cell?_setCell_far _ _ _ _ hg0n.2]; exact hS6.2.2
   refine hK.out _ _ hS7 (fun _ => ?_)
   clear hK K
   simp only [Act.put, nrm]
   refine wpAnyH_done (by kernel_rfl) ?_ _
   exact ⟨rfl, rfl, rfl, sa, sc, w3, (un HN).1, rfl, (un HN).2⟩
  rintro e ⟨tmps, defers⟩ V hq
  cases e with
  | normal =>
   obtain ⟨hdf, t2, t3, sa, sc, w3, hb, hV, hst⟩ := hq
   dsimp only at hdf t2 t3
   subst hdf
   have HQ := H_ (And.intro t2 (And.intro t3 (And.intro hb (And.intro hV hst))))
   clear t2 t3 hb hV hst c2 d0 d1
   go_wp2
   obtain ⟨t2, t3, hb, rfl, hst⟩ := un HQ
   obtain ⟨hk, hx0, hx1, hmid, hml⟩ := un HM
   have hI3 := (un HI).below hb
   have hb6 := set6_but w3 w.heap.size ⟨4, ⟨#[]⟩, x0, sa, k, sc, x1, none, 0, 0⟩
   have h0 := set6_blk hI3.b0 ⟨4, ⟨#[]⟩, x0, sa, k, sc, x1, none, 0, 0⟩
   have h1 := (hb6.block _ (Array.getElem?_eq_some_iff.1 hI3.b1).1 (by omega)).trans hI3.b1
   have hbel := (below_but hI3.nin.bel hb6 (Nat.le_refl _) (Nat.le_refl _)).setCell (p := ⟨w.heap.size + 1, 0, none⟩) (by show w.heap.size <= w.heap.size + 1; omega) .nilIface
   have hWs : w.heap.size + 8 <= W.heap.size := by have := hcs.1; omega
   have hd : ((set6 w3 w.heap.size ⟨4, ⟨#[]⟩, x0, sa, k, sc, x1, none, 0, 0⟩).setCell ⟨w.heap.size + 1, 0, none⟩ .nilIface).heap[w.heap.size + 6]? = some (.deferred (some [])) :=
    (Below.heap_setCell _ _ _ _ (by show w.heap.size + 6 ≠ w.heap.size + 1; omega)).trans ((hb6.block _ (by have := hb.size; omega) (by omega)).trans ((hb.block _ (by omega)).trans (un HK)))
   refine finP hd (by omega) ((Below.heap_setCell _ _ _ _ (by show w.heap.size ≠ w.heap.size + 1; omega)).trans h0) (heap_set _ _ 0 _ _ _ h1) t2 t3 ⟨C.putObj_below hbel (by omega), ?_⟩
   rw [un HMp]
   have e0 : vals.headD ⟨#[]⟩ = x0 := by
    cases vals with
    | nil => cases hx0
    | cons y ys => simpa using hx0
   have e1 : vals.getLastD ⟨#[]⟩ = x1 := by
    rw [List.getLastD_eq_getLast?, List.getLast?_eq_getElem?, hk]
    show vals[k + 1]?.getD _ = _
    rw [hx1]
    rfl
   refine ⟨sa, sc, by rw [e0, e1, <- hmid, hml], ?_⟩
   rw [<- hmid]
   have hbw := (un HI).nin.bel.size
   exact (hst.imp fun b hb' _ => (by omega : w.heap.size <= b /\ W.heap.size <= b)).of (fun b hb' hl => (World.putObj_heap_other (by omega)).trans ((Below.heap_setCell _ _ _ _ (by show b ≠ w.heap.size + 1; omega)).trans (hb6.block _ hl (by omega)))) |>.imp fun b hb' _ => hb'.1
  | _ => exact hq.elim
 case stop =>
  rintro cd q W hno ⟨rfl, T, x, hE, h0, h1, hb⟩ hK
  rw [hz] at hK ⊢
  rw [hno]
  obtain ⟨⟨c0, c1, c2, c3, c4, c5⟩, _⟩ := box6 h0
  obtain ⟨c6, _⟩ := box1 h1
  have HK := H_ hK
  have HB := H_ (And.intro hE (And.intro h0 (And.intro h1 hb)))
  clear hK hE h0 h1 hb hno hI0 hB3
  gi_wp2
  obtain ⟨hE, h0, h1, hb⟩ := un HB
  exact finP (un HK) (by omega) h0 h1 rfl rfl ⟨C.putObj_below hb (by omega), T, x, rfl, hE⟩
end Go.Proofs.YtjhnblgamodekaaGreatDoor.F
/-
 readValues, and condition. Conditions: the package-level variables hold what the program's text lays; what is read of values at a time has at most 1000 bytes.
-/
namespace Go.Proofs.YtjhnblgamodekaaGreatDoor.F
open Go Go.RowKit Go.Shelf Fp
open Dp (mp)
open D (H_ un ext_list)
attribute [local go_sem] Oper.semAt_some
def LeafPost (n : Nat) (A : Ad) (o : Option (Fl (n + 1))) (w : World) (e : Ending) (w' : World) : Prop := Below w.heap.size w w' /\ match o with
 | some F => ∃ d : Fd, e = .returned (.tuple #[d.val, .nilIface]) /\ FNode (n + 1) w' (fun b => w.heap.size <= b) d F
 | none => ∃ d : Fd, ∃ T x, e = .returned (.tuple #[d.val, .iface T x]) /\ IsErr A (.iface T x)
theorem val_is {n : Nat} (k : Int) (a v : ByteArray) : Is ⟨k, a, v, none, 0, 0, ⟨#[]⟩, none, 0, 0⟩ (mk k a v [] ⟨#[]⟩ [] : Fl (n + 1)) := ⟨rfl, rfl, rfl, rfl, rfl, rfl⟩
theorem val_sm {n : Nat} (k : Int) {a v : ByteArray} (ha : a.size <= 2000) (hv : v.size <= 1000) : Sm (mk k a v [] ⟨#[]⟩ [] : Fl (n + 1)) := ⟨ha, hv, Nat.zero_le _, Nat.zero_le _, (fun x hx => by cases hx), Nat.zero_le _⟩
theorem val_node {n : Nat} (k : Int) {a v : ByteArray} (W : World) (p : Nat -> Prop) (ha : a.size <= 2000) (hv : v.size <= 1000) : FNode (n + 1) W p ⟨k, a, v, none, 0, 0, ⟨#[]⟩, none, 0, 0⟩ (mk k a v [] ⟨#[]⟩ []) := ⟨val_is k a v, val_sm k ha hv, .inl rfl, .inl rfl⟩
theorem finV {b : Nat} {V : World} {tmps : Array Value} {d : Fd} {u : Value} {R : Ending -> World -> Prop} (h0 : V.heap[b]? = some (.cells d.cs 25 (0, 0)))
  (t4 : tmps.getD 4 undef = .pointer (some ⟨b, 0, none⟩)) (t5 : tmps.getD 5 undef = u) (hp : R (.returned (.tuple #[d.val, u])) V) :
  bodyPost Tryz.prog Tryz.f114 R Exit.ret { tmps, defers := [] } V := by
 refine ⟨rfl, .tuple #[d.val, u], ?_, hp⟩
 obtain ⟨⟨c0, c1, c2, c3, c4, c5⟩, _⟩ := box6 h0
 have t4' : tmps[4]?.getD undef = .pointer (some ⟨b, 0, none⟩) := by simpa using t4
 have t5' : tmps[5]?.getD undef = u := by simpa using t5
 simp [results, Tryz.results114, go_sem, t4', t5', c0, c1, c2, c3, c4, c5]
theorem readValues_one (n : Nat) (k : Int) (t : ByteArray) (A : Ad) (w : World) (g : Glob A w) (ht : t.size <= 1000) (hk : k ≠ 3 \/ 42 ∉ t.data.toList) :
  Calls Tryz.prog 114 #[.int .i64 k, .string t] w (LeafPost n A ((rdV t.data.toList).map fun v => mk k ⟨#[]⟩ v [] ⟨#[]⟩ []) w) := by
 obtain ⟨V, hV⟩ : ∃ V, V = w.alloc (.cells zfd.cs 25) := ⟨_, rfl⟩
 have hVb : Below w.heap.size w V := by rw [hV]; exact (Below.refl _ _).alloc (Nat.le_refl _) _
 have hV0 : V.heap[w.heap.size]? = some (.cells zfd.cs 25 (0, 0)) := by rw [hV]; exact World.alloc_heap_new _ _
 have HR := H_ (readValue_any t A V (g.next hVb) ht)
 have HVw := H_ hV
 have HVx := H_ (And.intro hVb hV0)
 have HS := H_ (fun v (h : rdV t.data.toList = some v) => rdV_small h)
 have hC := contains_any 42 t V
 have hVz : w.heap.size < V.heap.size := by rw [hV]; simp
 clear hV hVb hV0 g
 have fin : ∀ (W : World) (o : Option ByteArray) (e : Ending), ValPost A o V e W -> ∃ v er, e = .returned (.tuple #[.string v, er]) /\ Below V.heap.size V W /\ (match o with | some u => v = u /\ er = .nilIface | none => IsErr A er /\ ∃ T x, er = .iface T x) := by
  rintro W o e ⟨hb, h⟩
  cases o with
  | some u => exact ⟨u, .nilIface, h, hb, rfl, rfl⟩
  | none => obtain ⟨T, x, h1, h2⟩ := h; exact ⟨_, _, h1, hb, h2, _, _, rfl⟩
 have post : ∀ (v : ByteArray) (er : Value) (W : World), (match rdV t.data.toList with | some u => v = u /\ er = .nilIface | none => IsErr A er /\ ∃ T x, er = .iface T x) -> Below V.heap.size V W -> LeafPost n A ((rdV t.data.toList).map fun v => mk k ⟨#[]⟩ v [] ⟨#[]⟩ []) w (.returned (.tuple #[Fd.val ⟨k, ⟨#[]⟩, v, none, 0, 0, ⟨#[]⟩, none, 0, 0⟩, er])) (set6 W w.heap.size ⟨k, ⟨#[]⟩, v, none, 0, 0, ⟨#[]⟩, none, 0, 0⟩) := by
  intro v er W h hb
  refine ⟨below_but ((un HVx).1.trans (hb.mono (by omega))) (set6_but _ _ _) (Nat.le_refl _) (Nat.le_refl _), ?_⟩
  cases hr : rdV t.data.toList with
  | some u =>
   rw [hr] at h
   obtain ⟨rfl, rfl⟩ := h
   have := un HS _ hr
   rw [E.len_toList] at this
   exact ⟨_, rfl, val_node k _ _ (Nat.zero_le _) (by omega)⟩
  | none =>
   rw [hr] at h
   obtain ⟨h1, T, x, rfl⟩ := h
   exact ⟨_, T, x, rfl, h1⟩
 have Hfin := H_ fin
 have Hpost := H_ post
 clear fin post
 by_cases h3 : k = 3
 ·have h42 := hk.resolve_left (fun h => h h3)
  subst h3
  rw [decide_eq_false h42] at hC
  have HC := H_ hC
  clear hC hk h42 ht
  go_enter Tryz.func114, Tryz.ntmps114
  go_wp2_with fail
  rw [<- un HVw]
  refine (un HC).mono ?_
  rintro e w1 ⟨rfl, rfl⟩
  go_wp2_with fail
  refine (un HR).mono ?_
  rintro e w1 he
  obtain ⟨v, er, rfl, hb, hm⟩ := un Hfin _ _ _ he
  have HB := H_ (And.intro hb hm)
  obtain ⟨⟨c0, c1, c2, c3, c4, c5⟩, f0, f1, f2, f3, f4, f5⟩ := box6 ((hb.block _ hVz).trans (un HVx).2)
  dsimp only at c0 c1 c2 c3 c4 c5
  clear hb hm he HR HC
  go_wp2
  have hp := (un Hpost) v er w1 (un HB).2 (un HB).1
  have h0 := set6_blk (((un HB).1.block _ hVz).trans (un HVx).2) ⟨3, ⟨#[]⟩, v, none, 0, 0, ⟨#[]⟩, none, 0, 0⟩
  exact finV (b := w.heap.size) (d := ⟨3, ⟨#[]⟩, v, none, 0, 0, ⟨#[]⟩, none, 0, 0⟩) (u := er) h0 rfl rfl hp
 ·have hb3 : (k == 3) = false := beq_eq_false_iff_ne.2 h3
  clear hC hk ht
  go_enter Tryz.func114, Tryz.ntmps114
  go_wp2_with fail
  rw [<- un HVw]
  refine (un HR).mono ?_
  rintro e w1 he
  obtain ⟨v, er, rfl, hb, hm⟩ := un Hfin _ _ _ he
  have HB := H_ (And.intro hb hm)
  obtain ⟨⟨c0, c1, c2, c3, c4, c5⟩, f0, f1, f2, f3, f4, f5⟩ := box6 ((hb.block _ hVz).trans (un HVx).2)
  dsimp only at c0 c1 c2 c3 c4 c5
  clear hb hm he HR
  go_wp2
  have hp := (un Hpost) v er w1 (un HB).2 (un HB).1
  have h0 := set6_blk (((un HB).1.block _ hVz).trans (un HVx).2) ⟨k, ⟨#[]⟩, v, none, 0, 0, ⟨#[]⟩, none, 0, 0⟩
  exact finV (b := w.heap.size) (d := ⟨k, ⟨#[]⟩, v, none, 0, 0, ⟨#[]⟩, none, 0, 0⟩) (u := er) h0 rfl rfl hp
theorem mp_mem2 {α : Type} (f : List UInt8 -> Option α) : ∀ (xs : List (List UInt8)) (l : List α), mp f xs = some l -> ∀ a ∈ l, ∃ x ∈ xs, f x = some a
 | [], l, h, a, ha => by cases h; cases ha
 | x :: xs, l, h, a, ha => by
  rw [mp] at h
  cases hx : f x with
  | none => rw [hx] at h; cases h
  | some b =>
   cases hm : mp f xs with
   | none => rw [hx, hm] at h; cases h
   | some r =>
    rw [hx, hm] at h
    cases h
    rcases List.mem_cons.1 ha with rfl | ha
    ·exact ⟨x, by simp, hx⟩
    ·obtain ⟨y, h1, h2⟩ := mp_mem2 f xs r hm a ha
     exact ⟨y, by simp [h1], h2⟩
theorem sub_node {n : Nat} {l : List ByteArray} {sa : Option Addr} {sc : Nat} {W : World} {p : Nat -> Prop} (hl : ∀ x ∈ l, x.size <= 1000) (hn : l.length <= 100) (hst : Strs W p sa l.tail.dropLast) :
  FNode (n + 1) W p ⟨4, ⟨#[]⟩, l.headD ⟨#[]⟩, sa, l.tail.dropLast.length, sc, l.getLastD ⟨#[]⟩, none, 0, 0⟩ (subs ⟨#[]⟩ l) := by
 have h0 : (⟨#[]⟩ : ByteArray).size <= 1000 := Nat.zero_le _
 refine ⟨⟨rfl, rfl, rfl, rfl, rfl, rfl⟩, ⟨Nat.zero_le _, ?_, ?_, ?_, ?_, Nat.zero_le _⟩, hst, .inl rfl⟩
 ·show (l.headD ⟨#[]⟩).size <= 1000
  cases l with
  | nil => exact h0
  | cons y ys => exact hl y (by simp)
 ·show (l.getLastD ⟨#[]⟩).size <= 1000
  rw [List.getLastD_eq_getLast?]
  cases hq : l.getLast? with
  | none => exact h0
  | some y => exact hl y (List.mem_of_getLast? hq)
 ·show l.tail.dropLast.length <= 1000
  simp
  omega
 ·intro x hx
  exact hl x (List.mem_of_mem_tail (List.dropLast_subset _ hx))
theorem readValues_any (n : Nat) (k : Int) (t : ByteArray) (A : Ad) (w : World) (g : Glob A w) (ht : t.size <= 100000000) (hP : if k = 3 then ∀ q ∈ spl 42 t.data.toList, q.length <= 1000 else t.size <= 1000) :
  Calls Tryz.prog 114 #[.int .i64 k, .string t] w (LeafPost n A (rdVals k ⟨#[]⟩ t.data.toList) w) := by
 by_cases hk : k ≠ 3 \/ 42 ∉ t.data.toList
 ·have hz : t.size <= 1000 := by
   by_cases h3 : k = 3
   ·rw [if_pos h3] at hP
    have h42 := hk.resolve_left (fun h => h h3)
    have := hP t.data.toList (by rw [spl_none 42 _ h42]; simp)
    rwa [E.len_toList] at this
   ·rwa [if_neg h3] at hP
  have := readValues_one n k t A w g hz hk
  unfold rdVals
  rw [if_pos hk]
  exact this
 ·obtain ⟨h3, h42⟩ : k = 3 /\ 42 ∈ t.data.toList := by
   constructor
   ·exact Classical.byContradiction fun h => hk (.inl h)
   ·exact Classical.byContradiction fun h => hk (.inr h)
  subst h3
  rw [if_pos rfl] at hP
  unfold rdVals
  rw [if_neg hk]
  obtain ⟨V, hV⟩ : ∃ V, V = w.alloc (.cells zfd.cs 25) := ⟨_, rfl⟩
  have hVb : Below w.heap.size w V := by rw [hV]; exact (Below.refl _ _).alloc (Nat.le_refl _) _
  have hV0 : V.heap[w.heap.size]? = some (.cells zfd.cs 25 (0, 0)) := by rw [hV]; exact World.alloc_heap_new _ _
  have hVz : w.heap.size < V.heap.size := by rw [hV]; simp
  have gV := g.next hVb
  have hC := contains_any 42 t V
  rw [decide_eq_true h42] at hC
  have HC := H_ hC
  have HVw := H_ hV
  have HVx := H_ (And.intro hVb hV0)
  obtain ⟨⟨c0, c1, c2, c3, c4, c5⟩, f0, f1, f2, f3, f4, f5⟩ := box6 hV0
  dsimp only at c0 c1 c2 c3 c4 c5
  by_cases h1 : t.data.toList = [42]
  ·rw [if_pos h1]
   have hb : (t.toList == ([42] : List UInt8)) = true := by rw [ByteArray.toList_eq, h1]; rfl
   clear hV hVb hV0 hC h42 hk hP h1 gV ht
   go_enter Tryz.func114, Tryz.ntmps114
   go_wp2_with fail
   rw [<- un HVw]
   refine (un HC).mono ?_
   rintro e w1 ⟨rfl, rfl⟩
   go_wp2
   have h0 := set6_blk (un HVx).2 ⟨7, ⟨#[]⟩, ⟨#[]⟩, none, 0, 0, ⟨#[]⟩, none, 0, 0⟩
   have hp : LeafPost n A (some (mk 7 ⟨#[]⟩ ⟨#[]⟩ [] ⟨#[]⟩ [])) w (.returned (.tuple #[Fd.val ⟨7, ⟨#[]⟩, ⟨#[]⟩, none, 0, 0, ⟨#[]⟩, none, 0, 0⟩, .nilIface])) (set6 w1 w.heap.size ⟨7, ⟨#[]⟩, ⟨#[]⟩, none, 0, 0, ⟨#[]⟩, none, 0, 0⟩) :=
    ⟨below_but (un HVx).1 (set6_but _ _ _) (Nat.le_refl _) (Nat.le_refl _), _, rfl, val_node 7 _ _ (Nat.zero_le _) (Nat.zero_le _)⟩
   exact finV (b := w.heap.size) (d := ⟨7, ⟨#[]⟩, ⟨#[]⟩, none, 0, 0, ⟨#[]⟩, none, 0, 0⟩) (u := .nilIface) h0 rfl rfl hp
  ·rw [if_neg h1]
   have hb : (t.toList == ([42] : List UInt8)) = false := by rw [ByteArray.toList_eq]; exact beq_eq_false_iff_ne.2 h1
   have hN := H_ (fun W => count_any 42 t W)
   by_cases h5 : 5 < t.data.toList.count 42
   ·rw [if_pos h5]
    have h5' : (5 : Int) < (t.data.toList.count 42 : Nat) := by omega
    generalize t.data.toList.count 42 = m at *
    have hco := gV.vco
    have hgl : (1 : Nat) < w.heap.size := D.lt_cell g.vco
    have hg1 : w.heap.size ≠ 1 := by omega
    have hg2 : (1 : Nat) ≠ w.heap.size := by omega
    have Hg := H_ gV
    clear hV hVb hV0 hC h42 hk hP h1 gV ht h5
    go_enter Tryz.func114, Tryz.ntmps114
    go_wp2_with fail
    rw [<- un HVw]
    refine (un HC).mono ?_
    rintro e w1 ⟨rfl, rfl⟩
    go_wp2_with fail
    refine ((un hN) _).mono ?_
    rintro e w1 ⟨rfl, rfl⟩
    go_wp2_with fail
    refine wp_mono (Q := fun e a1 W => match e with | .normal => a1.defers = [] /\ a1.tmps.getD 4 undef = .pointer (some ⟨w.heap.size, 0, none⟩) /\ a1.tmps.getD 5 undef = sen A.co /\ W = (set6 w1 w.heap.size zfd).drew | _ => False) ?_ ?_
    ·go_region
     all_goals exact ⟨rfl, rfl, rfl, rfl⟩
    rintro e ⟨tmps, defers⟩ W hq
    cases e with
    | normal =>
     obtain ⟨hdf, t4, t5, hW⟩ := hq
     dsimp only at hdf t4 t5
     subst hdf
     have HQ := H_ (And.intro t4 (And.intro t5 hW))
     clear t4 t5 hW c0 c1 c2 c3 c4 c5 f0 f1 f2 f3 f4 f5
     go_wp2
     obtain ⟨t4, t5, hW⟩ := un HQ
     have h0 := set6_blk (un HVx).2 zfd
     have hbl := below_but (un HVx).1 (set6_but w1 w.heap.size zfd) (Nat.le_refl _) (Nat.le_refl _)
     generalize set6 w1 w.heap.size zfd = U at h0 hbl hW
     have hbl2 : Below w.heap.size w W := by rw [hW]; exact hbl.drew
     have h02 : W.heap[w.heap.size]? = some (.cells zfd.cs 25 (0, 0)) := by rw [hW]; exact h0
     have hp : LeafPost n A none w (.returned (.tuple #[Fd.val zfd, sen A.co])) W := ⟨hbl2, zfd, _, _, rfl, IsErr.sen (isS_co A)⟩
     exact finV (b := w.heap.size) (d := zfd) (u := sen A.co) h02 t4 t5 hp
    | _ => exact hq.elim
   ·rw [if_neg h5]
    have h5' : ¬ (5 : Int) < (t.data.toList.count 42 : Nat) := by omega
    have hlen : (spl 42 t.data.toList).length = t.data.toList.count 42 + 1 := spl_len 42 _
    have hpos : 0 < t.data.toList.count 42 := List.count_pos_iff.2 h42
    have hR := H_ (readPieces_any t A V gV ht hP (by omega) (by omega))
    have Hm : Hid (∀ l, mp rdV (spl 42 t.data.toList) = some l -> (∀ x ∈ l, x.size <= 1000) /\ l.length <= 100) := H_ (fun l h => ⟨fun x hx => by
     obtain ⟨y, h6, h7⟩ := mp_mem2 rdV _ _ h x hx
     have := rdV_small h7
     have := hP y h6
     omega, by have := Dp.mp_len rdV _ _ h; omega⟩)
    generalize t.data.toList.count 42 = m at *
    clear hV hVb hV0 hC h42 hk hP h1 gV ht h5 hlen hpos c0 c1 c2 c3 c4 c5 f0 f1 f2 f3 f4 f5
    go_enter Tryz.func114, Tryz.ntmps114
    go_wp2_with fail
    rw [<- un HVw]
    refine (un HC).mono ?_
    rintro e w1 ⟨rfl, rfl⟩
    go_wp2_with fail
    refine ((un hN) _).mono ?_
    rintro e w1 ⟨rfl, rfl⟩
    go_wp2_with fail
    cases ho : mp rdV (spl 42 t.data.toList) with
    | none =>
     rw [ho] at hR
     refine (un hR).mono ?_
     rintro e w2 ⟨hb1, T, x, rfl, hE⟩
     have hw := (hb1.block _ hVz).trans (un HVx).2
     obtain ⟨⟨c0, c1, c2, c3, c4, c5⟩, f0, f1, f2, f3, f4, f5⟩ := box6 hw
     dsimp only at c0 c1 c2 c3 c4 c5
     have HQ := H_ (And.intro hb1 (And.intro hE hw))
     clear hb1 hE hw hR
     go_wp2
     obtain ⟨hb1, hE, hw⟩ := un HQ
     have h0 := set6_blk hw zfd
     have hp : LeafPost n A none w (.returned (.tuple #[Fd.val zfd, .iface T x])) (set6 w2 w.heap.size zfd) :=
      ⟨below_but ((un HVx).1.trans (hb1.mono (by omega))) (set6_but _ _ _) (Nat.le_refl _) (Nat.le_refl _), zfd, _, _, rfl, hE⟩
     exact finV (b := w.heap.size) (d := zfd) (u := .iface T x) h0 rfl rfl (by rw [ho]; exact hp)
    | some l =>
     rw [ho] at hR
     refine (un hR).mono ?_
     rintro e w2 ⟨hb1, sa, sc, rfl, hst⟩
     have hw := (hb1.block _ hVz).trans (un HVx).2
     obtain ⟨⟨c0, c1, c2, c3, c4, c5⟩, f0, f1, f2, f3, f4, f5⟩ := box6 hw
     dsimp only at c0 c1 c2 c3 c4 c5
     obtain ⟨d, hd⟩ : ∃ d : Fd, d = ⟨4, ⟨#[]⟩, l.headD ⟨#[]⟩, sa, l.tail.dropLast.length, sc, l.getLastD ⟨#[]⟩, none, 0, 0⟩ := ⟨_, rfl⟩
     rw [<- hd]
     have HQ := H_ (And.intro hb1 (And.intro hst (And.intro hw hd)))
     clear hb1 hst hw hR hd
     obtain ⟨dk, da, dv, dsa, dsn, dsc, df, dla, dln, dlc⟩ := d
     go_wp2
     obtain ⟨hb1, hst, hw, hd⟩ := un HQ
     have h0 := set6_blk hw ⟨dk, da, dv, dsa, dsn, dsc, df, dla, dln, dlc⟩
     have hbV := below_but ((un HVx).1.trans (hb1.mono (by omega))) (set6_but w2 w.heap.size ⟨dk, da, dv, dsa, dsn, dsc, df, dla, dln, dlc⟩) (Nat.le_refl _) (Nat.le_refl _)
     have hN := sub_node (n := n) (sc := sc) (un Hm l ho).1 (un Hm l ho).2 hst
     rw [<- hd] at hN
     have hp : LeafPost n A (some (subs ⟨#[]⟩ l)) w (.returned (.tuple #[Fd.val ⟨dk, da, dv, dsa, dsn, dsc, df, dla, dln, dlc⟩, .nilIface])) (set6 w2 w.heap.size ⟨dk, da, dv, dsa, dsn, dsc, df, dla, dln, dlc⟩) :=
      ⟨hbV, _, rfl, (hN.of fun b hb hl => (set6_but w2 w.heap.size ⟨dk, da, dv, dsa, dsn, dsc, df, dla, dln, dlc⟩).block b hl (by omega)).imp fun b hb _ => by omega⟩
     exact finV (b := w.heap.size) (d := ⟨dk, da, dv, dsa, dsn, dsc, df, dla, dln, dlc⟩) (u := .nilIface) h0 rfl rfl (by rw [ho]; exact hp)
end Go.Proofs.YtjhnblgamodekaaGreatDoor.F
/-
 The reader's condition: a filter without others in it. Conditions: the package-level variables hold what the program's text lays; what is read of values at a time has at most 1000 bytes.
-/
namespace Go.Proofs.YtjhnblgamodekaaGreatDoor.F
open Go Go.RowKit Go.Shelf Fp
open Dp (mp)
open D (H_ un ext_list)
attribute [local go_sem] Oper.semAt_some
structure Env (A : Ad) (w0 : World) (R kb : Nat) (s : ByteArray) (p : Nat) (w : World) : Prop where
 g : Glob A w0
 b : Below w0.heap.size w0 w
 lo : w0.heap.size <= R
 r : RAt w R s kb p
 k : KindsAt w kb
 ne : kb ≠ R
theorem KindsAt.lt {W : World} {B : Nat} (h : KindsAt W B) : B < W.heap.size := by
 obtain ⟨n, D, h1, h2⟩ := h
 exact h1.lt
theorem Env.glob {A : Ad} {w0 : World} {R kb : Nat} {s : ByteArray} {p : Nat} {w : World} (h : Env A w0 R kb s p w) : Glob A w := h.g.below (Nat.le_refl _) h.b
theorem Env.but {A : Ad} {w0 : World} {R kb : Nat} {s : ByteArray} {p q : Nat} {w w' : World} (h : Env A w0 R kb s p w) (hb : But R w w') (hr : RAt w' R s kb q) : Env A w0 R kb s q w' :=
 ⟨h.g, below_but h.b hb (Nat.le_refl _) h.lo, h.lo, hr, h.k.of (hb.block _ h.k.lt h.ne), h.ne⟩
theorem Env.below {A : Ad} {w0 : World} {R kb : Nat} {s : ByteArray} {p : Nat} {w w' : World} (h : Env A w0 R kb s p w) (hb : Below w.heap.size w w') : Env A w0 R kb s p w' := h.but (But.of_below hb) (h.r.below hb)
theorem Env.set {A : Ad} {w0 : World} {R kb : Nat} {s : ByteArray} {p : Nat} {w : World} (h : Env A w0 R kb s p w) (q : Nat) : Env A w0 R kb s q (w.setCell ⟨R, 1, none⟩ (.int .i64 (q : Int))) := h.but ((But.refl _ _).setCell _ _) (h.r.set q)
def RdPost (n : Nat) (A : Ad) (R kb : Nat) (s : ByteArray) (o : Option (Fl (n + 1) × List UInt8)) (w : World) (e : Ending) (w' : World) : Prop := But R w w' /\ match o with
 | some (F, r) => ∃ d : Fd, e = .returned (.tuple #[d.val, .nilIface]) /\ FNode (n + 1) w' (fun b => w.heap.size <= b) d F /\ ∃ q, RAt w' R s kb q /\ q <= s.size /\ r = s.data.toList.drop q
 | none => ∃ d : Fd, ∃ T x, e = .returned (.tuple #[d.val, .iface T x]) /\ IsErr A (.iface T x)
def Pc (p : List UInt8) : Prop := p.length <= 2000 /\ match cutB 61 p with
 | none => True
 | some (a, t) => if (kindOf a).2 = 3 then ∀ q ∈ spl 42 t, q.length <= 1000 else t.length <= 1000
theorem kindS_two (x : UInt8) : kindS [x, 61] = if x = 62 then some 5 else if x = 60 then some 6 else if x = 126 then some 8 else none := by
 unfold kindS
 simp
theorem rdVals_name {n : Nat} (k : Int) (a : ByteArray) (t : List UInt8) : (rdVals k a t : Option (Fl (n + 1))) = (rdVals k ⟨#[]⟩ t).map fun F => mk (kd F) a (va F) (an F) (fi F) (ls F) := by
 unfold rdVals
 split
 ·rw [Option.map_map]; rfl
 ·split
  ·rfl
  ·split
   ·rfl
   ·rw [Option.map_map]; rfl
theorem kind_look (a : ByteArray) (m : Nat) (hm : m = a.size - 1) : match kindS ((a.extract m a.size).data.toList ++ [61]) with
  | some k => kindOf a.data.toList = ((a.extract 0 m).data.toList, k)
  | none => kindOf a.data.toList = (a.data.toList, 3) := by
 have hz : a.size = a.data.toList.length := (Array.length_toList).symm
 rw [ext_list, ext_list, hz, List.take_length]
 rw [hz] at hm
 generalize a.data.toList = l at *
 rcases List.eq_nil_or_concat l with rfl | ⟨r, x, rfl⟩
 ·simp [kindS, kindOf]
 ·have e1 : m = r.length := by rw [hm]; simp
  subst e1
  rw [List.concat_eq_append] at *
  have e2 : (r ++ [x]).drop r.length = [x] := by simp
  have e3 : ((r ++ [x]).take r.length).drop 0 = r := by simp
  rw [e2, e3, List.singleton_append, kindS_two]
  unfold kindOf
  rw [List.getLast?_concat, List.dropLast_concat]
  by_cases h1 : x = 62
  ·subst h1; simp
  by_cases h2 : x = 60
  ·subst h2; simp
  by_cases h3 : x = 126
  ·subst h3; simp
  simp [h1, h2, h3]
theorem finC {b : Nat} {V : World} {tmps : Array Value} {d : Fd} {u : Value} {Q : Ending -> World -> Prop} (h0 : V.heap[b]? = some (.cells d.cs 25 (0, 0)))
  (t4 : tmps.getD 2 undef = .pointer (some ⟨b, 0, none⟩)) (t5 : tmps.getD 3 undef = u) (hp : Q (.returned (.tuple #[d.val, u])) V) :
  bodyPost Tryz.prog Tryz.f95 Q Exit.ret { tmps, defers := [] } V := by
 refine ⟨rfl, .tuple #[d.val, u], ?_, hp⟩
 obtain ⟨⟨c0, c1, c2, c3, c4, c5⟩, _⟩ := box6 h0
 have t4' : tmps[2]?.getD undef = .pointer (some ⟨b, 0, none⟩) := by simpa using t4
 have t5' : tmps[3]?.getD undef = u := by simpa using t5
 simp [results, Tryz.results95, go_sem, t4', t5', c0, c1, c2, c3, c4, c5]
def rdCon {n : Nat} (r : List UInt8) : Option (Fl (n + 1) × List UInt8) := match cutB 41 r with
 | none => none
 | some (p, _) => (rdC p).map fun F => (F, r.drop p.length)
theorem condition_bad (n : Nat) (A : Ad) (w0 : World) (R kb p : Nat) (s : ByteArray) (w : World) (hE : Env A w0 R kb s p w) (hs : s.size <= 100000000) (hp : p <= s.size)
  (hb : match cutB 41 (s.data.toList.drop p) with | none => True | some (q, _) => cutB 61 q = none) :
  Calls Tryz.prog 95 #[.pointer (some ⟨R, 0, none⟩)] w (RdPost n A R kb s none w) := by
 obtain ⟨V, hV⟩ : ∃ V, V = w.alloc (.cells zfd.cs 25) := ⟨_, rfl⟩
 have hVb : Below w.heap.size w V := by rw [hV]; exact (Below.refl _ _).alloc (Nat.le_refl _) _
 have hV0 : V.heap[w.heap.size]? = some (.cells zfd.cs 25 (0, 0)) := by rw [hV]; exact World.alloc_heap_new _ _
 have hVz : w.heap.size < V.heap.size := by rw [hV]; simp
 have hgl : (5 : Nat) < w.heap.size := Nat.lt_of_lt_of_le (D.lt_cell hE.g.vsi) hE.b.size
 have hg1 : w.heap.size ≠ 5 := by omega
 have hg2 : (5 : Nat) ≠ w.heap.size := by omega
 have hEV := hE.below hVb
 obtain ⟨⟨k0, k1, k2⟩, _⟩ := hEV.r.cells
 have q0 := fun z : Kw V => Kw.cell z k0 (D.lt_cell k0)
 have q1 := fun z : Kw V => Kw.cell z k1 (D.lt_cell k1)
 have hne : Nonempty (Kw V) := kwNonempty V
 have hmx : Tryz.prog.follows .mixedOrders = true := by kernel_rfl
 have HVw := H_ hV
 have HU := fun z : Kw V => upTo_any s p 41 z.w hs hp
 have h01 : ∃ (pc : ByteArray) (cl : Bool), (∀ z : Kw V, Calls Tryz.prog 113 #[tv s, .int .i64 (p : Int), .string ⟨#[41]⟩] z.w fun e w' => e = .returned (.tuple #[.string pc, .bool cl]) /\ Below z.w.heap.size z.w w') /\ pc.size <= s.size /\ (cl = true -> cutB 61 pc.data.toList = none) := by
  cases hc : cutB 41 (s.data.toList.drop p) with
  | none =>
   rw [hc] at HU
   exact ⟨_, _, HU, by rw [ByteArray.size_extract]; omega, fun h => by cases h⟩
  | some q =>
   obtain ⟨q, c⟩ := q
   rw [hc] at HU hb
   refine ⟨_, _, HU, ?_, fun _ => by simpa using hb⟩
   have h1 := (cutB_some _ _ _ _ hc).1
   have h2 := congrArg List.length h1
   simp at h2
   show q.toArray.size <= _
   simp
   have : s.data.size = s.size := rfl
   omega
 obtain ⟨pc, cl, hU, hpc, hcl⟩ := h01
 have HC := H_ fun z : Kw V => z.call (hU z)
 clear HU hb hU
 have Hcut : ∀ W, Calls Tryz.prog 54 #[.string pc, .string ⟨#[61]⟩] W fun e w' => ∃ a t b, e = .returned (.tuple #[.string a, .string t, .bool b]) /\ Below W.heap.size W w' /\ (cl = true -> b = false) := by
  intro W
  cases hc : cutB 61 pc.data.toList with
  | none => exact (cut_none 61 pc W hc).mono fun e w' h => ⟨_, _, _, h.1, h.2, fun _ => rfl⟩
  | some q =>
   obtain ⟨a, t⟩ := q
   exact (cut_some 61 pc a t W (by omega) hc).mono fun e w' h => ⟨_, _, _, h.1, h.2, fun h2 => by rw [hcl h2] at hc; cases hc⟩
 have HK := H_ Hcut
 have HE := H_ hEV
 have HVx := H_ (And.intro hVb hV0)
 clear hE hs hp hV hVb hV0 hEV k0 k1 k2 hpc hcl Hcut
 go_enter Tryz.func95, Tryz.ntmps95
 go_wp2_with fail
 rw [<- un HVw]
 refine wp_region_kw0 (by kernel_rfl) (by kernel_rfl) ?_
 repeat (go_big_quiet_step (first | with_reducible exact (un HC) _))
 refine wpQuiet_nil ?_
 rintro w' ⟨z, rfl⟩
 clear q0 q1 hne
 go_wp2_with fail
 refine ((un HK) _).mono ?_
 rintro e w2 ⟨a, t, b, rfl, hb2, himp⟩
 have HB2 := H_ (z.b.trans (hb2.mono z.b.size))
 clear hb2
 have key : (!cl) = true \/ (cl = true /\ b = false) := by
  cases cl with
  | false => exact .inl rfl
  | true => exact .inr ⟨rfl, himp rfl⟩
 clear himp
 have hw := ((un HB2).block _ hVz).trans (un HVx).2
 obtain ⟨⟨c0, c1, c2, c3, c4, c5⟩, f0, f1, f2, f3, f4, f5⟩ := box6 hw
 dsimp only at c0 c1 c2 c3 c4 c5
 have hco := ((un HE).glob.next (un HB2)).vsi
 clear HC HK
 rcases key with hkey | ⟨rfl, rfl⟩
 ·obtain rfl : cl = false := by simpa using hkey
  clear hkey
  go_wp2_with fail
  refine wp_mono (Q := fun e a1 W => match e with | .normal => a1.defers = [] /\ a1.tmps.getD 2 undef = .pointer (some ⟨w.heap.size, 0, none⟩) /\ a1.tmps.getD 3 undef = sen A.si /\ W = (set6 w2 w.heap.size zfd).drew | _ => False) ?_ ?_
  ·go_region
   all_goals exact ⟨rfl, rfl, rfl, rfl⟩
  rintro e ⟨tmps, defers⟩ W hq
  cases e with
  | normal =>
   obtain ⟨hdf, t4, t5, hW⟩ := hq
   dsimp only at hdf t4 t5
   subst hdf
   have HQ := H_ (And.intro t4 (And.intro t5 hW))
   have HW2 := H_ hw
   clear t4 t5 hW hw c0 c1 c2 c3 c4 c5 f0 f1 f2 f3 f4 f5
   go_wp2
   obtain ⟨t4, t5, hW⟩ := un HQ
   have h0 := set6_blk (un HW2) zfd
   have hbl := below_but ((un HVx).1.trans ((un HB2).mono (by omega))) (set6_but w2 w.heap.size zfd) (Nat.le_refl _) (Nat.le_refl _)
   generalize set6 w2 w.heap.size zfd = U at h0 hbl hW
   have hbl2 : Below w.heap.size w W := by rw [hW]; exact hbl.drew
   have h02 : W.heap[w.heap.size]? = some (.cells zfd.cs 25 (0, 0)) := by rw [hW]; exact h0
   have hp : RdPost n A R kb s none w (.returned (.tuple #[Fd.val zfd, sen A.si])) W := ⟨But.of_below hbl2, zfd, _, _, rfl, IsErr.sen (isS_si A)⟩
   exact finC (b := w.heap.size) (d := zfd) (u := sen A.si) h02 t4 t5 hp
  | _ => exact hq.elim
 ·go_wp2_with fail
  refine wp_mono (Q := fun e a1 W => match e with | .normal => a1.defers = [] /\ a1.tmps.getD 2 undef = .pointer (some ⟨w.heap.size, 0, none⟩) /\ a1.tmps.getD 3 undef = sen A.si /\ W = (set6 w2 w.heap.size zfd).drew | _ => False) ?_ ?_
  ·go_region
   all_goals exact ⟨rfl, rfl, rfl, rfl⟩
  rintro e ⟨tmps, defers⟩ W hq
  cases e with
  | normal =>
   obtain ⟨hdf, t4, t5, hW⟩ := hq
   dsimp only at hdf t4 t5
   subst hdf
   have HQ := H_ (And.intro t4 (And.intro t5 hW))
   have HW2 := H_ hw
   clear t4 t5 hW hw c0 c1 c2 c3 c4 c5 f0 f1 f2 f3 f4 f5
   go_wp2
   obtain ⟨t4, t5, hW⟩ := un HQ
   have h0 := set6_blk (un HW2) zfd
   have hbl := below_but ((un HVx).1.trans ((un HB2).mono (by omega))) (set6_but w2 w.heap.size zfd) (Nat.le_refl _) (Nat.le_refl _)
   generalize set6 w2 w.heap.size zfd = U at h0 hbl hW
   have hbl2 : Below w.heap.size w W := by rw [hW]; exact hbl.drew
   have h02 : W.heap[w.heap.size]? = some (.cells zfd.cs 25 (0, 0)) := by rw [hW]; exact h0
   have hp : RdPost n A R kb s none w (.returned (.tuple #[Fd.val zfd, sen A.si])) W := ⟨But.of_below hbl2, zfd, _, _, rfl, IsErr.sen (isS_si A)⟩
   exact finC (b := w.heap.size) (d := zfd) (u := sen A.si) h02 t4 t5 hp
  | _ => exact hq.elim
theorem rdC_is {n : Nat} {q a t : List UInt8} (h : cutB 61 q = some (a, t)) (nm' : ByteArray) (k : Int) (hk : kindOf a = (nm'.data.toList, k)) : (rdC q : Option (Fl (n + 1))) = (rdVals k ⟨#[]⟩ t).map fun F => mk (kd F) nm' (va F) (an F) (fi F) (ls F) := by
 unfold rdC
 rw [h]
 simp only
 rw [hk]
 simp only
 rw [E.mk_data, rdVals_name]
theorem named {n : Nat} {W : World} {p : Nat -> Prop} {d : Fd} {F : Fl (n + 1)} (h : FNode (n + 1) W p d F) (a : ByteArray) (ha : a.size <= 2000) : FNode (n + 1) W p ⟨d.k, a, d.v, d.sa, d.sn, d.sc, d.f, d.la, d.ln, d.lc⟩ (mk (kd F) a (va F) (an F) (fi F) (ls F)) :=
 ⟨⟨h.is.k, rfl, h.is.v, h.is.f, h.is.sn, h.is.ln⟩, ⟨ha, h.sm.v, h.sm.f, h.sm.sn, h.sm.s, h.sm.ln⟩, h.strs, h.2.2.2⟩
theorem But.late {R b : Nat} {w A B : World} (h : But R w A) (k : But b A B) (hb : w.heap.size <= b) : But R w B :=
 ⟨k.os.trans h.os, k.tape.trans h.tape, k.output.trans h.output, Nat.le_trans h.size k.size, fun i hi hn => (k.block i (Nat.lt_of_lt_of_le hi h.size) (by omega)).trans (h.block i hi hn)⟩
def LeafAny (n : Nat) (A : Ad) (o : Option (Fl (n + 1))) (w : World) (d : Fd) (er : Value) (w' : World) : Prop := match o with
 | some F => er = .nilIface /\ FNode (n + 1) w' (fun b => w.heap.size <= b) d F
 | none => ∃ T x, er = .iface T x /\ IsErr A (.iface T x)
theorem leaf_any {n : Nat} {A : Ad} {o : Option (Fl (n + 1))} {w w' : World} {e : Ending} (h : LeafPost n A o w e w') : ∃ (d : Fd) (er : Value), e = .returned (.tuple #[d.val, er]) /\ Below w.heap.size w w' /\ LeafAny n A o w d er w' := by
 obtain ⟨hb, h⟩ := h
 cases o with
 | some F => obtain ⟨d, h1, h2⟩ := h; exact ⟨d, _, h1, hb, rfl, h2⟩
 | none => obtain ⟨d, T, x, h1, h2⟩ := h; exact ⟨d, _, h1, hb, T, x, rfl, h2⟩
theorem condition_ok (n : Nat) (A : Ad) (w0 : World) (R kb p : Nat) (s : ByteArray) (w : World) (hE : Env A w0 R kb s p w) (hs : s.size <= 100000000) (hp : p <= s.size)
  (q c a t : List UInt8) (hq : cutB 41 (s.data.toList.drop p) = some (q, c)) (ha : cutB 61 q = some (a, t)) (hPc : Pc q) :
  Calls Tryz.prog 95 #[.pointer (some ⟨R, 0, none⟩)] w (RdPost n A R kb s ((rdC q).map fun F => (F, (s.data.toList.drop p).drop q.length)) w) := by
 obtain ⟨V, hV⟩ : ∃ V, V = w.alloc (.cells zfd.cs 25) := ⟨_, rfl⟩
 have hVb : Below w.heap.size w V := by rw [hV]; exact (Below.refl _ _).alloc (Nat.le_refl _) _
 have hV0 : V.heap[w.heap.size]? = some (.cells zfd.cs 25 (0, 0)) := by rw [hV]; exact World.alloc_heap_new _ _
 have hVz : w.heap.size < V.heap.size := by rw [hV]; simp
 have hRw := hE.r.lt
 have hEV := hE.below hVb
 obtain ⟨⟨k0, k1, k2⟩, _⟩ := hEV.r.cells
 have q0 := fun z : Kw V => Kw.cell z k0 (D.lt_cell k0)
 have q1 := fun z : Kw V => Kw.cell z k1 (D.lt_cell k1)
 have hne : Nonempty (Kw V) := kwNonempty V
 have hmx : Tryz.prog.follows .mixedOrders = true := by kernel_rfl
 have HVw := H_ hV
 have hql : q.length + p <= s.size /\ a.length <= q.length /\ t.length <= q.length := by
  have h1 := congrArg List.length (cutB_some _ _ _ _ hq).1
  have h2 := congrArg List.length (cutB_some _ _ _ _ ha).1
  simp at h1 h2
  have : s.data.size = s.size := rfl
  omega
 obtain ⟨hP1, hP2⟩ := hPc
 rw [ha] at hP2
 obtain ⟨pc, hpc⟩ : ∃ pc : ByteArray, pc = ⟨q.toArray⟩ := ⟨_, rfl⟩
 obtain ⟨an, han⟩ : ∃ an : ByteArray, an = ⟨a.toArray⟩ := ⟨_, rfl⟩
 obtain ⟨tt, htt⟩ : ∃ tt : ByteArray, tt = ⟨t.toArray⟩ := ⟨_, rfl⟩
 have hpcl : pc.data.toList = q := by rw [hpc]
 have hanl : an.data.toList = a := by rw [han]
 have httl : tt.data.toList = t := by rw [htt]
 have hpz : pc.size = q.length := by rw [hpc]; show q.toArray.size = _; simp
 have haz : an.size = a.length := by rw [han]; show a.toArray.size = _; simp
 have htz : tt.size = t.length := by rw [htt]; show t.toArray.size = _; simp
 have HU := fun z : Kw V => upTo_any s p 41 z.w hs hp
 rw [hq] at HU
 simp only at HU
 rw [<- hpc] at HU
 have HC := H_ fun z : Kw V => z.call (HU z)
 have HK := H_ fun W => cut_some 61 pc a t W (by omega) (by rw [hpcl]; exact ha)
 rw [<- han, <- htt] at HK
 obtain ⟨m, hm⟩ : ∃ m, m = an.size - 1 := ⟨_, rfl⟩
 have hmi : max ((an.size : Int) - 1) 0 = (m : Int) := by omega
 have hml : (m : Int) <= an.size := by omega
 have hkl := kind_look an m hm
 rw [hanl] at hkl
 have HE := H_ hEV
 have HVx := H_ (And.intro hVb hV0)
 have Hz := H_ (And.intro hql (And.intro hpz (And.intro haz htz)))
 have hps : (p : Int) + pc.size <= 100000000 := by omega
 have han2 : (an.size : Int) <= 2000 := by omega
 have HP := H_ (And.intro hP1 hP2)
 have Hq := H_ (And.intro hq ha)
 have Htl := H_ httl
 have Hal := H_ hanl
 obtain ⟨ko, hko⟩ : ∃ ko, kindS ((an.extract m an.size).data.toList ++ [61]) = ko := ⟨_, rfl⟩
 rw [hko] at hkl
 have Hlook : Hid (∀ W, KindsAt W kb -> (Instr.lookup 73 (.map (some kb)) (.string (an.extract m an.size ++ ⟨#[61]⟩)) true).run Tryz.prog W = .ok (.tuple #[.int .i64 (ko.getD 0), .bool ko.isSome]) W) := H_ fun W (h : KindsAt W kb) => by
  have := h.look (an.extract m an.size ++ ⟨#[61]⟩) (by unfold maxLen; rw [ByteArray.size_append, ByteArray.size_extract]; show _ + 1 <= _; omega)
  rwa [E.data_app, show (⟨#[61]⟩ : ByteArray).data.toList = [61] from rfl, hko] at this
 clear hko
 clear hE hs hV hVb hV0 hEV k0 k1 k2 HU hql hpz haz htz hP1 hP2 hq ha hpcl hanl httl hpc han htt hm
 go_enter Tryz.func95, Tryz.ntmps95
 go_wp2_with fail
 rw [<- un HVw]
 refine wp_region_kw0 (by kernel_rfl) (by kernel_rfl) ?_
 repeat (go_big_quiet_step (first | with_reducible exact (un HC) _))
 refine wpQuiet_nil ?_
 rintro w' ⟨z, rfl⟩
 clear q0 q1 hne
 go_wp2_with fail
 refine ((un HK) _).mono ?_
 rintro e w2 ⟨rfl, hb2⟩
 have HB2 := H_ (z.b.trans (hb2.mono z.b.size))
 clear hb2 HC HK
 have hE2 := (un HE).below (un HB2)
 obtain ⟨⟨k0, k1, k2⟩, f1⟩ := hE2.r.cells
 have hE3 := hE2.set (p + pc.size)
 rw [show ((p + pc.size : Nat) : Int) = (p : Int) + pc.size by omega] at hE3
 have HE3 := H_ hE3
 have HE2 := H_ hE2
 clear hE2 hE3
 go_wp2_with fail
 obtain ⟨X, hX⟩ : ∃ X, X = w2.setCell ⟨R, 1, none⟩ (.int .i64 ((p : Int) + pc.size)) := ⟨_, rfl⟩
 rw [<- hX]
 have hE3 := un HE3
 rw [<- hX] at hE3
 have hXw : But R w X := by rw [hX]; exact (But.of_below ((un HVx).1.trans ((un HB2).mono (by omega)))).setCell _ _
 have hXn : X.heap[w.heap.size]? = some (.cells zfd.cs 25 (0, 0)) := by
  rw [hX]
  exact (Below.heap_setCell _ _ _ _ (by show w.heap.size ≠ R; omega)).trans (((un HB2).block _ hVz).trans (un HVx).2)
 have hl := fun z : Kw X => (un Hlook) z.w (hE3.k.below z.b)
 obtain ⟨⟨_, _, x2⟩, _⟩ := hE3.r.cells
 have q2 := fun z : Kw X => Kw.cell z x2 (D.lt_cell x2)
 have hne : Nonempty (Kw X) := kwNonempty X
 have HX := H_ (And.intro hXw (And.intro hXn hE3))
 clear k0 k1 k2 f1 HE3 HE2 hX hXw hXn hE3 x2
 cases ko with
 | none =>
  simp only at hkl
  refine wp_region_kw0 (by kernel_rfl) (by kernel_rfl) ?_
  repeat (go_big_quiet_step (fail))
  refine wpQuiet_nil ?_
  rintro w' ⟨y, rfl⟩
  have HR := H_ (readValues_any n 3 tt A y.w (((un HX).2.2.below y.b).glob) (by have := un Hz; have := (un HE).r.lt; omega) (by
   rw [un Htl]
   have h2 := (un HP).2
   rw [hkl] at h2
   rw [(un Hz).2.2.2]
   exact h2))
  rw [un Htl] at HR
  clear q2 hne hl
  go_wp2_with fail
  refine (un HR).mono ?_
  rintro e w3 he
  obtain ⟨d, er, rfl, hb3, hL⟩ := leaf_any he
  have HB3 := H_ (And.intro hb3 hL)
  clear HR he hb3 hL
  obtain ⟨dk, da, dv, dsa, dsn, dsc, df, dla, dln, dlc⟩ := d
  go_wp2_with fail
  have HCl := H_ fun W => clone_any an W (by have := un Hz; have := (un HP).1; omega)
  refine ((un HCl) _).mono ?_
  rintro e w4 ⟨rfl, hb4⟩
  have hs3 := (un HB3).1.size
  have hsy := y.b.size
  have hXn := (un HX).2.1
  have hXs : w.heap.size < X.heap.size := (Array.getElem?_eq_some_iff.1 hXn).1
  have hs4 : w3.heap.size + 1 <= w4.heap.size := by have := hb4.size; simpa using this
  have k4 : ∀ b, b < w3.heap.size -> w4.heap[b]? = w3.heap[b]? := fun b hb => (hb4.block b (by simp; omega)).trans (Below.heap_alloc _ _ _ hb)
  have hbx : w4.heap[w3.heap.size]? = some (.cells (Fd.cs ⟨dk, da, dv, dsa, dsn, dsc, df, dla, dln, dlc⟩) 25 (0, 0)) := (hb4.block _ (by simp)).trans (World.alloc_heap_new _ _)
  have hn4 : w4.heap[w.heap.size]? = some (.cells zfd.cs 25 (0, 0)) := (k4 _ (by omega)).trans (((un HB3).1.block _ (by omega)).trans ((y.b.block _ hXs).trans hXn))
  have hB4 : But R w w4 := ((((un HX).1.trans (But.of_below y.b)).trans (But.of_below (un HB3).1)).trans (But.of_below ((Below.refl _ _).alloc (Nat.le_refl _) _))).trans (But.of_below hb4)
  have hR4 : RAt w4 R s kb (p + pc.size) := ((((un HX).2.2.r.below y.b).below (un HB3).1).below ((Below.refl _ _).alloc (Nat.le_refl _) _)).below hb4
  obtain ⟨⟨c0, c1, c2, c3, c4, c5⟩, f0, f1, f2, f3, f4, f5⟩ := box6 hbx
  dsimp only at c0 c1 c2 c3 c4 c5
  obtain ⟨⟨e0, e1, e2, e3, e4, e5⟩, r0, r1, r2, r3, r4, r5⟩ := box6 hn4
  dsimp only at e0 e1 e2 e3 e4 e5
  have n1 : w3.heap.size ≠ w.heap.size := by omega
  have n2 : w.heap.size ≠ w3.heap.size := by omega
  have HF := H_ (And.intro hs3 (And.intro hsy (And.intro hXs (And.intro hs4 (And.intro k4 (And.intro hbx (And.intro hn4 (And.intro hB4 hR4))))))))
  clear HCl hb4 hs3 hsy hXn hXs hs4 k4 hbx hn4 hB4 hR4
  go_wp2
  obtain ⟨hs3, hsy, hXs, hs4, k4, hbx, hn4, hB4, hR4⟩ := un HF
  obtain ⟨G, hG⟩ : ∃ G, G = w4.setCell ⟨w3.heap.size, 1, none⟩ (.string an) := ⟨_, rfl⟩
  rw [<- hG]
  have hGb : But w3.heap.size w4 G := by rw [hG]; exact (But.refl _ _).setCell _ _
  have hGn : G.heap[w.heap.size]? = some (.cells zfd.cs 25 (0, 0)) := (hGb.block _ (by omega) n2).trans hn4
  have hGR : But R w G := hB4.late hGb (by omega)
  have h0 := set6_blk hGn ⟨dk, an, dv, dsa, dsn, dsc, df, dla, dln, dlc⟩
  have hSb := set6_but G w.heap.size ⟨dk, an, dv, dsa, dsn, dsc, df, dla, dln, dlc⟩
  have hSR : But R w (set6 G w.heap.size ⟨dk, an, dv, dsa, dsn, dsc, df, dla, dln, dlc⟩) := hGR.late hSb (Nat.le_refl _)
  have hRR := (hR4.but hGb (by omega)).but hSb (by omega)
  have hp : RdPost n A R kb s ((rdC q).map fun F => (F, (s.data.toList.drop p).drop q.length)) w (.returned (.tuple #[Fd.val ⟨dk, an, dv, dsa, dsn, dsc, df, dla, dln, dlc⟩, er])) (set6 G w.heap.size ⟨dk, an, dv, dsa, dsn, dsc, df, dla, dln, dlc⟩) := by
   refine ⟨hSR, ?_⟩
   rw [rdC_is (un Hq).2 an 3 (by rw [un Hal]; exact hkl)]
   have hL := (un HB3).2
   cases ho : (rdVals 3 ⟨#[]⟩ t : Option (Fl (n + 1))) with
   | none =>
    rw [ho] at hL
    obtain ⟨T, x, rfl, hE⟩ := hL
    exact ⟨_, T, x, rfl, hE⟩
   | some F =>
    rw [ho] at hL
    obtain ⟨rfl, hN⟩ := hL
    have hN2 := named hN an (by have := un Hz; have := (un HP).1; omega)
    refine ⟨_, rfl, (hN2.of fun b hb hl => ?_).imp fun b hb _ => by omega, p + pc.size, hRR, by have := un Hz; omega, ?_⟩
    ·exact (hSb.block b (by have := hGb.size; omega) (by omega)).trans ((hGb.block b (by omega) (by omega)).trans (k4 b hl))
    ·rw [(un Hz).2.1, List.drop_drop]
  exact finC (b := w.heap.size) (d := ⟨dk, an, dv, dsa, dsn, dsc, df, dla, dln, dlc⟩) (u := er) h0 rfl rfl hp
 | some kd =>
  simp only at hkl
  refine wp_region_kw0 (by kernel_rfl) (by kernel_rfl) ?_
  repeat (go_big_quiet_step (fail))
  refine wpQuiet_nil ?_
  rintro w' ⟨y, rfl⟩
  have HR := H_ (readValues_any n kd tt A y.w (((un HX).2.2.below y.b).glob) (by have := un Hz; have := (un HE).r.lt; omega) (by
   rw [un Htl]
   have h2 := (un HP).2
   rw [hkl] at h2
   rw [(un Hz).2.2.2]
   exact h2))
  rw [un Htl] at HR
  clear q2 hne hl
  go_wp2_with fail
  refine (un HR).mono ?_
  rintro e w3 he
  obtain ⟨d, er, rfl, hb3, hL⟩ := leaf_any he
  have HB3 := H_ (And.intro hb3 hL)
  clear HR he hb3 hL
  obtain ⟨dk, da, dv, dsa, dsn, dsc, df, dla, dln, dlc⟩ := d
  go_wp2_with fail
  have HCl := H_ fun W => clone_any (an.extract 0 m) W (by have := un Hz; have := (un HP).1; rw [ByteArray.size_extract]; omega)
  refine ((un HCl) _).mono ?_
  rintro e w4 ⟨rfl, hb4⟩
  have hs3 := (un HB3).1.size
  have hsy := y.b.size
  have hXn := (un HX).2.1
  have hXs : w.heap.size < X.heap.size := (Array.getElem?_eq_some_iff.1 hXn).1
  have hs4 : w3.heap.size + 1 <= w4.heap.size := by have := hb4.size; simpa using this
  have k4 : ∀ b, b < w3.heap.size -> w4.heap[b]? = w3.heap[b]? := fun b hb => (hb4.block b (by simp; omega)).trans (Below.heap_alloc _ _ _ hb)
  have hbx : w4.heap[w3.heap.size]? = some (.cells (Fd.cs ⟨dk, da, dv, dsa, dsn, dsc, df, dla, dln, dlc⟩) 25 (0, 0)) := (hb4.block _ (by simp)).trans (World.alloc_heap_new _ _)
  have hn4 : w4.heap[w.heap.size]? = some (.cells zfd.cs 25 (0, 0)) := (k4 _ (by omega)).trans (((un HB3).1.block _ (by omega)).trans ((y.b.block _ hXs).trans hXn))
  have hB4 : But R w w4 := ((((un HX).1.trans (But.of_below y.b)).trans (But.of_below (un HB3).1)).trans (But.of_below ((Below.refl _ _).alloc (Nat.le_refl _) _))).trans (But.of_below hb4)
  have hR4 : RAt w4 R s kb (p + pc.size) := ((((un HX).2.2.r.below y.b).below (un HB3).1).below ((Below.refl _ _).alloc (Nat.le_refl _) _)).below hb4
  obtain ⟨⟨c0, c1, c2, c3, c4, c5⟩, f0, f1, f2, f3, f4, f5⟩ := box6 hbx
  dsimp only at c0 c1 c2 c3 c4 c5
  obtain ⟨⟨e0, e1, e2, e3, e4, e5⟩, r0, r1, r2, r3, r4, r5⟩ := box6 hn4
  dsimp only at e0 e1 e2 e3 e4 e5
  have n1 : w3.heap.size ≠ w.heap.size := by omega
  have n2 : w.heap.size ≠ w3.heap.size := by omega
  have HF := H_ (And.intro hs3 (And.intro hsy (And.intro hXs (And.intro hs4 (And.intro k4 (And.intro hbx (And.intro hn4 (And.intro hB4 hR4))))))))
  clear HCl hb4 hs3 hsy hXn hXs hs4 k4 hbx hn4 hB4 hR4
  go_wp2
  obtain ⟨hs3, hsy, hXs, hs4, k4, hbx, hn4, hB4, hR4⟩ := un HF
  obtain ⟨G, hG⟩ : ∃ G, G = w4.setCell ⟨w3.heap.size, 1, none⟩ (.string (an.extract 0 m)) := ⟨_, rfl⟩
  rw [<- hG]
  have hGb : But w3.heap.size w4 G := by rw [hG]; exact (But.refl _ _).setCell _ _
  have hGn : G.heap[w.heap.size]? = some (.cells zfd.cs 25 (0, 0)) := (hGb.block _ (by omega) n2).trans hn4
  have hGR : But R w G := hB4.late hGb (by omega)
  have h0 := set6_blk hGn ⟨dk, (an.extract 0 m), dv, dsa, dsn, dsc, df, dla, dln, dlc⟩
  have hSb := set6_but G w.heap.size ⟨dk, (an.extract 0 m), dv, dsa, dsn, dsc, df, dla, dln, dlc⟩
  have hSR : But R w (set6 G w.heap.size ⟨dk, (an.extract 0 m), dv, dsa, dsn, dsc, df, dla, dln, dlc⟩) := hGR.late hSb (Nat.le_refl _)
  have hRR := (hR4.but hGb (by omega)).but hSb (by omega)
  have hp : RdPost n A R kb s ((rdC q).map fun F => (F, (s.data.toList.drop p).drop q.length)) w (.returned (.tuple #[Fd.val ⟨dk, (an.extract 0 m), dv, dsa, dsn, dsc, df, dla, dln, dlc⟩, er])) (set6 G w.heap.size ⟨dk, (an.extract 0 m), dv, dsa, dsn, dsc, df, dla, dln, dlc⟩) := by
   refine ⟨hSR, ?_⟩
   rw [rdC_is (un Hq).2 (an.extract 0 m) kd (hkl)]
   have hL := (un HB3).2
   cases ho : (rdVals kd ⟨#[]⟩ t : Option (Fl (n + 1))) with
   | none =>
    rw [ho] at hL
    obtain ⟨T, x, rfl, hE⟩ := hL
    exact ⟨_, T, x, rfl, hE⟩
   | some F =>
    rw [ho] at hL
    obtain ⟨rfl, hN⟩ := hL
    have hN2 := named hN (an.extract 0 m) (by have := un Hz; have := (un HP).1; rw [ByteArray.size_extract]; omega)
    refine ⟨_, rfl, (hN2.of fun b hb hl => ?_).imp fun b hb _ => by omega, p + pc.size, hRR, by have := un Hz; omega, ?_⟩
    ·exact (hSb.block b (by have := hGb.size; omega) (by omega)).trans ((hGb.block b (by omega) (by omega)).trans (k4 b hl))
    ·rw [(un Hz).2.1, List.drop_drop]
  exact finC (b := w.heap.size) (d := ⟨dk, (an.extract 0 m), dv, dsa, dsn, dsc, df, dla, dln, dlc⟩) (u := er) h0 rfl rfl hp
theorem condition_any (n : Nat) (A : Ad) (w0 : World) (R kb p : Nat) (s : ByteArray) (w : World) (hE : Env A w0 R kb s p w) (hs : s.size <= 100000000) (hp : p <= s.size)
  (hPc : ∀ q c, cutB 41 (s.data.toList.drop p) = some (q, c) -> Pc q) :
  Calls Tryz.prog 95 #[.pointer (some ⟨R, 0, none⟩)] w (RdPost n A R kb s (rdCon (s.data.toList.drop p)) w) := by
 unfold rdCon
 cases hq : cutB 41 (s.data.toList.drop p) with
 | none => exact condition_bad n A w0 R kb p s w hE hs hp (by rw [hq]; trivial)
 | some q =>
  obtain ⟨q, c⟩ := q
  simp only
  cases ha : cutB 61 q with
  | none =>
   have h := condition_bad n A w0 R kb p s w hE hs hp (by rw [hq]; exact ha)
   unfold rdC
   rw [ha]
   exact h
  | some x =>
   obtain ⟨a, t⟩ := x
   exact condition_ok n A w0 R kb p s w hE hs hp q c a t hq ha (hPc q c hq)
end Go.Proofs.YtjhnblgamodekaaGreatDoor.F
/-
 The closure that filter defers. Conditions: the package-level variables hold what the program's text lays.
-/
namespace Go.Proofs.YtjhnblgamodekaaGreatDoor.F
open Go Go.RowKit Go.Shelf Fp
open D (H_ un ext_list)
attribute [local go_sem] Oper.semAt_some
structure Only2 (n : Nat) (w w' : World) : Prop where
 os : w'.os = w.os
 tape : w'.tape = w.tape
 output : w'.output = w.output
 size : w.heap.size <= w'.heap.size
 block : ∀ k, k < w.heap.size -> k ≠ n -> k ≠ n + 1 -> w'.heap[k]? = w.heap[k]?
theorem Only2.of_below {n : Nat} {w w' : World} (h : Below w.heap.size w w') : Only2 n w w' := ⟨h.os, h.tape, h.output, h.size, fun k hk _ _ => h.block k hk⟩
theorem Only2.but0 {n : Nat} {u v w : World} (h : Only2 n u v) (k : But n v w) : Only2 n u w := ⟨k.os.trans h.os, k.tape.trans h.tape, k.output.trans h.output, Nat.le_trans h.size k.size, fun i hi h1 h2 => (k.block i (Nat.lt_of_lt_of_le hi h.size) h1).trans (h.block i hi h1 h2)⟩
theorem Only2.but1 {n : Nat} {u v w : World} (h : Only2 n u v) (k : But (n + 1) v w) : Only2 n u w := ⟨k.os.trans h.os, k.tape.trans h.tape, k.output.trans h.output, Nat.le_trans h.size k.size, fun i hi h1 h2 => (k.block i (Nat.lt_of_lt_of_le hi h.size) h2).trans (h.block i hi h1 h2)⟩
def DefPost (A : Ad) (n : Nat) (d : Fd) (ok : Bool) (w w' : World) : Prop := Only2 n w w' /\
 if ok then w'.heap[n]? = some (.cells d.cs 25 (0, 0)) /\ w'.heap[n + 1]? = some (.cells #[.nilIface] 42 (0, 0))
 else w'.heap[n]? = some (.cells zfd.cs 25 (0, 0)) /\ ∃ T x, w'.heap[n + 1]? = some (.cells #[.iface T x] 42 (0, 0)) /\ IsErr A (.iface T x)
theorem defPost_bad {A : Ad} {n : Nat} {d : Fd} {w v : World} {T T' : TypeId} {x y : Value} {b : Fd} (h0 : v.heap[n]? = some (.cells b.cs 25 (0, 0))) (h1 : v.heap[n + 1]? = some (.cells #[y] T' (0, 0))) (hT : T' = 42)
  (hO : Only2 n w v) (hE : IsErr A (.iface T x)) : DefPost A n d false w ((set6 v n zfd).setCell ⟨n + 1, 0, none⟩ (.iface T x)) := by
 subst hT
 have hb := set6_but v n zfd
 have g0 := set6_blk h0 zfd
 have g1 := (hb.block _ (Array.getElem?_eq_some_iff.1 h1).1 (by omega)).trans h1
 refine ⟨(hO.but0 hb).but1 ((But.refl _ _).setCell _ _), ?_⟩
 rw [if_neg (by simp)]
 exact ⟨(Below.heap_setCell _ _ _ _ (by show n ≠ n + 1; omega)).trans g0, T, x, heap_set _ _ 0 _ _ _ g1, hE⟩
theorem defer_err (A : Ad) (n : Nat) (d : Fd) (T : TypeId) (x : Value) (fr : Int) (u : FrameMode) (w : World) (h0 : w.heap[n]? = some (.cells d.cs 25 (0, 0))) (h1 : w.heap[n + 1]? = some (.cells #[.iface T x] 42 (0, 0)))
  (h2 : w.heap[n + 1 + 1]? = some (.cells #[.int .i64 fr] 3 (0, 0))) (hE : IsErr A (.iface T x)) :
  CallsD Tryz.prog 73 #[.pointer (some ⟨n + 1, 0, none⟩), .pointer (some ⟨n, 0, none⟩), .pointer (some ⟨n + 1 + 1, 0, none⟩)] u w fun e u' w' => u' = u /\ e = .returned (.tuple #[]) /\ DefPost A n d false w w' := by
 obtain ⟨⟨c0, c1, c2, c3, c4, c5⟩, f0, f1, f2, f3, f4, f5⟩ := box6 h0
 obtain ⟨c6, f6⟩ := box1 h1
 obtain ⟨c7, _⟩ := box1 h2
 have HB := H_ (And.intro h0 (And.intro h1 hE))
 clear h0 h1 h2 hE
 obtain ⟨dk, da, dv, dsa, dsn, dsc, df, dla, dln, dlc⟩ := d
 dsimp only at c0 c1 c2 c3 c4 c5
 go_enter_d Tryz.func73, Tryz.ntmps73
 go_wp2
 go_end0
 obtain ⟨h0, h1, hE⟩ := un HB
 have := defPost_bad (d := ⟨dk, da, dv, dsa, dsn, dsc, df, dla, dln, dlc⟩) (b := ⟨dk, da, dv, dsa, dsn, dsc, df, dla, dln, dlc⟩) h0 h1 rfl (.of_below (Below.refl _ _)) (hE.wrap fr)
 exact ⟨rfl, this⟩
theorem defer_fits (A : Ad) (n m : Nat) (F : Fl (m + 1)) (d : Fd) (p : Nat -> Prop) (fr : Int) (u : FrameMode) (w : World) (g : Glob A w) (h0 : w.heap[n]? = some (.cells d.cs 25 (0, 0))) (h1 : w.heap[n + 1]? = some (.cells #[.nilIface] 42 (0, 0)))
  (h2 : w.heap[n + 1 + 1]? = some (.cells #[.int .i64 fr] 3 (0, 0))) (hN : FNode (m + 1) w p d F) :
  CallsD Tryz.prog 73 #[.pointer (some ⟨n + 1, 0, none⟩), .pointer (some ⟨n, 0, none⟩), .pointer (some ⟨n + 1 + 1, 0, none⟩)] u w fun e u' w' => u' = u /\ e = .returned (.tuple #[]) /\ DefPost A n d (fitF F) w w' := by
 obtain ⟨⟨c0, c1, c2, c3, c4, c5⟩, f0, f1, f2, f3, f4, f5⟩ := box6 h0
 obtain ⟨c6, f6⟩ := box1 h1
 obtain ⟨c7, _⟩ := box1 h2
 have HF := H_ (fits_any F d A w p g hN.is hN.sm hN.strs)
 have HB := H_ (And.intro h0 (And.intro h1 h2))
 clear h0 h1 h2 hN g
 obtain ⟨dk, da, dv, dsa, dsn, dsc, df, dla, dln, dlc⟩ := d
 dsimp only at c0 c1 c2 c3 c4 c5
 cases hf : fitF F with
 | true =>
  rw [hf] at HF
  go_enter_d Tryz.func73, Tryz.ntmps73
  go_wp2_with fail
  refine (un HF).mono ?_
  rintro e w1 ⟨hb, he⟩
  rw [if_pos rfl] at he
  subst he
  obtain ⟨h0, h1, h2⟩ := un HB
  have g0 := (hb.block _ (Array.getElem?_eq_some_iff.1 h0).1).trans h0
  have g1 := (hb.block _ (Array.getElem?_eq_some_iff.1 h1).1).trans h1
  have HQ := H_ (And.intro g0 (And.intro g1 hb))
  clear c0 c1 c2 c3 c4 c5 f0 f1 f2 f3 f4 f5 c6 f6 c7 h0 h1 h2
  obtain ⟨c6, f6⟩ := box1 g1
  clear g0 g1 hb HF
  go_wp2
  go_end0
  obtain ⟨g0, g1, hb⟩ := un HQ
  exact ⟨rfl, (Only2.of_below hb).but1 ((But.refl _ _).setCell _ _), (Below.heap_setCell _ _ _ _ (by show n ≠ n + 1; omega)).trans g0, heap_set _ _ 0 _ _ _ g1⟩
 | false =>
  rw [hf] at HF
  go_enter_d Tryz.func73, Tryz.ntmps73
  go_wp2_with fail
  refine (un HF).mono ?_
  rintro e w1 ⟨hb, he⟩
  rw [if_neg (by simp)] at he
  obtain ⟨v, rfl, hE⟩ := he
  obtain ⟨T, x, rfl⟩ := hE.form
  obtain ⟨h0, h1, h2⟩ := un HB
  have g0 := (hb.block _ (Array.getElem?_eq_some_iff.1 h0).1).trans h0
  have g1 := (hb.block _ (Array.getElem?_eq_some_iff.1 h1).1).trans h1
  have g2 := (hb.block _ (Array.getElem?_eq_some_iff.1 h2).1).trans h2
  have HQ := H_ (And.intro g0 (And.intro g1 (And.intro hb hE)))
  clear c0 c1 c2 c3 c4 c5 f0 f1 f2 f3 f4 f5 c6 f6 c7 h0 h1 h2
  obtain ⟨⟨c0, c1, c2, c3, c4, c5⟩, f0, f1, f2, f3, f4, f5⟩ := box6 g0
  dsimp only at c0 c1 c2 c3 c4 c5
  obtain ⟨c6, f6⟩ := box1 g1
  obtain ⟨c7, _⟩ := box1 g2
  clear g0 g1 g2 hb hE HF
  go_wp2
  go_end0
  obtain ⟨g0, g1, hb, hE⟩ := un HQ
  have k0 : (w1.setCell ⟨n + 1, 0, none⟩ (.iface T x)).heap[n]? = some (.cells (Fd.cs ⟨dk, da, dv, dsa, dsn, dsc, df, dla, dln, dlc⟩) 25 (0, 0)) := (Below.heap_setCell _ _ _ _ (by show n ≠ n + 1; omega)).trans g0
  have k1 : (w1.setCell ⟨n + 1, 0, none⟩ (.iface T x)).heap[n + 1]? = some (.cells #[.iface T x] 42 (0, 0)) := heap_set _ _ 0 _ _ _ g1
  have := defPost_bad (A := A) (w := w) (d := ⟨dk, da, dv, dsa, dsn, dsc, df, dla, dln, dlc⟩) k0 k1 rfl ((Only2.of_below hb).but1 ((But.refl _ _).setCell _ _)) (hE.wrap fr)
  exact ⟨rfl, this⟩
end Go.Proofs.YtjhnblgamodekaaGreatDoor.F
