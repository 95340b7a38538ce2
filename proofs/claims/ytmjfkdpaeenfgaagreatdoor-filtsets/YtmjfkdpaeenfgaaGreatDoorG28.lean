/-
  Several texts in one: FRd3, FRd4, FRd5, FRd6, FRd7, FGrow, FRd8. Each says what it proves, and its conditions.
-/
import Derived.Test.YtmjfkdpaeenfgaaGreatDoorG27
import Derived.Test.YtmjfkdpaeenfgaaGreatDoorFFitsU
import Derived.Defers
import Derived.Laws.OwnMore
/-
  readPieces. Conditions: the package-level variables hold what the program's text lays; each piece has at most 1000 bytes, and there are 2 to 100.
-/
namespace Go.Proofs.YtmjfkdpaeenfgaaGreatDoor.F
open Go Go.RowKit Go.Shelf Fp
open Go.Proofs.YtmjfkdpaeenfgaaGreatDoor.Dp (mp)
open Go.Proofs.YtmjfkdpaeenfgaaGreatDoor.D (hide unhide ext_list)
attribute [local go_sem] Oper.semAt_some

/-- the results' boxes, and the pieces' box. -/
structure Pin (w : World) (vals : List ByteArray) (v : Value) (W : World) : Prop where
  b0 : W.heap[w.heap.size]? = some (.cells zfd.cs 25 (0, 0))
  b1 : W.heap[w.heap.size + 1]? = some (.cells #[.nilIface] 47 (0, 0))
  nin : Nin w (w.heap.size + 2) (w.heap.size + 8) vals v W
theorem Pin.but {w : World} {vals : List ByteArray} {v : Value} {W V : World} {l : Nat} (h : Pin w vals v W) (hb : But l W V) (h1 : w.heap.size + 2 < l) (h2 : l < w.heap.size + 8) : Pin w vals v V :=
  ⟨(hb.block _ (Array.getElem?_eq_some_iff.1 h.b0).1 (by omega)).trans h.b0, (hb.block _ (Array.getElem?_eq_some_iff.1 h.b1).1 (by omega)).trans h.b1, h.nin.but hb h1 h2⟩
theorem Pin.below {w : World} {vals : List ByteArray} {v : Value} {W V : World} (h : Pin w vals v W) (hb : Below W.heap.size W V) : Pin w vals v V :=
  ⟨(hb.block _ (Array.getElem?_eq_some_iff.1 h.b0).1).trans h.b0, (hb.block _ (Array.getElem?_eq_some_iff.1 h.b1).1).trans h.b1, h.nin.below hb⟩
/-- what a round keeps. -/
def Kq (n : Nat) (A B : World) : Prop := Kpt (fun k => n + 3 ≤ k ∧ k < n + 6) A B ∧ Two (n + 6) (n + 6 + 1) A B
theorem Kq.trans {n : Nat} {A B C : World} (h : Kq n A B) (k : Kq n B C) : Kq n A C := ⟨h.1.trans k.1, h.2.trans k.2⟩
theorem Kq.below {n : Nat} {A B : World} (h : Below A.heap.size A B) (hz : n + 8 ≤ A.heap.size) : Kq n A B := ⟨Kpt.of_below h, h.block _ (by omega), h.block _ (by omega)⟩
theorem Kq.set (n : Nat) (W : World) (b i : Nat) (v : Value) (hb : b < n + 3) : Kq n W (W.setCell ⟨b, i, none⟩ v) :=
  ⟨⟨by simp, fun k hk _ => Below.heap_setCell _ _ _ _ (by show k ≠ b; omega)⟩, Below.heap_setCell _ _ _ _ (by show n + 6 ≠ b; omega), Below.heap_setCell _ _ _ _ (by show n + 6 + 1 ≠ b; omega)⟩
theorem Pin.app {w : World} {vals : List ByteArray} {v v' : Value} {x : ByteArray} {W V : World} (h : Pin w vals v W) (hown : V.ownsRow (w.heap.size + 8) 9 1 v' (vals.length + 1) (strs vals ++ [.string x])) (hg : W.grownBy V v.ownBlock) (hz : w.heap.size + 8 ≤ W.heap.size) :
    Pin w (vals ++ [x]) v' (V.setCell ⟨w.heap.size + 2, 0, none⟩ v') ∧ Kq w.heap.size W (V.setCell ⟨w.heap.size + 2, 0, none⟩ v') ∧ V.cell? ⟨w.heap.size + 2, 0, none⟩ = some v ∧ V.frozen? ⟨w.heap.size + 2, 0, none⟩ = false := by
  obtain ⟨h1, h2, h3, h4⟩ := Nin.app (D := w.heap.size + 6) h.nin (by omega) hown hg hz
  have hrow : ∀ k, v.ownBlock = some k → w.heap.size + 8 ≤ k := fun k e => (h.nin.own.lt k e).1
  have hk : ∀ k, k < w.heap.size + 8 → k ≠ w.heap.size + 2 → (V.setCell ⟨w.heap.size + 2, 0, none⟩ v').heap[k]? = W.heap[k]? := fun k hl hn =>
    (Below.heap_setCell _ _ _ _ hn).trans (hg.block k (by omega) (fun e => by have := hrow k e.symm; omega))
  refine ⟨⟨(hk _ (by omega) (by omega)).trans h.b0, (hk _ (by omega) (by omega)).trans h.b1, h1⟩, ⟨⟨h2.1.1, fun k hs _ => hk k (by omega) (by omega)⟩, h2.2⟩, h3, h4⟩

theorem spb_len (c : UInt8) (s : ByteArray) : (spb c s).length = s.data.toList.count c + 1 := by unfold spb; rw [List.length_map, spl_len]
theorem spb_map (c : UInt8) (s : ByteArray) : (spb c s).map (fun x => x.data.toList) = spl c s.data.toList := by
  unfold spb
  rw [List.map_map]
  conv => rhs; rw [← List.map_id (spl c s.data.toList)]
  refine List.map_congr_left fun l _ => ?_
  show l.toArray.toList = l
  simp
theorem spb_small {s : ByteArray} (hP : ∀ l ∈ spl 42 s.data.toList, l.length ≤ 1000) {q : List ByteArray} {x : ByteArray} (h : q ++ [x] <+: spb 42 s) : x.size ≤ 1000 := by
  have h1 := hP x.data.toList (spb_mem x (h.subset (by simp))).2
  rwa [E.len_toList] at h1

theorem mps {α : Type} (f : List UInt8 → Option α) (xs : List (List UInt8)) (y : List UInt8) (l : List α) (h : mp f xs = some l) : mp f (xs ++ [y]) = (f y).map fun a => l ++ [a] := by
  rw [Dp.mp_app, h, mp, mp]
  cases f y <;> rfl
theorem mpb {α : Type} (f : List UInt8 → Option α) (xs ys : List (List UInt8)) (y : List UInt8) (h : f y = none) : mp f (xs ++ [y] ++ ys) = none := by
  rw [Dp.mp_app, Dp.mp_app, mp, mp, h]
  cases mp f xs <;> rfl

/-- what readPieces leaves. -/
def PcsPost (A : Ad) (o : Option (List ByteArray)) (w : World) (e : Ending) (w' : World) : Prop := Below w.heap.size w w' ∧ match o with
  | some l => ∃ sa sc, e = .returned (.tuple #[Fd.val ⟨4, ⟨#[]⟩, l.headD ⟨#[]⟩, sa, l.tail.dropLast.length, sc, l.getLastD ⟨#[]⟩, none, 0, 0⟩, .nilIface]) ∧ Strs w' (fun b => w.heap.size ≤ b) sa l.tail.dropLast
  | none => ∃ T x, e = .returned (.tuple #[zfd.val, .iface T x]) ∧ IsErr A (.iface T x)

theorem own_strs {W : World} {base n : Nat} {v : Value} {xs : List ByteArray} (h : W.ownsRow base 9 1 v n (strs xs)) (hn : xs.length = n) : ∃ sa sc, v = .slice sa n sc ∧ Strs W (fun b => base ≤ b) sa xs := by
  cases xs with
  | nil =>
    rcases h.2 with ⟨h1, h2⟩ | ⟨g, cap, cur, h1, _⟩
    · exact ⟨none, 0, by rw [h1, h2], .inl rfl⟩
    · exact ⟨_, _, h1, .inl rfl⟩
  | cons y ys =>
    obtain ⟨g, cap, rfl, h1, _⟩ := h.form (by rw [← hn]; simp)
    exact ⟨_, _, rfl, .inr ⟨g, 0, rfl, h1, (own_cells _ h).1⟩⟩
theorem finP {w V : World} {D : Nat} {tmps : Array Value} {d : Fd} {u : Value} {R : Ending → World → Prop} (hV : V.heap[D]? = some (.deferred (some []))) (hD : w.heap.size + 2 ≤ D)
    (h0 : V.heap[w.heap.size]? = some (.cells d.cs 25 (0, 0))) (h1 : V.heap[w.heap.size + 1]? = some (.cells #[u] 47 (0, 0)))
    (t2 : tmps.getD 2 undef = .pointer (some ⟨w.heap.size, 0, none⟩)) (t3 : tmps.getD 3 undef = .pointer (some ⟨w.heap.size + 1, 0, none⟩)) (hp : R (.returned (.tuple #[d.val, u])) (V.putObj D (.deferred none))) :
    bodyPostM Fence.wide 7 Tryz.prog Tryz.f150 R Exit.ret { tmps, defers := [{ target := .collected D, args := #[] }] } V := by
  refine ⟨by simp, .inl ⟨_, _, rfl, run_takeDeferred hV, ?_⟩⟩
  refine ⟨.tuple #[d.val, u], ?_, hp⟩
  obtain ⟨⟨c0, c1, c2, c3, c4, c5⟩, _⟩ := box6 (W := V.putObj D (.deferred none)) ((World.putObj_heap_other (by omega)).trans h0)
  have c6 := (box1 (W := V.putObj D (.deferred none)) ((World.putObj_heap_other (by omega)).trans h1)).1
  have t2' : tmps[2]?.getD undef = .pointer (some ⟨w.heap.size, 0, none⟩) := by simpa using t2
  have t3' : tmps[3]?.getD undef = .pointer (some ⟨w.heap.size + 1, 0, none⟩) := by simpa using t3
  simp [results, Tryz.results150, go_sem, t2', t3', c0, c1, c2, c3, c4, c5, c6]

set_option linter.unusedSimpArgs false in
set_option maxRecDepth 100000 in
set_option maxHeartbeats 4000000 in
theorem readPieces_any (s : ByteArray) (A : Ad) (w : World) (g : Glob A w) (hs : s.size ≤ 100000000) (hP : ∀ l ∈ spl 42 s.data.toList, l.length ≤ 1000) (h2 : 2 ≤ (spl 42 s.data.toList).length) (h9 : (spl 42 s.data.toList).length ≤ 100) :
    Calls Tryz.prog 150 #[.string s] w (PcsPost A (mp rdV (spl 42 s.data.toList)) w) := by
  obtain ⟨V, hV⟩ : ∃ V, V = ((w.alloc (.cells zfd.cs 25)).alloc (.cells #[.nilIface] 47)).alloc (.cells #[.slice none 0 0] 22) := ⟨_, rfl⟩
  have hVz : V.heap.size = w.heap.size + 3 := by rw [hV]; simp
  have hVb : Below w.heap.size w V := by rw [hV]; exact (((Below.refl _ _).alloc (Nat.le_refl _) _).alloc (by simp) _).alloc (by simp; omega) _
  have hV0 : V.heap[w.heap.size]? = some (.cells zfd.cs 25 (0, 0)) := by
    rw [hV, Below.heap_alloc _ _ _ (by simp; omega), Below.heap_alloc _ _ _ (by simp)]; exact World.alloc_heap_new _ _
  have hV1 : V.heap[w.heap.size + 1]? = some (.cells #[.nilIface] 47 (0, 0)) := by
    rw [hV, Below.heap_alloc _ _ _ (by simp)]; have := World.alloc_heap_new (w.alloc (.cells zfd.cs 25)) (.cells #[.nilIface] 47); rwa [World.size_alloc] at this
  have hV2 : V.heap[w.heap.size + 2]? = some (.cells #[.slice none 0 0] 22 (0, 0)) := by
    rw [hV]; have := World.alloc_heap_new ((w.alloc (.cells zfd.cs 25)).alloc (.cells #[.nilIface] 47)) (.cells #[.slice none 0 0] 22); rwa [World.size_alloc, World.size_alloc] at this
  have HSp := splitSeq_any 42 s V
  rw [hVz] at HSp
  have HSp := hide HSp
  have HVw := hide hV
  have HVx := hide (And.intro hVb (And.intro hV0 (And.intro hV1 hV2)))
  have Hg := hide g
  have HP := hide hP
  have HL := hide (And.intro h2 h9)
  clear hV hVb hV0 hV1 hV2 g hP h2 h9
  refine (callsIn_wide (n := 7)).1 ?_
  refine callsIn_of_wp_marks Tryz.func150 rfl trivial ?_ rfl
  simp only [Tryz.ntmps150, List.size_toArray, List.length_cons, List.length_nil, Nat.reduceAdd, Nat.reduceSub, Array.replicate_succ, Array.replicate_zero, List.push_toArray, List.append_toArray, List.nil_append, List.cons_append]
  refine wpIn_wide.2 ?_
  go_wp2_with fail
  rw [← unhide HVw]
  refine (unhide HSp).mono ?_
  rintro e W0 ⟨rfl, hbw, hz, hB3⟩
  rw [← hVz] at hbw
  have hB0 := (unhide HVx).1.trans (hbw.mono (by omega))
  have hI0 : Pin w [] (.slice none 0 0) W0 := by
    obtain ⟨h1, h2, h3, h4⟩ := unhide HVx
    exact ⟨(hbw.block _ (by omega)).trans h2, (hbw.block _ (by omega)).trans h3, ⟨(hbw.block _ (by omega)).trans h4, World.ownsRow_nil _ _ _ _, hB0, ⟨by omega, by omega⟩, by omega⟩⟩
  clear HSp hbw HVw HVx hVz
  replace hz : W0.heap.size = w.heap.size + 6 := by omega
  go_wp2
  refine (wpIn_wide (n := 7)).1 ?_
  refine range_own (α := ByteArray) (σ := List ByteArray) (gf := 142) (lb := #[.pointer (some ⟨w.heap.size + 3 + 1, 0, none⟩), .pointer (some ⟨w.heap.size + 3, 0, none⟩), .pointer (some ⟨w.heap.size + 3 + 1 + 1, 0, none⟩)]) rfl (enters_of Tryz.func142 (by kernel_rfl) rfl)
    (fun x => #[.string x]) (fun _ => rfl) (Kpt fun k => w.heap.size + 3 ≤ k ∧ k < w.heap.size + 6) (But (w.heap.size + 3))
    (fun q W => ∃ vals v, mp rdV (q.map fun x => x.data.toList) = some vals ∧ Pin w vals v W)
    (fun cd _ W => cd = .ret ∧ ∃ T x, IsErr A (.iface T x) ∧ W.heap[w.heap.size]? = some (.cells zfd.cs 25 (0, 0)) ∧ W.heap[w.heap.size + 1]? = some (.cells #[.iface T x] 47 (0, 0)) ∧ Below w.heap.size w W)
    (fun q x _ => q ++ [x] <+: spb 42 s) (fun q x => q ++ [x]) [] (fun q _ => q = spb 42 s) (fun _ => mp rdV (spl 42 s.data.toList) = none) (fun _ _ => True) (fun _ x => rdV x.data.toList = none)
    (fun _ B => B) (fun x _ => { tmps := #[.string s, undef, .pointer (some ⟨w.heap.size, 0, none⟩), .pointer (some ⟨w.heap.size + 1, 0, none⟩), .pointer (some ⟨w.heap.size + 1 + 1, 0, none⟩), .string x, undef, undef, undef, .string s, .func (.func 142) #[] #[.pointer (some ⟨w.heap.size + 3 + 1, 0, none⟩), .pointer (some ⟨w.heap.size + 3, 0, none⟩), .pointer (some ⟨w.heap.size + 3 + 1 + 1, 0, none⟩)], .string x, undef, undef, undef, undef, undef, undef, undef, undef, undef, undef, undef, undef, undef, undef, undef, undef, undef, undef, undef, undef, undef, undef, undef, undef, undef, undef, undef, undef], defers := [] }) (fun _ _ => Below.refl _ _)
    Kpt.trans ?_ ?_ ?_ ?_ ?_ (fun _ _ _ _ _ h => h) (fun _ _ _ _ h => h) ⟨[], _, rfl, hI0⟩ ?iter ?assign ?body ?done ?stop
  · intro X Y hb
    rw [hz] at hb
    exact Kpt.of_but hb (by omega)
  · intro X Y hb hsz
    rw [hz] at hsz ⊢
    exact ⟨hb.block _ (by omega) (by omega), hb.block _ (by omega) (by omega)⟩
  · rintro _ X Y hb ⟨vals, v, h1, h2⟩
    rw [hz] at hb
    exact ⟨vals, v, h1, h2.but hb (by omega) (by omega)⟩
  · rintro _ X Y hb _ ⟨vals, v, h1, h2⟩
    exact ⟨vals, v, h1, h2.but hb (by omega) (by omega)⟩
  · rintro _ _ X Y hb ⟨h1, T, x, h2, h3, h4, h5⟩
    rw [hz] at hb
    exact ⟨h1, T, x, h2, (hb.block _ (Array.getElem?_eq_some_iff.1 h3).1 (by omega)).trans h3, (hb.block _ (Array.getElem?_eq_some_iff.1 h4).1 (by omega)).trans h4, below_but h5 hb (Nat.le_refl _) (by omega)⟩
  case iter =>
    intro W hbW hzW J Jx hJ hJI hY h0
    rw [hz] at hbW hzW hY ⊢
    refine (split1_any 42 s (w.heap.size + 3) (w.heap.size + 6 + 1) hs (fun _ _ => True) (fun _ x => rdV x.data.toList = none) J Jx (fun q A A' hb h => hJ q A A' hb h) (fun q x W' m hj hp => (hY q x W' m hj hp).mono ?_) W h0 (hB3.kept (Kpt.of_but hbW (by omega)))).mono ?_
    · rintro e W2 (⟨h1, h2, h3, h4⟩ | ⟨h1, h2, h3⟩)
      · exact .inl ⟨h1, h2, h3, h4⟩
      · exact .inr ⟨h1, h2, h3⟩
    · rintro e W' ⟨h1, ⟨h2, h3⟩ | ⟨q, x, h2, h3, h4⟩⟩
      · exact ⟨h1, .inl ⟨_, rfl, h3⟩⟩
      · refine ⟨h1, .inr ⟨_, ?_, h4⟩⟩
        obtain ⟨t, e⟩ := h2
        rw [← spb_map, ← e, List.map_append, List.map_append]
        exact mpb _ _ _ _ h3
  case assign =>
    intro q x W K _ _ hK
    gi_wp2
    exact hK
  case body =>
    rintro q x B W ⟨vals, v, hmp, hI⟩ hp hB hbb _
    go_light
    rw [hz] at hB hbb ⊢
    have hx := spb_small (unhide HP) hp
    have hlen : vals.length < 100 := by
      have h1 := Dp.mp_len rdV _ _ hmp
      have h2 := hp.length_le
      rw [List.length_map] at h1
      have h3 : (spb 42 s).length = (spl 42 s.data.toList).length := by unfold spb; rw [List.length_map]
      rw [List.length_append, h3] at h2
      have h4 := (unhide HL).2
      simp only [List.length_singleton] at h2
      omega
    have HR := readValue_any x A W ((unhide Hg).below (Nat.le_refl _) hI.nin.bel) hx
    have hsz : w.heap.size + 8 ≤ W.heap.size := by have := hbb.size; omega
    have HI := hide hI
    cases hr : rdV x.data.toList with
    | none =>
      rw [hr] at HR
      have HR := hide HR
      clear hI hp hB hbb hB3 hI0 hmp hx hr hlen
      gi_wp2_with fail
      refine ⟨trivial, (E.inR (unhide HR)).mono ?_⟩
      rintro e w' ⟨hb, T, y, rfl, hE⟩
      have hI2 := (unhide HI).below hb
      have HI2 := hide hI2
      have HE := hide hE
      have HB := hide hb
      obtain ⟨⟨c0, c1, c2, c3, c4, c5⟩, f0, f1, f2, f3, f4, f5⟩ := box6 hI2.b0
      dsimp only at c0 c1 c2 c3 c4 c5
      obtain ⟨c6, f6⟩ := box1 hI2.b1
      clear hI2 hE hb HR
      gi_wp2
      have hb5 := set6_but w' w.heap.size zfd
      have h5 := set6_blk (unhide HI2).b0 zfd
      have h6 := (hb5.block _ (Array.getElem?_eq_some_iff.1 (unhide HI2).b1).1 (by omega)).trans (unhide HI2).b1
      have hbel := below_but (unhide HI2).nin.bel hb5 (Nat.le_refl _) (Nat.le_refl _)
      have hb := unhide HB
      have hbs := hb.size
      have far : ∀ k, w.heap.size + 2 ≤ k → k < w.heap.size + 8 → ((set6 w' w.heap.size zfd).setCell ⟨w.heap.size + 1, 0, none⟩ (.iface T y)).heap[k]? = W.heap[k]? := fun k h7 h8 =>
        (Below.heap_setCell _ _ _ _ (by show k ≠ w.heap.size + 1; omega)).trans ((hb5.block k (by omega) (by omega)).trans (hb.block k (by omega)))
      exact ⟨trivial, ⟨far _ (by omega) (by omega), far _ (by omega) (by omega)⟩, rfl, T, y, unhide HE, (Below.heap_setCell _ _ _ _ (by show w.heap.size ≠ w.heap.size + 1; omega)).trans h5, heap_set _ _ 0 _ _ _ h6, hbel.setCell (p := ⟨w.heap.size + 1, 0, none⟩) (by show w.heap.size ≤ w.heap.size + 1; omega) _⟩
    | some u =>
      rw [hr] at HR
      have HR := hide HR
      have Hmp2 : Hid (mp rdV ((q ++ [x]).map fun x => x.data.toList) = some (vals ++ [u])) := hide (by rw [List.map_append, List.map_cons, List.map_nil, mps _ _ _ _ hmp, hr]; rfl)
      clear hI hp hB hbb hB3 hI0 hmp hx hr
      obtain ⟨i0, hi0, hz0, hz1, hz2⟩ := infoS
      gi_wp2_with fail
      refine ⟨trivial, (E.inR (unhide HR)).mono ?_⟩
      rintro e w' ⟨hb, rfl⟩
      have hI2 := (unhide HI).below hb
      have HKb := hide (Kq.below hb hsz)
      have hsz2 := Nat.le_trans hsz hb.size
      obtain ⟨c2, f2⟩ := hI2.nin.cl
      have HI2 := hide hI2
      have HI3 := hide (hI2.below ((Below.refl _ _).alloc (Nat.le_refl _) (.cells #[.string u] 9)))
      have HKc := hide (Kq.below ((Below.refl w'.heap.size w').alloc (Nat.le_refl _) (.cells #[.string u] 9)) hsz2)
      have c3 : (w'.alloc (.cells #[.string u] 9)).cell? ⟨w.heap.size + 2, 0, none⟩ = some v := (unhide HI3).nin.cl.1
      clear hI2 hb HR
      gi_wp2_with (first
        | (gi_at_builtin; refine wpListIn_append_own _ rfl (.tmp 21) (.tmp 23) 22 rfl (w.heap.size + 8) 9 i0 (.string ⟨#[]⟩) 1 16 Tryz.underlying22 hi0 hz0 hz1 hz2 rfl (by omega) v vals.length _ rfl (unhide HI3).nin.own ⟨w'.heap.size, 0, none⟩ 1 1 [.string u] rfl rfl (cells_new w' _ _) (by simp [Value.oneCell']) (by unfold maxLen; omega) (by omega) (by simp; omega) ?_; intro v' w2 hown hgrow _; obtain ⟨g', cap', rfl, _⟩ := hown.form (by omega); obtain ⟨p1, p2, d1, d2⟩ := (unhide HI3).app hown hgrow (by simp; omega); have HQ := hide p1; have HKT := hide (((unhide HKb).trans (unhide HKc)).trans p2); clear hown hgrow p1 p2)
        | gi_in)
      exact ⟨trivial, (unhide HKT).2, (unhide HKT).1, _, _, unhide Hmp2, unhide HQ⟩
  case done =>
    rintro q W rfl ⟨vals, v, hmp, hI⟩ hK
    rw [spb_map] at hmp
    rw [hz] at hK ⊢
    have HMp := hide hmp
    have hvl : vals.length = (spl 42 s.data.toList).length := Dp.mp_len rdV _ _ hmp
    obtain ⟨hl2, hl9⟩ := unhide HL
    rw [← hvl] at hl2 hl9
    obtain ⟨k, hk⟩ : ∃ k, vals.length = k + 2 := ⟨vals.length - 2, by omega⟩
    obtain ⟨g0, cap, rfl, hcs⟩ := hI.nin.own.form (by omega)
    obtain ⟨hcl, hg0, hcap⟩ := own_cells vals hI.nin.own
    have c2 := hI.nin.cl.1
    rw [hk] at c2 hcap
    obtain ⟨x0, hx0⟩ : ∃ x0, vals[0]? = some x0 := ⟨_, List.getElem?_eq_getElem (by omega)⟩
    obtain ⟨x1, hx1⟩ : ∃ x1, vals[k + 1]? = some x1 := ⟨_, List.getElem?_eq_getElem (by omega)⟩
    have d0 := hcl 0 x0 hx0
    have d1 := hcl (k + 1) x1 hx1
    rw [Nat.zero_add] at d1
    obtain ⟨mid, hmid⟩ : ∃ mid, mid = vals.tail.dropLast := ⟨_, rfl⟩
    have hml : mid.length = k := by rw [hmid]; simp; omega
    have hmc : ∀ V : World, (∀ b, b < W.heap.size → V.heap[b]? = W.heap[b]?) → ∀ (j : Nat) x, mid[j]? = some x → V.cell? ⟨g0, 1 + j, none⟩ = some (.string x) := fun V hV j x hj => by
      have h1 : j < mid.length := (List.getElem?_eq_some_iff.1 hj).1
      have : vals[1 + j]? = some x := by
        rw [← hj, hmid, List.getElem?_dropLast, if_pos (by rw [List.length_tail]; omega), List.getElem?_tail, Nat.add_comm]
      have h2 := hcl (1 + j) x this
      rw [Nat.zero_add] at h2
      exact (World.cell?_of_block (w := W) (a := ⟨g0, 1 + j, none⟩) (hV g0 hg0)).trans h2
    have HC := hide fun (V : World) cp (hV : ∀ b, b < W.heap.size → V.heap[b]? = W.heap[b]?) => cloneS_any g0 1 cp mid V (by omega) (hmc V hV)
    rw [hml] at HC
    have HK := hide hK
    have HI := hide hI
    have HM := hide (And.intro hk (And.intro hx0 (And.intro hx1 (And.intro hmid hml))))
    have hk9 : (k : Int) ≤ 100 := by omega
    have hcap2 : (k : Int) + 2 ≤ cap := by omega
    clear hK hI hI0 hB3 hmp hvl HL hcl hmc hk hx0 hx1 hmid hml hl2 hl9 hcap
    go_wp2_with fail
    rw [show (k : Int) + 2 - 1 = (k : Int) + 1 by omega]
    refine wp_mono (Q := fun e a1 V => match e with | .normal => a1.defers = [{ target := .collected (w.heap.size + 6), args := #[] }] ∧ a1.tmps.getD 2 undef = .pointer (some ⟨w.heap.size, 0, none⟩) ∧ a1.tmps.getD 3 undef = .pointer (some ⟨w.heap.size + 1, 0, none⟩) ∧ ∃ sa sc w3, Below W.heap.size W w3 ∧ V = (set6 w3 w.heap.size ⟨4, ⟨#[]⟩, x0, sa, k, sc, x1, none, 0, 0⟩).setCell ⟨w.heap.size + 1, 0, none⟩ .nilIface ∧ Strs w3 (fun b => W.heap.size ≤ b) sa mid | _ => False) ?_ ?_
    · refine wp_region_held_drew (S := fun w' => w'.cell? ⟨w.heap.size + 2, 0, none⟩ = some (.slice (some ⟨g0, 0, none⟩) (k + 2) cap) ∧ w'.cell? ⟨g0, 0, none⟩ = some (.string x0) ∧ w'.cell? ⟨g0, k + 1, none⟩ = some (.string x1)) (by kernel_rfl) ⟨c2, d0, d1⟩ ?_
      intro hS0
      have l1 : (0 : Int) ≤ (k : Int) + 1 := by omega
      have l2 : (k : Int) + 1 ≤ cap := by omega
      have l3 : (1 : Int) ≤ (k : Int) + 1 := by omega
      have l4 : (k : Int) + 1 < (k : Int) + 2 := by omega
      have HD := hide (And.intro d0 d1)
      obtain ⟨V, hVW⟩ : ∃ V, V = W.drew := ⟨_, rfl⟩
      rw [← hVW] at hS0 ⊢
      replace hVW := hide hVW
      clear c2 d0 d1
      change wpAnyH _ _ _ _ _ 14 #[false, false, false, false, false, false, false, false, false, false, false, false, false, false] _ V
      refine wpAnyH_take (i := 0) (v := .slice (some ⟨g0, 0, none⟩) (k + 2) cap) rfl (by kernel_rfl) (by kernel_rfl) (by kernel_rfl) (fun _ _ _ h => h) (Or.inl ⟨by kernel_rfl, by rintro w1 ⟨s2, s0, s1⟩; go_simp; all_goals first | rfl | omega | (intro _; exfalso; omega)⟩) hS0 ?_
      simp only [Act.put, List.setIfInBounds_toArray, List.set_cons_zero, List.set_cons_succ, List.getElem_toArray, List.getElem_cons_zero, List.getElem_cons_succ]
      refine wpAnyH_take (i := 1) (v := .pointer (some ⟨g0, 0, none⟩)) rfl (by kernel_rfl) (by kernel_rfl) (by kernel_rfl) (fun _ _ _ h => h) (Or.inl ⟨by kernel_rfl, by rintro w1 ⟨s2, s0, s1⟩; go_simp; all_goals first | rfl | omega | (intro _; exfalso; omega)⟩) hS0 ?_
      simp only [Act.put, List.setIfInBounds_toArray, List.set_cons_zero, List.set_cons_succ, List.getElem_toArray, List.getElem_cons_zero, List.getElem_cons_succ]
      refine wpAnyH_take (i := 2) (v := .string x0) rfl (by kernel_rfl) (by kernel_rfl) (by kernel_rfl) (fun _ _ _ h => h) (Or.inl ⟨by kernel_rfl, by rintro w1 ⟨s2, s0, s1⟩; go_simp; all_goals first | rfl | omega | (intro _; exfalso; omega)⟩) hS0 ?_
      simp only [Act.put, List.setIfInBounds_toArray, List.set_cons_zero, List.set_cons_succ, List.getElem_toArray, List.getElem_cons_zero, List.getElem_cons_succ]
      refine wpAnyH_take (i := 3) (v := .slice (some ⟨g0, 0, none⟩) (k + 2) cap) rfl (by kernel_rfl) (by kernel_rfl) (by kernel_rfl) (fun _ _ _ h => h) (Or.inl ⟨by kernel_rfl, by rintro w1 ⟨s2, s0, s1⟩; go_simp; all_goals first | rfl | omega | (intro _; exfalso; omega)⟩) hS0 ?_
      simp only [Act.put, List.setIfInBounds_toArray, List.set_cons_zero, List.set_cons_succ, List.getElem_toArray, List.getElem_cons_zero, List.getElem_cons_succ]
      refine wpAnyH_take (i := 4) (v := .int .i64 ((k : Int) + 1)) rfl (by kernel_rfl) (by kernel_rfl) (by kernel_rfl) (fun _ _ _ h => h) (Or.inl ⟨by kernel_rfl, by rintro w1 ⟨s2, s0, s1⟩; go_simp; all_goals first | rfl | omega | (intro _; exfalso; omega)⟩) hS0 ?_
      simp only [Act.put, List.setIfInBounds_toArray, List.set_cons_zero, List.set_cons_succ, List.getElem_toArray, List.getElem_cons_zero, List.getElem_cons_succ]
      refine wpAnyH_take (i := 5) (v := .slice (some ⟨g0, 1, none⟩) k (cap - 1)) rfl (by kernel_rfl) (by kernel_rfl) (by kernel_rfl) (fun _ _ _ h => h) (Or.inl ⟨by kernel_rfl, by rintro w1 ⟨s2, s0, s1⟩; go_simp; all_goals first | rfl | omega | (intro _; exfalso; omega)⟩) hS0 ?_
      simp only [Act.put, List.setIfInBounds_toArray, List.set_cons_zero, List.set_cons_succ, List.getElem_toArray, List.getElem_cons_zero, List.getElem_cons_succ]
      refine wpAnyH_take (i := 7) (v := .slice (some ⟨g0, 0, none⟩) (k + 2) cap) rfl (by kernel_rfl) (by kernel_rfl) (by kernel_rfl) (fun _ _ _ h => h) (Or.inl ⟨by kernel_rfl, by rintro w1 ⟨s2, s0, s1⟩; go_simp; all_goals first | rfl | omega | (intro _; exfalso; omega)⟩) hS0 ?_
      simp only [Act.put, List.setIfInBounds_toArray, List.set_cons_zero, List.set_cons_succ, List.getElem_toArray, List.getElem_cons_zero, List.getElem_cons_succ]
      refine wpAnyH_take (i := 8) (v := .int .i64 ((k : Int) + 1)) rfl (by kernel_rfl) (by kernel_rfl) (by kernel_rfl) (fun _ _ _ h => h) (Or.inl ⟨by kernel_rfl, by rintro w1 ⟨s2, s0, s1⟩; go_simp; all_goals first | rfl | omega | (intro _; exfalso; omega)⟩) hS0 ?_
      simp only [Act.put, List.setIfInBounds_toArray, List.set_cons_zero, List.set_cons_succ, List.getElem_toArray, List.getElem_cons_zero, List.getElem_cons_succ]
      refine wpAnyH_take (i := 9) (v := .pointer (some ⟨g0, k + 1, none⟩)) rfl (by kernel_rfl) (by kernel_rfl) (by kernel_rfl) (fun _ _ _ h => h) (Or.inl ⟨by kernel_rfl, by rintro w1 ⟨s2, s0, s1⟩; go_simp; all_goals first | rfl | omega | (intro _; exfalso; omega)⟩) hS0 ?_
      simp only [Act.put, List.setIfInBounds_toArray, List.set_cons_zero, List.set_cons_succ, List.getElem_toArray, List.getElem_cons_zero, List.getElem_cons_succ]
      refine wpAnyH_take (i := 10) (v := .string x1) rfl (by kernel_rfl) (by kernel_rfl) (by kernel_rfl) (fun _ _ _ h => h) (Or.inl ⟨by kernel_rfl, by rintro w1 ⟨s2, s0, s1⟩; go_simp; all_goals first | rfl | omega | (intro _; exfalso; omega)⟩) hS0 ?_
      simp only [Act.put, List.setIfInBounds_toArray, List.set_cons_zero, List.set_cons_succ, List.getElem_toArray, List.getElem_cons_zero, List.getElem_cons_succ]
      clear hS0 l1 l2 l3 l4
      refine wpAnyH_ready (rs := [6]) (by kernel_rfl) (by simp) ?_
      refine AllReadyH.cons rfl (fun K hK => ?_) AllReadyH.nil
      rw [if_pos (by kernel_rfl)]
      go_wp2_with fail
      refine ((unhide HC) V _ ?_).mono ?_
      · intro b hb; rw [unhide hVW]; rfl
      rintro e w3 ⟨v', rfl, hown, hb⟩
      obtain ⟨sa, sc, rfl, hst⟩ := own_strs hown (unhide HM).2.2.2.2
      replace hb : Below W.heap.size W w3 := by rw [unhide hVW] at hb; exact ⟨hb.os, hb.tape, hb.output, hb.size, hb.block⟩
      replace hst : Strs w3 (fun b => W.heap.size ≤ b) sa mid := by rw [unhide hVW] at hst; exact hst
      have hI3 := (unhide HI).below hb
      obtain ⟨⟨e0, e1, e2, e3, e4, e5⟩, r0, r1, r2, r3, r4, r5⟩ := box6 hI3.b0
      dsimp only at e0 e1 e2 e3 e4 e5
      obtain ⟨e6, r6⟩ := box1 hI3.b1
      have hg0n : w.heap.size ≠ g0 ∧ w.heap.size + 1 ≠ g0 := by have := hcs.1; omega
      have hS3 : w3.cell? ⟨w.heap.size + 2, 0, none⟩ = some (.slice (some ⟨g0, 0, none⟩) (k + 2) cap) ∧ w3.cell? ⟨g0, 0, none⟩ = some (.string x0) ∧ w3.cell? ⟨g0, k + 1, none⟩ = some (.string x1) := by
        have h2 := hI3.nin.cl.1
        rw [(unhide HM).1] at h2
        exact ⟨h2, (hb.cell (D.lt_cell (unhide HD).1)).trans (unhide HD).1, (hb.cell (D.lt_cell (unhide HD).2)).trans (unhide HD).2⟩
      have HN := hide (And.intro hb hst)
      clear hI3 hb hst hown
      go_wp2
      refine hK.out _ _ hS3 (fun _ => ?_)
      clear hK K
      simp only [Act.put, List.setIfInBounds_toArray, List.set_cons_zero, List.set_cons_succ, List.getElem_toArray, List.getElem_cons_zero, List.getElem_cons_succ]
      refine wpAnyH_ready (rs := [11]) (by kernel_rfl) (by simp) ?_
      refine AllReadyH.cons rfl (fun K hK => ?_) AllReadyH.nil
      rw [if_pos (by kernel_rfl)]
      go_simp
      refine hK.out _ _ hS3 (fun _ => ?_)
      clear hK K
      simp only [Act.put, List.setIfInBounds_toArray, List.set_cons_zero, List.set_cons_succ, List.getElem_toArray, List.getElem_cons_zero, List.getElem_cons_succ]
      refine wpAnyH_ready (rs := [12]) (by kernel_rfl) (by simp) ?_
      refine AllReadyH.cons rfl (fun K hK => ?_) AllReadyH.nil
      rw [if_pos (by kernel_rfl)]
      go_simp
      have hb6 := set6_but w3 w.heap.size ⟨4, ⟨#[]⟩, x0, sa, k, sc, x1, none, 0, 0⟩
      have hS6 : (set6 w3 w.heap.size ⟨4, ⟨#[]⟩, x0, sa, k, sc, x1, none, 0, 0⟩).cell? ⟨w.heap.size + 2, 0, none⟩ = some (.slice (some ⟨g0, 0, none⟩) (k + 2) cap) ∧ (set6 w3 w.heap.size ⟨4, ⟨#[]⟩, x0, sa, k, sc, x1, none, 0, 0⟩).cell? ⟨g0, 0, none⟩ = some (.string x0) ∧ (set6 w3 w.heap.size ⟨4, ⟨#[]⟩, x0, sa, k, sc, x1, none, 0, 0⟩).cell? ⟨g0, k + 1, none⟩ = some (.string x1) :=
        ⟨hb6.cell hS3.1 (by show w.heap.size + 2 ≠ w.heap.size; omega), hb6.cell hS3.2.1 (Ne.symm hg0n.1), hb6.cell hS3.2.2 (Ne.symm hg0n.1)⟩
      refine hK.out _ _ hS6 (fun _ => ?_)
      clear hK K hb6
      simp only [Act.put, List.setIfInBounds_toArray, List.set_cons_zero, List.set_cons_succ, List.getElem_toArray, List.getElem_cons_zero, List.getElem_cons_succ]
      refine wpAnyH_ready (rs := [13]) (by kernel_rfl) (by simp) ?_
      refine AllReadyH.cons rfl (fun K hK => ?_) AllReadyH.nil
      rw [if_pos (by kernel_rfl)]
      go_simp
      have hS7 : ((set6 w3 w.heap.size ⟨4, ⟨#[]⟩, x0, sa, k, sc, x1, none, 0, 0⟩).setCell ⟨w.heap.size + 1, 0, none⟩ .nilIface).cell? ⟨w.heap.size + 2, 0, none⟩ = some (.slice (some ⟨g0, 0, none⟩) (k + 2) cap) ∧ ((set6 w3 w.heap.size ⟨4, ⟨#[]⟩, x0, sa, k, sc, x1, none, 0, 0⟩).setCell ⟨w.heap.size + 1, 0, none⟩ .nilIface).cell? ⟨g0, 0, none⟩ = some (.string x0) ∧ ((set6 w3 w.heap.size ⟨4, ⟨#[]⟩, x0, sa, k, sc, x1, none, 0, 0⟩).setCell ⟨w.heap.size + 1, 0, none⟩ .nilIface).cell? ⟨g0, k + 1, none⟩ = some (.string x1) := by
        refine ⟨?_, ?_, ?_⟩
        · rw [World.cell?_setCell_far _ _ _ _ (by show w.heap.size + 1 ≠ w.heap.size + 2; omega)]; exact hS6.1
        · rw [World.cell?_setCell_far _ _ _ _ hg0n.2]; exact hS6.2.1
        · rw [World.cell?_setCell_far _ _ _ _ hg0n.2]; exact hS6.2.2
      refine hK.out _ _ hS7 (fun _ => ?_)
      clear hK K
      simp only [Act.put, List.setIfInBounds_toArray, List.set_cons_zero, List.set_cons_succ, List.getElem_toArray, List.getElem_cons_zero, List.getElem_cons_succ]
      refine wpAnyH_done (by kernel_rfl) ?_ _
      exact ⟨rfl, rfl, rfl, sa, sc, w3, (unhide HN).1, rfl, (unhide HN).2⟩
    rintro e ⟨tmps, defers⟩ V hq
    cases e with
    | normal =>
      obtain ⟨hdf, t2, t3, sa, sc, w3, hb, hV, hst⟩ := hq
      dsimp only at hdf t2 t3
      subst hdf
      have HQ := hide (And.intro t2 (And.intro t3 (And.intro hb (And.intro hV hst))))
      clear t2 t3 hb hV hst c2 d0 d1
      go_wp2
      obtain ⟨t2, t3, hb, rfl, hst⟩ := unhide HQ
      obtain ⟨hk, hx0, hx1, hmid, hml⟩ := unhide HM
      have hI3 := (unhide HI).below hb
      have hb6 := set6_but w3 w.heap.size ⟨4, ⟨#[]⟩, x0, sa, k, sc, x1, none, 0, 0⟩
      have h0 := set6_blk hI3.b0 ⟨4, ⟨#[]⟩, x0, sa, k, sc, x1, none, 0, 0⟩
      have h1 := (hb6.block _ (Array.getElem?_eq_some_iff.1 hI3.b1).1 (by omega)).trans hI3.b1
      have hbel := (below_but hI3.nin.bel hb6 (Nat.le_refl _) (Nat.le_refl _)).setCell (p := ⟨w.heap.size + 1, 0, none⟩) (by show w.heap.size ≤ w.heap.size + 1; omega) .nilIface
      have hWs : w.heap.size + 8 ≤ W.heap.size := by have := hcs.1; omega
      have hd : ((set6 w3 w.heap.size ⟨4, ⟨#[]⟩, x0, sa, k, sc, x1, none, 0, 0⟩).setCell ⟨w.heap.size + 1, 0, none⟩ .nilIface).heap[w.heap.size + 6]? = some (.deferred (some [])) :=
        (Below.heap_setCell _ _ _ _ (by show w.heap.size + 6 ≠ w.heap.size + 1; omega)).trans ((hb6.block _ (by have := hb.size; omega) (by omega)).trans ((hb.block _ (by omega)).trans (unhide HK)))
      refine finP hd (by omega) ((Below.heap_setCell _ _ _ _ (by show w.heap.size ≠ w.heap.size + 1; omega)).trans h0) (heap_set _ _ 0 _ _ _ h1) t2 t3 ⟨C.putObj_below hbel (by omega), ?_⟩
      rw [unhide HMp]
      have e0 : vals.headD ⟨#[]⟩ = x0 := by
        cases vals with
        | nil => cases hx0
        | cons y ys => simpa using hx0
      have e1 : vals.getLastD ⟨#[]⟩ = x1 := by
        rw [List.getLastD_eq_getLast?, List.getLast?_eq_getElem?, hk]
        show vals[k + 1]?.getD _ = _
        rw [hx1]
        rfl
      refine ⟨sa, sc, by rw [e0, e1, ← hmid, hml], ?_⟩
      rw [← hmid]
      have hbw := (unhide HI).nin.bel.size
      exact (hst.imp fun b hb' _ => (by omega : w.heap.size ≤ b ∧ W.heap.size ≤ b)).of (fun b hb' hl => (World.putObj_heap_other (by omega)).trans ((Below.heap_setCell _ _ _ _ (by show b ≠ w.heap.size + 1; omega)).trans (hb6.block _ hl (by omega)))) |>.imp fun b hb' _ => hb'.1
    | _ => exact hq.elim
  case stop =>
    rintro cd q W hno ⟨rfl, T, x, hE, h0, h1, hb⟩ hK
    rw [hz] at hK ⊢
    rw [hno]
    obtain ⟨⟨c0, c1, c2, c3, c4, c5⟩, _⟩ := box6 h0
    obtain ⟨c6, _⟩ := box1 h1
    have HK := hide hK
    have HB := hide (And.intro hE (And.intro h0 (And.intro h1 hb)))
    clear hK hE h0 h1 hb hno hI0 hB3
    gi_wp2
    obtain ⟨hE, h0, h1, hb⟩ := unhide HB
    exact finP (unhide HK) (by omega) h0 h1 rfl rfl ⟨C.putObj_below hb (by omega), T, x, rfl, hE⟩
end Go.Proofs.YtmjfkdpaeenfgaaGreatDoor.F

/-
  readValues, and condition. Conditions: the package-level variables hold what the program's text lays; what is read of values at a time has at most 1000 bytes.
-/
namespace Go.Proofs.YtmjfkdpaeenfgaaGreatDoor.F
open Go Go.RowKit Go.Shelf Fp
open Go.Proofs.YtmjfkdpaeenfgaaGreatDoor.Dp (mp)
open Go.Proofs.YtmjfkdpaeenfgaaGreatDoor.D (hide unhide ext_list)
attribute [local go_sem] Oper.semAt_some

/-- what the reader's parts leave. -/
def LeafPost (n : Nat) (A : Ad) (o : Option (Fl (n + 1))) (w : World) (e : Ending) (w' : World) : Prop := Below w.heap.size w w' ∧ match o with
  | some F => ∃ d : Fd, e = .returned (.tuple #[d.val, .nilIface]) ∧ FNode (n + 1) w' (fun b => w.heap.size ≤ b) d F
  | none => ∃ d : Fd, ∃ T x, e = .returned (.tuple #[d.val, .iface T x]) ∧ IsErr A (.iface T x)
theorem val_is {n : Nat} (k : Int) (a v : ByteArray) : Is ⟨k, a, v, none, 0, 0, ⟨#[]⟩, none, 0, 0⟩ (mk k a v [] ⟨#[]⟩ [] : Fl (n + 1)) := ⟨rfl, rfl, rfl, rfl, rfl, rfl⟩
theorem val_sm {n : Nat} (k : Int) {a v : ByteArray} (ha : a.size ≤ 2000) (hv : v.size ≤ 1000) : Sm (mk k a v [] ⟨#[]⟩ [] : Fl (n + 1)) := ⟨ha, hv, Nat.zero_le _, Nat.zero_le _, (fun x hx => by cases hx), Nat.zero_le _⟩
theorem val_node {n : Nat} (k : Int) {a v : ByteArray} (W : World) (p : Nat → Prop) (ha : a.size ≤ 2000) (hv : v.size ≤ 1000) : FNode (n + 1) W p ⟨k, a, v, none, 0, 0, ⟨#[]⟩, none, 0, 0⟩ (mk k a v [] ⟨#[]⟩ []) := ⟨val_is k a v, val_sm k ha hv, .inl rfl, .inl rfl⟩

theorem finV {b : Nat} {V : World} {tmps : Array Value} {d : Fd} {u : Value} {R : Ending → World → Prop} (h0 : V.heap[b]? = some (.cells d.cs 25 (0, 0)))
    (t4 : tmps.getD 4 undef = .pointer (some ⟨b, 0, none⟩)) (t5 : tmps.getD 5 undef = u) (hp : R (.returned (.tuple #[d.val, u])) V) :
    bodyPost Tryz.prog Tryz.f127 R Exit.ret { tmps, defers := [] } V := by
  refine ⟨rfl, .tuple #[d.val, u], ?_, hp⟩
  obtain ⟨⟨c0, c1, c2, c3, c4, c5⟩, _⟩ := box6 h0
  have t4' : tmps[4]?.getD undef = .pointer (some ⟨b, 0, none⟩) := by simpa using t4
  have t5' : tmps[5]?.getD undef = u := by simpa using t5
  simp [results, Tryz.results127, go_sem, t4', t5', c0, c1, c2, c3, c4, c5]
set_option maxRecDepth 100000 in
set_option maxHeartbeats 2000000 in
theorem readValues_one (n : Nat) (k : Int) (t : ByteArray) (A : Ad) (w : World) (g : Glob A w) (ht : t.size ≤ 1000) (hk : k ≠ 3 ∨ 42 ∉ t.data.toList) :
    Calls Tryz.prog 127 #[.int .i64 k, .string t] w (LeafPost n A ((rdV t.data.toList).map fun v => mk k ⟨#[]⟩ v [] ⟨#[]⟩ []) w) := by
  obtain ⟨V, hV⟩ : ∃ V, V = w.alloc (.cells zfd.cs 25) := ⟨_, rfl⟩
  have hVb : Below w.heap.size w V := by rw [hV]; exact (Below.refl _ _).alloc (Nat.le_refl _) _
  have hV0 : V.heap[w.heap.size]? = some (.cells zfd.cs 25 (0, 0)) := by rw [hV]; exact World.alloc_heap_new _ _
  have HR := hide (readValue_any t A V (g.next hVb) ht)
  have HVw := hide hV
  have HVx := hide (And.intro hVb hV0)
  have HS := hide (fun v (h : rdV t.data.toList = some v) => rdV_small h)
  have hC := contains_any 42 t V
  have hVz : w.heap.size < V.heap.size := by rw [hV]; simp
  clear hV hVb hV0 g
  have fin : ∀ (W : World) (o : Option ByteArray) (e : Ending), ValPost A o V e W → ∃ v er, e = .returned (.tuple #[.string v, er]) ∧ Below V.heap.size V W ∧ (match o with | some u => v = u ∧ er = .nilIface | none => IsErr A er ∧ ∃ T x, er = .iface T x) := by
    rintro W o e ⟨hb, h⟩
    cases o with
    | some u => exact ⟨u, .nilIface, h, hb, rfl, rfl⟩
    | none => obtain ⟨T, x, h1, h2⟩ := h; exact ⟨_, _, h1, hb, h2, _, _, rfl⟩
  have post : ∀ (v : ByteArray) (er : Value) (W : World), (match rdV t.data.toList with | some u => v = u ∧ er = .nilIface | none => IsErr A er ∧ ∃ T x, er = .iface T x) → Below V.heap.size V W → LeafPost n A ((rdV t.data.toList).map fun v => mk k ⟨#[]⟩ v [] ⟨#[]⟩ []) w (.returned (.tuple #[Fd.val ⟨k, ⟨#[]⟩, v, none, 0, 0, ⟨#[]⟩, none, 0, 0⟩, er])) (set6 W w.heap.size ⟨k, ⟨#[]⟩, v, none, 0, 0, ⟨#[]⟩, none, 0, 0⟩) := by
    intro v er W h hb
    refine ⟨below_but ((unhide HVx).1.trans (hb.mono (by omega))) (set6_but _ _ _) (Nat.le_refl _) (Nat.le_refl _), ?_⟩
    cases hr : rdV t.data.toList with
    | some u =>
      rw [hr] at h
      obtain ⟨rfl, rfl⟩ := h
      have := unhide HS _ hr
      rw [E.len_toList] at this
      exact ⟨_, rfl, val_node k _ _ (Nat.zero_le _) (by omega)⟩
    | none =>
      rw [hr] at h
      obtain ⟨h1, T, x, rfl⟩ := h
      exact ⟨_, T, x, rfl, h1⟩
  have Hfin := hide fin
  have Hpost := hide post
  clear fin post
  by_cases h3 : k = 3
  · have h42 := hk.resolve_left (fun h => h h3)
    subst h3
    rw [decide_eq_false h42] at hC
    have HC := hide hC
    clear hC hk h42 ht
    go_enter Tryz.func127, Tryz.ntmps127
    go_wp2_with fail
    rw [← unhide HVw]
    refine (unhide HC).mono ?_
    rintro e w1 ⟨rfl, rfl⟩
    go_wp2_with fail
    refine (unhide HR).mono ?_
    rintro e w1 he
    obtain ⟨v, er, rfl, hb, hm⟩ := unhide Hfin _ _ _ he
    have HB := hide (And.intro hb hm)
    obtain ⟨⟨c0, c1, c2, c3, c4, c5⟩, f0, f1, f2, f3, f4, f5⟩ := box6 ((hb.block _ hVz).trans (unhide HVx).2)
    dsimp only at c0 c1 c2 c3 c4 c5
    clear hb hm he HR HC
    go_wp2
    have hp := (unhide Hpost) v er w1 (unhide HB).2 (unhide HB).1
    have h0 := set6_blk (((unhide HB).1.block _ hVz).trans (unhide HVx).2) ⟨3, ⟨#[]⟩, v, none, 0, 0, ⟨#[]⟩, none, 0, 0⟩
    exact finV (b := w.heap.size) (d := ⟨3, ⟨#[]⟩, v, none, 0, 0, ⟨#[]⟩, none, 0, 0⟩) (u := er) h0 rfl rfl hp
  · have hb3 : (k == 3) = false := beq_eq_false_iff_ne.2 h3
    clear hC hk ht
    go_enter Tryz.func127, Tryz.ntmps127
    go_wp2_with fail
    rw [← unhide HVw]
    refine (unhide HR).mono ?_
    rintro e w1 he
    obtain ⟨v, er, rfl, hb, hm⟩ := unhide Hfin _ _ _ he
    have HB := hide (And.intro hb hm)
    obtain ⟨⟨c0, c1, c2, c3, c4, c5⟩, f0, f1, f2, f3, f4, f5⟩ := box6 ((hb.block _ hVz).trans (unhide HVx).2)
    dsimp only at c0 c1 c2 c3 c4 c5
    clear hb hm he HR
    go_wp2
    have hp := (unhide Hpost) v er w1 (unhide HB).2 (unhide HB).1
    have h0 := set6_blk (((unhide HB).1.block _ hVz).trans (unhide HVx).2) ⟨k, ⟨#[]⟩, v, none, 0, 0, ⟨#[]⟩, none, 0, 0⟩
    exact finV (b := w.heap.size) (d := ⟨k, ⟨#[]⟩, v, none, 0, 0, ⟨#[]⟩, none, 0, 0⟩) (u := er) h0 rfl rfl hp
theorem mp_mem2 {α : Type} (f : List UInt8 → Option α) : ∀ (xs : List (List UInt8)) (l : List α), mp f xs = some l → ∀ a ∈ l, ∃ x ∈ xs, f x = some a
  | [], l, h, a, ha => by cases h; cases ha
  | x :: xs, l, h, a, ha => by
    rw [mp] at h
    cases hx : f x with
    | none => rw [hx] at h; cases h
    | some b =>
      cases hm : mp f xs with
      | none => rw [hx, hm] at h; cases h
      | some r =>
        rw [hx, hm] at h
        cases h
        rcases List.mem_cons.1 ha with rfl | ha
        · exact ⟨x, by simp, hx⟩
        · obtain ⟨y, h1, h2⟩ := mp_mem2 f xs r hm a ha
          exact ⟨y, by simp [h1], h2⟩
theorem sub_node {n : Nat} {l : List ByteArray} {sa : Option Addr} {sc : Nat} {W : World} {p : Nat → Prop} (hl : ∀ x ∈ l, x.size ≤ 1000) (hn : l.length ≤ 100) (hst : Strs W p sa l.tail.dropLast) :
    FNode (n + 1) W p ⟨4, ⟨#[]⟩, l.headD ⟨#[]⟩, sa, l.tail.dropLast.length, sc, l.getLastD ⟨#[]⟩, none, 0, 0⟩ (subs ⟨#[]⟩ l) := by
  have h0 : (⟨#[]⟩ : ByteArray).size ≤ 1000 := Nat.zero_le _
  refine ⟨⟨rfl, rfl, rfl, rfl, rfl, rfl⟩, ⟨Nat.zero_le _, ?_, ?_, ?_, ?_, Nat.zero_le _⟩, hst, .inl rfl⟩
  · show (l.headD ⟨#[]⟩).size ≤ 1000
    cases l with
    | nil => exact h0
    | cons y ys => exact hl y (by simp)
  · show (l.getLastD ⟨#[]⟩).size ≤ 1000
    rw [List.getLastD_eq_getLast?]
    cases hq : l.getLast? with
    | none => exact h0
    | some y => exact hl y (List.mem_of_getLast? hq)
  · show l.tail.dropLast.length ≤ 1000
    simp
    omega
  · intro x hx
    exact hl x (List.mem_of_mem_tail (List.dropLast_subset _ hx))

set_option maxRecDepth 100000 in
set_option maxHeartbeats 2000000 in
theorem readValues_any (n : Nat) (k : Int) (t : ByteArray) (A : Ad) (w : World) (g : Glob A w) (ht : t.size ≤ 100000000) (hP : if k = 3 then ∀ q ∈ spl 42 t.data.toList, q.length ≤ 1000 else t.size ≤ 1000) :
    Calls Tryz.prog 127 #[.int .i64 k, .string t] w (LeafPost n A (rdVals k ⟨#[]⟩ t.data.toList) w) := by
  by_cases hk : k ≠ 3 ∨ 42 ∉ t.data.toList
  · have hz : t.size ≤ 1000 := by
      by_cases h3 : k = 3
      · rw [if_pos h3] at hP
        have h42 := hk.resolve_left (fun h => h h3)
        have := hP t.data.toList (by rw [spl_none 42 _ h42]; simp)
        rwa [E.len_toList] at this
      · rwa [if_neg h3] at hP
    have := readValues_one n k t A w g hz hk
    unfold rdVals
    rw [if_pos hk]
    exact this
  · obtain ⟨h3, h42⟩ : k = 3 ∧ 42 ∈ t.data.toList := by
      constructor
      · exact Classical.byContradiction fun h => hk (.inl h)
      · exact Classical.byContradiction fun h => hk (.inr h)
    subst h3
    rw [if_pos rfl] at hP
    unfold rdVals
    rw [if_neg hk]
    obtain ⟨V, hV⟩ : ∃ V, V = w.alloc (.cells zfd.cs 25) := ⟨_, rfl⟩
    have hVb : Below w.heap.size w V := by rw [hV]; exact (Below.refl _ _).alloc (Nat.le_refl _) _
    have hV0 : V.heap[w.heap.size]? = some (.cells zfd.cs 25 (0, 0)) := by rw [hV]; exact World.alloc_heap_new _ _
    have hVz : w.heap.size < V.heap.size := by rw [hV]; simp
    have gV := g.next hVb
    have hC := contains_any 42 t V
    rw [decide_eq_true h42] at hC
    have HC := hide hC
    have HVw := hide hV
    have HVx := hide (And.intro hVb hV0)
    obtain ⟨⟨c0, c1, c2, c3, c4, c5⟩, f0, f1, f2, f3, f4, f5⟩ := box6 hV0
    dsimp only at c0 c1 c2 c3 c4 c5
    by_cases h1 : t.data.toList = [42]
    · rw [if_pos h1]
      have hb : (t.toList == ([42] : List UInt8)) = true := by rw [ByteArray.toList_eq, h1]; rfl
      clear hV hVb hV0 hC h42 hk hP h1 gV ht
      go_enter Tryz.func127, Tryz.ntmps127
      go_wp2_with fail
      rw [← unhide HVw]
      refine (unhide HC).mono ?_
      rintro e w1 ⟨rfl, rfl⟩
      go_wp2
      have h0 := set6_blk (unhide HVx).2 ⟨7, ⟨#[]⟩, ⟨#[]⟩, none, 0, 0, ⟨#[]⟩, none, 0, 0⟩
      have hp : LeafPost n A (some (mk 7 ⟨#[]⟩ ⟨#[]⟩ [] ⟨#[]⟩ [])) w (.returned (.tuple #[Fd.val ⟨7, ⟨#[]⟩, ⟨#[]⟩, none, 0, 0, ⟨#[]⟩, none, 0, 0⟩, .nilIface])) (set6 w1 w.heap.size ⟨7, ⟨#[]⟩, ⟨#[]⟩, none, 0, 0, ⟨#[]⟩, none, 0, 0⟩) :=
        ⟨below_but (unhide HVx).1 (set6_but _ _ _) (Nat.le_refl _) (Nat.le_refl _), _, rfl, val_node 7 _ _ (Nat.zero_le _) (Nat.zero_le _)⟩
      exact finV (b := w.heap.size) (d := ⟨7, ⟨#[]⟩, ⟨#[]⟩, none, 0, 0, ⟨#[]⟩, none, 0, 0⟩) (u := .nilIface) h0 rfl rfl hp
    · rw [if_neg h1]
      have hb : (t.toList == ([42] : List UInt8)) = false := by rw [ByteArray.toList_eq]; exact beq_eq_false_iff_ne.2 h1
      have hN := hide (fun W => count_any 42 t W)
      by_cases h5 : 5 < t.data.toList.count 42
      · rw [if_pos h5]
        have h5' : (5 : Int) < (t.data.toList.count 42 : Nat) := by omega
        generalize t.data.toList.count 42 = m at *
        have hco := gV.vco
        have hgl : (1 : Nat) < w.heap.size := D.lt_cell g.vco
        have hg1 : w.heap.size ≠ 1 := by omega
        have hg2 : (1 : Nat) ≠ w.heap.size := by omega
        have Hg := hide gV
        clear hV hVb hV0 hC h42 hk hP h1 gV ht h5
        go_enter Tryz.func127, Tryz.ntmps127
        go_wp2_with fail
        rw [← unhide HVw]
        refine (unhide HC).mono ?_
        rintro e w1 ⟨rfl, rfl⟩
        go_wp2_with fail
        refine ((unhide hN) _).mono ?_
        rintro e w1 ⟨rfl, rfl⟩
        go_wp2_with fail
        refine wp_mono (Q := fun e a1 W => match e with | .normal => a1.defers = [] ∧ a1.tmps.getD 4 undef = .pointer (some ⟨w.heap.size, 0, none⟩) ∧ a1.tmps.getD 5 undef = sen A.co ∧ W = (set6 w1 w.heap.size zfd).drew | _ => False) ?_ ?_
        · go_region
          all_goals exact ⟨rfl, rfl, rfl, rfl⟩
        rintro e ⟨tmps, defers⟩ W hq
        cases e with
        | normal =>
          obtain ⟨hdf, t4, t5, hW⟩ := hq
          dsimp only at hdf t4 t5
          subst hdf
          have HQ := hide (And.intro t4 (And.intro t5 hW))
          clear t4 t5 hW c0 c1 c2 c3 c4 c5 f0 f1 f2 f3 f4 f5
          go_wp2
          obtain ⟨t4, t5, hW⟩ := unhide HQ
          have h0 := set6_blk (unhide HVx).2 zfd
          have hbl := below_but (unhide HVx).1 (set6_but w1 w.heap.size zfd) (Nat.le_refl _) (Nat.le_refl _)
          generalize set6 w1 w.heap.size zfd = U at h0 hbl hW
          have hbl2 : Below w.heap.size w W := by rw [hW]; exact hbl.drew
          have h02 : W.heap[w.heap.size]? = some (.cells zfd.cs 25 (0, 0)) := by rw [hW]; exact h0
          have hp : LeafPost n A none w (.returned (.tuple #[Fd.val zfd, sen A.co])) W := ⟨hbl2, zfd, _, _, rfl, IsErr.sen (isS_co A)⟩
          exact finV (b := w.heap.size) (d := zfd) (u := sen A.co) h02 t4 t5 hp
        | _ => exact hq.elim
      · rw [if_neg h5]
        have h5' : ¬ (5 : Int) < (t.data.toList.count 42 : Nat) := by omega
        have hlen : (spl 42 t.data.toList).length = t.data.toList.count 42 + 1 := spl_len 42 _
        have hpos : 0 < t.data.toList.count 42 := List.count_pos_iff.2 h42
        have hR := hide (readPieces_any t A V gV ht hP (by omega) (by omega))
        have Hm : Hid (∀ l, mp rdV (spl 42 t.data.toList) = some l → (∀ x ∈ l, x.size ≤ 1000) ∧ l.length ≤ 100) := hide (fun l h => ⟨fun x hx => by
          obtain ⟨y, h6, h7⟩ := mp_mem2 rdV _ _ h x hx
          have := rdV_small h7
          have := hP y h6
          omega, by have := Dp.mp_len rdV _ _ h; omega⟩)
        generalize t.data.toList.count 42 = m at *
        clear hV hVb hV0 hC h42 hk hP h1 gV ht h5 hlen hpos c0 c1 c2 c3 c4 c5 f0 f1 f2 f3 f4 f5
        go_enter Tryz.func127, Tryz.ntmps127
        go_wp2_with fail
        rw [← unhide HVw]
        refine (unhide HC).mono ?_
        rintro e w1 ⟨rfl, rfl⟩
        go_wp2_with fail
        refine ((unhide hN) _).mono ?_
        rintro e w1 ⟨rfl, rfl⟩
        go_wp2_with fail
        cases ho : mp rdV (spl 42 t.data.toList) with
        | none =>
          rw [ho] at hR
          refine (unhide hR).mono ?_
          rintro e w2 ⟨hb1, T, x, rfl, hE⟩
          have hw := (hb1.block _ hVz).trans (unhide HVx).2
          obtain ⟨⟨c0, c1, c2, c3, c4, c5⟩, f0, f1, f2, f3, f4, f5⟩ := box6 hw
          dsimp only at c0 c1 c2 c3 c4 c5
          have HQ := hide (And.intro hb1 (And.intro hE hw))
          clear hb1 hE hw hR
          go_wp2
          obtain ⟨hb1, hE, hw⟩ := unhide HQ
          have h0 := set6_blk hw zfd
          have hp : LeafPost n A none w (.returned (.tuple #[Fd.val zfd, .iface T x])) (set6 w2 w.heap.size zfd) :=
            ⟨below_but ((unhide HVx).1.trans (hb1.mono (by omega))) (set6_but _ _ _) (Nat.le_refl _) (Nat.le_refl _), zfd, _, _, rfl, hE⟩
          exact finV (b := w.heap.size) (d := zfd) (u := .iface T x) h0 rfl rfl (by rw [ho]; exact hp)
        | some l =>
          rw [ho] at hR
          refine (unhide hR).mono ?_
          rintro e w2 ⟨hb1, sa, sc, rfl, hst⟩
          have hw := (hb1.block _ hVz).trans (unhide HVx).2
          obtain ⟨⟨c0, c1, c2, c3, c4, c5⟩, f0, f1, f2, f3, f4, f5⟩ := box6 hw
          dsimp only at c0 c1 c2 c3 c4 c5
          obtain ⟨d, hd⟩ : ∃ d : Fd, d = ⟨4, ⟨#[]⟩, l.headD ⟨#[]⟩, sa, l.tail.dropLast.length, sc, l.getLastD ⟨#[]⟩, none, 0, 0⟩ := ⟨_, rfl⟩
          rw [← hd]
          have HQ := hide (And.intro hb1 (And.intro hst (And.intro hw hd)))
          clear hb1 hst hw hR hd
          obtain ⟨dk, da, dv, dsa, dsn, dsc, df, dla, dln, dlc⟩ := d
          go_wp2
          obtain ⟨hb1, hst, hw, hd⟩ := unhide HQ
          have h0 := set6_blk hw ⟨dk, da, dv, dsa, dsn, dsc, df, dla, dln, dlc⟩
          have hbV := below_but ((unhide HVx).1.trans (hb1.mono (by omega))) (set6_but w2 w.heap.size ⟨dk, da, dv, dsa, dsn, dsc, df, dla, dln, dlc⟩) (Nat.le_refl _) (Nat.le_refl _)
          have hN := sub_node (n := n) (sc := sc) (unhide Hm l ho).1 (unhide Hm l ho).2 hst
          rw [← hd] at hN
          have hp : LeafPost n A (some (subs ⟨#[]⟩ l)) w (.returned (.tuple #[Fd.val ⟨dk, da, dv, dsa, dsn, dsc, df, dla, dln, dlc⟩, .nilIface])) (set6 w2 w.heap.size ⟨dk, da, dv, dsa, dsn, dsc, df, dla, dln, dlc⟩) :=
            ⟨hbV, _, rfl, (hN.of fun b hb hl => (set6_but w2 w.heap.size ⟨dk, da, dv, dsa, dsn, dsc, df, dla, dln, dlc⟩).block b hl (by omega)).imp fun b hb _ => by omega⟩
          exact finV (b := w.heap.size) (d := ⟨dk, da, dv, dsa, dsn, dsc, df, dla, dln, dlc⟩) (u := .nilIface) h0 rfl rfl (by rw [ho]; exact hp)
end Go.Proofs.YtmjfkdpaeenfgaaGreatDoor.F

/-
  The reader's condition: a filter without others in it. Conditions: the package-level variables hold what the program's text lays; what is read of values at a time has at most 1000 bytes.
-/
namespace Go.Proofs.YtmjfkdpaeenfgaaGreatDoor.F
open Go Go.RowKit Go.Shelf Fp
open Go.Proofs.YtmjfkdpaeenfgaaGreatDoor.Dp (mp)
open Go.Proofs.YtmjfkdpaeenfgaaGreatDoor.D (hide unhide ext_list)
attribute [local go_sem] Oper.semAt_some

/-- what stands about the reader. -/
structure Env (A : Ad) (w0 : World) (R kb : Nat) (s : ByteArray) (p : Nat) (w : World) : Prop where
  g : Glob A w0
  b : Below w0.heap.size w0 w
  lo : w0.heap.size ≤ R
  r : RAt w R s kb p
  k : KindsAt w kb
  ne : kb ≠ R
theorem KindsAt.lt {W : World} {B : Nat} (h : KindsAt W B) : B < W.heap.size := by
  obtain ⟨n, D, h1, h2⟩ := h
  exact h1.lt
theorem Env.glob {A : Ad} {w0 : World} {R kb : Nat} {s : ByteArray} {p : Nat} {w : World} (h : Env A w0 R kb s p w) : Glob A w := h.g.below (Nat.le_refl _) h.b
theorem Env.but {A : Ad} {w0 : World} {R kb : Nat} {s : ByteArray} {p q : Nat} {w w' : World} (h : Env A w0 R kb s p w) (hb : But R w w') (hr : RAt w' R s kb q) : Env A w0 R kb s q w' :=
  ⟨h.g, below_but h.b hb (Nat.le_refl _) h.lo, h.lo, hr, h.k.of (hb.block _ h.k.lt h.ne), h.ne⟩
theorem Env.below {A : Ad} {w0 : World} {R kb : Nat} {s : ByteArray} {p : Nat} {w w' : World} (h : Env A w0 R kb s p w) (hb : Below w.heap.size w w') : Env A w0 R kb s p w' := h.but (But.of_below hb) (h.r.below hb)
theorem Env.set {A : Ad} {w0 : World} {R kb : Nat} {s : ByteArray} {p : Nat} {w : World} (h : Env A w0 R kb s p w) (q : Nat) : Env A w0 R kb s q (w.setCell ⟨R, 1, none⟩ (.int .i64 (q : Int))) := h.but ((But.refl _ _).setCell _ _) (h.r.set q)

/-- what filter, body and condition leave. -/
def RdPost (n : Nat) (A : Ad) (R kb : Nat) (s : ByteArray) (o : Option (Fl (n + 1) × List UInt8)) (w : World) (e : Ending) (w' : World) : Prop := But R w w' ∧ match o with
  | some (F, r) => ∃ d : Fd, e = .returned (.tuple #[d.val, .nilIface]) ∧ FNode (n + 1) w' (fun b => w.heap.size ≤ b) d F ∧ ∃ q, RAt w' R s kb q ∧ q ≤ s.size ∧ r = s.data.toList.drop q
  | none => ∃ d : Fd, ∃ T x, e = .returned (.tuple #[d.val, .iface T x]) ∧ IsErr A (.iface T x)

/-- what is read of values at a time is not large. -/
def Pc (p : List UInt8) : Prop := p.length ≤ 2000 ∧ match cutB 61 p with
  | none => True
  | some (a, t) => if (kindOf a).2 = 3 then ∀ q ∈ spl 42 t, q.length ≤ 1000 else t.length ≤ 1000

theorem kindS_two (x : UInt8) : kindS [x, 61] = if x = 62 then some 5 else if x = 60 then some 6 else if x = 126 then some 8 else none := by
  unfold kindS
  simp
theorem rdVals_name {n : Nat} (k : Int) (a : ByteArray) (t : List UInt8) : (rdVals k a t : Option (Fl (n + 1))) = (rdVals k ⟨#[]⟩ t).map fun F => mk (kd F) a (va F) (an F) (fi F) (ls F) := by
  unfold rdVals
  split
  · rw [Option.map_map]; rfl
  · split
    · rfl
    · split
      · rfl
      · rw [Option.map_map]; rfl
/-- the byte ahead of the sign. -/
theorem kind_look (a : ByteArray) (m : Nat) (hm : m = a.size - 1) : match kindS ((a.extract m a.size).data.toList ++ [61]) with
    | some k => kindOf a.data.toList = ((a.extract 0 m).data.toList, k)
    | none => kindOf a.data.toList = (a.data.toList, 3) := by
  have hz : a.size = a.data.toList.length := (Array.length_toList).symm
  rw [ext_list, ext_list, hz, List.take_length]
  rw [hz] at hm
  generalize a.data.toList = l at *
  rcases List.eq_nil_or_concat l with rfl | ⟨r, x, rfl⟩
  · simp [kindS, kindOf]
  · have e1 : m = r.length := by rw [hm]; simp
    subst e1
    rw [List.concat_eq_append] at *
    have e2 : (r ++ [x]).drop r.length = [x] := by simp
    have e3 : ((r ++ [x]).take r.length).drop 0 = r := by simp
    rw [e2, e3, List.singleton_append, kindS_two]
    unfold kindOf
    rw [List.getLast?_concat, List.dropLast_concat]
    by_cases h1 : x = 62
    · subst h1; simp
    by_cases h2 : x = 60
    · subst h2; simp
    by_cases h3 : x = 126
    · subst h3; simp
    simp [h1, h2, h3]
theorem finC {b : Nat} {V : World} {tmps : Array Value} {d : Fd} {u : Value} {Q : Ending → World → Prop} (h0 : V.heap[b]? = some (.cells d.cs 25 (0, 0)))
    (t4 : tmps.getD 2 undef = .pointer (some ⟨b, 0, none⟩)) (t5 : tmps.getD 3 undef = u) (hp : Q (.returned (.tuple #[d.val, u])) V) :
    bodyPost Tryz.prog Tryz.f114 Q Exit.ret { tmps, defers := [] } V := by
  refine ⟨rfl, .tuple #[d.val, u], ?_, hp⟩
  obtain ⟨⟨c0, c1, c2, c3, c4, c5⟩, _⟩ := box6 h0
  have t4' : tmps[2]?.getD undef = .pointer (some ⟨b, 0, none⟩) := by simpa using t4
  have t5' : tmps[3]?.getD undef = u := by simpa using t5
  simp [results, Tryz.results114, go_sem, t4', t5', c0, c1, c2, c3, c4, c5]

/-- what condition tells of what stands ahead of the closing sign. -/
def rdCon {n : Nat} (r : List UInt8) : Option (Fl (n + 1) × List UInt8) := match cutB 41 r with
  | none => none
  | some (p, _) => (rdC p).map fun F => (F, r.drop p.length)
set_option maxRecDepth 100000 in
set_option maxHeartbeats 2000000 in
theorem condition_bad (n : Nat) (A : Ad) (w0 : World) (R kb p : Nat) (s : ByteArray) (w : World) (hE : Env A w0 R kb s p w) (hs : s.size ≤ 100000000) (hp : p ≤ s.size)
    (hb : match cutB 41 (s.data.toList.drop p) with | none => True | some (q, _) => cutB 61 q = none) :
    Calls Tryz.prog 114 #[.pointer (some ⟨R, 0, none⟩)] w (RdPost n A R kb s none w) := by
  obtain ⟨V, hV⟩ : ∃ V, V = w.alloc (.cells zfd.cs 25) := ⟨_, rfl⟩
  have hVb : Below w.heap.size w V := by rw [hV]; exact (Below.refl _ _).alloc (Nat.le_refl _) _
  have hV0 : V.heap[w.heap.size]? = some (.cells zfd.cs 25 (0, 0)) := by rw [hV]; exact World.alloc_heap_new _ _
  have hVz : w.heap.size < V.heap.size := by rw [hV]; simp
  have hgl : (5 : Nat) < w.heap.size := Nat.lt_of_lt_of_le (D.lt_cell hE.g.vsi) hE.b.size
  have hg1 : w.heap.size ≠ 5 := by omega
  have hg2 : (5 : Nat) ≠ w.heap.size := by omega
  have hEV := hE.below hVb
  obtain ⟨⟨k0, k1, k2⟩, _⟩ := hEV.r.cells
  have q0 := fun z : Kw V => Kw.cell z k0 (D.lt_cell k0)
  have q1 := fun z : Kw V => Kw.cell z k1 (D.lt_cell k1)
  have hne : Nonempty (Kw V) := kwNonempty V
  have hmx : Tryz.prog.follows .mixedOrders = true := by kernel_rfl
  have HVw := hide hV
  have HU := fun z : Kw V => upTo_any s p 41 z.w hs hp
  have h01 : ∃ (pc : ByteArray) (cl : Bool), (∀ z : Kw V, Calls Tryz.prog 126 #[tv s, .int .i64 (p : Int), .string ⟨#[41]⟩] z.w fun e w' => e = .returned (.tuple #[.string pc, .bool cl]) ∧ Below z.w.heap.size z.w w') ∧ pc.size ≤ s.size ∧ (cl = true → cutB 61 pc.data.toList = none) := by
    cases hc : cutB 41 (s.data.toList.drop p) with
    | none =>
      rw [hc] at HU
      exact ⟨_, _, HU, by rw [ByteArray.size_extract]; omega, fun h => by cases h⟩
    | some q =>
      obtain ⟨q, c⟩ := q
      rw [hc] at HU hb
      refine ⟨_, _, HU, ?_, fun _ => by simpa using hb⟩
      have h1 := (cutB_some _ _ _ _ hc).1
      have h2 := congrArg List.length h1
      simp at h2
      show q.toArray.size ≤ _
      simp
      have : s.data.size = s.size := rfl
      omega
  obtain ⟨pc, cl, hU, hpc, hcl⟩ := h01
  have HC := hide fun z : Kw V => z.call (hU z)
  clear HU hb hU
  have Hcut : ∀ W, Calls Tryz.prog 65 #[.string pc, .string ⟨#[61]⟩] W fun e w' => ∃ a t b, e = .returned (.tuple #[.string a, .string t, .bool b]) ∧ Below W.heap.size W w' ∧ (cl = true → b = false) := by
    intro W
    cases hc : cutB 61 pc.data.toList with
    | none => exact (cut_none 61 pc W hc).mono fun e w' h => ⟨_, _, _, h.1, h.2, fun _ => rfl⟩
    | some q =>
      obtain ⟨a, t⟩ := q
      exact (cut_some 61 pc a t W (by omega) hc).mono fun e w' h => ⟨_, _, _, h.1, h.2, fun h2 => by rw [hcl h2] at hc; cases hc⟩
  have HK := hide Hcut
  have HE := hide hEV
  have HVx := hide (And.intro hVb hV0)
  clear hE hs hp hV hVb hV0 hEV k0 k1 k2 hpc hcl Hcut
  go_enter Tryz.func114, Tryz.ntmps114
  go_wp2_with fail
  rw [← unhide HVw]
  refine wp_region_kw0 (by kernel_rfl) (by kernel_rfl) ?_
  repeat (go_big_quiet_step (first | with_reducible exact (unhide HC) _))
  refine wpQuiet_nil ?_
  rintro w' ⟨z, rfl⟩
  clear q0 q1 hne
  go_wp2_with fail
  refine ((unhide HK) _).mono ?_
  rintro e w2 ⟨a, t, b, rfl, hb2, himp⟩
  have HB2 := hide (z.b.trans (hb2.mono z.b.size))
  clear hb2
  have key : (!cl) = true ∨ (cl = true ∧ b = false) := by
    cases cl with
    | false => exact .inl rfl
    | true => exact .inr ⟨rfl, himp rfl⟩
  clear himp
  have hw := ((unhide HB2).block _ hVz).trans (unhide HVx).2
  obtain ⟨⟨c0, c1, c2, c3, c4, c5⟩, f0, f1, f2, f3, f4, f5⟩ := box6 hw
  dsimp only at c0 c1 c2 c3 c4 c5
  have hco := ((unhide HE).glob.next (unhide HB2)).vsi
  clear HC HK
  rcases key with hkey | ⟨rfl, rfl⟩
  · obtain rfl : cl = false := by simpa using hkey
    clear hkey
    go_wp2_with fail
    refine wp_mono (Q := fun e a1 W => match e with | .normal => a1.defers = [] ∧ a1.tmps.getD 2 undef = .pointer (some ⟨w.heap.size, 0, none⟩) ∧ a1.tmps.getD 3 undef = sen A.si ∧ W = (set6 w2 w.heap.size zfd).drew | _ => False) ?_ ?_
    · go_region
      all_goals exact ⟨rfl, rfl, rfl, rfl⟩
    rintro e ⟨tmps, defers⟩ W hq
    cases e with
    | normal =>
      obtain ⟨hdf, t4, t5, hW⟩ := hq
      dsimp only at hdf t4 t5
      subst hdf
      have HQ := hide (And.intro t4 (And.intro t5 hW))
      have HW2 := hide hw
      clear t4 t5 hW hw c0 c1 c2 c3 c4 c5 f0 f1 f2 f3 f4 f5
      go_wp2
      obtain ⟨t4, t5, hW⟩ := unhide HQ
      have h0 := set6_blk (unhide HW2) zfd
      have hbl := below_but ((unhide HVx).1.trans ((unhide HB2).mono (by omega))) (set6_but w2 w.heap.size zfd) (Nat.le_refl _) (Nat.le_refl _)
      generalize set6 w2 w.heap.size zfd = U at h0 hbl hW
      have hbl2 : Below w.heap.size w W := by rw [hW]; exact hbl.drew
      have h02 : W.heap[w.heap.size]? = some (.cells zfd.cs 25 (0, 0)) := by rw [hW]; exact h0
      have hp : RdPost n A R kb s none w (.returned (.tuple #[Fd.val zfd, sen A.si])) W := ⟨But.of_below hbl2, zfd, _, _, rfl, IsErr.sen (isS_si A)⟩
      exact finC (b := w.heap.size) (d := zfd) (u := sen A.si) h02 t4 t5 hp
    | _ => exact hq.elim
  · go_wp2_with fail
    refine wp_mono (Q := fun e a1 W => match e with | .normal => a1.defers = [] ∧ a1.tmps.getD 2 undef = .pointer (some ⟨w.heap.size, 0, none⟩) ∧ a1.tmps.getD 3 undef = sen A.si ∧ W = (set6 w2 w.heap.size zfd).drew | _ => False) ?_ ?_
    · go_region
      all_goals exact ⟨rfl, rfl, rfl, rfl⟩
    rintro e ⟨tmps, defers⟩ W hq
    cases e with
    | normal =>
      obtain ⟨hdf, t4, t5, hW⟩ := hq
      dsimp only at hdf t4 t5
      subst hdf
      have HQ := hide (And.intro t4 (And.intro t5 hW))
      have HW2 := hide hw
      clear t4 t5 hW hw c0 c1 c2 c3 c4 c5 f0 f1 f2 f3 f4 f5
      go_wp2
      obtain ⟨t4, t5, hW⟩ := unhide HQ
      have h0 := set6_blk (unhide HW2) zfd
      have hbl := below_but ((unhide HVx).1.trans ((unhide HB2).mono (by omega))) (set6_but w2 w.heap.size zfd) (Nat.le_refl _) (Nat.le_refl _)
      generalize set6 w2 w.heap.size zfd = U at h0 hbl hW
      have hbl2 : Below w.heap.size w W := by rw [hW]; exact hbl.drew
      have h02 : W.heap[w.heap.size]? = some (.cells zfd.cs 25 (0, 0)) := by rw [hW]; exact h0
      have hp : RdPost n A R kb s none w (.returned (.tuple #[Fd.val zfd, sen A.si])) W := ⟨But.of_below hbl2, zfd, _, _, rfl, IsErr.sen (isS_si A)⟩
      exact finC (b := w.heap.size) (d := zfd) (u := sen A.si) h02 t4 t5 hp
    | _ => exact hq.elim

theorem rdC_is {n : Nat} {q a t : List UInt8} (h : cutB 61 q = some (a, t)) (nm' : ByteArray) (k : Int) (hk : kindOf a = (nm'.data.toList, k)) : (rdC q : Option (Fl (n + 1))) = (rdVals k ⟨#[]⟩ t).map fun F => mk (kd F) nm' (va F) (an F) (fi F) (ls F) := by
  unfold rdC
  rw [h]
  simp only
  rw [hk]
  simp only
  rw [E.mk_data, rdVals_name]
theorem named {n : Nat} {W : World} {p : Nat → Prop} {d : Fd} {F : Fl (n + 1)} (h : FNode (n + 1) W p d F) (a : ByteArray) (ha : a.size ≤ 2000) : FNode (n + 1) W p ⟨d.k, a, d.v, d.sa, d.sn, d.sc, d.f, d.la, d.ln, d.lc⟩ (mk (kd F) a (va F) (an F) (fi F) (ls F)) :=
  ⟨⟨h.is.k, rfl, h.is.v, h.is.f, h.is.sn, h.is.ln⟩, ⟨ha, h.sm.v, h.sm.f, h.sm.sn, h.sm.s, h.sm.ln⟩, h.strs, h.2.2.2⟩
theorem But.late {R b : Nat} {w A B : World} (h : But R w A) (k : But b A B) (hb : w.heap.size ≤ b) : But R w B :=
  ⟨k.os.trans h.os, k.tape.trans h.tape, k.output.trans h.output, Nat.le_trans h.size k.size, fun i hi hn => (k.block i (Nat.lt_of_lt_of_le hi h.size) (by omega)).trans (h.block i hi hn)⟩
/-- what readValues leaves, as one. -/
def LeafAny (n : Nat) (A : Ad) (o : Option (Fl (n + 1))) (w : World) (d : Fd) (er : Value) (w' : World) : Prop := match o with
  | some F => er = .nilIface ∧ FNode (n + 1) w' (fun b => w.heap.size ≤ b) d F
  | none => ∃ T x, er = .iface T x ∧ IsErr A (.iface T x)
theorem leaf_any {n : Nat} {A : Ad} {o : Option (Fl (n + 1))} {w w' : World} {e : Ending} (h : LeafPost n A o w e w') : ∃ (d : Fd) (er : Value), e = .returned (.tuple #[d.val, er]) ∧ Below w.heap.size w w' ∧ LeafAny n A o w d er w' := by
  obtain ⟨hb, h⟩ := h
  cases o with
  | some F => obtain ⟨d, h1, h2⟩ := h; exact ⟨d, _, h1, hb, rfl, h2⟩
  | none => obtain ⟨d, T, x, h1, h2⟩ := h; exact ⟨d, _, h1, hb, T, x, rfl, h2⟩
set_option maxRecDepth 100000 in
set_option maxHeartbeats 4000000 in
theorem condition_ok (n : Nat) (A : Ad) (w0 : World) (R kb p : Nat) (s : ByteArray) (w : World) (hE : Env A w0 R kb s p w) (hs : s.size ≤ 100000000) (hp : p ≤ s.size)
    (q c a t : List UInt8) (hq : cutB 41 (s.data.toList.drop p) = some (q, c)) (ha : cutB 61 q = some (a, t)) (hPc : Pc q) :
    Calls Tryz.prog 114 #[.pointer (some ⟨R, 0, none⟩)] w (RdPost n A R kb s ((rdC q).map fun F => (F, (s.data.toList.drop p).drop q.length)) w) := by
  obtain ⟨V, hV⟩ : ∃ V, V = w.alloc (.cells zfd.cs 25) := ⟨_, rfl⟩
  have hVb : Below w.heap.size w V := by rw [hV]; exact (Below.refl _ _).alloc (Nat.le_refl _) _
  have hV0 : V.heap[w.heap.size]? = some (.cells zfd.cs 25 (0, 0)) := by rw [hV]; exact World.alloc_heap_new _ _
  have hVz : w.heap.size < V.heap.size := by rw [hV]; simp
  have hRw := hE.r.lt
  have hEV := hE.below hVb
  obtain ⟨⟨k0, k1, k2⟩, _⟩ := hEV.r.cells
  have q0 := fun z : Kw V => Kw.cell z k0 (D.lt_cell k0)
  have q1 := fun z : Kw V => Kw.cell z k1 (D.lt_cell k1)
  have hne : Nonempty (Kw V) := kwNonempty V
  have hmx : Tryz.prog.follows .mixedOrders = true := by kernel_rfl
  have HVw := hide hV
  have hql : q.length + p ≤ s.size ∧ a.length ≤ q.length ∧ t.length ≤ q.length := by
    have h1 := congrArg List.length (cutB_some _ _ _ _ hq).1
    have h2 := congrArg List.length (cutB_some _ _ _ _ ha).1
    simp at h1 h2
    have : s.data.size = s.size := rfl
    omega
  obtain ⟨hP1, hP2⟩ := hPc
  rw [ha] at hP2
  obtain ⟨pc, hpc⟩ : ∃ pc : ByteArray, pc = ⟨q.toArray⟩ := ⟨_, rfl⟩
  obtain ⟨an, han⟩ : ∃ an : ByteArray, an = ⟨a.toArray⟩ := ⟨_, rfl⟩
  obtain ⟨tt, htt⟩ : ∃ tt : ByteArray, tt = ⟨t.toArray⟩ := ⟨_, rfl⟩
  have hpcl : pc.data.toList = q := by rw [hpc]
  have hanl : an.data.toList = a := by rw [han]
  have httl : tt.data.toList = t := by rw [htt]
  have hpz : pc.size = q.length := by rw [hpc]; show q.toArray.size = _; simp
  have haz : an.size = a.length := by rw [han]; show a.toArray.size = _; simp
  have htz : tt.size = t.length := by rw [htt]; show t.toArray.size = _; simp
  have HU := fun z : Kw V => upTo_any s p 41 z.w hs hp
  rw [hq] at HU
  simp only at HU
  rw [← hpc] at HU
  have HC := hide fun z : Kw V => z.call (HU z)
  have HK := hide fun W => cut_some 61 pc a t W (by omega) (by rw [hpcl]; exact ha)
  rw [← han, ← htt] at HK
  obtain ⟨m, hm⟩ : ∃ m, m = an.size - 1 := ⟨_, rfl⟩
  have hmi : max ((an.size : Int) - 1) 0 = (m : Int) := by omega
  have hml : (m : Int) ≤ an.size := by omega
  have hkl := kind_look an m hm
  rw [hanl] at hkl
  have HE := hide hEV
  have HVx := hide (And.intro hVb hV0)
  have Hz := hide (And.intro hql (And.intro hpz (And.intro haz htz)))
  have hps : (p : Int) + pc.size ≤ 100000000 := by omega
  have han2 : (an.size : Int) ≤ 2000 := by omega
  have HP := hide (And.intro hP1 hP2)
  have Hq := hide (And.intro hq ha)
  have Htl := hide httl
  have Hal := hide hanl
  obtain ⟨ko, hko⟩ : ∃ ko, kindS ((an.extract m an.size).data.toList ++ [61]) = ko := ⟨_, rfl⟩
  rw [hko] at hkl
  have Hlook : Hid (∀ W, KindsAt W kb → (Instr.lookup 82 (.map (some kb)) (.string (an.extract m an.size ++ ⟨#[61]⟩)) true).run Tryz.prog W = .ok (.tuple #[.int .i64 (ko.getD 0), .bool ko.isSome]) W) := hide fun W (h : KindsAt W kb) => by
    have := h.look (an.extract m an.size ++ ⟨#[61]⟩) (by unfold maxLen; rw [ByteArray.size_append, ByteArray.size_extract]; show _ + 1 ≤ _; omega)
    rwa [E.data_app, show (⟨#[61]⟩ : ByteArray).data.toList = [61] from rfl, hko] at this
  clear hko
  clear hE hs hV hVb hV0 hEV k0 k1 k2 HU hql hpz haz htz hP1 hP2 hq ha hpcl hanl httl hpc han htt hm
  go_enter Tryz.func114, Tryz.ntmps114
  go_wp2_with fail
  rw [← unhide HVw]
  refine wp_region_kw0 (by kernel_rfl) (by kernel_rfl) ?_
  repeat (go_big_quiet_step (first | with_reducible exact (unhide HC) _))
  refine wpQuiet_nil ?_
  rintro w' ⟨z, rfl⟩
  clear q0 q1 hne
  go_wp2_with fail
  refine ((unhide HK) _).mono ?_
  rintro e w2 ⟨rfl, hb2⟩
  have HB2 := hide (z.b.trans (hb2.mono z.b.size))
  clear hb2 HC HK
  have hE2 := (unhide HE).below (unhide HB2)
  obtain ⟨⟨k0, k1, k2⟩, f1⟩ := hE2.r.cells
  have hE3 := hE2.set (p + pc.size)
  rw [show ((p + pc.size : Nat) : Int) = (p : Int) + pc.size by omega] at hE3
  have HE3 := hide hE3
  have HE2 := hide hE2
  clear hE2 hE3
  go_wp2_with fail
  obtain ⟨X, hX⟩ : ∃ X, X = w2.setCell ⟨R, 1, none⟩ (.int .i64 ((p : Int) + pc.size)) := ⟨_, rfl⟩
  rw [← hX]
  have hE3 := unhide HE3
  rw [← hX] at hE3
  have hXw : But R w X := by rw [hX]; exact (But.of_below ((unhide HVx).1.trans ((unhide HB2).mono (by omega)))).setCell _ _
  have hXn : X.heap[w.heap.size]? = some (.cells zfd.cs 25 (0, 0)) := by
    rw [hX]
    exact (Below.heap_setCell _ _ _ _ (by show w.heap.size ≠ R; omega)).trans (((unhide HB2).block _ hVz).trans (unhide HVx).2)
  have hl := fun z : Kw X => (unhide Hlook) z.w (hE3.k.below z.b)
  obtain ⟨⟨_, _, x2⟩, _⟩ := hE3.r.cells
  have q2 := fun z : Kw X => Kw.cell z x2 (D.lt_cell x2)
  have hne : Nonempty (Kw X) := kwNonempty X
  have HX := hide (And.intro hXw (And.intro hXn hE3))
  clear k0 k1 k2 f1 HE3 HE2 hX hXw hXn hE3 x2
  cases ko with
  | none =>
    simp only at hkl
    refine wp_region_kw0 (by kernel_rfl) (by kernel_rfl) ?_
    repeat (go_big_quiet_step (fail))
    refine wpQuiet_nil ?_
    rintro w' ⟨y, rfl⟩
    have HR := hide (readValues_any n 3 tt A y.w (((unhide HX).2.2.below y.b).glob) (by have := unhide Hz; have := (unhide HE).r.lt; omega) (by
      rw [unhide Htl]
      have h2 := (unhide HP).2
      rw [hkl] at h2
      rw [(unhide Hz).2.2.2]
      exact h2))
    rw [unhide Htl] at HR
    clear q2 hne hl
    go_wp2_with fail
    refine (unhide HR).mono ?_
    rintro e w3 he
    obtain ⟨d, er, rfl, hb3, hL⟩ := leaf_any he
    have HB3 := hide (And.intro hb3 hL)
    clear HR he hb3 hL
    obtain ⟨dk, da, dv, dsa, dsn, dsc, df, dla, dln, dlc⟩ := d
    go_wp2_with fail
    have HCl := hide fun W => clone_any an W (by have := unhide Hz; have := (unhide HP).1; omega)
    refine ((unhide HCl) _).mono ?_
    rintro e w4 ⟨rfl, hb4⟩
    have hs3 := (unhide HB3).1.size
    have hsy := y.b.size
    have hXn := (unhide HX).2.1
    have hXs : w.heap.size < X.heap.size := (Array.getElem?_eq_some_iff.1 hXn).1
    have hs4 : w3.heap.size + 1 ≤ w4.heap.size := by have := hb4.size; simpa using this
    have k4 : ∀ b, b < w3.heap.size → w4.heap[b]? = w3.heap[b]? := fun b hb => (hb4.block b (by simp; omega)).trans (Below.heap_alloc _ _ _ hb)
    have hbx : w4.heap[w3.heap.size]? = some (.cells (Fd.cs ⟨dk, da, dv, dsa, dsn, dsc, df, dla, dln, dlc⟩) 25 (0, 0)) := (hb4.block _ (by simp)).trans (World.alloc_heap_new _ _)
    have hn4 : w4.heap[w.heap.size]? = some (.cells zfd.cs 25 (0, 0)) := (k4 _ (by omega)).trans (((unhide HB3).1.block _ (by omega)).trans ((y.b.block _ hXs).trans hXn))
    have hB4 : But R w w4 := ((((unhide HX).1.trans (But.of_below y.b)).trans (But.of_below (unhide HB3).1)).trans (But.of_below ((Below.refl _ _).alloc (Nat.le_refl _) _))).trans (But.of_below hb4)
    have hR4 : RAt w4 R s kb (p + pc.size) := ((((unhide HX).2.2.r.below y.b).below (unhide HB3).1).below ((Below.refl _ _).alloc (Nat.le_refl _) _)).below hb4
    obtain ⟨⟨c0, c1, c2, c3, c4, c5⟩, f0, f1, f2, f3, f4, f5⟩ := box6 hbx
    dsimp only at c0 c1 c2 c3 c4 c5
    obtain ⟨⟨e0, e1, e2, e3, e4, e5⟩, r0, r1, r2, r3, r4, r5⟩ := box6 hn4
    dsimp only at e0 e1 e2 e3 e4 e5
    have n1 : w3.heap.size ≠ w.heap.size := by omega
    have n2 : w.heap.size ≠ w3.heap.size := by omega
    have HF := hide (And.intro hs3 (And.intro hsy (And.intro hXs (And.intro hs4 (And.intro k4 (And.intro hbx (And.intro hn4 (And.intro hB4 hR4))))))))
    clear HCl hb4 hs3 hsy hXn hXs hs4 k4 hbx hn4 hB4 hR4
    go_wp2
    obtain ⟨hs3, hsy, hXs, hs4, k4, hbx, hn4, hB4, hR4⟩ := unhide HF
    obtain ⟨G, hG⟩ : ∃ G, G = w4.setCell ⟨w3.heap.size, 1, none⟩ (.string an) := ⟨_, rfl⟩
    rw [← hG]
    have hGb : But w3.heap.size w4 G := by rw [hG]; exact (But.refl _ _).setCell _ _
    have hGn : G.heap[w.heap.size]? = some (.cells zfd.cs 25 (0, 0)) := (hGb.block _ (by omega) n2).trans hn4
    have hGR : But R w G := hB4.late hGb (by omega)
    have h0 := set6_blk hGn ⟨dk, an, dv, dsa, dsn, dsc, df, dla, dln, dlc⟩
    have hSb := set6_but G w.heap.size ⟨dk, an, dv, dsa, dsn, dsc, df, dla, dln, dlc⟩
    have hSR : But R w (set6 G w.heap.size ⟨dk, an, dv, dsa, dsn, dsc, df, dla, dln, dlc⟩) := hGR.late hSb (Nat.le_refl _)
    have hRR := (hR4.but hGb (by omega)).but hSb (by omega)
    have hp : RdPost n A R kb s ((rdC q).map fun F => (F, (s.data.toList.drop p).drop q.length)) w (.returned (.tuple #[Fd.val ⟨dk, an, dv, dsa, dsn, dsc, df, dla, dln, dlc⟩, er])) (set6 G w.heap.size ⟨dk, an, dv, dsa, dsn, dsc, df, dla, dln, dlc⟩) := by
      refine ⟨hSR, ?_⟩
      rw [rdC_is (unhide Hq).2 an 3 (by rw [unhide Hal]; exact hkl)]
      have hL := (unhide HB3).2
      cases ho : (rdVals 3 ⟨#[]⟩ t : Option (Fl (n + 1))) with
      | none =>
        rw [ho] at hL
        obtain ⟨T, x, rfl, hE⟩ := hL
        exact ⟨_, T, x, rfl, hE⟩
      | some F =>
        rw [ho] at hL
        obtain ⟨rfl, hN⟩ := hL
        have hN2 := named hN an (by have := unhide Hz; have := (unhide HP).1; omega)
        refine ⟨_, rfl, (hN2.of fun b hb hl => ?_).imp fun b hb _ => by omega, p + pc.size, hRR, by have := unhide Hz; omega, ?_⟩
        · exact (hSb.block b (by have := hGb.size; omega) (by omega)).trans ((hGb.block b (by omega) (by omega)).trans (k4 b hl))
        · rw [(unhide Hz).2.1, List.drop_drop]
    exact finC (b := w.heap.size) (d := ⟨dk, an, dv, dsa, dsn, dsc, df, dla, dln, dlc⟩) (u := er) h0 rfl rfl hp
  | some kd =>
    simp only at hkl
    refine wp_region_kw0 (by kernel_rfl) (by kernel_rfl) ?_
    repeat (go_big_quiet_step (fail))
    refine wpQuiet_nil ?_
    rintro w' ⟨y, rfl⟩
    have HR := hide (readValues_any n kd tt A y.w (((unhide HX).2.2.below y.b).glob) (by have := unhide Hz; have := (unhide HE).r.lt; omega) (by
      rw [unhide Htl]
      have h2 := (unhide HP).2
      rw [hkl] at h2
      rw [(unhide Hz).2.2.2]
      exact h2))
    rw [unhide Htl] at HR
    clear q2 hne hl
    go_wp2_with fail
    refine (unhide HR).mono ?_
    rintro e w3 he
    obtain ⟨d, er, rfl, hb3, hL⟩ := leaf_any he
    have HB3 := hide (And.intro hb3 hL)
    clear HR he hb3 hL
    obtain ⟨dk, da, dv, dsa, dsn, dsc, df, dla, dln, dlc⟩ := d
    go_wp2_with fail
    have HCl := hide fun W => clone_any (an.extract 0 m) W (by have := unhide Hz; have := (unhide HP).1; rw [ByteArray.size_extract]; omega)
    refine ((unhide HCl) _).mono ?_
    rintro e w4 ⟨rfl, hb4⟩
    have hs3 := (unhide HB3).1.size
    have hsy := y.b.size
    have hXn := (unhide HX).2.1
    have hXs : w.heap.size < X.heap.size := (Array.getElem?_eq_some_iff.1 hXn).1
    have hs4 : w3.heap.size + 1 ≤ w4.heap.size := by have := hb4.size; simpa using this
    have k4 : ∀ b, b < w3.heap.size → w4.heap[b]? = w3.heap[b]? := fun b hb => (hb4.block b (by simp; omega)).trans (Below.heap_alloc _ _ _ hb)
    have hbx : w4.heap[w3.heap.size]? = some (.cells (Fd.cs ⟨dk, da, dv, dsa, dsn, dsc, df, dla, dln, dlc⟩) 25 (0, 0)) := (hb4.block _ (by simp)).trans (World.alloc_heap_new _ _)
    have hn4 : w4.heap[w.heap.size]? = some (.cells zfd.cs 25 (0, 0)) := (k4 _ (by omega)).trans (((unhide HB3).1.block _ (by omega)).trans ((y.b.block _ hXs).trans hXn))
    have hB4 : But R w w4 := ((((unhide HX).1.trans (But.of_below y.b)).trans (But.of_below (unhide HB3).1)).trans (But.of_below ((Below.refl _ _).alloc (Nat.le_refl _) _))).trans (But.of_below hb4)
    have hR4 : RAt w4 R s kb (p + pc.size) := ((((unhide HX).2.2.r.below y.b).below (unhide HB3).1).below ((Below.refl _ _).alloc (Nat.le_refl _) _)).below hb4
    obtain ⟨⟨c0, c1, c2, c3, c4, c5⟩, f0, f1, f2, f3, f4, f5⟩ := box6 hbx
    dsimp only at c0 c1 c2 c3 c4 c5
    obtain ⟨⟨e0, e1, e2, e3, e4, e5⟩, r0, r1, r2, r3, r4, r5⟩ := box6 hn4
    dsimp only at e0 e1 e2 e3 e4 e5
    have n1 : w3.heap.size ≠ w.heap.size := by omega
    have n2 : w.heap.size ≠ w3.heap.size := by omega
    have HF := hide (And.intro hs3 (And.intro hsy (And.intro hXs (And.intro hs4 (And.intro k4 (And.intro hbx (And.intro hn4 (And.intro hB4 hR4))))))))
    clear HCl hb4 hs3 hsy hXn hXs hs4 k4 hbx hn4 hB4 hR4
    go_wp2
    obtain ⟨hs3, hsy, hXs, hs4, k4, hbx, hn4, hB4, hR4⟩ := unhide HF
    obtain ⟨G, hG⟩ : ∃ G, G = w4.setCell ⟨w3.heap.size, 1, none⟩ (.string (an.extract 0 m)) := ⟨_, rfl⟩
    rw [← hG]
    have hGb : But w3.heap.size w4 G := by rw [hG]; exact (But.refl _ _).setCell _ _
    have hGn : G.heap[w.heap.size]? = some (.cells zfd.cs 25 (0, 0)) := (hGb.block _ (by omega) n2).trans hn4
    have hGR : But R w G := hB4.late hGb (by omega)
    have h0 := set6_blk hGn ⟨dk, (an.extract 0 m), dv, dsa, dsn, dsc, df, dla, dln, dlc⟩
    have hSb := set6_but G w.heap.size ⟨dk, (an.extract 0 m), dv, dsa, dsn, dsc, df, dla, dln, dlc⟩
    have hSR : But R w (set6 G w.heap.size ⟨dk, (an.extract 0 m), dv, dsa, dsn, dsc, df, dla, dln, dlc⟩) := hGR.late hSb (Nat.le_refl _)
    have hRR := (hR4.but hGb (by omega)).but hSb (by omega)
    have hp : RdPost n A R kb s ((rdC q).map fun F => (F, (s.data.toList.drop p).drop q.length)) w (.returned (.tuple #[Fd.val ⟨dk, (an.extract 0 m), dv, dsa, dsn, dsc, df, dla, dln, dlc⟩, er])) (set6 G w.heap.size ⟨dk, (an.extract 0 m), dv, dsa, dsn, dsc, df, dla, dln, dlc⟩) := by
      refine ⟨hSR, ?_⟩
      rw [rdC_is (unhide Hq).2 (an.extract 0 m) kd (hkl)]
      have hL := (unhide HB3).2
      cases ho : (rdVals kd ⟨#[]⟩ t : Option (Fl (n + 1))) with
      | none =>
        rw [ho] at hL
        obtain ⟨T, x, rfl, hE⟩ := hL
        exact ⟨_, T, x, rfl, hE⟩
      | some F =>
        rw [ho] at hL
        obtain ⟨rfl, hN⟩ := hL
        have hN2 := named hN (an.extract 0 m) (by have := unhide Hz; have := (unhide HP).1; rw [ByteArray.size_extract]; omega)
        refine ⟨_, rfl, (hN2.of fun b hb hl => ?_).imp fun b hb _ => by omega, p + pc.size, hRR, by have := unhide Hz; omega, ?_⟩
        · exact (hSb.block b (by have := hGb.size; omega) (by omega)).trans ((hGb.block b (by omega) (by omega)).trans (k4 b hl))
        · rw [(unhide Hz).2.1, List.drop_drop]
    exact finC (b := w.heap.size) (d := ⟨dk, (an.extract 0 m), dv, dsa, dsn, dsc, df, dla, dln, dlc⟩) (u := er) h0 rfl rfl hp
theorem condition_any (n : Nat) (A : Ad) (w0 : World) (R kb p : Nat) (s : ByteArray) (w : World) (hE : Env A w0 R kb s p w) (hs : s.size ≤ 100000000) (hp : p ≤ s.size)
    (hPc : ∀ q c, cutB 41 (s.data.toList.drop p) = some (q, c) → Pc q) :
    Calls Tryz.prog 114 #[.pointer (some ⟨R, 0, none⟩)] w (RdPost n A R kb s (rdCon (s.data.toList.drop p)) w) := by
  unfold rdCon
  cases hq : cutB 41 (s.data.toList.drop p) with
  | none => exact condition_bad n A w0 R kb p s w hE hs hp (by rw [hq]; trivial)
  | some q =>
    obtain ⟨q, c⟩ := q
    simp only
    cases ha : cutB 61 q with
    | none =>
      have h := condition_bad n A w0 R kb p s w hE hs hp (by rw [hq]; exact ha)
      unfold rdC
      rw [ha]
      exact h
    | some x =>
      obtain ⟨a, t⟩ := x
      exact condition_ok n A w0 R kb p s w hE hs hp q c a t hq ha (hPc q c hq)
end Go.Proofs.YtmjfkdpaeenfgaaGreatDoor.F

/-
  The closure that filter defers. Conditions: the package-level variables hold what the program's text lays.
-/
namespace Go.Proofs.YtmjfkdpaeenfgaaGreatDoor.F
open Go Go.RowKit Go.Shelf Fp
open Go.Proofs.YtmjfkdpaeenfgaaGreatDoor.D (hide unhide ext_list)
attribute [local go_sem] Oper.semAt_some

/-- only the blocks n and n + 1 turned, and what is new. -/
structure Only2 (n : Nat) (w w' : World) : Prop where
  os : w'.os = w.os
  tape : w'.tape = w.tape
  output : w'.output = w.output
  size : w.heap.size ≤ w'.heap.size
  block : ∀ k, k < w.heap.size → k ≠ n → k ≠ n + 1 → w'.heap[k]? = w.heap[k]?
theorem Only2.of_below {n : Nat} {w w' : World} (h : Below w.heap.size w w') : Only2 n w w' := ⟨h.os, h.tape, h.output, h.size, fun k hk _ _ => h.block k hk⟩
theorem Only2.but0 {n : Nat} {u v w : World} (h : Only2 n u v) (k : But n v w) : Only2 n u w := ⟨k.os.trans h.os, k.tape.trans h.tape, k.output.trans h.output, Nat.le_trans h.size k.size, fun i hi h1 h2 => (k.block i (Nat.lt_of_lt_of_le hi h.size) h1).trans (h.block i hi h1 h2)⟩
theorem Only2.but1 {n : Nat} {u v w : World} (h : Only2 n u v) (k : But (n + 1) v w) : Only2 n u w := ⟨k.os.trans h.os, k.tape.trans h.tape, k.output.trans h.output, Nat.le_trans h.size k.size, fun i hi h1 h2 => (k.block i (Nat.lt_of_lt_of_le hi h.size) h2).trans (h.block i hi h1 h2)⟩

/-- what the closure leaves. -/
def DefPost (A : Ad) (n : Nat) (d : Fd) (ok : Bool) (w w' : World) : Prop := Only2 n w w' ∧
  if ok then w'.heap[n]? = some (.cells d.cs 25 (0, 0)) ∧ w'.heap[n + 1]? = some (.cells #[.nilIface] 47 (0, 0))
  else w'.heap[n]? = some (.cells zfd.cs 25 (0, 0)) ∧ ∃ T x, w'.heap[n + 1]? = some (.cells #[.iface T x] 47 (0, 0)) ∧ IsErr A (.iface T x)
theorem defPost_bad {A : Ad} {n : Nat} {d : Fd} {w v : World} {T T' : TypeId} {x y : Value} {b : Fd} (h0 : v.heap[n]? = some (.cells b.cs 25 (0, 0))) (h1 : v.heap[n + 1]? = some (.cells #[y] T' (0, 0))) (hT : T' = 47)
    (hO : Only2 n w v) (hE : IsErr A (.iface T x)) : DefPost A n d false w ((set6 v n zfd).setCell ⟨n + 1, 0, none⟩ (.iface T x)) := by
  subst hT
  have hb := set6_but v n zfd
  have g0 := set6_blk h0 zfd
  have g1 := (hb.block _ (Array.getElem?_eq_some_iff.1 h1).1 (by omega)).trans h1
  refine ⟨(hO.but0 hb).but1 ((But.refl _ _).setCell _ _), ?_⟩
  rw [if_neg (by simp)]
  exact ⟨(Below.heap_setCell _ _ _ _ (by show n ≠ n + 1; omega)).trans g0, T, x, heap_set _ _ 0 _ _ _ g1, hE⟩
set_option maxRecDepth 100000 in
set_option maxHeartbeats 2000000 in
theorem defer_err (A : Ad) (n : Nat) (d : Fd) (T : TypeId) (x : Value) (fr : Int) (u : FrameMode) (w : World) (h0 : w.heap[n]? = some (.cells d.cs 25 (0, 0))) (h1 : w.heap[n + 1]? = some (.cells #[.iface T x] 47 (0, 0)))
    (h2 : w.heap[n + 1 + 1]? = some (.cells #[.int .i64 fr] 3 (0, 0))) (hE : IsErr A (.iface T x)) :
    CallsD Tryz.prog 89 #[.pointer (some ⟨n + 1, 0, none⟩), .pointer (some ⟨n, 0, none⟩), .pointer (some ⟨n + 1 + 1, 0, none⟩)] u w fun e u' w' => u' = u ∧ e = .returned (.tuple #[]) ∧ DefPost A n d false w w' := by
  obtain ⟨⟨c0, c1, c2, c3, c4, c5⟩, f0, f1, f2, f3, f4, f5⟩ := box6 h0
  obtain ⟨c6, f6⟩ := box1 h1
  obtain ⟨c7, _⟩ := box1 h2
  have HB := hide (And.intro h0 (And.intro h1 hE))
  clear h0 h1 h2 hE
  obtain ⟨dk, da, dv, dsa, dsn, dsc, df, dla, dln, dlc⟩ := d
  dsimp only at c0 c1 c2 c3 c4 c5
  go_enter_d Tryz.func89, Tryz.ntmps89
  go_wp2
  go_end0
  obtain ⟨h0, h1, hE⟩ := unhide HB
  have := defPost_bad (d := ⟨dk, da, dv, dsa, dsn, dsc, df, dla, dln, dlc⟩) (b := ⟨dk, da, dv, dsa, dsn, dsc, df, dla, dln, dlc⟩) h0 h1 rfl (.of_below (Below.refl _ _)) (hE.wrap fr)
  exact ⟨rfl, this⟩
set_option maxRecDepth 100000 in
set_option maxHeartbeats 2000000 in
theorem defer_fits (A : Ad) (n m : Nat) (F : Fl (m + 1)) (d : Fd) (p : Nat → Prop) (fr : Int) (u : FrameMode) (w : World) (g : Glob A w) (h0 : w.heap[n]? = some (.cells d.cs 25 (0, 0))) (h1 : w.heap[n + 1]? = some (.cells #[.nilIface] 47 (0, 0)))
    (h2 : w.heap[n + 1 + 1]? = some (.cells #[.int .i64 fr] 3 (0, 0))) (hN : FNode (m + 1) w p d F) :
    CallsD Tryz.prog 89 #[.pointer (some ⟨n + 1, 0, none⟩), .pointer (some ⟨n, 0, none⟩), .pointer (some ⟨n + 1 + 1, 0, none⟩)] u w fun e u' w' => u' = u ∧ e = .returned (.tuple #[]) ∧ DefPost A n d (fitF F) w w' := by
  obtain ⟨⟨c0, c1, c2, c3, c4, c5⟩, f0, f1, f2, f3, f4, f5⟩ := box6 h0
  obtain ⟨c6, f6⟩ := box1 h1
  obtain ⟨c7, _⟩ := box1 h2
  have HF := hide (fits_any F d A w p g hN.is hN.sm hN.strs)
  have HB := hide (And.intro h0 (And.intro h1 h2))
  clear h0 h1 h2 hN g
  obtain ⟨dk, da, dv, dsa, dsn, dsc, df, dla, dln, dlc⟩ := d
  dsimp only at c0 c1 c2 c3 c4 c5
  cases hf : fitF F with
  | true =>
    rw [hf] at HF
    go_enter_d Tryz.func89, Tryz.ntmps89
    go_wp2_with fail
    refine (unhide HF).mono ?_
    rintro e w1 ⟨hb, he⟩
    rw [if_pos rfl] at he
    subst he
    obtain ⟨h0, h1, h2⟩ := unhide HB
    have g0 := (hb.block _ (Array.getElem?_eq_some_iff.1 h0).1).trans h0
    have g1 := (hb.block _ (Array.getElem?_eq_some_iff.1 h1).1).trans h1
    have HQ := hide (And.intro g0 (And.intro g1 hb))
    clear c0 c1 c2 c3 c4 c5 f0 f1 f2 f3 f4 f5 c6 f6 c7 h0 h1 h2
    obtain ⟨c6, f6⟩ := box1 g1
    clear g0 g1 hb HF
    go_wp2
    go_end0
    obtain ⟨g0, g1, hb⟩ := unhide HQ
    exact ⟨rfl, (Only2.of_below hb).but1 ((But.refl _ _).setCell _ _), (Below.heap_setCell _ _ _ _ (by show n ≠ n + 1; omega)).trans g0, heap_set _ _ 0 _ _ _ g1⟩
  | false =>
    rw [hf] at HF
    go_enter_d Tryz.func89, Tryz.ntmps89
    go_wp2_with fail
    refine (unhide HF).mono ?_
    rintro e w1 ⟨hb, he⟩
    rw [if_neg (by simp)] at he
    obtain ⟨v, rfl, hE⟩ := he
    obtain ⟨T, x, rfl⟩ := hE.form
    obtain ⟨h0, h1, h2⟩ := unhide HB
    have g0 := (hb.block _ (Array.getElem?_eq_some_iff.1 h0).1).trans h0
    have g1 := (hb.block _ (Array.getElem?_eq_some_iff.1 h1).1).trans h1
    have g2 := (hb.block _ (Array.getElem?_eq_some_iff.1 h2).1).trans h2
    have HQ := hide (And.intro g0 (And.intro g1 (And.intro hb hE)))
    clear c0 c1 c2 c3 c4 c5 f0 f1 f2 f3 f4 f5 c6 f6 c7 h0 h1 h2
    obtain ⟨⟨c0, c1, c2, c3, c4, c5⟩, f0, f1, f2, f3, f4, f5⟩ := box6 g0
    dsimp only at c0 c1 c2 c3 c4 c5
    obtain ⟨c6, f6⟩ := box1 g1
    obtain ⟨c7, _⟩ := box1 g2
    clear g0 g1 g2 hb hE HF
    go_wp2
    go_end0
    obtain ⟨g0, g1, hb, hE⟩ := unhide HQ
    have k0 : (w1.setCell ⟨n + 1, 0, none⟩ (.iface T x)).heap[n]? = some (.cells (Fd.cs ⟨dk, da, dv, dsa, dsn, dsc, df, dla, dln, dlc⟩) 25 (0, 0)) := (Below.heap_setCell _ _ _ _ (by show n ≠ n + 1; omega)).trans g0
    have k1 : (w1.setCell ⟨n + 1, 0, none⟩ (.iface T x)).heap[n + 1]? = some (.cells #[.iface T x] 47 (0, 0)) := heap_set _ _ 0 _ _ _ g1
    have := defPost_bad (A := A) (w := w) (d := ⟨dk, da, dv, dsa, dsn, dsc, df, dla, dln, dlc⟩) k0 k1 rfl ((Only2.of_below hb).but1 ((But.refl _ _).setCell _ _)) (hE.wrap fr)
    exact ⟨rfl, this⟩
end Go.Proofs.YtmjfkdpaeenfgaaGreatDoor.F

/-
  The iterator of reader.filters. Conditions: the reader's filter answers as it should at one depth more.
-/
namespace Go.Proofs.YtmjfkdpaeenfgaaGreatDoor.F
open Go Go.RowKit Go.Shelf Fp
open Go.Proofs.YtmjfkdpaeenfgaaGreatDoor.D (hide unhide ext_list)
attribute [local go_sem] Oper.semAt_some

/-- what a round over filters keeps. -/
structure Kz (A : Ad) (w0 : World) (R kb : Nat) (s : ByteArray) (bR bD : Nat) (X Y : World) : Prop where
  size : X.heap.size ≤ Y.heap.size
  env : ∀ p, Env A w0 R kb s p X → Env A w0 R kb s p Y
  r : bR < X.heap.size → Y.heap[bR]? = X.heap[bR]?
  d : bD < X.heap.size → Y.heap[bD]? = X.heap[bD]?
theorem Kz.trans {A : Ad} {w0 : World} {R kb : Nat} {s : ByteArray} {bR bD : Nat} {X Y Z : World} (h : Kz A w0 R kb s bR bD X Y) (k : Kz A w0 R kb s bR bD Y Z) : Kz A w0 R kb s bR bD X Z :=
  ⟨Nat.le_trans h.size k.size, fun p e => k.env p (h.env p e), fun hl => (k.r (Nat.lt_of_lt_of_le hl h.size)).trans (h.r hl), fun hl => (k.d (Nat.lt_of_lt_of_le hl h.size)).trans (h.d hl)⟩

/-- a filter that was read, or what was wrong. -/
structure Got (k : Nat) where
  d : Fd
  er : Value
  o : Option (Fl (k + 2))
  p : Nat
def GotAt {k : Nat} (A : Ad) (w0 : World) (R kb : Nat) (s : ByteArray) (P : World → Nat → Prop) (x : Got k) (W : World) : Prop := (match x.o with
  | some F => x.er = .nilIface ∧ FNode (k + 2) W (P W) x.d F ∧ Env A w0 R kb s x.p W
  | none => ∃ T v, x.er = .iface T v ∧ IsErr A (.iface T v))
def nxG {k : Nat} (c : List (Fl (k + 2))) (x : Got k) : List (Fl (k + 2)) := match x.o with
  | some F => c ++ [F]
  | none => c
/-- how a filter is taken. -/
def GoneG {k : Nat} (A : Ad) (w0 : World) (R kb : Nat) (s : ByteArray) (bR bD : Nat) (J Jx : List (Fl (k + 2)) → World → Prop) (c : List (Fl (k + 2))) (x : Got k) (W : World) (e : Ending) (W2 : World) : Prop :=
  (e = .returned (.bool true) ∧ (x.o ≠ none ∧ c.length < 8) ∧ J (nxG c x) W2 ∧ Kz A w0 R kb s bR bD W W2) ∨ (e = .returned (.bool false) ∧ (x.o = none ∨ c.length = 8) ∧ Jx (nxG c x) W2)

theorem rdB_len {n : Nat} {rd : List UInt8 → Option (Fl n × List UInt8)} (hrd : ∀ l F r, rd l = some (F, r) → r.length ≤ l.length) {l : List UInt8} {F : Fl (n + 1)} {r : List UInt8} (h : rdB rd l = some (F, r)) : r.length ≤ l.length := by
  have hL : ∀ (m : Nat) (l : List UInt8) fs r, rdL rd m l = some (fs, r) → r.length ≤ l.length := by
    intro m
    induction m with
    | zero =>
      intro l fs r h
      rw [rdL] at h
      split at h
      · cases h
      · cases h; exact Nat.le_refl _
    | succ m ih =>
      intro l fs r h
      rw [rdL] at h
      split at h
      · cases hx : rd l with
        | none => rw [hx] at h; cases h
        | some q =>
          obtain ⟨x, l'⟩ := q
          rw [hx] at h
          simp only at h
          rw [Option.map_eq_some_iff] at h
          obtain ⟨⟨ys, q'⟩, h2, h3⟩ := h
          cases h3
          exact Nat.le_trans (ih _ _ _ h2) (hrd _ _ _ hx)
      · cases h; exact Nat.le_refl _
  unfold rdB at h
  split at h
  · rw [Option.map_eq_some_iff] at h
    obtain ⟨⟨ys, q'⟩, h2, h3⟩ := h
    cases h3
    have h4 : q'.length ≤ l.tail.length := hL _ _ _ _ h2
    rw [List.length_tail] at h4
    exact Nat.le_trans h4 (Nat.sub_le _ _)
  · split at h
    · cases h
    · rw [Option.map_eq_some_iff] at h
      obtain ⟨G, h2, h3⟩ := h
      cases h3
      simp
theorem rdF_len : ∀ (k : Nat) (l : List UInt8) (F : Fl (k + 2)) (r : List UInt8), rdF k l = some (F, r) → r.length < l.length
  | 0, l, F, r, h => by cases h
  | k + 1, l, F, r, h => by
    rw [rdF] at h
    split at h
    · rename_i h40
      cases h1 : rdB (rdF k) l.tail with
      | none => rw [h1] at h; cases h
      | some q =>
        obtain ⟨G, q⟩ := q
        rw [h1] at h
        simp only at h
        split at h
        · cases h
          have h2 := rdB_len (fun l F r h => Nat.le_of_lt (rdF_len k l F r h)) h1
          cases l with
          | nil => cases h40
          | cons y ys => simp only [List.tail_cons] at h2; rw [List.length_tail, List.length_cons]; omega
        · cases h
    · cases h
theorem rdL_end {α : Type} (rd : List UInt8 → Option (α × List UInt8)) (m : Nat) {l : List UInt8} (h : l.head? ≠ some 40) : rdL rd m l = some ([], l) := by
  cases m with
  | zero => rw [rdL, if_neg h]
  | succ m => rw [rdL, if_neg h]
theorem rdL_no {α : Type} (rd : List UInt8 → Option (α × List UInt8)) (m : Nat) {l : List UInt8} (h : l.head? = some 40) (hn : rd l = none ∨ m = 0) : rdL rd m l = none := by
  cases m with
  | zero => rw [rdL, if_pos h]
  | succ m =>
    rw [rdL, if_pos h, hn.resolve_right (by omega)]
theorem rdL_step {α : Type} (rd : List UInt8 → Option (α × List UInt8)) {c : List α} {x : α} {l0 l r : List UInt8} (hl : c.length < 8) (h : l.head? = some 40) (hx : rd l = some (x, r)) (he : rdL rd 8 l0 = (rdL rd (8 - c.length) l).map fun q => (c ++ q.1, q.2)) :
    rdL rd 8 l0 = (rdL rd (8 - (c ++ [x]).length) r).map fun q => ((c ++ [x]) ++ q.1, q.2) := by
  obtain ⟨m, hm⟩ : ∃ m, 8 - c.length = m + 1 := ⟨8 - c.length - 1, by omega⟩
  rw [he, hm, show 8 - (c ++ [x]).length = m by rw [List.length_append, List.length_singleton]; omega, rdL, if_pos h, hx]
  simp only
  rw [Option.map_map]
  congr 1
  funext q
  simp
theorem at1_head {s : ByteArray} {p : Nat} {c : UInt8} (h : at1 s p c = true) : (s.data.toList.drop p).head? = some c := of_decide_eq_true h
theorem at1_not {s : ByteArray} {p : Nat} {c : UInt8} (h : at1 s p c = false) : (s.data.toList.drop p).head? ≠ some c := of_decide_eq_false h
/-- what was read, as one. -/
theorem got_any {k : Nat} {A : Ad} {w0 : World} {R kb p : Nat} {P : World → Nat → Prop} {s : ByteArray} {w w' : World} {e : Ending} {l : List UInt8} (hE : Env A w0 R kb s p w) (hLo : ∀ Y b, But R w Y → w.heap.size ≤ b → P Y b) (h : RdPost (k + 1) A R kb s (rdF k l) w e w') :
    ∃ x : Got k, e = .returned (.tuple #[x.d.val, x.er]) ∧ But R w w' ∧ GotAt A w0 R kb s P x (w'.alloc x.d.obj) ∧ (match x.o with | some F => rdF k l = some (F, s.data.toList.drop x.p) ∧ x.p ≤ s.size | none => rdF k l = none) := by
  obtain ⟨hb, h⟩ := h
  cases ho : rdF k l with
  | none =>
    rw [ho] at h
    obtain ⟨d, T, v, h1, h2⟩ := h
    exact ⟨⟨d, _, none, 0⟩, h1, hb, ⟨T, v, rfl, h2⟩, rfl⟩
  | some q =>
    obtain ⟨F, r⟩ := q
    rw [ho] at h
    obtain ⟨d, h1, h2, q, h3, h4, h5⟩ := h
    have hal := fun W : World => (Below.refl W.heap.size W).alloc (Nat.le_refl _) d.obj
    exact ⟨⟨d, _, some F, q⟩, h1, hb, ⟨rfl, (h2.below (hal _)).imp fun b hb' _ => hLo _ b (hb.alloc _) hb', (hE.but hb h3).below (hal _)⟩, by rw [h5], h4⟩

set_option maxRecDepth 100000 in
set_option maxHeartbeats 4000000 in
theorem filters1_any (k : Nat) (A : Ad) (w0 : World) (R kb : Nat) (s : ByteArray) (hs : s.size ≤ 100000000) (deep : Int)
    (IH : ∀ p w, Env A w0 R kb s p w → p ≤ s.size → Calls Tryz.prog 56 #[.pointer (some ⟨R, 0, none⟩), .int .i64 deep] w (RdPost (k + 1) A R kb s (rdF k (s.data.toList.drop p)) w))
    (bR bD l : Nat) (P : List (Fl (k + 2)) → World → Nat → Prop) (hbR : bR ≠ R) (hbD : bD ≠ R) (J Jx : List (Fl (k + 2)) → World → Prop)
    (hJ : ∀ c X Y, But R X Y → J c X → J c Y) (hJl : ∀ c X, J c X → c.length ≤ 8 ∧ (∀ Y b, But R X Y → X.heap.size ≤ b → P c Y b))
    (hY : ∀ c (x : Got k) W m, J c W → GotAt A w0 R kb s (P c) x W → YieldAt Fence.wide m Tryz.prog l #[x.d.val, x.er] W (GoneG A w0 R kb s bR bD J Jx c x W))
    (W : World) (l0 : List UInt8) (p0 : Nat) (hp0 : p0 ≤ s.size) (hl0 : l0 = s.data.toList.drop p0) (h0 : J [] W) (hE : Env A w0 R kb s p0 W)
    (hR : W.heap[bR]? = some (.cells #[.pointer (some ⟨R, 0, none⟩)] 136 (0, 0))) (hD : W.heap[bD]? = some (.cells #[.int .i64 deep] 3 (0, 0))) :
    CallsIn Fence.wide 6 Tryz.prog 128 #[.func (.yield l) #[] #[], .pointer (some ⟨bR, 0, none⟩), .pointer (some ⟨bD, 0, none⟩)] W fun e W' => (∃ v, e = .returned v) ∧
      ((∃ c p, rdL (rdF k) 8 l0 = some (c, s.data.toList.drop p) ∧ p ≤ s.size ∧ Env A w0 R kb s p W' ∧ J c W') ∨ (∃ c, rdL (rdF k) 8 l0 = none ∧ Jx c W')) := by
  have HH := hide (And.intro h0 (And.intro hE (And.intro hR hD)))
  have HJ := hide hJ
  have HJl := hide hJl
  have HY := hide hY
  have HI := hide IH
  clear hJ hJl hY IH h0 hE hR hD
  refine callsIn_of_wp Tryz.func128 rfl trivial ?_ rfl
  simp only [Tryz.ntmps128, List.size_toArray, List.length_cons, List.length_nil, Nat.reduceAdd, Nat.reduceSub, Array.replicate_succ, Array.replicate_zero, List.push_toArray, List.append_toArray, List.nil_append, List.cons_append]
  gi_wp2
  gi_loopw [4, 5] (fun _ _ wr => ∃ (c : List (Fl (k + 2))) (p : Nat), p ≤ s.size ∧ Hid (rdL (rdF k) 8 l0 = (rdL (rdF k) (8 - c.length) (s.data.toList.drop p)).map fun q => (c ++ q.1, q.2)) ∧ Hid (J c wr) ∧ Hid (Env A w0 R kb s p wr) ∧ Hid (wr.heap[bR]? = some (.cells #[.pointer (some ⟨R, 0, none⟩)] 136 (0, 0)) ∧ wr.heap[bD]? = some (.cells #[.int .i64 deep] 3 (0, 0))))
    (fun _ _ wr => match wr.cell? ⟨R, 1, none⟩ with | some (.int _ q) => s.size - q.toNat | _ => 0)
  case atStart =>
    refine ⟨[], p0, hp0, hide ?_, hide (unhide HH).1, hide (unhide HH).2.1, hide (unhide HH).2.2⟩
    rw [hl0]
    show rdL (rdF k) 8 _ = Option.map _ (rdL (rdF k) 8 _)
    cases rdL (rdF k) 8 (s.data.toList.drop p0) with
    | none => rfl
    | some q => rfl
  case round =>
    obtain ⟨c, p, hp, hEq, hj, hE, hbx⟩ := hrel
    clear HH
    obtain ⟨hlen, _⟩ := (unhide HJl) c wr (unhide hj)
    have HC := hide fun z : Kw wr => z.call (has_any s p 40 z.w hs (by omega))
    obtain ⟨⟨x0, x1, x2⟩, _⟩ := (unhide hE).r.cells
    have y0 := (box1 (unhide hbx).1).1
    have y1 := (box1 (unhide hbx).2).1
    have q0 := fun z : Kw wr => Kw.cell z x0 (D.lt_cell x0)
    have q1 := fun z : Kw wr => Kw.cell z x1 (D.lt_cell x1)
    have q2 := fun z : Kw wr => Kw.cell z y0 (D.lt_cell y0)
    have hne : Nonempty (Kw wr) := kwNonempty wr
    have hmx : Tryz.prog.follows .mixedOrders = true := by kernel_rfl
    cases hb : at1 s p 40 with
    | false =>
      rw [hb] at HC
      have Hb := hide hb
      clear x0 x1 x2 y0 y1 hb
      gi_wp2_with fail
      refine wpIn_wide.2 ?_
      refine wp_region_kw0 (by kernel_rfl) (by kernel_rfl) ?_
      repeat (go_big_quiet_step (first | with_reducible exact (unhide HC) _))
      refine wpQuiet_nil ?_
      rintro w' ⟨z, rfl⟩
      clear q0 q1 q2 hne HC
      gi_wp2
      go_end0
      refine ⟨⟨_, rfl⟩, .inl ⟨c, p, ?_, hp, (unhide hE).below z.b, (unhide HJ) c _ _ (But.of_below z.b) (unhide hj)⟩⟩
      rw [unhide hEq, rdL_end _ _ (at1_not (unhide Hb))]
      simp
    | true =>
      rw [hb] at HC
      have Hb := hide hb
      clear x0 x1 x2 y0 y1 hb
      gi_wp2_with fail
      refine wpIn_wide.2 ?_
      refine wp_region_kw0 (by kernel_rfl) (by kernel_rfl) ?_
      repeat (go_big_quiet_step (first | with_reducible exact (unhide HC) _))
      refine wpQuiet_nil ?_
      rintro w' ⟨z, rfl⟩
      clear q0 q1 q2 hne HC
      have hbz := z.b
      have hEz := (unhide hE).below hbz
      have hRz := (hbz.block _ (Array.getElem?_eq_some_iff.1 (unhide hbx).1).1).trans (unhide hbx).1
      have hDz := (hbz.block _ (Array.getElem?_eq_some_iff.1 (unhide hbx).2).1).trans (unhide hbx).2
      have hjz := (unhide HJ) c _ _ (But.of_below hbz) (unhide hj)
      have hLz := ((unhide HJl) c _ hjz).2
      have y0 := (box1 hRz).1
      have y1 := (box1 hDz).1
      have hF := hide ((unhide HI) p z.w hEz hp)
      have HZ := hide (And.intro hEz (And.intro hLz (And.intro hRz (And.intro hDz hjz))))
      have hE0 := hE
      clear hbz hEz hLz hRz hDz hjz hE hj hbx
      gi_wp2_with fail
      refine ⟨trivial, (callsIn_wide.2 (unhide hF)).mono ?_⟩
      rintro e w3 he
      obtain ⟨hEz, hLz, hRz, hDz, hjz⟩ := unhide HZ
      obtain ⟨x, rfl, hb3, hG, hx⟩ := got_any hEz hLz he
      have hR3 := (hb3.block _ (Array.getElem?_eq_some_iff.1 hRz).1 hbR).trans hRz
      have hD3 := (hb3.block _ (Array.getElem?_eq_some_iff.1 hDz).1 hbD).trans hDz
      have hR4 := (Below.heap_alloc w3 x.d.obj _ (Array.getElem?_eq_some_iff.1 hR3).1).trans hR3
      have hD4 := (Below.heap_alloc w3 x.d.obj _ (Array.getElem?_eq_some_iff.1 hD3).1).trans hD3
      have hj4 := (unhide HJ) c _ _ (hb3.alloc x.d.obj) hjz
      obtain ⟨fn, tmps, assign, body, hy, hRd⟩ := (unhide HY) c x (w3.alloc x.d.obj) 5 hj4 hG
      have HX := hide (And.intro hx (And.intro hR4 (And.intro hD4 hG)))
      have hxe : (x.o = none → ∃ T v, x.er = .iface T v) ∧ (x.o ≠ none → x.er = .nilIface) := by
        unfold GotAt at hG
        cases ho : x.o with
        | none => rw [ho] at hG; obtain ⟨T, v, h1, _⟩ := hG; exact ⟨fun _ => ⟨T, v, h1⟩, fun h => (h rfl).elim⟩
        | some F => rw [ho] at hG; exact ⟨fun h => (by cases h), fun _ => hG.1⟩
      have Hxe := hide hxe
      clear hxe y0 y1 he hF hEz hLz hRz hDz hjz hb3 hG hx hR3 hD3 hR4 hD4 hj4 HZ
      obtain ⟨⟨dk, da, dv, dsa, dsn, dsc, df, dla, dln, dlc⟩, er, o, xp⟩ := x
      dsimp only at hy hRd Hxe HX ⊢
      gi_wp2_with fail
      refine hRd.mono ?_
      rintro e W3 (⟨rfl, ⟨ho, hc8⟩, hj3, hk3⟩ | ⟨rfl, hw, hx3⟩)
      · cases o with
        | none => exact absurd rfl ho
        | some F =>
          obtain rfl : er = .nilIface := (unhide Hxe).2 ho
          obtain ⟨hx, hR4, hD4, hG⟩ := unhide HX
          have hE3 := hk3.env xp hG.2.2
          have hR5 := (hk3.r (Array.getElem?_eq_some_iff.1 hR4).1).trans hR4
          have hD5 := (hk3.d (Array.getElem?_eq_some_iff.1 hD4).1).trans hD4
          have HZ := hide (And.intro hx (And.intro hE3 (And.intro hR5 (And.intro hD5 hj3))))
          clear hx hR4 hD4 hG hE3 hR5 hD5 hk3 hj3 ho Hxe HX hRd
          gi_wp2
          go_roundw
          case rel =>
            obtain ⟨hx, hE3, hR5, hD5, hj3⟩ := unhide HZ
            exact ⟨c ++ [F], xp, hx.2, hide (rdL_step (rdF k) hc8 (at1_head (unhide Hb)) hx.1 (unhide hEq)), hide hj3, hide hE3, hide ⟨hR5, hD5⟩⟩
          case measure =>
            obtain ⟨hx, hE3, hR5, hD5, hj3⟩ := unhide HZ
            have h1 := rdF_len _ _ _ _ hx.1
            have h2 := hE3.r.cells.1.2.1
            have h3 := (unhide hE0).r.cells.1.2.1
            simp only [h2, h3]
            simp only [List.length_drop] at h1
            have h4 : s.data.toList.length = s.size := Array.length_toList
            have h5 := hx.2
            omega
      · have hnone : rdL (rdF k) 8 l0 = none := by
          rw [unhide hEq, rdL_no _ _ (at1_head (unhide Hb)) ?_]
          · rfl
          · rcases hw with h | h
            · left
              have hx := (unhide HX).1
              dsimp only at h hx
              rw [h] at hx
              exact hx
            · right
              omega
        have HN := hide (And.intro hnone hx3)
        clear hnone hx3 hw HX Hxe hRd
        gi_wp2
        refine bodyPost_ret (results_none rfl _ _ _) rfl ?_
        exact ⟨⟨_, rfl⟩, .inr ⟨_, (unhide HN).1, (unhide HN).2⟩⟩
end Go.Proofs.YtmjfkdpaeenfgaaGreatDoor.F

/-
  A list of filters that grows by append: what lies in memory. Conditions: none.
-/
namespace Go.Proofs.YtmjfkdpaeenfgaaGreatDoor.F
open Go Go.RowKit Go.Shelf Fp
open Go.Proofs.YtmjfkdpaeenfgaaGreatDoor.D (hide unhide ext_list)

def flat6 (vs : List Fd) : List Value := vs.flatMap fun d => d.cs.toList
theorem flat6_len : ∀ vs : List Fd, (flat6 vs).length = vs.length * 6
  | [] => rfl
  | d :: vs => by
    have := flat6_len vs
    show (d.cs.toList ++ flat6 vs).length = (vs.length + 1) * 6
    rw [List.length_append, this, show d.cs.toList.length = 6 from rfl]
    omega
theorem flat6_get : ∀ (vs : List Fd) (i : Nat) (d : Fd), vs[i]? = some d → ∀ (j : Nat) u, d.cs.toList[j]? = some u → (flat6 vs)[i * 6 + j]? = some u
  | [], i, d, h, _, _, _ => by simp at h
  | x :: vs, 0, d, h, j, u, hj => by
    simp at h
    subst h
    have hlt : j < x.cs.toList.length := (List.getElem?_eq_some_iff.1 hj).1
    show (x.cs.toList ++ flat6 vs)[0 * 6 + j]? = _
    rw [Nat.zero_mul, Nat.zero_add, List.getElem?_append_left hlt]
    exact hj
  | x :: vs, i + 1, d, h, j, u, hj => by
    have ih := flat6_get vs i d (by simpa using h) j u hj
    show (x.cs.toList ++ flat6 vs)[(i + 1) * 6 + j]? = _
    have hl : x.cs.toList.length = 6 := rfl
    rw [List.getElem?_append_right (by omega), hl, show (i + 1) * 6 + j - 6 = i * 6 + j by omega]
    exact ih
/-- a row's six cells, laid anew. -/
abbrev set6o (W : World) (g o : Nat) (d : Fd) : World := (((((W.setCell ⟨g, o, none⟩ (.int .i64 d.k)).setCell ⟨g, o + 1, none⟩ (.string d.a)).setCell ⟨g, o + 2, none⟩ (.string d.v)).setCell ⟨g, o + 3, none⟩ (.slice d.sa d.sn d.sc)).setCell ⟨g, o + 4, none⟩ (.string d.f)).setCell ⟨g, o + 5, none⟩ (.slice d.la d.ln d.lc)
theorem set6o_but (W : World) (g o : Nat) (d : Fd) : But g W (set6o W g o d) := ((((((But.refl g W).setCell _ _).setCell _ _).setCell _ _).setCell _ _).setCell _ _).setCell _ _
theorem set6_list (xs : List Value) (d e : Fd) : ((((((xs ++ e.cs.toList).set xs.length (.int .i64 d.k)).set (xs.length + 1) (.string d.a)).set (xs.length + 2) (.string d.v)).set (xs.length + 3) (.slice d.sa d.sn d.sc)).set (xs.length + 4) (.string d.f)).set (xs.length + 5) (.slice d.la d.ln d.lc) = xs ++ d.cs.toList := by
  induction xs with
  | nil => rfl
  | cons x xs ih =>
    simp only [List.cons_append, List.length_cons]
    show x :: (((((((xs ++ e.cs.toList).set xs.length _).set (xs.length + 1) _).set (xs.length + 2) _).set (xs.length + 3) _).set (xs.length + 4) _).set (xs.length + 5) _) = _
    rw [ih]
theorem set6o_own {W : World} {base g n cap : Nat} {xs : List Value} (d e : Fd) (h : W.ownsRow base 25 6 (.slice (some ⟨g, 0, none⟩) (n + 1) cap) (n + 1) (xs ++ e.cs.toList)) (hx : xs.length = n * 6) :
    (set6o W g (n * 6) d).ownsRow base 25 6 (.slice (some ⟨g, 0, none⟩) (n + 1) cap) (n + 1) (xs ++ d.cs.toList) := by
  have h1 := ((((((h.stored (n * 6) (.int .i64 d.k)).1.stored (n * 6 + 1) (.string d.a)).1.stored (n * 6 + 2) (.string d.v)).1.stored (n * 6 + 3) (.slice d.sa d.sn d.sc)).1.stored (n * 6 + 4) (.string d.f)).1.stored (n * 6 + 5) (.slice d.la d.ln d.lc)).1
  rw [← hx, set6_list] at h1
  rw [← hx]
  exact h1

/-- the slice sl, of the call's own memory from base on, holds these filters. -/
def GrowF (n : Nat) (W : World) (base : Nat) (sl : Value) (pre : List (Fl n)) : Prop :=
  ∃ vs : List Fd, vs.length = pre.length ∧ W.ownsRow base 25 6 sl pre.length (flat6 vs) ∧
    ∀ (i : Nat) v F, vs[i]? = some v → pre[i]? = some F → FNode n W (fun b => base ≤ b ∧ some b ≠ sl.ownBlock) v F
theorem GrowF.nil (n : Nat) (W : World) (base : Nat) : GrowF n W base (.slice none 0 0) [] := ⟨[], rfl, World.ownsRow_nil W base _ 6, fun i v F h => by simp at h⟩
theorem GrowF.of {n : Nat} {W W' : World} {base : Nat} {sl : Value} {pre : List (Fl n)} (h : GrowF n W base sl pre) (hb : ∀ b, base ≤ b → b < W.heap.size → W'.heap[b]? = W.heap[b]?) : GrowF n W' base sl pre := by
  obtain ⟨vs, hl, ho, hN⟩ := h
  refine ⟨vs, hl, ⟨ho.1, ?_⟩, fun i v F hv hF => (hN i v F hv hF).of fun b hp hlt => hb b hp.1 hlt⟩
  rcases ho.2 with h | ⟨g, cap, cur, e, hg, hc, h⟩
  · exact .inl h
  · exact .inr ⟨g, cap, cur, e, hg, (hb g hg (Array.getElem?_eq_some_iff.1 hc).1).trans hc, h⟩
theorem GrowF.lt {n : Nat} {W : World} {base : Nat} {sl : Value} {pre : List (Fl n)} (h : GrowF n W base sl pre) {g : Nat} (hg : sl.ownBlock = some g) : base ≤ g ∧ g < W.heap.size := by
  obtain ⟨vs, hl, ho, hN⟩ := h
  exact ho.lt g hg
theorem GrowF.form {n : Nat} {W : World} {base : Nat} {sl : Value} {pre : List (Fl n)} (h : GrowF n W base sl pre) : ∃ a cap, sl = .slice a pre.length cap := by
  obtain ⟨vs, hl, ho, hN⟩ := h
  rcases ho.2 with ⟨e, h0⟩ | ⟨g, cap, cur, e, _⟩
  · exact ⟨none, 0, by rw [e, h0]⟩
  · exact ⟨_, _, e⟩
theorem growF_snoc {n : Nat} {W W5 : World} {base g cap : Nat} {sl : Value} {pre : List (Fl n)} {vs : List Fd} {d : Fd} {F : Fl n} (hvl : vs.length = pre.length)
    (hN : ∀ (i : Nat) v F, vs[i]? = some v → pre[i]? = some F → FNode n W (fun b => base ≤ b ∧ some b ≠ sl.ownBlock) v F)
    (hown : W5.ownsRow base 25 6 (.slice (some ⟨g, 0, none⟩) (pre.length + 1) cap) (pre.length + 1) (flat6 vs ++ d.cs.toList))
    (hsame : ∀ b, base ≤ b → b < W.heap.size → some b ≠ sl.ownBlock → b ≠ g → W5.heap[b]? = W.heap[b]?) (hg : sl.ownBlock = some g ∨ W.heap.size ≤ g)
    (hnew : FNode n W (fun b => base ≤ b ∧ some b ≠ sl.ownBlock) d F) :
    GrowF n W5 base (.slice (some ⟨g, 0, none⟩) (pre.length + 1) cap) (pre ++ [F]) := by
  have hG : ∀ b, base ≤ b ∧ some b ≠ sl.ownBlock → b < W.heap.size → b ≠ g := fun b hb hl e => by
    rcases hg with hg | hg
    · exact hb.2 (by rw [hg, e])
    · omega
  have step : ∀ {v : Fd} {F : Fl n}, FNode n W (fun b => base ≤ b ∧ some b ≠ sl.ownBlock) v F → FNode n W5 (fun b => base ≤ b ∧ some b ≠ (Value.slice (some ⟨g, 0, none⟩) (pre.length + 1) cap).ownBlock) v F := fun h =>
    (h.imp (q := fun b => (base ≤ b ∧ some b ≠ sl.ownBlock) ∧ b ≠ g) (fun b hb hl => ⟨hb, hG b hb hl⟩)).of (fun b hb hl => hsame b hb.1.1 hl hb.1.2 hb.2) |>.imp (fun b hb _ => ⟨hb.1.1, fun e => hb.2 (by simpa [Value.ownBlock] using e)⟩)
  refine ⟨vs ++ [d], by simp [hvl], by simpa [List.flatMap_append, flat6] using hown, fun i v F' hv hF => ?_⟩
  by_cases hi : i < pre.length
  · rw [List.getElem?_append_left (by omega)] at hv hF
    exact step (hN i v F' hv hF)
  · have hiv : i = pre.length := by
      have := (List.getElem?_eq_some_iff.1 hF).1
      simp at this; omega
    subst hiv
    rw [List.getElem?_append_right (by omega)] at hv hF
    simp [hvl] at hv hF
    subst hv; subst hF
    exact step hnew
theorem GrowF.node {n : Nat} {W : World} {base : Nat} {sl : Value} {pre : List (Fl n)} (h : GrowF n W base sl pre) (k : Int) (hp : pre.length ≤ 1000) :
    ∃ la lc, sl = .slice la pre.length lc ∧ FNode (n + 1) W (fun b => base ≤ b) ⟨k, ⟨#[]⟩, ⟨#[]⟩, none, 0, 0, ⟨#[]⟩, la, pre.length, lc⟩ (mk k ⟨#[]⟩ ⟨#[]⟩ [] ⟨#[]⟩ pre) := by
  obtain ⟨vs, hl, ho, hN⟩ := h
  have hI : ∀ la lc, Is ⟨k, ⟨#[]⟩, ⟨#[]⟩, none, 0, 0, ⟨#[]⟩, la, pre.length, lc⟩ (mk k ⟨#[]⟩ ⟨#[]⟩ [] ⟨#[]⟩ pre) := fun la lc => ⟨rfl, rfl, rfl, rfl, rfl, rfl⟩
  have hS : Sm (mk k ⟨#[]⟩ ⟨#[]⟩ [] ⟨#[]⟩ pre) := ⟨Nat.zero_le _, Nat.zero_le _, Nat.zero_le _, Nat.zero_le _, (fun x hx => by cases hx), hp⟩
  rcases ho.2 with ⟨rfl, h0⟩ | ⟨g, cap, cur, rfl, hg, hc, _⟩
  · have hnil : pre = [] := List.length_eq_zero_iff.1 h0
    exact ⟨none, 0, by rw [h0], hI _ _, hS, .inl rfl, .inl hnil⟩
  · refine ⟨_, cap, rfl, hI _ _, hS, .inl rfl, .inr ⟨g, 0, rfl, hg, fun i F hF => ?_⟩⟩
    rw [ls_mk] at hF
    have hi := (List.getElem?_eq_some_iff.1 hF).1
    have hv : vs[i]? = some vs[i] := List.getElem?_eq_getElem (by omega)
    have hcl : ∀ (j : Nat) u, vs[i].cs.toList[j]? = some u → W.cell? ⟨g, 0 + i * 6 + j, none⟩ = some u := fun j u hj => by
      have := ho.cells (g := g) rfl (i * 6 + j) u (flat6_get vs i _ hv j u hj)
      rw [Addr.add_lit] at this
      rw [Nat.add_assoc]
      exact this
    exact ⟨vs[i], ⟨hcl 0 _ rfl, hcl 1 _ rfl, hcl 2 _ rfl, hcl 3 _ rfl, hcl 4 _ rfl, hcl 5 _ rfl⟩, (hN i _ F hv hF).imp fun b hb _ => hb.1⟩
end Go.Proofs.YtmjfkdpaeenfgaaGreatDoor.F

/-
  The reader's body where no set's sign stands; reader.filters. Conditions: the package-level variables hold what the program's text lays; what is read of values at a time has at most 1000 bytes.
-/
namespace Go.Proofs.YtmjfkdpaeenfgaaGreatDoor.F
open Go Go.RowKit Go.Shelf Fp
open Go.Proofs.YtmjfkdpaeenfgaaGreatDoor.D (hide unhide ext_list)
attribute [local go_sem] Oper.semAt_some

theorem filters_any (R : Nat) (deep : Int) (w : World) :
    Calls Tryz.prog 115 #[.pointer (some ⟨R, 0, none⟩), .int .i64 deep] w fun e w' => e = .returned (.func (.func 128) #[] #[.pointer (some ⟨w.heap.size, 0, none⟩), .pointer (some ⟨w.heap.size + 1, 0, none⟩)]) ∧
      w' = (w.alloc (.cells #[.pointer (some ⟨R, 0, none⟩)] 136)).alloc (.cells #[.int .i64 deep] 3) := by
  have hmf : ∀ (fn : Fn) (first cap : Array Value) (w : World), (Instr.makeFunc fn first cap).run Tryz.prog w = .ok (.func fn first cap) w := fun _ _ _ _ => rfl
  go_enter Tryz.func115, Tryz.ntmps115
  go_wp2
  go_ret
  exact ⟨rfl, rfl⟩
theorem Env.but2 {A : Ad} {w0 : World} {R kb b : Nat} {s : ByteArray} {p : Nat} {w w' : World} (h : Env A w0 R kb s p w) (hb : But b w w') (h1 : b ≠ R) (h2 : b ≠ kb) (h3 : w0.heap.size ≤ b) : Env A w0 R kb s p w' :=
  ⟨h.g, below_but h.b hb (Nat.le_refl _) h3, h.lo, h.r.but hb h1, h.k.of (hb.block _ h.k.lt (Ne.symm h2)), h.ne⟩

/-- the sign at a place. -/
theorem sign_set (s : ByteArray) (p : Nat) (hp : p ≤ s.size) : ∃ ko, kindS (s.extract (min (p : Int) s.size).toNat (min ((p : Int) + 1) s.size).toNat).data.toList = ko ∧
    ((s.data.toList.drop p).head?.bind setK = if (ko.isSome && isSet (ko.getD 0)) = true then some (ko.getD 0) else none) ∧ ((ko.isSome && isSet (ko.getD 0)) = true → (s.extract (min (p : Int) s.size).toNat (min ((p : Int) + 1) s.size).toNat).size = 1 ∧ p < s.size) := by
  refine ⟨_, rfl, ?_⟩
  have hz : s.size = s.data.toList.length := (Array.length_toList).symm
  have hes : (s.extract (min (p : Int) s.size).toNat (min ((p : Int) + 1) s.size).toNat).size = min (p + 1) s.size - p := by
    rw [ByteArray.size_extract]; omega
  rw [hes, ext_list, hz]
  generalize hl : s.data.toList = l at *
  by_cases h : p < l.length
  · rw [show (min (p : Int) l.length).toNat = p by omega, show (min ((p : Int) + 1) l.length).toNat = p + 1 by omega]
    have e : (l.take (p + 1)).drop p = [l[p]] := by
      rw [List.take_succ_eq_append_getElem h, List.drop_append]
      simp [Nat.min_eq_left (Nat.le_of_lt h)]
    rw [e, List.drop_eq_getElem_cons h, List.head?_cons, Option.bind_some]
    refine ⟨?_, fun _ => by omega⟩
    unfold kindS setK
    generalize l[p] = x
    by_cases h1 : x = 38
    · subst h1; rfl
    by_cases h2 : x = 124
    · subst h2; rfl
    by_cases h3 : x = 33
    · subst h3; rfl
    by_cases h4 : x = 61
    · subst h4; rfl
    simp [h1, h2, h3, h4]
  · rw [show (min (p : Int) l.length).toNat = l.length by omega, show (min ((p : Int) + 1) l.length).toNat = l.length by omega, List.drop_eq_nil_of_le (Nat.le_of_not_lt h)]
    have e : (l.take l.length).drop l.length = [] := by simp
    rw [e]
    exact ⟨rfl, fun h => by cases h⟩
theorem finB {b : Nat} {V : World} {tmps : Array Value} {d : Fd} {u : Value} {Q : Ending → World → Prop} (h0 : V.heap[b]? = some (.cells d.cs 25 (0, 0)))
    (t4 : tmps.getD 4 undef = .pointer (some ⟨b, 0, none⟩)) (t5 : tmps.getD 5 undef = u) (hp : Q (.returned (.tuple #[d.val, u])) V) :
    Exit.noGoto (bodyPostM Fence.wide 7 Tryz.prog Tryz.f91 Q) Exit.ret { tmps, defers := [] } V := by
  refine ⟨.tuple #[d.val, u], ?_, hp⟩
  obtain ⟨⟨c0, c1, c2, c3, c4, c5⟩, _⟩ := box6 h0
  have t4' : tmps[4]?.getD undef = .pointer (some ⟨b, 0, none⟩) := by simpa using t4
  have t5' : tmps[5]?.getD undef = u := by simpa using t5
  simp [results, Tryz.results91, go_sem, t4', t5', c0, c1, c2, c3, c4, c5]

theorem rd_store {m : Nat} {A : Ad} {R kb : Nat} {s : ByteArray} {o : Option (Fl (m + 1) × List UInt8)} {w z w3 : World} {e : Ending} (h : RdPost m A R kb s o z e w3) (hz : Below w.heap.size w z) (hn : w.heap.size < z.heap.size) (hR : R < w.heap.size) :
    ∃ (d : Fd) (er : Value), e = .returned (.tuple #[d.val, er]) ∧ But R z w3 ∧ RdPost m A R kb s o w e (set6 w3 w.heap.size d) := by
  obtain ⟨hb, h⟩ := h
  have hbw : But R w w3 := (But.of_below hz).trans hb
  cases o with
  | none =>
    obtain ⟨d, T, x, rfl, hE⟩ := h
    exact ⟨d, _, rfl, hb, hbw.late (set6_but _ _ _) (Nat.le_refl _), d, T, x, rfl, hE⟩
  | some q =>
    obtain ⟨F, r⟩ := q
    obtain ⟨d, rfl, hN, q, hr, hq, hd⟩ := h
    have hS := set6_but w3 w.heap.size d
    exact ⟨d, _, rfl, hb, hbw.late hS (Nat.le_refl _), d, rfl, (hN.of fun b hb hl => hS.block b hl (by omega)).imp fun b hb _ => by omega, q, hr.but hS (by omega), hq, hd⟩
set_option maxRecDepth 100000 in
set_option maxHeartbeats 4000000 in
theorem body_leaf (n : Nat) (A : Ad) (w0 : World) (R kb p : Nat) (s : ByteArray) (deep : Int) (w : World) (hE : Env A w0 R kb s p w) (hs : s.size ≤ 100000000) (hp : p ≤ s.size)
    (hno : (s.data.toList.drop p).head?.bind setK = none) (hPc : ∀ q c, cutB 41 (s.data.toList.drop p) = some (q, c) → Pc q) :
    Calls Tryz.prog 91 #[.pointer (some ⟨R, 0, none⟩), .int .i64 deep] w (RdPost n A R kb s (rdCon (s.data.toList.drop p)) w) := by
  obtain ⟨V, hV⟩ : ∃ V, V = w.alloc (.cells zfd.cs 25) := ⟨_, rfl⟩
  have hVb : Below w.heap.size w V := by rw [hV]; exact (Below.refl _ _).alloc (Nat.le_refl _) _
  have hV0 : V.heap[w.heap.size]? = some (.cells zfd.cs 25 (0, 0)) := by rw [hV]; exact World.alloc_heap_new _ _
  have hVz : w.heap.size < V.heap.size := by rw [hV]; simp
  have hRw := hE.r.lt
  have hEV := hE.below hVb
  obtain ⟨⟨k0, k1, k2⟩, _⟩ := hEV.r.cells
  have q0 := fun z : Kw V => Kw.cell z k0 (D.lt_cell k0)
  have q1 := fun z : Kw V => Kw.cell z k1 (D.lt_cell k1)
  have hne : Nonempty (Kw V) := kwNonempty V
  have hmx : Tryz.prog.follows .mixedOrders = true := by kernel_rfl
  have HVw := hide hV
  have HC := fun z : Kw V => z.call (piece_any s p (p + 1) z.w hs (by omega))
  rw [show ((p + 1 : Nat) : Int) = (p : Int) + 1 by omega] at HC
  obtain ⟨ko, hko, hks, _⟩ := sign_set s p hp
  have hsz : (s.extract (min (p : Int) s.size).toNat (min ((p : Int) + 1) s.size).toNat).size ≤ maxLen := by rw [ByteArray.size_extract]; unfold maxLen; omega
  generalize s.extract (min (p : Int) s.size).toNat (min ((p : Int) + 1) s.size).toNat = sg at *
  have Hlook : Hid (∀ W, KindsAt W kb → (Instr.lookup 82 (.map (some kb)) (.string sg) true).run Tryz.prog W = .ok (.tuple #[.int .i64 (ko.getD 0), .bool ko.isSome]) W) := hide fun W (h : KindsAt W kb) => by
    have := h.look sg hsz
    rwa [hko] at this
  have hset : ko = none ∨ ∃ kk, ko = some kk ∧ isSet kk = false := by
    rw [hno] at hks
    cases ko with
    | none => exact .inl rfl
    | some kk =>
      right
      refine ⟨kk, rfl, ?_⟩
      cases hi : isSet kk with
      | false => rfl
      | true => rw [show ((some kk : Option Int).isSome && isSet ((some kk : Option Int).getD 0)) = true from hi] at hks; cases hks
  have HC := hide HC
  have HE := hide hEV
  have HVx := hide (And.intro hVb hV0)
  have HCon := hide fun W (h : Env A w0 R kb s p W) => condition_any n A w0 R kb p s W h hs hp hPc
  have hpi : (p : Int) ≤ 100000000 := by omega
  clear hE hs hp hV hVb hV0 hEV k0 k1 k2 hko hks hno hPc hsz
  have key : ∀ b : Bool, ko.isSome = b → (b = true → isSet (ko.getD 0) = false) → Calls Tryz.prog 91 #[.pointer (some ⟨R, 0, none⟩), .int .i64 deep] w (RdPost n A R kb s (rdCon (s.data.toList.drop p)) w) := by
    intro b hb hi
    rw [hb] at Hlook
    have HS : Hid (b = true → ∀ W, Calls Tryz.prog 51 #[.int .i64 (ko.getD 0)] W fun e w' => e = .returned (.bool false) ∧ w' = W) := hide (fun h W => by have := isSet_any (ko.getD 0) W; rwa [hi h] at this)
    clear hb hi hset
    generalize ko.getD 0 = kk at *
    cases b with
    | false =>
      refine (callsIn_wide (n := 7)).1 ?_
      refine callsIn_of_wp_marks Tryz.func91 rfl trivial ?_ rfl
      simp only [Tryz.ntmps91, List.size_toArray, List.length_cons, List.length_nil, Nat.reduceAdd, Nat.reduceSub, Array.replicate_succ, Array.replicate_zero, List.push_toArray, List.append_toArray, List.nil_append, List.cons_append]
      refine wpIn_wide.2 ?_
      go_wp2_with fail
      refine wp_scope_straight ?_
      go_wp2_with fail
      rw [← unhide HVw]
      refine wp_region_kw0 (by kernel_rfl) (by kernel_rfl) ?_
      repeat (go_big_quiet_step (first | with_reducible exact (unhide HC) _))
      refine wpQuiet_nil ?_
      rintro w' ⟨z, rfl⟩
      have hEz := (unhide HE).below z.b
      obtain ⟨⟨k0, k1, k2⟩, _⟩ := hEz.r.cells
      have hl := (unhide Hlook) z.w hEz.k
      have HEz := hide hEz
      clear q0 q1 hne hEz HC Hlook
      go_wp2_with fail
      refine ((unhide HCon) _ (unhide HEz)).mono ?_
      rintro e w3 hR
      have hzz := z.b.size
      obtain ⟨d, er, rfl, hb3, hP⟩ := rd_store hR ((unhide HVx).1.trans (z.b.mono (by omega))) (by omega) hRw
      have h3 := (hb3.block w.heap.size (by omega) (by omega)).trans ((z.b.block _ hVz).trans (unhide HVx).2)
      obtain ⟨⟨c0, c1, c2, c3, c4, c5⟩, f0, f1, f2, f3, f4, f5⟩ := box6 h3
      dsimp only at c0 c1 c2 c3 c4 c5
      have h6 := set6_blk h3 d
      have HQ := hide (And.intro h6 hP)
      clear hR hzz hb3 hP h3 h6 hl k0 k1 k2
      obtain ⟨dk, da, dv, dsa, dsn, dsc, df, dla, dln, dlc⟩ := d
      go_wp2
      obtain ⟨h6, hP⟩ := unhide HQ
      exact finB (b := w.heap.size) (d := ⟨dk, da, dv, dsa, dsn, dsc, df, dla, dln, dlc⟩) (u := er) h6 rfl rfl hP
    | true =>
      refine (callsIn_wide (n := 7)).1 ?_
      refine callsIn_of_wp_marks Tryz.func91 rfl trivial ?_ rfl
      simp only [Tryz.ntmps91, List.size_toArray, List.length_cons, List.length_nil, Nat.reduceAdd, Nat.reduceSub, Array.replicate_succ, Array.replicate_zero, List.push_toArray, List.append_toArray, List.nil_append, List.cons_append]
      refine wpIn_wide.2 ?_
      go_wp2_with fail
      refine wp_scope_straight ?_
      go_wp2_with fail
      rw [← unhide HVw]
      refine wp_region_kw0 (by kernel_rfl) (by kernel_rfl) ?_
      repeat (go_big_quiet_step (first | with_reducible exact (unhide HC) _))
      refine wpQuiet_nil ?_
      rintro w' ⟨z, rfl⟩
      have hEz := (unhide HE).below z.b
      obtain ⟨⟨k0, k1, k2⟩, _⟩ := hEz.r.cells
      have hl := (unhide Hlook) z.w hEz.k
      have HEz := hide hEz
      clear q0 q1 hne hEz HC Hlook
      go_wp2_with fail
      refine ((unhide HS) (by first | rfl | trivial) _).mono ?_
      rintro e w2 ⟨rfl, rfl⟩
      go_wp2_with fail
      refine ((unhide HCon) _ (unhide HEz)).mono ?_
      rintro e w3 hR
      have hzz := z.b.size
      obtain ⟨d, er, rfl, hb3, hP⟩ := rd_store hR ((unhide HVx).1.trans (z.b.mono (by omega))) (by omega) hRw
      have h3 := (hb3.block w.heap.size (by omega) (by omega)).trans ((z.b.block _ hVz).trans (unhide HVx).2)
      obtain ⟨⟨c0, c1, c2, c3, c4, c5⟩, f0, f1, f2, f3, f4, f5⟩ := box6 h3
      dsimp only at c0 c1 c2 c3 c4 c5
      have h6 := set6_blk h3 d
      have HQ := hide (And.intro h6 hP)
      clear hR hzz hb3 hP h3 h6 hl k0 k1 k2
      obtain ⟨dk, da, dv, dsa, dsn, dsc, df, dla, dln, dlc⟩ := d
      go_wp2
      obtain ⟨h6, hP⟩ := unhide HQ
      exact finB (b := w.heap.size) (d := ⟨dk, da, dv, dsa, dsn, dsc, df, dla, dln, dlc⟩) (u := er) h6 rfl rfl hP
  rcases hset with rfl | ⟨kk, rfl, hk⟩
  · exact key false rfl (fun h => by cases h)
  · exact key true rfl (fun _ => hk)
end Go.Proofs.YtmjfkdpaeenfgaaGreatDoor.F
