/- Several texts in one: FRd9, FRd10. Each says what it proves, and its conditions. -/
import Derived.Test.YtjhnblgamodekaaGreatDoorG34
set_option linter.unusedSimpArgs false
set_option maxHeartbeats 4000000
set_option maxRecDepth 100000
/-
 The reader's body at a set's sign. Conditions: as FRd8; the reader's filter answers as it should at one depth more.
-/
namespace Go.Proofs.YtjhnblgamodekaaGreatDoor.F
open Go Go.RowKit Go.Shelf Fp
open D (H_ un ext_list)
attribute [local go_sem] Oper.semAt_some
theorem finBD {b D : Nat} {V : World} {tmps : Array Value} {d : Fd} {u : Value} {Q : Ending -> World -> Prop} (hV : V.heap[D]? = some (.deferred (some []))) (hD : b ≠ D) (h0 : V.heap[b]? = some (.cells d.cs 25 (0, 0)))
  (t4 : tmps.getD 4 undef = .pointer (some ⟨b, 0, none⟩)) (t5 : tmps.getD 5 undef = u) (hp : Q (.returned (.tuple #[d.val, u])) (V.putObj D (.deferred none))) :
  Exit.noGoto (bodyPostM Fence.wide 7 Tryz.prog Tryz.f75 Q) Exit.ret { tmps, defers := [{ target := .collected D, args := #[] }] } V := by
 refine ⟨by simp, .inl ⟨_, _, rfl, run_takeDeferred hV, ?_⟩⟩
 refine ⟨.tuple #[d.val, u], ?_, hp⟩
 obtain ⟨⟨c0, c1, c2, c3, c4, c5⟩, _⟩ := box6 (W := V.putObj D (.deferred none)) ((World.putObj_heap_other hD).trans h0)
 have t4' : tmps[4]?.getD undef = .pointer (some ⟨b, 0, none⟩) := by simpa using t4
 have t5' : tmps[5]?.getD undef = u := by simpa using t5
 simp [results, Tryz.results75, go_sem, t4', t5', c0, c1, c2, c3, c4, c5]
theorem body_set (k : Nat) (A : Ad) (w0 : World) (R kb p : Nat) (s : ByteArray) (deep : Int) (hd0 : 0 <= deep) (hd7 : deep <= 7) (w : World) (hE : Env A w0 R kb s p w) (hs : s.size <= 100000000) (hp : p <= s.size)
  (IH : ∀ p w, Env A w0 R kb s p w -> p <= s.size -> Calls Tryz.prog 45 #[.pointer (some ⟨R, 0, none⟩), .int .i64 (deep + 1)] w (RdPost (k + 1) A R kb s (rdF k (s.data.toList.drop p)) w))
  (kk : Int) (hset : (s.data.toList.drop p).head?.bind setK = some kk) :
  Calls Tryz.prog 75 #[.pointer (some ⟨R, 0, none⟩), .int .i64 deep] w (RdPost (k + 2) A R kb s (rdB (rdF k) (s.data.toList.drop p)) w) := by
 obtain ⟨V, hV⟩ : ∃ V, V = w.alloc (.cells zfd.cs 25) := ⟨_, rfl⟩
 have hVb : Below w.heap.size w V := by rw [hV]; exact (Below.refl _ _).alloc (Nat.le_refl _) _
 have hV0 : V.heap[w.heap.size]? = some (.cells zfd.cs 25 (0, 0)) := by rw [hV]; exact World.alloc_heap_new _ _
 have hVz : w.heap.size < V.heap.size := by rw [hV]; simp
 have hRw := hE.r.lt
 have hEV := hE.below hVb
 obtain ⟨⟨k0, k1, k2⟩, _⟩ := hEV.r.cells
 have q0 := fun z : Kw V => Kw.cell z k0 (D.lt_cell k0)
 have q1 := fun z : Kw V => Kw.cell z k1 (D.lt_cell k1)
 have hne : Nonempty (Kw V) := kwNonempty V
 have hmx : Tryz.prog.follows .mixedOrders = true := by kernel_rfl
 have HVw := H_ hV
 have HC := fun z : Kw V => z.call (piece_any s p (p + 1) z.w hs (by omega))
 rw [show ((p + 1 : Nat) : Int) = (p : Int) + 1 by omega] at HC
 obtain ⟨ko, hko, hks, hk1⟩ := sign_set s p hp
 have hsz : (s.extract (min (p : Int) s.size).toNat (min ((p : Int) + 1) s.size).toNat).size <= maxLen := by rw [ByteArray.size_extract]; unfold maxLen; omega
 generalize s.extract (min (p : Int) s.size).toNat (min ((p : Int) + 1) s.size).toNat = sg at *
 rw [hset] at hks
 obtain ⟨rfl, hkk⟩ : ko = some kk /\ isSet kk = true := by
  cases ko with
  | none => cases hks
  | some j =>
   cases hi : isSet j with
   | false => rw [show ((some j : Option Int).isSome && isSet ((some j : Option Int).getD 0)) = false from hi] at hks; cases hks
   | true => rw [show ((some j : Option Int).isSome && isSet ((some j : Option Int).getD 0)) = true from hi] at hks; cases hks; exact ⟨rfl, hi⟩
 obtain ⟨hsg, hps⟩ := hk1 hkk
 have hsgi : (sg.size : Int) = 1 := by omega
 have Hlook : Hid (∀ W, KindsAt W kb -> (Instr.lookup 73 (.map (some kb)) (.string sg) true).run Tryz.prog W = .ok (.tuple #[.int .i64 kk, .bool true]) W) := H_ fun W (h : KindsAt W kb) => by
  have := h.look sg hsz
  rwa [hko] at this
 have HS : Hid (∀ W, Calls Tryz.prog 39 #[.int .i64 kk] W fun e w' => e = .returned (.bool true) /\ w' = W) := H_ (fun W => by have := isSet_any kk W; rwa [hkk] at this)
 have HC := H_ HC
 have HE := H_ hEV
 have HVx := H_ (And.intro hVb hV0)
 have HI := H_ IH
 have Hset := H_ hset
 have hpi : (p : Int) <= 100000000 := by omega
 clear hE hV hVb hV0 hEV k0 k1 k2 hko hks hsz hk1 hset IH hkk hsg
 refine (callsIn_wide (n := 7)).1 ?_
 refine callsIn_of_wp_marks Tryz.func75 rfl trivial ?_ rfl
 simp only [Tryz.ntmps75, List.size_toArray, List.length_cons, List.length_nil, Nat.reduceAdd, Nat.reduceSub, Array.replicate_succ, Array.replicate_zero, List.push_toArray, List.append_toArray, List.nil_append, List.cons_append]
 refine wpIn_wide.2 ?_
 go_wp2_with fail
 refine wp_scope_straight ?_
 go_wp2_with fail
 rw [<- un HVw]
 refine wp_region_kw0 (by kernel_rfl) (by kernel_rfl) ?_
 repeat (go_big_quiet_step (first | with_reducible exact (un HC) _))
 refine wpQuiet_nil ?_
 rintro w' ⟨z, rfl⟩
 have hEz := (un HE).below z.b
 obtain ⟨⟨k0, k1, k2⟩, f1⟩ := hEz.r.cells
 have hl := (un Hlook) z.w hEz.k
 have HEz := H_ hEz
 clear q0 q1 hne hEz HC Hlook
 go_wp2_with fail
 refine ((un HS) _).mono ?_
 rintro e w2 ⟨rfl, rfl⟩
 go_wp2_with fail
 refine wp_label ?_
 go_wp2_with fail
 refine (filters_any R (deep + 1) _).mono ?_
 rintro e w5 ⟨rfl, rfl⟩
 obtain ⟨X, hX⟩ : ∃ X, X = z.w.setCell ⟨R, 1, none⟩ (.int .i64 ((p : Int) + 1)) := ⟨_, rfl⟩
 rw [<- hX]
 obtain ⟨N, hN⟩ : ∃ N, z.w.heap.size = N := ⟨_, rfl⟩
 have hXs : X.heap.size = N := by rw [hX]; simp [hN]
 have hEz := un HEz
 have hXE : Env A w0 R kb s (p + 1) X := by rw [hX]; exact hEz.set (p + 1)
 have hNw : w.heap.size < N := by have := z.b.size; omega
 have hXR : But R w X := by rw [hX]; exact (But.of_below ((un HVx).1.trans (z.b.mono (by omega)))).setCell _ _
 have hX0 : X.heap[w.heap.size]? = some (.cells zfd.cs 25 (0, 0)) := by
  rw [hX]
  exact (Below.heap_setCell _ _ _ _ (by show w.heap.size ≠ R; omega)).trans ((z.b.block _ hVz).trans (un HVx).2)
 obtain ⟨W0, hW0⟩ : ∃ W0, W0 = (((X.alloc (.cells (Fd.cs ⟨kk, ⟨#[]⟩, ⟨#[]⟩, none, 0, 0, ⟨#[]⟩, none, 0, 0⟩) 25)).alloc (.cells #[.nilIface] 42)).alloc (.cells #[.pointer (some ⟨R, 0, none⟩)] 109)).alloc (.cells #[.int .i64 (deep + 1)] 3) := ⟨_, rfl⟩
 have hz : W0.heap.size = N + 4 := by rw [hW0]; simp [hXs]
 have hXW : Below X.heap.size X W0 := by rw [hW0]; exact ((((Below.refl _ _).alloc (Nat.le_refl _) _).alloc (by simp) _).alloc (by simp; omega) _).alloc (by simp; omega) _
 have hI0 : Bin k w R N kk [] none 0 W0 := by
  refine ⟨(hXW.block _ (by omega)).trans hX0, ?_, ?_, GrowF.nil _ _ _, hXR.trans (But.of_below hXW), Nat.zero_le _⟩
  ·rw [hW0, Below.heap_alloc _ _ _ (by simp [hXs] <;> omega), Below.heap_alloc _ _ _ (by simp [hXs] <;> omega), Below.heap_alloc _ _ _ (by simp [hXs]), <- hXs]; exact World.alloc_heap_new _ _
  ·rw [hW0, Below.heap_alloc _ _ _ (by simp [hXs] <;> omega), Below.heap_alloc _ _ _ (by simp [hXs])]
   have := World.alloc_heap_new (X.alloc (.cells (Fd.cs ⟨kk, ⟨#[]⟩, ⟨#[]⟩, none, 0, 0, ⟨#[]⟩, none, 0, 0⟩) 25)) (.cells #[.nilIface] 42)
   rwa [World.size_alloc, hXs] at this
 have hR0 : W0.heap[N + 2]? = some (.cells #[.pointer (some ⟨R, 0, none⟩)] 109 (0, 0)) := by
  rw [hW0, Below.heap_alloc _ _ _ (by simp [hXs])]
  have := World.alloc_heap_new ((X.alloc (.cells (Fd.cs ⟨kk, ⟨#[]⟩, ⟨#[]⟩, none, 0, 0, ⟨#[]⟩, none, 0, 0⟩) 25)).alloc (.cells #[.nilIface] 42)) (.cells #[.pointer (some ⟨R, 0, none⟩)] 109)
  rwa [World.size_alloc, World.size_alloc, hXs] at this
 have hD0 : W0.heap[N + 3]? = some (.cells #[.int .i64 (deep + 1)] 3 (0, 0)) := by
  rw [hW0]
  have := World.alloc_heap_new (((X.alloc (.cells (Fd.cs ⟨kk, ⟨#[]⟩, ⟨#[]⟩, none, 0, 0, ⟨#[]⟩, none, 0, 0⟩) 25)).alloc (.cells #[.nilIface] 42)).alloc (.cells #[.pointer (some ⟨R, 0, none⟩)] 109)) (.cells #[.int .i64 (deep + 1)] 3)
  rwa [World.size_alloc, World.size_alloc, World.size_alloc, hXs] at this
 have hE0 : Env A w0 R kb s (p + 1) W0 := hXE.below hXW
 have hkb : kb < N := by rw [<- hXs]; exact hXE.k.lt
 have hw0 : w0.heap.size <= N := by rw [<- hXs]; exact hXE.b.size
 simp only [World.size_alloc, hXs, hN]
 rw [<- hW0]
 clear hW0 hXW hX0 hXR hXE hX HEz HC HE k0 k1 k2 f1 hl hEz
 go_wp2_with fail
 refine (wpIn_wide (n := 7)).1 ?_
 refine' range_own (α := Got k) (σ := List (Fl (k + 2))) (gf := 115) (lb := #[.pointer (some ⟨N + 2, 0, none⟩), .pointer (some ⟨N + 3, 0, none⟩)]) rfl (enters_of Tryz.func115 (by kernel_rfl) rfl)
  (fun x => #[x.d.val, x.er]) (fun _ => rfl) (Kz A w0 R kb s (N + 2) (N + 3)) (But R)
  (fun fs W => ∃ la lc, Bin k w R N kk fs la lc W) (fun cd _ W => cd = .exit 0 /\ Bix A w R N W) (fun fs x W => GotAt A w0 R kb s (Fr N) x W) nxG [] (fun fs W => ∃ q, rdL (rdF k) 8 (s.data.toList.drop (p + 1)) = some (fs, s.data.toList.drop q) /\ q <= s.size /\ Env A w0 R kb s q W) (fun _ => rdL (rdF k) 8 (s.data.toList.drop (p + 1)) = none) (fun fs x => x.o ≠ none /\ fs.length < 8) (fun fs x => x.o = none \/ fs.length = 8)
  (fun x B => B.alloc x.d.obj) (fun x B => { tmps := #[.pointer (some ⟨R, 0, none⟩), .int .i64 deep, undef, undef, .pointer (some ⟨w.heap.size, 0, none⟩), .nilIface, .string sg, .int .i64 kk, .bool true, .pointer (some ⟨N, 0, none⟩), .pointer (some ⟨N + 1, 0, none⟩), .pointer (some ⟨B.heap.size, 0, none⟩), x.er, .pointer (some ⟨R, 0, none⟩), .pointer (some ⟨R, 0, none⟩), .pointer (some ⟨R, 0, none⟩), .agg #[.string s], .pointer (some ⟨R, 0, none⟩), .pointer (some ⟨R, 0, none⟩), .pointer (some ⟨R, 1, none⟩), .int .i64 (p : Int), .pointer (some ⟨R, 0, none⟩), .pointer (some ⟨R, 0, none⟩), .pointer (some ⟨R, 1, none⟩), .int .i64 (p : Int), .int .i64 ((p : Int) + 1), .string sg, .tuple #[.int .i64 kk, .bool true], .pointer (some ⟨R, 0, none⟩), .pointer (some ⟨R, 0, none⟩), .pointer (some ⟨R, 2, none⟩), .map (some kb), .string sg, .tuple #[.int .i64 kk, .bool true], .int .i64 kk, .bool true, .bool true, .bool false, .bool false, .int .i64 kk, .bool true, .bool false, .bool false, undef, undef, undef, undef, .pointer (some ⟨R, 0, none⟩), .pointer (some ⟨R, 0, none⟩), .pointer (some ⟨R, 1, none⟩), .int .i64 (p : Int), .string sg, .int .i64 1, .int .i64 ((p : Int) + 1), .pointer (some ⟨R, 0, none⟩), .pointer (some ⟨R, 1, none⟩), .int .i64 kk, .agg #[.int .i64 kk, .string ⟨#[]⟩, .string ⟨#[]⟩, .slice none 0 0, .string ⟨#[]⟩, .slice none 0 0], .pointer (some ⟨R, 0, none⟩), .int .i64 deep, .int .i64 (deep + 1), .func (.func 115) #[] #[.pointer (some ⟨N + 1 + 1, 0, none⟩), .pointer (some ⟨N + 1 + 1 + 1, 0, none⟩)], x.d.val, x.er, undef, undef, undef, undef, undef, undef, undef, undef, undef, undef, undef, undef, undef, undef, undef, undef, undef, undef, undef, undef], defers := [] }) (fun _ _ => (Below.refl _ _).alloc (Nat.le_refl _) _)
  Kz.trans ?_ ?_ ?_ ?_ ?_ ?_ ?_ ⟨none, 0, hI0⟩ ?iter ?assign ?body ?done ?stop
 case assign =>
  intro fs x W K _ _ hK
  gi_wp2
  exact hK
 ·intro X Y hb
  rw [hz] at hb
  exact ⟨hb.size, fun q h => h.but2 hb (by omega) (by omega) (by omega), fun hl => hb.block _ hl (by omega), fun hl => hb.block _ hl (by omega)⟩
 ·intro X Y hb hsz
  rw [hz] at hsz ⊢
  exact ⟨hb.block _ (by omega) (by omega), hb.block _ (by omega) (by omega)⟩
 ·rintro fs X Y hb ⟨la, lc, h⟩
  rw [hz] at hb
  exact ⟨la, lc, h.but hb hNw (by omega)⟩
 ·rintro fs X Y hb _ ⟨la, lc, h⟩
  exact ⟨la, lc, h.but hb hNw (by omega)⟩
 ·rintro c fs X Y hb ⟨h1, h2⟩
  rw [hz] at hb
  exact ⟨h1, h2.but hb hNw (by omega)⟩
 ·rintro fs x X Y hb h
  rw [hz] at hb
  unfold GotAt at h ⊢
  cases ho : x.o with
  | none => rw [ho] at h; exact h
  | some F =>
   rw [ho] at h
   exact ⟨h.1, (h.2.1.of fun b h1 h2 => hb.block b h2 (by have := h1.1; omega)).imp fun b h1 _ => h1.but hb (by omega), h.2.2.but2 hb (by omega) (by omega) (by omega)⟩
 ·rintro fs X Y hb ⟨q, h1, h2, h3⟩
  rw [hz] at hb
  exact ⟨q, h1, h2, h3.but2 hb (by omega) (by omega) (by omega)⟩
 case iter =>
  intro W hbW hzW J Jx hJ hJI hY h0
  rw [hz] at hbW hzW hY hJI ⊢
  refine (filters1_any k A w0 R kb s hs (deep + 1) (un HI) (N + 2) (N + 3) (N + 4 + 1) (fun _ => Fr N) (by omega) (by omega) J Jx hJ (fun c Z hj => ?_) (fun c x W' m hj hg => (hY c x W' m hj hg).mono fun e W2 h => h) W _ (p + 1) (by omega) rfl h0 (hE0.but2 hbW (by omega) (by omega) (by omega)) ((hbW.block _ (by omega) (by omega)).trans hR0) ((hbW.block _ (by omega) (by omega)).trans hD0)).mono ?_
  ·obtain ⟨⟨la, lc, h1⟩, h2⟩ := hJI c Z hj
   exact ⟨h1.len, fun Y b hb hl => h1.fr (by omega) (by omega) Y b hb hl⟩
  ·rintro e W' ⟨h1, ⟨c, q, h2, h3, h4, h5⟩ | ⟨c, h2, h3⟩⟩
   ·exact ⟨h1, .inl ⟨c, ⟨q, h2, h3, h4⟩, h5⟩⟩
   ·exact ⟨h1, .inr ⟨c, h2, h3⟩⟩
 case body =>
  rintro fs ⟨⟨dk, da, dv, dsa, dsn, dsc, df, dla, dln, dlc⟩, er, o, xp⟩ B W ⟨la, lc, hI⟩ hG hB hbb hIB
  go_light
  rw [hz] at hB hbb ⊢
  dsimp only at hbb hG ⊢
  have hbk : W.heap[B.heap.size]? = some (.cells (Fd.cs ⟨dk, da, dv, dsa, dsn, dsc, df, dla, dln, dlc⟩) 25 (0, 0)) := (hbb.block B.heap.size (by simp) (by omega)).trans (World.alloc_heap_new B _)
  obtain ⟨⟨x0, x1, x2, x3, x4, x5⟩, y0, y1, y2, y3, y4, y5⟩ := box6 hI.f
  dsimp only at x0 x1 x2 x3 x4 x5
  obtain ⟨x6, y6⟩ := box1 hI.wr
  cases o with
  | none =>
   obtain ⟨T, v, rfl, hErr⟩ : ∃ T v, er = .iface T v /\ IsErr A (.iface T v) := hG
   have HH := H_ (And.intro hI hErr)
   clear hI hErr hbk hI0 hR0 hD0 hE0 HI Hset
   gi_wp2
   obtain ⟨hI, hErr⟩ := un HH
   have far : ∀ i, i ≠ N + 1 -> (W.setCell ⟨N + 1, 0, none⟩ (.iface T v)).heap[i]? = W.heap[i]? := fun i h => Below.heap_setCell _ _ _ _ h
   exact ⟨by simp, ⟨far _ (by omega), far _ (by omega)⟩, rfl, (far _ (by omega)).trans hI.b0, ⟨_, (far _ (by omega)).trans hI.f⟩, ⟨T, v, heap_set _ _ 0 _ _ _ hI.wr, hErr⟩, hI.bel.late ((But.refl (N + 1) W).setCell 0 _) (by omega)⟩
  | some F =>
   obtain ⟨rfl, hN, hEx⟩ : er = .nilIface /\ FNode (k + 2) W (Fr N W) ⟨dk, da, dv, dsa, dsn, dsc, df, dla, dln, dlc⟩ F /\ Env A w0 R kb s xp W := hG
   by_cases h8 : fs.length = 8
   ·have h8i : ((fs.length : Int) == 8) = true := by rw [h8]; rfl
    have hco := hEx.glob.vco
    have HH := H_ hI
    clear hI hN hbk hI0 hR0 hD0 hE0 HI Hset hEx
    gi_wp2
    have hI := un HH
    have far : ∀ i, i ≠ N + 1 -> (W.setCell ⟨N + 1, 0, none⟩ (sen A.co)).heap[i]? = W.heap[i]? := fun i h => Below.heap_setCell _ _ _ _ h
    exact ⟨.inr h8, ⟨far _ (by omega), far _ (by omega)⟩, rfl, (far _ (by omega)).trans hI.b0, ⟨_, (far _ (by omega)).trans hI.f⟩, ⟨_, _, heap_set _ _ 0 _ _ _ hI.wr, IsErr.sen (isS_co A)⟩, hI.bel.late ((But.refl (N + 1) W).setCell 0 _) (by omega)⟩
   ·have h8i : ((fs.length : Int) == 8) = false := by rw [beq_eq_false_iff_ne]; omega
    have hoB : ∀ i, (Value.slice la fs.length lc).ownBlock = some i -> N + 6 <= i /\ i < B.heap.size := by
     obtain ⟨la', lc', hIb⟩ := hIB
     obtain ⟨rfl, rfl⟩ := hI.same hIb ((hbb.block N (by simp; omega) (by omega)).trans (Below.heap_alloc _ _ _ (by omega)))
     exact fun i h => hIb.own h
    have HoB := H_ hoB
    have HH := H_ (And.intro hI (And.intro hN hEx))
    have Hbk := H_ hbk
    clear hI hN hbk hI0 hR0 hD0 hE0 HI Hset hEx hoB
    gi_wp2_with fail
    obtain ⟨i0, hi0, hz0, hz1, hz2⟩ := infoF
    obtain ⟨vs, hvl, hown, hNs⟩ := (un HH).1.gr
    have HNs := H_ (And.intro hvl hNs)
    clear hNs
    have hBn : N + 6 <= B.heap.size := hB
    have hBW : B.heap.size < W.heap.size := (Array.getElem?_eq_some_iff.1 (un Hbk)).1
    have hS0 : (fun w' : World => w'.cell? ⟨B.heap.size, 0, none⟩ = some (.int .i64 dk) /\ w'.cell? ⟨B.heap.size, 1, none⟩ = some (.string da) /\ w'.cell? ⟨B.heap.size, 2, none⟩ = some (.string dv) /\ w'.cell? ⟨B.heap.size, 3, none⟩ = some (.slice dsa dsn dsc) /\ w'.cell? ⟨B.heap.size, 4, none⟩ = some (.string df) /\ w'.cell? ⟨B.heap.size, 5, none⟩ = some (.slice dla dln dlc)) W.drew := by
     have := (box6 (W := W) (un Hbk)).1
     exact this
    have cV : W.drew.cell? ⟨N, 5, none⟩ = some (.slice la fs.length lc) := x5
    have hownV : W.drew.ownsRow (N + 6) 25 6 (.slice la fs.length lc) fs.length (flat6 vs) := hown
    have hWV := H_ (show W.drew.heap = W.heap /\ W.drew.os = W.os /\ W.drew.tape = W.tape /\ W.drew.output = W.output from ⟨rfl, rfl, rfl, rfl⟩)
    have HBk := H_ (show W.drew.heap[B.heap.size]? = some (.cells (Fd.cs ⟨dk, da, dv, dsa, dsn, dsc, df, dla, dln, dlc⟩) 25 (0, 0)) from un Hbk)
    have HNk := H_ (show W.drew.heap[N]? = _ from (un HH).1.f)
    have hBV : B.heap.size < W.drew.heap.size := hBW
    clear x0 x1 x2 x3 x4 x5 y0 y1 y2 y3 y4 y5 x6 y6 hown
    refine E.regionIn_held (S := fun w' => w'.cell? ⟨B.heap.size, 0, none⟩ = some (.int .i64 dk) /\ w'.cell? ⟨B.heap.size, 1, none⟩ = some (.string da) /\ w'.cell? ⟨B.heap.size, 2, none⟩ = some (.string dv) /\ w'.cell? ⟨B.heap.size, 3, none⟩ = some (.slice dsa dsn dsc) /\ w'.cell? ⟨B.heap.size, 4, none⟩ = some (.string df) /\ w'.cell? ⟨B.heap.size, 5, none⟩ = some (.slice dla dln dlc)) (by kernel_rfl) (by kernel_rfl) ?_
    generalize W.drew = V at *
    change wpAnyH _ _ _ _ _ 10 #[false, false, false, false, false, false, false, false, false, false] _ V
    refine tkk 0 (.pointer (some ⟨N, 5, none⟩)) rfl (by rintro w1 ⟨s0, s1, s2, s3, s4, s5⟩; go_simp; all_goals first | rfl | omega) hS0 ?_
    simp only [Act.put, nrm]
    refine tkk 2 (.agg #[.int .i64 dk, .string da, .string dv, .slice dsa dsn dsc, .string df, .slice dla dln dlc]) rfl (by rintro w1 ⟨s0, s1, s2, s3, s4, s5⟩; go_simp; all_goals first | rfl | omega) hS0 ?_
    simp only [Act.put, nrm]
    have hownZ := H_ (hownV.alloc zfd.obj)
    have hSZ : (fun w' : World => w'.cell? ⟨B.heap.size, 0, none⟩ = some (.int .i64 dk) /\ w'.cell? ⟨B.heap.size, 1, none⟩ = some (.string da) /\ w'.cell? ⟨B.heap.size, 2, none⟩ = some (.string dv) /\ w'.cell? ⟨B.heap.size, 3, none⟩ = some (.slice dsa dsn dsc) /\ w'.cell? ⟨B.heap.size, 4, none⟩ = some (.string df) /\ w'.cell? ⟨B.heap.size, 5, none⟩ = some (.slice dla dln dlc)) (V.alloc zfd.obj) := (box6 ((Below.heap_alloc _ _ _ hBV).trans (un HBk))).1
    have cZ : (V.alloc zfd.obj).cell? ⟨N, 5, none⟩ = some (.slice la fs.length lc) := by rw [World.cell?_alloc_lt _ _ _ (D.lt_cell cV)]; exact cV
    clear hownV
    have hl8 : fs.length <= 8 := (un HH).1.len
    have hcz := cells6_new V zfd
    refine wpAnyH_ready (rs := [1, 4]) (by kernel_rfl) (by simp) ?_
    refine AllReadyH.cons rfl (fun K hK => ?_) (AllReadyH.cons rfl (fun K hK => ?_) AllReadyH.nil)
    ·rw [if_pos (by kernel_rfl)]
     go_simp
     refine hK.out _ _ hS0 (fun _ => ?_)
     clear hK K
     simp only [Act.put, nrm]
     refine tkk 3 (.int .i64 (fs.length : Int)) rfl (by rintro w1 ⟨s0, s1, s2, s3, s4, s5⟩; go_simp; all_goals first | rfl | omega) hS0 ?_
     simp only [Act.put, nrm]
     refine rdyy 4 rfl (fun K hK => ?_)
     rw [if_pos (by kernel_rfl)]
     go_simp
     refine hK.out _ _ hSZ (fun _ => ?_)
     clear hK K
     simp only [Act.put, nrm]
     refine rdyy 5 rfl (fun K hK => ?_)
     rw [if_pos (by kernel_rfl)]
     refine wp_append_lies _ (.tmp 75) (.tmp 78) 23 rfl (N + 6) 25 i0 zfd.val 6 104 Tryz.underlying23 hi0 hz0 hz1 hz2 rfl (by omega) (.slice la fs.length lc) fs.length (flat6 vs) rfl (un hownZ) ⟨V.heap.size, 0, none⟩ 1 1 zfd.cs.toList rfl rfl hcz (by simp [Value.oneCell']) (by omega) (by unfold maxLen; omega) (by omega) (by simp; omega) (V.heap.size + 1) (by simp) ?_
     intro gg cp w5 hown5 hgrow hat hglt
     obtain ⟨c0, c1, c2, c3, c4, c5⟩ := apd_cells (un HNs).1 hown5
     have g0 := hown5.frozenAt (fs.length * 6)
     have g1 := hown5.frozenAt (fs.length * 6 + 1)
     have g2 := hown5.frozenAt (fs.length * 6 + 2)
     have g3 := hown5.frozenAt (fs.length * 6 + 3)
     have g4 := hown5.frozenAt (fs.length * 6 + 4)
     have g5 := hown5.frozenAt (fs.length * 6 + 5)
     obtain ⟨hgB, hgN, hB5, hN5⟩ := apd_far (un HoB) (by omega) hBV hgrow hat (un HBk) (un HNk)
     have cN := (box6 hN5).1.2.2.2.2.2
     have fN := (box6 hN5).2.2.2.2.2.2
     have hS5 := (box6 hB5).1
     dsimp only at cN hS5
     have HA := H_ (And.intro hown5 (And.intro hgrow hat))
     clear hown5 hgrow hat
     refine hK.out _ _ hS5 (fun _ => ?_)
     clear hK K
     simp only [Act.put, nrm]
     refine tkk 6 (.pointer (some ⟨gg, fs.length * 6, none⟩)) rfl (by rintro w1 ⟨s0, s1, s2, s3, s4, s5⟩; go_simp; all_goals first | rfl | omega) hS5 ?_
     simp only [Act.put, nrm]
     refine tkk 8 (.pointer (some ⟨N, 5, none⟩)) rfl (by rintro w1 ⟨s0, s1, s2, s3, s4, s5⟩; go_simp; all_goals first | rfl | omega) hS5 ?_
     simp only [Act.put, nrm]
     refine wpAnyH_ready (rs := [7, 9]) (by kernel_rfl) (by simp) ?_
     refine AllReadyH.cons rfl (fun K hK => ?_) (AllReadyH.cons rfl (fun K hK => ?_) AllReadyH.nil)
     ·rw [if_pos (by kernel_rfl)]
      go_simp
      obtain ⟨Y, hY⟩ : ∃ Y, Y = set6o w5 gg (fs.length * 6) ⟨dk, da, dv, dsa, dsn, dsc, df, dla, dln, dlc⟩ := ⟨_, rfl⟩
      have hbY := set6o_but w5 gg (fs.length * 6) ⟨dk, da, dv, dsa, dsn, dsc, df, dla, dln, dlc⟩
      dsimp only [set6o] at hY hbY
      rw [<- hY] at hbY ⊢
      replace hY := H_ hY
      have hBY := (hbY.block _ (Array.getElem?_eq_some_iff.1 hB5).1 (Ne.symm hgB)).trans hB5
      have hNY := (hbY.block _ (Array.getElem?_eq_some_iff.1 hN5).1 (Ne.symm hgN)).trans hN5
      have hSY := (box6 hBY).1
      have cY := (box6 hNY).1.2.2.2.2.2
      have fY := (box6 hNY).2.2.2.2.2.2
      dsimp only at hSY cY
      clear c0 c1 c2 c3 c4 c5 g0 g1 g2 g3 g4 g5 cN fN hS5
      refine hK.out _ _ hSY (fun _ => ?_)
      clear hK K
      simp only [Act.put, nrm]
      refine rdyy 9 rfl (fun K hK => ?_)
      rw [if_pos (by kernel_rfl)]
      go_simp
      have hBZ := (Below.heap_setCell Y ⟨N, 5, none⟩ (.slice (some ⟨gg, 0, none⟩) (fs.length + 1) cp) B.heap.size (by show B.heap.size ≠ N; omega)).trans hBY
      have hSZ2 := (box6 hBZ).1
      dsimp only at hSZ2
      refine hK.out _ _ hSZ2 (fun _ => ?_)
      clear hK K
      simp only [Act.put, nrm]
      refine wpAnyH_done (by kernel_rfl) ?_ _
      simp only [C.only]
      gi_wp2
      obtain ⟨hI, hN, hEx⟩ := un HH
      obtain ⟨hown5, hgrow, hat⟩ := un HA
      obtain ⟨hvl, hNs⟩ := un HNs
      obtain ⟨hI2, hb2, hf2⟩ := apd_end (X := Y.setCell ⟨N, 5, none⟩ (.slice (some ⟨gg, 0, none⟩) (fs.length + 1) cp)) (d := ⟨dk, da, dv, dsa, dsn, dsc, df, dla, dln, dlc⟩) hI (un hWV) hNw (by omega) h8 hvl hNs hown5 hgrow hat hN (by rw [un hY]; exact .inl rfl)
      exact ⟨by have := hI.len; omega, ⟨hf2 _ (by omega) (by omega), hf2 _ (by omega) (by omega)⟩, ⟨hb2.size, fun q h => h.low hb2 (by omega) (by omega), fun _ => hf2 _ (by omega) (by omega), fun _ => hf2 _ (by omega) (by omega)⟩, hI2⟩
     ·rw [if_pos (by kernel_rfl)]
      go_simp
      obtain ⟨Y, hY⟩ : ∃ Y, Y = w5.setCell ⟨N, 5, none⟩ (.slice (some ⟨gg, 0, none⟩) (fs.length + 1) cp) := ⟨_, rfl⟩
      have hbY := (But.refl N w5).setCell 5 (.slice (some ⟨gg, 0, none⟩) (fs.length + 1) cp)
      rw [<- hY] at hbY ⊢
      replace hY := H_ hY
      have hBY := (hbY.block _ (Array.getElem?_eq_some_iff.1 hB5).1 (by omega)).trans hB5
      have hSY := (box6 hBY).1
      dsimp only at hSY
      have hgY := hbY.block gg hglt hgN
      have far := fun i => World.cell?_of_block (w := w5) (w' := Y) (a := ⟨gg, i, none⟩) hgY
      have farf := fun i => World.frozen?_of_block (w := w5) (w' := Y) (a := ⟨gg, i, none⟩) hgY
      rw [<- far] at c0 c1 c2 c3 c4 c5
      rw [<- farf] at g0 g1 g2 g3 g4 g5
      clear far farf cN fN hS5
      refine hK.out _ _ hSY (fun _ => ?_)
      clear hK K
      simp only [Act.put, nrm]
      refine rdyy 7 rfl (fun K hK => ?_)
      rw [if_pos (by kernel_rfl)]
      go_simp
      obtain ⟨X, hX⟩ : ∃ X, X = set6o Y gg (fs.length * 6) ⟨dk, da, dv, dsa, dsn, dsc, df, dla, dln, dlc⟩ := ⟨_, rfl⟩
      have hbX := set6o_but Y gg (fs.length * 6) ⟨dk, da, dv, dsa, dsn, dsc, df, dla, dln, dlc⟩
      dsimp only [set6o] at hX hbX
      rw [<- hX] at hbX ⊢
      replace hX := H_ hX
      have hBZ := (hbX.block _ (Array.getElem?_eq_some_iff.1 hBY).1 (Ne.symm hgB)).trans hBY
      have hSZ2 := (box6 hBZ).1
      dsimp only at hSZ2
      clear c0 c1 c2 c3 c4 c5 g0 g1 g2 g3 g4 g5
      refine hK.out _ _ hSZ2 (fun _ => ?_)
      clear hK K
      simp only [Act.put, nrm]
      refine wpAnyH_done (by kernel_rfl) ?_ _
      simp only [C.only]
      gi_wp2
      obtain ⟨hI, hN, hEx⟩ := un HH
      obtain ⟨hown5, hgrow, hat⟩ := un HA
      obtain ⟨hvl, hNs⟩ := un HNs
      obtain ⟨hI2, hb2, hf2⟩ := apd_end (X := X) (d := ⟨dk, da, dv, dsa, dsn, dsc, df, dla, dln, dlc⟩) hI (un hWV) hNw (by omega) h8 hvl hNs hown5 hgrow hat hN (by rw [un hX, un hY]; exact .inr rfl)
      exact ⟨by have := hI.len; omega, ⟨hf2 _ (by omega) (by omega), hf2 _ (by omega) (by omega)⟩, ⟨hb2.size, fun q h => h.low hb2 (by omega) (by omega), fun _ => hf2 _ (by omega) (by omega), fun _ => hf2 _ (by omega) (by omega)⟩, hI2⟩
    ·rw [if_pos (by kernel_rfl)]
     go_simp
     refine hK.out _ _ hSZ (fun _ => ?_)
     clear hK K
     simp only [Act.put, nrm]
     refine rdyy 1 rfl (fun K hK => ?_)
     rw [if_pos (by kernel_rfl)]
     go_simp
     refine hK.out _ _ hSZ (fun _ => ?_)
     clear hK K
     simp only [Act.put, nrm]
     refine tkk 3 (.int .i64 (fs.length : Int)) rfl (by rintro w1 ⟨s0, s1, s2, s3, s4, s5⟩; go_simp; all_goals first | rfl | omega) hSZ ?_
     simp only [Act.put, nrm]
     refine rdyy 5 rfl (fun K hK => ?_)
     rw [if_pos (by kernel_rfl)]
     refine wp_append_lies _ (.tmp 75) (.tmp 78) 23 rfl (N + 6) 25 i0 zfd.val 6 104 Tryz.underlying23 hi0 hz0 hz1 hz2 rfl (by omega) (.slice la fs.length lc) fs.length (flat6 vs) rfl (un hownZ) ⟨V.heap.size, 0, none⟩ 1 1 zfd.cs.toList rfl rfl hcz (by simp [Value.oneCell']) (by omega) (by unfold maxLen; omega) (by omega) (by simp; omega) (V.heap.size + 1) (by simp) ?_
     intro gg cp w5 hown5 hgrow hat hglt
     obtain ⟨c0, c1, c2, c3, c4, c5⟩ := apd_cells (un HNs).1 hown5
     have g0 := hown5.frozenAt (fs.length * 6)
     have g1 := hown5.frozenAt (fs.length * 6 + 1)
     have g2 := hown5.frozenAt (fs.length * 6 + 2)
     have g3 := hown5.frozenAt (fs.length * 6 + 3)
     have g4 := hown5.frozenAt (fs.length * 6 + 4)
     have g5 := hown5.frozenAt (fs.length * 6 + 5)
     obtain ⟨hgB, hgN, hB5, hN5⟩ := apd_far (un HoB) (by omega) hBV hgrow hat (un HBk) (un HNk)
     have cN := (box6 hN5).1.2.2.2.2.2
     have fN := (box6 hN5).2.2.2.2.2.2
     have hS5 := (box6 hB5).1
     dsimp only at cN hS5
     have HA := H_ (And.intro hown5 (And.intro hgrow hat))
     clear hown5 hgrow hat
     refine hK.out _ _ hS5 (fun _ => ?_)
     clear hK K
     simp only [Act.put, nrm]
     refine tkk 6 (.pointer (some ⟨gg, fs.length * 6, none⟩)) rfl (by rintro w1 ⟨s0, s1, s2, s3, s4, s5⟩; go_simp; all_goals first | rfl | omega) hS5 ?_
     simp only [Act.put, nrm]
     refine tkk 8 (.pointer (some ⟨N, 5, none⟩)) rfl (by rintro w1 ⟨s0, s1, s2, s3, s4, s5⟩; go_simp; all_goals first | rfl | omega) hS5 ?_
     simp only [Act.put, nrm]
     refine wpAnyH_ready (rs := [7, 9]) (by kernel_rfl) (by simp) ?_
     refine AllReadyH.cons rfl (fun K hK => ?_) (AllReadyH.cons rfl (fun K hK => ?_) AllReadyH.nil)
     ·rw [if_pos (by kernel_rfl)]
      go_simp
      obtain ⟨Y, hY⟩ : ∃ Y, Y = set6o w5 gg (fs.length * 6) ⟨dk, da, dv, dsa, dsn, dsc, df, dla, dln, dlc⟩ := ⟨_, rfl⟩
      have hbY := set6o_but w5 gg (fs.length * 6) ⟨dk, da, dv, dsa, dsn, dsc, df, dla, dln, dlc⟩
      dsimp only [set6o] at hY hbY
      rw [<- hY] at hbY ⊢
      replace hY := H_ hY
      have hBY := (hbY.block _ (Array.getElem?_eq_some_iff.1 hB5).1 (Ne.symm hgB)).trans hB5
      have hNY := (hbY.block _ (Array.getElem?_eq_some_iff.1 hN5).1 (Ne.symm hgN)).trans hN5
      have hSY := (box6 hBY).1
      have cY := (box6 hNY).1.2.2.2.2.2
      have fY := (box6 hNY).2.2.2.2.2.2
      dsimp only at hSY cY
      clear c0 c1 c2 c3 c4 c5 g0 g1 g2 g3 g4 g5 cN fN hS5
      refine hK.out _ _ hSY (fun _ => ?_)
      clear hK K
      simp only [Act.put, nrm]
      refine rdyy 9 rfl (fun K hK => ?_)
      rw [if_pos (by kernel_rfl)]
      go_simp
      have hBZ := (Below.heap_setCell Y ⟨N, 5, none⟩ (.slice (some ⟨gg, 0, none⟩) (fs.length + 1) cp) B.heap.size (by show B.heap.size ≠ N; omega)).trans hBY
      have hSZ2 := (box6 hBZ).1
      dsimp only at hSZ2
      refine hK.out _ _ hSZ2 (fun _ => ?_)
      clear hK K
      simp only [Act.put, nrm]
      refine wpAnyH_done (by kernel_rfl) ?_ _
      simp only [C.only]
      gi_wp2
      obtain ⟨hI, hN, hEx⟩ := un HH
      obtain ⟨hown5, hgrow, hat⟩ := un HA
      obtain ⟨hvl, hNs⟩ := un HNs
      obtain ⟨hI2, hb2, hf2⟩ := apd_end (X := Y.setCell ⟨N, 5, none⟩ (.slice (some ⟨gg, 0, none⟩) (fs.length + 1) cp)) (d := ⟨dk, da, dv, dsa, dsn, dsc, df, dla, dln, dlc⟩) hI (un hWV) hNw (by omega) h8 hvl hNs hown5 hgrow hat hN (by rw [un hY]; exact .inl rfl)
      exact ⟨by have := hI.len; omega, ⟨hf2 _ (by omega) (by omega), hf2 _ (by omega) (by omega)⟩, ⟨hb2.size, fun q h => h.low hb2 (by omega) (by omega), fun _ => hf2 _ (by omega) (by omega), fun _ => hf2 _ (by omega) (by omega)⟩, hI2⟩
     ·rw [if_pos (by kernel_rfl)]
      go_simp
      obtain ⟨Y, hY⟩ : ∃ Y, Y = w5.setCell ⟨N, 5, none⟩ (.slice (some ⟨gg, 0, none⟩) (fs.length + 1) cp) := ⟨_, rfl⟩
      have hbY := (But.refl N w5).setCell 5 (.slice (some ⟨gg, 0, none⟩) (fs.length + 1) cp)
      rw [<- hY] at hbY ⊢
      replace hY := H_ hY
      have hBY := (hbY.block _ (Array.getElem?_eq_some_iff.1 hB5).1 (by omega)).trans hB5
      have hSY := (box6 hBY).1
      dsimp only at hSY
      have hgY := hbY.block gg hglt hgN
      have far := fun i => World.cell?_of_block (w := w5) (w' := Y) (a := ⟨gg, i, none⟩) hgY
      have farf := fun i => World.frozen?_of_block (w := w5) (w' := Y) (a := ⟨gg, i, none⟩) hgY
      rw [<- far] at c0 c1 c2 c3 c4 c5
      rw [<- farf] at g0 g1 g2 g3 g4 g5
      clear far farf cN fN hS5
      refine hK.out _ _ hSY (fun _ => ?_)
      clear hK K
      simp only [Act.put, nrm]
      refine rdyy 7 rfl (fun K hK => ?_)
      rw [if_pos (by kernel_rfl)]
      go_simp
      obtain ⟨X, hX⟩ : ∃ X, X = set6o Y gg (fs.length * 6) ⟨dk, da, dv, dsa, dsn, dsc, df, dla, dln, dlc⟩ := ⟨_, rfl⟩
      have hbX := set6o_but Y gg (fs.length * 6) ⟨dk, da, dv, dsa, dsn, dsc, df, dla, dln, dlc⟩
      dsimp only [set6o] at hX hbX
      rw [<- hX] at hbX ⊢
      replace hX := H_ hX
      have hBZ := (hbX.block _ (Array.getElem?_eq_some_iff.1 hBY).1 (Ne.symm hgB)).trans hBY
      have hSZ2 := (box6 hBZ).1
      dsimp only at hSZ2
      clear c0 c1 c2 c3 c4 c5 g0 g1 g2 g3 g4 g5
      refine hK.out _ _ hSZ2 (fun _ => ?_)
      clear hK K
      simp only [Act.put, nrm]
      refine wpAnyH_done (by kernel_rfl) ?_ _
      simp only [C.only]
      gi_wp2
      obtain ⟨hI, hN, hEx⟩ := un HH
      obtain ⟨hown5, hgrow, hat⟩ := un HA
      obtain ⟨hvl, hNs⟩ := un HNs
      obtain ⟨hI2, hb2, hf2⟩ := apd_end (X := X) (d := ⟨dk, da, dv, dsa, dsn, dsc, df, dla, dln, dlc⟩) hI (un hWV) hNw (by omega) h8 hvl hNs hown5 hgrow hat hN (by rw [un hX, un hY]; exact .inr rfl)
      exact ⟨by have := hI.len; omega, ⟨hf2 _ (by omega) (by omega), hf2 _ (by omega) (by omega)⟩, ⟨hb2.size, fun q h => h.low hb2 (by omega) (by omega), fun _ => hf2 _ (by omega) (by omega), fun _ => hf2 _ (by omega) (by omega)⟩, hI2⟩
 case done =>
  rintro fs W ⟨q, hrd, hq, hEq⟩ ⟨la, lc, hI⟩ hK
  rw [hz] at hK ⊢
  have h0 := hI.b0
  have hF := hI.f
  have hW := hI.wr
  have hAll : But R w W /\ RAt W R s kb q /\ (∃ la' lc', Value.slice la fs.length lc = .slice la' fs.length lc' /\ FNode (k + 3) W (fun b => N + 6 <= b) ⟨kk, ⟨#[]⟩, ⟨#[]⟩, none, 0, 0, ⟨#[]⟩, la', fs.length, lc'⟩ (mk kk ⟨#[]⟩ ⟨#[]⟩ [] ⟨#[]⟩ fs)) /\ rdB (rdF k) (s.data.toList.drop p) = some (mk kk ⟨#[]⟩ ⟨#[]⟩ [] ⟨#[]⟩ fs, s.data.toList.drop q) := by
   refine ⟨hI.bel, hEq.r, hI.gr.node kk (by have := hI.len; omega), ?_⟩
   unfold rdB
   rw [un Hset]
   simp only
   rw [List.tail_drop, hrd]
   rfl
  clear hI hrd hEq
  obtain ⟨⟨x0, x1, x2, x3, x4, x5⟩, y0, y1, y2, y3, y4, y5⟩ := box6 hF
  dsimp only at x0 x1 x2 x3 x4 x5
  obtain ⟨x6, y6⟩ := box1 hW
  obtain ⟨⟨e0, e1, e2, e3, e4, e5⟩, r0, r1, r2, r3, r4, r5⟩ := box6 h0
  dsimp only at e0 e1 e2 e3 e4 e5
  have n1 : N ≠ w.heap.size := by omega
  have n2 : w.heap.size ≠ N := by omega
  have n3 : N + 1 ≠ w.heap.size := by omega
  have n4 : w.heap.size ≠ N + 1 := by omega
  have HH := H_ (And.intro h0 (And.intro hK hAll))
  clear h0 hF hW hK hAll hI0 hR0 hD0 hE0 Hset HI hmx
  go_wp2_with fail
  refine wp_mono (Q := fun e a1 V => match e with | .normal => a1.defers = [{ target := .collected (N + 4), args := #[] }] /\ a1.tmps.getD 4 undef = .pointer (some ⟨w.heap.size, 0, none⟩) /\ a1.tmps.getD 5 undef = .nilIface /\ V = (set6 W w.heap.size ⟨kk, ⟨#[]⟩, ⟨#[]⟩, none, 0, 0, ⟨#[]⟩, la, fs.length, lc⟩).drew | _ => False) ?_ ?_
  ·go_region
   all_goals exact ⟨rfl, rfl, rfl, rfl⟩
  rintro e ⟨tmps, defers⟩ U hq
  cases e with
  | normal =>
   obtain ⟨hdf, t4, t5, hU⟩ := hq
   dsimp only at hdf t4 t5
   subst hdf
   have HQ := H_ (And.intro t4 (And.intro t5 hU))
   clear t4 t5 hU x0 x1 x2 x3 x4 x5 y0 y1 y2 y3 y4 y5 x6 y6 e0 e1 e2 e3 e4 e5 r0 r1 r2 r3 r4 r5
   go_wp2
   obtain ⟨t4, t5, hU⟩ := un HQ
   obtain ⟨h0, hK, hAll⟩ := un HH
   have g0 := set6_blk h0 ⟨kk, ⟨#[]⟩, ⟨#[]⟩, none, 0, 0, ⟨#[]⟩, la, fs.length, lc⟩
   have hS := set6_but W w.heap.size ⟨kk, ⟨#[]⟩, ⟨#[]⟩, none, 0, 0, ⟨#[]⟩, la, fs.length, lc⟩
   have hKs := (hS.block _ (Array.getElem?_eq_some_iff.1 hK).1 (by omega)).trans hK
   generalize set6 W w.heap.size ⟨kk, ⟨#[]⟩, ⟨#[]⟩, none, 0, 0, ⟨#[]⟩, la, fs.length, lc⟩ = S at g0 hS hKs hU
   have g1 : U.heap[w.heap.size]? = some (.cells (Fd.cs ⟨kk, ⟨#[]⟩, ⟨#[]⟩, none, 0, 0, ⟨#[]⟩, la, fs.length, lc⟩) 25 (0, 0)) := by rw [hU]; exact g0
   have g2 : U.heap[N + 4]? = some (.deferred (some [])) := by rw [hU]; exact hKs
   have hSU : But w.heap.size W U := by rw [hU]; exact hS.drew
   have hPU : But (N + 4) U (U.putObj (N + 4) (.deferred none)) := But.putObj _ _ _
   refine finBD (b := w.heap.size) (D := N + 4) (d := ⟨kk, ⟨#[]⟩, ⟨#[]⟩, none, 0, 0, ⟨#[]⟩, la, fs.length, lc⟩) (u := .nilIface) g2 (by omega) g1 t4 t5 ?_
   obtain ⟨hbw, hr, ⟨la', lc', hsl, hN⟩, hrd⟩ := hAll
   cases hsl
   rw [hrd]
   exact ⟨(hbw.late hSU (Nat.le_refl _)).late hPU (by omega), _, rfl, ((hN.of fun b hb hl => hSU.block b hl (by omega)).of fun b hb hl => hPU.block b hl (by omega)).imp fun b hb _ => by omega, q, (hr.but hSU (by omega)).but hPU (by omega), hq, rfl⟩
  | _ => exact hq.elim
 case stop =>
  rintro c fs W hno ⟨rfl, hI⟩ hK
  rw [hz] at hK ⊢
  obtain ⟨h0, ⟨⟨dk, da, dv, dsa, dsn, dsc, df, dla, dln, dlc⟩, hF⟩, ⟨T, x, hW, hErr⟩, hbel⟩ := hI
  have hAll : But R w W /\ IsErr A (.iface T x) /\ (rdB (rdF k) (s.data.toList.drop p) : Option (Fl (k + 3) × List UInt8)) = none := by
   refine ⟨hbel, hErr, ?_⟩
   unfold rdB
   rw [un Hset]
   simp only
   rw [List.tail_drop, hno]
   rfl
  clear hbel hErr hno
  refine wpIn_exit ?_
  obtain ⟨⟨x0, x1, x2, x3, x4, x5⟩, y0, y1, y2, y3, y4, y5⟩ := box6 hF
  dsimp only at x0 x1 x2 x3 x4 x5
  obtain ⟨x6, y6⟩ := box1 hW
  obtain ⟨⟨e0, e1, e2, e3, e4, e5⟩, r0, r1, r2, r3, r4, r5⟩ := box6 h0
  dsimp only at e0 e1 e2 e3 e4 e5
  have n1 : N ≠ w.heap.size := by omega
  have n2 : w.heap.size ≠ N := by omega
  have n3 : N + 1 ≠ w.heap.size := by omega
  have n4 : w.heap.size ≠ N + 1 := by omega
  have HH := H_ (And.intro h0 (And.intro hK hAll))
  clear h0 hF hW hK hAll hI0 hR0 hD0 hE0 Hset HI hmx
  go_wp2_with fail
  refine wp_mono (Q := fun e a1 V => match e with | .normal => a1.defers = [{ target := .collected (N + 4), args := #[] }] /\ a1.tmps.getD 4 undef = .pointer (some ⟨w.heap.size, 0, none⟩) /\ a1.tmps.getD 5 undef = .iface T x /\ V = (set6 W w.heap.size ⟨dk, da, dv, dsa, dsn, dsc, df, dla, dln, dlc⟩).drew | _ => False) ?_ ?_
  ·go_region
   all_goals exact ⟨rfl, rfl, rfl, rfl⟩
  rintro e ⟨tmps, defers⟩ U hq
  cases e with
  | normal =>
   obtain ⟨hdf, t4, t5, hU⟩ := hq
   dsimp only at hdf t4 t5
   subst hdf
   have HQ := H_ (And.intro t4 (And.intro t5 hU))
   clear t4 t5 hU x0 x1 x2 x3 x4 x5 y0 y1 y2 y3 y4 y5 x6 y6 e0 e1 e2 e3 e4 e5 r0 r1 r2 r3 r4 r5
   go_wp2
   obtain ⟨t4, t5, hU⟩ := un HQ
   obtain ⟨h0, hK, hAll⟩ := un HH
   have g0 := set6_blk h0 ⟨dk, da, dv, dsa, dsn, dsc, df, dla, dln, dlc⟩
   have hS := set6_but W w.heap.size ⟨dk, da, dv, dsa, dsn, dsc, df, dla, dln, dlc⟩
   have hKs := (hS.block _ (Array.getElem?_eq_some_iff.1 hK).1 (by omega)).trans hK
   generalize set6 W w.heap.size ⟨dk, da, dv, dsa, dsn, dsc, df, dla, dln, dlc⟩ = S at g0 hS hKs hU
   have g1 : U.heap[w.heap.size]? = some (.cells (Fd.cs ⟨dk, da, dv, dsa, dsn, dsc, df, dla, dln, dlc⟩) 25 (0, 0)) := by rw [hU]; exact g0
   have g2 : U.heap[N + 4]? = some (.deferred (some [])) := by rw [hU]; exact hKs
   have hSU : But w.heap.size W U := by rw [hU]; exact hS.drew
   have hPU : But (N + 4) U (U.putObj (N + 4) (.deferred none)) := But.putObj _ _ _
   refine finBD (b := w.heap.size) (D := N + 4) (d := ⟨dk, da, dv, dsa, dsn, dsc, df, dla, dln, dlc⟩) (u := .iface T x) g2 (by omega) g1 t4 t5 ?_
   obtain ⟨hbw, hErr, hrd⟩ := hAll
   rw [hrd]
   exact ⟨(hbw.late hSU (Nat.le_refl _)).late hPU (by omega), _, T, x, rfl, hErr⟩
  | _ => exact hq.elim
end Go.Proofs.YtjhnblgamodekaaGreatDoor.F
/-
 The reader's filter. Conditions: the package-level variables hold what the program's text lays; the pieces of the text that are read as values are not large.
-/
namespace Go.Proofs.YtjhnblgamodekaaGreatDoor.F
open Go Go.RowKit Go.Shelf Fp
open D (H_ un ext_list)
attribute [local go_sem] Oper.semAt_some
def Shrt (s : ByteArray) : Prop := s.size <= 100000000 /\ ∀ p, p < s.size -> (s.data.toList.drop p).head? = some 40 -> (s.data.toList.drop (p + 1)).head?.bind setK = none -> ∀ q c, cutB 41 (s.data.toList.drop (p + 1)) = some (q, c) -> Pc q
theorem body_any (k : Nat) (A : Ad) (w0 : World) (R kb p : Nat) (s : ByteArray) (deep : Int) (hd0 : 0 <= deep) (hd7 : deep <= 7) (w : World) (hE : Env A w0 R kb s p w) (hs : s.size <= 100000000) (hp : p <= s.size)
  (IH : ∀ p w, Env A w0 R kb s p w -> p <= s.size -> Calls Tryz.prog 45 #[.pointer (some ⟨R, 0, none⟩), .int .i64 (deep + 1)] w (RdPost (k + 1) A R kb s (rdF k (s.data.toList.drop p)) w))
  (hPc : (s.data.toList.drop p).head?.bind setK = none -> ∀ q c, cutB 41 (s.data.toList.drop p) = some (q, c) -> Pc q) :
  Calls Tryz.prog 75 #[.pointer (some ⟨R, 0, none⟩), .int .i64 deep] w (RdPost (k + 2) A R kb s (rdB (rdF k) (s.data.toList.drop p)) w) := by
 cases h : (s.data.toList.drop p).head?.bind setK with
 | some kk => exact body_set k A w0 R kb p s deep hd0 hd7 w hE hs hp IH kk h
 | none =>
  have := body_leaf (k + 2) A w0 R kb p s deep w hE hs hp h (hPc h)
  rw [show (rdCon (s.data.toList.drop p) : Option (Fl (k + 3) × List UInt8)) = rdB (rdF k) (s.data.toList.drop p) from by unfold rdCon rdB; rw [h]; rfl] at this
  exact this
abbrev boxF (w : World) (p : Nat) : World := ((w.alloc zfd.obj).alloc (.cells #[.nilIface] 42)).alloc (.cells #[.int .i64 (p : Int)] 3)
structure BoxF (w : World) (p : Nat) (d : Fd) (er : Value) (V : World) : Prop where
 b0 : V.heap[w.heap.size]? = some (.cells d.cs 25 (0, 0))
 b1 : V.heap[w.heap.size + 1]? = some (.cells #[er] 42 (0, 0))
 b2 : V.heap[w.heap.size + 1 + 1]? = some (.cells #[.int .i64 (p : Int)] 3 (0, 0))
theorem BoxF.first (w : World) (p : Nat) : BoxF w p zfd .nilIface (boxF w p) /\ Below w.heap.size w (boxF w p) /\ (boxF w p).heap.size = w.heap.size + 3 := by
 have h : (boxF w p).heap = ((w.heap.push zfd.obj).push (.cells #[.nilIface] 42)).push (.cells #[.int .i64 (p : Int)] 3) := rfl
 refine ⟨⟨?_, ?_, ?_⟩, (((Below.refl _ _).alloc (Nat.le_refl _) _).alloc (by simp) _).alloc (by simp; omega) _, by simp⟩
 ·rw [Below.heap_alloc _ _ _ (by simp; omega), Below.heap_alloc _ _ _ (by simp)]; exact World.alloc_heap_new w _
 ·rw [h]; simp [Array.getElem_push]
 ·rw [h]; simp [Array.getElem_push]
theorem BoxF.but {w : World} {p b : Nat} {d : Fd} {er : Value} {V V' : World} (h : BoxF w p d er V) (hb : But b V V') (hl : b < w.heap.size \/ w.heap.size + 2 < b) : BoxF w p d er V' :=
 ⟨(hb.block _ (Array.getElem?_eq_some_iff.1 h.b0).1 (by omega)).trans h.b0, (hb.block _ (Array.getElem?_eq_some_iff.1 h.b1).1 (by omega)).trans h.b1, (hb.block _ (Array.getElem?_eq_some_iff.1 h.b2).1 (by omega)).trans h.b2⟩
theorem BoxF.drew {w : World} {p : Nat} {d : Fd} {er : Value} {V : World} (h : BoxF w p d er V) : BoxF w p d er V.drew := ⟨h.b0, h.b1, h.b2⟩
theorem Only2.low {n : Nat} {V V' : World} (h : Only2 n V V') (hn : n <= V.heap.size) : Below n V V' := ⟨h.os, h.tape, h.output, h.size, fun k hk => h.block k (by omega) (by omega) (by omega)⟩
theorem Only2.drew {n : Nat} {V V' : World} (h : Only2 n V V') : Only2 n V V'.drew := ⟨h.os, h.tape, h.output, h.size, h.block⟩
theorem BoxF.put {w : World} {p : Nat} {d : Fd} {er : Value} {V : World} (h : BoxF w p d er V) (d' : Fd) (er' : Value) :
  BoxF w p d' er' ((set6 V w.heap.size d').setCell ⟨w.heap.size + 1, 0, none⟩ er') /\ Only2 w.heap.size V ((set6 V w.heap.size d').setCell ⟨w.heap.size + 1, 0, none⟩ er') := by
 have hb := set6_but V w.heap.size d'
 have g0 := set6_blk h.b0 d'
 have g1 := (hb.block _ (Array.getElem?_eq_some_iff.1 h.b1).1 (by omega)).trans h.b1
 have g2 := (hb.block _ (Array.getElem?_eq_some_iff.1 h.b2).1 (by omega)).trans h.b2
 refine ⟨⟨(Below.heap_setCell _ _ _ _ (by show w.heap.size ≠ w.heap.size + 1; omega)).trans g0, heap_set _ _ 0 _ _ _ g1, (Below.heap_setCell _ _ _ _ (by show w.heap.size + 1 + 1 ≠ w.heap.size + 1; omega)).trans g2⟩, ?_⟩
 exact ((Only2.of_below (Below.refl _ V)).but0 hb).but1 ((But.refl _ _).setCell _ _)
theorem BoxF.err {w : World} {p : Nat} {d : Fd} {er : Value} {V : World} (h : BoxF w p d er V) (er' : Value) : BoxF w p d er' (V.setCell ⟨w.heap.size + 1, 0, none⟩ er') /\ Only2 w.heap.size V (V.setCell ⟨w.heap.size + 1, 0, none⟩ er') :=
 ⟨⟨(Below.heap_setCell _ _ _ _ (by show w.heap.size ≠ w.heap.size + 1; omega)).trans h.b0, heap_set _ _ 0 _ _ _ h.b1, (Below.heap_setCell _ _ _ _ (by show w.heap.size + 1 + 1 ≠ w.heap.size + 1; omega)).trans h.b2⟩, (Only2.of_below (Below.refl _ V)).but1 ((But.refl _ _).setCell _ _)⟩
theorem But.late2 {R : Nat} {w A B : World} (h : But R w A) (k : Only2 w.heap.size A B) : But R w B :=
 ⟨k.os.trans h.os, k.tape.trans h.tape, k.output.trans h.output, Nat.le_trans h.size k.size, fun i hi hn => (k.block i (Nat.lt_of_lt_of_le hi h.size) (by omega) (by omega)).trans (h.block i hi hn)⟩
theorem door_any {A : Ad} {n : Nat} {d : Fd} {ok : Bool} {tmps : Array Value} {V : World} {Q : Ending -> World -> Prop} (t4 : tmps.getD 4 undef = .pointer (some ⟨n, 0, none⟩)) (t5 : tmps.getD 5 undef = .pointer (some ⟨n + 1, 0, none⟩))
  (hC : CallsD Tryz.prog 73 #[.pointer (some ⟨n + 1, 0, none⟩), .pointer (some ⟨n, 0, none⟩), .pointer (some ⟨n + 1 + 1, 0, none⟩)] .returning V fun e u' w' => u' = .returning /\ e = .returned (.tuple #[]) /\ DefPost A n d ok V w')
  (hp : ∀ w' d' er, DefPost A n d ok V w' -> (if ok = true then d' = d /\ er = .nilIface else ∃ T x, er = .iface T x /\ IsErr A (.iface T x)) -> Q (.returned (.tuple #[d'.val, er])) w') :
  bodyPostD Tryz.prog Tryz.f45 Q Exit.ret { tmps, defers := [{ target := .fn (.func 73) #[.pointer (some ⟨n + 1, 0, none⟩), .pointer (some ⟨n, 0, none⟩), .pointer (some ⟨n + 1 + 1, 0, none⟩)], args := #[] }] } V := by
 refine leaves_cons (f := 73) (args := #[.pointer (some ⟨n + 1, 0, none⟩), .pointer (some ⟨n, 0, none⟩), .pointer (some ⟨n + 1 + 1, 0, none⟩)]) (by simp) (by simp [go_sem]) ?_
 refine hC.mono ?_
 rintro e u' w' ⟨rfl, rfl, hD⟩
 have key : ∀ d' er, w'.heap[n]? = some (.cells (Fd.cs d') 25 (0, 0)) -> w'.heap[n + 1]? = some (.cells #[er] 42 (0, 0)) -> Q (.returned (.tuple #[d'.val, er])) w' -> ∃ v, (results Tryz.f45 tmps).run Tryz.prog w' = .ok v w' /\ Q (.returned v) w' := by
  intro d' er h0 h1 hq
  refine ⟨.tuple #[d'.val, er], ?_, hq⟩
  obtain ⟨⟨c0, c1, c2, c3, c4, c5⟩, _⟩ := box6 h0
  obtain ⟨c6, _⟩ := box1 h1
  have t4' : tmps[4]?.getD undef = .pointer (some ⟨n, 0, none⟩) := by simpa using t4
  have t5' : tmps[5]?.getD undef = .pointer (some ⟨n + 1, 0, none⟩) := by simpa using t5
  simp [results, Tryz.results45, go_sem, t4', t5', c0, c1, c2, c3, c4, c5, c6]
 have hD' := hD
 obtain ⟨hO, hD⟩ := hD
 cases ok with
 | true =>
  rw [if_pos rfl] at hD
  exact key _ _ hD.1 hD.2 (hp _ _ _ hD' ⟨rfl, rfl⟩)
 | false =>
  rw [if_neg (by simp)] at hD
  obtain ⟨h0, T, x, h1, hE⟩ := hD
  exact key _ _ h0 h1 (hp _ _ _ hD' ⟨T, x, rfl, hE⟩)
theorem rd_door {m : Nat} {A : Ad} {R kb : Nat} {s : ByteArray} {w V w' : World} {d d' : Fd} {er : Value} {ok : Bool} {o : Option (Fl (m + 1) × List UInt8)} (hbw : But R w V) (hD : DefPost A w.heap.size d ok V w')
  (hio : if ok = true then d' = d /\ er = .nilIface else ∃ T x, er = .iface T x /\ IsErr A (.iface T x)) (hR : R < w.heap.size)
  (ho : match o with | some (F, r) => ok = true /\ FNode (m + 1) V (fun b => w.heap.size + 3 <= b) d F /\ ∃ q, RAt V R s kb q /\ q <= s.size /\ r = s.data.toList.drop q | none => ok = false) :
  RdPost m A R kb s o w (.returned (.tuple #[d'.val, er])) w' := by
 have hO := hD.1
 have hb : But R w w' := ⟨hO.os.trans hbw.os, hO.tape.trans hbw.tape, hO.output.trans hbw.output, Nat.le_trans hbw.size hO.size, fun i hi hn => (hO.block i (Nat.lt_of_lt_of_le hi hbw.size) (by omega) (by omega)).trans (hbw.block i hi hn)⟩
 refine ⟨hb, ?_⟩
 cases o with
 | none =>
  dsimp only at ho
  subst ho
  obtain ⟨T, x, rfl, hE⟩ := hio
  exact ⟨d', T, x, rfl, hE⟩
 | some q =>
  obtain ⟨F, r⟩ := q
  obtain ⟨rfl, hN, q, hr, hq, hd⟩ := ho
  obtain ⟨rfl, rfl⟩ := hio
  exact ⟨d', rfl, (hN.of fun b hb' hl => hO.block b hl (by omega) (by omega)).imp fun b hb' _ => by omega, q, ⟨(hO.block _ hr.lt (by omega) (by omega)).trans hr.blk⟩, hq, hd⟩
theorem filter_any (A : Ad) (w0 : World) (R kb : Nat) (s : ByteArray) (hS : Shrt s) : ∀ (k : Nat) (deep : Int), k <= 6 -> deep = 7 - k -> ∀ p w, Env A w0 R kb s p w -> p <= s.size ->
  Calls Tryz.prog 45 #[.pointer (some ⟨R, 0, none⟩), .int .i64 deep] w (RdPost (k + 1) A R kb s (rdF k (s.data.toList.drop p)) w) := by
 intro k
 induction k with
 | zero =>
  rintro deep _ rfl p w hE hp
  rw [show rdF 0 (s.data.toList.drop p) = none from rfl]
  have hRw := hE.r.lt
  have hmf : ∀ (fn : Fn) (first cap : Array Value) (w : World), (Instr.makeFunc fn first cap).run Tryz.prog w = .ok (.func fn first cap) w := fun _ _ _ _ => rfl
  obtain ⟨⟨k0, k1, k2⟩, f1⟩ := hE.r.cells
  obtain ⟨hF0, hFb, hFz⟩ := BoxF.first w p
  have hk1 : ∀ o o', ((w.alloc o).alloc o').cell? ⟨R, 1, none⟩ = some (.int .i64 (p : Int)) := fun o o' => by
   rw [World.cell?_alloc_lt _ _ _ (by rw [World.size_alloc]; show R < w.heap.size + 1; omega), World.cell?_alloc_lt _ _ _ hE.r.lt]; exact k1
  have hE0 := hE.below hFb
  have hde := hE0.glob.vde
  have HE := H_ hE0
  have hbw0 : But R w (boxF w p) := But.of_below hFb
  obtain ⟨⟨c0, c1, c2, c3, c4, c5⟩, g0, g1, g2, g3, g4, g5⟩ := box6 hF0.b0
  obtain ⟨c6, g6⟩ := box1 hF0.b1
  dsimp only at c0 c1 c2 c3 c4 c5
  have HF := H_ (And.intro hF0 hbw0)
  have HFz := H_ hFz
  clear hF0 hFb hFz k0 k1 k2 f1 hE hE0 hbw0
  go_enter_defers Tryz.func45, Tryz.ntmps45
  go_wp2_with fail
  change Code.wp _ _ _ _ (boxF w p)
  clear hk1
  generalize boxF w p = W0 at *
  refine wp_mono (Q := fun e a1 V => match e with | .normal => a1.defers = [{ target := .fn (.func 73) #[.pointer (some ⟨w.heap.size + 1, 0, none⟩), .pointer (some ⟨w.heap.size, 0, none⟩), .pointer (some ⟨w.heap.size + 1 + 1, 0, none⟩)], args := #[] }] /\ a1.tmps.getD 4 undef = .pointer (some ⟨w.heap.size, 0, none⟩) /\ a1.tmps.getD 5 undef = .pointer (some ⟨w.heap.size + 1, 0, none⟩) /\ V = ((set6 W0 w.heap.size (zfd)).setCell ⟨w.heap.size + 1, 0, none⟩ (sen A.de)).drew | _ => False) ?_ ?_
  ·go_region
   all_goals exact ⟨rfl, rfl, rfl, rfl⟩
  rintro e ⟨tmps, defers⟩ U hq
  cases e with
  | normal =>
   obtain ⟨hdf, t4, t5, hU⟩ := hq
   dsimp only at hdf t4 t5
   subst hdf
   have HQ := H_ (And.intro t4 (And.intro t5 hU))
   clear t4 t5 hU c0 c1 c2 c3 c4 c5 g0 g1 g2 g3 g4 g5 c6 g6 hde hmf
   go_wp2
   obtain ⟨t4, t5, rfl⟩ := un HQ
   obtain ⟨hF, hbw⟩ := un HF
   obtain ⟨hP, hO⟩ := hF.put (zfd) (sen A.de)
   have hbw2 : But R w ((set6 W0 w.heap.size (zfd)).setCell ⟨w.heap.size + 1, 0, none⟩ (sen A.de)).drew := (hbw.late2 hO).drew
   refine door_any t4 t5 (defer_err A w.heap.size (zfd) _ _ (p : Int) .returning _ hP.drew.b0 hP.drew.b1 hP.drew.b2 (IsErr.sen (isS_de A))) ?_
   intro w' d' er hD hio
   exact rd_door hbw2 hD hio hRw (rfl)
  | _ => exact hq.elim
 | succ k ih =>
  intro deep hk6 hdk p w hE hp
  have hd0 : 0 <= deep := by omega
  have hd6 : deep <= 6 := by omega
  have IH := H_ fun p w hE hp => ih (deep + 1) (by omega) (by omega) p w hE hp
  clear hdk ih
  have hRw := hE.r.lt
  have hkw := hE.k.lt
  have hs := hS.1
  have hg5 : 5 < w.heap.size := D.lt_cell hE.glob.vsi
  have hn5 : (5 : Nat) ≠ w.heap.size := by omega
  have hm5 : w.heap.size ≠ (5 : Nat) := by omega
  have ho5 : w.heap.size + 1 ≠ (5 : Nat) := by omega
  have hmf : ∀ (fn : Fn) (first cap : Array Value) (w : World), (Instr.makeFunc fn first cap).run Tryz.prog w = .ok (.func fn first cap) w := fun _ _ _ _ => rfl
  obtain ⟨⟨k0, k1, k2⟩, f1⟩ := hE.r.cells
  obtain ⟨hF0, hFb, hFz⟩ := BoxF.first w p
  have hk1 : ∀ o o', ((w.alloc o).alloc o').cell? ⟨R, 1, none⟩ = some (.int .i64 (p : Int)) := fun o o' => by
   rw [World.cell?_alloc_lt _ _ _ (by rw [World.size_alloc]; show R < w.heap.size + 1; omega), World.cell?_alloc_lt _ _ _ hE.r.lt]; exact k1
  have hE0 := hE.below hFb
  have hde := hE0.glob.vde
  have HE := H_ hE0
  have hbw0 : But R w (boxF w p) := But.of_below hFb
  obtain ⟨⟨c0, c1, c2, c3, c4, c5⟩, g0, g1, g2, g3, g4, g5⟩ := box6 hF0.b0
  obtain ⟨c6, g6⟩ := box1 hF0.b1
  dsimp only at c0 c1 c2 c3 c4 c5
  have HF := H_ (And.intro hF0 hbw0)
  have HFz := H_ hFz
  clear hF0 hFb hFz k0 k1 k2 f1 hE hE0 hbw0
  go_enter_defers Tryz.func45, Tryz.ntmps45
  go_wp2_with fail
  refine (take_any s R kb p 40 (boxF w p) hs hp ((un HE).r)).mono ?_
  rintro e W0 ⟨rfl, hb1, hr1⟩
  have hF1 := (un HF).1.but hb1 (.inl hRw)
  have hbw1 := (un HF).2.trans hb1
  have hE1 := (un HE).but hb1 hr1
  clear c0 c1 c2 c3 c4 c5 g0 g1 g2 g3 g4 g5 c6 g6 hde HE HF hk1
  have hsz1 : w.heap.size + 3 <= W0.heap.size := by have := hb1.size; rw [un HFz] at this; exact this
  cases hc : at1 s p 40 with
  | false =>
   have Hno : Hid (rdF (k + 1) (s.data.toList.drop p) = none) := H_ (by rw [rdF, if_neg (at1_not hc)])
   have hde := hE1.glob.vsi
   obtain ⟨⟨c0, c1, c2, c3, c4, c5⟩, g0, g1, g2, g3, g4, g5⟩ := box6 hF1.b0
   obtain ⟨c6, g6⟩ := box1 hF1.b1
   dsimp only at c0 c1 c2 c3 c4 c5
   have HF := H_ (And.intro hF1 hbw1)
   clear hF1 hbw1 hE1 hb1 hr1 hc IH
   go_wp2_with fail
   refine wp_mono (Q := fun e a1 V => match e with | .normal => a1.defers = [{ target := .fn (.func 73) #[.pointer (some ⟨w.heap.size + 1, 0, none⟩), .pointer (some ⟨w.heap.size, 0, none⟩), .pointer (some ⟨w.heap.size + 1 + 1, 0, none⟩)], args := #[] }] /\ a1.tmps.getD 4 undef = .pointer (some ⟨w.heap.size, 0, none⟩) /\ a1.tmps.getD 5 undef = .pointer (some ⟨w.heap.size + 1, 0, none⟩) /\ V = ((set6 W0 w.heap.size (zfd)).setCell ⟨w.heap.size + 1, 0, none⟩ (sen A.si)).drew | _ => False) ?_ ?_
   ·go_region
    all_goals exact ⟨rfl, rfl, rfl, rfl⟩
   rintro e ⟨tmps, defers⟩ U hq
   cases e with
   | normal =>
    obtain ⟨hdf, t4, t5, hU⟩ := hq
    dsimp only at hdf t4 t5
    subst hdf
    have HQ := H_ (And.intro t4 (And.intro t5 hU))
    clear t4 t5 hU c0 c1 c2 c3 c4 c5 g0 g1 g2 g3 g4 g5 c6 g6 hde hmf
    go_wp2
    obtain ⟨t4, t5, rfl⟩ := un HQ
    obtain ⟨hF, hbw⟩ := un HF
    obtain ⟨hP, hO⟩ := hF.put (zfd) (sen A.si)
    have hbw2 : But R w ((set6 W0 w.heap.size (zfd)).setCell ⟨w.heap.size + 1, 0, none⟩ (sen A.si)).drew := (hbw.late2 hO).drew
    refine door_any t4 t5 (defer_err A w.heap.size (zfd) _ _ (p : Int) .returning _ hP.drew.b0 hP.drew.b1 hP.drew.b2 (IsErr.sen (isS_si A))) ?_
    intro w' d' er hD hio
    exact rd_door hbw2 hD hio hRw (by rw [un Hno])
   | _ => exact hq.elim
  | true =>
   rw [hc, if_pos rfl] at hE1
   have hplt : p < s.size := by
    have := at1_head hc
    rw [List.head?_drop] at this
    have := (List.getElem?_eq_some_iff.1 this).1
    rwa [Array.length_toList] at this
   have HB := H_ (body_any k A w0 R kb (p + 1) s deep hd0 (by omega) W0 hE1 hs (by omega) (un IH) (hS.2 p hplt (at1_head hc)))
   have Hc := H_ (at1_head hc)
   have H1 := H_ (And.intro hF1 (And.intro hbw1 hE1))
   clear hF1 hbw1 hE1 hb1 hr1 hc IH
   go_wp2_with fail
   refine (un HB).mono ?_
   rintro e w2 ⟨hb2, h2⟩
   obtain ⟨hF1, hbw1, hE1⟩ := un H1
   have hF2 := hF1.but hb2 (.inl hRw)
   have hbw2 := hbw1.trans hb2
   have hE2 := hE1.glob
   have hsz2 : w.heap.size + 3 <= w2.heap.size := Nat.le_trans hsz1 hb2.size
   clear HB H1
   cases ho : rdB (rdF k) (s.data.toList.drop (p + 1)) with
   | none =>
    have Hno : Hid (rdF (k + 1) (s.data.toList.drop p) = none) := H_ (by rw [rdF, if_pos (un Hc), List.tail_drop, ho])
    rw [ho] at h2
    obtain ⟨⟨dk, da, dv, dsa, dsn, dsc, df, dla, dln, dlc⟩, T, x, rfl, hEr⟩ := h2
    obtain ⟨⟨c0, c1, c2, c3, c4, c5⟩, g0, g1, g2, g3, g4, g5⟩ := box6 hF2.b0
    obtain ⟨c6, g6⟩ := box1 hF2.b1
    dsimp only at c0 c1 c2 c3 c4 c5
    have HF2 := H_ (And.intro hF2 (And.intro hbw2 hEr))
    clear hF1 hbw1 hE1 hF2 hbw2 hE2 hEr hb2 ho Hc
    go_wp2_with fail
    obtain ⟨hF2, hbw2, hEr⟩ := un HF2
    have hFx := hF2.put ⟨dk, da, dv, dsa, dsn, dsc, df, dla, dln, dlc⟩ (.iface T x)
    change Code.wp _ _ _ _ ((set6 w2 w.heap.size ⟨dk, da, dv, dsa, dsn, dsc, df, dla, dln, dlc⟩).setCell ⟨w.heap.size + 1, 0, none⟩ (.iface T x))
    generalize (set6 w2 w.heap.size ⟨dk, da, dv, dsa, dsn, dsc, df, dla, dln, dlc⟩).setCell ⟨w.heap.size + 1, 0, none⟩ (.iface T x) = W3 at *
    have hF3 := hFx.1
    have hbw3 := hbw2.late2 hFx.2
    clear c0 c1 c2 c3 c4 c5 g0 g1 g2 g3 g4 g5 c6 g6 hFx HF2 hF2 hbw2
    obtain ⟨⟨c0, c1, c2, c3, c4, c5⟩, g0, g1, g2, g3, g4, g5⟩ := box6 hF3.b0
    obtain ⟨c6, g6⟩ := box1 hF3.b1
    dsimp only at c0 c1 c2 c3 c4 c5
    have HF := H_ (And.intro hF3 hbw3)
    have HEr := H_ hEr
    have hde := 0
    clear hF3 hbw3 hEr
    refine wp_mono (Q := fun e a1 V => match e with | .normal => a1.defers = [{ target := .fn (.func 73) #[.pointer (some ⟨w.heap.size + 1, 0, none⟩), .pointer (some ⟨w.heap.size, 0, none⟩), .pointer (some ⟨w.heap.size + 1 + 1, 0, none⟩)], args := #[] }] /\ a1.tmps.getD 4 undef = .pointer (some ⟨w.heap.size, 0, none⟩) /\ a1.tmps.getD 5 undef = .pointer (some ⟨w.heap.size + 1, 0, none⟩) /\ V = ((set6 W3 w.heap.size (⟨dk, da, dv, dsa, dsn, dsc, df, dla, dln, dlc⟩)).setCell ⟨w.heap.size + 1, 0, none⟩ (.iface T x)).drew | _ => False) ?_ ?_
    ·go_region
     all_goals exact ⟨rfl, rfl, rfl, rfl⟩
    rintro e ⟨tmps, defers⟩ U hq
    cases e with
    | normal =>
     obtain ⟨hdf, t4, t5, hU⟩ := hq
     dsimp only at hdf t4 t5
     subst hdf
     have HQ := H_ (And.intro t4 (And.intro t5 hU))
     clear t4 t5 hU c0 c1 c2 c3 c4 c5 g0 g1 g2 g3 g4 g5 c6 g6 hde hmf
     go_wp2
     obtain ⟨t4, t5, rfl⟩ := un HQ
     obtain ⟨hF, hbw⟩ := un HF
     obtain ⟨hP, hO⟩ := hF.put (⟨dk, da, dv, dsa, dsn, dsc, df, dla, dln, dlc⟩) (.iface T x)
     have hbw2 : But R w ((set6 W3 w.heap.size (⟨dk, da, dv, dsa, dsn, dsc, df, dla, dln, dlc⟩)).setCell ⟨w.heap.size + 1, 0, none⟩ (.iface T x)).drew := (hbw.late2 hO).drew
     refine door_any t4 t5 (defer_err A w.heap.size (⟨dk, da, dv, dsa, dsn, dsc, df, dla, dln, dlc⟩) _ _ (p : Int) .returning _ hP.drew.b0 hP.drew.b1 hP.drew.b2 (un HEr)) ?_
     intro w' d' er hD hio
     exact rd_door hbw2 hD hio hRw (by rw [un Hno])
    | _ => exact hq.elim
   | some Gr =>
    obtain ⟨G, r⟩ := Gr
    rw [ho] at h2
    obtain ⟨⟨dk, da, dv, dsa, dsn, dsc, df, dla, dln, dlc⟩, rfl, hN, q, hr2, hq, hrd⟩ := h2
    subst hrd
    obtain ⟨⟨c0, c1, c2, c3, c4, c5⟩, g0, g1, g2, g3, g4, g5⟩ := box6 hF2.b0
    obtain ⟨c6, g6⟩ := box1 hF2.b1
    dsimp only at c0 c1 c2 c3 c4 c5
    have HF2 := H_ (And.intro hF2 (And.intro hbw2 (And.intro (hE1.but hb2 hr2) hN)))
    have Ho := H_ ho
    have hb2z := hb2.size
    clear hF1 hbw1 hE1 hF2 hbw2 hE2 hb2 ho hN hr2
    go_wp2_with fail
    obtain ⟨hF2, hbw2, hE2, hN⟩ := un HF2
    have hFx := hF2.put ⟨dk, da, dv, dsa, dsn, dsc, df, dla, dln, dlc⟩ .nilIface
    have hE3 := hE2.low (hFx.2.low (by omega)) hRw hkw
    have hN3 := hN.of (W' := (set6 w2 w.heap.size ⟨dk, da, dv, dsa, dsn, dsc, df, dla, dln, dlc⟩).setCell ⟨w.heap.size + 1, 0, none⟩ .nilIface) fun b hb hl => hFx.2.block b hl (by omega) (by omega)
    refine (take_any s R kb q 41 ((set6 w2 w.heap.size ⟨dk, da, dv, dsa, dsn, dsc, df, dla, dln, dlc⟩).setCell ⟨w.heap.size + 1, 0, none⟩ .nilIface) hs hq hE3.r).mono ?_
    rintro e W3 ⟨rfl, hb4, hr4⟩
    have hF3 := hFx.1.but hb4 (.inl hRw)
    have hbw3 := (hbw2.late2 hFx.2).trans hb4
    have hE4 := hE3.but hb4 hr4
    have hN4 := hN3.of fun b hb hl => hb4.block b hl (by omega)
    have hz3 : W0.heap.size <= W3.heap.size := by
     have h1 := hb4.size
     have h2 := hFx.2.size
     have h3 := hb2z
     omega
    clear c0 c1 c2 c3 c4 c5 g0 g1 g2 g3 g4 g5 c6 g6 HF2 hF2 hbw2 hE2 hN hFx hE3 hN3 hb4 hr4
    obtain ⟨⟨c0, c1, c2, c3, c4, c5⟩, g0, g1, g2, g3, g4, g5⟩ := box6 hF3.b0
    obtain ⟨c6, g6⟩ := box1 hF3.b1
    dsimp only at c0 c1 c2 c3 c4 c5
    cases hc4 : at1 s q 41 with
    | true =>
     rw [hc4, if_pos rfl] at hE4
     have Hr : Hid (rdF (k + 1) (s.data.toList.drop p) = if fitF G = true then some (G, s.data.toList.drop (q + 1)) else none) := H_ (by
      rw [rdF, if_pos (un Hc), List.tail_drop, un Ho]
      show (if (s.data.toList.drop q).head? = some 41 /\ fitF G = true then some (G, (s.data.toList.drop q).tail) else none) = _
      rw [List.tail_drop]
      by_cases hf : fitF G = true
      ·rw [if_pos ⟨at1_head hc4, hf⟩, if_pos hf]
      ·rw [if_neg (fun h => hf h.2), if_neg hf])
     have hplq : q < s.size := by
      have := at1_head hc4
      rw [List.head?_drop] at this
      have := (List.getElem?_eq_some_iff.1 this).1
      rwa [Array.length_toList] at this
     have HE4 := H_ (And.intro hE4 hN4)
     have HF := H_ (And.intro hF3 hbw3)
     have hde := 0
     clear hF3 hbw3 hE4 hN4 hc4
     go_wp2_with fail
     refine wp_mono (Q := fun e a1 V => match e with | .normal => a1.defers = [{ target := .fn (.func 73) #[.pointer (some ⟨w.heap.size + 1, 0, none⟩), .pointer (some ⟨w.heap.size, 0, none⟩), .pointer (some ⟨w.heap.size + 1 + 1, 0, none⟩)], args := #[] }] /\ a1.tmps.getD 4 undef = .pointer (some ⟨w.heap.size, 0, none⟩) /\ a1.tmps.getD 5 undef = .pointer (some ⟨w.heap.size + 1, 0, none⟩) /\ V = ((set6 W3 w.heap.size (⟨dk, da, dv, dsa, dsn, dsc, df, dla, dln, dlc⟩)).setCell ⟨w.heap.size + 1, 0, none⟩ (.nilIface)).drew | _ => False) ?_ ?_
     ·go_region
      all_goals exact ⟨rfl, rfl, rfl, rfl⟩
     rintro e ⟨tmps, defers⟩ U hq
     cases e with
     | normal =>
      obtain ⟨hdf, t4, t5, hU⟩ := hq
      dsimp only at hdf t4 t5
      subst hdf
      have HQ := H_ (And.intro t4 (And.intro t5 hU))
      clear t4 t5 hU c0 c1 c2 c3 c4 c5 g0 g1 g2 g3 g4 g5 c6 g6 hde hmf
      go_wp2
      obtain ⟨t4, t5, rfl⟩ := un HQ
      obtain ⟨hF, hbw⟩ := un HF
      obtain ⟨hP, hO⟩ := hF.put (⟨dk, da, dv, dsa, dsn, dsc, df, dla, dln, dlc⟩) (.nilIface)
      have hbw2 : But R w ((set6 W3 w.heap.size (⟨dk, da, dv, dsa, dsn, dsc, df, dla, dln, dlc⟩)).setCell ⟨w.heap.size + 1, 0, none⟩ (.nilIface)).drew := (hbw.late2 hO).drew
      obtain ⟨hE4, hN4⟩ := un HE4
      have hg4 : Glob A ((set6 W3 w.heap.size (⟨dk, da, dv, dsa, dsn, dsc, df, dla, dln, dlc⟩)).setCell ⟨w.heap.size + 1, 0, none⟩ (.nilIface)).drew := (hE4.low (hO.drew.low (by omega)) hRw hkw).glob
      have hN5 := hN4.of (W' := ((set6 W3 w.heap.size (⟨dk, da, dv, dsa, dsn, dsc, df, dla, dln, dlc⟩)).setCell ⟨w.heap.size + 1, 0, none⟩ (.nilIface)).drew) fun b hb hl => hO.drew.block b hl (by omega) (by omega)
      refine door_any t4 t5 (defer_fits A w.heap.size (k + 2) G (⟨dk, da, dv, dsa, dsn, dsc, df, dla, dln, dlc⟩) _ (p : Int) .returning _ hg4 hP.drew.b0 hP.drew.b1 hP.drew.b2 hN5) ?_
      intro w' d' er hD hio
      refine rd_door hbw2 hD hio hRw ?_
      rw [un Hr]
      by_cases hf : fitF G = true
      ·rw [if_pos hf]
       exact ⟨hf, hN5.imp fun b hb _ => by omega, q + 1, ⟨(hO.drew.block _ (by omega) (by omega) (by omega)).trans hE4.r.blk⟩, by omega, rfl⟩
      ·rw [if_neg hf]
       simpa using hf
     | _ => exact hq.elim
    | false =>
     have Hno : Hid (rdF (k + 1) (s.data.toList.drop p) = none) := H_ (by
      rw [rdF, if_pos (un Hc), List.tail_drop, un Ho]
      show (if (s.data.toList.drop q).head? = some 41 /\ fitF G = true then some (G, (s.data.toList.drop q).tail) else none) = _
      rw [if_neg (fun h => at1_not hc4 h.1)])
     rw [hc4, if_neg (by simp)] at hE4
     have hde := hE4.glob.vsi
     have HF3 := H_ (And.intro hF3 hbw3)
     clear hF3 hbw3 hE4 hN4 hc4
     go_wp2_with fail
     obtain ⟨hF3, hbw3⟩ := un HF3
     have hFy := hF3.err (sen A.si)
     change Code.wp _ _ _ _ (W3.setCell ⟨w.heap.size + 1, 0, none⟩ (sen A.si))
     generalize W3.setCell ⟨w.heap.size + 1, 0, none⟩ (sen A.si) = W4 at *
     have hF4 := hFy.1
     have hbw4 := hbw3.late2 hFy.2
     clear c0 c1 c2 c3 c4 c5 g0 g1 g2 g3 g4 g5 c6 g6 hFy HF3 hF3 hbw3 hde
     obtain ⟨⟨c0, c1, c2, c3, c4, c5⟩, g0, g1, g2, g3, g4, g5⟩ := box6 hF4.b0
     obtain ⟨c6, g6⟩ := box1 hF4.b1
     dsimp only at c0 c1 c2 c3 c4 c5
     have HF := H_ (And.intro hF4 hbw4)
     have hde := 0
     clear hF4 hbw4
     refine wp_mono (Q := fun e a1 V => match e with | .normal => a1.defers = [{ target := .fn (.func 73) #[.pointer (some ⟨w.heap.size + 1, 0, none⟩), .pointer (some ⟨w.heap.size, 0, none⟩), .pointer (some ⟨w.heap.size + 1 + 1, 0, none⟩)], args := #[] }] /\ a1.tmps.getD 4 undef = .pointer (some ⟨w.heap.size, 0, none⟩) /\ a1.tmps.getD 5 undef = .pointer (some ⟨w.heap.size + 1, 0, none⟩) /\ V = ((set6 W4 w.heap.size (⟨dk, da, dv, dsa, dsn, dsc, df, dla, dln, dlc⟩)).setCell ⟨w.heap.size + 1, 0, none⟩ (sen A.si)).drew | _ => False) ?_ ?_
     ·go_region
      all_goals exact ⟨rfl, rfl, rfl, rfl⟩
     rintro e ⟨tmps, defers⟩ U hq
     cases e with
     | normal =>
      obtain ⟨hdf, t4, t5, hU⟩ := hq
      dsimp only at hdf t4 t5
      subst hdf
      have HQ := H_ (And.intro t4 (And.intro t5 hU))
      clear t4 t5 hU c0 c1 c2 c3 c4 c5 g0 g1 g2 g3 g4 g5 c6 g6 hde hmf
      go_wp2
      obtain ⟨t4, t5, rfl⟩ := un HQ
      obtain ⟨hF, hbw⟩ := un HF
      obtain ⟨hP, hO⟩ := hF.put (⟨dk, da, dv, dsa, dsn, dsc, df, dla, dln, dlc⟩) (sen A.si)
      have hbw2 : But R w ((set6 W4 w.heap.size (⟨dk, da, dv, dsa, dsn, dsc, df, dla, dln, dlc⟩)).setCell ⟨w.heap.size + 1, 0, none⟩ (sen A.si)).drew := (hbw.late2 hO).drew
      refine door_any t4 t5 (defer_err A w.heap.size (⟨dk, da, dv, dsa, dsn, dsc, df, dla, dln, dlc⟩) _ _ (p : Int) .returning _ hP.drew.b0 hP.drew.b1 hP.drew.b2 (IsErr.sen (isS_si A))) ?_
      intro w' d' er hD hio
      exact rd_door hbw2 hD hio hRw (by rw [un Hno])
     | _ => exact hq.elim
end Go.Proofs.YtjhnblgamodekaaGreatDoor.F
