/-
  What esc.reader.read answers: the value that a text tells. Conditions: the package-level variables hold what the program's text lays ('Glob').
-/
import Derived.Test.YtgapoofalnakmaaDoorERead1
import Derived.Test.YtgapoofalnakmaaDoorUDoor
namespace Go.Proofs.YtgapoofalnakmaaDoor.E
open Go Go.RowKit Go.Shelf Ec
attribute [local go_sem] Oper.semAt_some

/-- what is read of places, and up to which place. -/
def rfd (nm : Bool) {s : ByteArray} : List UInt8 → Nat → List (Pc s) → Option (List UInt8)
  | out, _, [] => some out
  | out, dn, x :: l => if x.p < dn then rfd nm out dn l else match stp nm s.size x.p (s[x.p]'x.hp) (s.data.toList.drop (x.p + 1)) with
    | none => none
    | some (t, k) => rfd nm (out ++ t) (x.p + 1 + k) l
theorem rfd_rdk (nm : Bool) (s : ByteArray) : ∀ (f p : Nat) (out : List UInt8) (dn : Nat), s.size ≤ p + f → rfd nm out dn (C.al s 1 f p) = (rdk nm s.size (dn - p) p (s.data.toList.drop p)).map (out ++ ·)
  | 0, p, out, dn, hf => by
    rw [drop_out (by omega), C.al, rfd, rdk]
    simp
  | f + 1, p, out, dn, hf => by
    by_cases h : p < s.size
    · rw [C.al, dif_pos h, rfd, drop_at h]
      by_cases hd : p < dn
      · rw [if_pos hd, rfd_rdk nm s f (p + 1) out dn (by omega)]
        obtain ⟨k, hk⟩ : ∃ k, dn - p = k + 1 := ⟨dn - p - 1, by omega⟩
        rw [hk, rdk, show dn - (p + 1) = k by omega]
      · rw [if_neg hd, show dn - p = 0 by omega, rdk_cons]
        cases hs : stp nm s.size p s[p] (s.data.toList.drop (p + 1)) with
        | none => rfl
        | some tk =>
          obtain ⟨t, k⟩ := tk
          simp only
          rw [rfd_rdk nm s f (p + 1) (out ++ t) (p + 1 + k) (by omega), show p + 1 + k - (p + 1) = k by omega, Option.map_map]
          congr 1
          funext l
          simp
    · rw [C.al, dif_neg h, drop_out h, rfd, rdk]
      simp
theorem rfd_all (nm : Bool) (s : ByteArray) : rfd nm [] 0 (all s) = rdk nm s.size 0 0 s.data.toList := by
  have := rfd_rdk nm s s.size 0 [] 0 (by omega)
  rw [List.drop_zero] at this
  have e : all s = C.al s 1 s.size 0 := rfl
  rw [e, this]
  simp
/-- so much has been read. -/
def Fd (nm : Bool) {s : ByteArray} (pre : List (Pc s)) (out : List UInt8) (dn : Nat) : Prop := out.length ≤ pre.length ∧ dn ≤ 2000 ∧ ∀ tail, rfd nm [] 0 (pre ++ tail) = rfd nm out dn tail
theorem fd_nil (nm : Bool) (s : ByteArray) : Fd nm ([] : List (Pc s)) [] 0 := ⟨Nat.le_refl _, Nat.zero_le _, fun _ => rfl⟩
theorem Fd.skip {nm : Bool} {s : ByteArray} {pre : List (Pc s)} {out : List UInt8} {dn : Nat} {x : Pc s} (h : Fd nm pre out dn) (hx : x.p < dn) : Fd nm (pre ++ [x]) out dn :=
  ⟨by have := h.1; simp; omega, h.2.1, fun tail => by rw [List.append_assoc, h.2.2, List.singleton_append, rfd, if_pos hx]⟩
theorem Fd.snoc {nm : Bool} {s : ByteArray} {pre : List (Pc s)} {out t : List UInt8} {dn k : Nat} {x : Pc s} (h : Fd nm pre out dn) (hs : s.size ≤ 1000) (hx : ¬ x.p < dn) (hst : stp nm s.size x.p (s[x.p]'x.hp) (s.data.toList.drop (x.p + 1)) = some (t, k)) : Fd nm (pre ++ [x]) (out ++ t) (x.p + 1 + k) := by
  have hl := stp_len hst
  have hp := x.hp
  refine ⟨by have := h.1; simp; omega, by omega, fun tail => ?_⟩
  rw [List.append_assoc, h.2.2, List.singleton_append, rfd, if_neg hx, hst]
theorem Fd.fail {nm : Bool} {s : ByteArray} {pre : List (Pc s)} {out : List UInt8} {dn : Nat} {x : Pc s} (h : Fd nm pre out dn) (hx : ¬ x.p < dn) (hst : stp nm s.size x.p (s[x.p]'x.hp) (s.data.toList.drop (x.p + 1)) = none) (tail : List (Pc s)) : rfd nm [] 0 (pre ++ [x] ++ tail) = none := by
  rw [List.append_assoc, h.2.2, List.singleton_append, rfd, if_neg hx, hst]

/-- what lies in memory while the bytes are gone through. -/
structure Rin (nm : Bool) (s : ByteArray) (A : Nat) (out : List UInt8) (v err : Value) (dn : Nat) (w W : World) : Prop where
  bx : W.heap[w.heap.size]? = some (rbx nm s)
  lr : Lr A (A + 5) out v W
  bl : W.heap[A + 1]? = some (.cells #[layv A] 53)
  be : W.heap[A + 2]? = some (.cells #[err] 36)
  bd : W.heap[A + 3]? = some (.cells #[.int .i64 (dn : Int)] 3)
  bel : Below w.heap.size w W
  lt : w.heap.size < A
theorem Rin.cl {nm : Bool} {s : ByteArray} {A : Nat} {out : List UInt8} {v err : Value} {dn : Nat} {w W : World} (h : Rin nm s A out v err dn w W) :
    (W.cell? ⟨w.heap.size, 0, none⟩ = some (.string s) ∧ W.cell? ⟨w.heap.size, 1, none⟩ = some (kv nm) ∧ W.cell? ⟨A + 1, 0, none⟩ = some (layv A)) ∧ W.cell? ⟨A, 0, none⟩ = some v ∧ W.cell? ⟨A + 2, 0, none⟩ = some err ∧ W.cell? ⟨A + 3, 0, none⟩ = some (.int .i64 (dn : Int)) ∧ W.frozen? ⟨A + 2, 0, none⟩ = false ∧ W.frozen? ⟨A + 3, 0, none⟩ = false := by
  have h1 := h.bx
  have h2 := h.lr.box
  have h3 := h.bl
  have h4 := h.be
  have h5 := h.bd
  simp [World.cell?, World.frozen?, h1, h2, h3, h4, h5]
theorem Rin.mv {nm : Bool} {s : ByteArray} {A : Nat} {out out' : List UInt8} {v v' err : Value} {dn : Nat} {w W W' : World} (h : Rin nm s A out v err dn w W) (hm : Mv A (A + 5) W W') (hl : Lr A (A + 5) out' v' W') : Rin nm s A out' v' err dn w W' := by
  have hlt := h.lt
  exact ⟨(hm.block _ (by omega) (by omega)).trans h.bx, hl, (hm.block _ (by omega) (by omega)).trans h.bl, (hm.block _ (by omega) (by omega)).trans h.be, (hm.block _ (by omega) (by omega)).trans h.bd, h.bel.trans ((hm.below (by omega)).mono (by omega)), hlt⟩
theorem Rin.grown {nm : Bool} {s : ByteArray} {A : Nat} {out : List UInt8} {v err : Value} {dn : Nat} {w W W' : World} {row : Option Nat} (h : Rin nm s A out v err dn w W) (hg : W.grownBy W' row) (hr : ∀ r, row = some r → A + 5 ≤ r ∧ ∃ o, W.heap[r]? = some o ∧ o.isCells = false) : Rin nm s A out v err dn w W' := by
  have hz := h.lr.le
  have hk : ∀ k, k < A + 5 → W'.heap[k]? = W.heap[k]? := fun k hk => hg.block k (by omega) (fun e => by have := (hr k e.symm).1; omega)
  have hlt := h.lt
  refine ⟨(hk _ (by omega)).trans h.bx, ⟨(hk _ (by omega)).trans h.lr.box, h.lr.own.kept hg ?_, h.lr.lt, Nat.le_trans hz hg.size⟩, (hk _ (by omega)).trans h.bl, (hk _ (by omega)).trans h.be, (hk _ (by omega)).trans h.bd, ⟨hg.os.trans h.bel.os, hg.tape.trans h.bel.tape, hg.output.trans h.bel.output, Nat.le_trans h.bel.size hg.size, fun k hk' => (hk k (by omega)).trans (h.bel.block k hk')⟩, hlt⟩
  rcases h.lr.own.2 with ⟨rfl, _⟩ | ⟨g, cap, cur, rfl, _, hgb, _⟩
  · exact .inl rfl
  · refine .inr fun e' => ?_
    obtain ⟨_, o, ho, hc⟩ := hr g (by simpa [Value.ownBlock] using e'.symm)
    rw [hgb] at ho; cases ho; cases hc
theorem Rin.below {nm : Bool} {s : ByteArray} {A : Nat} {out : List UInt8} {v err : Value} {dn : Nat} {w W W' : World} (h : Rin nm s A out v err dn w W) (hb : Below W.heap.size W W') : Rin nm s A out v err dn w W' := h.mv (Mv.of h.lr.le hb) (h.lr.below hb)
theorem Rin.setE {nm : Bool} {s : ByteArray} {A : Nat} {out : List UInt8} {v err : Value} {dn : Nat} {w W : World} (h : Rin nm s A out v err dn w W) (m : Value) : Rin nm s A out v m dn w (W.setCell ⟨A + 2, 0, none⟩ m) := by
  have o : ∀ k, k ≠ A + 2 → (W.setCell ⟨A + 2, 0, none⟩ m).heap[k]? = W.heap[k]? := fun k hk => Below.heap_setCell _ _ _ _ hk
  have hlt := h.lt
  exact ⟨(o _ (by omega)).trans h.bx, ⟨(o _ (by omega)).trans h.lr.box, ownsRow_setCell_below h.lr.own (by show A + 2 < _; omega) _, h.lr.lt, by simp; exact h.lr.le⟩, (o _ (by omega)).trans h.bl, heap_setCell_same W _ 0 _ _ _ h.be, (o _ (by omega)).trans h.bd, h.bel.setCell (by show w.heap.size ≤ A + 2; omega) _, hlt⟩
theorem Rin.setD {nm : Bool} {s : ByteArray} {A : Nat} {out : List UInt8} {v err : Value} {dn : Nat} {w W : World} (h : Rin nm s A out v err dn w W) (d : Nat) : Rin nm s A out v err d w (W.setCell ⟨A + 3, 0, none⟩ (.int .i64 (d : Int))) := by
  have o : ∀ k, k ≠ A + 3 → (W.setCell ⟨A + 3, 0, none⟩ (.int .i64 (d : Int))).heap[k]? = W.heap[k]? := fun k hk => Below.heap_setCell _ _ _ _ hk
  have hlt := h.lt
  exact ⟨(o _ (by omega)).trans h.bx, ⟨(o _ (by omega)).trans h.lr.box, ownsRow_setCell_below h.lr.own (by show A + 3 < _; omega) _, h.lr.lt, by simp; exact h.lr.le⟩, (o _ (by omega)).trans h.bl, (o _ (by omega)).trans h.be, heap_setCell_same W _ 0 _ _ _ h.bd, h.bel.setCell (by show w.heap.size ≤ A + 3; omega) _, hlt⟩
/-- what a round keeps for others. -/
def Kr (A : Nat) (W W' : World) : Prop := KeepsOthers W W' ∧ C.Two (A + 4) (A + 4) W W'
theorem Kr.of {A : Nat} {W W' : World} (h : Mv A (A + 5) W W') : Kr A W W' := ⟨h.keeps, h.block _ (by omega) (by omega), h.block _ (by omega) (by omega)⟩
theorem Kr.trans {A : Nat} {U V W : World} (h : Kr A U V) (k : Kr A V W) : Kr A U W := ⟨h.1.trans k.1, h.2.trans k.2⟩
theorem Kr.set {A i : Nat} (W : World) (v : Value) (hi : i < 4) : Kr A W (W.setCell ⟨A + i, 0, none⟩ v) :=
  ⟨KeepsOthers.setCell _ _ _, Below.heap_setCell _ _ _ _ (by show A + 4 ≠ A + i; omega), Below.heap_setCell _ _ _ _ (by show A + 4 ≠ A + i; omega)⟩

/-- what is read. -/
def rd (nm : Bool) (s : ByteArray) : Option (List UInt8) := if (U.bad s).isNone then rdk nm s.size 0 0 s.data.toList else none
def ReadPost (nm : Bool) (s : ByteArray) (a : Ad) (w : World) (e : Ending) (w' : World) : Prop := Below w.heap.size w w' ∧
  ((∃ t, rd nm s = some t ∧ e = .returned (.tuple #[.string ⟨t.toArray⟩, .nilIface])) ∨ (rd nm s = none ∧ ∃ v, e = .returned (.tuple #[.string ⟨#[]⟩, v]) ∧ IsErr a v))
def rinv (nm : Bool) (s : ByteArray) (A : Nat) (w : World) (pre : List (Pc s)) (W : World) : Prop := ∃ out v dn, Fd nm pre out dn ∧ Rin nm s A out v .nilIface dn w W
def rout (nm : Bool) (s : ByteArray) (A : Nat) (a : Ad) (w : World) (cd : Code) (pre : List (Pc s)) (W : World) : Prop := cd = .exit 0 ∧ ∃ l x out v dn dn' err, pre = l ++ [x] ∧ Fd nm l out dn ∧ ¬ x.p < dn ∧ stp nm s.size x.p (s[x.p]'x.hp) (s.data.toList.drop (x.p + 1)) = none ∧ IsErr a err ∧ Rin nm s A out v err dn' w W
theorem finR {w V : World} {D : Nat} {tmps : Array Value} {v u : Value} {R : Ending → World → Prop} (hV : V.heap[D]? = some (.deferred (some []))) (hD : w.heap.size ≤ D) (hb : Below w.heap.size w V) (t4 : tmps.getD 2 undef = v) (t5 : tmps.getD 3 undef = u)
    (hp : ∀ V', Below w.heap.size w V' → R (.returned (.tuple #[v, u])) V') :
    Exit.noGoto (bodyPostM Fence.wide 3 Tryd.prog Tryd.f26 R) Exit.ret { tmps, defers := [{ target := .collected D, args := #[] }] } V := by
  refine ⟨by simp, .inl ⟨_, _, rfl, run_takeDeferred hV, ?_⟩⟩
  refine ⟨.tuple #[v, u], ?_, hp _ (C.putObj_below hb hD)⟩
  subst t4
  subst t5
  simp [results, Tryd.results26, go_sem]
theorem finN {V : World} {tmps : Array Value} {v u : Value} {R : Ending → World → Prop} (t4 : tmps.getD 2 undef = v) (t5 : tmps.getD 3 undef = u) (hp : R (.returned (.tuple #[v, u])) V) :
    Exit.noGoto (bodyPostM Fence.wide 3 Tryd.prog Tryd.f26 R) Exit.ret { tmps, defers := [] } V := by
  refine ⟨.tuple #[v, u], ?_, hp⟩
  subst t4
  subst t5
  simp [results, Tryd.results26, go_sem]
theorem store_func (u W : World) (hW : W.heap.size = u.heap.size + 1) : (store ⟨u.heap.size + 1, 0, none⟩ (.func (.func 35) #[] #[.pointer (some ⟨u.heap.size, 0, none⟩)])).run Tryd.prog (W.alloc (.cells #[.nilFunc] 53)) = .ok () (W.alloc (.cells #[layv u.heap.size] 53)) := by
  rw [run_store Tryd.prog _ _ _ _ (by rfl), ← hW]
  simp
  rw [World.setCell_alloc_at _ _ _ _ _ rfl]
  simp
set_option linter.unusedSimpArgs false in
set_option maxRecDepth 100000 in
set_option maxHeartbeats 4000000 in
theorem read_any (nm : Bool) (s : ByteArray) (a : Ad) (w : World) (g : Glob a w) (hs : s.size ≤ 1000) :
    Calls Tryd.prog 26 #[rdv nm s] w (ReadPost nm s a w) := by
  refine (callsIn_wide (n := 3)).1 ?_
  refine callsIn_of_wp_marks Tryd.func26 rfl trivial ?_ rfl
  simp only [Tryd.ntmps26, List.size_toArray, List.length_cons, List.length_nil, Nat.reduceAdd, Nat.reduceSub, Array.replicate_succ, Array.replicate_zero, List.push_toArray, List.append_toArray, List.nil_append, List.cons_append]
  refine wpIn_wide.2 ?_
  have hmx : Tryd.prog.follows .mixedOrders = true := by kernel_rfl
  have gb := g.alloc (rbx nm s)
  have HBad := hide (U.bad_any s a.ut a.us _ gb.gu hs)
  have Hg := hide g
  have HB0 := hide ((Below.refl w.heap.size w).alloc (Nat.le_refl _) (rbx nm s))
  have Hx0 : Hid ((w.alloc (rbx nm s)).heap[w.heap.size]? = some (rbx nm s)) := hide (World.alloc_heap_new _ _)
  clear gb
  cases hbd : U.bad s with
  | some p =>
    rw [hbd] at HBad
    have Hr : Hid (rd nm s = none) := hide (by unfold rd; rw [hbd]; rfl)
    have hpp : (0 : Int) ≤ p := by omega
    clear hbd g
    unfold U.pv at HBad
    go_wp2
    refine wp_scope_straight ?_
    go_wp2_with fail
    refine (unhide HBad).mono ?_
    rintro e w1 ⟨rfl, hb⟩
    have HB1 := hide ((unhide HB0).trans (hb.mono (by simp)))
    have ct := ((unhide Hg).below (Nat.le_refl _) (unhide HB1)).tx
    clear hb
    have ct' : w1.drew.cell? ⟨0, 0, none⟩ = some (.iface 151 (.pointer (some a.t))) := ct
    go_wp2
    go_quiet (fail)
    go_wp2
    exact finN rfl rfl ⟨U.below_drewN (unhide HB1) _, .inr ⟨unhide Hr, _, rfl, .inl ⟨_, rfl⟩⟩⟩
  | none =>
    rw [hbd] at HBad
    have Hr : Hid (rd nm s = rdk nm s.size 0 0 s.data.toList) := hide (by unfold rd; rw [hbd]; rfl)
    clear hbd
    unfold U.pv at HBad
    go_wp2
    refine wp_scope_straight ?_
    go_wp2_with fail
    refine (unhide HBad).mono ?_
    rintro e w1 ⟨rfl, hb⟩
    have HB1 := hide ((unhide HB0).trans (hb.mono (by simp)))
    have Hx1 := hide ((hb.block _ (by simp)).trans (unhide Hx0))
    clear hb HB0 Hx0 HBad
    have c0 : w1.cell? ⟨w.heap.size, 0, none⟩ = some (.string s) := by have := unhide Hx1; simp [World.cell?, this]
    have hlt : w.heap.size < w1.heap.size := (Array.getElem?_eq_some_iff.1 (unhide Hx1)).1
    have c1 : ((((w1.alloc (.cells #[.slice none 0 0] 44)).alloc (.cells #[layv w1.heap.size] 53)).alloc (.cells #[.nilIface] 36)).alloc (.cells #[.int .i64 0] 3)).cell? ⟨w.heap.size, 0, none⟩ = some (.string s) := by
      rw [World.cell?_alloc_lt _ _ _ (by simp; omega), World.cell?_alloc_lt _ _ _ (by simp; omega), World.cell?_alloc_lt _ _ _ (by simp; omega), World.cell?_alloc_lt _ _ _ hlt]; exact c0
    have hst := store_func w1 (w1.alloc (.cells #[.slice none 0 0] 44)) (by simp)
    go_wp2
    refine wp_label ?_
    go_wp2_with fail
    refine (bytes_any s _).mono ?_
    rintro e w' ⟨rfl, rfl⟩
    go_wp2
    obtain ⟨A, hA⟩ : ∃ A, w1.heap.size = A := ⟨_, rfl⟩
    obtain ⟨W0, hW0⟩ : ∃ W0, W0 = ((((w1.alloc (.cells #[.slice none 0 0] 44)).alloc (.cells #[layv w1.heap.size] 53)).alloc (.cells #[.nilIface] 36)).alloc (.cells #[.int .i64 0] 3)).alloc (.cells #[.string s] 39) := ⟨_, rfl⟩
    have hz : W0.heap.size = A + 5 := by rw [hW0, ← hA]; simp
    have n1 : (w1.alloc (.cells #[.slice none 0 0] 44)).heap.size = A + 1 := by simp [hA]
    have n2 : ((w1.alloc (.cells #[.slice none 0 0] 44)).alloc (.cells #[layv w1.heap.size] 53)).heap.size = A + 2 := by simp [hA]
    have n3 : (((w1.alloc (.cells #[.slice none 0 0] 44)).alloc (.cells #[layv w1.heap.size] 53)).alloc (.cells #[.nilIface] 36)).heap.size = A + 3 := by simp [hA]
    have n4 : ((((w1.alloc (.cells #[.slice none 0 0] 44)).alloc (.cells #[layv w1.heap.size] 53)).alloc (.cells #[.nilIface] 36)).alloc (.cells #[.int .i64 0] 3)).heap.size = A + 4 := by simp [hA]
    have hSt : Rin nm s A [] (.slice none 0 0) .nilIface 0 w W0 := by
      refine ⟨?_, ⟨?_, World.ownsRow_nil _ _ _ _, by omega, by omega⟩, ?_, ?_, ?_, ?_, by omega⟩
      · rw [hW0, Below.heap_alloc _ _ _ (by omega), Below.heap_alloc _ _ _ (by omega), Below.heap_alloc _ _ _ (by omega), Below.heap_alloc _ _ _ (by omega), Below.heap_alloc _ _ _ (by omega)]; exact unhide Hx1
      · rw [hW0, Below.heap_alloc _ _ _ (by omega), Below.heap_alloc _ _ _ (by omega), Below.heap_alloc _ _ _ (by omega), Below.heap_alloc _ _ _ (by omega), ← hA]; exact World.alloc_heap_new _ _
      · rw [hW0, Below.heap_alloc _ _ _ (by omega), Below.heap_alloc _ _ _ (by omega), Below.heap_alloc _ _ _ (by omega), ← n1, ← hA]; exact World.alloc_heap_new _ _
      · rw [hW0, Below.heap_alloc _ _ _ (by omega), Below.heap_alloc _ _ _ (by omega), ← n2]; exact World.alloc_heap_new _ _
      · rw [hW0, Below.heap_alloc _ _ _ (by omega), ← n3]; exact World.alloc_heap_new _ _
      · rw [hW0]
        repeat (refine Below.alloc ?_ (by omega) _)
        exact unhide HB1
    have hBs : W0.cell? ⟨A + 4, 0, none⟩ = some (.string s) := by
      rw [hW0, World.cell?_alloc_at _ _ _ _ (by rw [n4])]
      rfl
    rw [← hW0]
    clear hW0 c1 hst n1 n2 n3 n4 c0 Hx1
    rw [hA] at hlt ⊢
    clear HB1 hA
    refine (wpIn_wide (n := 3)).1 ?_
    refine wpIn_rangeFunc_ownF rfl (by omega) (gf := 41) (lb := #[.pointer (some ⟨A + 4, 0, none⟩)]) rfl trivial (enters_of Tryd.func41 (by kernel_rfl) rfl)
      (bytes1_stops (3 - 1) (by omega) (A + 4) s W0 hs hBs) C.Two.trans (fun W l o o' hl h1 h2 h3 => C.Two.book (w := W0) (by omega) (by omega) W l o o' hl h1 h2 h3) (Below.refl _ _) (fun _ => rfl)
      (rinv nm s A w) (rout nm s A a w)
      (fun pre U1 U2 row hs hg hr => by
        obtain ⟨out, v, dn, h1, h⟩ := hs
        exact ⟨out, v, dn, h1, h.grown hg (fun r e => ⟨by have := (hr r e).1; omega, (hr r e).2⟩)⟩)
      (fun cd pre U1 U2 row hs hg hr => by
        obtain ⟨e1, l, x, out, v, dn, dn', err, h1, h2, h3, h4, h5, h⟩ := hs
        exact ⟨e1, l, x, out, v, dn, dn', err, h1, h2, h3, h4, h5, h.grown hg (fun r e => ⟨by have := (hr r e).1; omega, (hr r e).2⟩)⟩)
      ⟨[], _, 0, fd_nil nm s, hSt⟩
      (fun x => { tmps := #[rdv nm s, .pointer (some ⟨w.heap.size, 0, none⟩), .string ⟨#[]⟩, .nilIface, .int .i64 (-1), .pointer (some ⟨A, 0, none⟩), .pointer (some ⟨A + 1, 0, none⟩), .pointer (some ⟨A + 2, 0, none⟩), .pointer (some ⟨A + 3, 0, none⟩), .int .i64 x.p, .int .u8 ((s[x.p]'x.hp).toNat : Int), .pointer (some ⟨w.heap.size, 0, none⟩), .pointer (some ⟨w.heap.size, 0, none⟩), .string s, .int .i64 (-1), .int .i64 (-1), .bool false, undef, undef, undef, undef, layv A, .pointer (some ⟨w.heap.size, 0, none⟩), .agg #[.string s], .func (.func 41) #[] #[.pointer (some ⟨A + 4, 0, none⟩)], .int .i64 x.p, .int .u8 ((s[x.p]'x.hp).toNat : Int), undef, undef, undef, undef, undef, undef, undef, undef, undef, undef, undef, undef, undef, undef, undef, undef, undef, undef], defers := [] }) ?assign ?body ?done ?stop
    case assign =>
      intro l x W K hK
      gi_wp2
      exact hK
    case body =>
      rintro l pre x W ⟨out, v, dn, hfd, hin⟩ hN
      go_light
      have hxp := x.hp
      obtain ⟨⟨c0, c1, c2⟩, c3, c4, c5, c6, c7⟩ := hin.cl
      by_cases hd : x.p < dn
      · have hd' : (x.p : Int) < dn := by omega
        have Hfd := hide (hfd.skip hd)
        have Hin := hide hin
        clear hfd hin hN hSt hBs hz g hd
        gi_wp2
        exact ⟨⟨Nat.le_refl _, fun _ _ h _ => h⟩, ⟨rfl, rfl⟩, _, _, _, unhide Hfd, unhide Hin⟩
      · have hd' : ¬ (x.p : Int) < dn := by omega
        have hol : out.length ≤ 1000 := by have := hfd.1; omega
        have H := step_any nm s x.p A (A + 5) out v a w W hin.lr hs hol hxp g (by omega) hin.bel
        cases hst : stp nm s.size x.p (s[x.p]'x.hp) (s.data.toList.drop (x.p + 1)) with
        | none =>
          rw [hst] at H
          have H' := hide (H.mono (R' := fun e w' => ∃ xv, e = .returned (.tuple #[.int .i64 0, .iface 52 xv]) ∧ IsErr a (.iface 52 xv) ∧ (∃ v', Lr A (A + 5) out v' w') ∧ Mv A (A + 5) W w') (fun e w' hp => by
            obtain ⟨hm, xv, h1, h2, h3⟩ := hp
            exact ⟨xv, h1, h2, h3, hm⟩))
          have Hin := hide hin
          have Hst := hide hst
          have Hfd := hide hfd
          have Hd := hide hd
          clear H hin hst hfd hN hSt hBs hz g hd
          generalize ((s[x.p]'x.hp).toNat : Int) = yb at *
          gi_wp2_with fail
          refine ⟨trivial, (inR (unhide H')).mono ?_⟩
          rintro e w' ⟨xv, rfl, herr, ⟨v', hl⟩, hm⟩
          have hi1 := (unhide Hin).mv hm hl
          have hi2 := hi1.setD 0
          have hi3 := hi2.setE (.iface 52 xv)
          obtain ⟨-, -, d0, d1, d2, d3⟩ := hi1.cl
          have Hi3 := hide hi3
          have He := hide herr
          have HK := hide (((Kr.of hm).trans (Kr.set (i := 3) w' (.int .i64 ((0 : Nat) : Int)) (by omega))).trans (Kr.set (i := 2) _ (.iface 52 xv) (by omega)))
          clear hi1 hi2 hi3 herr hm hl c0 c1 c2 c3 c4 c5 c6 c7 H'
          gi_wp2
          exact ⟨(unhide HK).1, rfl, pre, x, out, v', dn, 0, _, rfl, unhide Hfd, unhide Hd, unhide Hst, unhide He, unhide Hi3⟩
        | some tk =>
          obtain ⟨t, k⟩ := tk
          rw [hst] at H
          have H' := hide (H.mono (R' := fun e w' => e = .returned (.tuple #[.int .i64 ((x.p + 1 + k : Nat) : Int), .nilIface]) ∧ (∃ v', Lr A (A + 5) (out ++ t) v' w') ∧ Mv A (A + 5) W w') (fun e w' hp => by
            obtain ⟨hm, h1, h3⟩ := hp
            exact ⟨h1, h3, hm⟩))
          have Hin := hide hin
          have Hfd := hide (hfd.snoc hs hd hst)
          clear H hin hst hfd hN hSt hBs hz g hd
          generalize ((s[x.p]'x.hp).toNat : Int) = yb at *
          generalize x.p + 1 + k = nd at *
          gi_wp2_with fail
          refine ⟨trivial, (inR (unhide H')).mono ?_⟩
          rintro e w' ⟨rfl, ⟨v', hl⟩, hm⟩
          have hi1 := (unhide Hin).mv hm hl
          have hi2 := hi1.setD nd
          have hi3 := hi2.setE .nilIface
          obtain ⟨-, -, d0, d1, d2, d3⟩ := hi1.cl
          have Hi3 := hide hi3
          have HK := hide (((Kr.of hm).trans (Kr.set (i := 3) w' (.int .i64 (nd : Int)) (by omega))).trans (Kr.set (i := 2) _ .nilIface (by omega)))
          clear hi1 hi2 hi3 hm hl c0 c1 c2 c3 c4 c5 c6 c7 H'
          gi_wp2
          exact ⟨(unhide HK).1, (unhide HK).2, _, _, _, unhide Hfd, unhide Hi3⟩
    case done =>
      rintro D ys W hD rfl ⟨out, v, dn, hfd, hin⟩ hK
      obtain ⟨⟨c0, c1, c2⟩, c3, c4, c5, c6, c7⟩ := hin.cl
      have hcv := C.conv_row hin.lr.own rfl
      have HK := hide hK
      have Hin := hide hin
      have Hrr : Hid (rd nm s = some out) := by
        have := hfd.2.2 []
        rw [List.append_nil, rfd_all, ← unhide Hr] at this
        show _ = _
        rw [this]
        rfl
      clear hK hin hfd hSt hBs g
      go_wp2
      refine finR (v := .string ⟨out.toArray⟩) (u := .nilIface) (unhide HK) (by omega) (unhide Hin).bel rfl rfl fun V' hb => ⟨hb, .inl ⟨out, unhide Hrr, rfl⟩⟩
    case stop =>
      rintro D cd pre W hD hpre ⟨rfl, l, x, out, v, dn, dn', err, rfl, hfd, hx, hst, he, hin⟩ hK
      obtain ⟨xv, rfl⟩ := he.form
      refine wpIn_exit ?_
      obtain ⟨⟨c0, c1, c2⟩, c3, c4, c5, c6, c7⟩ := hin.cl
      have Hrr : Hid (rd nm s = none) := by
        obtain ⟨t, ht⟩ := hpre
        show _ = _
        rw [unhide Hr, ← rfd_all, ← ht]
        exact hfd.fail hx hst t
      have HK := hide hK
      have Hin := hide hin
      have He := hide he
      clear hK hin hfd hx hst hpre hSt hBs he g
      go_wp2
      refine C.region_tail_n 2 hmx (by kernel_rfl) ?_
      simp only [List.take_succ_cons, List.take_zero, List.drop_succ_cons, List.drop_zero]
      refine C.wst_do (by kernel_rfl) (fun K hK => ?_)
      go_simp
      refine hK.out _ ?_
      clear hK K
      refine C.wst_do (by kernel_rfl) (fun K hK => ?_)
      go_simp
      refine hK.out _ ?_
      clear hK K
      refine C.wst_nil ?_
      go_wp2
      simp only [C.only]
      go_wp2
      refine finR (v := .string ⟨#[]⟩) (u := .iface 52 xv) (unhide HK) (by omega) (unhide Hin).bel.drew rfl rfl fun V' hb => ⟨hb, .inr ⟨unhide Hrr, _, rfl, unhide He⟩⟩
end Go.Proofs.YtgapoofalnakmaaDoor.E
