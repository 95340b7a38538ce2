/-
  Several texts in one: EPrint, ERead1, ERead2, EDoor, EShown, EFacts. Each says what it proves, and its conditions.
-/
import Derived.Test.YthfcnjcpanoldaaGreatDoorEA
import Derived.Test.YthfcnjcpanoldaaGreatDoorCB
import Derived.Lib.AppendStr
import Derived.BigQuiet
import Derived.Test.YthfcnjcpanoldaaGreatDoorUA
import Derived.KernelRfl
/-
  What esc.printed answers: a value, as it stands in a filter or in a name. Conditions: none.
-/
namespace Go.Proofs.YthfcnjcpanoldaaGreatDoor.E
open Go Go.RowKit Go.Shelf Ec
attribute [local go_sem] Oper.semAt_some

theorem i64w (n : Int) (h0 : 0 ≤ n) (h : n < 1000000000000) : IntKind.i64.wrap n = n := by
  obtain ⟨m, rfl⟩ := Int.eq_ofNat_of_zero_le h0
  exact C.wrap_i64 m (by omega)
theorem pc_one {s : ByteArray} {p : Nat} (hp : p < s.size) : pc s p 1 = ⟨#[s[p]]⟩ := by
  unfold pc
  rw [Nat.min_eq_left (by omega)]
  apply ByteArray.ext
  apply Array.ext'
  rw [ByteArray.data_extract, Array.toList_extract, List.extract_eq_take_drop, Nat.add_sub_cancel_left]
  have hl : p < s.data.toList.length := by simpa using hp
  rw [List.drop_eq_getElem_cons hl]
  simp
  rfl
/-- one byte of a text, and its digits. -/
theorem piece_one (s : ByteArray) (p : Nat) (w : World) (hs : s.size ≤ 1000) (hp : p < s.size) :
    Calls Tryz.prog 64 #[.agg #[.string s], .int .i64 p, .int .i64 ((p : Int) + 1)] w fun e w' => e = .returned (.string ⟨#[s[p]]⟩) ∧ Below w.heap.size w w' := by
  have := piece_any s p 1 w hs (by omega) (by omega)
  rw [pc_one hp] at this
  exact this
theorem hex_one (y : UInt8) (w : World) :
    Calls Tryz.prog 28 #[.string ⟨#[y]⟩] w fun e w' => e = .returned (.string ⟨(hx y).toArray⟩) ∧ Below w.heap.size w w' := by
  have := C.hex_any ⟨#[y]⟩ w (by show 1 ≤ 2000; decide)
  rw [show C.pri Cd.kH ⟨#[y]⟩ = ⟨(hx y).toArray⟩ by unfold C.pri; rw [show (⟨#[y]⟩ : ByteArray).data.toList = [y] from rfl, enc_hx]] at this
  exact this
/-- append of a string's bytes, at the operation. -/
theorem wp_append_str {P : Program} {w : World} {o : Oper} {a : Act} {K : Act → World → Prop} {Q : Exit → Act → World → Prop} (sl x : Operand) (t u : TypeId)
    (ho : o.op = .call { callee := .builtin .append, args := #[sl, x], argTypes := #[t, u] })
    (base : Nat) (e : TypeId) (i : TypeInfo) (ht : P.underlying t = some (.slice e)) (hu : P.underlying u = some .string) (hi : P.info? e = some i) (hz : i.zero = some (.int .u8 0)) (hsize : i.size = 1) (hby : i.bytes = 1)
    (v : Value) (n : Nat) (l : List UInt8) (hs : a.eval sl = v) (hown : w.ownsRow base e 1 v n (C.cells l)) (s : ByteArray) (hx : a.eval x = .string s)
    (h63 : n + s.size ≤ 10000000) (hbase : base ≤ w.heap.size)
    (h : ∀ v' w', w'.ownsRow base e 1 v' (n + s.size) (C.cells l ++ C.cells s.data.toList) → w.grownBy w' v.ownBlock → K (a.put o.dst v') w') : o.wp P a w K Q := by
  obtain ⟨v', w', hr, h2, h3, _⟩ := Go.Lib.run_append_own_string (P := P) w base t u o.type e i ht hu hi hz hsize hby v n (C.cells l) hown s (by unfold maxLen; omega) (by omega) hbase
  unfold Oper.wp execOp
  simp only [ho, resolve, invoke, builtin, Sem.run_bind, Sem.run_pure, Result.andThen_ok, List.map_toArray, List.map_cons, List.map_nil, hs, hx, hr]
  exact h v' w' h2 h3
/-- A region that draws its order, in a round; a condition holds behind each of its operations. -/
theorem regionIn_held {P : Program} {S : World → Prop} {Q : Exit → Act → World → Prop} {lp m id : Nat} {a : Act} {w : World} {l : List Oper} (hm : P.follows .mixedOrders = true) (hd : noDefer l = true)
    (h : wpAnyH P .any l.toArray (C.only Q) S l.toArray.size (Array.replicate l.toArray.size false) a w.drew) : (Code.region id l.toArray true).wpIn (Fence.wide.inRound lp) m P Q a w :=
  wpIn_mono (regionIn_round hm (fun i o ho c => noDefer_spec hd i o ho c) (by rintro ⟨a, w, h⟩; exact h) (wpAny_of_held _ _ _ _ h)) (fun e a w h => by cases e <;> first | exact h | exact h.elim)

/-- what is printed of places. -/
def prp (nm : Bool) {s : ByteArray} (l : List (Pc s)) : List UInt8 := l.flatMap fun x => pb nm s.size x.p (s[x.p]'x.hp)
theorem prp_snoc (nm : Bool) {s : ByteArray} (l : List (Pc s)) (x : Pc s) : prp nm (l ++ [x]) = prp nm l ++ pb nm s.size x.p (s[x.p]'x.hp) := by simp [prp]
theorem prp_len (nm : Bool) {s : ByteArray} (l : List (Pc s)) : (prp nm l).length ≤ 3 * l.length := by
  induction l with
  | nil => exact Nat.le_refl _
  | cons x l ih =>
    have e : prp nm (x :: l) = pb nm s.size x.p (s[x.p]'x.hp) ++ prp nm l := rfl
    have := pb_len nm s.size x.p (s[x.p]'x.hp)
    rw [e, List.length_append, List.length_cons]
    omega

/-- what lies in memory while the bytes are gone through. -/
structure Pin (nm : Bool) (s : ByteArray) (w : World) (out : List UInt8) (v : Value) (W : World) : Prop where
  bk : W.heap[w.heap.size]? = some (.cells #[kv nm] 58)
  bv : W.heap[w.heap.size + 1]? = some (.cells #[v] 85)
  bt : W.heap[w.heap.size + 2]? = some (.cells #[.string s] 87)
  own : W.ownsRow (w.heap.size + 4) 5 1 v out.length (C.cells out)
  bel : Below w.heap.size w W
  size : w.heap.size + 4 ≤ W.heap.size
theorem Pin.grown {nm : Bool} {s : ByteArray} {w W W' : World} {out : List UInt8} {v : Value} {row : Option Nat} (h : Pin nm s w out v W) (hg : W.grownBy W' row) (hr : ∀ r, row = some r → w.heap.size + 4 ≤ r ∧ ∃ o, W.heap[r]? = some o ∧ o.isCells = false) : Pin nm s w out v W' := by
  have hz := h.size
  have hk : ∀ k, k < w.heap.size + 4 → W'.heap[k]? = W.heap[k]? := fun k hk => hg.block k (by omega) (fun e => by have := (hr k e.symm).1; omega)
  refine ⟨(hk _ (by omega)).trans h.bk, (hk _ (by omega)).trans h.bv, (hk _ (by omega)).trans h.bt, h.own.kept hg ?_, ⟨hg.os.trans h.bel.os, hg.tape.trans h.bel.tape, hg.output.trans h.bel.output, Nat.le_trans h.bel.size hg.size, fun k hk' => (hk k (by omega)).trans (h.bel.block k hk')⟩, Nat.le_trans hz hg.size⟩
  rcases h.own.2 with ⟨rfl, _⟩ | ⟨g, cap, cur, rfl, _, hgb, _⟩
  · exact .inl rfl
  · refine .inr fun e' => ?_
    obtain ⟨_, o, ho, hc⟩ := hr g (by simpa [Value.ownBlock] using e'.symm)
    rw [hgb] at ho; cases ho; cases hc
theorem Pin.below {nm : Bool} {s : ByteArray} {w W W' : World} {out : List UInt8} {v : Value} (h : Pin nm s w out v W) (hb : Below W.heap.size W W') : Pin nm s w out v W' := by
  have hz := h.size
  have hk : ∀ k, k < w.heap.size + 4 → W'.heap[k]? = W.heap[k]? := fun k hk => hb.block k (by omega)
  exact ⟨(hk _ (by omega)).trans h.bk, (hk _ (by omega)).trans h.bv, (hk _ (by omega)).trans h.bt, C.own_below h.own hb, h.bel.trans (hb.mono (by omega)), Nat.le_trans hz hb.size⟩
theorem Pin.drew {nm : Bool} {s : ByteArray} {w W : World} {out : List UInt8} {v : Value} (h : Pin nm s w out v W) : Pin nm s w out v W.drew := h.below (Below.refl _ _).drew
theorem Pin.cl {nm : Bool} {s : ByteArray} {w W : World} {out : List UInt8} {v : Value} (h : Pin nm s w out v W) : W.cell? ⟨w.heap.size, 0, none⟩ = some (kv nm) ∧ W.cell? ⟨w.heap.size + 1, 0, none⟩ = some v ∧ W.cell? ⟨w.heap.size + 2, 0, none⟩ = some (.string s) ∧ W.frozen? ⟨w.heap.size + 1, 0, none⟩ = false := by
  have h1 := h.bk
  have h2 := h.bv
  have h3 := h.bt
  simp [World.cell?, World.frozen?, h1, h2, h3]
/-- the bytes grow. -/
theorem Pin.put {nm : Bool} {s : ByteArray} {w W W' : World} {out more : List UInt8} {v v' : Value} (h : Pin nm s w out v W) (hb : C.Bel (w.heap.size + 4) W W') (ho : W'.ownsRow (w.heap.size + 4) 5 1 v' (out.length + more.length) (C.cells out ++ C.cells more)) :
    Pin nm s w (out ++ more) v' (W'.setCell ⟨w.heap.size + 1, 0, none⟩ v') := by
  have hz := h.size
  have hk : ∀ k, k < w.heap.size + 4 → W'.heap[k]? = W.heap[k]? := fun k hk => hb.1.block k hk
  have o : ∀ k, k ≠ w.heap.size + 1 → (W'.setCell ⟨w.heap.size + 1, 0, none⟩ v').heap[k]? = W'.heap[k]? := fun k hk => Below.heap_setCell _ _ _ _ hk
  refine ⟨(o _ (by omega)).trans ((hk _ (by omega)).trans h.bk), heap_setCell_same W' _ 0 _ _ _ ((hk _ (by omega)).trans h.bv), (o _ (by omega)).trans ((hk _ (by omega)).trans h.bt), ?_, (h.bel.trans (hb.1.mono (by omega))).setCell (by show w.heap.size ≤ w.heap.size + 1; omega) _, by simp; have := hb.1.size; omega⟩
  rw [List.length_append, C.cells_append]
  exact ownsRow_setCell_below ho (by show w.heap.size + 1 < w.heap.size + 4; omega) _
/-- what a round keeps for others. -/
def Kp (w W W' : World) : Prop := KeepsOthers W W' ∧ C.Two (w.heap.size + 3) (w.heap.size + 3) W W'
theorem Kp.trans {w A B D : World} (h : Kp w A B) (k : Kp w B D) : Kp w A D := ⟨h.1.trans k.1, h.2.trans k.2⟩
theorem Kp.below {w W W' : World} (hz : w.heap.size + 4 ≤ W.heap.size) (h : Below W.heap.size W W') : Kp w W W' := ⟨C.keepsO h, h.block _ (by omega), h.block _ (by omega)⟩
theorem Kp.bel {w W W' : World} (h : C.Bel (w.heap.size + 4) W W') (v : Value) : Kp w W (W'.setCell ⟨w.heap.size + 1, 0, none⟩ v) :=
  ⟨h.2.trans (KeepsOthers.setCell _ _ _), (Below.heap_setCell _ _ _ _ (by show w.heap.size + 3 ≠ w.heap.size + 1; omega)).trans (h.1.block _ (by omega)), (Below.heap_setCell _ _ _ _ (by show w.heap.size + 3 ≠ w.heap.size + 1; omega)).trans (h.1.block _ (by omega))⟩
/-- one append of what was just laid. -/
theorem Pin.app {nm : Bool} {s : ByteArray} {w W W' : World} {out more : List UInt8} {v v' : Value} {o : Obj} (h : Pin nm s w out v W) (hg : (W.alloc o).grownBy W' v.ownBlock) (ho : W'.ownsRow (w.heap.size + 4) 5 1 v' (out.length + more.length) (C.cells out ++ C.cells more)) :
    Pin nm s w (out ++ more) v' (W'.setCell ⟨w.heap.size + 1, 0, none⟩ v') ∧ Kp w W (W'.setCell ⟨w.heap.size + 1, 0, none⟩ v') ∧ W'.cell? ⟨w.heap.size + 1, 0, none⟩ = some v ∧ W'.frozen? ⟨w.heap.size + 1, 0, none⟩ = false := by
  have hb := C.add_below2 (C.bel_refl _ W) h.own hg h.size
  obtain ⟨_, c1, _, f1⟩ := h.cl
  exact ⟨h.put hb ho, Kp.bel hb v', (hb.1.cell (p := ⟨w.heap.size + 1, 0, none⟩) (by show w.heap.size + 1 < w.heap.size + 4; omega)).trans c1, (C.bel_frozen hb.1 (a := ⟨w.heap.size + 1, 0, none⟩) (by show w.heap.size + 1 < w.heap.size + 4; omega)).trans f1⟩
/-- the same, behind a call or a draw, of a string's bytes. -/
theorem Pin.appS {nm : Bool} {s : ByteArray} {w W W' : World} {out more : List UInt8} {v v' : Value} (h : Pin nm s w out v W) (hg : W.grownBy W' v.ownBlock) (ho : W'.ownsRow (w.heap.size + 4) 5 1 v' (out.length + more.length) (C.cells out ++ C.cells more)) :
    Pin nm s w (out ++ more) v' (W'.setCell ⟨w.heap.size + 1, 0, none⟩ v') ∧ Kp w W (W'.setCell ⟨w.heap.size + 1, 0, none⟩ v') ∧ W'.cell? ⟨w.heap.size + 1, 0, none⟩ = some v ∧ W'.frozen? ⟨w.heap.size + 1, 0, none⟩ = false := by
  have hz := h.size
  have hb : C.Bel (w.heap.size + 4) W W' := by
    refine ⟨⟨hg.os, hg.tape, hg.output, hg.size, fun k hk => hg.block k (by omega) (fun e => by have := (h.own.lt k e.symm).1; omega)⟩, ⟨hg.size, fun k o hk hc => ?_⟩⟩
    refine (hg.block k (Array.getElem?_eq_some_iff.1 hk).1 (fun e => ?_)).trans hk
    rcases h.own.2 with ⟨rfl, _⟩ | ⟨g, cap, cur, rfl, _, hgb, _⟩
    · cases e
    · cases e
      rw [hk] at hgb
      cases hgb
      cases hc
  obtain ⟨_, c1, _, f1⟩ := h.cl
  exact ⟨h.put hb ho, Kp.bel hb v', (hb.1.cell (p := ⟨w.heap.size + 1, 0, none⟩) (by show w.heap.size + 1 < w.heap.size + 4; omega)).trans c1, (C.bel_frozen hb.1 (a := ⟨w.heap.size + 1, 0, none⟩) (by show w.heap.size + 1 < w.heap.size + 4; omega)).trans f1⟩

def PPost (nm : Bool) (s : ByteArray) (w : World) (e : Ending) (w' : World) : Prop := e = .returned (.string ⟨(prp nm (all s)).toArray⟩) ∧ Below w.heap.size w w'
theorem finP {w V : World} {D : Nat} {tmps : Array Value} {v : Value} {R : Ending → World → Prop} (hV : V.heap[D]? = some (.deferred (some []))) (hD : w.heap.size ≤ D) (hb : Below w.heap.size w V) (t4 : tmps.getD 4 undef = v)
    (hp : ∀ V', Below w.heap.size w V' → R (.returned v) V') :
    bodyPostM Fence.wide 3 Tryz.prog Tryz.f43 R Exit.ret { tmps, defers := [{ target := .collected D, args := #[] }] } V := by
  refine ⟨by simp, .inl ⟨_, _, rfl, run_takeDeferred hV, ?_⟩⟩
  refine ⟨v, ?_, hp _ (C.putObj_below hb hD)⟩
  subst t4
  simp [results, Tryz.results43, go_sem]
/-- a call in a round. -/
theorem inR {lp m : Nat} {f : FuncId} {args : Array Value} {w : World} {R : Ending → World → Prop} (h : Calls Tryz.prog f args w R) : CallsIn (Fence.wide.inRound lp) m Tryz.prog f args w R := CallsIn.inRound _ (callsIn_wide.2 h)

set_option linter.unusedSimpArgs false in
set_option maxRecDepth 100000 in
set_option maxHeartbeats 4000000 in
theorem printed_any (nm : Bool) (s : ByteArray) (w : World) (hs : s.size ≤ 1000) :
    Calls Tryz.prog 43 #[kv nm, .string s] w (PPost nm s w) := by
  refine (callsIn_wide (n := 3)).1 ?_
  refine callsIn_of_wp_marks Tryz.func43 rfl trivial ?_ rfl
  simp only [Tryz.ntmps43, List.size_toArray, List.length_cons, List.length_nil, Nat.reduceAdd, Nat.reduceSub, Array.replicate_succ, Array.replicate_zero, List.push_toArray, List.append_toArray, List.nil_append, List.cons_append]
  refine wpIn_wide.2 ?_
  go_wp2_with fail
  refine (bytes_any s _).mono ?_
  rintro e w' ⟨rfl, rfl⟩
  go_wp2
  obtain ⟨W0, hW0⟩ : ∃ W0, W0 = (((w.alloc (.cells #[kv nm] 58)).alloc (.cells #[.slice none 0 0] 85)).alloc (.cells #[.string s] 87)).alloc (.cells #[.string s] 87) := ⟨_, rfl⟩
  have hz : W0.heap.size = w.heap.size + 4 := by rw [hW0]; simp
  have hSt : Pin nm s w [] (.slice none 0 0) W0 := by
    rw [hW0]
    refine ⟨?_, ?_, ?_, World.ownsRow_nil _ _ _ _, ?_, by simp⟩
    · rw [Below.heap_alloc _ _ _ (by simp <;> omega), Below.heap_alloc _ _ _ (by simp <;> omega), Below.heap_alloc _ _ _ (by simp)]; exact World.alloc_heap_new _ _
    · rw [Below.heap_alloc _ _ _ (by simp <;> omega), Below.heap_alloc _ _ _ (by simp)]; have := World.alloc_heap_new (w.alloc (.cells #[kv nm] 58)) (.cells #[.slice none 0 0] 85); rwa [World.size_alloc] at this
    · rw [Below.heap_alloc _ _ _ (by simp <;> omega)]; have := World.alloc_heap_new ((w.alloc (.cells #[kv nm] 58)).alloc (.cells #[.slice none 0 0] 85)) (.cells #[.string s] 87); rwa [World.size_alloc, World.size_alloc] at this
    · repeat (refine Below.alloc ?_ (by simp <;> omega) _)
      exact Below.refl _ _
  have hBs : W0.cell? ⟨w.heap.size + 3, 0, none⟩ = some (.string s) := by
    rw [hW0, World.cell?_alloc_at _ _ _ _ (by simp)]
    rfl
  rw [← hW0]
  clear hW0
  refine (wpIn_wide (n := 3)).1 ?_
  refine wpIn_rangeFunc_ownF rfl (by omega) (gf := 87) (lb := #[.pointer (some ⟨w.heap.size + 3, 0, none⟩)]) rfl trivial (enters_of Tryz.func87 (by kernel_rfl) rfl)
    (bytes1_stops (3 - 1) (by omega) (w.heap.size + 3) s W0 hs hBs) C.Two.trans (fun W l o o' hl h1 h2 h3 => C.Two.book (w := W0) (by omega) (by omega) W l o o' hl h1 h2 h3) (Below.refl _ _) (fun _ => rfl)
    (fun pre W => ∃ v, Pin nm s w (prp nm pre) v W) (fun _ _ _ => False)
    (fun pre A B' row hs hg hr => by
      obtain ⟨v, h⟩ := hs
      exact ⟨v, h.grown hg (fun r e => ⟨by have := (hr r e).1; omega, (hr r e).2⟩)⟩)
    (fun _ _ _ _ _ hs _ _ => hs.elim)
    ⟨_, hSt⟩
    (fun x => { tmps := #[kv nm, .string s, .pointer (some ⟨w.heap.size, 0, none⟩), undef, .string ⟨#[]⟩, .pointer (some ⟨w.heap.size + 1, 0, none⟩), .pointer (some ⟨w.heap.size + 2, 0, none⟩), .int .i64 x.p, .int .u8 ((s[x.p]'x.hp).toNat : Int), undef, .string s, .agg #[.string s], .agg #[.string s], .func (.func 87) #[] #[.pointer (some ⟨w.heap.size + 3, 0, none⟩)], .int .i64 x.p, .int .u8 ((s[x.p]'x.hp).toNat : Int), undef, undef, undef, undef, undef, undef, undef, undef, undef, undef, undef, undef, undef, undef, undef, undef, undef, undef, undef, undef, undef, undef, undef, undef, undef, undef, undef, undef, undef, undef, undef, undef, undef, undef, undef, undef, undef, undef, undef, undef, undef, undef], defers := [] }) ?assign ?body ?done ?stop
  case assign =>
    intro l x W K hK
    gi_wp2
    exact hK
  case body =>
    rintro l pre x W ⟨v, hv⟩ hN
    go_light
    have hxp := x.hp
    have hpl := prp_len nm pre
    have hsn := prp_snoc nm pre x
    have H := fun W => reserved_any nm s x.p W hs x.hp
    have hpc := fun W => piece_one s x.p W hs x.hp
    generalize hy : s[x.p]'x.hp = y at *
    generalize prp nm pre = out at *
    have hout : out.length ≤ 3000 := by omega
    have Hsn := hide hsn
    have HR := hide H
    have HPC := hide hpc
    have Hpp : Hid ((x.p : Int) < s.size) := hide (by omega)
    clear hsn H hpc hN hSt hBs hz hpl
    unfold pb at Hsn
    obtain ⟨i0, hi0, hz0, hz1, hz2⟩ := C.infoB
    obtain ⟨c0, c1, c2, c3⟩ := hv.cl
    have Hv := hide hv
    clear hv
    by_cases hp1 : pln y = true
    · have Hp1 := hide hp1
      have a1 : (32 : Int) ≤ y.toNat := by unfold pln at hp1; simp at hp1; omega
      have a2 : (y.toNat : Int) ≤ 126 := by unfold pln at hp1; simp at hp1; omega
      clear hp1
      cases hr : res nm s.size x.p y with
      | false =>
        rw [hr] at HR
        have Hr := hide hr
        clear hr
        gi_wp2_with fail
        refine ⟨trivial, (inR ((unhide HR) _)).mono ?_⟩
        rintro e w1 ⟨rfl, hb⟩
        have Hv1 := hide ((unhide Hv).below hb)
        have HK1 := hide (Kp.below (unhide Hv).size hb)
        clear hb HR
        obtain ⟨c0, c1, c2, c3⟩ := (unhide Hv1).cl
        have HN := hide (C.news w1 [.int .u8 (y.toNat : Int)] 5)
        have HO := hide ((unhide Hv1).own.alloc (.cells ([.int .u8 (y.toNat : Int)] : List Value).toArray 5))
        have Hz := hide (unhide Hv1).size
        gi_wp2_with (first
          | (gi_at_builtin; refine wpListIn_append_own _ rfl (.tmp 42) (.tmp 44) 85 rfl (w.heap.size + 4) 5 i0 (.int .u8 0) 1 1 Tryz.underlying85 hi0 hz0 hz1 hz2 rfl (by omega) v out.length (C.cells out) rfl (unhide HO) ⟨w1.heap.size, 0, none⟩ 1 1 [.int .u8 (y.toNat : Int)] rfl rfl (unhide HN) (by simp [Value.oneCell']) (by unfold maxLen; omega) (by omega) (by have := unhide Hz; simp; omega) ?_; intro v' w2 hown hgrow _; obtain ⟨g', cap', rfl⟩ := C.own_form hown (by omega); obtain ⟨p1, p2, d1, d2⟩ := (unhide Hv1).app (more := [y]) hgrow hown; have HQ := hide p1; have HK2 := hide p2; clear hown hgrow p1 p2 c0 c1 c2 c3)
          | gi_in)
        have HKT := hide ((unhide HK1).trans (unhide HK2))
        have hq := unhide HQ
        rw [← show prp _ (pre ++ [x]) = out ++ [y] by rw [unhide Hsn, if_pos (by rw [unhide Hp1, unhide Hr]; rfl)]] at hq
        exact ⟨(unhide HKT).1, (unhide HKT).2, _, hq⟩
      | true =>
        rw [hr] at HR
        have Hr := hide hr
        clear hr
        cases nm with
        | true =>
          gi_wp2_with fail
          refine ⟨trivial, (inR ((unhide HR) _)).mono ?_⟩
          rintro e w1 ⟨rfl, hb⟩
          have Hv1 := hide ((unhide Hv).below hb)
          have HK1 := hide (Kp.below (unhide Hv).size hb)
          clear hb HR
          obtain ⟨c0, c1, c2, c3⟩ := (unhide Hv1).cl
          have HN := hide (C.news w1 [.int .u8 92, .int .u8 (y.toNat : Int)] 5)
          have HO := hide ((unhide Hv1).own.alloc (.cells ([.int .u8 92, .int .u8 (y.toNat : Int)] : List Value).toArray 5))
          have Hz := hide (unhide Hv1).size
          gi_wp2_with (first
            | (gi_at_builtin; refine wpListIn_append_own _ rfl (.tmp 52) (.tmp 54) 85 rfl (w.heap.size + 4) 5 i0 (.int .u8 0) 1 1 Tryz.underlying85 hi0 hz0 hz1 hz2 rfl (by omega) v out.length (C.cells out) rfl (unhide HO) ⟨w1.heap.size, 0, none⟩ 2 2 [.int .u8 92, .int .u8 (y.toNat : Int)] rfl rfl (unhide HN) (by simp [Value.oneCell']) (by unfold maxLen; omega) (by omega) (by have := unhide Hz; simp; omega) ?_; intro v' w2 hown hgrow _; obtain ⟨g', cap', rfl⟩ := C.own_form hown (by omega); obtain ⟨p1, p2, d1, d2⟩ := (unhide Hv1).app (more := [92, y]) hgrow hown; have HQ := hide p1; have HK2 := hide p2; clear hown hgrow p1 p2 c0 c1 c2 c3)
            | gi_in)
          have HKT := hide ((unhide HK1).trans (unhide HK2))
          have hq := unhide HQ
          rw [← show prp _ (pre ++ [x]) = out ++ [92, y] by rw [unhide Hsn, if_neg (by rw [unhide Hp1, unhide Hr]; simp), if_pos (by rw [unhide Hp1]; rfl)]] at hq
          exact ⟨(unhide HKT).1, (unhide HKT).2, _, hq⟩
        | false =>
          gi_wp2_with fail
          refine ⟨trivial, (inR ((unhide HR) _)).mono ?_⟩
          rintro e w1 ⟨rfl, hb⟩
          have Hv1 := hide ((unhide Hv).below hb)
          have HK1 := hide (Kp.below (unhide Hv).size hb)
          clear hb HR
          obtain ⟨c0, c1, c2, c3⟩ := (unhide Hv1).cl
          have HN := hide (C.news w1 [.int .u8 92] 5)
          have HO := hide ((unhide Hv1).own.alloc (.cells ([.int .u8 92] : List Value).toArray 5))
          have Hz := hide (unhide Hv1).size
          gi_wp2_with (first
            | (gi_at_builtin; refine wpListIn_append_own _ rfl (.tmp 22) (.tmp 23) 85 rfl (w.heap.size + 4) 5 i0 (.int .u8 0) 1 1 Tryz.underlying85 hi0 hz0 hz1 hz2 rfl (by omega) v out.length (C.cells out) rfl (unhide HO) ⟨w1.heap.size, 0, none⟩ 1 1 [.int .u8 92] rfl rfl (unhide HN) (by simp [Value.oneCell']) (by unfold maxLen; omega) (by omega) (by have := unhide Hz; simp; omega) ?_; intro v' w2 hown hgrow _; obtain ⟨g', cap', rfl⟩ := C.own_form hown (by omega); obtain ⟨p1, p2, d1, d2⟩ := (unhide Hv1).app (more := [92]) hgrow hown; have HQ := hide p1; have HK2 := hide p2; clear hown hgrow p1 p2 c0 c1 c2 c3)
            | gi_in)
          have HKT := hide ((unhide HK1).trans (unhide HK2))
          clear HK1 HK2 Hv1 HN HO Hz
          generalize w2.setCell ⟨w.heap.size + 1, 0, none⟩ (.slice (some ⟨g', 0, none⟩) (out.length + 1) cap') = V at *
          generalize hsl : Value.slice (some ⟨g', 0, none⟩) (out.length + 1) cap' = sl at *
          have HvV := hide (unhide HQ).drew
          have HKV := hide ((unhide HKT).trans (Kp.below (unhide HQ).size (Below.refl _ _).drew))
          obtain ⟨-, c1, hS, -⟩ := (unhide HvV).cl
          refine regionIn_held (S := fun w' => w'.cell? ⟨w.heap.size + 2, 0, none⟩ = some (.string s)) (by kernel_rfl) (by kernel_rfl) ?_
          change wpAnyH _ _ _ _ _ 9 #[false, false, false, false, false, false, false, false, false] _ V.drew
          refine wpAnyH_take (i := 1) (v := .agg #[.string s]) rfl (by kernel_rfl) (by kernel_rfl) (by kernel_rfl) (fun _ _ _ h => h) (Or.inl ⟨by kernel_rfl, by intro w1 hS1; go_simp; try rfl⟩) hS ?_
          simp only [Act.put, List.setIfInBounds_toArray, List.set_cons_zero, List.set_cons_succ, List.getElem_toArray, List.getElem_cons_zero, List.getElem_cons_succ]
          refine wpAnyH_take (i := 2) (v := .int .i64 x.p) rfl (by kernel_rfl) (by kernel_rfl) (by kernel_rfl) (fun _ _ _ h => h) (Or.inl ⟨by kernel_rfl, by intro w1 hS1; go_simp; try rfl⟩) hS ?_
          simp only [Act.put, List.setIfInBounds_toArray, List.set_cons_zero, List.set_cons_succ, List.getElem_toArray, List.getElem_cons_zero, List.getElem_cons_succ]
          refine wpAnyH_take (i := 3) (v := .int .i64 x.p) rfl (by kernel_rfl) (by kernel_rfl) (by kernel_rfl) (fun _ _ _ h => h) (Or.inl ⟨by kernel_rfl, by intro w1 hS1; go_simp; try rfl⟩) hS ?_
          simp only [Act.put, List.setIfInBounds_toArray, List.set_cons_zero, List.set_cons_succ, List.getElem_toArray, List.getElem_cons_zero, List.getElem_cons_succ]
          have hiw : IntKind.i64.wrap ((x.p : Int) + 1) = x.p + 1 := i64w _ (by omega) (by omega)
          refine wpAnyH_take (i := 4) (v := .int .i64 ((x.p : Int) + 1)) rfl (by kernel_rfl) (by kernel_rfl) (by kernel_rfl) (fun _ _ _ h => h) (Or.inl ⟨by kernel_rfl, by intro w1 hS1; go_simp; try rfl⟩) hS ?_
          simp only [Act.put, List.setIfInBounds_toArray, List.set_cons_zero, List.set_cons_succ, List.getElem_toArray, List.getElem_cons_zero, List.getElem_cons_succ]
          clear hiw
          refine wpAnyH_ready (rs := [0, 5]) (by kernel_rfl) (by simp) ?_
          refine AllReadyH.cons rfl (fun K hK => ?_) (AllReadyH.cons rfl (fun K hK => ?_) AllReadyH.nil)
          · rw [if_pos (by kernel_rfl)]
            go_simp
            refine hK.out _ _ hS (fun _ => ?_)
            clear hK K
            simp only [Act.put, List.setIfInBounds_toArray, List.set_cons_zero, List.set_cons_succ, List.getElem_toArray, List.getElem_cons_zero, List.getElem_cons_succ]
            refine wpAnyH_ready (rs := [5]) (by kernel_rfl) (by simp) ?_
            refine AllReadyH.cons rfl (fun K hK => ?_) AllReadyH.nil
            rw [if_pos (by kernel_rfl)]
            go_wp2_with fail
            refine ((unhide HPC) _).mono ?_
            rintro e w3 ⟨rfl, hb⟩
            have Hvw3 := hide ((unhide HvV).below hb)
            have HKw3 := hide ((unhide HKV).trans (Kp.below (unhide HvV).size hb))
            clear hb c1 hS
            obtain ⟨-, c1, hS, -⟩ := (unhide Hvw3).cl
            go_wp2
            refine hK.out _ _ hS (fun _ => ?_)
            clear hK K
            simp only [Act.put, List.setIfInBounds_toArray, List.set_cons_zero, List.set_cons_succ, List.getElem_toArray, List.getElem_cons_zero, List.getElem_cons_succ]
            refine wpAnyH_ready (rs := [6]) (by kernel_rfl) (by simp) ?_
            refine AllReadyH.cons rfl (fun K hK => ?_) AllReadyH.nil
            rw [if_pos (by kernel_rfl)]
            go_wp2_with fail
            refine (hex_one y _).mono ?_
            rintro e w4 ⟨rfl, hb⟩
            have Hvw4 := hide ((unhide Hvw3).below hb)
            have HKw4 := hide ((unhide HKw3).trans (Kp.below (unhide Hvw3).size hb))
            clear hb c1 hS
            obtain ⟨-, c1, hS, -⟩ := (unhide Hvw4).cl
            go_wp2
            refine hK.out _ _ hS (fun _ => ?_)
            clear hK K
            simp only [Act.put, List.setIfInBounds_toArray, List.set_cons_zero, List.set_cons_succ, List.getElem_toArray, List.getElem_cons_zero, List.getElem_cons_succ]
            refine wpAnyH_ready (rs := [7]) (by kernel_rfl) (by simp) ?_
            refine AllReadyH.cons rfl (fun K hK => ?_) AllReadyH.nil
            rw [if_pos (by kernel_rfl)]
            refine wp_append_str (.tmp 25) (.tmp 31) 85 9 rfl (w.heap.size + 4) 5 i0 Tryz.underlying85 Tryz.underlying9 hi0 hz0 hz1 hz2 sl (out.length + 1) (out ++ [92]) rfl (by have := (unhide Hvw4).own; rwa [List.length_append] at this) ⟨(hx y).toArray⟩ rfl (by show out.length + 1 + 2 ≤ _; omega) (unhide Hvw4).size ?_
            intro v5 w5 hown hgrow
            obtain ⟨p1, p2, d1, d2⟩ := (unhide Hvw4).appS (more := hx y) hgrow (by rw [List.length_append]; exact hown)
            obtain ⟨g5, cap5, rfl⟩ := C.own_form hown (by omega)
            have HQ5 := hide p1
            have HK5 := hide ((unhide HKw4).trans p2)
            have hS5 : w5.cell? ⟨w.heap.size + 2, 0, none⟩ = some (.string s) := by
              have := (unhide HQ5).cl.2.2.1
              rwa [World.cell?_setCell_other (h := by simp)] at this
            have hS6 := (unhide HQ5).cl.2.2.1
            refine hK.out _ _ hS5 (fun _ => ?_)
            clear hK K hown hgrow p1 p2
            simp only [Act.put, List.setIfInBounds_toArray, List.set_cons_zero, List.set_cons_succ, List.getElem_toArray, List.getElem_cons_zero, List.getElem_cons_succ]
            refine wpAnyH_ready (rs := [8]) (by kernel_rfl) (by simp) ?_
            refine AllReadyH.cons rfl (fun K hK => ?_) AllReadyH.nil
            rw [if_pos (by kernel_rfl)]
            go_simp
            refine hK.out _ _ hS6 (fun _ => ?_)
            clear hK K
            simp only [Act.put, List.setIfInBounds_toArray, List.set_cons_zero, List.set_cons_succ, List.getElem_toArray, List.getElem_cons_zero, List.getElem_cons_succ]
            refine wpAnyH_done (by kernel_rfl) ?_ _
            simp only [C.only]
            gi_wp2
            have hq := unhide HQ5
            rw [List.append_assoc, ← show prp _ (pre ++ [x]) = out ++ ([92] ++ hx y) by rw [unhide Hsn, if_neg (by rw [unhide Hp1, unhide Hr]; simp), if_neg (by simp)]; rfl] at hq
            exact ⟨(unhide HK5).1, (unhide HK5).2, _, hq⟩
          · rw [if_pos (by kernel_rfl)]
            go_wp2_with fail
            refine ((unhide HPC) _).mono ?_
            rintro e w3 ⟨rfl, hb⟩
            have Hvw3 := hide ((unhide HvV).below hb)
            have HKw3 := hide ((unhide HKV).trans (Kp.below (unhide HvV).size hb))
            clear hb c1 hS
            obtain ⟨-, c1, hS, -⟩ := (unhide Hvw3).cl
            go_wp2
            refine hK.out _ _ hS (fun _ => ?_)
            clear hK K
            simp only [Act.put, List.setIfInBounds_toArray, List.set_cons_zero, List.set_cons_succ, List.getElem_toArray, List.getElem_cons_zero, List.getElem_cons_succ]
            refine wpAnyH_ready (rs := [0, 6]) (by kernel_rfl) (by simp) ?_
            refine AllReadyH.cons rfl (fun K hK => ?_) (AllReadyH.cons rfl (fun K hK => ?_) AllReadyH.nil)
            · rw [if_pos (by kernel_rfl)]
              go_simp
              refine hK.out _ _ hS (fun _ => ?_)
              clear hK K
              simp only [Act.put, List.setIfInBounds_toArray, List.set_cons_zero, List.set_cons_succ, List.getElem_toArray, List.getElem_cons_zero, List.getElem_cons_succ]
              refine wpAnyH_ready (rs := [6]) (by kernel_rfl) (by simp) ?_
              refine AllReadyH.cons rfl (fun K hK => ?_) AllReadyH.nil
              rw [if_pos (by kernel_rfl)]
              go_wp2_with fail
              refine (hex_one y _).mono ?_
              rintro e w4 ⟨rfl, hb⟩
              have Hvw4 := hide ((unhide Hvw3).below hb)
              have HKw4 := hide ((unhide HKw3).trans (Kp.below (unhide Hvw3).size hb))
              clear hb c1 hS
              obtain ⟨-, c1, hS, -⟩ := (unhide Hvw4).cl
              go_wp2
              refine hK.out _ _ hS (fun _ => ?_)
              clear hK K
              simp only [Act.put, List.setIfInBounds_toArray, List.set_cons_zero, List.set_cons_succ, List.getElem_toArray, List.getElem_cons_zero, List.getElem_cons_succ]
              refine wpAnyH_ready (rs := [7]) (by kernel_rfl) (by simp) ?_
              refine AllReadyH.cons rfl (fun K hK => ?_) AllReadyH.nil
              rw [if_pos (by kernel_rfl)]
              refine wp_append_str (.tmp 25) (.tmp 31) 85 9 rfl (w.heap.size + 4) 5 i0 Tryz.underlying85 Tryz.underlying9 hi0 hz0 hz1 hz2 sl (out.length + 1) (out ++ [92]) rfl (by have := (unhide Hvw4).own; rwa [List.length_append] at this) ⟨(hx y).toArray⟩ rfl (by show out.length + 1 + 2 ≤ _; omega) (unhide Hvw4).size ?_
              intro v5 w5 hown hgrow
              obtain ⟨p1, p2, d1, d2⟩ := (unhide Hvw4).appS (more := hx y) hgrow (by rw [List.length_append]; exact hown)
              obtain ⟨g5, cap5, rfl⟩ := C.own_form hown (by omega)
              have HQ5 := hide p1
              have HK5 := hide ((unhide HKw4).trans p2)
              have hS5 : w5.cell? ⟨w.heap.size + 2, 0, none⟩ = some (.string s) := by
                have := (unhide HQ5).cl.2.2.1
                rwa [World.cell?_setCell_other (h := by simp)] at this
              have hS6 := (unhide HQ5).cl.2.2.1
              refine hK.out _ _ hS5 (fun _ => ?_)
              clear hK K hown hgrow p1 p2
              simp only [Act.put, List.setIfInBounds_toArray, List.set_cons_zero, List.set_cons_succ, List.getElem_toArray, List.getElem_cons_zero, List.getElem_cons_succ]
              refine wpAnyH_ready (rs := [8]) (by kernel_rfl) (by simp) ?_
              refine AllReadyH.cons rfl (fun K hK => ?_) AllReadyH.nil
              rw [if_pos (by kernel_rfl)]
              go_simp
              refine hK.out _ _ hS6 (fun _ => ?_)
              clear hK K
              simp only [Act.put, List.setIfInBounds_toArray, List.set_cons_zero, List.set_cons_succ, List.getElem_toArray, List.getElem_cons_zero, List.getElem_cons_succ]
              refine wpAnyH_done (by kernel_rfl) ?_ _
              simp only [C.only]
              gi_wp2
              have hq := unhide HQ5
              rw [List.append_assoc, ← show prp _ (pre ++ [x]) = out ++ ([92] ++ hx y) by rw [unhide Hsn, if_neg (by rw [unhide Hp1, unhide Hr]; simp), if_neg (by simp)]; rfl] at hq
              exact ⟨(unhide HK5).1, (unhide HK5).2, _, hq⟩
            · rw [if_pos (by kernel_rfl)]
              go_wp2_with fail
              refine (hex_one y _).mono ?_
              rintro e w4 ⟨rfl, hb⟩
              have Hvw4 := hide ((unhide Hvw3).below hb)
              have HKw4 := hide ((unhide HKw3).trans (Kp.below (unhide Hvw3).size hb))
              clear hb c1 hS
              obtain ⟨-, c1, hS, -⟩ := (unhide Hvw4).cl
              go_wp2
              refine hK.out _ _ hS (fun _ => ?_)
              clear hK K
              simp only [Act.put, List.setIfInBounds_toArray, List.set_cons_zero, List.set_cons_succ, List.getElem_toArray, List.getElem_cons_zero, List.getElem_cons_succ]
              refine wpAnyH_ready (rs := [0]) (by kernel_rfl) (by simp) ?_
              refine AllReadyH.cons rfl (fun K hK => ?_) AllReadyH.nil
              rw [if_pos (by kernel_rfl)]
              go_simp
              refine hK.out _ _ hS (fun _ => ?_)
              clear hK K
              simp only [Act.put, List.setIfInBounds_toArray, List.set_cons_zero, List.set_cons_succ, List.getElem_toArray, List.getElem_cons_zero, List.getElem_cons_succ]
              refine wpAnyH_ready (rs := [7]) (by kernel_rfl) (by simp) ?_
              refine AllReadyH.cons rfl (fun K hK => ?_) AllReadyH.nil
              rw [if_pos (by kernel_rfl)]
              refine wp_append_str (.tmp 25) (.tmp 31) 85 9 rfl (w.heap.size + 4) 5 i0 Tryz.underlying85 Tryz.underlying9 hi0 hz0 hz1 hz2 sl (out.length + 1) (out ++ [92]) rfl (by have := (unhide Hvw4).own; rwa [List.length_append] at this) ⟨(hx y).toArray⟩ rfl (by show out.length + 1 + 2 ≤ _; omega) (unhide Hvw4).size ?_
              intro v5 w5 hown hgrow
              obtain ⟨p1, p2, d1, d2⟩ := (unhide Hvw4).appS (more := hx y) hgrow (by rw [List.length_append]; exact hown)
              obtain ⟨g5, cap5, rfl⟩ := C.own_form hown (by omega)
              have HQ5 := hide p1
              have HK5 := hide ((unhide HKw4).trans p2)
              have hS5 : w5.cell? ⟨w.heap.size + 2, 0, none⟩ = some (.string s) := by
                have := (unhide HQ5).cl.2.2.1
                rwa [World.cell?_setCell_other (h := by simp)] at this
              have hS6 := (unhide HQ5).cl.2.2.1
              refine hK.out _ _ hS5 (fun _ => ?_)
              clear hK K hown hgrow p1 p2
              simp only [Act.put, List.setIfInBounds_toArray, List.set_cons_zero, List.set_cons_succ, List.getElem_toArray, List.getElem_cons_zero, List.getElem_cons_succ]
              refine wpAnyH_ready (rs := [8]) (by kernel_rfl) (by simp) ?_
              refine AllReadyH.cons rfl (fun K hK => ?_) AllReadyH.nil
              rw [if_pos (by kernel_rfl)]
              go_simp
              refine hK.out _ _ hS6 (fun _ => ?_)
              clear hK K
              simp only [Act.put, List.setIfInBounds_toArray, List.set_cons_zero, List.set_cons_succ, List.getElem_toArray, List.getElem_cons_zero, List.getElem_cons_succ]
              refine wpAnyH_done (by kernel_rfl) ?_ _
              simp only [C.only]
              gi_wp2
              have hq := unhide HQ5
              rw [List.append_assoc, ← show prp _ (pre ++ [x]) = out ++ ([92] ++ hx y) by rw [unhide Hsn, if_neg (by rw [unhide Hp1, unhide Hr]; simp), if_neg (by simp)]; rfl] at hq
              exact ⟨(unhide HK5).1, (unhide HK5).2, _, hq⟩
    · have Hp1 : Hid (pln y = false) := hide (by simpa using hp1)
      clear HR
      by_cases a1 : (32 : Int) ≤ y.toNat
      · have a2 : ¬ (y.toNat : Int) ≤ 126 := fun h => hp1 (by unfold pln; simp; omega)
        clear hp1
        gi_wp2
        refine ⟨trivial, ?_⟩
        obtain ⟨c0, c1, c2, c3⟩ := (unhide Hv).cl
        have HN := hide (C.news W [.int .u8 92] 5)
        have HO := hide ((unhide Hv).own.alloc (.cells ([.int .u8 92] : List Value).toArray 5))
        have Hz := hide (unhide Hv).size
        gi_wp2_with (first
          | (gi_at_builtin; refine wpListIn_append_own _ rfl (.tmp 22) (.tmp 23) 85 rfl (w.heap.size + 4) 5 i0 (.int .u8 0) 1 1 Tryz.underlying85 hi0 hz0 hz1 hz2 rfl (by omega) v out.length (C.cells out) rfl (unhide HO) ⟨W.heap.size, 0, none⟩ 1 1 [.int .u8 92] rfl rfl (unhide HN) (by simp [Value.oneCell']) (by unfold maxLen; omega) (by omega) (by have := unhide Hz; simp; omega) ?_; intro v' w2 hown hgrow _; obtain ⟨g', cap', rfl⟩ := C.own_form hown (by omega); obtain ⟨p1, p2, d1, d2⟩ := (unhide Hv).app (more := [92]) hgrow hown; have HQ := hide p1; have HKT := hide p2; clear hown hgrow p1 p2 c0 c1 c2 c3)
          | gi_in)
        clear HN HO Hz
        generalize w2.setCell ⟨w.heap.size + 1, 0, none⟩ (.slice (some ⟨g', 0, none⟩) (out.length + 1) cap') = V at *
        generalize hsl : Value.slice (some ⟨g', 0, none⟩) (out.length + 1) cap' = sl at *
        have HvV := hide (unhide HQ).drew
        have HKV := hide ((unhide HKT).trans (Kp.below (unhide HQ).size (Below.refl _ _).drew))
        obtain ⟨-, c1, hS, -⟩ := (unhide HvV).cl
        refine regionIn_held (S := fun w' => w'.cell? ⟨w.heap.size + 2, 0, none⟩ = some (.string s)) (by kernel_rfl) (by kernel_rfl) ?_
        change wpAnyH _ _ _ _ _ 9 #[false, false, false, false, false, false, false, false, false] _ V.drew
        refine wpAnyH_take (i := 1) (v := .agg #[.string s]) rfl (by kernel_rfl) (by kernel_rfl) (by kernel_rfl) (fun _ _ _ h => h) (Or.inl ⟨by kernel_rfl, by intro w1 hS1; go_simp; try rfl⟩) hS ?_
        simp only [Act.put, List.setIfInBounds_toArray, List.set_cons_zero, List.set_cons_succ, List.getElem_toArray, List.getElem_cons_zero, List.getElem_cons_succ]
        refine wpAnyH_take (i := 2) (v := .int .i64 x.p) rfl (by kernel_rfl) (by kernel_rfl) (by kernel_rfl) (fun _ _ _ h => h) (Or.inl ⟨by kernel_rfl, by intro w1 hS1; go_simp; try rfl⟩) hS ?_
        simp only [Act.put, List.setIfInBounds_toArray, List.set_cons_zero, List.set_cons_succ, List.getElem_toArray, List.getElem_cons_zero, List.getElem_cons_succ]
        refine wpAnyH_take (i := 3) (v := .int .i64 x.p) rfl (by kernel_rfl) (by kernel_rfl) (by kernel_rfl) (fun _ _ _ h => h) (Or.inl ⟨by kernel_rfl, by intro w1 hS1; go_simp; try rfl⟩) hS ?_
        simp only [Act.put, List.setIfInBounds_toArray, List.set_cons_zero, List.set_cons_succ, List.getElem_toArray, List.getElem_cons_zero, List.getElem_cons_succ]
        have hiw : IntKind.i64.wrap ((x.p : Int) + 1) = x.p + 1 := i64w _ (by omega) (by omega)
        refine wpAnyH_take (i := 4) (v := .int .i64 ((x.p : Int) + 1)) rfl (by kernel_rfl) (by kernel_rfl) (by kernel_rfl) (fun _ _ _ h => h) (Or.inl ⟨by kernel_rfl, by intro w1 hS1; go_simp; try rfl⟩) hS ?_
        simp only [Act.put, List.setIfInBounds_toArray, List.set_cons_zero, List.set_cons_succ, List.getElem_toArray, List.getElem_cons_zero, List.getElem_cons_succ]
        clear hiw
        refine wpAnyH_ready (rs := [0, 5]) (by kernel_rfl) (by simp) ?_
        refine AllReadyH.cons rfl (fun K hK => ?_) (AllReadyH.cons rfl (fun K hK => ?_) AllReadyH.nil)
        · rw [if_pos (by kernel_rfl)]
          go_simp
          refine hK.out _ _ hS (fun _ => ?_)
          clear hK K
          simp only [Act.put, List.setIfInBounds_toArray, List.set_cons_zero, List.set_cons_succ, List.getElem_toArray, List.getElem_cons_zero, List.getElem_cons_succ]
          refine wpAnyH_ready (rs := [5]) (by kernel_rfl) (by simp) ?_
          refine AllReadyH.cons rfl (fun K hK => ?_) AllReadyH.nil
          rw [if_pos (by kernel_rfl)]
          go_wp2_with fail
          refine ((unhide HPC) _).mono ?_
          rintro e w3 ⟨rfl, hb⟩
          have Hvw3 := hide ((unhide HvV).below hb)
          have HKw3 := hide ((unhide HKV).trans (Kp.below (unhide HvV).size hb))
          clear hb c1 hS
          obtain ⟨-, c1, hS, -⟩ := (unhide Hvw3).cl
          go_wp2
          refine hK.out _ _ hS (fun _ => ?_)
          clear hK K
          simp only [Act.put, List.setIfInBounds_toArray, List.set_cons_zero, List.set_cons_succ, List.getElem_toArray, List.getElem_cons_zero, List.getElem_cons_succ]
          refine wpAnyH_ready (rs := [6]) (by kernel_rfl) (by simp) ?_
          refine AllReadyH.cons rfl (fun K hK => ?_) AllReadyH.nil
          rw [if_pos (by kernel_rfl)]
          go_wp2_with fail
          refine (hex_one y _).mono ?_
          rintro e w4 ⟨rfl, hb⟩
          have Hvw4 := hide ((unhide Hvw3).below hb)
          have HKw4 := hide ((unhide HKw3).trans (Kp.below (unhide Hvw3).size hb))
          clear hb c1 hS
          obtain ⟨-, c1, hS, -⟩ := (unhide Hvw4).cl
          go_wp2
          refine hK.out _ _ hS (fun _ => ?_)
          clear hK K
          simp only [Act.put, List.setIfInBounds_toArray, List.set_cons_zero, List.set_cons_succ, List.getElem_toArray, List.getElem_cons_zero, List.getElem_cons_succ]
          refine wpAnyH_ready (rs := [7]) (by kernel_rfl) (by simp) ?_
          refine AllReadyH.cons rfl (fun K hK => ?_) AllReadyH.nil
          rw [if_pos (by kernel_rfl)]
          refine wp_append_str (.tmp 25) (.tmp 31) 85 9 rfl (w.heap.size + 4) 5 i0 Tryz.underlying85 Tryz.underlying9 hi0 hz0 hz1 hz2 sl (out.length + 1) (out ++ [92]) rfl (by have := (unhide Hvw4).own; rwa [List.length_append] at this) ⟨(hx y).toArray⟩ rfl (by show out.length + 1 + 2 ≤ _; omega) (unhide Hvw4).size ?_
          intro v5 w5 hown hgrow
          obtain ⟨p1, p2, d1, d2⟩ := (unhide Hvw4).appS (more := hx y) hgrow (by rw [List.length_append]; exact hown)
          obtain ⟨g5, cap5, rfl⟩ := C.own_form hown (by omega)
          have HQ5 := hide p1
          have HK5 := hide ((unhide HKw4).trans p2)
          have hS5 : w5.cell? ⟨w.heap.size + 2, 0, none⟩ = some (.string s) := by
            have := (unhide HQ5).cl.2.2.1
            rwa [World.cell?_setCell_other (h := by simp)] at this
          have hS6 := (unhide HQ5).cl.2.2.1
          refine hK.out _ _ hS5 (fun _ => ?_)
          clear hK K hown hgrow p1 p2
          simp only [Act.put, List.setIfInBounds_toArray, List.set_cons_zero, List.set_cons_succ, List.getElem_toArray, List.getElem_cons_zero, List.getElem_cons_succ]
          refine wpAnyH_ready (rs := [8]) (by kernel_rfl) (by simp) ?_
          refine AllReadyH.cons rfl (fun K hK => ?_) AllReadyH.nil
          rw [if_pos (by kernel_rfl)]
          go_simp
          refine hK.out _ _ hS6 (fun _ => ?_)
          clear hK K
          simp only [Act.put, List.setIfInBounds_toArray, List.set_cons_zero, List.set_cons_succ, List.getElem_toArray, List.getElem_cons_zero, List.getElem_cons_succ]
          refine wpAnyH_done (by kernel_rfl) ?_ _
          simp only [C.only]
          gi_wp2
          have hq := unhide HQ5
          rw [List.append_assoc, ← show prp _ (pre ++ [x]) = out ++ ([92] ++ hx y) by rw [unhide Hsn, if_neg (by rw [unhide Hp1]; simp), if_neg (by rw [unhide Hp1]; simp)]; rfl] at hq
          exact ⟨(unhide HK5).1, (unhide HK5).2, _, hq⟩
        · rw [if_pos (by kernel_rfl)]
          go_wp2_with fail
          refine ((unhide HPC) _).mono ?_
          rintro e w3 ⟨rfl, hb⟩
          have Hvw3 := hide ((unhide HvV).below hb)
          have HKw3 := hide ((unhide HKV).trans (Kp.below (unhide HvV).size hb))
          clear hb c1 hS
          obtain ⟨-, c1, hS, -⟩ := (unhide Hvw3).cl
          go_wp2
          refine hK.out _ _ hS (fun _ => ?_)
          clear hK K
          simp only [Act.put, List.setIfInBounds_toArray, List.set_cons_zero, List.set_cons_succ, List.getElem_toArray, List.getElem_cons_zero, List.getElem_cons_succ]
          refine wpAnyH_ready (rs := [0, 6]) (by kernel_rfl) (by simp) ?_
          refine AllReadyH.cons rfl (fun K hK => ?_) (AllReadyH.cons rfl (fun K hK => ?_) AllReadyH.nil)
          · rw [if_pos (by kernel_rfl)]
            go_simp
            refine hK.out _ _ hS (fun _ => ?_)
            clear hK K
            simp only [Act.put, List.setIfInBounds_toArray, List.set_cons_zero, List.set_cons_succ, List.getElem_toArray, List.getElem_cons_zero, List.getElem_cons_succ]
            refine wpAnyH_ready (rs := [6]) (by kernel_rfl) (by simp) ?_
            refine AllReadyH.cons rfl (fun K hK => ?_) AllReadyH.nil
            rw [if_pos (by kernel_rfl)]
            go_wp2_with fail
            refine (hex_one y _).mono ?_
            rintro e w4 ⟨rfl, hb⟩
            have Hvw4 := hide ((unhide Hvw3).below hb)
            have HKw4 := hide ((unhide HKw3).trans (Kp.below (unhide Hvw3).size hb))
            clear hb c1 hS
            obtain ⟨-, c1, hS, -⟩ := (unhide Hvw4).cl
            go_wp2
            refine hK.out _ _ hS (fun _ => ?_)
            clear hK K
            simp only [Act.put, List.setIfInBounds_toArray, List.set_cons_zero, List.set_cons_succ, List.getElem_toArray, List.getElem_cons_zero, List.getElem_cons_succ]
            refine wpAnyH_ready (rs := [7]) (by kernel_rfl) (by simp) ?_
            refine AllReadyH.cons rfl (fun K hK => ?_) AllReadyH.nil
            rw [if_pos (by kernel_rfl)]
            refine wp_append_str (.tmp 25) (.tmp 31) 85 9 rfl (w.heap.size + 4) 5 i0 Tryz.underlying85 Tryz.underlying9 hi0 hz0 hz1 hz2 sl (out.length + 1) (out ++ [92]) rfl (by have := (unhide Hvw4).own; rwa [List.length_append] at this) ⟨(hx y).toArray⟩ rfl (by show out.length + 1 + 2 ≤ _; omega) (unhide Hvw4).size ?_
            intro v5 w5 hown hgrow
            obtain ⟨p1, p2, d1, d2⟩ := (unhide Hvw4).appS (more := hx y) hgrow (by rw [List.length_append]; exact hown)
            obtain ⟨g5, cap5, rfl⟩ := C.own_form hown (by omega)
            have HQ5 := hide p1
            have HK5 := hide ((unhide HKw4).trans p2)
            have hS5 : w5.cell? ⟨w.heap.size + 2, 0, none⟩ = some (.string s) := by
              have := (unhide HQ5).cl.2.2.1
              rwa [World.cell?_setCell_other (h := by simp)] at this
            have hS6 := (unhide HQ5).cl.2.2.1
            refine hK.out _ _ hS5 (fun _ => ?_)
            clear hK K hown hgrow p1 p2
            simp only [Act.put, List.setIfInBounds_toArray, List.set_cons_zero, List.set_cons_succ, List.getElem_toArray, List.getElem_cons_zero, List.getElem_cons_succ]
            refine wpAnyH_ready (rs := [8]) (by kernel_rfl) (by simp) ?_
            refine AllReadyH.cons rfl (fun K hK => ?_) AllReadyH.nil
            rw [if_pos (by kernel_rfl)]
            go_simp
            refine hK.out _ _ hS6 (fun _ => ?_)
            clear hK K
            simp only [Act.put, List.setIfInBounds_toArray, List.set_cons_zero, List.set_cons_succ, List.getElem_toArray, List.getElem_cons_zero, List.getElem_cons_succ]
            refine wpAnyH_done (by kernel_rfl) ?_ _
            simp only [C.only]
            gi_wp2
            have hq := unhide HQ5
            rw [List.append_assoc, ← show prp _ (pre ++ [x]) = out ++ ([92] ++ hx y) by rw [unhide Hsn, if_neg (by rw [unhide Hp1]; simp), if_neg (by rw [unhide Hp1]; simp)]; rfl] at hq
            exact ⟨(unhide HK5).1, (unhide HK5).2, _, hq⟩
          · rw [if_pos (by kernel_rfl)]
            go_wp2_with fail
            refine (hex_one y _).mono ?_
            rintro e w4 ⟨rfl, hb⟩
            have Hvw4 := hide ((unhide Hvw3).below hb)
            have HKw4 := hide ((unhide HKw3).trans (Kp.below (unhide Hvw3).size hb))
            clear hb c1 hS
            obtain ⟨-, c1, hS, -⟩ := (unhide Hvw4).cl
            go_wp2
            refine hK.out _ _ hS (fun _ => ?_)
            clear hK K
            simp only [Act.put, List.setIfInBounds_toArray, List.set_cons_zero, List.set_cons_succ, List.getElem_toArray, List.getElem_cons_zero, List.getElem_cons_succ]
            refine wpAnyH_ready (rs := [0]) (by kernel_rfl) (by simp) ?_
            refine AllReadyH.cons rfl (fun K hK => ?_) AllReadyH.nil
            rw [if_pos (by kernel_rfl)]
            go_simp
            refine hK.out _ _ hS (fun _ => ?_)
            clear hK K
            simp only [Act.put, List.setIfInBounds_toArray, List.set_cons_zero, List.set_cons_succ, List.getElem_toArray, List.getElem_cons_zero, List.getElem_cons_succ]
            refine wpAnyH_ready (rs := [7]) (by kernel_rfl) (by simp) ?_
            refine AllReadyH.cons rfl (fun K hK => ?_) AllReadyH.nil
            rw [if_pos (by kernel_rfl)]
            refine wp_append_str (.tmp 25) (.tmp 31) 85 9 rfl (w.heap.size + 4) 5 i0 Tryz.underlying85 Tryz.underlying9 hi0 hz0 hz1 hz2 sl (out.length + 1) (out ++ [92]) rfl (by have := (unhide Hvw4).own; rwa [List.length_append] at this) ⟨(hx y).toArray⟩ rfl (by show out.length + 1 + 2 ≤ _; omega) (unhide Hvw4).size ?_
            intro v5 w5 hown hgrow
            obtain ⟨p1, p2, d1, d2⟩ := (unhide Hvw4).appS (more := hx y) hgrow (by rw [List.length_append]; exact hown)
            obtain ⟨g5, cap5, rfl⟩ := C.own_form hown (by omega)
            have HQ5 := hide p1
            have HK5 := hide ((unhide HKw4).trans p2)
            have hS5 : w5.cell? ⟨w.heap.size + 2, 0, none⟩ = some (.string s) := by
              have := (unhide HQ5).cl.2.2.1
              rwa [World.cell?_setCell_other (h := by simp)] at this
            have hS6 := (unhide HQ5).cl.2.2.1
            refine hK.out _ _ hS5 (fun _ => ?_)
            clear hK K hown hgrow p1 p2
            simp only [Act.put, List.setIfInBounds_toArray, List.set_cons_zero, List.set_cons_succ, List.getElem_toArray, List.getElem_cons_zero, List.getElem_cons_succ]
            refine wpAnyH_ready (rs := [8]) (by kernel_rfl) (by simp) ?_
            refine AllReadyH.cons rfl (fun K hK => ?_) AllReadyH.nil
            rw [if_pos (by kernel_rfl)]
            go_simp
            refine hK.out _ _ hS6 (fun _ => ?_)
            clear hK K
            simp only [Act.put, List.setIfInBounds_toArray, List.set_cons_zero, List.set_cons_succ, List.getElem_toArray, List.getElem_cons_zero, List.getElem_cons_succ]
            refine wpAnyH_done (by kernel_rfl) ?_ _
            simp only [C.only]
            gi_wp2
            have hq := unhide HQ5
            rw [List.append_assoc, ← show prp _ (pre ++ [x]) = out ++ ([92] ++ hx y) by rw [unhide Hsn, if_neg (by rw [unhide Hp1]; simp), if_neg (by rw [unhide Hp1]; simp)]; rfl] at hq
            exact ⟨(unhide HK5).1, (unhide HK5).2, _, hq⟩
      · clear hp1
        gi_wp2
        refine ⟨trivial, ?_⟩
        obtain ⟨c0, c1, c2, c3⟩ := (unhide Hv).cl
        have HN := hide (C.news W [.int .u8 92] 5)
        have HO := hide ((unhide Hv).own.alloc (.cells ([.int .u8 92] : List Value).toArray 5))
        have Hz := hide (unhide Hv).size
        gi_wp2_with (first
          | (gi_at_builtin; refine wpListIn_append_own _ rfl (.tmp 22) (.tmp 23) 85 rfl (w.heap.size + 4) 5 i0 (.int .u8 0) 1 1 Tryz.underlying85 hi0 hz0 hz1 hz2 rfl (by omega) v out.length (C.cells out) rfl (unhide HO) ⟨W.heap.size, 0, none⟩ 1 1 [.int .u8 92] rfl rfl (unhide HN) (by simp [Value.oneCell']) (by unfold maxLen; omega) (by omega) (by have := unhide Hz; simp; omega) ?_; intro v' w2 hown hgrow _; obtain ⟨g', cap', rfl⟩ := C.own_form hown (by omega); obtain ⟨p1, p2, d1, d2⟩ := (unhide Hv).app (more := [92]) hgrow hown; have HQ := hide p1; have HKT := hide p2; clear hown hgrow p1 p2 c0 c1 c2 c3)
          | gi_in)
        clear HN HO Hz
        generalize w2.setCell ⟨w.heap.size + 1, 0, none⟩ (.slice (some ⟨g', 0, none⟩) (out.length + 1) cap') = V at *
        generalize hsl : Value.slice (some ⟨g', 0, none⟩) (out.length + 1) cap' = sl at *
        have HvV := hide (unhide HQ).drew
        have HKV := hide ((unhide HKT).trans (Kp.below (unhide HQ).size (Below.refl _ _).drew))
        obtain ⟨-, c1, hS, -⟩ := (unhide HvV).cl
        refine regionIn_held (S := fun w' => w'.cell? ⟨w.heap.size + 2, 0, none⟩ = some (.string s)) (by kernel_rfl) (by kernel_rfl) ?_
        change wpAnyH _ _ _ _ _ 9 #[false, false, false, false, false, false, false, false, false] _ V.drew
        refine wpAnyH_take (i := 1) (v := .agg #[.string s]) rfl (by kernel_rfl) (by kernel_rfl) (by kernel_rfl) (fun _ _ _ h => h) (Or.inl ⟨by kernel_rfl, by intro w1 hS1; go_simp; try rfl⟩) hS ?_
        simp only [Act.put, List.setIfInBounds_toArray, List.set_cons_zero, List.set_cons_succ, List.getElem_toArray, List.getElem_cons_zero, List.getElem_cons_succ]
        refine wpAnyH_take (i := 2) (v := .int .i64 x.p) rfl (by kernel_rfl) (by kernel_rfl) (by kernel_rfl) (fun _ _ _ h => h) (Or.inl ⟨by kernel_rfl, by intro w1 hS1; go_simp; try rfl⟩) hS ?_
        simp only [Act.put, List.setIfInBounds_toArray, List.set_cons_zero, List.set_cons_succ, List.getElem_toArray, List.getElem_cons_zero, List.getElem_cons_succ]
        refine wpAnyH_take (i := 3) (v := .int .i64 x.p) rfl (by kernel_rfl) (by kernel_rfl) (by kernel_rfl) (fun _ _ _ h => h) (Or.inl ⟨by kernel_rfl, by intro w1 hS1; go_simp; try rfl⟩) hS ?_
        simp only [Act.put, List.setIfInBounds_toArray, List.set_cons_zero, List.set_cons_succ, List.getElem_toArray, List.getElem_cons_zero, List.getElem_cons_succ]
        have hiw : IntKind.i64.wrap ((x.p : Int) + 1) = x.p + 1 := i64w _ (by omega) (by omega)
        refine wpAnyH_take (i := 4) (v := .int .i64 ((x.p : Int) + 1)) rfl (by kernel_rfl) (by kernel_rfl) (by kernel_rfl) (fun _ _ _ h => h) (Or.inl ⟨by kernel_rfl, by intro w1 hS1; go_simp; try rfl⟩) hS ?_
        simp only [Act.put, List.setIfInBounds_toArray, List.set_cons_zero, List.set_cons_succ, List.getElem_toArray, List.getElem_cons_zero, List.getElem_cons_succ]
        clear hiw
        refine wpAnyH_ready (rs := [0, 5]) (by kernel_rfl) (by simp) ?_
        refine AllReadyH.cons rfl (fun K hK => ?_) (AllReadyH.cons rfl (fun K hK => ?_) AllReadyH.nil)
        · rw [if_pos (by kernel_rfl)]
          go_simp
          refine hK.out _ _ hS (fun _ => ?_)
          clear hK K
          simp only [Act.put, List.setIfInBounds_toArray, List.set_cons_zero, List.set_cons_succ, List.getElem_toArray, List.getElem_cons_zero, List.getElem_cons_succ]
          refine wpAnyH_ready (rs := [5]) (by kernel_rfl) (by simp) ?_
          refine AllReadyH.cons rfl (fun K hK => ?_) AllReadyH.nil
          rw [if_pos (by kernel_rfl)]
          go_wp2_with fail
          refine ((unhide HPC) _).mono ?_
          rintro e w3 ⟨rfl, hb⟩
          have Hvw3 := hide ((unhide HvV).below hb)
          have HKw3 := hide ((unhide HKV).trans (Kp.below (unhide HvV).size hb))
          clear hb c1 hS
          obtain ⟨-, c1, hS, -⟩ := (unhide Hvw3).cl
          go_wp2
          refine hK.out _ _ hS (fun _ => ?_)
          clear hK K
          simp only [Act.put, List.setIfInBounds_toArray, List.set_cons_zero, List.set_cons_succ, List.getElem_toArray, List.getElem_cons_zero, List.getElem_cons_succ]
          refine wpAnyH_ready (rs := [6]) (by kernel_rfl) (by simp) ?_
          refine AllReadyH.cons rfl (fun K hK => ?_) AllReadyH.nil
          rw [if_pos (by kernel_rfl)]
          go_wp2_with fail
          refine (hex_one y _).mono ?_
          rintro e w4 ⟨rfl, hb⟩
          have Hvw4 := hide ((unhide Hvw3).below hb)
          have HKw4 := hide ((unhide HKw3).trans (Kp.below (unhide Hvw3).size hb))
          clear hb c1 hS
          obtain ⟨-, c1, hS, -⟩ := (unhide Hvw4).cl
          go_wp2
          refine hK.out _ _ hS (fun _ => ?_)
          clear hK K
          simp only [Act.put, List.setIfInBounds_toArray, List.set_cons_zero, List.set_cons_succ, List.getElem_toArray, List.getElem_cons_zero, List.getElem_cons_succ]
          refine wpAnyH_ready (rs := [7]) (by kernel_rfl) (by simp) ?_
          refine AllReadyH.cons rfl (fun K hK => ?_) AllReadyH.nil
          rw [if_pos (by kernel_rfl)]
          refine wp_append_str (.tmp 25) (.tmp 31) 85 9 rfl (w.heap.size + 4) 5 i0 Tryz.underlying85 Tryz.underlying9 hi0 hz0 hz1 hz2 sl (out.length + 1) (out ++ [92]) rfl (by have := (unhide Hvw4).own; rwa [List.length_append] at this) ⟨(hx y).toArray⟩ rfl (by show out.length + 1 + 2 ≤ _; omega) (unhide Hvw4).size ?_
          intro v5 w5 hown hgrow
          obtain ⟨p1, p2, d1, d2⟩ := (unhide Hvw4).appS (more := hx y) hgrow (by rw [List.length_append]; exact hown)
          obtain ⟨g5, cap5, rfl⟩ := C.own_form hown (by omega)
          have HQ5 := hide p1
          have HK5 := hide ((unhide HKw4).trans p2)
          have hS5 : w5.cell? ⟨w.heap.size + 2, 0, none⟩ = some (.string s) := by
            have := (unhide HQ5).cl.2.2.1
            rwa [World.cell?_setCell_other (h := by simp)] at this
          have hS6 := (unhide HQ5).cl.2.2.1
          refine hK.out _ _ hS5 (fun _ => ?_)
          clear hK K hown hgrow p1 p2
          simp only [Act.put, List.setIfInBounds_toArray, List.set_cons_zero, List.set_cons_succ, List.getElem_toArray, List.getElem_cons_zero, List.getElem_cons_succ]
          refine wpAnyH_ready (rs := [8]) (by kernel_rfl) (by simp) ?_
          refine AllReadyH.cons rfl (fun K hK => ?_) AllReadyH.nil
          rw [if_pos (by kernel_rfl)]
          go_simp
          refine hK.out _ _ hS6 (fun _ => ?_)
          clear hK K
          simp only [Act.put, List.setIfInBounds_toArray, List.set_cons_zero, List.set_cons_succ, List.getElem_toArray, List.getElem_cons_zero, List.getElem_cons_succ]
          refine wpAnyH_done (by kernel_rfl) ?_ _
          simp only [C.only]
          gi_wp2
          have hq := unhide HQ5
          rw [List.append_assoc, ← show prp _ (pre ++ [x]) = out ++ ([92] ++ hx y) by rw [unhide Hsn, if_neg (by rw [unhide Hp1]; simp), if_neg (by rw [unhide Hp1]; simp)]; rfl] at hq
          exact ⟨(unhide HK5).1, (unhide HK5).2, _, hq⟩
        · rw [if_pos (by kernel_rfl)]
          go_wp2_with fail
          refine ((unhide HPC) _).mono ?_
          rintro e w3 ⟨rfl, hb⟩
          have Hvw3 := hide ((unhide HvV).below hb)
          have HKw3 := hide ((unhide HKV).trans (Kp.below (unhide HvV).size hb))
          clear hb c1 hS
          obtain ⟨-, c1, hS, -⟩ := (unhide Hvw3).cl
          go_wp2
          refine hK.out _ _ hS (fun _ => ?_)
          clear hK K
          simp only [Act.put, List.setIfInBounds_toArray, List.set_cons_zero, List.set_cons_succ, List.getElem_toArray, List.getElem_cons_zero, List.getElem_cons_succ]
          refine wpAnyH_ready (rs := [0, 6]) (by kernel_rfl) (by simp) ?_
          refine AllReadyH.cons rfl (fun K hK => ?_) (AllReadyH.cons rfl (fun K hK => ?_) AllReadyH.nil)
          · rw [if_pos (by kernel_rfl)]
            go_simp
            refine hK.out _ _ hS (fun _ => ?_)
            clear hK K
            simp only [Act.put, List.setIfInBounds_toArray, List.set_cons_zero, List.set_cons_succ, List.getElem_toArray, List.getElem_cons_zero, List.getElem_cons_succ]
            refine wpAnyH_ready (rs := [6]) (by kernel_rfl) (by simp) ?_
            refine AllReadyH.cons rfl (fun K hK => ?_) AllReadyH.nil
            rw [if_pos (by kernel_rfl)]
            go_wp2_with fail
            refine (hex_one y _).mono ?_
            rintro e w4 ⟨rfl, hb⟩
            have Hvw4 := hide ((unhide Hvw3).below hb)
            have HKw4 := hide ((unhide HKw3).trans (Kp.below (unhide Hvw3).size hb))
            clear hb c1 hS
            obtain ⟨-, c1, hS, -⟩ := (unhide Hvw4).cl
            go_wp2
            refine hK.out _ _ hS (fun _ => ?_)
            clear hK K
            simp only [Act.put, List.setIfInBounds_toArray, List.set_cons_zero, List.set_cons_succ, List.getElem_toArray, List.getElem_cons_zero, List.getElem_cons_succ]
            refine wpAnyH_ready (rs := [7]) (by kernel_rfl) (by simp) ?_
            refine AllReadyH.cons rfl (fun K hK => ?_) AllReadyH.nil
            rw [if_pos (by kernel_rfl)]
            refine wp_append_str (.tmp 25) (.tmp 31) 85 9 rfl (w.heap.size + 4) 5 i0 Tryz.underlying85 Tryz.underlying9 hi0 hz0 hz1 hz2 sl (out.length + 1) (out ++ [92]) rfl (by have := (unhide Hvw4).own; rwa [List.length_append] at this) ⟨(hx y).toArray⟩ rfl (by show out.length + 1 + 2 ≤ _; omega) (unhide Hvw4).size ?_
            intro v5 w5 hown hgrow
            obtain ⟨p1, p2, d1, d2⟩ := (unhide Hvw4).appS (more := hx y) hgrow (by rw [List.length_append]; exact hown)
            obtain ⟨g5, cap5, rfl⟩ := C.own_form hown (by omega)
            have HQ5 := hide p1
            have HK5 := hide ((unhide HKw4).trans p2)
            have hS5 : w5.cell? ⟨w.heap.size + 2, 0, none⟩ = some (.string s) := by
              have := (unhide HQ5).cl.2.2.1
              rwa [World.cell?_setCell_other (h := by simp)] at this
            have hS6 := (unhide HQ5).cl.2.2.1
            refine hK.out _ _ hS5 (fun _ => ?_)
            clear hK K hown hgrow p1 p2
            simp only [Act.put, List.setIfInBounds_toArray, List.set_cons_zero, List.set_cons_succ, List.getElem_toArray, List.getElem_cons_zero, List.getElem_cons_succ]
            refine wpAnyH_ready (rs := [8]) (by kernel_rfl) (by simp) ?_
            refine AllReadyH.cons rfl (fun K hK => ?_) AllReadyH.nil
            rw [if_pos (by kernel_rfl)]
            go_simp
            refine hK.out _ _ hS6 (fun _ => ?_)
            clear hK K
            simp only [Act.put, List.setIfInBounds_toArray, List.set_cons_zero, List.set_cons_succ, List.getElem_toArray, List.getElem_cons_zero, List.getElem_cons_succ]
            refine wpAnyH_done (by kernel_rfl) ?_ _
            simp only [C.only]
            gi_wp2
            have hq := unhide HQ5
            rw [List.append_assoc, ← show prp _ (pre ++ [x]) = out ++ ([92] ++ hx y) by rw [unhide Hsn, if_neg (by rw [unhide Hp1]; simp), if_neg (by rw [unhide Hp1]; simp)]; rfl] at hq
            exact ⟨(unhide HK5).1, (unhide HK5).2, _, hq⟩
          · rw [if_pos (by kernel_rfl)]
            go_wp2_with fail
            refine (hex_one y _).mono ?_
            rintro e w4 ⟨rfl, hb⟩
            have Hvw4 := hide ((unhide Hvw3).below hb)
            have HKw4 := hide ((unhide HKw3).trans (Kp.below (unhide Hvw3).size hb))
            clear hb c1 hS
            obtain ⟨-, c1, hS, -⟩ := (unhide Hvw4).cl
            go_wp2
            refine hK.out _ _ hS (fun _ => ?_)
            clear hK K
            simp only [Act.put, List.setIfInBounds_toArray, List.set_cons_zero, List.set_cons_succ, List.getElem_toArray, List.getElem_cons_zero, List.getElem_cons_succ]
            refine wpAnyH_ready (rs := [0]) (by kernel_rfl) (by simp) ?_
            refine AllReadyH.cons rfl (fun K hK => ?_) AllReadyH.nil
            rw [if_pos (by kernel_rfl)]
            go_simp
            refine hK.out _ _ hS (fun _ => ?_)
            clear hK K
            simp only [Act.put, List.setIfInBounds_toArray, List.set_cons_zero, List.set_cons_succ, List.getElem_toArray, List.getElem_cons_zero, List.getElem_cons_succ]
            refine wpAnyH_ready (rs := [7]) (by kernel_rfl) (by simp) ?_
            refine AllReadyH.cons rfl (fun K hK => ?_) AllReadyH.nil
            rw [if_pos (by kernel_rfl)]
            refine wp_append_str (.tmp 25) (.tmp 31) 85 9 rfl (w.heap.size + 4) 5 i0 Tryz.underlying85 Tryz.underlying9 hi0 hz0 hz1 hz2 sl (out.length + 1) (out ++ [92]) rfl (by have := (unhide Hvw4).own; rwa [List.length_append] at this) ⟨(hx y).toArray⟩ rfl (by show out.length + 1 + 2 ≤ _; omega) (unhide Hvw4).size ?_
            intro v5 w5 hown hgrow
            obtain ⟨p1, p2, d1, d2⟩ := (unhide Hvw4).appS (more := hx y) hgrow (by rw [List.length_append]; exact hown)
            obtain ⟨g5, cap5, rfl⟩ := C.own_form hown (by omega)
            have HQ5 := hide p1
            have HK5 := hide ((unhide HKw4).trans p2)
            have hS5 : w5.cell? ⟨w.heap.size + 2, 0, none⟩ = some (.string s) := by
              have := (unhide HQ5).cl.2.2.1
              rwa [World.cell?_setCell_other (h := by simp)] at this
            have hS6 := (unhide HQ5).cl.2.2.1
            refine hK.out _ _ hS5 (fun _ => ?_)
            clear hK K hown hgrow p1 p2
            simp only [Act.put, List.setIfInBounds_toArray, List.set_cons_zero, List.set_cons_succ, List.getElem_toArray, List.getElem_cons_zero, List.getElem_cons_succ]
            refine wpAnyH_ready (rs := [8]) (by kernel_rfl) (by simp) ?_
            refine AllReadyH.cons rfl (fun K hK => ?_) AllReadyH.nil
            rw [if_pos (by kernel_rfl)]
            go_simp
            refine hK.out _ _ hS6 (fun _ => ?_)
            clear hK K
            simp only [Act.put, List.setIfInBounds_toArray, List.set_cons_zero, List.set_cons_succ, List.getElem_toArray, List.getElem_cons_zero, List.getElem_cons_succ]
            refine wpAnyH_done (by kernel_rfl) ?_ _
            simp only [C.only]
            gi_wp2
            have hq := unhide HQ5
            rw [List.append_assoc, ← show prp _ (pre ++ [x]) = out ++ ([92] ++ hx y) by rw [unhide Hsn, if_neg (by rw [unhide Hp1]; simp), if_neg (by rw [unhide Hp1]; simp)]; rfl] at hq
            exact ⟨(unhide HK5).1, (unhide HK5).2, _, hq⟩
  case done =>
    rintro D ys W hD rfl ⟨v, hv⟩ hK
    obtain ⟨c0, c1, c2, c3⟩ := hv.cl
    have hcv := C.conv_row hv.own rfl
    have HK := hide hK
    have Hv := hide hv
    clear hK hv hSt hBs
    go_wp2
    refine finP (unhide HK) (by omega) (unhide Hv).bel rfl fun V' hb => ⟨rfl, hb⟩
  case stop =>
    rintro D cd pre W hD hpre h hK
    exact h.elim
end Go.Proofs.YthfcnjcpanoldaaGreatDoor.E

/-
  What esc.reader's closure 'lay' lays, and what reader.escaped and reader.step answer. Conditions: the package-level variables hold what the program's text lays ('Glob').
-/
namespace Go.Proofs.YthfcnjcpanoldaaGreatDoor.E
open Go Go.RowKit Ec
attribute [local go_sem] Oper.semAt_some

/-- a list of bytes that grows lies behind a variable. -/
structure Lr (B base : Nat) (out : List UInt8) (v : Value) (W : World) : Prop where
  box : W.heap[B]? = some (.cells #[v] 85)
  own : W.ownsRow base 5 1 v out.length (C.cells out)
  lt : B < base
  le : base ≤ W.heap.size
theorem Lr.cl {B base : Nat} {out : List UInt8} {v : Value} {W : World} (h : Lr B base out v W) : W.cell? ⟨B, 0, none⟩ = some v ∧ W.frozen? ⟨B, 0, none⟩ = false := by
  have h1 := h.box
  simp [World.cell?, World.frozen?, h1]
theorem Lr.below {B base : Nat} {out : List UInt8} {v : Value} {W W' : World} (h : Lr B base out v W) (hb : Below W.heap.size W W') : Lr B base out v W' :=
  ⟨(hb.block _ (Nat.lt_of_lt_of_le h.lt h.le)).trans h.box, C.own_below h.own hb, h.lt, Nat.le_trans h.le hb.size⟩
/-- all below a block is as it was, but for one variable. -/
structure Mv (B base : Nat) (W W' : World) : Prop where
  os : W'.os = W.os
  tape : W'.tape = W.tape
  output : W'.output = W.output
  size : W.heap.size ≤ W'.heap.size
  block : ∀ k, k < base → k ≠ B → W'.heap[k]? = W.heap[k]?
  keeps : KeepsOthers W W'
theorem Mv.trans {B base : Nat} {A C D : World} (h : Mv B base A C) (k : Mv B base C D) : Mv B base A D :=
  ⟨k.os.trans h.os, k.tape.trans h.tape, k.output.trans h.output, Nat.le_trans h.size k.size, fun i hi hn => (k.block i hi hn).trans (h.block i hi hn), h.keeps.trans k.keeps⟩
theorem Mv.of {B base : Nat} {W W' : World} (hz : base ≤ W.heap.size) (h : Below W.heap.size W W') : Mv B base W W' :=
  ⟨h.os, h.tape, h.output, h.size, fun k hk _ => h.block k (by omega), C.keepsO h⟩
theorem Mv.below {B base : Nat} {W W' : World} (h : Mv B base W W') (hB : B < base) : Below B W W' :=
  ⟨h.os, h.tape, h.output, h.size, fun k hk => h.block k (by omega) (by omega)⟩

/-- the list grows. -/
theorem Lr.app {B base : Nat} {out more : List UInt8} {v v' : Value} {W W' : World} (h : Lr B base out v W) (hg : W.grownBy W' v.ownBlock) (ho : W'.ownsRow base 5 1 v' (out.length + more.length) (C.cells out ++ C.cells more)) :
    Lr B base (out ++ more) v' (W'.setCell ⟨B, 0, none⟩ v') ∧ Mv B base W (W'.setCell ⟨B, 0, none⟩ v') ∧ W'.cell? ⟨B, 0, none⟩ = some v ∧ W'.frozen? ⟨B, 0, none⟩ = false := by
  have hlt := h.lt
  have hle := h.le
  have hk : ∀ k, k < base → W'.heap[k]? = W.heap[k]? := fun k hk => hg.block k (by omega) (fun e => by have := (h.own.lt k e.symm).1; omega)
  have hb := (hk B hlt).trans h.box
  have hz : (W'.setCell ⟨B, 0, none⟩ v').heap.size = W'.heap.size := by simp [World.setCell]
  have hK : KeepsOthers W W' := ⟨hg.size, fun k o hk hc => by
    refine (hg.block k (Array.getElem?_eq_some_iff.1 hk).1 (fun e => ?_)).trans hk
    rcases h.own.2 with ⟨rfl, _⟩ | ⟨g, cap, cur, rfl, _, hgb, _⟩
    · cases e
    · cases e
      rw [hk] at hgb
      cases hgb
      cases hc⟩
  refine ⟨⟨heap_setCell_same W' _ 0 _ _ _ hb, ?_, hlt, by rw [hz]; exact Nat.le_trans hle hg.size⟩, ⟨hg.os, hg.tape, hg.output, by rw [hz]; exact hg.size, fun k hk1 hn => (Below.heap_setCell _ _ _ _ (by show k ≠ B; exact hn)).trans (hk k hk1), hK.trans (KeepsOthers.setCell _ _ _)⟩, ?_, ?_⟩
  · rw [List.length_append, C.cells_append]
    exact ownsRow_setCell_below ho (by show B < base; exact hlt) _
  · simp [World.cell?, hb]
  · simp [World.frozen?, hb]
/-- lay: some bytes behind the others. -/
def LPost (B base : Nat) (out : List UInt8) (W : World) (e : Ending) (W' : World) : Prop := e = .returned (.tuple #[]) ∧ (∃ v, Lr B base out v W') ∧ Mv B base W W'
theorem lay_any (B base : Nat) (out : List UInt8) (v : Value) (t : ByteArray) (W : World) (h : Lr B base out v W) (hl : out.length + t.size ≤ 10000) (ht : 1 ≤ t.size) :
    Calls Tryz.prog 122 #[.string t, .pointer (some ⟨B, 0, none⟩)] W (LPost B base (out ++ t.data.toList) W) := by
  obtain ⟨i0, hi0, hz0, hz1, hz2⟩ := C.infoB
  obtain ⟨c0, c1⟩ := h.cl
  have Hh := hide h
  have hlen : out.length + t.data.toList.length = out.length + t.size := by rw [Array.length_toList]; rfl
  clear h
  go_enter Tryz.func122, Tryz.ntmps122
  go_wp2_with (at_builtin; refine Go.Lib.wpList_append_own_string _ rfl (.tmp 3) (.tmp 4) 85 9 rfl base 5 i0 Tryz.underlying85 Tryz.underlying9 hi0 hz0 hz1 hz2 v out.length (C.cells out) rfl (unhide Hh).own t rfl (by unfold maxLen; omega) (by omega) (unhide Hh).le ?_; intro v' w' hown hgrow _; obtain ⟨p1, p2, d1, d2⟩ := (unhide Hh).app (more := t.data.toList) hgrow (by rw [hlen]; exact hown); obtain ⟨g', cap', rfl⟩ := C.own_form hown (by omega); have HP := hide p1; have HM := hide p2; clear hown hgrow p1 p2 c0 c1 hlen)
  go_end0
  exact ⟨rfl, ⟨_, unhide HP⟩, unhide HM⟩

/-- a reader, and its closure. -/
abbrev rdv (nm : Bool) (s : ByteArray) : Value := .agg #[.string s, kv nm]
abbrev layv (B : Nat) : Value := .func (.func 122) #[] #[.pointer (some ⟨B, 0, none⟩)]
abbrev rbx (nm : Bool) (s : ByteArray) : Obj := .cells #[.string s, kv nm] 169
/-- what lies while escaped and step go. -/
structure Ln (nm : Bool) (s : ByteArray) (B base : Nat) (out : List UInt8) (v : Value) (w W : World) : Prop where
  bx : W.heap[w.heap.size]? = some (rbx nm s)
  lr : Lr B base out v W
  mv : Mv B base w W
  sz : base ≤ w.heap.size
theorem Ln.new {nm : Bool} {s : ByteArray} {B base : Nat} {out : List UInt8} {v : Value} {w : World} (h : Lr B base out v w) : Ln nm s B base out v w (w.alloc (rbx nm s)) :=
  ⟨World.alloc_heap_new _ _, h.below ((Below.refl _ _).alloc (Nat.le_refl _) _), Mv.of h.le ((Below.refl _ _).alloc (Nat.le_refl _) _), h.le⟩
theorem Ln.below {nm : Bool} {s : ByteArray} {B base : Nat} {out : List UInt8} {v : Value} {w W W' : World} (h : Ln nm s B base out v w W) (hb : Below W.heap.size W W') : Ln nm s B base out v w W' :=
  ⟨(hb.block _ (Array.getElem?_eq_some_iff.1 h.bx).1).trans h.bx, h.lr.below hb, h.mv.trans (Mv.of h.lr.le hb), h.sz⟩
theorem Ln.cl {nm : Bool} {s : ByteArray} {B base : Nat} {out : List UInt8} {v : Value} {w W : World} (h : Ln nm s B base out v w W) : W.cell? ⟨w.heap.size, 0, none⟩ = some (.string s) ∧ W.cell? ⟨w.heap.size, 1, none⟩ = some (kv nm) := by
  have h1 := h.bx
  simp [World.cell?, h1]
theorem Ln.glob {nm : Bool} {s : ByteArray} {B base : Nat} {out : List UInt8} {v : Value} {w W u : World} {a : Ad} (h : Ln nm s B base out v w W) (g : Glob a u) (hu : u.heap.size ≤ B) (hb : Below u.heap.size u w) : Glob a W :=
  g.below (Nat.le_refl _) (hb.trans ((h.mv.below h.lr.lt).mono hu))
/-- what escaped and step leave. -/
def SPost (a : Ad) (B base : Nat) (out : List UInt8) (q : Nat) (r : Option (List UInt8 × Nat)) (w : World) (e : Ending) (w' : World) : Prop :=
  Mv B base w w' ∧ match r with
  | some (t, k) => e = .returned (.tuple #[.int .i64 ((q + k : Nat) : Int), .nilIface]) ∧ ∃ v, Lr B base (out ++ t) v w'
  | none => ∃ x, e = .returned (.tuple #[.int .i64 0, .iface 175 x]) ∧ IsErr a (.iface 175 x) ∧ ∃ v, Lr B base out v w'
theorem SPost.yes {a : Ad} {B base : Nat} {out : List UInt8} {q k : Nat} {t : List UInt8} {w w' : World} {e : Ending} (hm : Mv B base w w') (he : e = .returned (.tuple #[.int .i64 ((q + k : Nat) : Int), .nilIface])) (hl : ∃ v, Lr B base (out ++ t) v w') : SPost a B base out q (some (t, k)) w e w' := ⟨hm, he, hl⟩
theorem SPost.no {a : Ad} {B base : Nat} {out : List UInt8} {q : Nat} {w w' : World} {e : Ending} {x : Value} (hm : Mv B base w w') (he : e = .returned (.tuple #[.int .i64 0, .iface 175 x])) (hx : IsErr a (.iface 175 x)) (hl : ∃ v, Lr B base out v w') : SPost a B base out q none w e w' := ⟨hm, x, he, hx, hl⟩

abbrev sEv : Array Value := #[.int .u8 92, .int .u8 34, .int .u8 43, .int .u8 44, .int .u8 59, .int .u8 60, .int .u8 62, .int .u8 32, .int .u8 35, .int .u8 61]
set_option maxRecDepth 100000 in
set_option maxHeartbeats 1000000 in
theorem esc_mark (s : ByteArray) (q : Nat) (B base : Nat) (out : List UInt8) (v : Value) (a : Ad) (w : World) (h : Lr B base out v w) (hs : s.size ≤ 1000) (ho : out.length ≤ 1000) (hq : q < s.size) (hh : sE.contains s[q] = true) :
    Calls Tryz.prog 130 #[rdv true s, .int .i64 q, layv B] w (SPost a B base out q (some ([s[q]], 1)) w) := by
  have HL := hide (Ln.new (nm := true) (s := s) h)
  have H1 := hide fun W b hb => has_new s q sE W #[.int .u8 92, .int .u8 34, .int .u8 43, .int .u8 44, .int .u8 59, .int .u8 60, .int .u8 62, .int .u8 32, .int .u8 35, .int .u8 61] 5 10 b rfl rfl (by decide) hb
  rw [hv_at sE hq, hh] at H1
  have H2 := hide fun W => piece_one s q W hs hq
  have hq' : (q : Int) ≤ 1000 := by omega
  clear h hh
  generalize s[q] = y at *
  obtain ⟨c0, c1⟩ := (unhide HL).cl
  go_enter Tryz.func130, Tryz.ntmps130
  go_wp2_with fail
  refine ((unhide H1) _ _ (by simp)).mono ?_
  rintro e w1 ⟨rfl, hb⟩
  have HL1 := hide ((unhide HL).below hb)
  clear hb c0 c1 HL
  obtain ⟨c0, c1⟩ := (unhide HL1).cl
  go_wp2_with fail
  refine ((unhide H2) _).mono ?_
  rintro e w2 ⟨rfl, hb⟩
  have HL2 := hide ((unhide HL1).below hb)
  clear hb c0 c1 HL1
  go_wp2_with fail
  refine (lay_any B base out v ⟨#[y]⟩ w2 (unhide HL2).lr (by show out.length + 1 ≤ _; omega) (by show 1 ≤ 1; omega)).mono ?_
  rintro e w3 ⟨rfl, hl, hm⟩
  have HM := hide ((unhide HL2).mv.trans hm)
  have HLL := hide hl
  clear hl hm
  go_wp2
  go_ret2
  exact SPost.yes (unhide HM) (by simp) (unhide HLL)
/-! the digits behind a mark -/
set_option maxRecDepth 100000 in
set_option maxHeartbeats 1000000 in
theorem esc_two (nm : Bool) (s : ByteArray) (q : Nat) (b : UInt8) (B base : Nat) (out : List UInt8) (v : Value) (a : Ad) (u w : World) (h : Lr B base out v w) (hs : s.size ≤ 1000) (ho : out.length ≤ 1000) (hq : q ≤ s.size) (g : Glob a u) (hu : u.heap.size ≤ B) (hub : Below u.heap.size u w) (hh : nm = true → hv s q sE = false) (hx : C.und Cd.kH (pc s q 2) = (⟨#[b]⟩, 0)) :
    Calls Tryz.prog 130 #[rdv nm s, .int .i64 q, layv B] w (SPost a B base out q (some ([b], 2)) w) := by
  have HL := hide (Ln.new (nm := nm) (s := s) h)
  have HG := hide fun (W : World) (hl : Ln nm s B base out v w W) => hl.glob g hu hub
  have H2 : Hid (∀ W : World, Calls Tryz.prog 64 #[.agg #[.string s], .int .i64 q, .int .i64 ((q : Int) + 2)] W fun e w' => e = .returned (.string (pc s q 2)) ∧ Below W.heap.size W w') := hide fun W => piece_any s q 2 W hs hq (by omega)
  have H3 := hide fun (W : World) (gw : Glob a W) => C.unhex_any (pc s q 2) a.cd W gw.gc (by show (s.extract q _).size ≤ _; rw [ByteArray.size_extract]; omega)
  rw [hx] at H3
  have hq' : (q : Int) ≤ 1000 := by omega
  have hlt := h.lt
  clear h hx g hub
  generalize pc s q 2 = pq at *
  obtain ⟨c0, c1⟩ := (unhide HL).cl
  cases nm with
  | false =>
    go_enter Tryz.func130, Tryz.ntmps130
    go_wp2_with fail
    refine ((unhide H2) _).mono ?_
    rintro e w2 ⟨rfl, hb⟩
    replace HL := hide ((unhide HL).below hb)
    clear hb c0 c1
    go_wp2_with fail
    refine ((unhide H3) _ ((unhide HG) _ (unhide HL))).mono ?_
    rintro e w3 ⟨rfl, hb⟩
    replace HL := hide ((unhide HL).below hb)
    clear hb
    go_wp2_with fail
    refine (lay_any B base out v ⟨#[b]⟩ w3 (unhide HL).lr (by show out.length + 1 ≤ _; omega) (by show 1 ≤ 1; omega)).mono ?_
    rintro e w4 ⟨rfl, hl, hm⟩
    have HM := hide ((unhide HL).mv.trans hm)
    have HLL := hide hl
    clear hl hm
    go_wp2
    go_ret2
    exact SPost.yes (unhide HM) (by simp) (unhide HLL)
  | true =>
    have H1 := hide fun W b hb => has_new s q sE W #[.int .u8 92, .int .u8 34, .int .u8 43, .int .u8 44, .int .u8 59, .int .u8 60, .int .u8 62, .int .u8 32, .int .u8 35, .int .u8 61] 5 10 b rfl rfl (by decide) hb
    rw [hh rfl] at H1
    go_enter Tryz.func130, Tryz.ntmps130
    go_wp2_with fail
    refine ((unhide H1) _ _ (by simp)).mono ?_
    rintro e w1 ⟨rfl, hb⟩
    replace HL := hide ((unhide HL).below hb)
    clear hb c0 c1
    obtain ⟨c0, c1⟩ := (unhide HL).cl
    go_wp2_with fail
    refine ((unhide H2) _).mono ?_
    rintro e w2 ⟨rfl, hb⟩
    replace HL := hide ((unhide HL).below hb)
    clear hb c0 c1
    go_wp2_with fail
    refine ((unhide H3) _ ((unhide HG) _ (unhide HL))).mono ?_
    rintro e w3 ⟨rfl, hb⟩
    replace HL := hide ((unhide HL).below hb)
    clear hb
    go_wp2_with fail
    refine (lay_any B base out v ⟨#[b]⟩ w3 (unhide HL).lr (by show out.length + 1 ≤ _; omega) (by show 1 ≤ 1; omega)).mono ?_
    rintro e w4 ⟨rfl, hl, hm⟩
    have HM := hide ((unhide HL).mv.trans hm)
    have HLL := hide hl
    clear hl hm
    go_wp2
    go_ret2
    exact SPost.yes (unhide HM) (by simp) (unhide HLL)
set_option maxRecDepth 100000 in
set_option maxHeartbeats 1000000 in
theorem esc_no50 (nm : Bool) (s : ByteArray) (q : Nat) (B base : Nat) (out : List UInt8) (v : Value) (a : Ad) (u w : World) (h : Lr B base out v w) (hs : s.size ≤ 1000) (hq : q ≤ s.size) (g : Glob a u) (hu : u.heap.size ≤ B) (hub : Below u.heap.size u w) (hh : nm = true → hv s q sE = false) (hx : C.und Cd.kH (pc s q 2) = (⟨#[]⟩, 50)) :
    Calls Tryz.prog 130 #[rdv nm s, .int .i64 q, layv B] w (SPost a B base out q (none) w) := by
  have HL := hide (Ln.new (nm := nm) (s := s) h)
  have HG := hide fun (W : World) (hl : Ln nm s B base out v w W) => hl.glob g hu hub
  have H2 : Hid (∀ W : World, Calls Tryz.prog 64 #[.agg #[.string s], .int .i64 q, .int .i64 ((q : Int) + 2)] W fun e w' => e = .returned (.string (pc s q 2)) ∧ Below W.heap.size W w') := hide fun W => piece_any s q 2 W hs hq (by omega)
  have H3 := hide fun (W : World) (gw : Glob a W) => C.unhex_any (pc s q 2) a.cd W gw.gc (by show (s.extract q _).size ≤ _; rw [ByteArray.size_extract]; omega)
  rw [hx] at H3
  have hq' : (q : Int) ≤ 1000 := by omega
  have hlt := h.lt
  clear h hx g hub
  generalize pc s q 2 = pq at *
  obtain ⟨c0, c1⟩ := (unhide HL).cl
  cases nm with
  | false =>
    go_enter Tryz.func130, Tryz.ntmps130
    go_wp2_with fail
    refine ((unhide H2) _).mono ?_
    rintro e w2 ⟨rfl, hb⟩
    replace HL := hide ((unhide HL).below hb)
    clear hb c0 c1
    go_wp2_with fail
    refine ((unhide H3) _ ((unhide HG) _ (unhide HL))).mono ?_
    rintro e w3 ⟨rfl, hb⟩
    replace HL := hide ((unhide HL).below hb)
    clear hb
    have cm := ((unhide HG) _ (unhide HL)).mr
    have cm' : w3.drew.cell? ⟨7, 0, none⟩ = some (.iface 219 (.pointer (some a.m))) := cm
    go_wp2
    go_quiet (fail)
    go_wp2
    go_ret2
    have hL := fun n => (unhide HL).below (U.below_drewN (Below.refl _ _) n)
    exact SPost.no (hL _).mv rfl (.inr (.inl ⟨_, rfl⟩)) ⟨v, (hL _).lr⟩
  | true =>
    have H1 := hide fun W b hb => has_new s q sE W #[.int .u8 92, .int .u8 34, .int .u8 43, .int .u8 44, .int .u8 59, .int .u8 60, .int .u8 62, .int .u8 32, .int .u8 35, .int .u8 61] 5 10 b rfl rfl (by decide) hb
    rw [hh rfl] at H1
    go_enter Tryz.func130, Tryz.ntmps130
    go_wp2_with fail
    refine ((unhide H1) _ _ (by simp)).mono ?_
    rintro e w1 ⟨rfl, hb⟩
    replace HL := hide ((unhide HL).below hb)
    clear hb c0 c1
    obtain ⟨c0, c1⟩ := (unhide HL).cl
    go_wp2_with fail
    refine ((unhide H2) _).mono ?_
    rintro e w2 ⟨rfl, hb⟩
    replace HL := hide ((unhide HL).below hb)
    clear hb c0 c1
    go_wp2_with fail
    refine ((unhide H3) _ ((unhide HG) _ (unhide HL))).mono ?_
    rintro e w3 ⟨rfl, hb⟩
    replace HL := hide ((unhide HL).below hb)
    clear hb
    have cm := ((unhide HG) _ (unhide HL)).mr
    have cm' : w3.drew.cell? ⟨7, 0, none⟩ = some (.iface 219 (.pointer (some a.m))) := cm
    go_wp2
    go_quiet (fail)
    go_wp2
    go_ret2
    have hL := fun n => (unhide HL).below (U.below_drewN (Below.refl _ _) n)
    exact SPost.no (hL _).mv rfl (.inr (.inl ⟨_, rfl⟩)) ⟨v, (hL _).lr⟩
set_option maxRecDepth 100000 in
set_option maxHeartbeats 1000000 in
theorem esc_no0 (nm : Bool) (s : ByteArray) (q : Nat) (B base : Nat) (out : List UInt8) (v : Value) (a : Ad) (u w : World) (h : Lr B base out v w) (hs : s.size ≤ 1000) (hq : q ≤ s.size) (g : Glob a u) (hu : u.heap.size ≤ B) (hub : Below u.heap.size u w) (hh : nm = true → hv s q sE = false) (hx : C.und Cd.kH (pc s q 2) = (⟨#[]⟩, 0)) :
    Calls Tryz.prog 130 #[rdv nm s, .int .i64 q, layv B] w (SPost a B base out q (none) w) := by
  have HL := hide (Ln.new (nm := nm) (s := s) h)
  have HG := hide fun (W : World) (hl : Ln nm s B base out v w W) => hl.glob g hu hub
  have H2 : Hid (∀ W : World, Calls Tryz.prog 64 #[.agg #[.string s], .int .i64 q, .int .i64 ((q : Int) + 2)] W fun e w' => e = .returned (.string (pc s q 2)) ∧ Below W.heap.size W w') := hide fun W => piece_any s q 2 W hs hq (by omega)
  have H3 := hide fun (W : World) (gw : Glob a W) => C.unhex_any (pc s q 2) a.cd W gw.gc (by show (s.extract q _).size ≤ _; rw [ByteArray.size_extract]; omega)
  rw [hx] at H3
  have hq' : (q : Int) ≤ 1000 := by omega
  have hlt := h.lt
  clear h hx g hub
  generalize pc s q 2 = pq at *
  obtain ⟨c0, c1⟩ := (unhide HL).cl
  cases nm with
  | false =>
    go_enter Tryz.func130, Tryz.ntmps130
    go_wp2_with fail
    refine ((unhide H2) _).mono ?_
    rintro e w2 ⟨rfl, hb⟩
    replace HL := hide ((unhide HL).below hb)
    clear hb c0 c1
    go_wp2_with fail
    refine ((unhide H3) _ ((unhide HG) _ (unhide HL))).mono ?_
    rintro e w3 ⟨rfl, hb⟩
    replace HL := hide ((unhide HL).below hb)
    clear hb
    have cm := ((unhide HG) _ (unhide HL)).mr
    have cm' : w3.drew.cell? ⟨7, 0, none⟩ = some (.iface 219 (.pointer (some a.m))) := cm
    go_wp2
    go_quiet (fail)
    go_wp2
    go_ret2
    have hL := fun n => (unhide HL).below (U.below_drewN (Below.refl _ _) n)
    exact SPost.no (hL _).mv rfl (.inr (.inl ⟨_, rfl⟩)) ⟨v, (hL _).lr⟩
  | true =>
    have H1 := hide fun W b hb => has_new s q sE W #[.int .u8 92, .int .u8 34, .int .u8 43, .int .u8 44, .int .u8 59, .int .u8 60, .int .u8 62, .int .u8 32, .int .u8 35, .int .u8 61] 5 10 b rfl rfl (by decide) hb
    rw [hh rfl] at H1
    go_enter Tryz.func130, Tryz.ntmps130
    go_wp2_with fail
    refine ((unhide H1) _ _ (by simp)).mono ?_
    rintro e w1 ⟨rfl, hb⟩
    replace HL := hide ((unhide HL).below hb)
    clear hb c0 c1
    obtain ⟨c0, c1⟩ := (unhide HL).cl
    go_wp2_with fail
    refine ((unhide H2) _).mono ?_
    rintro e w2 ⟨rfl, hb⟩
    replace HL := hide ((unhide HL).below hb)
    clear hb c0 c1
    go_wp2_with fail
    refine ((unhide H3) _ ((unhide HG) _ (unhide HL))).mono ?_
    rintro e w3 ⟨rfl, hb⟩
    replace HL := hide ((unhide HL).below hb)
    clear hb
    have cm := ((unhide HG) _ (unhide HL)).mr
    have cm' : w3.drew.cell? ⟨7, 0, none⟩ = some (.iface 219 (.pointer (some a.m))) := cm
    go_wp2
    go_quiet (fail)
    go_wp2
    go_ret2
    have hL := fun n => (unhide HL).below (U.below_drewN (Below.refl _ _) n)
    exact SPost.no (hL _).mv rfl (.inr (.inl ⟨_, rfl⟩)) ⟨v, (hL _).lr⟩

theorem pc_data (s : ByteArray) (q k : Nat) : (pc s q k).data.toList = (s.data.toList.drop q).take k := by
  unfold pc
  rw [ByteArray.data_extract, Array.toList_extract, List.extract_eq_take_drop]
  have hl : (s.data.toList.drop q).length = s.size - q := by rw [List.length_drop, Array.length_toList]; rfl
  by_cases h : q + k ≤ s.size
  · rw [Nat.min_eq_left h, Nat.add_sub_cancel_left]
  · rw [Nat.min_eq_right (by omega), List.take_of_length_le (by omega), List.take_of_length_le (by omega)]
theorem und_some {t : ByteArray} {l : List UInt8} (h : Cd.dec Cd.kH t.data.toList = some l) : C.und Cd.kH t = (⟨l.toArray⟩, 0) := by
  unfold C.und
  rw [h]
theorem und_none {t : ByteArray} (h : Cd.dec Cd.kH t.data.toList = none) : C.und Cd.kH t = (⟨#[]⟩, 50) := by
  unfold C.und
  rw [h]
theorem drop_at {s : ByteArray} {q : Nat} (h : q < s.size) : s.data.toList.drop q = s[q] :: s.data.toList.drop (q + 1) := by
  have hl : q < s.data.toList.length := by simpa using h
  rw [List.drop_eq_getElem_cons hl]
  rfl
theorem drop_out {s : ByteArray} {q : Nat} (h : ¬ q < s.size) : s.data.toList.drop q = [] := List.drop_of_length_le (by have e : s.data.toList.length = s.size := Array.length_toList; omega)
theorem esc1_two {nm : Bool} {y z : UInt8} {r : List UInt8} (h : (nm && sE.contains y) = false) : esc1 nm (y :: z :: r) = match Cd.nh y, Cd.nh z with | some a, some b => some ([UInt8.ofNat (16 * a + b)], 2) | _, _ => none := by
  simp only [esc1, h, Bool.false_eq_true, if_false]
  cases Cd.nh y <;> cases Cd.nh z <;> rfl
theorem esc1_one {nm : Bool} {y : UInt8} (h : (nm && sE.contains y) = false) : esc1 nm [y] = none := by
  simp only [esc1, h, Bool.false_eq_true, if_false]
/-- what escaped answers. -/
theorem escaped_any (nm : Bool) (s : ByteArray) (q B base : Nat) (out : List UInt8) (v : Value) (a : Ad) (u w : World) (h : Lr B base out v w) (hs : s.size ≤ 1000) (ho : out.length ≤ 1000) (hq : q ≤ s.size) (g : Glob a u) (hu : u.heap.size ≤ B) (hub : Below u.heap.size u w) :
    Calls Tryz.prog 130 #[rdv nm s, .int .i64 q, layv B] w (SPost a B base out q (esc1 nm (s.data.toList.drop q)) w) := by
  by_cases h1 : q < s.size
  · rw [drop_at h1]
    by_cases hm : (nm && sE.contains s[q]) = true
    · rw [esc1_mark _ hm]
      rw [Bool.and_eq_true] at hm
      obtain ⟨rfl, hm⟩ := hm
      exact esc_mark s q B base out v a w h hs ho h1 hm
    · have hm' : (nm && sE.contains s[q]) = false := by simpa using hm
      have hh : nm = true → hv s q sE = false := fun e => by rw [hv_at sE h1]; subst e; simpa using hm'
      by_cases h2 : q + 1 < s.size
      · rw [drop_at h2, esc1_two hm']
        have hd : Cd.dec Cd.kH (pc s q 2).data.toList = Cd.dec Cd.kH [s[q], s[q + 1]] := by rw [pc_data, drop_at h1, drop_at h2]; rfl
        rw [dec_two] at hd
        cases e1 : Cd.nh s[q] with
        | none =>
          simp only [e1] at hd ⊢
          exact esc_no50 nm s q B base out v a u w h hs hq g hu hub hh (und_none hd)
        | some i =>
          cases e2 : Cd.nh s[q + 1] with
          | none =>
            simp only [e1, e2] at hd ⊢
            exact esc_no50 nm s q B base out v a u w h hs hq g hu hub hh (und_none hd)
          | some j =>
            simp only [e1, e2] at hd ⊢
            exact esc_two nm s q _ B base out v a u w h hs ho hq g hu hub hh (und_some hd)
      · rw [drop_out h2, esc1_one hm']
        exact esc_no50 nm s q B base out v a u w h hs hq g hu hub hh (und_none (by rw [pc_data, drop_at h1, drop_out h2]; exact dec_one _))
  · rw [drop_out h1]
    exact esc_no0 nm s q B base out v a u w h hs hq g hu hub (fun _ => hv_no sE h1) (und_some (l := []) (by rw [pc_data, drop_out h1]; rfl))

theorem SPost.from {a : Ad} {B base : Nat} {out : List UInt8} {q : Nat} {r : Option (List UInt8 × Nat)} {w w1 w' : World} {e : Ending} (hm : Mv B base w w1) (h : SPost a B base out q r w1 e w') : SPost a B base out q r w e w' := ⟨hm.trans h.1, h.2⟩
set_option maxRecDepth 100000 in
set_option maxHeartbeats 1000000 in
theorem step_mark (nm : Bool) (s : ByteArray) (p B base : Nat) (out : List UInt8) (v : Value) (a : Ad) (u w : World) (h : Lr B base out v w) (hs : s.size ≤ 1000) (ho : out.length ≤ 1000) (hp : p < s.size) (g : Glob a u) (hu : u.heap.size ≤ B) (hub : Below u.heap.size u w) :
    Calls Tryz.prog 123 #[rdv nm s, .int .i64 p, .int .u8 92, layv B] w (SPost a B base out (p + 1) (esc1 nm (s.data.toList.drop (p + 1))) w) := by
  have hL := Ln.new (nm := nm) (s := s) h
  have hG := hub.trans ((hL.mv.below hL.lr.lt).mono hu)
  have H := escaped_any nm s (p + 1) B base out v a u _ hL.lr hs ho hp g hu hG
  have HM := hide hL.mv
  obtain ⟨c0, c1⟩ := hL.cl
  have hp' : (p : Int) ≤ 1000 := by omega
  have e1 : (((p + 1 : Nat)) : Int) = (p : Int) + 1 := by omega
  rw [e1] at H
  clear hL hG g hub h e1
  generalize esc1 nm (s.data.toList.drop (p + 1)) = r at *
  cases r with
  | none =>
    have H' := hide (H.mono (R' := fun e w' => ∃ x, e = .returned (.tuple #[.int .i64 0, .iface 175 x]) ∧ Hid (SPost a B base out (p + 1) none (w.alloc (rbx nm s)) e w')) (fun e w' hp => by obtain ⟨x, he, _⟩ := hp.2; exact ⟨x, he, hp⟩))
    clear H
    go_enter Tryz.func123, Tryz.ntmps123
    go_wp2_with fail
    refine (unhide H').mono ?_
    rintro e w1 ⟨x, rfl, hp⟩
    go_wp2
    go_ret2
    exact SPost.from (unhide HM) (unhide hp)
  | some tk =>
    obtain ⟨t, k⟩ := tk
    have H' := hide (H.mono (R' := fun e w' => e = .returned (.tuple #[.int .i64 ((p + 1 + k : Nat) : Int), .nilIface]) ∧ Hid (SPost a B base out (p + 1) (some (t, k)) (w.alloc (rbx nm s)) e w')) (fun e w' hp => ⟨hp.2.1, hp⟩))
    clear H
    generalize ((p + 1 + k : Nat) : Int) = N at *
    go_enter Tryz.func123, Tryz.ntmps123
    go_wp2_with fail
    refine (unhide H').mono ?_
    rintro e w1 ⟨rfl, hp⟩
    go_wp2
    go_ret2
    exact SPost.from (unhide HM) (unhide hp)
set_option maxRecDepth 100000 in
set_option maxHeartbeats 1000000 in
theorem step_bare (nm : Bool) (s : ByteArray) (p B base : Nat) (out : List UInt8) (v : Value) (a : Ad) (w : World) (h : Lr B base out v w) (hs : s.size ≤ 1000) (ho : out.length ≤ 1000) (hp : p < s.size) (y : UInt8) (hy : s[p] = y) (h92 : y ≠ 92) (b : Bool) (hb : (y == 0 || res nm s.size p y) = b) :
    Calls Tryz.prog 123 #[rdv nm s, .int .i64 p, .int .u8 (y.toNat : Int), layv B] w (SPost a B base out (p + 1) (if b = true then none else some ([y], 0)) w) := by
  have HL := hide (Ln.new (nm := nm) (s := s) h)
  obtain ⟨c0, c1⟩ := (unhide HL).cl
  have hp' : (p : Int) ≤ 1000 := by omega
  have h92' : ((y.toNat : Int) == 92) = false := by
    have := beq_u8 y 92 h92
    exact this
  have H1 := hide fun W => reserved_any nm s p W hs hp
  have H2 := hide fun W => piece_one s p W hs hp
  rw [hy] at H1 H2
  clear h hy h92
  by_cases h0 : y = 0
  · subst h0
    obtain rfl : b = true := by rw [← hb]; rfl
    rw [if_pos rfl]
    clear hb H1 H2
    go_enter Tryz.func123, Tryz.ntmps123
    go_wp2
    go_ret2
    exact SPost.no (unhide HL).mv rfl (.inr (.inr ⟨_, _, rfl⟩)) ⟨v, (unhide HL).lr⟩
  · have h0' : ((y.toNat : Int) == 0) = false := beq_u8 y 0 h0
    obtain rfl : res nm s.size p y = b := by rw [← hb]; simp [h0]
    clear hb h0
    generalize res nm s.size p y = b at *
    cases b with
    | true =>
      rw [if_pos rfl]
      go_enter Tryz.func123, Tryz.ntmps123
      go_wp2_with fail
      refine ((unhide H1) _).mono ?_
      rintro e w1 ⟨rfl, hb⟩
      replace HL := hide ((unhide HL).below hb)
      clear hb c0 c1
      go_wp2
      go_ret2
      exact SPost.no (unhide HL).mv rfl (.inr (.inr ⟨_, _, rfl⟩)) ⟨v, (unhide HL).lr⟩
    | false =>
      rw [if_neg (by simp)]
      go_enter Tryz.func123, Tryz.ntmps123
      go_wp2_with fail
      refine ((unhide H1) _).mono ?_
      rintro e w1 ⟨rfl, hb⟩
      replace HL := hide ((unhide HL).below hb)
      clear hb c0 c1
      obtain ⟨c0, c1⟩ := (unhide HL).cl
      go_wp2_with fail
      refine ((unhide H2) _).mono ?_
      rintro e w2 ⟨rfl, hb⟩
      replace HL := hide ((unhide HL).below hb)
      clear hb c0 c1
      go_wp2_with fail
      refine (lay_any B base out v ⟨#[y]⟩ w2 (unhide HL).lr (by show out.length + 1 ≤ _; omega) (by show 1 ≤ 1; omega)).mono ?_
      rintro e w3 ⟨rfl, hl, hm⟩
      have HM := hide ((unhide HL).mv.trans hm)
      have HLL := hide hl
      clear hl hm
      go_wp2
      go_ret2
      exact SPost.yes (unhide HM) (by simp) (unhide HLL)
/-- what step answers. -/
theorem step_any (nm : Bool) (s : ByteArray) (p B base : Nat) (out : List UInt8) (v : Value) (a : Ad) (u w : World) (h : Lr B base out v w) (hs : s.size ≤ 1000) (ho : out.length ≤ 1000) (hp : p < s.size) (g : Glob a u) (hu : u.heap.size ≤ B) (hub : Below u.heap.size u w) :
    Calls Tryz.prog 123 #[rdv nm s, .int .i64 p, .int .u8 (s[p].toNat : Int), layv B] w (SPost a B base out (p + 1) (stp nm s.size p s[p] (s.data.toList.drop (p + 1))) w) := by
  unfold stp
  by_cases h92 : s[p] = 92
  · rw [if_pos h92, h92]
    exact step_mark nm s p B base out v a u w h hs ho hp g hu hub
  · rw [if_neg h92]
    exact step_bare nm s p B base out v a w h hs ho hp _ rfl h92 _ rfl
end Go.Proofs.YthfcnjcpanoldaaGreatDoor.E

/-
  What esc.reader.read answers: the value that a text tells. Conditions: the package-level variables hold what the program's text lays ('Glob').
-/
namespace Go.Proofs.YthfcnjcpanoldaaGreatDoor.E
open Go Go.RowKit Go.Shelf Ec
attribute [local go_sem] Oper.semAt_some

/-- what is read of places, and up to which place. -/
def rfd (nm : Bool) {s : ByteArray} : List UInt8 → Nat → List (Pc s) → Option (List UInt8)
  | out, _, [] => some out
  | out, dn, x :: l => if x.p < dn then rfd nm out dn l else match stp nm s.size x.p (s[x.p]'x.hp) (s.data.toList.drop (x.p + 1)) with
    | none => none
    | some (t, k) => rfd nm (out ++ t) (x.p + 1 + k) l
theorem rfd_rdk (nm : Bool) (s : ByteArray) : ∀ (f p : Nat) (out : List UInt8) (dn : Nat), s.size ≤ p + f → rfd nm out dn (C.al s 1 f p) = (rdk nm s.size (dn - p) p (s.data.toList.drop p)).map (out ++ ·)
  | 0, p, out, dn, hf => by
    rw [drop_out (by omega), C.al, rfd, rdk]
    simp
  | f + 1, p, out, dn, hf => by
    by_cases h : p < s.size
    · rw [C.al, dif_pos h, rfd, drop_at h]
      by_cases hd : p < dn
      · rw [if_pos hd, rfd_rdk nm s f (p + 1) out dn (by omega)]
        obtain ⟨k, hk⟩ : ∃ k, dn - p = k + 1 := ⟨dn - p - 1, by omega⟩
        rw [hk, rdk, show dn - (p + 1) = k by omega]
      · rw [if_neg hd, show dn - p = 0 by omega, rdk_cons]
        cases hs : stp nm s.size p s[p] (s.data.toList.drop (p + 1)) with
        | none => rfl
        | some tk =>
          obtain ⟨t, k⟩ := tk
          simp only
          rw [rfd_rdk nm s f (p + 1) (out ++ t) (p + 1 + k) (by omega), show p + 1 + k - (p + 1) = k by omega, Option.map_map]
          congr 1
          funext l
          simp
    · rw [C.al, dif_neg h, drop_out h, rfd, rdk]
      simp
theorem rfd_all (nm : Bool) (s : ByteArray) : rfd nm [] 0 (all s) = rdk nm s.size 0 0 s.data.toList := by
  have := rfd_rdk nm s s.size 0 [] 0 (by omega)
  rw [List.drop_zero] at this
  have e : all s = C.al s 1 s.size 0 := rfl
  rw [e, this]
  simp
/-- so much has been read. -/
def Fd (nm : Bool) {s : ByteArray} (pre : List (Pc s)) (out : List UInt8) (dn : Nat) : Prop := out.length ≤ pre.length ∧ dn ≤ 2000 ∧ ∀ tail, rfd nm [] 0 (pre ++ tail) = rfd nm out dn tail
theorem fd_nil (nm : Bool) (s : ByteArray) : Fd nm ([] : List (Pc s)) [] 0 := ⟨Nat.le_refl _, Nat.zero_le _, fun _ => rfl⟩
theorem Fd.skip {nm : Bool} {s : ByteArray} {pre : List (Pc s)} {out : List UInt8} {dn : Nat} {x : Pc s} (h : Fd nm pre out dn) (hx : x.p < dn) : Fd nm (pre ++ [x]) out dn :=
  ⟨by have := h.1; simp; omega, h.2.1, fun tail => by rw [List.append_assoc, h.2.2, List.singleton_append, rfd, if_pos hx]⟩
theorem Fd.snoc {nm : Bool} {s : ByteArray} {pre : List (Pc s)} {out t : List UInt8} {dn k : Nat} {x : Pc s} (h : Fd nm pre out dn) (hs : s.size ≤ 1000) (hx : ¬ x.p < dn) (hst : stp nm s.size x.p (s[x.p]'x.hp) (s.data.toList.drop (x.p + 1)) = some (t, k)) : Fd nm (pre ++ [x]) (out ++ t) (x.p + 1 + k) := by
  have hl := stp_len hst
  have hp := x.hp
  refine ⟨by have := h.1; simp; omega, by omega, fun tail => ?_⟩
  rw [List.append_assoc, h.2.2, List.singleton_append, rfd, if_neg hx, hst]
theorem Fd.fail {nm : Bool} {s : ByteArray} {pre : List (Pc s)} {out : List UInt8} {dn : Nat} {x : Pc s} (h : Fd nm pre out dn) (hx : ¬ x.p < dn) (hst : stp nm s.size x.p (s[x.p]'x.hp) (s.data.toList.drop (x.p + 1)) = none) (tail : List (Pc s)) : rfd nm [] 0 (pre ++ [x] ++ tail) = none := by
  rw [List.append_assoc, h.2.2, List.singleton_append, rfd, if_neg hx, hst]

/-- what lies in memory while the bytes are gone through. -/
structure Rin (nm : Bool) (s : ByteArray) (A : Nat) (out : List UInt8) (v err : Value) (dn : Nat) (w W : World) : Prop where
  bx : W.heap[w.heap.size]? = some (rbx nm s)
  lr : Lr A (A + 5) out v W
  bl : W.heap[A + 1]? = some (.cells #[layv A] 176)
  be : W.heap[A + 2]? = some (.cells #[err] 45)
  bd : W.heap[A + 3]? = some (.cells #[.int .i64 (dn : Int)] 3)
  bel : Below w.heap.size w W
  lt : w.heap.size < A
theorem Rin.cl {nm : Bool} {s : ByteArray} {A : Nat} {out : List UInt8} {v err : Value} {dn : Nat} {w W : World} (h : Rin nm s A out v err dn w W) :
    (W.cell? ⟨w.heap.size, 0, none⟩ = some (.string s) ∧ W.cell? ⟨w.heap.size, 1, none⟩ = some (kv nm) ∧ W.cell? ⟨A + 1, 0, none⟩ = some (layv A)) ∧ W.cell? ⟨A, 0, none⟩ = some v ∧ W.cell? ⟨A + 2, 0, none⟩ = some err ∧ W.cell? ⟨A + 3, 0, none⟩ = some (.int .i64 (dn : Int)) ∧ W.frozen? ⟨A + 2, 0, none⟩ = false ∧ W.frozen? ⟨A + 3, 0, none⟩ = false := by
  have h1 := h.bx
  have h2 := h.lr.box
  have h3 := h.bl
  have h4 := h.be
  have h5 := h.bd
  simp [World.cell?, World.frozen?, h1, h2, h3, h4, h5]
theorem Rin.mv {nm : Bool} {s : ByteArray} {A : Nat} {out out' : List UInt8} {v v' err : Value} {dn : Nat} {w W W' : World} (h : Rin nm s A out v err dn w W) (hm : Mv A (A + 5) W W') (hl : Lr A (A + 5) out' v' W') : Rin nm s A out' v' err dn w W' := by
  have hlt := h.lt
  exact ⟨(hm.block _ (by omega) (by omega)).trans h.bx, hl, (hm.block _ (by omega) (by omega)).trans h.bl, (hm.block _ (by omega) (by omega)).trans h.be, (hm.block _ (by omega) (by omega)).trans h.bd, h.bel.trans ((hm.below (by omega)).mono (by omega)), hlt⟩
theorem Rin.grown {nm : Bool} {s : ByteArray} {A : Nat} {out : List UInt8} {v err : Value} {dn : Nat} {w W W' : World} {row : Option Nat} (h : Rin nm s A out v err dn w W) (hg : W.grownBy W' row) (hr : ∀ r, row = some r → A + 5 ≤ r ∧ ∃ o, W.heap[r]? = some o ∧ o.isCells = false) : Rin nm s A out v err dn w W' := by
  have hz := h.lr.le
  have hk : ∀ k, k < A + 5 → W'.heap[k]? = W.heap[k]? := fun k hk => hg.block k (by omega) (fun e => by have := (hr k e.symm).1; omega)
  have hlt := h.lt
  refine ⟨(hk _ (by omega)).trans h.bx, ⟨(hk _ (by omega)).trans h.lr.box, h.lr.own.kept hg ?_, h.lr.lt, Nat.le_trans hz hg.size⟩, (hk _ (by omega)).trans h.bl, (hk _ (by omega)).trans h.be, (hk _ (by omega)).trans h.bd, ⟨hg.os.trans h.bel.os, hg.tape.trans h.bel.tape, hg.output.trans h.bel.output, Nat.le_trans h.bel.size hg.size, fun k hk' => (hk k (by omega)).trans (h.bel.block k hk')⟩, hlt⟩
  rcases h.lr.own.2 with ⟨rfl, _⟩ | ⟨g, cap, cur, rfl, _, hgb, _⟩
  · exact .inl rfl
  · refine .inr fun e' => ?_
    obtain ⟨_, o, ho, hc⟩ := hr g (by simpa [Value.ownBlock] using e'.symm)
    rw [hgb] at ho; cases ho; cases hc
theorem Rin.below {nm : Bool} {s : ByteArray} {A : Nat} {out : List UInt8} {v err : Value} {dn : Nat} {w W W' : World} (h : Rin nm s A out v err dn w W) (hb : Below W.heap.size W W') : Rin nm s A out v err dn w W' := h.mv (Mv.of h.lr.le hb) (h.lr.below hb)
theorem Rin.setE {nm : Bool} {s : ByteArray} {A : Nat} {out : List UInt8} {v err : Value} {dn : Nat} {w W : World} (h : Rin nm s A out v err dn w W) (m : Value) : Rin nm s A out v m dn w (W.setCell ⟨A + 2, 0, none⟩ m) := by
  have o : ∀ k, k ≠ A + 2 → (W.setCell ⟨A + 2, 0, none⟩ m).heap[k]? = W.heap[k]? := fun k hk => Below.heap_setCell _ _ _ _ hk
  have hlt := h.lt
  exact ⟨(o _ (by omega)).trans h.bx, ⟨(o _ (by omega)).trans h.lr.box, ownsRow_setCell_below h.lr.own (by show A + 2 < _; omega) _, h.lr.lt, by simp; exact h.lr.le⟩, (o _ (by omega)).trans h.bl, heap_setCell_same W _ 0 _ _ _ h.be, (o _ (by omega)).trans h.bd, h.bel.setCell (by show w.heap.size ≤ A + 2; omega) _, hlt⟩
theorem Rin.setD {nm : Bool} {s : ByteArray} {A : Nat} {out : List UInt8} {v err : Value} {dn : Nat} {w W : World} (h : Rin nm s A out v err dn w W) (d : Nat) : Rin nm s A out v err d w (W.setCell ⟨A + 3, 0, none⟩ (.int .i64 (d : Int))) := by
  have o : ∀ k, k ≠ A + 3 → (W.setCell ⟨A + 3, 0, none⟩ (.int .i64 (d : Int))).heap[k]? = W.heap[k]? := fun k hk => Below.heap_setCell _ _ _ _ hk
  have hlt := h.lt
  exact ⟨(o _ (by omega)).trans h.bx, ⟨(o _ (by omega)).trans h.lr.box, ownsRow_setCell_below h.lr.own (by show A + 3 < _; omega) _, h.lr.lt, by simp; exact h.lr.le⟩, (o _ (by omega)).trans h.bl, (o _ (by omega)).trans h.be, heap_setCell_same W _ 0 _ _ _ h.bd, h.bel.setCell (by show w.heap.size ≤ A + 3; omega) _, hlt⟩
/-- what a round keeps for others. -/
def Kr (A : Nat) (W W' : World) : Prop := KeepsOthers W W' ∧ C.Two (A + 4) (A + 4) W W'
theorem Kr.of {A : Nat} {W W' : World} (h : Mv A (A + 5) W W') : Kr A W W' := ⟨h.keeps, h.block _ (by omega) (by omega), h.block _ (by omega) (by omega)⟩
theorem Kr.trans {A : Nat} {U V W : World} (h : Kr A U V) (k : Kr A V W) : Kr A U W := ⟨h.1.trans k.1, h.2.trans k.2⟩
theorem Kr.set {A i : Nat} (W : World) (v : Value) (hi : i < 4) : Kr A W (W.setCell ⟨A + i, 0, none⟩ v) :=
  ⟨KeepsOthers.setCell _ _ _, Below.heap_setCell _ _ _ _ (by show A + 4 ≠ A + i; omega), Below.heap_setCell _ _ _ _ (by show A + 4 ≠ A + i; omega)⟩

/-- what is read. -/
def rd (nm : Bool) (s : ByteArray) : Option (List UInt8) := if (U.bad s).isNone then rdk nm s.size 0 0 s.data.toList else none
def ReadPost (nm : Bool) (s : ByteArray) (a : Ad) (w : World) (e : Ending) (w' : World) : Prop := Below w.heap.size w w' ∧
  ((∃ t, rd nm s = some t ∧ e = .returned (.tuple #[.string ⟨t.toArray⟩, .nilIface])) ∨ (rd nm s = none ∧ ∃ v, e = .returned (.tuple #[.string ⟨#[]⟩, v]) ∧ IsErr a v))
def rinv (nm : Bool) (s : ByteArray) (A : Nat) (w : World) (pre : List (Pc s)) (W : World) : Prop := ∃ out v dn, Fd nm pre out dn ∧ Rin nm s A out v .nilIface dn w W
def rout (nm : Bool) (s : ByteArray) (A : Nat) (a : Ad) (w : World) (cd : Code) (pre : List (Pc s)) (W : World) : Prop := cd = .exit 0 ∧ ∃ l x out v dn dn' err, pre = l ++ [x] ∧ Fd nm l out dn ∧ ¬ x.p < dn ∧ stp nm s.size x.p (s[x.p]'x.hp) (s.data.toList.drop (x.p + 1)) = none ∧ IsErr a err ∧ Rin nm s A out v err dn' w W
theorem finR {w V : World} {D : Nat} {tmps : Array Value} {v u : Value} {R : Ending → World → Prop} (hV : V.heap[D]? = some (.deferred (some []))) (hD : w.heap.size ≤ D) (hb : Below w.heap.size w V) (t4 : tmps.getD 2 undef = v) (t5 : tmps.getD 3 undef = u)
    (hp : ∀ V', Below w.heap.size w V' → R (.returned (.tuple #[v, u])) V') :
    Exit.noGoto (bodyPostM Fence.wide 3 Tryz.prog Tryz.f114 R) Exit.ret { tmps, defers := [{ target := .collected D, args := #[] }] } V := by
  refine ⟨by simp, .inl ⟨_, _, rfl, run_takeDeferred hV, ?_⟩⟩
  refine ⟨.tuple #[v, u], ?_, hp _ (C.putObj_below hb hD)⟩
  subst t4
  subst t5
  simp [results, Tryz.results114, go_sem]
theorem finN {V : World} {tmps : Array Value} {v u : Value} {R : Ending → World → Prop} (t4 : tmps.getD 2 undef = v) (t5 : tmps.getD 3 undef = u) (hp : R (.returned (.tuple #[v, u])) V) :
    Exit.noGoto (bodyPostM Fence.wide 3 Tryz.prog Tryz.f114 R) Exit.ret { tmps, defers := [] } V := by
  refine ⟨.tuple #[v, u], ?_, hp⟩
  subst t4
  subst t5
  simp [results, Tryz.results114, go_sem]
theorem store_func (u W : World) (hW : W.heap.size = u.heap.size + 1) : (store ⟨u.heap.size + 1, 0, none⟩ (.func (.func 122) #[] #[.pointer (some ⟨u.heap.size, 0, none⟩)])).run Tryz.prog (W.alloc (.cells #[.nilFunc] 176)) = .ok () (W.alloc (.cells #[layv u.heap.size] 176)) := by
  rw [run_store Tryz.prog _ _ _ _ (by rfl), ← hW]
  simp
  rw [World.setCell_alloc_at _ _ _ _ _ rfl]
  simp
set_option linter.unusedSimpArgs false in
set_option maxRecDepth 100000 in
set_option maxHeartbeats 4000000 in
theorem read_any (nm : Bool) (s : ByteArray) (a : Ad) (w : World) (g : Glob a w) (hs : s.size ≤ 1000) :
    Calls Tryz.prog 114 #[rdv nm s] w (ReadPost nm s a w) := by
  refine (callsIn_wide (n := 3)).1 ?_
  refine callsIn_of_wp_marks Tryz.func114 rfl trivial ?_ rfl
  simp only [Tryz.ntmps114, List.size_toArray, List.length_cons, List.length_nil, Nat.reduceAdd, Nat.reduceSub, Array.replicate_succ, Array.replicate_zero, List.push_toArray, List.append_toArray, List.nil_append, List.cons_append]
  refine wpIn_wide.2 ?_
  have hmx : Tryz.prog.follows .mixedOrders = true := by kernel_rfl
  have gb := g.alloc (rbx nm s)
  have HBad := hide (U.bad_any s a.ut a.us _ gb.gu hs)
  have Hg := hide g
  have HB0 := hide ((Below.refl w.heap.size w).alloc (Nat.le_refl _) (rbx nm s))
  have Hx0 : Hid ((w.alloc (rbx nm s)).heap[w.heap.size]? = some (rbx nm s)) := hide (World.alloc_heap_new _ _)
  clear gb
  cases hbd : U.bad s with
  | some p =>
    rw [hbd] at HBad
    have Hr : Hid (rd nm s = none) := hide (by unfold rd; rw [hbd]; rfl)
    have hpp : (0 : Int) ≤ p := by omega
    clear hbd g
    unfold U.pv at HBad
    go_wp2
    refine wp_scope_straight ?_
    go_wp2_with fail
    refine (unhide HBad).mono ?_
    rintro e w1 ⟨rfl, hb⟩
    have HB1 := hide ((unhide HB0).trans (hb.mono (by simp)))
    have ct := ((unhide Hg).below (Nat.le_refl _) (unhide HB1)).tx
    clear hb
    have ct' : w1.drew.cell? ⟨6, 0, none⟩ = some (.iface 219 (.pointer (some a.t))) := ct
    go_wp2
    go_quiet (fail)
    go_wp2
    exact finN rfl rfl ⟨U.below_drewN (unhide HB1) _, .inr ⟨unhide Hr, _, rfl, .inl ⟨_, rfl⟩⟩⟩
  | none =>
    rw [hbd] at HBad
    have Hr : Hid (rd nm s = rdk nm s.size 0 0 s.data.toList) := hide (by unfold rd; rw [hbd]; rfl)
    clear hbd
    unfold U.pv at HBad
    go_wp2
    refine wp_scope_straight ?_
    go_wp2_with fail
    refine (unhide HBad).mono ?_
    rintro e w1 ⟨rfl, hb⟩
    have HB1 := hide ((unhide HB0).trans (hb.mono (by simp)))
    have Hx1 := hide ((hb.block _ (by simp)).trans (unhide Hx0))
    clear hb HB0 Hx0 HBad
    have c0 : w1.cell? ⟨w.heap.size, 0, none⟩ = some (.string s) := by have := unhide Hx1; simp [World.cell?, this]
    have hlt : w.heap.size < w1.heap.size := (Array.getElem?_eq_some_iff.1 (unhide Hx1)).1
    have c1 : ((((w1.alloc (.cells #[.slice none 0 0] 85)).alloc (.cells #[layv w1.heap.size] 176)).alloc (.cells #[.nilIface] 45)).alloc (.cells #[.int .i64 0] 3)).cell? ⟨w.heap.size, 0, none⟩ = some (.string s) := by
      rw [World.cell?_alloc_lt _ _ _ (by simp; omega), World.cell?_alloc_lt _ _ _ (by simp; omega), World.cell?_alloc_lt _ _ _ (by simp; omega), World.cell?_alloc_lt _ _ _ hlt]; exact c0
    have hst := store_func w1 (w1.alloc (.cells #[.slice none 0 0] 85)) (by simp)
    go_wp2
    refine wp_label ?_
    go_wp2_with fail
    refine (bytes_any s _).mono ?_
    rintro e w' ⟨rfl, rfl⟩
    go_wp2
    obtain ⟨A, hA⟩ : ∃ A, w1.heap.size = A := ⟨_, rfl⟩
    obtain ⟨W0, hW0⟩ : ∃ W0, W0 = ((((w1.alloc (.cells #[.slice none 0 0] 85)).alloc (.cells #[layv w1.heap.size] 176)).alloc (.cells #[.nilIface] 45)).alloc (.cells #[.int .i64 0] 3)).alloc (.cells #[.string s] 87) := ⟨_, rfl⟩
    have hz : W0.heap.size = A + 5 := by rw [hW0, ← hA]; simp
    have n1 : (w1.alloc (.cells #[.slice none 0 0] 85)).heap.size = A + 1 := by simp [hA]
    have n2 : ((w1.alloc (.cells #[.slice none 0 0] 85)).alloc (.cells #[layv w1.heap.size] 176)).heap.size = A + 2 := by simp [hA]
    have n3 : (((w1.alloc (.cells #[.slice none 0 0] 85)).alloc (.cells #[layv w1.heap.size] 176)).alloc (.cells #[.nilIface] 45)).heap.size = A + 3 := by simp [hA]
    have n4 : ((((w1.alloc (.cells #[.slice none 0 0] 85)).alloc (.cells #[layv w1.heap.size] 176)).alloc (.cells #[.nilIface] 45)).alloc (.cells #[.int .i64 0] 3)).heap.size = A + 4 := by simp [hA]
    have hSt : Rin nm s A [] (.slice none 0 0) .nilIface 0 w W0 := by
      refine ⟨?_, ⟨?_, World.ownsRow_nil _ _ _ _, by omega, by omega⟩, ?_, ?_, ?_, ?_, by omega⟩
      · rw [hW0, Below.heap_alloc _ _ _ (by omega), Below.heap_alloc _ _ _ (by omega), Below.heap_alloc _ _ _ (by omega), Below.heap_alloc _ _ _ (by omega), Below.heap_alloc _ _ _ (by omega)]; exact unhide Hx1
      · rw [hW0, Below.heap_alloc _ _ _ (by omega), Below.heap_alloc _ _ _ (by omega), Below.heap_alloc _ _ _ (by omega), Below.heap_alloc _ _ _ (by omega), ← hA]; exact World.alloc_heap_new _ _
      · rw [hW0, Below.heap_alloc _ _ _ (by omega), Below.heap_alloc _ _ _ (by omega), Below.heap_alloc _ _ _ (by omega), ← n1, ← hA]; exact World.alloc_heap_new _ _
      · rw [hW0, Below.heap_alloc _ _ _ (by omega), Below.heap_alloc _ _ _ (by omega), ← n2]; exact World.alloc_heap_new _ _
      · rw [hW0, Below.heap_alloc _ _ _ (by omega), ← n3]; exact World.alloc_heap_new _ _
      · rw [hW0]
        repeat (refine Below.alloc ?_ (by omega) _)
        exact unhide HB1
    have hBs : W0.cell? ⟨A + 4, 0, none⟩ = some (.string s) := by
      rw [hW0, World.cell?_alloc_at _ _ _ _ (by rw [n4])]
      rfl
    rw [← hW0]
    clear hW0 c1 hst n1 n2 n3 n4 c0 Hx1
    rw [hA] at hlt ⊢
    clear HB1 hA
    refine (wpIn_wide (n := 3)).1 ?_
    refine wpIn_rangeFunc_ownF rfl (by omega) (gf := 87) (lb := #[.pointer (some ⟨A + 4, 0, none⟩)]) rfl trivial (enters_of Tryz.func87 (by kernel_rfl) rfl)
      (bytes1_stops (3 - 1) (by omega) (A + 4) s W0 hs hBs) C.Two.trans (fun W l o o' hl h1 h2 h3 => C.Two.book (w := W0) (by omega) (by omega) W l o o' hl h1 h2 h3) (Below.refl _ _) (fun _ => rfl)
      (rinv nm s A w) (rout nm s A a w)
      (fun pre U1 U2 row hs hg hr => by
        obtain ⟨out, v, dn, h1, h⟩ := hs
        exact ⟨out, v, dn, h1, h.grown hg (fun r e => ⟨by have := (hr r e).1; omega, (hr r e).2⟩)⟩)
      (fun cd pre U1 U2 row hs hg hr => by
        obtain ⟨e1, l, x, out, v, dn, dn', err, h1, h2, h3, h4, h5, h⟩ := hs
        exact ⟨e1, l, x, out, v, dn, dn', err, h1, h2, h3, h4, h5, h.grown hg (fun r e => ⟨by have := (hr r e).1; omega, (hr r e).2⟩)⟩)
      ⟨[], _, 0, fd_nil nm s, hSt⟩
      (fun x => { tmps := #[rdv nm s, .pointer (some ⟨w.heap.size, 0, none⟩), .string ⟨#[]⟩, .nilIface, .int .i64 (-1), .pointer (some ⟨A, 0, none⟩), .pointer (some ⟨A + 1, 0, none⟩), .pointer (some ⟨A + 2, 0, none⟩), .pointer (some ⟨A + 3, 0, none⟩), .int .i64 x.p, .int .u8 ((s[x.p]'x.hp).toNat : Int), .pointer (some ⟨w.heap.size, 0, none⟩), .pointer (some ⟨w.heap.size, 0, none⟩), .string s, .int .i64 (-1), .int .i64 (-1), .bool false, undef, undef, undef, undef, layv A, .pointer (some ⟨w.heap.size, 0, none⟩), .agg #[.string s], .func (.func 87) #[] #[.pointer (some ⟨A + 4, 0, none⟩)], .int .i64 x.p, .int .u8 ((s[x.p]'x.hp).toNat : Int), undef, undef, undef, undef, undef, undef, undef, undef, undef, undef, undef, undef, undef, undef, undef, undef, undef, undef], defers := [] }) ?assign ?body ?done ?stop
    case assign =>
      intro l x W K hK
      gi_wp2
      exact hK
    case body =>
      rintro l pre x W ⟨out, v, dn, hfd, hin⟩ hN
      go_light
      have hxp := x.hp
      obtain ⟨⟨c0, c1, c2⟩, c3, c4, c5, c6, c7⟩ := hin.cl
      by_cases hd : x.p < dn
      · have hd' : (x.p : Int) < dn := by omega
        have Hfd := hide (hfd.skip hd)
        have Hin := hide hin
        clear hfd hin hN hSt hBs hz g hd
        gi_wp2
        exact ⟨⟨Nat.le_refl _, fun _ _ h _ => h⟩, ⟨rfl, rfl⟩, _, _, _, unhide Hfd, unhide Hin⟩
      · have hd' : ¬ (x.p : Int) < dn := by omega
        have hol : out.length ≤ 1000 := by have := hfd.1; omega
        have H := step_any nm s x.p A (A + 5) out v a w W hin.lr hs hol hxp g (by omega) hin.bel
        cases hst : stp nm s.size x.p (s[x.p]'x.hp) (s.data.toList.drop (x.p + 1)) with
        | none =>
          rw [hst] at H
          have H' := hide (H.mono (R' := fun e w' => ∃ xv, e = .returned (.tuple #[.int .i64 0, .iface 175 xv]) ∧ IsErr a (.iface 175 xv) ∧ (∃ v', Lr A (A + 5) out v' w') ∧ Mv A (A + 5) W w') (fun e w' hp => by
            obtain ⟨hm, xv, h1, h2, h3⟩ := hp
            exact ⟨xv, h1, h2, h3, hm⟩))
          have Hin := hide hin
          have Hst := hide hst
          have Hfd := hide hfd
          have Hd := hide hd
          clear H hin hst hfd hN hSt hBs hz g hd
          generalize ((s[x.p]'x.hp).toNat : Int) = yb at *
          gi_wp2_with fail
          refine ⟨trivial, (inR (unhide H')).mono ?_⟩
          rintro e w' ⟨xv, rfl, herr, ⟨v', hl⟩, hm⟩
          have hi1 := (unhide Hin).mv hm hl
          have hi2 := hi1.setD 0
          have hi3 := hi2.setE (.iface 175 xv)
          obtain ⟨-, -, d0, d1, d2, d3⟩ := hi1.cl
          have Hi3 := hide hi3
          have He := hide herr
          have HK := hide (((Kr.of hm).trans (Kr.set (i := 3) w' (.int .i64 ((0 : Nat) : Int)) (by omega))).trans (Kr.set (i := 2) _ (.iface 175 xv) (by omega)))
          clear hi1 hi2 hi3 herr hm hl c0 c1 c2 c3 c4 c5 c6 c7 H'
          gi_wp2
          exact ⟨(unhide HK).1, rfl, pre, x, out, v', dn, 0, _, rfl, unhide Hfd, unhide Hd, unhide Hst, unhide He, unhide Hi3⟩
        | some tk =>
          obtain ⟨t, k⟩ := tk
          rw [hst] at H
          have H' := hide (H.mono (R' := fun e w' => e = .returned (.tuple #[.int .i64 ((x.p + 1 + k : Nat) : Int), .nilIface]) ∧ (∃ v', Lr A (A + 5) (out ++ t) v' w') ∧ Mv A (A + 5) W w') (fun e w' hp => by
            obtain ⟨hm, h1, h3⟩ := hp
            exact ⟨h1, h3, hm⟩))
          have Hin := hide hin
          have Hfd := hide (hfd.snoc hs hd hst)
          clear H hin hst hfd hN hSt hBs hz g hd
          generalize ((s[x.p]'x.hp).toNat : Int) = yb at *
          generalize x.p + 1 + k = nd at *
          gi_wp2_with fail
          refine ⟨trivial, (inR (unhide H')).mono ?_⟩
          rintro e w' ⟨rfl, ⟨v', hl⟩, hm⟩
          have hi1 := (unhide Hin).mv hm hl
          have hi2 := hi1.setD nd
          have hi3 := hi2.setE .nilIface
          obtain ⟨-, -, d0, d1, d2, d3⟩ := hi1.cl
          have Hi3 := hide hi3
          have HK := hide (((Kr.of hm).trans (Kr.set (i := 3) w' (.int .i64 (nd : Int)) (by omega))).trans (Kr.set (i := 2) _ .nilIface (by omega)))
          clear hi1 hi2 hi3 hm hl c0 c1 c2 c3 c4 c5 c6 c7 H'
          gi_wp2
          exact ⟨(unhide HK).1, (unhide HK).2, _, _, _, unhide Hfd, unhide Hi3⟩
    case done =>
      rintro D ys W hD rfl ⟨out, v, dn, hfd, hin⟩ hK
      obtain ⟨⟨c0, c1, c2⟩, c3, c4, c5, c6, c7⟩ := hin.cl
      have hcv := C.conv_row hin.lr.own rfl
      have HK := hide hK
      have Hin := hide hin
      have Hrr : Hid (rd nm s = some out) := by
        have := hfd.2.2 []
        rw [List.append_nil, rfd_all, ← unhide Hr] at this
        show _ = _
        rw [this]
        rfl
      clear hK hin hfd hSt hBs g
      go_wp2
      refine finR (v := .string ⟨out.toArray⟩) (u := .nilIface) (unhide HK) (by omega) (unhide Hin).bel rfl rfl fun V' hb => ⟨hb, .inl ⟨out, unhide Hrr, rfl⟩⟩
    case stop =>
      rintro D cd pre W hD hpre ⟨rfl, l, x, out, v, dn, dn', err, rfl, hfd, hx, hst, he, hin⟩ hK
      obtain ⟨xv, rfl⟩ := he.form
      refine wpIn_exit ?_
      obtain ⟨⟨c0, c1, c2⟩, c3, c4, c5, c6, c7⟩ := hin.cl
      have Hrr : Hid (rd nm s = none) := by
        obtain ⟨t, ht⟩ := hpre
        show _ = _
        rw [unhide Hr, ← rfd_all, ← ht]
        exact hfd.fail hx hst t
      have HK := hide hK
      have Hin := hide hin
      have He := hide he
      clear hK hin hfd hx hst hpre hSt hBs he g
      go_wp2
      refine C.region_tail_n 2 hmx (by kernel_rfl) ?_
      simp only [List.take_succ_cons, List.take_zero, List.drop_succ_cons, List.drop_zero]
      refine C.wst_do (by kernel_rfl) (fun K hK => ?_)
      go_simp
      refine hK.out _ ?_
      clear hK K
      refine C.wst_do (by kernel_rfl) (fun K hK => ?_)
      go_simp
      refine hK.out _ ?_
      clear hK K
      refine C.wst_nil ?_
      go_wp2
      simp only [C.only]
      go_wp2
      refine finR (v := .string ⟨#[]⟩) (u := .iface 175 xv) (unhide HK) (by omega) (unhide Hin).bel.drew rfl rfl fun V' hb => ⟨hb, .inr ⟨unhide Hrr, _, rfl, unhide He⟩⟩
end Go.Proofs.YthfcnjcpanoldaaGreatDoor.E

/-
  What esc.Filter, Name, ReadFilter and ReadName answer, at every text of at most one thousand bytes. Conditions: the package-level variables hold what the program's text lays ('Glob').
-/
namespace Go.Proofs.YthfcnjcpanoldaaGreatDoor.E
open Go Go.RowKit Ec

theorem prp_al (nm : Bool) (s : ByteArray) : ∀ f p, s.size ≤ p + f → prp nm (C.al s 1 f p) = prt nm s.size p (s.data.toList.drop p)
  | 0, p, hf => by
    rw [drop_out (by omega), C.al, prt]
    rfl
  | f + 1, p, hf => by
    by_cases h : p < s.size
    · rw [C.al, dif_pos h, drop_at h, prt, ← prp_al nm s f (p + 1) (by omega)]
      rfl
    · rw [C.al, dif_neg h, drop_out h, prt]
      rfl
/-- what is printed. -/
def pri (nm : Bool) (s : ByteArray) : ByteArray := ⟨(prt nm s.size 0 s.data.toList).toArray⟩
theorem prp_all (nm : Bool) (s : ByteArray) : (⟨(prp nm (all s)).toArray⟩ : ByteArray) = pri nm s := by
  have := prp_al nm s s.size 0 (by omega)
  rw [List.drop_zero] at this
  have e : all s = C.al s 1 s.size 0 := rfl
  unfold pri
  rw [e, this]
/-- what is read. -/
def und (nm : Bool) (s : ByteArray) : ByteArray × Int := match rd nm s with
  | some t => (⟨t.toArray⟩, 0)
  | none => (⟨#[]⟩, 60)

theorem name_any (s : ByteArray) (w : World) (hs : s.size ≤ 1000) :
    Calls Tryz.prog 27 #[.string s] w fun e w' => e = .returned (.string (pri true s)) ∧ Below w.heap.size w w' := by
  have H : Hid (Calls Tryz.prog 43 #[.int .i64 1, .string s] w (PPost true s w)) := printed_any true s w hs
  go_enter Tryz.func27, Tryz.ntmps27
  go_wp2_with fail
  refine (unhide H).mono ?_
  rintro e w1 ⟨rfl, hb⟩
  rw [prp_all]
  have HB := hide hb
  clear hb H
  go_wp2
  go_ret
  exact ⟨rfl, unhide HB⟩
set_option maxRecDepth 100000 in
theorem answer_any (nm : Bool) (s : ByteArray) (a : Ad) (w : World) (g : Glob a w) (hs : s.size ≤ 1000) :
    Calls Tryz.prog 107 #[kv nm, .string s] w fun e w' => e = .returned (.tuple #[.string (und nm s).1, .int .i64 (und nm s).2]) ∧ Below w.heap.size w w' := by
  have H := read_any nm s a w g hs
  unfold ReadPost at H
  unfold und
  cases hd : rd nm s with
  | none =>
    rw [hd] at H
    have H' := hide (H.mono (R' := fun e w' => ∃ xv, e = .returned (.tuple #[.string ⟨#[]⟩, .iface 175 xv]) ∧ IsErr a (.iface 175 xv) ∧ Below w.heap.size w w') (fun e w' ⟨hb, he⟩ => by
      rcases he with ⟨t, h1, _⟩ | ⟨_, v1, h2, h3⟩
      · cases h1
      · obtain ⟨xv, rfl⟩ := h3.form
        exact ⟨xv, h2, h3, hb⟩))
    have Hg := hide g
    clear H g hd
    go_enter Tryz.func107, Tryz.ntmps107
    go_wp2_with fail
    refine (unhide H').mono ?_
    rintro e w1 ⟨xv, rfl, he, hb⟩
    have H2 := hide (errnoOf_any _ a w1 ((unhide Hg).below (Nat.le_refl _) hb) he)
    have HB := hide hb
    clear he hb
    go_wp2_with fail
    refine (unhide H2).mono ?_
    rintro e w2 ⟨rfl, hb⟩
    have HB2 := hide hb
    clear hb
    go_wp2
    go_ret2
    exact ⟨rfl, (unhide HB).trans ((unhide HB2).mono (unhide HB).size)⟩
  | some t =>
    rw [hd] at H
    have H' := hide (H.mono (R' := fun e w' => e = .returned (.tuple #[.string ⟨t.toArray⟩, .nilIface]) ∧ Below w.heap.size w w') (fun e w' ⟨hb, he⟩ => by
      rcases he with ⟨t', h1, h2⟩ | ⟨h1, _⟩
      · cases h1; exact ⟨h2, hb⟩
      · cases h1))
    dsimp only
    generalize (⟨t.toArray⟩ : ByteArray) = u at *
    clear H g hd
    go_enter Tryz.func107, Tryz.ntmps107
    go_wp2_with fail
    refine (unhide H').mono ?_
    rintro e w1 ⟨rfl, hb⟩
    have HB := hide hb
    clear hb
    go_wp2
    go_ret2
    exact ⟨rfl, unhide HB⟩
theorem readName_any (s : ByteArray) (a : Ad) (w : World) (g : Glob a w) (hs : s.size ≤ 1000) :
    Calls Tryz.prog 100 #[.string s] w fun e w' => e = .returned (.tuple #[.string (und true s).1, .int .i64 (und true s).2]) ∧ Below w.heap.size w w' := by
  have H : Hid (Calls Tryz.prog 107 #[.int .i64 1, .string s] w fun e w' => e = .returned (.tuple #[.string (und true s).1, .int .i64 (und true s).2]) ∧ Below w.heap.size w w') := answer_any true s a w g hs
  clear g
  generalize und true s = r at *
  go_enter Tryz.func100, Tryz.ntmps100
  go_wp2_with fail
  refine (unhide H).mono ?_
  rintro e w1 ⟨rfl, hb⟩
  have HB := hide hb
  clear hb H
  go_wp2
  go_ret2
  exact ⟨rfl, unhide HB⟩
end Go.Proofs.YthfcnjcpanoldaaGreatDoor.E

/-
  The law file's shown(), cut() and plain(). Conditions: the package-level variables hold what the program's text lays.
-/
namespace Go.Proofs.YthfcnjcpanoldaaGreatDoor.E
open Go Go.RowKit Ec
attribute [local go_sem] Oper.semAt_some

/-- a call that answers v and keeps what lay in w. -/
def Keeps (w : World) (f : FuncId) (args : Array Value) (v : Value) : Prop :=
  ∀ w1, Below w.heap.size w w1 → Calls Tryz.prog f args w1 fun e w' => e = .returned v ∧ Below w1.heap.size w1 w'
theorem keep {a : Ad} {w : World} (g : Glob a w) {f : FuncId} {args : Array Value} {v : Value}
    (h : ∀ w1, Glob a w1 → Calls Tryz.prog f args w1 fun e w' => e = .returned v ∧ Below w1.heap.size w1 w') : Keeps w f args v :=
  fun w1 hb => h w1 (g.below (Nat.le_refl _) hb)
theorem K_name (w : World) (s : ByteArray) (hs : s.size ≤ 1000) : Keeps w 27 #[.string s] (.string (pri true s)) := fun w1 _ => name_any s w1 hs
theorem K_readName {a : Ad} {w : World} (g : Glob a w) (s : ByteArray) (hs : s.size ≤ 1000) : Keeps w 100 #[.string s] (.tuple #[.string (und true s).1, .int .i64 (und true s).2]) := keep g fun w1 g1 => readName_any s a w1 g1 hs
theorem step {w w1 w2 : World} (h : Below w.heap.size w w1) (k : Below w1.heap.size w1 w2) : Below w.heap.size w w2 := h.trans (k.mono h.size)

theorem cut_size (s : ByteArray) : (s.extract 0 100).size ≤ 100 := by
  rw [ByteArray.size_extract]; omega
/-- plain(): are all bytes from 20 to 7e? -/
theorem all_drop {s : ByteArray} {j : Nat} (h : j < s.size) : (s.data.toList.drop j).all pln = (pln s[j] && (s.data.toList.drop (j + 1)).all pln) := by
  rw [drop_at h, List.all_cons]
end Go.Proofs.YthfcnjcpanoldaaGreatDoor.E

/-
  Plain facts on what is printed and read in layer 6. Conditions: none.
-/
namespace Go.Proofs.YthfcnjcpanoldaaGreatDoor.E
open Go Go.RowKit Ec

theorem len_toList (s : ByteArray) : s.data.toList.length = s.size := Array.length_toList
theorem pri_data (nm : Bool) (s : ByteArray) : (pri nm s).data.toList = prt nm s.data.toList.length 0 s.data.toList := by rw [len_toList]; rfl
theorem pri_size (nm : Bool) (s : ByteArray) : s.size ≤ (pri nm s).size ∧ (pri nm s).size ≤ 3 * s.size := by
  have h := prt_len nm s.data.toList.length s.data.toList 0
  rw [← pri_data, len_toList, len_toList] at h
  exact h
theorem pri_plain (nm : Bool) (s : ByteArray) : (pri nm s).data.toList.all pln = true := by
  rw [List.all_eq_true, pri_data]
  exact fun x hx => prt_pln nm _ _ 0 x hx
/-- a text of low bytes is right. -/
theorem is_low : ∀ l : List UInt8, (∀ x ∈ l, x.toNat < 128) → Ut.Is l (l.map UInt8.toNat) []
  | [], _ => ⟨by simp, rfl, by simp [Ut.fl]⟩
  | x :: l, h => by
    have h1 := is_low l (fun y hy => h y (by simp [hy]))
    have hx := h x (by simp)
    have e : Ut.enc x.toNat = [x] := by
      rcases Ut.enc_cases x.toNat with ⟨_, e⟩ | ⟨h2, _⟩ | ⟨h2, _⟩ | ⟨h2, _⟩
      · rw [e, show Ut.b x.toNat = x from UInt8.toNat.inj (Ut.bn _ (by omega))]
      · omega
      · omega
      · omega
    have := Ut.Is.behind (U.is_enc (n := x.toNat) ⟨by omega, by omega⟩) h1
    rw [e] at this
    exact this
theorem bad_low {s : ByteArray} (h : ∀ x ∈ s.data.toList, x.toNat < 128) : U.bad s = none := U.bad_of_is (is_low _ h)
theorem pln_low {x : UInt8} (h : pln x = true) : x.toNat < 128 := by unfold pln at h; simp at h; omega
theorem rd_low (nm : Bool) {s : ByteArray} (h : ∀ x ∈ s.data.toList, x.toNat < 128) : rd nm s = rdk nm s.size 0 0 s.data.toList := by unfold rd; rw [bad_low h]; rfl
theorem mk_data (s : ByteArray) : (⟨s.data.toList.toArray⟩ : ByteArray) = s := by cases s; rfl
/-- values are read from what is printed of them. -/
theorem und_pri (nm : Bool) (s : ByteArray) : und nm (pri nm s) = (s, 0) := by
  have h := rd_low nm (s := pri nm s) (fun x hx => pln_low (List.all_eq_true.1 (pri_plain nm s) x hx))
  have h2 := back0 nm s.data.toList
  rw [← pri_data, len_toList, ← h] at h2
  unfold und
  rw [h2]
theorem und_cases (nm : Bool) (s : ByteArray) : ((und nm s).2 = 0 ∧ (und nm s).1.size ≤ s.size) ∨ und nm s = (⟨#[]⟩, 60) := by
  unfold und
  cases h : rd nm s with
  | none => exact .inr rfl
  | some t =>
    left
    refine ⟨rfl, ?_⟩
    unfold rd at h
    split at h
    · have := rdk_len nm _ _ _ _ _ h
      rw [len_toList] at this
      show t.toArray.size ≤ _
      rw [List.size_toArray]
      exact this
    · cases h
theorem data_app (a b : ByteArray) : (a ++ b).data.toList = a.data.toList ++ b.data.toList := by simp [ByteArray.data_append]
theorem pri_join (p q : ByteArray) : pri false (p ++ q) = pri false p ++ pri false q := by
  refine ByteArray.ext (Array.ext' ?_)
  rw [data_app, pri_data, pri_data, pri_data, data_app, joins]
theorem toList_ne {a b : ByteArray} (h : a ≠ b) : (a.toList == b.toList) = false := by
  rw [beq_eq_false_iff_ne, ByteArray.toList_eq, ByteArray.toList_eq]
  intro e
  exact h (ByteArray.ext (Array.ext' e))
theorem pri_ne (nm : Bool) {a b : ByteArray} (h : a ≠ b) : pri nm a ≠ pri nm b := by
  intro e
  have e2 : (pri nm a).data.toList = (pri nm b).data.toList := by rw [e]
  rw [pri_data, pri_data] at e2
  exact h (ByteArray.ext (Array.ext' ((apart nm).1 e2)))
/-- letters are printed, and read, as they are. -/
theorem pri_low (nm : Bool) {s : ByteArray} (h : ∀ x ∈ s.data.toList, 97 ≤ x.toNat ∧ x.toNat ≤ 122) : pri nm s = s := by
  refine ByteArray.ext (Array.ext' ?_)
  rw [pri_data, prt_low nm _ _ _ h]
theorem und_low (nm : Bool) {s : ByteArray} (h : ∀ x ∈ s.data.toList, 97 ≤ x.toNat ∧ x.toNat ≤ 122) : und nm s = (s, 0) := by
  have := und_pri nm s
  rwa [pri_low nm h] at this
end Go.Proofs.YthfcnjcpanoldaaGreatDoor.E
