/- What esc.printed answers: a value, as it stands in a filter or in a name. Conditions: none. -/
import Derived.Test.YtmenllnokgjdlaaGreatDoorEIter
import Derived.Test.YtmenllnokgjdlaaGreatDoorESmall
import Derived.Lib.AppendStr
set_option linter.unusedSimpArgs false
set_option maxHeartbeats 4000000
set_option maxRecDepth 100000
namespace Go.Proofs.YtmenllnokgjdlaaGreatDoor.E
open Go Go.RowKit Go.Shelf Ec
attribute [local go_sem] Oper.semAt_some
theorem i64w (n : Int) (h0 : 0 <= n) (h : n < 1000000000000) : IntKind.i64.wrap n = n := by
 obtain ⟨m, rfl⟩ := Int.eq_ofNat_of_zero_le h0
 exact C.wrap_i64 m (by omega)
theorem pc_one {s : ByteArray} {p : Nat} (hp : p < s.size) : pc s p 1 = ⟨#[s[p]]⟩ := by
 unfold pc
 rw [Nat.min_eq_left (by omega)]
 apply ByteArray.ext
 apply Array.ext'
 rw [ByteArray.data_extract, Array.toList_extract, List.extract_eq_take_drop, Nat.add_sub_cancel_left]
 have hl : p < s.data.toList.length := by simpa using hp
 rw [List.drop_eq_getElem_cons hl]
 simp
 rfl
theorem piece_one (s : ByteArray) (p : Nat) (w : World) (hs : s.size <= 1000) (hp : p < s.size) :
  Calls Tryz.prog 145 #[.agg #[.string s], .int .i64 p, .int .i64 ((p : Int) + 1)] w fun e w' => e = .returned (.string ⟨#[s[p]]⟩) /\ Below w.heap.size w w' := by
 have := piece_any s p 1 w hs (by omega) (by omega)
 rw [pc_one hp] at this
 exact this
theorem hex_one (y : UInt8) (w : World) :
  Calls Tryz.prog 144 #[.string ⟨#[y]⟩] w fun e w' => e = .returned (.string ⟨(hx y).toArray⟩) /\ Below w.heap.size w w' := by
 have := C.hex_any ⟨#[y]⟩ w (by show 1 <= 2000; decide)
 rw [show C.pri Cd.kH ⟨#[y]⟩ = ⟨(hx y).toArray⟩ by unfold C.pri; rw [show (⟨#[y]⟩ : ByteArray).data.toList = [y] from rfl, enc_hx]] at this
 exact this
theorem wp_append_str {P : Program} {w : World} {o : Oper} {a : Act} {K : Act -> World -> Prop} {Q : Exit -> Act -> World -> Prop} (sl x : Operand) (t u : TypeId)
  (ho : o.op = .call { callee := .builtin .append, args := #[sl, x], argTypes := #[t, u] })
  (base : Nat) (e : TypeId) (i : TypeInfo) (ht : P.underlying t = some (.slice e)) (hu : P.underlying u = some .string) (hi : P.info? e = some i) (hz : i.zero = some (.int .u8 0)) (hsize : i.size = 1) (hby : i.bytes = 1)
  (v : Value) (n : Nat) (l : List UInt8) (hs : a.eval sl = v) (hown : w.ownsRow base e 1 v n (C.cells l)) (s : ByteArray) (hx : a.eval x = .string s)
  (h63 : n + s.size <= 10000000) (hbase : base <= w.heap.size)
  (h : ∀ v' w', w'.ownsRow base e 1 v' (n + s.size) (C.cells l ++ C.cells s.data.toList) -> w.grownBy w' v.ownBlock -> K (a.put o.dst v') w') : o.wp P a w K Q := by
 obtain ⟨v', w', hr, h2, h3, _⟩ := Go.Lib.run_append_own_string (P := P) w base t u o.type e i ht hu hi hz hsize hby v n (C.cells l) hown s (by unfold maxLen; omega) (by omega) hbase
 unfold Oper.wp execOp
 simp only [ho, resolve, invoke, builtin, Sem.run_bind, Sem.run_pure, Result.andThen_ok, List.map_toArray, List.map_cons, List.map_nil, hs, hx, hr]
 exact h v' w' h2 h3
theorem regionIn_held {P : Program} {S : World -> Prop} {Q : Exit -> Act -> World -> Prop} {lp m id : Nat} {a : Act} {w : World} {l : List Oper} (hm : P.follows .mixedOrders = true) (hd : noDefer l = true)
  (h : wpAnyH P .any l.toArray (C.only Q) S l.toArray.size (Array.replicate l.toArray.size false) a w.drew) : (Code.region id l.toArray true).wpIn (Fence.wide.inRound lp) m P Q a w :=
 wpIn_mono (regionIn_round hm (fun i o ho c => noDefer_spec hd i o ho c) (by rintro ⟨a, w, h⟩; exact h) (wpAny_of_held _ _ _ _ h)) (fun e a w h => by cases e <;> first | exact h | exact h.elim)
def prp (nm : Bool) {s : ByteArray} (l : List (Pc s)) : List UInt8 := l.flatMap fun x => pb nm s.size x.p (s[x.p]'x.hp)
theorem prp_snoc (nm : Bool) {s : ByteArray} (l : List (Pc s)) (x : Pc s) : prp nm (l ++ [x]) = prp nm l ++ pb nm s.size x.p (s[x.p]'x.hp) := by simp [prp]
theorem prp_len (nm : Bool) {s : ByteArray} (l : List (Pc s)) : (prp nm l).length <= 3 * l.length := by
 induction l with
 | nil => exact Nat.le_refl _
 | cons x l ih =>
  have e : prp nm (x :: l) = pb nm s.size x.p (s[x.p]'x.hp) ++ prp nm l := rfl
  have := pb_len nm s.size x.p (s[x.p]'x.hp)
  rw [e, List.length_append, List.length_cons]
  omega
structure Pin (nm : Bool) (s : ByteArray) (w : World) (out : List UInt8) (v : Value) (W : World) : Prop where
 bk : W.heap[w.heap.size]? = some (.cells #[kv nm] 176)
 bv : W.heap[w.heap.size + 1]? = some (.cells #[v] 152)
 bt : W.heap[w.heap.size + 2]? = some (.cells #[.string s] 226)
 own : W.ownsRow (w.heap.size + 4) 5 1 v out.length (C.cells out)
 bel : Below w.heap.size w W
 size : w.heap.size + 4 <= W.heap.size
theorem Pin.grown {nm : Bool} {s : ByteArray} {w W W' : World} {out : List UInt8} {v : Value} {row : Option Nat} (h : Pin nm s w out v W) (hg : W.grownBy W' row) (hr : ∀ r, row = some r -> w.heap.size + 4 <= r /\ ∃ o, W.heap[r]? = some o /\ o.isCells = false) : Pin nm s w out v W' := by
 have hz := h.size
 have hk : ∀ k, k < w.heap.size + 4 -> W'.heap[k]? = W.heap[k]? := fun k hk => hg.block k (by omega) (fun e => by have := (hr k e.symm).1; omega)
 refine ⟨(hk _ (by omega)).trans h.bk, (hk _ (by omega)).trans h.bv, (hk _ (by omega)).trans h.bt, h.own.kept hg ?_, ⟨hg.os.trans h.bel.os, hg.tape.trans h.bel.tape, hg.output.trans h.bel.output, Nat.le_trans h.bel.size hg.size, fun k hk' => (hk k (by omega)).trans (h.bel.block k hk')⟩, Nat.le_trans hz hg.size⟩
 rcases h.own.2 with ⟨rfl, _⟩ | ⟨g, cap, cur, rfl, _, hgb, _⟩
 ·exact .inl rfl
 ·refine .inr fun e' => ?_
  obtain ⟨_, o, ho, hc⟩ := hr g (by simpa [Value.ownBlock] using e'.symm)
  rw [hgb] at ho; cases ho; cases hc
theorem Pin.below {nm : Bool} {s : ByteArray} {w W W' : World} {out : List UInt8} {v : Value} (h : Pin nm s w out v W) (hb : Below W.heap.size W W') : Pin nm s w out v W' := by
 have hz := h.size
 have hk : ∀ k, k < w.heap.size + 4 -> W'.heap[k]? = W.heap[k]? := fun k hk => hb.block k (by omega)
 exact ⟨(hk _ (by omega)).trans h.bk, (hk _ (by omega)).trans h.bv, (hk _ (by omega)).trans h.bt, C.own_below h.own hb, h.bel.trans (hb.mono (by omega)), Nat.le_trans hz hb.size⟩
theorem Pin.drew {nm : Bool} {s : ByteArray} {w W : World} {out : List UInt8} {v : Value} (h : Pin nm s w out v W) : Pin nm s w out v W.drew := h.below (Below.refl _ _).drew
theorem Pin.cl {nm : Bool} {s : ByteArray} {w W : World} {out : List UInt8} {v : Value} (h : Pin nm s w out v W) : W.cell? ⟨w.heap.size, 0, none⟩ = some (kv nm) /\ W.cell? ⟨w.heap.size + 1, 0, none⟩ = some v /\ W.cell? ⟨w.heap.size + 2, 0, none⟩ = some (.string s) /\ W.frozen? ⟨w.heap.size + 1, 0, none⟩ = false := by
 have h1 := h.bk
 have h2 := h.bv
 have h3 := h.bt
 simp [World.cell?, World.frozen?, h1, h2, h3]
theorem Pin.put {nm : Bool} {s : ByteArray} {w W W' : World} {out more : List UInt8} {v v' : Value} (h : Pin nm s w out v W) (hb : C.Bel (w.heap.size + 4) W W') (ho : W'.ownsRow (w.heap.size + 4) 5 1 v' (out.length + more.length) (C.cells out ++ C.cells more)) :
  Pin nm s w (out ++ more) v' (W'.setCell ⟨w.heap.size + 1, 0, none⟩ v') := by
 have hz := h.size
 have hk : ∀ k, k < w.heap.size + 4 -> W'.heap[k]? = W.heap[k]? := fun k hk => hb.1.block k hk
 have o : ∀ k, k ≠ w.heap.size + 1 -> (W'.setCell ⟨w.heap.size + 1, 0, none⟩ v').heap[k]? = W'.heap[k]? := fun k hk => Below.heap_setCell _ _ _ _ hk
 refine ⟨(o _ (by omega)).trans ((hk _ (by omega)).trans h.bk), heap_setCell_same W' _ 0 _ _ _ ((hk _ (by omega)).trans h.bv), (o _ (by omega)).trans ((hk _ (by omega)).trans h.bt), ?_, (h.bel.trans (hb.1.mono (by omega))).setCell (by show w.heap.size <= w.heap.size + 1; omega) _, by simp; have := hb.1.size; omega⟩
 rw [List.length_append, C.cells_append]
 exact ownsRow_setCell_below ho (by show w.heap.size + 1 < w.heap.size + 4; omega) _
def Kp (w W W' : World) : Prop := KeepsOthers W W' /\ C.Two (w.heap.size + 3) (w.heap.size + 3) W W'
theorem Kp.trans {w A B D : World} (h : Kp w A B) (k : Kp w B D) : Kp w A D := ⟨h.1.trans k.1, h.2.trans k.2⟩
theorem Kp.below {w W W' : World} (hz : w.heap.size + 4 <= W.heap.size) (h : Below W.heap.size W W') : Kp w W W' := ⟨C.keepsO h, h.block _ (by omega), h.block _ (by omega)⟩
theorem Kp.bel {w W W' : World} (h : C.Bel (w.heap.size + 4) W W') (v : Value) : Kp w W (W'.setCell ⟨w.heap.size + 1, 0, none⟩ v) :=
 ⟨h.2.trans (KeepsOthers.setCell _ _ _), (Below.heap_setCell _ _ _ _ (by show w.heap.size + 3 ≠ w.heap.size + 1; omega)).trans (h.1.block _ (by omega)), (Below.heap_setCell _ _ _ _ (by show w.heap.size + 3 ≠ w.heap.size + 1; omega)).trans (h.1.block _ (by omega))⟩
theorem Pin.app {nm : Bool} {s : ByteArray} {w W W' : World} {out more : List UInt8} {v v' : Value} {o : Obj} (h : Pin nm s w out v W) (hg : (W.alloc o).grownBy W' v.ownBlock) (ho : W'.ownsRow (w.heap.size + 4) 5 1 v' (out.length + more.length) (C.cells out ++ C.cells more)) :
  Pin nm s w (out ++ more) v' (W'.setCell ⟨w.heap.size + 1, 0, none⟩ v') /\ Kp w W (W'.setCell ⟨w.heap.size + 1, 0, none⟩ v') /\ W'.cell? ⟨w.heap.size + 1, 0, none⟩ = some v /\ W'.frozen? ⟨w.heap.size + 1, 0, none⟩ = false := by
 have hb := C.add_below2 (C.bel_refl _ W) h.own hg h.size
 obtain ⟨_, c1, _, f1⟩ := h.cl
 exact ⟨h.put hb ho, Kp.bel hb v', (hb.1.cell (p := ⟨w.heap.size + 1, 0, none⟩) (by show w.heap.size + 1 < w.heap.size + 4; omega)).trans c1, (C.bel_frozen hb.1 (a := ⟨w.heap.size + 1, 0, none⟩) (by show w.heap.size + 1 < w.heap.size + 4; omega)).trans f1⟩
theorem Pin.appS {nm : Bool} {s : ByteArray} {w W W' : World} {out more : List UInt8} {v v' : Value} (h : Pin nm s w out v W) (hg : W.grownBy W' v.ownBlock) (ho : W'.ownsRow (w.heap.size + 4) 5 1 v' (out.length + more.length) (C.cells out ++ C.cells more)) :
  Pin nm s w (out ++ more) v' (W'.setCell ⟨w.heap.size + 1, 0, none⟩ v') /\ Kp w W (W'.setCell ⟨w.heap.size + 1, 0, none⟩ v') /\ W'.cell? ⟨w.heap.size + 1, 0, none⟩ = some v /\ W'.frozen? ⟨w.heap.size + 1, 0, none⟩ = false := by
 have hz := h.size
 have hb : C.Bel (w.heap.size + 4) W W' := by
  refine ⟨⟨hg.os, hg.tape, hg.output, hg.size, fun k hk => hg.block k (by omega) (fun e => by have := (h.own.lt k e.symm).1; omega)⟩, ⟨hg.size, fun k o hk hc => ?_⟩⟩
  refine (hg.block k (Array.getElem?_eq_some_iff.1 hk).1 (fun e => ?_)).trans hk
  rcases h.own.2 with ⟨rfl, _⟩ | ⟨g, cap, cur, rfl, _, hgb, _⟩
  ·cases e
  ·cases e
   rw [hk] at hgb
   cases hgb
   cases hc
 obtain ⟨_, c1, _, f1⟩ := h.cl
 exact ⟨h.put hb ho, Kp.bel hb v', (hb.1.cell (p := ⟨w.heap.size + 1, 0, none⟩) (by show w.heap.size + 1 < w.heap.size + 4; omega)).trans c1, (C.bel_frozen hb.1 (a := ⟨w.heap.size + 1, 0, none⟩) (by show w.heap.size + 1 < w.heap.size + 4; omega)).trans f1⟩
def PPost (nm : Bool) (s : ByteArray) (w : World) (e : Ending) (w' : World) : Prop := e = .returned (.string ⟨(prp nm (all s)).toArray⟩) /\ Below w.heap.size w w'
theorem finP {w V : World} {D : Nat} {tmps : Array Value} {v : Value} {R : Ending -> World -> Prop} (hV : V.heap[D]? = some (.deferred (some []))) (hD : w.heap.size <= D) (hb : Below w.heap.size w V) (t4 : tmps.getD 4 undef = v)
  (hp : ∀ V', Below w.heap.size w V' -> R (.returned v) V') :
  bodyPostM Fence.wide 3 Tryz.prog Tryz.f114 R Exit.ret { tmps, defers := [{ target := .collected D, args := #[] }] } V := by
 refine ⟨by simp, .inl ⟨_, _, rfl, run_takeDeferred hV, ?_⟩⟩
 refine ⟨v, ?_, hp _ (C.putObj_below hb hD)⟩
 subst t4
 simp [results, Tryz.results114, go_sem]
theorem inR {lp m : Nat} {f : FuncId} {args : Array Value} {w : World} {R : Ending -> World -> Prop} (h : Calls Tryz.prog f args w R) : CallsIn (Fence.wide.inRound lp) m Tryz.prog f args w R := CallsIn.inRound _ (callsIn_wide.2 h)
theorem printed_any (nm : Bool) (s : ByteArray) (w : World) (hs : s.size <= 1000) :
  Calls Tryz.prog 114 #[kv nm, .string s] w (PPost nm s w) := by
 refine (callsIn_wide (n := 3)).1 ?_
 refine callsIn_of_wp_marks Tryz.func114 rfl trivial ?_ rfl
 simp only [Tryz.ntmps114, List.size_toArray, List.length_cons, List.length_nil, Nat.reduceAdd, Nat.reduceSub, Array.replicate_succ, Array.replicate_zero, List.push_toArray, List.append_toArray, List.nil_append, List.cons_append]
 refine wpIn_wide.2 ?_
 go_wp2_with fail
 refine (bytes_any s _).mono ?_
 rintro e w' ⟨rfl, rfl⟩
 go_wp2
 obtain ⟨W0, hW0⟩ : ∃ W0, W0 = (((w.alloc (.cells #[kv nm] 176)).alloc (.cells #[.slice none 0 0] 152)).alloc (.cells #[.string s] 226)).alloc (.cells #[.string s] 226) := ⟨_, rfl⟩
 have hz : W0.heap.size = w.heap.size + 4 := by rw [hW0]; simp
 have hSt : Pin nm s w [] (.slice none 0 0) W0 := by
  rw [hW0]
  refine ⟨?_, ?_, ?_, World.ownsRow_nil _ _ _ _, ?_, by simp⟩
  ·rw [Below.heap_alloc _ _ _ (by simp <;> omega), Below.heap_alloc _ _ _ (by simp <;> omega), Below.heap_alloc _ _ _ (by simp)]; exact World.alloc_heap_new _ _
  ·rw [Below.heap_alloc _ _ _ (by simp <;> omega), Below.heap_alloc _ _ _ (by simp)]; have := World.alloc_heap_new (w.alloc (.cells #[kv nm] 176)) (.cells #[.slice none 0 0] 152); rwa [World.size_alloc] at this
  ·rw [Below.heap_alloc _ _ _ (by simp <;> omega)]; have := World.alloc_heap_new ((w.alloc (.cells #[kv nm] 176)).alloc (.cells #[.slice none 0 0] 152)) (.cells #[.string s] 226); rwa [World.size_alloc, World.size_alloc] at this
  ·repeat (refine Below.alloc ?_ (by simp <;> omega) _)
   exact Below.refl _ _
 have hBs : W0.cell? ⟨w.heap.size + 3, 0, none⟩ = some (.string s) := by
  rw [hW0, World.cell?_alloc_at _ _ _ _ (by simp)]
  rfl
 rw [<- hW0]
 clear hW0
 refine (wpIn_wide (n := 3)).1 ?_
 refine wpIn_rangeFunc_ownF rfl (by omega) (gf := 164) (lb := #[.pointer (some ⟨w.heap.size + 3, 0, none⟩)]) rfl trivial (enters_of Tryz.func164 (by kernel_rfl) rfl)
  (bytes1_stops (3 - 1) (by omega) (w.heap.size + 3) s W0 hs hBs) C.Two.trans (fun W l o o' hl h1 h2 h3 => C.Two.book (w := W0) (by omega) (by omega) W l o o' hl h1 h2 h3) (Below.refl _ _) (fun _ => rfl)
  (fun pre W => ∃ v, Pin nm s w (prp nm pre) v W) (fun _ _ _ => False)
  (fun pre A B' row hs hg hr => by
   obtain ⟨v, h⟩ := hs
   exact ⟨v, h.grown hg (fun r e => ⟨by have := (hr r e).1; omega, (hr r e).2⟩)⟩)
  (fun _ _ _ _ _ hs _ _ => hs.elim)
  ⟨_, hSt⟩
  (fun x => { tmps := #[kv nm, .string s, .pointer (some ⟨w.heap.size, 0, none⟩), undef, .string ⟨#[]⟩, .pointer (some ⟨w.heap.size + 1, 0, none⟩), .pointer (some ⟨w.heap.size + 2, 0, none⟩), .int .i64 x.p, .int .u8 ((s[x.p]'x.hp).toNat : Int), undef, .string s, .agg #[.string s], .agg #[.string s], .func (.func 164) #[] #[.pointer (some ⟨w.heap.size + 3, 0, none⟩)], .int .i64 x.p, .int .u8 ((s[x.p]'x.hp).toNat : Int), undef, undef, undef, undef, undef, undef, undef, undef, undef, undef, undef, undef, undef, undef, undef, undef, undef, undef, undef, undef, undef, undef, undef, undef, undef, undef, undef, undef, undef, undef, undef, undef, undef, undef, undef, undef, undef, undef, undef, undef, undef, undef], defers := [] }) ?assign ?body ?done ?stop
 case assign =>
  intro l x W K hK
  gi_wp2
  exact hK
 case body =>
  rintro l pre x W ⟨v, hv⟩ hN
  go_light
  have hxp := x.hp
  have hpl := prp_len nm pre
  have hsn := prp_snoc nm pre x
  have H := fun W => reserved_any nm s x.p W hs x.hp
  have hpc := fun W => piece_one s x.p W hs x.hp
  generalize hy : s[x.p]'x.hp = y at *
  generalize prp nm pre = out at *
  have hout : out.length <= 3000 := by omega
  have Hsn := H_ hsn
  have HR := H_ H
  have HPC := H_ hpc
  have Hpp : Hid ((x.p : Int) < s.size) := H_ (by omega)
  clear hsn H hpc hN hSt hBs hz hpl
  unfold pb at Hsn
  obtain ⟨i0, hi0, hz0, hz1, hz2⟩ := C.infoB
  obtain ⟨c0, c1, c2, c3⟩ := hv.cl
  have Hv := H_ hv
  clear hv
  by_cases hp1 : pln y = true
  ·have Hp1 := H_ hp1
   have a1 : (32 : Int) <= y.toNat := by unfold pln at hp1; simp at hp1; omega
   have a2 : (y.toNat : Int) <= 126 := by unfold pln at hp1; simp at hp1; omega
   clear hp1
   cases hr : res nm s.size x.p y with
   | false =>
    rw [hr] at HR
    have Hr := H_ hr
    clear hr
    gi_wp2_with fail
    refine ⟨trivial, (inR ((un HR) _)).mono ?_⟩
    rintro e w1 ⟨rfl, hb⟩
    have Hv1 := H_ ((un Hv).below hb)
    have HK1 := H_ (Kp.below (un Hv).size hb)
    clear hb HR
    obtain ⟨c0, c1, c2, c3⟩ := (un Hv1).cl
    have HN := H_ (C.news w1 [.int .u8 (y.toNat : Int)] 5)
    have HO := H_ ((un Hv1).own.alloc (.cells ([.int .u8 (y.toNat : Int)] : List Value).toArray 5))
    have Hz := H_ (un Hv1).size
    gi_wp2_with (first
     | (gi_at_builtin; refine wpListIn_append_own _ rfl (.tmp 42) (.tmp 44) 152 rfl (w.heap.size + 4) 5 i0 (.int .u8 0) 1 1 Tryz.underlying152 hi0 hz0 hz1 hz2 rfl (by omega) v out.length (C.cells out) rfl (un HO) ⟨w1.heap.size, 0, none⟩ 1 1 [.int .u8 (y.toNat : Int)] rfl rfl (un HN) (by simp [Value.oneCell']) (by unfold maxLen; omega) (by omega) (by have := un Hz; simp; omega) ?_; intro v' w2 hown hgrow _; obtain ⟨g', cap', rfl⟩ := C.own_form hown (by omega); obtain ⟨p1, p2, d1, d2⟩ := (un Hv1).app (more := [y]) hgrow hown; have HQ := H_ p1; have HK2 := H_ p2; clear hown hgrow p1 p2 c0 c1 c2 c3)
     | gi_in)
    have HKT := H_ ((un HK1).trans (un HK2))
    have hq := un HQ
    rw [<- show prp _ (pre ++ [x]) = out ++ [y] by rw [un Hsn, if_pos (by rw [un Hp1, un Hr]; rfl)]] at hq
    exact ⟨(un HKT).1, (un HKT).2, _, hq⟩
   | true =>
    rw [hr] at HR
    have Hr := H_ hr
    clear hr
    cases nm with
    | true =>
     gi_wp2_with fail
     refine ⟨trivial, (inR ((un HR) _)).mono ?_⟩
     rintro e w1 ⟨rfl, hb⟩
     have Hv1 := H_ ((un Hv).below hb)
     have HK1 := H_ (Kp.below (un Hv).size hb)
     clear hb HR
     obtain ⟨c0, c1, c2, c3⟩ := (un Hv1).cl
     have HN := H_ (C.news w1 [.int .u8 92, .int .u8 (y.toNat : Int)] 5)
     have HO := H_ ((un Hv1).own.alloc (.cells ([.int .u8 92, .int .u8 (y.toNat : Int)] : List Value).toArray 5))
     have Hz := H_ (un Hv1).size
     gi_wp2_with (first
      | (gi_at_builtin; refine wpListIn_append_own _ rfl (.tmp 52) (.tmp 54) 152 rfl (w.heap.size + 4) 5 i0 (.int .u8 0) 1 1 Tryz.underlying152 hi0 hz0 hz1 hz2 rfl (by omega) v out.length (C.cells out) rfl (un HO) ⟨w1.heap.size, 0, none⟩ 2 2 [.int .u8 92, .int .u8 (y.toNat : Int)] rfl rfl (un HN) (by simp [Value.oneCell']) (by unfold maxLen; omega) (by omega) (by have := un Hz; simp; omega) ?_; intro v' w2 hown hgrow _; obtain ⟨g', cap', rfl⟩ := C.own_form hown (by omega); obtain ⟨p1, p2, d1, d2⟩ := (un Hv1).app (more := [92, y]) hgrow hown; have HQ := H_ p1; have HK2 := H_ p2; clear hown hgrow p1 p2 c0 c1 c2 c3)
      | gi_in)
     have HKT := H_ ((un HK1).trans (un HK2))
     have hq := un HQ
     rw [<- show prp _ (pre ++ [x]) = out ++ [92, y] by rw [un Hsn, if_neg (by rw [un Hp1, un Hr]; simp), if_pos (by rw [un Hp1]; rfl)]] at hq
     exact ⟨(un HKT).1, (un HKT).2, _, hq⟩
    | false =>
     gi_wp2_with fail
     refine ⟨trivial, (inR ((un HR) _)).mono ?_⟩
     rintro e w1 ⟨rfl, hb⟩
     have Hv1 := H_ ((un Hv).below hb)
     have HK1 := H_ (Kp.below (un Hv).size hb)
     clear hb HR
     obtain ⟨c0, c1, c2, c3⟩ := (un Hv1).cl
     have HN := H_ (C.news w1 [.int .u8 92] 5)
     have HO := H_ ((un Hv1).own.alloc (.cells ([.int .u8 92] : List Value).toArray 5))
     have Hz := H_ (un Hv1).size
     gi_wp2_with (first
      | (gi_at_builtin; refine wpListIn_append_own _ rfl (.tmp 22) (.tmp 23) 152 rfl (w.heap.size + 4) 5 i0 (.int .u8 0) 1 1 Tryz.underlying152 hi0 hz0 hz1 hz2 rfl (by omega) v out.length (C.cells out) rfl (un HO) ⟨w1.heap.size, 0, none⟩ 1 1 [.int .u8 92] rfl rfl (un HN) (by simp [Value.oneCell']) (by unfold maxLen; omega) (by omega) (by have := un Hz; simp; omega) ?_; intro v' w2 hown hgrow _; obtain ⟨g', cap', rfl⟩ := C.own_form hown (by omega); obtain ⟨p1, p2, d1, d2⟩ := (un Hv1).app (more := [92]) hgrow hown; have HQ := H_ p1; have HK2 := H_ p2; clear hown hgrow p1 p2 c0 c1 c2 c3)
      | gi_in)
     have HKT := H_ ((un HK1).trans (un HK2))
     clear HK1 HK2 Hv1 HN HO Hz
     generalize w2.setCell ⟨w.heap.size + 1, 0, none⟩ (.slice (some ⟨g', 0, none⟩) (out.length + 1) cap') = V at *
     generalize hsl : Value.slice (some ⟨g', 0, none⟩) (out.length + 1) cap' = sl at *
     have HvV := H_ (un HQ).drew
     have HKV := H_ ((un HKT).trans (Kp.below (un HQ).size (Below.refl _ _).drew))
     obtain ⟨-, c1, hS, -⟩ := (un HvV).cl
     refine regionIn_held (S := fun w' => w'.cell? ⟨w.heap.size + 2, 0, none⟩ = some (.string s)) (by kernel_rfl) (by kernel_rfl) ?_
     change wpAnyH _ _ _ _ _ 9 #[false, false, false, false, false, false, false, false, false] _ V.drew
     refine tkk 1 (.agg #[.string s]) rfl (by intro w1 hS1; go_simp; try rfl) hS ?_
     simp only [Act.put, nrm]
     refine tkk 2 (.int .i64 x.p) rfl (by intro w1 hS1; go_simp; try rfl) hS ?_
     simp only [Act.put, nrm]
     refine tkk 3 (.int .i64 x.p) rfl (by intro w1 hS1; go_simp; try rfl) hS ?_
     simp only [Act.put, nrm]
     have hiw : IntKind.i64.wrap ((x.p : Int) + 1) = x.p + 1 := i64w _ (by omega) (by omega)
     refine tkk 4 (.int .i64 ((x.p : Int) + 1)) rfl (by intro w1 hS1; go_simp; try rfl) hS ?_
     simp only [Act.put, nrm]
     clear hiw
     refine wpAnyH_ready (rs := [0, 5]) (by kernel_rfl) (by simp) ?_
     refine AllReadyH.cons rfl (fun K hK => ?_) (AllReadyH.cons rfl (fun K hK => ?_) AllReadyH.nil)
     ·rw [if_pos (by kernel_rfl)]
      go_simp
      refine hK.out _ _ hS (fun _ => ?_)
      clear hK K
      simp only [Act.put, nrm]
      refine rdyy 5 rfl (fun K hK => ?_)
      rw [if_pos (by kernel_rfl)]
      go_wp2_with fail
      refine ((un HPC) _).mono ?_
      rintro e w3 ⟨rfl, hb⟩
      have Hvw3 := H_ ((un HvV).below hb)
      have HKw3 := H_ ((un HKV).trans (Kp.below (un HvV).size hb))
      clear hb c1 hS
      obtain ⟨-, c1, hS, -⟩ := (un Hvw3).cl
      go_wp2
      refine hK.out _ _ hS (fun _ => ?_)
      clear hK K
      simp only [Act.put, nrm]
      refine rdyy 6 rfl (fun K hK => ?_)
      rw [if_pos (by kernel_rfl)]
      go_wp2_with fail
      refine (hex_one y _).mono ?_
      rintro e w4 ⟨rfl, hb⟩
      have Hvw4 := H_ ((un Hvw3).below hb)
      have HKw4 := H_ ((un HKw3).trans (Kp.below (un Hvw3).size hb))
      clear hb c1 hS
      obtain ⟨-, c1, hS, -⟩ := (un Hvw4).cl
      go_wp2
      refine hK.out _ _ hS (fun _ => ?_)
      clear hK K
      simp only [Act.put, nrm]
      refine rdyy 7 rfl (fun K hK => ?_)
      rw [if_pos (by kernel_rfl)]
      refine wp_append_str (.tmp 25) (.tmp 31) 152 9 rfl (w.heap.size + 4) 5 i0 Tryz.underlying152 Tryz.underlying9 hi0 hz0 hz1 hz2 sl (out.length + 1) (out ++ [92]) rfl (by have := (un Hvw4).own; rwa [List.length_append] at this) ⟨(hx y).toArray⟩ rfl (by show out.length + 1 + 2 <= _; omega) (un Hvw4).size ?_
      intro v5 w5 hown hgrow
      obtain ⟨p1, p2, d1, d2⟩ := (un Hvw4).appS (more := hx y) hgrow (by rw [List.length_append]; exact hown)
      obtain ⟨g5, cap5, rfl⟩ := C.own_form hown (by omega)
      have HQ5 := H_ p1
      have HK5 := H_ ((un HKw4).trans p2)
      have hS5 : w5.cell? ⟨w.heap.size + 2, 0, none⟩ = some (.string s) := by
       have := (un HQ5).cl.2.2.1
       rwa [World.cell?_setCell_other (h := by simp)] at this
      have hS6 := (un HQ5).cl.2.2.1
      refine hK.out _ _ hS5 (fun _ => ?_)
      clear hK K hown hgrow p1 p2
      simp only [Act.put, nrm]
      refine rdyy 8 rfl (fun K hK => ?_)
      rw [if_pos (by kernel_rfl)]
      go_simp
      refine hK.out _ _ hS6 (fun _ => ?_)
      clear hK K
      simp only [Act.put, nrm]
      refine wpAnyH_done (by kernel_rfl) ?_ _
      simp only [C.only]
      gi_wp2
      have hq := un HQ5
      rw [List.append_assoc, <- show prp _ (pre ++ [x]) = out ++ ([92] ++ hx y) by rw [un Hsn, if_neg (by rw [un Hp1, un Hr]; simp), if_neg (by simp)]; rfl] at hq
      exact ⟨(un HK5).1, (un HK5).2, _, hq⟩
     ·rw [if_pos (by kernel_rfl)]
      go_wp2_with fail
      refine ((un HPC) _).mono ?_
      rintro e w3 ⟨rfl, hb⟩
      have Hvw3 := H_ ((un HvV).below hb)
      have HKw3 := H_ ((un HKV).trans (Kp.below (un HvV).size hb))
      clear hb c1 hS
      obtain ⟨-, c1, hS, -⟩ := (un Hvw3).cl
      go_wp2
      refine hK.out _ _ hS (fun _ => ?_)
      clear hK K
      simp only [Act.put, nrm]
      refine wpAnyH_ready (rs := [0, 6]) (by kernel_rfl) (by simp) ?_
      refine AllReadyH.cons rfl (fun K hK => ?_) (AllReadyH.cons rfl (fun K hK => ?_) AllReadyH.nil)
      ·rw [if_pos (by kernel_rfl)]
       go_simp
       refine hK.out _ _ hS (fun _ => ?_)
       clear hK K
       simp only [Act.put, nrm]
       refine rdyy 6 rfl (fun K hK => ?_)
       rw [if_pos (by kernel_rfl)]
       go_wp2_with fail
       refine (hex_one y _).mono ?_
       rintro e w4 ⟨rfl, hb⟩
       have Hvw4 := H_ ((un Hvw3).below hb)
       have HKw4 := H_ ((un HKw3).trans (Kp.below (un Hvw3).size hb))
       clear hb c1 hS
       obtain ⟨-, c1, hS, -⟩ := (un Hvw4).cl
       go_wp2
       refine hK.out _ _ hS (fun _ => ?_)
       clear hK K
       simp only [Act.put, nrm]
       refine rdyy 7 rfl (fun K hK => ?_)
       rw [if_pos (by kernel_rfl)]
       refine wp_append_str (.tmp 25) (.tmp 31) 152 9 rfl (w.heap.size + 4) 5 i0 Tryz.underlying152 Tryz.underlying9 hi0 hz0 hz1 hz2 sl (out.length + 1) (out ++ [92]) rfl (by have := (un Hvw4).own; rwa [List.length_append] at this) ⟨(hx y).toArray⟩ rfl (by show out.length + 1 + 2 <= _; omega) (un Hvw4).size ?_
       intro v5 w5 hown hgrow
       obtain ⟨p1, p2, d1, d2⟩ := (un Hvw4).appS (more := hx y) hgrow (by rw [List.length_append]; exact hown)
       obtain ⟨g5, cap5, rfl⟩ := C.own_form hown (by omega)
       have HQ5 := H_ p1
       have HK5 := H_ ((un HKw4).trans p2)
       have hS5 : w5.cell? ⟨w.heap.size + 2, 0, none⟩ = some (.string s) := by
        have := (un HQ5).cl.2.2.1
        rwa [World.cell?_setCell_other (h := by simp)] at this
       have hS6 := (un HQ5).cl.2.2.1
       refine hK.out _ _ hS5 (fun _ => ?_)
       clear hK K hown hgrow p1 p2
       simp only [Act.put, nrm]
       refine rdyy 8 rfl (fun K hK => ?_)
       rw [if_pos (by kernel_rfl)]
       go_simp
       refine hK.out _ _ hS6 (fun _ => ?_)
       clear hK K
       simp only [Act.put, nrm]
       refine wpAnyH_done (by kernel_rfl) ?_ _
       simp only [C.only]
       gi_wp2
       have hq := un HQ5
       rw [List.append_assoc, <- show prp _ (pre ++ [x]) = out ++ ([92] ++ hx y) by rw [un Hsn, if_neg (by rw [un Hp1, un Hr]; simp), if_neg (by simp)]; rfl] at hq
       exact ⟨(un HK5).1, (un HK5).2, _, hq⟩
      ·rw [if_pos (by kernel_rfl)]
       go_wp2_with fail
       refine (hex_one y _).mono ?_
       rintro e w4 ⟨rfl, hb⟩
       have Hvw4 := H_ ((un Hvw3).below hb)
       have HKw4 := H_ ((un HKw3).trans (Kp.below (un Hvw3).size hb))
       clear hb c1 hS
       obtain ⟨-, c1, hS, -⟩ := (un Hvw4).cl
       go_wp2
       refine hK.out _ _ hS (fun _ => ?_)
       clear hK K
       simp only [Act.put, nrm]
       refine rdyy 0 rfl (fun K hK => ?_)
       rw [if_pos (by kernel_rfl)]
       go_simp
       refine hK.out _ _ hS (fun _ => ?_)
       clear hK K
       simp only [Act.put, nrm]
       refine rdyy 7 rfl (fun K hK => ?_)
       rw [if_pos (by kernel_rfl)]
       refine wp_append_str (.tmp 25) (.tmp 31) 152 9 rfl (w.heap.size + 4) 5 i0 Tryz.underlying152 Tryz.underlying9 hi0 hz0 hz1 hz2 sl (out.length + 1) (out ++ [92]) rfl (by have := (un Hvw4).own; rwa [List.length_append] at this) ⟨(hx y).toArray⟩ rfl (by show out.length + 1 + 2 <= _; omega) (un Hvw4).size ?_
       intro v5 w5 hown hgrow
       obtain ⟨p1, p2, d1, d2⟩ := (un Hvw4).appS (more := hx y) hgrow (by rw [List.length_append]; exact hown)
       obtain ⟨g5, cap5, rfl⟩ := C.own_form hown (by omega)
       have HQ5 := H_ p1
       have HK5 := H_ ((un HKw4).trans p2)
       have hS5 : w5.cell? ⟨w.heap.size + 2, 0, none⟩ = some (.string s) := by
        have := (un HQ5).cl.2.2.1
        rwa [World.cell?_setCell_other (h := by simp)] at this
       have hS6 := (un HQ5).cl.2.2.1
       refine hK.out _ _ hS5 (fun _ => ?_)
       clear hK K hown hgrow p1 p2
       simp only [Act.put, nrm]
       refine rdyy 8 rfl (fun K hK => ?_)
       rw [if_pos (by kernel_rfl)]
       go_simp
       refine hK.out _ _ hS6 (fun _ => ?_)
       clear hK K
       simp only [Act.put, nrm]
       refine wpAnyH_done (by kernel_rfl) ?_ _
       simp only [C.only]
       gi_wp2
       have hq := un HQ5
       rw [List.append_assoc, <- show prp _ (pre ++ [x]) = out ++ ([92] ++ hx y) by rw [un Hsn, if_neg (by rw [un Hp1, un Hr]; simp), if_neg (by simp)]; rfl] at hq
       exact ⟨(un HK5).1, (un HK5).2, _, hq⟩
  ·have Hp1 : Hid (pln y = false) := H_ (by simpa using hp1)
   clear HR
   by_cases a1 : (32 : Int) <= y.toNat
   ·have a2 : ¬ (y.toNat : Int) <= 126 := fun h => hp1 (by unfold pln; simp; omega)
    clear hp1
    gi_wp2
    refine ⟨trivial, ?_⟩
    obtain ⟨c0, c1, c2, c3⟩ := (un Hv).cl
    have HN := H_ (C.news W [.int .u8 92] 5)
    have HO := H_ ((un Hv).own.alloc (.cells ([.int .u8 92] : List Value).toArray 5))
    have Hz := H_ (un Hv).size
    gi_wp2_with (first
     | (gi_at_builtin; refine wpListIn_append_own _ rfl (.tmp 22) (.tmp 23) 152 rfl (w.heap.size + 4) 5 i0 (.int .u8 0) 1 1 Tryz.underlying152 hi0 hz0 hz1 hz2 rfl (by omega) v out.length (C.cells out) rfl (un HO) ⟨W.heap.size, 0, none⟩ 1 1 [.int .u8 92] rfl rfl (un HN) (by simp [Value.oneCell']) (by unfold maxLen; omega) (by omega) (by have := un Hz; simp; omega) ?_; intro v' w2 hown hgrow _; obtain ⟨g', cap', rfl⟩ := C.own_form hown (by omega); obtain ⟨p1, p2, d1, d2⟩ := (un Hv).app (more := [92]) hgrow hown; have HQ := H_ p1; have HKT := H_ p2; clear hown hgrow p1 p2 c0 c1 c2 c3)
     | gi_in)
    clear HN HO Hz
    generalize w2.setCell ⟨w.heap.size + 1, 0, none⟩ (.slice (some ⟨g', 0, none⟩) (out.length + 1) cap') = V at *
    generalize hsl : Value.slice (some ⟨g', 0, none⟩) (out.length + 1) cap' = sl at *
    have HvV := H_ (un HQ).drew
    have HKV := H_ ((un HKT).trans (Kp.below (un HQ).size (Below.refl _ _).drew))
    obtain ⟨-, c1, hS, -⟩ := (un HvV).cl
    refine regionIn_held (S := fun w' => w'.cell? ⟨w.heap.size + 2, 0, none⟩ = some (.string s)) (by kernel_rfl) (by kernel_rfl) ?_
    change wpAnyH _ _ _ _ _ 9 #[false, false, false, false, false, false, false, false, false] _ V.drew
    refine tkk 1 (.agg #[.string s]) rfl (by intro w1 hS1; go_simp; try rfl) hS ?_
    simp only [Act.put, nrm]
    refine tkk 2 (.int .i64 x.p) rfl (by intro w1 hS1; go_simp; try rfl) hS ?_
    simp only [Act.put, nrm]
    refine tkk 3 (.int .i64 x.p) rfl (by intro w1 hS1; go_simp; try rfl) hS ?_
    simp only [Act.put, nrm]
    have hiw : IntKind.i64.wrap ((x.p : Int) + 1) = x.p + 1 := i64w _ (by omega) (by omega)
    refine tkk 4 (.int .i64 ((x.p : Int) + 1)) rfl (by intro w1 hS1; go_simp; try rfl) hS ?_
    simp only [Act.put, nrm]
    clear hiw
    refine wpAnyH_ready (rs := [0, 5]) (by kernel_rfl) (by simp) ?_
    refine AllReadyH.cons rfl (fun K hK => ?_) (AllReadyH.cons rfl (fun K hK => ?_) AllReadyH.nil)
    ·rw [if_pos (by kernel_rfl)]
     go_simp
     refine hK.out _ _ hS (fun _ => ?_)
     clear hK K
     simp only [Act.put, nrm]
     refine rdyy 5 rfl (fun K hK => ?_)
     rw [if_pos (by kernel_rfl)]
     go_wp2_with fail
     refine ((un HPC) _).mono ?_
     rintro e w3 ⟨rfl, hb⟩
     have Hvw3 := H_ ((un HvV).below hb)
     have HKw3 := H_ ((un HKV).trans (Kp.below (un HvV).size hb))
     clear hb c1 hS
     obtain ⟨-, c1, hS, -⟩ := (un Hvw3).cl
     go_wp2
     refine hK.out _ _ hS (fun _ => ?_)
     clear hK K
     simp only [Act.put, nrm]
     refine rdyy 6 rfl (fun K hK => ?_)
     rw [if_pos (by kernel_rfl)]
     go_wp2_with fail
     refine (hex_one y _).mono ?_
     rintro e w4 ⟨rfl, hb⟩
     have Hvw4 := H_ ((un Hvw3).below hb)
     have HKw4 := H_ ((un HKw3).trans (Kp.below (un Hvw3).size hb))
     clear hb c1 hS
     obtain ⟨-, c1, hS, -⟩ := (un Hvw4).cl
     go_wp2
     refine hK.out _ _ hS (fun _ => ?_)
     clear hK K
     simp only [Act.put, nrm]
     refine rdyy 7 rfl (fun K hK => ?_)
     rw [if_pos (by kernel_rfl)]
     refine wp_append_str (.tmp 25) (.tmp 31) 152 9 rfl (w.heap.size + 4) 5 i0 Tryz.underlying152 Tryz.underlying9 hi0 hz0 hz1 hz2 sl (out.length + 1) (out ++ [92]) rfl (by have := (un Hvw4).own; rwa [List.length_append] at this) ⟨(hx y).toArray⟩ rfl (by show out.length + 1 + 2 <= _; omega) (un Hvw4).size ?_
     intro v5 w5 hown hgrow
     obtain ⟨p1, p2, d1, d2⟩ := (un Hvw4).appS (more := hx y) hgrow (by rw [List.length_append]; exact hown)
     obtain ⟨g5, cap5, rfl⟩ := C.own_form hown (by omega)
     have HQ5 := H_ p1
     have HK5 := H_ ((un HKw4).trans p2)
     have hS5 : w5.cell? ⟨w.heap.size + 2, 0, none⟩ = some (.string s) := by
      have := (un HQ5).cl.2.2.1
      rwa [World.cell?_setCell_other (h := by simp)] at this
     have hS6 := (un HQ5).cl.2.2.1
     refine hK.out _ _ hS5 (fun _ => ?_)
     clear hK K hown hgrow p1 p2
     simp only [Act.put, nrm]
     refine rdyy 8 rfl (fun K hK => ?_)
     rw [if_pos (by kernel_rfl)]
     go_simp
     refine hK.out _ _ hS6 (fun _ => ?_)
     clear hK K
     simp only [Act.put, nrm]
     refine wpAnyH_done (by kernel_rfl) ?_ _
     simp only [C.only]
     gi_wp2
     have hq := un HQ5
     rw [List.append_assoc, <- show prp _ (pre ++ [x]) = out ++ ([92] ++ hx y) by rw [un Hsn, if_neg (by rw [un Hp1]; simp), if_neg (by rw [un Hp1]; simp)]; rfl] at hq
     exact ⟨(un HK5).1, (un HK5).2, _, hq⟩
    ·rw [if_pos (by kernel_rfl)]
     go_wp2_with fail
     refine ((un HPC) _).mono ?_
     rintro e w3 ⟨rfl, hb⟩
     have Hvw3 := H_ ((un HvV).below hb)
     have HKw3 := H_ ((un HKV).trans (Kp.below (un HvV).size hb))
     clear hb c1 hS
     obtain ⟨-, c1, hS, -⟩ := (un Hvw3).cl
     go_wp2
     refine hK.out _ _ hS (fun _ => ?_)
     clear hK K
     simp only [Act.put, nrm]
     refine wpAnyH_ready (rs := [0, 6]) (by kernel_rfl) (by simp) ?_
     refine AllReadyH.cons rfl (fun K hK => ?_) (AllReadyH.cons rfl (fun K hK => ?_) AllReadyH.nil)
     ·rw [if_pos (by kernel_rfl)]
      go_simp
      refine hK.out _ _ hS (fun _ => ?_)
      clear hK K
      simp only [Act.put, nrm]
      refine rdyy 6 rfl (fun K hK => ?_)
      rw [if_pos (by kernel_rfl)]
      go_wp2_with fail
      refine (hex_one y _).mono ?_
      rintro e w4 ⟨rfl, hb⟩
      have Hvw4 := H_ ((un Hvw3).below hb)
      have HKw4 := H_ ((un HKw3).trans (Kp.below (un Hvw3).size hb))
      clear hb c1 hS
      obtain ⟨-, c1, hS, -⟩ := (un Hvw4).cl
      go_wp2
      refine hK.out _ _ hS (fun _ => ?_)
      clear hK K
      simp only [Act.put, nrm]
      refine rdyy 7 rfl (fun K hK => ?_)
      rw [if_pos (by kernel_rfl)]
      refine wp_append_str (.tmp 25) (.tmp 31) 152 9 rfl (w.heap.size + 4) 5 i0 Tryz.underlying152 Tryz.underlying9 hi0 hz0 hz1 hz2 sl (out.length + 1) (out ++ [92]) rfl (by have := (un Hvw4).own; rwa [List.length_append] at this) ⟨(hx y).toArray⟩ rfl (by show out.length + 1 + 2 <= _; omega) (un Hvw4).size ?_
      intro v5 w5 hown hgrow
      obtain ⟨p1, p2, d1, d2⟩ := (un Hvw4).appS (more := hx y) hgrow (by rw [List.length_append]; exact hown)
      obtain ⟨g5, cap5, rfl⟩ := C.own_form hown (by omega)
      have HQ5 := H_ p1
      have HK5 := H_ ((un HKw4).trans p2)
      have hS5 : w5.cell? ⟨w.heap.size + 2, 0, none⟩ = some (.string s) := by
       have := (un HQ5).cl.2.2.1
       rwa [World.cell?_setCell_other (h := by simp)] at this
      have hS6 := (un HQ5).cl.2.2.1
      refine hK.out _ _ hS5 (fun _ => ?_)
      clear hK K hown hgrow p1 p2
      simp only [Act.put, nrm]
      refine rdyy 8 rfl (fun K hK => ?_)
      rw [if_pos (by kernel_rfl)]
      go_simp
      refine hK.out _ _ hS6 (fun _ => ?_)
      clear hK K
      simp only [Act.put, nrm]
      refine wpAnyH_done (by kernel_rfl) ?_ _
      simp only [C.only]
      gi_wp2
      have hq := un HQ5
      rw [List.append_assoc, <- show prp _ (pre ++ [x]) = out ++ ([92] ++ hx y) by rw [un Hsn, if_neg (by rw [un Hp1]; simp), if_neg (by rw [un Hp1]; simp)]; rfl] at hq
      exact ⟨(un HK5).1, (un HK5).2, _, hq⟩
     ·rw [if_pos (by kernel_rfl)]
      go_wp2_with fail
      refine (hex_one y _).mono ?_
      rintro e w4 ⟨rfl, hb⟩
      have Hvw4 := H_ ((un Hvw3).below hb)
      have HKw4 := H_ ((un HKw3).trans (Kp.below (un Hvw3).size hb))
      clear hb c1 hS
      obtain ⟨-, c1, hS, -⟩ := (un Hvw4).cl
      go_wp2
      refine hK.out _ _ hS (fun _ => ?_)
      clear hK K
      simp only [Act.put, nrm]
      refine rdyy 0 rfl (fun K hK => ?_)
      rw [if_pos (by kernel_rfl)]
      go_simp
      refine hK.out _ _ hS (fun _ => ?_)
      clear hK K
      simp only [Act.put, nrm]
      refine rdyy 7 rfl (fun K hK => ?_)
      rw [if_pos (by kernel_rfl)]
      refine wp_append_str (.tmp 25) (.tmp 31) 152 9 rfl (w.heap.size + 4) 5 i0 Tryz.underlying152 Tryz.underlying9 hi0 hz0 hz1 hz2 sl (out.length + 1) (out ++ [92]) rfl (by have := (un Hvw4).own; rwa [List.length_append] at this) ⟨(hx y).toArray⟩ rfl (by show out.length + 1 + 2 <= _; omega) (un Hvw4).size ?_
      intro v5 w5 hown hgrow
      obtain ⟨p1, p2, d1, d2⟩ := (un Hvw4).appS (more := hx y) hgrow (by rw [List.length_append]; exact hown)
      obtain ⟨g5, cap5, rfl⟩ := C.own_form hown (by omega)
      have HQ5 := H_ p1
      have HK5 := H_ ((un HKw4).trans p2)
      have hS5 : w5.cell? ⟨w.heap.size + 2, 0, none⟩ = some (.string s) := by
       have := (un HQ5).cl.2.2.1
       rwa [World.cell?_setCell_other (h := by simp)] at this
      have hS6 := (un HQ5).cl.2.2.1
      refine hK.out _ _ hS5 (fun _ => ?_)
      clear hK K hown hgrow p1 p2
      simp only [Act.put, nrm]
      refine rdyy 8 rfl (fun K hK => ?_)
      rw [if_pos (by kernel_rfl)]
      go_simp
      refine hK.out _ _ hS6 (fun _ => ?_)
      clear hK K
      simp only [Act.put, nrm]
      refine wpAnyH_done (by kernel_rfl) ?_ _
      simp only [C.only]
      gi_wp2
      have hq := un HQ5
      rw [List.append_assoc, <- show prp _ (pre ++ [x]) = out ++ ([92] ++ hx y) by rw [un Hsn, if_neg (by rw [un Hp1]; simp), if_neg (by rw [un Hp1]; simp)]; rfl] at hq
      exact ⟨(un HK5).1, (un HK5).2, _, hq⟩
   ·clear hp1
    gi_wp2
    refine ⟨trivial, ?_⟩
    obtain ⟨c0, c1, c2, c3⟩ := (un Hv).cl
    have HN := H_ (C.news W [.int .u8 92] 5)
    have HO := H_ ((un Hv).own.alloc (.cells ([.int .u8 92] : List Value).toArray 5))
    have Hz := H_ (un Hv).size
    gi_wp2_with (first
     | (gi_at_builtin; refine wpListIn_append_own _ rfl (.tmp 22) (.tmp 23) 152 rfl (w.heap.size + 4) 5 i0 (.int .u8 0) 1 1 Tryz.underlying152 hi0 hz0 hz1 hz2 rfl (by omega) v out.length (C.cells out) rfl (un HO) ⟨W.heap.size, 0, none⟩ 1 1 [.int .u8 92] rfl rfl (un HN) (by simp [Value.oneCell']) (by unfold maxLen; omega) (by omega) (by have := un Hz; simp; omega) ?_; intro v' w2 hown hgrow _; obtain ⟨g', cap', rfl⟩ := C.own_form hown (by omega); obtain ⟨p1, p2, d1, d2⟩ := (un Hv).app (more := [92]) hgrow hown; have HQ := H_ p1; have HKT := H_ p2; clear hown hgrow p1 p2 c0 c1 c2 c3)
     | gi_in)
    clear HN HO Hz
    generalize w2.setCell ⟨w.heap.size + 1, 0, none⟩ (.slice (some ⟨g', 0, none⟩) (out.length + 1) cap') = V at *
    generalize hsl : Value.slice (some ⟨g', 0, none⟩) (out.length + 1) cap' = sl at *
    have HvV := H_ (un HQ).drew
    have HKV := H_ ((un HKT).trans (Kp.below (un HQ).size (Below.refl _ _).drew))
    obtain ⟨-, c1, hS, -⟩ := (un HvV).cl
    refine regionIn_held (S := fun w' => w'.cell? ⟨w.heap.size + 2, 0, none⟩ = some (.string s)) (by kernel_rfl) (by kernel_rfl) ?_
    change wpAnyH _ _ _ _ _ 9 #[false, false, false, false, false, false, false, false, false] _ V.drew
    refine tkk 1 (.agg #[.string s]) rfl (by intro w1 hS1; go_simp; try rfl) hS ?_
    simp only [Act.put, nrm]
    refine tkk 2 (.int .i64 x.p) rfl (by intro w1 hS1; go_simp; try rfl) hS ?_
    simp only [Act.put, nrm]
    refine tkk 3 (.int .i64 x.p) rfl (by intro w1 hS1; go_simp; try rfl) hS ?_
    simp only [Act.put, nrm]
    have hiw : IntKind.i64.wrap ((x.p : Int) + 1) = x.p + 1 := i64w _ (by omega) (by omega)
    refine tkk 4 (.int .i64 ((x.p : Int) + 1)) rfl (by intro w1 hS1; go_simp; try rfl) hS ?_
    simp only [Act.put, nrm]
    clear hiw
    refine wpAnyH_ready (rs := [0, 5]) (by kernel_rfl) (by simp) ?_
    refine AllReadyH.cons rfl (fun K hK => ?_) (AllReadyH.cons rfl (fun K hK => ?_) AllReadyH.nil)
    ·rw [if_pos (by kernel_rfl)]
     go_simp
     refine hK.out _ _ hS (fun _ => ?_)
     clear hK K
     simp only [Act.put, nrm]
     refine rdyy 5 rfl (fun K hK => ?_)
     rw [if_pos (by kernel_rfl)]
     go_wp2_with fail
     refine ((un HPC) _).mono ?_
     rintro e w3 ⟨rfl, hb⟩
     have Hvw3 := H_ ((un HvV).below hb)
     have HKw3 := H_ ((un HKV).trans (Kp.below (un HvV).size hb))
     clear hb c1 hS
     obtain ⟨-, c1, hS, -⟩ := (un Hvw3).cl
     go_wp2
     refine hK.out _ _ hS (fun _ => ?_)
     clear hK K
     simp only [Act.put, nrm]
     refine rdyy 6 rfl (fun K hK => ?_)
     rw [if_pos (by kernel_rfl)]
     go_wp2_with fail
     refine (hex_one y _).mono ?_
     rintro e w4 ⟨rfl, hb⟩
     have Hvw4 := H_ ((un Hvw3).below hb)
     have HKw4 := H_ ((un HKw3).trans (Kp.below (un Hvw3).size hb))
     clear hb c1 hS
     obtain ⟨-, c1, hS, -⟩ := (un Hvw4).cl
     go_wp2
     refine hK.out _ _ hS (fun _ => ?_)
     clear hK K
     simp only [Act.put, nrm]
     refine rdyy 7 rfl (fun K hK => ?_)
     rw [if_pos (by kernel_rfl)]
     refine wp_append_str (.tmp 25) (.tmp 31) 152 9 rfl (w.heap.size + 4) 5 i0 Tryz.underlying152 Tryz.underlying9 hi0 hz0 hz1 hz2 sl (out.length + 1) (out ++ [92]) rfl (by have := (un Hvw4).own; rwa [List.length_append] at this) ⟨(hx y).toArray⟩ rfl (by show out.length + 1 + 2 <= _; omega) (un Hvw4).size ?_
     intro v5 w5 hown hgrow
     obtain ⟨p1, p2, d1, d2⟩ := (un Hvw4).appS (more := hx y) hgrow (by rw [List.length_append]; exact hown)
     obtain ⟨g5, cap5, rfl⟩ := C.own_form hown (by omega)
     have HQ5 := H_ p1
     have HK5 := H_ ((un HKw4).trans p2)
     have hS5 : w5.cell? ⟨w.heap.size + 2, 0, none⟩ = some (.string s) := by
      have := (un HQ5).cl.2.2.1
      rwa [World.cell?_setCell_other (h := by simp)] at this
     have hS6 := (un HQ5).cl.2.2.1
     refine hK.out _ _ hS5 (fun _ => ?_)
     clear hK K hown hgrow p1 p2
     simp only [Act.put, nrm]
     refine rdyy 8 rfl (fun K hK => ?_)
     rw [if_pos (by kernel_rfl)]
     go_simp
     refine hK.out _ _ hS6 (fun _ => ?_)
     clear hK K
     simp only [Act.put, nrm]
     refine wpAnyH_done (by kernel_rfl) ?_ _
     simp only [C.only]
     gi_wp2
     have hq := un HQ5
     rw [List.append_assoc, <- show prp _ (pre ++ [x]) = out ++ ([92] ++ hx y) by rw [un Hsn, if_neg (by rw [un Hp1]; simp), if_neg (by rw [un Hp1]; simp)]; rfl] at hq
     exact ⟨(un HK5).1, (un HK5).2, _, hq⟩
    ·rw [if_pos (by kernel_rfl)]
     go_wp2_with fail
     refine ((un HPC) _).mono ?_
     rintro e w3 ⟨rfl, hb⟩
     have Hvw3 := H_ ((un HvV).below hb)
     have HKw3 := H_ ((un HKV).trans (Kp.below (un HvV).size hb))
     clear hb c1 hS
     obtain ⟨-, c1, hS, -⟩ := (un Hvw3).cl
     go_wp2
     refine hK.out _ _ hS (fun _ => ?_)
     clear hK K
     simp only [Act.put, nrm]
     refine wpAnyH_ready (rs := [0, 6]) (by kernel_rfl) (by simp) ?_
     refine AllReadyH.cons rfl (fun K hK => ?_) (AllReadyH.cons rfl (fun K hK => ?_) AllReadyH.nil)
     ·rw [if_pos (by kernel_rfl)]
      go_simp
      refine hK.out _ _ hS (fun _ => ?_)
      clear hK K
      simp only [Act.put, nrm]
      refine rdyy 6 rfl (fun K hK => ?_)
      rw [if_pos (by kernel_rfl)]
      go_wp2_with fail
      refine (hex_one y _).mono ?_
      rintro e w4 ⟨rfl, hb⟩
      have Hvw4 := H_ ((un Hvw3).below hb)
      have HKw4 := H_ ((un HKw3).trans (Kp.below (un Hvw3).size hb))
      clear hb c1 hS
      obtain ⟨-, c1, hS, -⟩ := (un Hvw4).cl
      go_wp2
      refine hK.out _ _ hS (fun _ => ?_)
      clear hK K
      simp only [Act.put, nrm]
      refine rdyy 7 rfl (fun K hK => ?_)
      rw [if_pos (by kernel_rfl)]
      refine wp_append_str (.tmp 25) (.tmp 31) 152 9 rfl (w.heap.size + 4) 5 i0 Tryz.underlying152 Tryz.underlying9 hi0 hz0 hz1 hz2 sl (out.length + 1) (out ++ [92]) rfl (by have := (un Hvw4).own; rwa [List.length_append] at this) ⟨(hx y).toArray⟩ rfl (by show out.length + 1 + 2 <= _; omega) (un Hvw4).size ?_
      intro v5 w5 hown hgrow
      obtain ⟨p1, p2, d1, d2⟩ := (un Hvw4).appS (more := hx y) hgrow (by rw [List.length_append]; exact hown)
      obtain ⟨g5, cap5, rfl⟩ := C.own_form hown (by omega)
      have HQ5 := H_ p1
      have HK5 := H_ ((un HKw4).trans p2)
      have hS5 : w5.cell? ⟨w.heap.size + 2, 0, none⟩ = some (.string s) := by
       have := (un HQ5).cl.2.2.1
       rwa [World.cell?_setCell_other (h := by simp)] at this
      have hS6 := (un HQ5).cl.2.2.1
      refine hK.out _ _ hS5 (fun _ => ?_)
      clear hK K hown hgrow p1 p2
      simp only [Act.put, nrm]
      refine rdyy 8 rfl (fun K hK => ?_)
      rw [if_pos (by kernel_rfl)]
      go_simp
      refine hK.out _ _ hS6 (fun _ => ?_)
      clear hK K
      simp only [Act.put, nrm]
      refine wpAnyH_done (by kernel_rfl) ?_ _
      simp only [C.only]
      gi_wp2
      have hq := un HQ5
      rw [List.append_assoc, <- show prp _ (pre ++ [x]) = out ++ ([92] ++ hx y) by rw [un Hsn, if_neg (by rw [un Hp1]; simp), if_neg (by rw [un Hp1]; simp)]; rfl] at hq
      exact ⟨(un HK5).1, (un HK5).2, _, hq⟩
     ·rw [if_pos (by kernel_rfl)]
      go_wp2_with fail
      refine (hex_one y _).mono ?_
      rintro e w4 ⟨rfl, hb⟩
      have Hvw4 := H_ ((un Hvw3).below hb)
      have HKw4 := H_ ((un HKw3).trans (Kp.below (un Hvw3).size hb))
      clear hb c1 hS
      obtain ⟨-, c1, hS, -⟩ := (un Hvw4).cl
      go_wp2
      refine hK.out _ _ hS (fun _ => ?_)
      clear hK K
      simp only [Act.put, nrm]
      refine rdyy 0 rfl (fun K hK => ?_)
      rw [if_pos (by kernel_rfl)]
      go_simp
      refine hK.out _ _ hS (fun _ => ?_)
      clear hK K
      simp only [Act.put, nrm]
      refine rdyy 7 rfl (fun K hK => ?_)
      rw [if_pos (by kernel_rfl)]
      refine wp_append_str (.tmp 25) (.tmp 31) 152 9 rfl (w.heap.size + 4) 5 i0 Tryz.underlying152 Tryz.underlying9 hi0 hz0 hz1 hz2 sl (out.length + 1) (out ++ [92]) rfl (by have := (un Hvw4).own; rwa [List.length_append] at this) ⟨(hx y).toArray⟩ rfl (by show out.length + 1 + 2 <= _; omega) (un Hvw4).size ?_
      intro v5 w5 hown hgrow
      obtain ⟨p1, p2, d1, d2⟩ := (un Hvw4).appS (more := hx y) hgrow (by rw [List.length_append]; exact hown)
      obtain ⟨g5, cap5, rfl⟩ := C.own_form hown (by omega)
      have HQ5 := H_ p1
      have HK5 := H_ ((un HKw4).trans p2)
      have hS5 : w5.cell? ⟨w.heap.size + 2, 0, none⟩ = some (.string s) := by
       have := (un HQ5).cl.2.2.1
       rwa [World.cell?_setCell_other (h := by simp)] at this
      have hS6 := (un HQ5).cl.2.2.1
      refine hK.out _ _ hS5 (fun _ => ?_)
      clear hK K hown hgrow p1 p2
      simp only [Act.put, nrm]
      refine rdyy 8 rfl (fun K hK => ?_)
      rw [if_pos (by kernel_rfl)]
      go_simp
      refine hK.out _ _ hS6 (fun _ => ?_)
      clear hK K
      simp only [Act.put, nrm]
      refine wpAnyH_done (by kernel_rfl) ?_ _
      simp only [C.only]
      gi_wp2
      have hq := un HQ5
      rw [List.append_assoc, <- show prp _ (pre ++ [x]) = out ++ ([92] ++ hx y) by rw [un Hsn, if_neg (by rw [un Hp1]; simp), if_neg (by rw [un Hp1]; simp)]; rfl] at hq
      exact ⟨(un HK5).1, (un HK5).2, _, hq⟩
 case done =>
  rintro D ys W hD rfl ⟨v, hv⟩ hK
  obtain ⟨c0, c1, c2, c3⟩ := hv.cl
  have hcv := C.conv_row hv.own rfl
  have HK := H_ hK
  have Hv := H_ hv
  clear hK hv hSt hBs
  go_wp2
  refine finP (un HK) (by omega) (un Hv).bel rfl fun V' hb => ⟨rfl, hb⟩
 case stop =>
  rintro D cd pre W hD hpre h hK
  exact h.elim
end Go.Proofs.YtmenllnokgjdlaaGreatDoor.E
