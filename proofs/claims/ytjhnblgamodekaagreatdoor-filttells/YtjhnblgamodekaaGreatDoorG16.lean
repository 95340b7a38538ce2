/- Several texts in one: ERead1, UIter. Each says what it proves, and its conditions. -/
import Derived.Test.YtjhnblgamodekaaGreatDoorEPrint
set_option maxHeartbeats 2000000
set_option maxRecDepth 100000
/-
 What esc.reader's closure 'lay' lays, and what reader.escaped and reader.step answer. Conditions: the package-level variables hold what the program's text lays ('Glob').
-/
namespace Go.Proofs.YtjhnblgamodekaaGreatDoor.E
open Go Go.RowKit Ec
attribute [local go_sem] Oper.semAt_some
structure Lr (B base : Nat) (out : List UInt8) (v : Value) (W : World) : Prop where
 box : W.heap[B]? = some (.cells #[v] 113)
 own : W.ownsRow base 5 1 v out.length (C.cells out)
 lt : B < base
 le : base <= W.heap.size
theorem Lr.cl {B base : Nat} {out : List UInt8} {v : Value} {W : World} (h : Lr B base out v W) : W.cell? ⟨B, 0, none⟩ = some v /\ W.frozen? ⟨B, 0, none⟩ = false := by
 have h1 := h.box
 simp [World.cell?, World.frozen?, h1]
theorem Lr.below {B base : Nat} {out : List UInt8} {v : Value} {W W' : World} (h : Lr B base out v W) (hb : Below W.heap.size W W') : Lr B base out v W' :=
 ⟨(hb.block _ (Nat.lt_of_lt_of_le h.lt h.le)).trans h.box, C.own_below h.own hb, h.lt, Nat.le_trans h.le hb.size⟩
structure Mv (B base : Nat) (W W' : World) : Prop where
 os : W'.os = W.os
 tape : W'.tape = W.tape
 output : W'.output = W.output
 size : W.heap.size <= W'.heap.size
 block : ∀ k, k < base -> k ≠ B -> W'.heap[k]? = W.heap[k]?
 keeps : KeepsOthers W W'
theorem Mv.trans {B base : Nat} {A C D : World} (h : Mv B base A C) (k : Mv B base C D) : Mv B base A D :=
 ⟨k.os.trans h.os, k.tape.trans h.tape, k.output.trans h.output, Nat.le_trans h.size k.size, fun i hi hn => (k.block i hi hn).trans (h.block i hi hn), h.keeps.trans k.keeps⟩
theorem Mv.of {B base : Nat} {W W' : World} (hz : base <= W.heap.size) (h : Below W.heap.size W W') : Mv B base W W' :=
 ⟨h.os, h.tape, h.output, h.size, fun k hk _ => h.block k (by omega), C.keepsO h⟩
theorem Mv.below {B base : Nat} {W W' : World} (h : Mv B base W W') (hB : B < base) : Below B W W' :=
 ⟨h.os, h.tape, h.output, h.size, fun k hk => h.block k (by omega) (by omega)⟩
theorem Lr.app {B base : Nat} {out more : List UInt8} {v v' : Value} {W W' : World} (h : Lr B base out v W) (hg : W.grownBy W' v.ownBlock) (ho : W'.ownsRow base 5 1 v' (out.length + more.length) (C.cells out ++ C.cells more)) :
  Lr B base (out ++ more) v' (W'.setCell ⟨B, 0, none⟩ v') /\ Mv B base W (W'.setCell ⟨B, 0, none⟩ v') /\ W'.cell? ⟨B, 0, none⟩ = some v /\ W'.frozen? ⟨B, 0, none⟩ = false := by
 have hlt := h.lt
 have hle := h.le
 have hk : ∀ k, k < base -> W'.heap[k]? = W.heap[k]? := fun k hk => hg.block k (by omega) (fun e => by have := (h.own.lt k e.symm).1; omega)
 have hb := (hk B hlt).trans h.box
 have hz : (W'.setCell ⟨B, 0, none⟩ v').heap.size = W'.heap.size := by simp [World.setCell]
 have hK : KeepsOthers W W' := ⟨hg.size, fun k o hk hc => by
  refine (hg.block k (Array.getElem?_eq_some_iff.1 hk).1 (fun e => ?_)).trans hk
  rcases h.own.2 with ⟨rfl, _⟩ | ⟨g, cap, cur, rfl, _, hgb, _⟩
  ·cases e
  ·cases e
   rw [hk] at hgb
   cases hgb
   cases hc⟩
 refine ⟨⟨heap_setCell_same W' _ 0 _ _ _ hb, ?_, hlt, by rw [hz]; exact Nat.le_trans hle hg.size⟩, ⟨hg.os, hg.tape, hg.output, by rw [hz]; exact hg.size, fun k hk1 hn => (Below.heap_setCell _ _ _ _ (by show k ≠ B; exact hn)).trans (hk k hk1), hK.trans (KeepsOthers.setCell _ _ _)⟩, ?_, ?_⟩
 ·rw [List.length_append, C.cells_append]
  exact ownsRow_setCell_below ho (by show B < base; exact hlt) _
 ·simp [World.cell?, hb]
 ·simp [World.frozen?, hb]
def LPost (B base : Nat) (out : List UInt8) (W : World) (e : Ending) (W' : World) : Prop := e = .returned (.tuple #[]) /\ (∃ v, Lr B base out v W') /\ Mv B base W W'
theorem lay_any (B base : Nat) (out : List UInt8) (v : Value) (t : ByteArray) (W : World) (h : Lr B base out v W) (hl : out.length + t.size <= 10000) (ht : 1 <= t.size) :
  Calls Tryz.prog 160 #[.string t, .pointer (some ⟨B, 0, none⟩)] W (LPost B base (out ++ t.data.toList) W) := by
 obtain ⟨i0, hi0, hz0, hz1, hz2⟩ := C.infoB
 obtain ⟨c0, c1⟩ := h.cl
 have Hh := H_ h
 have hlen : out.length + t.data.toList.length = out.length + t.size := by rw [Array.length_toList]; rfl
 clear h
 go_enter Tryz.func160, Tryz.ntmps160
 go_wp2_with (at_builtin; refine Go.Lib.wpList_append_own_string _ rfl (.tmp 3) (.tmp 4) 113 9 rfl base 5 i0 Tryz.underlying113 Tryz.underlying9 hi0 hz0 hz1 hz2 v out.length (C.cells out) rfl (un Hh).own t rfl (by unfold maxLen; omega) (by omega) (un Hh).le ?_; intro v' w' hown hgrow _; obtain ⟨p1, p2, d1, d2⟩ := (un Hh).app (more := t.data.toList) hgrow (by rw [hlen]; exact hown); obtain ⟨g', cap', rfl⟩ := C.own_form hown (by omega); have HP := H_ p1; have HM := H_ p2; clear hown hgrow p1 p2 c0 c1 hlen)
 go_end0
 exact ⟨rfl, ⟨_, un HP⟩, un HM⟩
abbrev rdv (nm : Bool) (s : ByteArray) : Value := .agg #[.string s, kv nm]
abbrev layv (B : Nat) : Value := .func (.func 160) #[] #[.pointer (some ⟨B, 0, none⟩)]
abbrev rbx (nm : Bool) (s : ByteArray) : Obj := .cells #[.string s, kv nm] 213
structure Ln (nm : Bool) (s : ByteArray) (B base : Nat) (out : List UInt8) (v : Value) (w W : World) : Prop where
 bx : W.heap[w.heap.size]? = some (rbx nm s)
 lr : Lr B base out v W
 mv : Mv B base w W
 sz : base <= w.heap.size
theorem Ln.new {nm : Bool} {s : ByteArray} {B base : Nat} {out : List UInt8} {v : Value} {w : World} (h : Lr B base out v w) : Ln nm s B base out v w (w.alloc (rbx nm s)) :=
 ⟨World.alloc_heap_new _ _, h.below ((Below.refl _ _).alloc (Nat.le_refl _) _), Mv.of h.le ((Below.refl _ _).alloc (Nat.le_refl _) _), h.le⟩
theorem Ln.below {nm : Bool} {s : ByteArray} {B base : Nat} {out : List UInt8} {v : Value} {w W W' : World} (h : Ln nm s B base out v w W) (hb : Below W.heap.size W W') : Ln nm s B base out v w W' :=
 ⟨(hb.block _ (Array.getElem?_eq_some_iff.1 h.bx).1).trans h.bx, h.lr.below hb, h.mv.trans (Mv.of h.lr.le hb), h.sz⟩
theorem Ln.cl {nm : Bool} {s : ByteArray} {B base : Nat} {out : List UInt8} {v : Value} {w W : World} (h : Ln nm s B base out v w W) : W.cell? ⟨w.heap.size, 0, none⟩ = some (.string s) /\ W.cell? ⟨w.heap.size, 1, none⟩ = some (kv nm) := by
 have h1 := h.bx
 simp [World.cell?, h1]
theorem Ln.glob {nm : Bool} {s : ByteArray} {B base : Nat} {out : List UInt8} {v : Value} {w W u : World} {a : Ad} (h : Ln nm s B base out v w W) (g : Glob a u) (hu : u.heap.size <= B) (hb : Below u.heap.size u w) : Glob a W :=
 g.below (Nat.le_refl _) (hb.trans ((h.mv.below h.lr.lt).mono hu))
def SPost (a : Ad) (B base : Nat) (out : List UInt8) (q : Nat) (r : Option (List UInt8 × Nat)) (w : World) (e : Ending) (w' : World) : Prop :=
 Mv B base w w' /\ match r with
 | some (t, k) => e = .returned (.tuple #[.int .i64 ((q + k : Nat) : Int), .nilIface]) /\ ∃ v, Lr B base (out ++ t) v w'
 | none => ∃ x, e = .returned (.tuple #[.int .i64 0, .iface 216 x]) /\ IsErr a (.iface 216 x) /\ ∃ v, Lr B base out v w'
theorem SPost.yes {a : Ad} {B base : Nat} {out : List UInt8} {q k : Nat} {t : List UInt8} {w w' : World} {e : Ending} (hm : Mv B base w w') (he : e = .returned (.tuple #[.int .i64 ((q + k : Nat) : Int), .nilIface])) (hl : ∃ v, Lr B base (out ++ t) v w') : SPost a B base out q (some (t, k)) w e w' := ⟨hm, he, hl⟩
theorem SPost.no {a : Ad} {B base : Nat} {out : List UInt8} {q : Nat} {w w' : World} {e : Ending} {x : Value} (hm : Mv B base w w') (he : e = .returned (.tuple #[.int .i64 0, .iface 216 x])) (hx : IsErr a (.iface 216 x)) (hl : ∃ v, Lr B base out v w') : SPost a B base out q none w e w' := ⟨hm, x, he, hx, hl⟩
theorem esc_mark (s : ByteArray) (q : Nat) (B base : Nat) (out : List UInt8) (v : Value) (a : Ad) (w : World) (h : Lr B base out v w) (hs : s.size <= 1000) (ho : out.length <= 1000) (hq : q < s.size) (hh : sE.contains s[q] = true) :
  Calls Tryz.prog 164 #[rdv true s, .int .i64 q, layv B] w (SPost a B base out q (some ([s[q]], 1)) w) := by
 have HL := H_ (Ln.new (nm := true) (s := s) h)
 have H1 := H_ fun W b hb => has_new s q sE W #[.int .u8 92, .int .u8 34, .int .u8 43, .int .u8 44, .int .u8 59, .int .u8 60, .int .u8 62, .int .u8 32, .int .u8 35, .int .u8 61] 5 10 b rfl rfl (by decide) hb
 rw [hv_at sE hq, hh] at H1
 have H2 := H_ fun W => piece_one s q W hs hq
 have hq' : (q : Int) <= 1000 := by omega
 clear h hh
 generalize s[q] = y at *
 obtain ⟨c0, c1⟩ := (un HL).cl
 go_enter Tryz.func164, Tryz.ntmps164
 go_wp2_with fail
 refine ((un H1) _ _ (by simp)).mono ?_
 rintro e w1 ⟨rfl, hb⟩
 have HL1 := H_ ((un HL).below hb)
 clear hb c0 c1 HL
 obtain ⟨c0, c1⟩ := (un HL1).cl
 go_wp2_with fail
 refine ((un H2) _).mono ?_
 rintro e w2 ⟨rfl, hb⟩
 have HL2 := H_ ((un HL1).below hb)
 clear hb c0 c1 HL1
 go_wp2_with fail
 refine (lay_any B base out v ⟨#[y]⟩ w2 (un HL2).lr (by show out.length + 1 <= _; omega) (by show 1 <= 1; omega)).mono ?_
 rintro e w3 ⟨rfl, hl, hm⟩
 have HM := H_ ((un HL2).mv.trans hm)
 have HLL := H_ hl
 clear hl hm
 go_wp2
 go_ret2
 exact SPost.yes (un HM) (by simp) (un HLL)
theorem esc_two (nm : Bool) (s : ByteArray) (q : Nat) (b : UInt8) (B base : Nat) (out : List UInt8) (v : Value) (a : Ad) (u w : World) (h : Lr B base out v w) (hs : s.size <= 1000) (ho : out.length <= 1000) (hq : q <= s.size) (g : Glob a u) (hu : u.heap.size <= B) (hub : Below u.heap.size u w) (hh : nm = true -> hv s q sE = false) (hx : C.und Cd.kH (pc s q 2) = (⟨#[b]⟩, 0)) :
  Calls Tryz.prog 164 #[rdv nm s, .int .i64 q, layv B] w (SPost a B base out q (some ([b], 2)) w) := by
 have HL := H_ (Ln.new (nm := nm) (s := s) h)
 have HG := H_ fun (W : World) (hl : Ln nm s B base out v w W) => hl.glob g hu hub
 have H2 : Hid (∀ W : World, Calls Tryz.prog 92 #[.agg #[.string s], .int .i64 q, .int .i64 ((q : Int) + 2)] W fun e w' => e = .returned (.string (pc s q 2)) /\ Below W.heap.size W w') := H_ fun W => piece_any s q 2 W hs hq (by omega)
 have H3 := H_ fun (W : World) (gw : Glob a W) => C.unhex_any (pc s q 2) a.cd W gw.gc (by show (s.extract q _).size <= _; rw [ByteArray.size_extract]; omega)
 rw [hx] at H3
 have hq' : (q : Int) <= 1000 := by omega
 have hlt := h.lt
 clear h hx g hub
 generalize pc s q 2 = pq at *
 obtain ⟨c0, c1⟩ := (un HL).cl
 cases nm with
 | false =>
  go_enter Tryz.func164, Tryz.ntmps164
  go_wp2_with fail
  refine ((un H2) _).mono ?_
  rintro e w2 ⟨rfl, hb⟩
  replace HL := H_ ((un HL).below hb)
  clear hb c0 c1
  go_wp2_with fail
  refine ((un H3) _ ((un HG) _ (un HL))).mono ?_
  rintro e w3 ⟨rfl, hb⟩
  replace HL := H_ ((un HL).below hb)
  clear hb
  go_wp2_with fail
  refine (lay_any B base out v ⟨#[b]⟩ w3 (un HL).lr (by show out.length + 1 <= _; omega) (by show 1 <= 1; omega)).mono ?_
  rintro e w4 ⟨rfl, hl, hm⟩
  have HM := H_ ((un HL).mv.trans hm)
  have HLL := H_ hl
  clear hl hm
  go_wp2
  go_ret2
  exact SPost.yes (un HM) (by simp) (un HLL)
 | true =>
  have H1 := H_ fun W b hb => has_new s q sE W #[.int .u8 92, .int .u8 34, .int .u8 43, .int .u8 44, .int .u8 59, .int .u8 60, .int .u8 62, .int .u8 32, .int .u8 35, .int .u8 61] 5 10 b rfl rfl (by decide) hb
  rw [hh rfl] at H1
  go_enter Tryz.func164, Tryz.ntmps164
  go_wp2_with fail
  refine ((un H1) _ _ (by simp)).mono ?_
  rintro e w1 ⟨rfl, hb⟩
  replace HL := H_ ((un HL).below hb)
  clear hb c0 c1
  obtain ⟨c0, c1⟩ := (un HL).cl
  go_wp2_with fail
  refine ((un H2) _).mono ?_
  rintro e w2 ⟨rfl, hb⟩
  replace HL := H_ ((un HL).below hb)
  clear hb c0 c1
  go_wp2_with fail
  refine ((un H3) _ ((un HG) _ (un HL))).mono ?_
  rintro e w3 ⟨rfl, hb⟩
  replace HL := H_ ((un HL).below hb)
  clear hb
  go_wp2_with fail
  refine (lay_any B base out v ⟨#[b]⟩ w3 (un HL).lr (by show out.length + 1 <= _; omega) (by show 1 <= 1; omega)).mono ?_
  rintro e w4 ⟨rfl, hl, hm⟩
  have HM := H_ ((un HL).mv.trans hm)
  have HLL := H_ hl
  clear hl hm
  go_wp2
  go_ret2
  exact SPost.yes (un HM) (by simp) (un HLL)
theorem esc_no50 (nm : Bool) (s : ByteArray) (q : Nat) (B base : Nat) (out : List UInt8) (v : Value) (a : Ad) (u w : World) (h : Lr B base out v w) (hs : s.size <= 1000) (hq : q <= s.size) (g : Glob a u) (hu : u.heap.size <= B) (hub : Below u.heap.size u w) (hh : nm = true -> hv s q sE = false) (hx : C.und Cd.kH (pc s q 2) = (⟨#[]⟩, 50)) :
  Calls Tryz.prog 164 #[rdv nm s, .int .i64 q, layv B] w (SPost a B base out q (none) w) := by
 have HL := H_ (Ln.new (nm := nm) (s := s) h)
 have HG := H_ fun (W : World) (hl : Ln nm s B base out v w W) => hl.glob g hu hub
 have H2 : Hid (∀ W : World, Calls Tryz.prog 92 #[.agg #[.string s], .int .i64 q, .int .i64 ((q : Int) + 2)] W fun e w' => e = .returned (.string (pc s q 2)) /\ Below W.heap.size W w') := H_ fun W => piece_any s q 2 W hs hq (by omega)
 have H3 := H_ fun (W : World) (gw : Glob a W) => C.unhex_any (pc s q 2) a.cd W gw.gc (by show (s.extract q _).size <= _; rw [ByteArray.size_extract]; omega)
 rw [hx] at H3
 have hq' : (q : Int) <= 1000 := by omega
 have hlt := h.lt
 clear h hx g hub
 generalize pc s q 2 = pq at *
 obtain ⟨c0, c1⟩ := (un HL).cl
 cases nm with
 | false =>
  go_enter Tryz.func164, Tryz.ntmps164
  go_wp2_with fail
  refine ((un H2) _).mono ?_
  rintro e w2 ⟨rfl, hb⟩
  replace HL := H_ ((un HL).below hb)
  clear hb c0 c1
  go_wp2_with fail
  refine ((un H3) _ ((un HG) _ (un HL))).mono ?_
  rintro e w3 ⟨rfl, hb⟩
  replace HL := H_ ((un HL).below hb)
  clear hb
  have cm := ((un HG) _ (un HL)).mr
  have cm' : w3.drew.cell? ⟨12, 0, none⟩ = some (.iface 254 (.pointer (some a.m))) := cm
  go_wp2
  go_quiet (fail)
  go_wp2
  go_ret2
  have hL := fun n => (un HL).below (U.below_drewN (Below.refl _ _) n)
  exact SPost.no (hL _).mv rfl (.inr (.inl ⟨_, rfl⟩)) ⟨v, (hL _).lr⟩
 | true =>
  have H1 := H_ fun W b hb => has_new s q sE W #[.int .u8 92, .int .u8 34, .int .u8 43, .int .u8 44, .int .u8 59, .int .u8 60, .int .u8 62, .int .u8 32, .int .u8 35, .int .u8 61] 5 10 b rfl rfl (by decide) hb
  rw [hh rfl] at H1
  go_enter Tryz.func164, Tryz.ntmps164
  go_wp2_with fail
  refine ((un H1) _ _ (by simp)).mono ?_
  rintro e w1 ⟨rfl, hb⟩
  replace HL := H_ ((un HL).below hb)
  clear hb c0 c1
  obtain ⟨c0, c1⟩ := (un HL).cl
  go_wp2_with fail
  refine ((un H2) _).mono ?_
  rintro e w2 ⟨rfl, hb⟩
  replace HL := H_ ((un HL).below hb)
  clear hb c0 c1
  go_wp2_with fail
  refine ((un H3) _ ((un HG) _ (un HL))).mono ?_
  rintro e w3 ⟨rfl, hb⟩
  replace HL := H_ ((un HL).below hb)
  clear hb
  have cm := ((un HG) _ (un HL)).mr
  have cm' : w3.drew.cell? ⟨12, 0, none⟩ = some (.iface 254 (.pointer (some a.m))) := cm
  go_wp2
  go_quiet (fail)
  go_wp2
  go_ret2
  have hL := fun n => (un HL).below (U.below_drewN (Below.refl _ _) n)
  exact SPost.no (hL _).mv rfl (.inr (.inl ⟨_, rfl⟩)) ⟨v, (hL _).lr⟩
theorem esc_no0 (nm : Bool) (s : ByteArray) (q : Nat) (B base : Nat) (out : List UInt8) (v : Value) (a : Ad) (u w : World) (h : Lr B base out v w) (hs : s.size <= 1000) (hq : q <= s.size) (g : Glob a u) (hu : u.heap.size <= B) (hub : Below u.heap.size u w) (hh : nm = true -> hv s q sE = false) (hx : C.und Cd.kH (pc s q 2) = (⟨#[]⟩, 0)) :
  Calls Tryz.prog 164 #[rdv nm s, .int .i64 q, layv B] w (SPost a B base out q (none) w) := by
 have HL := H_ (Ln.new (nm := nm) (s := s) h)
 have HG := H_ fun (W : World) (hl : Ln nm s B base out v w W) => hl.glob g hu hub
 have H2 : Hid (∀ W : World, Calls Tryz.prog 92 #[.agg #[.string s], .int .i64 q, .int .i64 ((q : Int) + 2)] W fun e w' => e = .returned (.string (pc s q 2)) /\ Below W.heap.size W w') := H_ fun W => piece_any s q 2 W hs hq (by omega)
 have H3 := H_ fun (W : World) (gw : Glob a W) => C.unhex_any (pc s q 2) a.cd W gw.gc (by show (s.extract q _).size <= _; rw [ByteArray.size_extract]; omega)
 rw [hx] at H3
 have hq' : (q : Int) <= 1000 := by omega
 have hlt := h.lt
 clear h hx g hub
 generalize pc s q 2 = pq at *
 obtain ⟨c0, c1⟩ := (un HL).cl
 cases nm with
 | false =>
  go_enter Tryz.func164, Tryz.ntmps164
  go_wp2_with fail
  refine ((un H2) _).mono ?_
  rintro e w2 ⟨rfl, hb⟩
  replace HL := H_ ((un HL).below hb)
  clear hb c0 c1
  go_wp2_with fail
  refine ((un H3) _ ((un HG) _ (un HL))).mono ?_
  rintro e w3 ⟨rfl, hb⟩
  replace HL := H_ ((un HL).below hb)
  clear hb
  have cm := ((un HG) _ (un HL)).mr
  have cm' : w3.drew.cell? ⟨12, 0, none⟩ = some (.iface 254 (.pointer (some a.m))) := cm
  go_wp2
  go_quiet (fail)
  go_wp2
  go_ret2
  have hL := fun n => (un HL).below (U.below_drewN (Below.refl _ _) n)
  exact SPost.no (hL _).mv rfl (.inr (.inl ⟨_, rfl⟩)) ⟨v, (hL _).lr⟩
 | true =>
  have H1 := H_ fun W b hb => has_new s q sE W #[.int .u8 92, .int .u8 34, .int .u8 43, .int .u8 44, .int .u8 59, .int .u8 60, .int .u8 62, .int .u8 32, .int .u8 35, .int .u8 61] 5 10 b rfl rfl (by decide) hb
  rw [hh rfl] at H1
  go_enter Tryz.func164, Tryz.ntmps164
  go_wp2_with fail
  refine ((un H1) _ _ (by simp)).mono ?_
  rintro e w1 ⟨rfl, hb⟩
  replace HL := H_ ((un HL).below hb)
  clear hb c0 c1
  obtain ⟨c0, c1⟩ := (un HL).cl
  go_wp2_with fail
  refine ((un H2) _).mono ?_
  rintro e w2 ⟨rfl, hb⟩
  replace HL := H_ ((un HL).below hb)
  clear hb c0 c1
  go_wp2_with fail
  refine ((un H3) _ ((un HG) _ (un HL))).mono ?_
  rintro e w3 ⟨rfl, hb⟩
  replace HL := H_ ((un HL).below hb)
  clear hb
  have cm := ((un HG) _ (un HL)).mr
  have cm' : w3.drew.cell? ⟨12, 0, none⟩ = some (.iface 254 (.pointer (some a.m))) := cm
  go_wp2
  go_quiet (fail)
  go_wp2
  go_ret2
  have hL := fun n => (un HL).below (U.below_drewN (Below.refl _ _) n)
  exact SPost.no (hL _).mv rfl (.inr (.inl ⟨_, rfl⟩)) ⟨v, (hL _).lr⟩
theorem pc_data (s : ByteArray) (q k : Nat) : (pc s q k).data.toList = (s.data.toList.drop q).take k := by
 unfold pc
 rw [ByteArray.data_extract, Array.toList_extract, List.extract_eq_take_drop]
 have hl : (s.data.toList.drop q).length = s.size - q := by rw [List.length_drop, Array.length_toList]; rfl
 by_cases h : q + k <= s.size
 ·rw [Nat.min_eq_left h, Nat.add_sub_cancel_left]
 ·rw [Nat.min_eq_right (by omega), List.take_of_length_le (by omega), List.take_of_length_le (by omega)]
theorem und_some {t : ByteArray} {l : List UInt8} (h : Cd.dec Cd.kH t.data.toList = some l) : C.und Cd.kH t = (⟨l.toArray⟩, 0) := by
 unfold C.und
 rw [h]
theorem und_none {t : ByteArray} (h : Cd.dec Cd.kH t.data.toList = none) : C.und Cd.kH t = (⟨#[]⟩, 50) := by
 unfold C.und
 rw [h]
theorem drop_at {s : ByteArray} {q : Nat} (h : q < s.size) : s.data.toList.drop q = s[q] :: s.data.toList.drop (q + 1) := by
 have hl : q < s.data.toList.length := by simpa using h
 rw [List.drop_eq_getElem_cons hl]
 rfl
theorem drop_out {s : ByteArray} {q : Nat} (h : ¬ q < s.size) : s.data.toList.drop q = [] := List.drop_of_length_le (by have e : s.data.toList.length = s.size := Array.length_toList; omega)
theorem esc1_two {nm : Bool} {y z : UInt8} {r : List UInt8} (h : (nm && sE.contains y) = false) : esc1 nm (y :: z :: r) = match Cd.nh y, Cd.nh z with | some a, some b => some ([UInt8.ofNat (16 * a + b)], 2) | _, _ => none := by
 simp only [esc1, h, Bool.false_eq_true, if_false]
 cases Cd.nh y <;> cases Cd.nh z <;> rfl
theorem esc1_one {nm : Bool} {y : UInt8} (h : (nm && sE.contains y) = false) : esc1 nm [y] = none := by
 simp only [esc1, h, Bool.false_eq_true, if_false]
theorem escaped_any (nm : Bool) (s : ByteArray) (q B base : Nat) (out : List UInt8) (v : Value) (a : Ad) (u w : World) (h : Lr B base out v w) (hs : s.size <= 1000) (ho : out.length <= 1000) (hq : q <= s.size) (g : Glob a u) (hu : u.heap.size <= B) (hub : Below u.heap.size u w) :
  Calls Tryz.prog 164 #[rdv nm s, .int .i64 q, layv B] w (SPost a B base out q (esc1 nm (s.data.toList.drop q)) w) := by
 by_cases h1 : q < s.size
 ·rw [drop_at h1]
  by_cases hm : (nm && sE.contains s[q]) = true
  ·rw [esc1_mark _ hm]
   rw [Bool.and_eq_true] at hm
   obtain ⟨rfl, hm⟩ := hm
   exact esc_mark s q B base out v a w h hs ho h1 hm
  ·have hm' : (nm && sE.contains s[q]) = false := by simpa using hm
   have hh : nm = true -> hv s q sE = false := fun e => by rw [hv_at sE h1]; subst e; simpa using hm'
   by_cases h2 : q + 1 < s.size
   ·rw [drop_at h2, esc1_two hm']
    have hd : Cd.dec Cd.kH (pc s q 2).data.toList = Cd.dec Cd.kH [s[q], s[q + 1]] := by rw [pc_data, drop_at h1, drop_at h2]; rfl
    rw [dec_two] at hd
    cases e1 : Cd.nh s[q] with
    | none =>
     simp only [e1] at hd ⊢
     exact esc_no50 nm s q B base out v a u w h hs hq g hu hub hh (und_none hd)
    | some i =>
     cases e2 : Cd.nh s[q + 1] with
     | none =>
      simp only [e1, e2] at hd ⊢
      exact esc_no50 nm s q B base out v a u w h hs hq g hu hub hh (und_none hd)
     | some j =>
      simp only [e1, e2] at hd ⊢
      exact esc_two nm s q _ B base out v a u w h hs ho hq g hu hub hh (und_some hd)
   ·rw [drop_out h2, esc1_one hm']
    exact esc_no50 nm s q B base out v a u w h hs hq g hu hub hh (und_none (by rw [pc_data, drop_at h1, drop_out h2]; exact dec_one _))
 ·rw [drop_out h1]
  exact esc_no0 nm s q B base out v a u w h hs hq g hu hub (fun _ => hv_no sE h1) (und_some (l := []) (by rw [pc_data, drop_out h1]; rfl))
theorem SPost.from {a : Ad} {B base : Nat} {out : List UInt8} {q : Nat} {r : Option (List UInt8 × Nat)} {w w1 w' : World} {e : Ending} (hm : Mv B base w w1) (h : SPost a B base out q r w1 e w') : SPost a B base out q r w e w' := ⟨hm.trans h.1, h.2⟩
theorem step_mark (nm : Bool) (s : ByteArray) (p B base : Nat) (out : List UInt8) (v : Value) (a : Ad) (u w : World) (h : Lr B base out v w) (hs : s.size <= 1000) (ho : out.length <= 1000) (hp : p < s.size) (g : Glob a u) (hu : u.heap.size <= B) (hub : Below u.heap.size u w) :
  Calls Tryz.prog 161 #[rdv nm s, .int .i64 p, .int .u8 92, layv B] w (SPost a B base out (p + 1) (esc1 nm (s.data.toList.drop (p + 1))) w) := by
 have hL := Ln.new (nm := nm) (s := s) h
 have hG := hub.trans ((hL.mv.below hL.lr.lt).mono hu)
 have H := escaped_any nm s (p + 1) B base out v a u _ hL.lr hs ho hp g hu hG
 have HM := H_ hL.mv
 obtain ⟨c0, c1⟩ := hL.cl
 have hp' : (p : Int) <= 1000 := by omega
 have e1 : (((p + 1 : Nat)) : Int) = (p : Int) + 1 := by omega
 rw [e1] at H
 clear hL hG g hub h e1
 generalize esc1 nm (s.data.toList.drop (p + 1)) = r at *
 cases r with
 | none =>
  have H' := H_ (H.mono (R' := fun e w' => ∃ x, e = .returned (.tuple #[.int .i64 0, .iface 216 x]) /\ Hid (SPost a B base out (p + 1) none (w.alloc (rbx nm s)) e w')) (fun e w' hp => by obtain ⟨x, he, _⟩ := hp.2; exact ⟨x, he, hp⟩))
  clear H
  go_enter Tryz.func161, Tryz.ntmps161
  go_wp2_with fail
  refine (un H').mono ?_
  rintro e w1 ⟨x, rfl, hp⟩
  go_wp2
  go_ret2
  exact SPost.from (un HM) (un hp)
 | some tk =>
  obtain ⟨t, k⟩ := tk
  have H' := H_ (H.mono (R' := fun e w' => e = .returned (.tuple #[.int .i64 ((p + 1 + k : Nat) : Int), .nilIface]) /\ Hid (SPost a B base out (p + 1) (some (t, k)) (w.alloc (rbx nm s)) e w')) (fun e w' hp => ⟨hp.2.1, hp⟩))
  clear H
  generalize ((p + 1 + k : Nat) : Int) = N at *
  go_enter Tryz.func161, Tryz.ntmps161
  go_wp2_with fail
  refine (un H').mono ?_
  rintro e w1 ⟨rfl, hp⟩
  go_wp2
  go_ret2
  exact SPost.from (un HM) (un hp)
theorem step_bare (nm : Bool) (s : ByteArray) (p B base : Nat) (out : List UInt8) (v : Value) (a : Ad) (w : World) (h : Lr B base out v w) (hs : s.size <= 1000) (ho : out.length <= 1000) (hp : p < s.size) (y : UInt8) (hy : s[p] = y) (h92 : y ≠ 92) (b : Bool) (hb : (y == 0 || res nm s.size p y) = b) :
  Calls Tryz.prog 161 #[rdv nm s, .int .i64 p, .int .u8 (y.toNat : Int), layv B] w (SPost a B base out (p + 1) (if b = true then none else some ([y], 0)) w) := by
 have HL := H_ (Ln.new (nm := nm) (s := s) h)
 obtain ⟨c0, c1⟩ := (un HL).cl
 have hp' : (p : Int) <= 1000 := by omega
 have h92' : ((y.toNat : Int) == 92) = false := by
  have := beq_u8 y 92 h92
  exact this
 have H1 := H_ fun W => reserved_any nm s p W hs hp
 have H2 := H_ fun W => piece_one s p W hs hp
 rw [hy] at H1 H2
 clear h hy h92
 by_cases h0 : y = 0
 ·subst h0
  obtain rfl : b = true := by rw [<- hb]; rfl
  rw [if_pos rfl]
  clear hb H1 H2
  go_enter Tryz.func161, Tryz.ntmps161
  go_wp2
  go_ret2
  exact SPost.no (un HL).mv rfl (.inr (.inr ⟨_, _, rfl⟩)) ⟨v, (un HL).lr⟩
 ·have h0' : ((y.toNat : Int) == 0) = false := beq_u8 y 0 h0
  obtain rfl : res nm s.size p y = b := by rw [<- hb]; simp [h0]
  clear hb h0
  generalize res nm s.size p y = b at *
  cases b with
  | true =>
   rw [if_pos rfl]
   go_enter Tryz.func161, Tryz.ntmps161
   go_wp2_with fail
   refine ((un H1) _).mono ?_
   rintro e w1 ⟨rfl, hb⟩
   replace HL := H_ ((un HL).below hb)
   clear hb c0 c1
   go_wp2
   go_ret2
   exact SPost.no (un HL).mv rfl (.inr (.inr ⟨_, _, rfl⟩)) ⟨v, (un HL).lr⟩
  | false =>
   rw [if_neg (by simp)]
   go_enter Tryz.func161, Tryz.ntmps161
   go_wp2_with fail
   refine ((un H1) _).mono ?_
   rintro e w1 ⟨rfl, hb⟩
   replace HL := H_ ((un HL).below hb)
   clear hb c0 c1
   obtain ⟨c0, c1⟩ := (un HL).cl
   go_wp2_with fail
   refine ((un H2) _).mono ?_
   rintro e w2 ⟨rfl, hb⟩
   replace HL := H_ ((un HL).below hb)
   clear hb c0 c1
   go_wp2_with fail
   refine (lay_any B base out v ⟨#[y]⟩ w2 (un HL).lr (by show out.length + 1 <= _; omega) (by show 1 <= 1; omega)).mono ?_
   rintro e w3 ⟨rfl, hl, hm⟩
   have HM := H_ ((un HL).mv.trans hm)
   have HLL := H_ hl
   clear hl hm
   go_wp2
   go_ret2
   exact SPost.yes (un HM) (by simp) (un HLL)
theorem step_any (nm : Bool) (s : ByteArray) (p B base : Nat) (out : List UInt8) (v : Value) (a : Ad) (u w : World) (h : Lr B base out v w) (hs : s.size <= 1000) (ho : out.length <= 1000) (hp : p < s.size) (g : Glob a u) (hu : u.heap.size <= B) (hub : Below u.heap.size u w) :
  Calls Tryz.prog 161 #[rdv nm s, .int .i64 p, .int .u8 (s[p].toNat : Int), layv B] w (SPost a B base out (p + 1) (stp nm s.size p s[p] (s.data.toList.drop (p + 1))) w) := by
 unfold stp
 by_cases h92 : s[p] = 92
 ·rw [if_pos h92, h92]
  exact step_mark nm s p B base out v a u w h hs ho hp g hu hub
 ·rw [if_neg h92]
  exact step_bare nm s p B base out v a w h hs ho hp _ rfl h92 _ rfl
end Go.Proofs.YtjhnblgamodekaaGreatDoor.E
/-
 The iterator of package utf: 'text.signs' hands over what a range over the text gives, each with its place. Conditions: none.
-/
namespace Go.Proofs.YtjhnblgamodekaaGreatDoor.U
open Go Go.RowKit Go.Shelf
attribute [local go_sem] Oper.semAt_some
theorem dec_pos (s : ByteArray) (p : Nat) (h : p < s.size) : 1 <= (Utf8.decode s p).2 := by
 rw [Ut.decode_eq s p h]
 cases Ut.dc (s.data.toList.drop p) with
 | none => exact Nat.le_refl _
 | some c => exact Ut.enc_pos c
theorem dec_le (s : ByteArray) (p : Nat) (h : p < s.size) : (Utf8.decode s p).1 <= 1114111 := by
 rw [Ut.decode_eq s p h]
 cases hd : Ut.dc (s.data.toList.drop p) with
 | none => show 65533 <= 1114111; omega
 | some c => exact (Ut.dc_some hd).1.1
structure Sg (s : ByteArray) where
 p : Nat
 n : Nat
 hp : p < s.size
 hn : n <= 1114111
def al (s : ByteArray) : Nat -> Nat -> List (Sg s)
 | 0, _ => []
 | f + 1, p => if h : p < s.size then ⟨p, (Utf8.decode s p).1, h, dec_le s p h⟩ :: al s f (p + (Utf8.decode s p).2) else []
def all (s : ByteArray) : List (Sg s) := al s s.size 0
theorem al_cons (s : ByteArray) (f p : Nat) (h : p < s.size) (hf : s.size <= p + f) : ∃ f', f = f' + 1 /\ al s f p = ⟨p, (Utf8.decode s p).1, h, dec_le s p h⟩ :: al s f' (p + (Utf8.decode s p).2) /\ s.size <= p + (Utf8.decode s p).2 + f' := by
 cases f with
 | zero => omega
 | succ f => exact ⟨f, rfl, by rw [al, dif_pos h], by have := dec_pos s p h; omega⟩
theorem al_end (s : ByteArray) (f p : Nat) (h : ¬ p < s.size) : al s f p = [] := by
 cases f with
 | zero => rfl
 | succ f => rw [al, dif_neg h]
theorem run_next_at (w : World) (B : Nat) (s : ByteArray) (p : Nat) (ty : TypeId) (hB : w.heap[B]? = some (.stringIter s p)) (h : p < s.size) :
  (Instr.next (.pointer (some ⟨B, 0, none⟩)) true ty).run Tryz.prog w = .ok (.tuple #[.bool true, .int .i64 p, .int .i32 (Utf8.decode s p).1]) (w.putObj B (.stringIter s (p + (Utf8.decode s p).2))) := by
 simp only [Instr.next, getObj, setObj, Sem.run_bind, Sem.run, hB, Result.andThen, h, if_true]
 simp [goInt, World.putObj]
theorem run_next_over (w : World) (B : Nat) (s : ByteArray) (p : Nat) (ty : TypeId) (hB : w.heap[B]? = some (.stringIter s p)) (h : ¬ p < s.size) :
  (Instr.next (.pointer (some ⟨B, 0, none⟩)) true ty).run Tryz.prog w = .ok (.tuple #[.bool false]) w := by
 simp only [Instr.next, getObj, Sem.run_bind, Sem.run, hB, Result.andThen, h, if_false]
 simp
theorem signs_any (s : ByteArray) (w : World) :
  Calls Tryz.prog 171 #[.agg #[.string s]] w fun e w' => e = .returned (.func (.func 176) #[] #[.pointer (some ⟨w.heap.size, 0, none⟩)]) /\ w' = w.alloc (.cells #[.string s] 232) := by
 go_enter Tryz.func171, Tryz.ntmps171
 go_wp2
 go_ret
 exact ⟨rfl, rfl⟩
theorem signs1_stops (n : Nat) (hn : 1 <= n) (Bs : Nat) (s : ByteArray) (w : World)
  (hBs : w.cell? ⟨Bs, 0, none⟩ = some (.string s)) :
  SeqStopsK Fence.wide n Tryz.prog 176 #[.pointer (some ⟨Bs, 0, none⟩)] (fun x : Sg s => #[.int .i64 x.p, .int .i32 x.n]) KeepsWalks
   (fun xs => xs = all s) (fun pre => pre <+: all s) s.size w := fun l J Jx W hW hJ hJx hY h0 => by
 have hbs := (hW.cell (p := ⟨Bs, 0, none⟩) (lt_of_cell hBs)).trans hBs
 clear hBs hW
 refine callsIn_of_wp Tryz.func176 rfl trivial ?_ rfl
 simp only [Tryz.ntmps176, List.size_toArray, List.length_cons, List.length_nil, Nat.reduceAdd, Nat.reduceSub, Array.replicate_succ, Array.replicate_zero, List.push_toArray, List.append_toArray, List.nil_append, List.cons_append]
 gi_wp2
 gi_loopw [3] (fun _ wr => ∃ (pre : List (Sg s)) (f p : Nat), pre ++ al s f p = all s /\ s.size <= p + f /\ pre.length <= p /\ wr.heap[W.heap.size]? = some (.stringIter s p) /\ J pre wr)
  (fun _ wr => s.size - wr.iterPos W.heap.size)
 case atStart =>
  exact ⟨[], s.size, 0, rfl, by omega, Nat.le_refl _, World.iter_heap W s 0, hJ [] W _ none h0 (World.grownBy_alloc _ _ _) (fun r e => by cases e)⟩
 case round =>
  obtain ⟨pre, f, p, hl, hf, hp, hit, hJs⟩ := hrel
  have hBlt : W.heap.size < wr.heap.size := (Array.getElem?_eq_some_iff.1 hit).1
  by_cases hlt : p < s.size
  ·obtain ⟨f', rfl, ha, hf'⟩ := al_cons s f p hlt hf
   rw [ha] at hl
   have hpos := dec_pos s p hlt
   have hnx := fun ty => run_next_at wr W.heap.size s p ty hit hlt
   have hJ2 : J pre (wr.putObj W.heap.size (.stringIter s (p + (Utf8.decode s p).2))) :=
    hJ pre wr _ (some W.heap.size) hJs (grownBy_putObj' _ _ _) (fun r e => by cases e; exact ⟨Nat.le_refl _, _, hit, rfl⟩)
   obtain ⟨fn, tmps, assign, body, hy, hR⟩ := hY _ ⟨p, (Utf8.decode s p).1, hlt, dec_le s p hlt⟩ _ hJ2 (by omega)
   have Hl := H_ hl
   have Hf := H_ hf'
   have Hp := H_ hp
   have Hlt := H_ hlt
   have Hpos := H_ hpos
   have hit2 : (wr.putObj W.heap.size (.stringIter s (p + (Utf8.decode s p).2))).heap[W.heap.size]? = some (.stringIter s (p + (Utf8.decode s p).2)) := World.putObj_heap_same hBlt
   have Hit2 := H_ hit2
   have Hit := H_ hit
   clear hl ha hf hf' hp hpos hit2 hit
   gi_wp2
   refine hR.mono ?_
   rintro e W3 (⟨rfl, hJ3, hk3⟩ | ⟨rfl, hJx3⟩)
   ·gi_wp2
    go_roundw
    case rel =>
     refine ⟨_, f', p + (Utf8.decode s p).2, ?_, un Hf, ?_, hk3.same _ _ (un Hit2) rfl, hJ3⟩
     ·rw [List.append_assoc]
      exact un Hl
     ·have := un Hp
      have := un Hpos
      simp
      omega
    case measure =>
     have e1 : W3.iterPos W.heap.size = p + (Utf8.decode s p).2 := by simp [World.iterPos, hk3.same _ _ (un Hit2) rfl]
     have e2 : wr.iterPos W.heap.size = p := by simp [World.iterPos, un Hit]
     have := un Hpos
     have := un Hlt
     omega
   ·gi_wp2
    refine bodyPost_ret (results_none rfl _ _ _) rfl ?_
    exact ⟨⟨_, rfl⟩, .inr ⟨_, ⟨al s f' (p + (Utf8.decode s p).2), by rw [List.append_assoc]; exact un Hl⟩, hJx3⟩⟩
  ·have hnx := fun ty => run_next_over wr W.heap.size s p ty hit hlt
   rw [al_end s f p hlt, List.append_nil] at hl
   subst hl
   clear hit hf hp hlt
   gi_wp2
   go_end0
   exact ⟨⟨_, rfl⟩, .inl ⟨_, rfl, hJs⟩⟩
end Go.Proofs.YtjhnblgamodekaaGreatDoor.U
