/-
  latinerlaw04.UtfJoins returns true at every two texts: signs of two right texts, one behind the other, are those of both. Conditions: the package-level variables hold what the program's text lays (the card ties them).
-/
import Derived.Test.YtpfopmjpchiekaaDoorULaid
import Derived.Test.YtpfopmjpchiekaaDoorURight
import Derived.Laws.DeepStrings4
import Derived.Deep.AppendLies
namespace Go.Proofs.YtpfopmjpchiekaaDoor.U.joins
open Go Go.RowKit Go.ChangeShapes Go.WideShapes Go.ChangeAt Go.ChangeMaps Go.Shelf
attribute [local go_sem] Oper.semAt_some

/-- what Signs answers, whatever the text. -/
def KAny (w : World) (s : ByteArray) : Prop :=
  ∀ w1, Below w.heap.size w w1 → Calls Tryd.prog 13 #[.string s] w1 fun e w' => ∃ a n c k, e = .returned (.tuple #[.slice a n c, .int .i64 k]) ∧ Below w1.heap.size w1 w'
theorem K_any {aU aS : Addr} {w : World} (g : Glob aU aS w) (s : ByteArray) (hs : s.size ≤ 1000) : KAny w s := by
  intro w1 h1
  cases hb : bad s with
  | none => exact (K_signs g s hs hb _ rfl w1 h1).mono fun e w' ⟨a, n, c, he, _, _, hb⟩ => ⟨a, n, c, 0, he, hb⟩
  | some k => exact (K_signsBad g s hs (by rw [hb]; simp) w1 h1).mono fun e w' ⟨he, hb⟩ => ⟨none, 0, 0, 40, he, hb⟩

set_option maxRecDepth 100000 in
set_option maxHeartbeats 2000000 in
theorem wb (s t p q : ByteArray) (w : World) (e0 : Hid (Keeps w 10 #[] (.bool true))) (e1 : Hid (Keeps w 11 #[.string s] (.string p))) (e2 : Hid (Keeps w 11 #[.string t] (.string q))) (e3 : Hid (Keeps w 13 #[.string p] (.tuple #[.slice none 0 0, .int .i64 40]))) (e4 : Hid (KAny w q)) (e5 : Hid (KAny w (p ++ q))) (hz : (p.size : Int) ≤ 100) (hy : (q.size : Int) ≤ 100) :
    Calls Tryd.prog 6 #[.string s, .string t] w fun e w' => e = .returned (.bool true) ∧ Below w.heap.size w w' := by
  go_enter Tryd.func6, Tryd.ntmps6
  go_wp2_with fail
  refine ((unhide e0) _ (Below.refl _ _)).mono ?_
  rintro e w1 ⟨rfl, hb⟩
  have B1 := hide (step (Below.refl _ _) hb)
  clear hb
  go_wp2_with fail
  refine ((unhide e1) _ (unhide B1)).mono ?_
  rintro e w2 ⟨rfl, hb⟩
  have B2 := hide (step (unhide B1) hb)
  clear hb
  go_wp2_with fail
  refine ((unhide e2) _ (unhide B2)).mono ?_
  rintro e w3 ⟨rfl, hb⟩
  have B3 := hide (step (unhide B2) hb)
  clear hb
  go_wp2_with fail
  refine ((unhide e3) _ (unhide B3)).mono ?_
  rintro e w4 ⟨rfl, hb⟩
  have B4 := hide (step (unhide B3) hb)
  clear hb
  go_wp2_with fail
  refine ((unhide e4) _ (unhide B4)).mono ?_
  rintro e w5 ⟨aY, nY, cY, kY, rfl, hb⟩
  have B5 := hide (step (unhide B4) hb)
  clear hb
  go_wp2_with fail
  refine ((unhide e5) _ (unhide B5)).mono ?_
  rintro e w6 ⟨aZ, nZ, cZ, kZ, rfl, hb⟩
  have B6 := hide (step (unhide B5) hb)
  clear hb
  go_wp2
  go_ret
  exact ⟨rfl, unhide B6⟩

set_option maxRecDepth 100000 in
set_option maxHeartbeats 2000000 in
theorem wr (s t p q : ByteArray) (w : World) (e0 : Hid (Keeps w 10 #[] (.bool true))) (e1 : Hid (Keeps w 11 #[.string s] (.string p))) (e2 : Hid (Keeps w 11 #[.string t] (.string q))) (cs : List Int) (e3 : Hid (KSigns w p cs)) (e4 : Hid (Keeps w 13 #[.string q] (.tuple #[.slice none 0 0, .int .i64 40]))) (e5 : Hid (KAny w (p ++ q))) (hz : (p.size : Int) ≤ 100) (hy : (q.size : Int) ≤ 100) :
    Calls Tryd.prog 6 #[.string s, .string t] w fun e w' => e = .returned (.bool true) ∧ Below w.heap.size w w' := by
  go_enter Tryd.func6, Tryd.ntmps6
  go_wp2_with fail
  refine ((unhide e0) _ (Below.refl _ _)).mono ?_
  rintro e w1 ⟨rfl, hb⟩
  have B1 := hide (step (Below.refl _ _) hb)
  clear hb
  go_wp2_with fail
  refine ((unhide e1) _ (unhide B1)).mono ?_
  rintro e w2 ⟨rfl, hb⟩
  have B2 := hide (step (unhide B1) hb)
  clear hb
  go_wp2_with fail
  refine ((unhide e2) _ (unhide B2)).mono ?_
  rintro e w3 ⟨rfl, hb⟩
  have B3 := hide (step (unhide B2) hb)
  clear hb
  go_wp2_with fail
  refine ((unhide e3) _ (unhide B3)).mono ?_
  rintro e w4 ⟨aX, nX, cX, rfl, hnX, hl, hb⟩
  have B4 := hide (step (unhide B3) hb)
  have LX_4 := hide hl
  clear hb hl
  clear hnX
  go_wp2_with fail
  refine ((unhide e4) _ (unhide B4)).mono ?_
  rintro e w5 ⟨rfl, hb⟩
  have B5 := hide (step (unhide B4) hb)
  have LX_5 := hide ((unhide LX_4).below (Nat.le_refl _) hb)
  clear hb
  go_wp2_with fail
  refine ((unhide e5) _ (unhide B5)).mono ?_
  rintro e w6 ⟨aZ, nZ, cZ, kZ, rfl, hb⟩
  have B6 := hide (step (unhide B5) hb)
  have LX_6 := hide ((unhide LX_5).below (Nat.le_refl _) hb)
  clear hb
  go_wp2
  go_ret
  exact ⟨rfl, unhide B6⟩

set_option maxRecDepth 100000 in
set_option maxHeartbeats 2000000 in
theorem signsOf_none (w : World) :
    Calls Tryd.prog 26 #[.string ⟨#[]⟩] w fun e w' => e = .returned (.slice none 0 0) ∧ Below w.heap.size w w' := by
  refine (callsIn_wide (n := 3)).1 ?_
  refine callsIn_of_wp_marks Tryd.func26 rfl trivial ?_ rfl
  simp only [Tryd.ntmps26, List.size_toArray, List.length_cons, List.length_nil, Nat.reduceAdd, Nat.reduceSub, Array.replicate_succ, Array.replicate_zero, List.push_toArray, List.append_toArray, List.nil_append, List.cons_append]
  refine wpIn_wide.2 ?_
  go_wp2_with fail
  refine (signs_any ⟨#[]⟩ _).mono ?_
  rintro e w' ⟨rfl, rfl⟩
  go_wp2
  obtain ⟨W0, hW0⟩ : ∃ W0, W0 = (w.alloc (.cells #[.slice none 0 0] 22)).alloc (.cells #[.string ⟨#[]⟩] 59) := ⟨_, rfl⟩
  have hz : W0.heap.size = w.heap.size + 2 := by rw [hW0]; simp
  have hv : Boxed W0 w.heap.size 22 (.slice none 0 0) := by rw [hW0]; exact (Boxed.new _ _ _).alloc _
  have hb : Below w.heap.size w W0 := by rw [hW0]; exact ((Below.refl _ _).alloc (by simp) _).alloc (by simp <;> omega) _
  have hBs : W0.cell? ⟨w.heap.size + 1, 0, none⟩ = some (.string ⟨#[]⟩) := by
    rw [hW0, World.cell?_alloc_at _ _ _ _ (by simp)]
    rfl
  rw [← hW0]
  clear hW0
  refine (wpIn_wide (n := 3)).1 ?_
  refine wpIn_rangeFunc_ownF rfl (by omega) (gf := 51) (lb := #[.pointer (some ⟨w.heap.size + 1, 0, none⟩)]) rfl trivial (enters_of Tryd.func51 (by kernel_rfl) rfl)
    (signs1_stops (3 - 1) (by omega) (w.heap.size + 1) ⟨#[]⟩ W0 hBs) KeepsWalks.trans walksK_b (Below.refl _ _) (fun _ => rfl)
    (fun _ W => Boxed W w.heap.size 22 (.slice none 0 0) ∧ Below w.heap.size w W) (fun _ _ _ => False)
    (fun pre A B row hs hg hr => by
      obtain ⟨h1, h3⟩ := hs
      refine ⟨h1.kept hg (fun e => by have := (hr _ e.symm).1; omega), ⟨hg.os.trans h3.os, hg.tape.trans h3.tape, hg.output.trans h3.output, Nat.le_trans h3.size hg.size, fun k hk => (hg.block k (Nat.lt_of_lt_of_le hk h3.size) (fun e => by have := (hr k e.symm).1; omega)).trans (h3.block k hk)⟩⟩)
    (fun _ _ _ _ _ hs _ _ => hs.elim)
    ⟨hv, hb⟩
    (fun x => { tmps := #[.string ⟨#[]⟩, undef, .slice none 0 0, .pointer (some ⟨w.heap.size, 0, none⟩), undef, .int .i32 x.n, .string ⟨#[]⟩, .agg #[.string ⟨#[]⟩], .func (.func 51) #[] #[.pointer (some ⟨w.heap.size + 1, 0, none⟩)], .int .i64 x.p, .int .i32 x.n, undef, undef, undef, undef, undef, undef], defers := [] }) ?assign ?body ?done ?stop
  case assign =>
    intro l x W K hK
    gi_wp2
    exact hK
  case body =>
    intro l pre x W _ hN
    exact absurd hN (Nat.not_lt_zero _)
  case done =>
    rintro D ys W hD _ ⟨hv, hb⟩ hK
    have c0 := hv.cell
    have HK := hide hK
    have Hb := hide hb
    clear hK hb hv hBs
    go_wp2
    refine finL (unhide HK) rfl ⟨rfl, ?_⟩
    have hb := unhide Hb
    exact ⟨hb.os, hb.tape, hb.output, by simpa using hb.size, fun k hk => (World.putObj_heap_other (by omega)).trans (hb.block k hk)⟩
  case stop =>
    rintro D cd pre W hD hpre h hK
    exact h.elim
set_option maxRecDepth 100000 in
theorem K_empty {aU aS : Addr} {w : World} (g : Glob aU aS w) : Keeps w 13 #[.string ⟨#[]⟩] (.tuple #[.slice none 0 0, .int .i64 0]) := keep g fun w1 g1 => by
  have H : Hid (Calls Tryd.prog 24 #[.string ⟨#[]⟩] w1 fun e w' => e = .returned .nilIface ∧ Below w1.heap.size w1 w') := checkRight_any ⟨#[]⟩ aU aS w1 g1 (Nat.zero_le _)
  have H2 := hide fun w2 => signsOf_none w2
  clear g1
  go_enter Tryd.func13, Tryd.ntmps13
  go_wp2_with fail
  refine (unhide H).mono ?_
  rintro e w2 ⟨rfl, hb⟩
  have HB := hide hb
  clear hb
  go_wp2_with fail
  refine ((unhide H2) _).mono ?_
  rintro e w3 ⟨rfl, hb⟩
  have HB2 := hide hb
  clear hb
  go_wp2
  go_ret2
  exact ⟨rfl, (unhide HB).trans ((unhide HB2).mono (unhide HB).size)⟩
theorem nil_text {p : ByteArray} {cs : List Nat} (h : Ut.Is p.data.toList cs []) (h0 : cs.map Int.ofNat = []) : p = ⟨#[]⟩ := by
  have hc : cs = [] := by simpa using h0
  have e := h.eq
  rw [hc] at e
  have e2 : p.data.toList = [] := e
  apply ByteArray.ext
  simpa using e2

/-- a slice that holds numbers, and its cells. -/
theorem lies_cases {W : World} {a : Option Addr} {n c : Nat} {l : List Int} (h : Lies W (.slice a n c) l) : n = l.length ∧ (l = [] ∨ ∃ b o, a = some ⟨b, o, none⟩ ∧ ∀ (j : Nat) u, (l.map fun n => Value.int .i64 n)[j]? = some u → W.cell? ((⟨b, o, none⟩ : Addr).add j) = some u) := by
  obtain ⟨a', c', e, h⟩ := h
  cases e
  refine ⟨rfl, ?_⟩
  rcases h with h | ⟨b, o, rfl, h⟩
  · exact .inl h
  · refine .inr ⟨b, o, rfl, fun j u hu => ?_⟩
    rw [Addr.add_lit]
    rw [List.getElem?_map] at hu
    cases hj : l[j]? with
    | none => rw [hj] at hu; cases hu
    | some m => rw [hj] at hu; cases hu; exact h j m hj
theorem own_lies {W : World} {base k : Nat} {v : Value} {l : List Int} (h : W.ownsRow base 3 1 v k (l.map fun n => Value.int .i64 n)) (hk : k = l.length) : Lies W v l := by
  subst hk
  rcases h.2 with ⟨rfl, h0⟩ | ⟨g, cap, cur, rfl, _⟩
  · exact ⟨none, 0, by rw [h0], .inl (List.length_eq_zero_iff.1 h0)⟩
  · refine ⟨_, cap, rfl, .inr ⟨g, 0, rfl, fun i n hn => ?_⟩⟩
    have := h.cells (g := g) rfl i (.int .i64 n) (by rw [List.getElem?_map, hn]; rfl)
    rw [Addr.add_lit] at this
    exact this
theorem grown_below {B : Nat} {W W' : World} {v : Value} {k : Nat} {xs : List Value} (hg : W.grownBy W' v.ownBlock) (ho : W.ownsRow B 3 1 v k xs) (hB : B ≤ W.heap.size) : Below B W W' :=
  ⟨hg.os, hg.tape, hg.output, hg.size, fun i hi => hg.block i (by omega) (fun e => by have := (ho.lt i e.symm).1; omega)⟩
theorem own_cap {W : World} {base g n c : Nat} {xs : List Value} (h : W.ownsRow base 3 1 (.slice (some ⟨g, 0, none⟩) n c) n xs) : n ≤ c := by
  rcases h.2 with ⟨e, _⟩ | ⟨g', cap, cur, e, _, _, h1, _⟩
  · cases e
  · cases e; exact h1
theorem run_append_none (W : World) (g n c : Nat) (ty : TypeId) (h : n ≤ c) : (Builtin.append_ #[22, 22] ty #[.slice (some ⟨g, 0, none⟩) n c, .slice none 0 0]).run Tryd.prog W = .ok (.slice (some ⟨g, 0, none⟩) n c) W := by
  obtain ⟨i0, hi0, hz0, hz1, hz2⟩ := infoI
  simp [Builtin.append_, run_underlying Tryd.underlying22, Builtin.firstCells, Builtin.lenOf, sizeOf, typeInfo, hi0, h, storeCells, Result.andThen]
theorem wpList_append_none {ops : Array Oper} {rest : List Oper} {o : Oper} {a : Act} {Q : Exit → Act → World → Prop} {W : World} (hgd : o.guard = none) (s x : Operand)
    (ho : o.op = .call { callee := .builtin .append, args := #[s, x], argTypes := #[22, 22] }) (g n c : Nat) (hs : a.eval s = .slice (some ⟨g, 0, none⟩) n c) (hx : a.eval x = .slice none 0 0) (hn : n ≤ c)
    (h : wpList Tryd.prog ops Q rest (a.put o.dst (.slice (some ⟨g, 0, none⟩) n c)) W) : wpList Tryd.prog ops Q (o :: rest) a W := by
  refine wpList_plain hgd fun K hK => ?_
  unfold Oper.wp execOp
  simp only [ho, resolve, invoke, builtin, Sem.run_bind, Sem.run_pure, Result.andThen_ok, List.map_toArray, List.map_cons, List.map_nil, hs, hx, run_append_none W g n c o.type hn]
  exact hK _ _ h
theorem one_cells (l : List Int) : ∀ u ∈ l.map (fun n => Value.int .i64 n), u.oneCell' = true := by
  intro u hu
  obtain ⟨n, _, rfl⟩ := List.mem_map.1 hu
  rfl

set_option maxRecDepth 100000 in
set_option maxHeartbeats 2000000 in
theorem wnn (s t p q : ByteArray) (w : World) (e0 : Hid (Keeps w 10 #[] (.bool true))) (e1 : Hid (Keeps w 11 #[.string s] (.string p))) (e2 : Hid (Keeps w 11 #[.string t] (.string q))) (e3 : Hid (Keeps w 13 #[.string p] (.tuple #[.slice none 0 0, .int .i64 0]))) (e4 : Hid (Keeps w 13 #[.string q] (.tuple #[.slice none 0 0, .int .i64 0]))) (e5 : Hid (KSigns w (p ++ q) [])) (e6 : Hid (KInts w [] [] true)) (hz : (p.size : Int) ≤ 100) (hy : (q.size : Int) ≤ 100) :
    Calls Tryd.prog 6 #[.string s, .string t] w fun e w' => e = .returned (.bool true) ∧ Below w.heap.size w w' := by
  go_enter Tryd.func6, Tryd.ntmps6
  go_wp2_with fail
  refine ((unhide e0) _ (Below.refl _ _)).mono ?_
  rintro e w1 ⟨rfl, hb⟩
  have B1 := hide (step (Below.refl _ _) hb)
  clear hb
  go_wp2_with fail
  refine ((unhide e1) _ (unhide B1)).mono ?_
  rintro e w2 ⟨rfl, hb⟩
  have B2 := hide (step (unhide B1) hb)
  clear hb
  go_wp2_with fail
  refine ((unhide e2) _ (unhide B2)).mono ?_
  rintro e w3 ⟨rfl, hb⟩
  have B3 := hide (step (unhide B2) hb)
  clear hb
  go_wp2_with fail
  refine ((unhide e3) _ (unhide B3)).mono ?_
  rintro e w4 ⟨rfl, hb⟩
  have B4 := hide (step (unhide B3) hb)
  clear hb
  go_wp2_with fail
  refine ((unhide e4) _ (unhide B4)).mono ?_
  rintro e w5 ⟨rfl, hb⟩
  have B5 := hide (step (unhide B4) hb)
  clear hb
  go_wp2_with fail
  refine ((unhide e5) _ (unhide B5)).mono ?_
  rintro e w6 ⟨aZ, nZ, cZ, rfl, hnZ, hl, hb⟩
  have B6 := hide (step (unhide B5) hb)
  have LZ_6 := hide hl
  clear hb hl
  clear hnZ
  obtain ⟨i0, hi0, hz0, hz1, hz2⟩ := infoI
  go_wp2_with fail
  refine ((unhide e6) _ _ _ (unhide B6) (unhide LZ_6) ⟨none, 0, rfl, .inl rfl⟩).mono ?_
  rintro e w7 ⟨rfl, hb⟩
  have B7 := hide (step (unhide B6) hb)
  clear hb
  go_wp2
  go_ret
  exact ⟨rfl, unhide B7⟩

set_option maxRecDepth 100000 in
set_option maxHeartbeats 2000000 in
theorem wyn (s t p q : ByteArray) (w : World) (e0 : Hid (Keeps w 10 #[] (.bool true))) (e1 : Hid (Keeps w 11 #[.string s] (.string p))) (e2 : Hid (Keeps w 11 #[.string t] (.string q))) (cs : List Int) (hcl : cs.length ≤ 100) (hc0 : cs ≠ []) (e3 : Hid (KSigns w p cs)) (e4 : Hid (Keeps w 13 #[.string q] (.tuple #[.slice none 0 0, .int .i64 0]))) (e5 : Hid (KSigns w (p ++ q) cs)) (e6 : Hid (KInts w cs cs true)) (hz : (p.size : Int) ≤ 100) (hy : (q.size : Int) ≤ 100) :
    Calls Tryd.prog 6 #[.string s, .string t] w fun e w' => e = .returned (.bool true) ∧ Below w.heap.size w w' := by
  go_enter Tryd.func6, Tryd.ntmps6
  go_wp2_with fail
  refine ((unhide e0) _ (Below.refl _ _)).mono ?_
  rintro e w1 ⟨rfl, hb⟩
  have B1 := hide (step (Below.refl _ _) hb)
  clear hb
  go_wp2_with fail
  refine ((unhide e1) _ (unhide B1)).mono ?_
  rintro e w2 ⟨rfl, hb⟩
  have B2 := hide (step (unhide B1) hb)
  clear hb
  go_wp2_with fail
  refine ((unhide e2) _ (unhide B2)).mono ?_
  rintro e w3 ⟨rfl, hb⟩
  have B3 := hide (step (unhide B2) hb)
  clear hb
  go_wp2_with fail
  refine ((unhide e3) _ (unhide B3)).mono ?_
  rintro e w4 ⟨aX, nX, cX, rfl, hnX, hl, hb⟩
  have B4 := hide (step (unhide B3) hb)
  have LX_4 := hide hl
  clear hb hl
  clear hnX
  go_wp2_with fail
  refine ((unhide e4) _ (unhide B4)).mono ?_
  rintro e w5 ⟨rfl, hb⟩
  have B5 := hide (step (unhide B4) hb)
  have LX_5 := hide ((unhide LX_4).below (Nat.le_refl _) hb)
  clear hb
  go_wp2_with fail
  refine ((unhide e5) _ (unhide B5)).mono ?_
  rintro e w6 ⟨aZ, nZ, cZ, rfl, hnZ, hl, hb⟩
  have B6 := hide (step (unhide B5) hb)
  have LX_6 := hide ((unhide LX_5).below (Nat.le_refl _) hb)
  have LZ_6 := hide hl
  clear hb hl
  clear hnZ
  obtain ⟨hX, hXc⟩ := lies_cases (unhide LX_6)
  obtain ⟨i0, hi0, hz0, hz1, hz2⟩ := infoI
  obtain ⟨bX, oX, rfl, hXn⟩ := hXc.resolve_left hc0
  clear hXc
  have HXn := hide hXn
  clear hXn
  have hX1 : 0 < nX := by rw [hX]; exact List.length_pos_iff.2 hc0
  have hX100 : nX ≤ 100 := by omega
  have HX := hide hX
  clear hX
  go_wp2_with (at_builtin; first | (refine wpList_append_lies _ rfl (.tmp 51) (.tmp 52) 22 rfl w6.heap.size 3 i0 (.int .i64 0) 1 8 Tryd.underlying22 hi0 hz0 hz1 hz2 rfl (by omega)  (.slice none 0 0) 0 [] rfl (World.ownsRow_nil w6 w6.heap.size 3 1) ⟨bX, oX, none⟩ nX cX (cs.map fun n => Value.int .i64 n) rfl (by rw [List.length_map, unhide HX]; omega) (unhide HXn) (one_cells cs) hX1 (by unfold maxLen; omega) (by omega) (Nat.le_refl _) w6.heap.size rfl ?_; intro g1 k1 v1 hown1 hgrow1 hat1 hlt1; rw [Nat.zero_add, List.nil_append] at hown1; have hb1 := grown_below hgrow1 (World.ownsRow_nil w6 w6.heap.size 3 1) (Nat.le_refl _); have hle1 := own_cap hown1; replace hown1 := hide hown1; replace hb1 := hide hb1; clear hgrow1 hat1 hlt1) | (refine wpList_append_none rfl (.tmp 53) (.tmp 54) rfl g1 nX k1 rfl rfl hle1 ?_))
  refine ((unhide e6) _ _ _ (step (unhide B6) (unhide hb1)) ((unhide LZ_6).below (Nat.le_refl _) (unhide hb1)) (own_lies (l := cs) (unhide hown1) (unhide HX))).mono ?_
  rintro e w7 ⟨rfl, hb⟩
  have B7 := hide (step (step (unhide B6) (unhide hb1)) hb)
  clear hb
  go_wp2
  go_ret
  exact ⟨rfl, unhide B7⟩

set_option maxRecDepth 100000 in
set_option maxHeartbeats 2000000 in
theorem wny (s t p q : ByteArray) (w : World) (e0 : Hid (Keeps w 10 #[] (.bool true))) (e1 : Hid (Keeps w 11 #[.string s] (.string p))) (e2 : Hid (Keeps w 11 #[.string t] (.string q))) (ds : List Int) (hdl : ds.length ≤ 100) (hd0 : ds ≠ []) (e3 : Hid (Keeps w 13 #[.string p] (.tuple #[.slice none 0 0, .int .i64 0]))) (e4 : Hid (KSigns w q ds)) (e5 : Hid (KSigns w (p ++ q) ds)) (e6 : Hid (KInts w ds ds true)) (hz : (p.size : Int) ≤ 100) (hy : (q.size : Int) ≤ 100) :
    Calls Tryd.prog 6 #[.string s, .string t] w fun e w' => e = .returned (.bool true) ∧ Below w.heap.size w w' := by
  go_enter Tryd.func6, Tryd.ntmps6
  go_wp2_with fail
  refine ((unhide e0) _ (Below.refl _ _)).mono ?_
  rintro e w1 ⟨rfl, hb⟩
  have B1 := hide (step (Below.refl _ _) hb)
  clear hb
  go_wp2_with fail
  refine ((unhide e1) _ (unhide B1)).mono ?_
  rintro e w2 ⟨rfl, hb⟩
  have B2 := hide (step (unhide B1) hb)
  clear hb
  go_wp2_with fail
  refine ((unhide e2) _ (unhide B2)).mono ?_
  rintro e w3 ⟨rfl, hb⟩
  have B3 := hide (step (unhide B2) hb)
  clear hb
  go_wp2_with fail
  refine ((unhide e3) _ (unhide B3)).mono ?_
  rintro e w4 ⟨rfl, hb⟩
  have B4 := hide (step (unhide B3) hb)
  clear hb
  go_wp2_with fail
  refine ((unhide e4) _ (unhide B4)).mono ?_
  rintro e w5 ⟨aY, nY, cY, rfl, hnY, hl, hb⟩
  have B5 := hide (step (unhide B4) hb)
  have LY_5 := hide hl
  clear hb hl
  clear hnY
  go_wp2_with fail
  refine ((unhide e5) _ (unhide B5)).mono ?_
  rintro e w6 ⟨aZ, nZ, cZ, rfl, hnZ, hl, hb⟩
  have B6 := hide (step (unhide B5) hb)
  have LY_6 := hide ((unhide LY_5).below (Nat.le_refl _) hb)
  have LZ_6 := hide hl
  clear hb hl
  clear hnZ
  obtain ⟨hY, hYc⟩ := lies_cases (unhide LY_6)
  obtain ⟨i0, hi0, hz0, hz1, hz2⟩ := infoI
  obtain ⟨bY, oY, rfl, hYn⟩ := hYc.resolve_left hd0
  clear hYc
  have HYn := hide hYn
  clear hYn
  have hY1 : 0 < nY := by rw [hY]; exact List.length_pos_iff.2 hd0
  have hY100 : nY ≤ 100 := by omega
  have HY := hide hY
  clear hY
  go_wp2_with (at_builtin; refine wpList_append_lies _ rfl (.tmp 53) (.tmp 54) 22 rfl w6.heap.size 3 i0 (.int .i64 0) 1 8 Tryd.underlying22 hi0 hz0 hz1 hz2 rfl (by omega)  (.slice none 0 0) 0 [] rfl (World.ownsRow_nil w6 w6.heap.size 3 1) ⟨bY, oY, none⟩ nY cY (ds.map fun n => Value.int .i64 n) rfl (by rw [List.length_map, unhide HY]; omega) (unhide HYn) (one_cells ds) hY1 (by unfold maxLen; omega) (by omega) (Nat.le_refl _) w6.heap.size rfl ?_; intro g1 k1 v1 hown1 hgrow1 hat1 hlt1; rw [Nat.zero_add, List.nil_append] at hown1; have hb1 := grown_below hgrow1 (World.ownsRow_nil w6 w6.heap.size 3 1) (Nat.le_refl _); replace hown1 := hide hown1; replace hb1 := hide hb1; clear hgrow1 hat1 hlt1)
  refine ((unhide e6) _ _ _ (step (unhide B6) (unhide hb1)) ((unhide LZ_6).below (Nat.le_refl _) (unhide hb1)) (own_lies (l := ds) (unhide hown1) (unhide HY))).mono ?_
  rintro e w7 ⟨rfl, hb⟩
  have B7 := hide (step (step (unhide B6) (unhide hb1)) hb)
  clear hb
  go_wp2
  go_ret
  exact ⟨rfl, unhide B7⟩

set_option maxRecDepth 100000 in
set_option maxHeartbeats 2000000 in
theorem wyy (s t p q : ByteArray) (w : World) (e0 : Hid (Keeps w 10 #[] (.bool true))) (e1 : Hid (Keeps w 11 #[.string s] (.string p))) (e2 : Hid (Keeps w 11 #[.string t] (.string q))) (cs : List Int) (hcl : cs.length ≤ 100) (hc0 : cs ≠ []) (ds : List Int) (hdl : ds.length ≤ 100) (hd0 : ds ≠ []) (e3 : Hid (KSigns w p cs)) (e4 : Hid (KSigns w q ds)) (e5 : Hid (KSigns w (p ++ q) (cs ++ ds))) (e6 : Hid (KInts w (cs ++ ds) (cs ++ ds) true)) (hz : (p.size : Int) ≤ 100) (hy : (q.size : Int) ≤ 100) :
    Calls Tryd.prog 6 #[.string s, .string t] w fun e w' => e = .returned (.bool true) ∧ Below w.heap.size w w' := by
  go_enter Tryd.func6, Tryd.ntmps6
  go_wp2_with fail
  refine ((unhide e0) _ (Below.refl _ _)).mono ?_
  rintro e w1 ⟨rfl, hb⟩
  have B1 := hide (step (Below.refl _ _) hb)
  clear hb
  go_wp2_with fail
  refine ((unhide e1) _ (unhide B1)).mono ?_
  rintro e w2 ⟨rfl, hb⟩
  have B2 := hide (step (unhide B1) hb)
  clear hb
  go_wp2_with fail
  refine ((unhide e2) _ (unhide B2)).mono ?_
  rintro e w3 ⟨rfl, hb⟩
  have B3 := hide (step (unhide B2) hb)
  clear hb
  go_wp2_with fail
  refine ((unhide e3) _ (unhide B3)).mono ?_
  rintro e w4 ⟨aX, nX, cX, rfl, hnX, hl, hb⟩
  have B4 := hide (step (unhide B3) hb)
  have LX_4 := hide hl
  clear hb hl
  clear hnX
  go_wp2_with fail
  refine ((unhide e4) _ (unhide B4)).mono ?_
  rintro e w5 ⟨aY, nY, cY, rfl, hnY, hl, hb⟩
  have B5 := hide (step (unhide B4) hb)
  have LX_5 := hide ((unhide LX_4).below (Nat.le_refl _) hb)
  have LY_5 := hide hl
  clear hb hl
  clear hnY
  go_wp2_with fail
  refine ((unhide e5) _ (unhide B5)).mono ?_
  rintro e w6 ⟨aZ, nZ, cZ, rfl, hnZ, hl, hb⟩
  have B6 := hide (step (unhide B5) hb)
  have LX_6 := hide ((unhide LX_5).below (Nat.le_refl _) hb)
  have LY_6 := hide ((unhide LY_5).below (Nat.le_refl _) hb)
  have LZ_6 := hide hl
  clear hb hl
  clear hnZ
  obtain ⟨hX, hXc⟩ := lies_cases (unhide LX_6)
  obtain ⟨hY, hYc⟩ := lies_cases (unhide LY_6)
  obtain ⟨i0, hi0, hz0, hz1, hz2⟩ := infoI
  obtain ⟨bX, oX, rfl, hXn⟩ := hXc.resolve_left hc0
  clear hXc
  have HXn := hide hXn
  clear hXn
  have hX1 : 0 < nX := by rw [hX]; exact List.length_pos_iff.2 hc0
  have hX100 : nX ≤ 100 := by omega
  obtain ⟨bY, oY, rfl, hYn⟩ := hYc.resolve_left hd0
  clear hYc
  have HYn := hide hYn
  clear hYn
  have hY1 : 0 < nY := by rw [hY]; exact List.length_pos_iff.2 hd0
  have hY100 : nY ≤ 100 := by omega
  have HX := hide hX
  clear hX
  have HY := hide hY
  clear hY
  go_wp2_with (at_builtin; first | (refine wpList_append_lies _ rfl (.tmp 51) (.tmp 52) 22 rfl w6.heap.size 3 i0 (.int .i64 0) 1 8 Tryd.underlying22 hi0 hz0 hz1 hz2 rfl (by omega)  (.slice none 0 0) 0 [] rfl (World.ownsRow_nil w6 w6.heap.size 3 1) ⟨bX, oX, none⟩ nX cX (cs.map fun n => Value.int .i64 n) rfl (by rw [List.length_map, unhide HX]; omega) (unhide HXn) (one_cells cs) hX1 (by unfold maxLen; omega) (by omega) (Nat.le_refl _) w6.heap.size rfl ?_; intro g1 k1 v1 hown1 hgrow1 hat1 hlt1; rw [Nat.zero_add, List.nil_append] at hown1; have hb1 := grown_below hgrow1 (World.ownsRow_nil w6 w6.heap.size 3 1) (Nat.le_refl _); replace hown1 := hide hown1; replace hb1 := hide hb1; clear hgrow1 hat1 hlt1) | (refine wpList_append_lies _ rfl (.tmp 53) (.tmp 54) 22 rfl w6.heap.size 3 i0 (.int .i64 0) 1 8 Tryd.underlying22 hi0 hz0 hz1 hz2 rfl (by omega)  (.slice (some ⟨g1, 0, none⟩) nX k1) nX (cs.map fun n => Value.int .i64 n) rfl (unhide hown1) ⟨bY, oY, none⟩ nY cY (ds.map fun n => Value.int .i64 n) rfl (by rw [List.length_map, unhide HY]; omega) (fun j u hu => by have h0 := unhide HYn j u hu; rw [(unhide hb1).cell (by have := lt_of_cell h0; rw [Addr.add_lit] at this ⊢; exact this)]; exact h0) (one_cells ds) hY1 (by unfold maxLen; omega) (by omega) (unhide hb1).size v1.heap.size rfl ?_; intro g2 k2 v2 hown2 hgrow2 hat2 hlt2; have hb2 := (unhide hb1).trans (grown_below hgrow2 (unhide hown1) (unhide hb1).size); replace hown2 := hide hown2; replace hb2 := hide hb2; clear hgrow2 hat2 hlt2))
  refine ((unhide e6) _ _ _ (step (unhide B6) (unhide hb2)) ((unhide LZ_6).below (Nat.le_refl _) (unhide hb2)) (own_lies (l := cs ++ ds) (by rw [List.map_append]; exact unhide hown2) (by rw [List.length_append, unhide HX, unhide HY]))).mono ?_
  rintro e w7 ⟨rfl, hb⟩
  have B7 := hide (step (step (unhide B6) (unhide hb2)) hb)
  clear hb
  go_wp2
  go_ret
  exact ⟨rfl, unhide B7⟩

theorem fl_len (cs : List Nat) : cs.length ≤ (Ut.fl cs).length := by
  induction cs with
  | nil => exact Nat.le_refl _
  | cons c cs ih => have := Ut.enc_pos c; simp only [Ut.fl, List.length_append, List.length_cons]; omega
theorem walk (s t : ByteArray) (aU aS : Addr) (w : World) (g : Glob aU aS w) (wf : s.size ≤ maxLen) (wf' : t.size ≤ maxLen) :
    Calls Tryd.prog 6 #[.string s, .string t] w fun e w' => e = .returned (.bool true) ∧ Below w.heap.size w w' := by
  have e0 := hide (K_shown g)
  have e1 := hide (K_cut (w := w) s wf)
  have e2 := hide (K_cut (w := w) t wf')
  have hz := cut_size s
  have hy := cut_size t
  generalize s.extract 0 100 = p at *
  generalize t.extract 0 100 = q at *
  have hpq : (p ++ q).size ≤ 1000 := by rw [ByteArray.size_append]; omega
  have e5 := K_any g (p ++ q) hpq
  obtain ⟨cs, r, hi⟩ := Ut.is_ex p.data.toList
  obtain ⟨ds, r', hj⟩ := Ut.is_ex q.data.toList
  by_cases h0 : r = []
  · subst h0
    have e3 := K_signs g p (by omega) (bad_of_is hi) _ (signs_is hi)
    by_cases h1 : r' = []
    · subst h1
      have e4 := K_signs g q (by omega) (bad_of_is hj) _ (signs_is hj)
      have hij := hi.behind hj
      rw [← data_append] at hij
      have e5 := K_signs g (p ++ q) hpq (bad_of_is hij) _ (signs_is hij)
      rw [List.map_append] at e5
      have hl1 : cs.length ≤ 100 := by
        have := fl_len cs
        have h2 : (Ut.fl cs).length = p.size := by rw [← len_toList, hi.eq]; simp
        omega
      have hl2 : ds.length ≤ 100 := by
        have := fl_len ds
        have h2 : (Ut.fl ds).length = q.size := by rw [← len_toList, hj.eq]; simp
        omega
      have e6 := K_ints w (cs.map Int.ofNat ++ ds.map Int.ofNat) (cs.map Int.ofNat ++ ds.map Int.ofNat) (by rw [List.length_append, List.length_map, List.length_map]; omega) (by rw [List.length_append, List.length_map, List.length_map]; omega)
      rw [decide_eq_true rfl] at e6
      have k1 : (cs.map Int.ofNat).length ≤ 100 := by rw [List.length_map]; exact hl1
      have k2 : (ds.map Int.ofNat).length ≤ 100 := by rw [List.length_map]; exact hl2
      by_cases hc : cs.map Int.ofNat = []
      · have ep := nil_text hi hc
        rw [hc, List.nil_append] at e5 e6
        have e3' : Keeps w 13 #[.string p] (.tuple #[.slice none 0 0, .int .i64 0]) := by rw [ep]; exact K_empty g
        by_cases hd : ds.map Int.ofNat = []
        · have eq := nil_text hj hd
          rw [hd] at e5 e6
          have e4' : Keeps w 13 #[.string q] (.tuple #[.slice none 0 0, .int .i64 0]) := by rw [eq]; exact K_empty g
          exact wnn s t p q w e0 e1 e2 e3' e4' e5 e6 (by omega) (by omega)
        · exact wny s t p q w e0 e1 e2 _ k2 hd e3' e4 e5 e6 (by omega) (by omega)
      · by_cases hd : ds.map Int.ofNat = []
        · have eq := nil_text hj hd
          rw [hd, List.append_nil] at e5 e6
          have e4' : Keeps w 13 #[.string q] (.tuple #[.slice none 0 0, .int .i64 0]) := by rw [eq]; exact K_empty g
          exact wyn s t p q w e0 e1 e2 _ k1 hc e3 e4' e5 e6 (by omega) (by omega)
        · exact wyy s t p q w e0 e1 e2 _ k1 hc _ k2 hd e3 e4 e5 e6 (by omega) (by omega)
    · have hb := bad_is hj
      rw [if_neg h1] at hb
      exact wr s t p q w e0 e1 e2 _ e3 (K_signsBad g q (by omega) (by rw [hb]; simp)) e5 (by omega) (by omega)
  · have hb := bad_is hi
    rw [if_neg h0] at hb
    exact wb s t p q w e0 e1 e2 (K_signsBad g p (by omega) (by rw [hb]; simp)) (K_any g q (by omega)) e5 (by omega) (by omega)

set_option maxRecDepth 100000 in
/-- What the walk gives, for every argument. -/
theorem contract (H : Type) (enc : TypeId × Value → H) (W : World) (base : Nat) (args : Array Value) (ds gs : List (DataW H)) (before : List MemPlace)
    (hval : ∀ (j : Nat) t v, Tryd.f6.params[j]? = some t → args[j]? = some v → Value.okWide Tryd.prog W .any base t v)
    (hW : DataW.Whole enc Tryd.prog Tryd.f6.params.toList Rows.utfJoinsSpec.vars false W args.toList ds gs before) (hL : laidMetH Tryd.prog Rows.utfJoinsRow.laid W) :
    Calls Tryd.prog 6 args W fun e W' => ∃ v, e = .returned v ∧ Rows.utfJoinsSpec.post enc Tryd.prog Tryd.f6 false true false false W args v W' := by
  obtain ⟨aU, aS, g⟩ := glob_of_laid hL
  have hW' := hW
  obtain ⟨p, q, hA0, hV, rfl, hfz, hnd⟩ := hW
  have hA : DataW.TrodAll enc Tryd.prog W 0 (fun _ => true) true Tryd.f6.params.toList args.toList ds p := hA0
  rw [Tryd.params6] at hA hval
  obtain ⟨v0, vs0, d0, ds0, p0, q0, hargs0, rfl, rfl, h0, r0⟩ := trodAll_cons hA
  obtain ⟨v1, vs1, d1, ds1, p1, q1, hargs1, rfl, rfl, h1, r1⟩ := trodAll_cons r0
  obtain ⟨rfl, rfl, rfl⟩ := trodAll_nil r1
  obtain rfl : args = #[v0, v1] := by cases args; simp_all
  obtain ⟨rfl, rfl⟩ := trodVars_none hV
  obtain ⟨x0, rfl, rfl, rfl, wf0⟩ := open_string Tryd.underlying9 (hval 0 9 v0 rfl rfl) h0
  obtain ⟨x1, rfl, rfl, rfl, wf1⟩ := open_string Tryd.underlying9 (hval 1 9 v1 rfl rfl) h1
  clear hA0
  simp only [List.append_nil] at hW'
  refine (walk x0 x1 aU aS W g wf0 wf1).mono fun e W' ⟨he, hg⟩ => ?_
  subst he
  refine ⟨_, rfl, _, _, _, [], [], [], hW', ?_, ?_, ?_, hg.frame _, fun h => by cases h⟩
  · exact trodAll_cons_mk (shut_bool Tryd.underlying4 _) trodAll_mk0
  · exact trodAll_cons_mk (shut_string Tryd.underlying9 wf0) (trodAll_cons_mk (shut_string Tryd.underlying9 wf1) (trodAll_mk0))
  · rfl

theorem reads (os : Os) {H : Type} (enc : TypeId × Value → H) : ∃ places, DataW.whole enc Tryd.prog (({ World.holding Tryd.prog os ⟨#[.cells #[.string sentS0] 126, .cells #[.string sentS1] 126], #[], []⟩ with heap := (((World.holding Tryd.prog os ⟨#[.cells #[.string sentS0] 126, .cells #[.string sentS1] 126], #[], []⟩).heap.modify 0 fun | .cells _ t frozen => .cells #[.iface 104 (.pointer (some ⟨(World.holding Tryd.prog default ⟨#[], #[], []⟩).heap.size + 0, 0, none⟩))] t frozen | o => o).modify 1 fun | .cells _ t frozen => .cells #[.iface 104 (.pointer (some ⟨(World.holding Tryd.prog default ⟨#[], #[], []⟩).heap.size + 1, 0, none⟩))] t frozen | o => o).modify 2 fun | .cells _ t frozen => .cells #[.iface 90 (.agg #[.pointer (some ⟨3, 39, none⟩)])] t frozen | o => o } : World).forCall (fun _ _ => 0) ⟨#[], #[.string ⟨#[]⟩, .string ⟨#[]⟩], []⟩).memory Tryd.f6.params.toList Rows.utfJoinsSpec.vars false #[Value.string ⟨#[]⟩, Value.string ⟨#[]⟩].toList 8 = some ([.lit (.string []), .lit (.string [])], [], places) :=
  ⟨[], by kernel_rfl⟩

set_option maxRecDepth 100000 in
theorem lifted (os : Os) (started : os.Started) (H : Type) (enc : TypeId × Value → H) (F : Stop.Interp) :
    ReturnsInHanded {} Tryd.checked os 6 .any ((OpenSpec.ofChange Rows.utfJoinsSpec).preRow enc Tryd.prog Tryd.f6 Rows.utfJoinsRow.domain false Rows.utfJoinsRow.laid) (((OpenSpec.ofChange Rows.utfJoinsSpec).at F).post enc Tryd.prog Tryd.f6 false true false false) := by
  obtain ⟨places, hx⟩ := reads os enc
  refine returnsInHanded_of_row (C := Tryd.checked) (s := OpenSpec.ofChange Rows.utfJoinsSpec) own started (by kernel_rfl) Tryd.func6
    (witness_row_at (enc := enc) (C := Tryd.checked) false ({ World.holding Tryd.prog os ⟨#[.cells #[.string sentS0] 126, .cells #[.string sentS1] 126], #[], []⟩ with heap := (((World.holding Tryd.prog os ⟨#[.cells #[.string sentS0] 126, .cells #[.string sentS1] 126], #[], []⟩).heap.modify 0 fun | .cells _ t frozen => .cells #[.iface 104 (.pointer (some ⟨(World.holding Tryd.prog default ⟨#[], #[], []⟩).heap.size + 0, 0, none⟩))] t frozen | o => o).modify 1 fun | .cells _ t frozen => .cells #[.iface 104 (.pointer (some ⟨(World.holding Tryd.prog default ⟨#[], #[], []⟩).heap.size + 1, 0, none⟩))] t frozen | o => o).modify 2 fun | .cells _ t frozen => .cells #[.iface 90 (.agg #[.pointer (some ⟨3, 39, none⟩)])] t frozen | o => o } : World) #[.string ⟨#[]⟩, .string ⟨#[]⟩] rfl (by kernel_rfl) (by kernel_rfl) (by kernel_rfl)
      (OpenSpec.preRow_of_cond 8 hx (by kernel_rfl) (fun k hk => by cases hk) (by kernel_rfl) (laid_met os _))) ?_
  intro W base args ds gs before hval hW _ _ _ hL _ _
  exact contract H enc W base args ds gs before hval hW hL

theorem said : Rows.UtfJoinsSaid :=
  OpenClaim.holds_of_cond 6 Tryd.f6 rfl rfl rfl rfl rfl rfl rfl ⟨rfl, rfl, rfl, rfl, rfl⟩ rfl rfl rfl rfl rfl (by kernel_rfl) Tryd.func6 (by kernel_rfl)
    (of_decide_eq_true (by kernel_rfl)) (by unfold Func.isWrapper; first | (rw [if_pos (by decide +kernel)]; kernel_rfl) | (rw [if_neg (by decide +kernel)]; exact ⟨rfl, rfl⟩))
    (fun os started H enc _ F => by rw [OpenClaim.pre_eq_preRow]; exact lifted os started H enc F)

theorem plain (f : FuncId) (fn : Func) (hf : Tryd.pinned.checked.prog.funcNamed "latiner/latinerlaw04.UtfJoins" = some f) (hfn : Tryd.pinned.checked.prog.funcs[f]? = some fn) :
    true = Tryd.pinned.checked.prog.looks [] ∧ ∀ (j : Nat) t, fn.params[j]? = some t → Tryd.pinned.checked.prog.wantsStandIn t = false := by
  obtain rfl : f = 6 := Option.some.inj ((show Tryd.prog.funcNamed "latiner/latinerlaw04.UtfJoins" = some 6 by kernel_rfl).symm.trans hf) |>.symm
  obtain rfl : fn = Tryd.f6 := (Option.some.inj (Tryd.func6.symm.trans hfn)).symm
  refine ⟨by kernel_rfl, fun j t ht => ?_⟩
  rw [Tryd.params6] at ht
  have hm : t = 9 := by have := Array.mem_of_getElem? ht; simp at this; first | exact this | omega | (rcases this with h | h | h <;> simp [h]) | (rcases this with h | h | h | h <;> simp [h])
  subst hm
  exact (show Tryd.prog.wantsStandIn 9 = false by kernel_rfl)

/-- The card. -/
theorem card : Rows.UtfJoinsCardSaid :=
  Claim7.holds_tied_plain_at .later [] _ _ _ _ said (fun _ h => by cases h) (by kernel_rfl) (fun _ h => by cases h) utfJoins_row_tie rfl ⟨rfl, rfl⟩ (by kernel_rfl) rfl plain (by kernel_rfl)
end Go.Proofs.YtpfopmjpchiekaaDoor.U.joins

namespace Go.Proofs.YtpfopmjpchiekaaDoor
theorem utfJoins_holds : Rows.UtfJoinsCardSaid := U.joins.card
#print axioms utfJoins_holds
end Go.Proofs.YtpfopmjpchiekaaDoor
