/-
  What utf.add lays: a sign's bytes behind others. Conditions: none.
-/
import Derived.Test.YtgapoofalnakmaaDoorUWid
import Derived.Laws.OwnMore
import Derived.Deep.AppendLies
namespace Go.Proofs.YtgapoofalnakmaaDoor.U
open Go Go.RowKit

/-- the cells of bytes. -/
def cells (l : List UInt8) : List Value := l.map fun x => .int .u8 (x.toNat : Int)
theorem infoB : ∃ i, Tryd.prog.info? 5 = some i ∧ i.zero = some (.int .u8 0) ∧ i.size = 1 ∧ i.bytes = 1 := ⟨Tryd.t5, by kernel_rfl, by kernel_rfl, by kernel_rfl, by kernel_rfl⟩
theorem news (w : World) (l : List Value) (t : TypeId) : ∀ (j : Nat) (u : Value), l[j]? = some u → (w.alloc (.cells l.toArray t)).cell? ((⟨w.heap.size, 0, none⟩ : Addr).add j) = some u := by
  intro j u h
  rw [Addr.add_lit, Nat.zero_add, World.cell?_alloc_at _ _ _ _ rfl]
  simpa using h

/-- what add leaves: the bytes lie behind the others. -/
def AddPost (w : World) (base m : Nat) (xs : List Value) (n : Nat) (e : Ending) (w' : World) : Prop :=
  ∃ g cap, e = .returned (.slice (some ⟨g, 0, none⟩) (m + wd n) cap) ∧ w'.ownsRow base 5 1 (.slice (some ⟨g, 0, none⟩) (m + wd n) cap) (m + wd n) (xs ++ cells (Ut.enc n)) ∧ Below base w w'
theorem addPost_mk {w w2 : World} {o : Obj} {base m k : Nat} {xs : List Value} {v : Value} {n : Nat} {g cap : Nat} {l : List Value} (hk : wd n = k) (hl : cells (Ut.enc n) = l)
    (ho : w.ownsRow base 5 1 v m xs) (hb : base ≤ w.heap.size)
    (h1 : w2.ownsRow base 5 1 (.slice (some ⟨g, 0, none⟩) (m + k) cap) (m + k) (xs ++ l)) (h2 : (w.alloc o).grownBy w2 v.ownBlock) :
    AddPost w base m xs n (.returned (.slice (some ⟨g, 0, none⟩) (m + k) cap)) w2 := by
  subst hk
  subst hl
  refine ⟨g, cap, rfl, h1, ?_⟩
  have hs := h2.size
  refine ⟨h2.os, h2.tape, h2.output, by simp at hs; omega, fun k hk => ?_⟩
  rw [h2.block k (by simp; omega) (fun e => by have := (ho.lt k e.symm).1; omega)]
  exact heap_alloc_old _ _ (by omega)

set_option maxRecDepth 100000 in
theorem add1 (n : Nat) (w : World) (base : Nat) (v : Value) (m : Nat) (xs : List Value) (h : n < 128) (ho : w.ownsRow base 5 1 v m xs) (hm : m ≤ 100000) (hb : base ≤ w.heap.size) :
    Calls Tryd.prog 75 #[v, .int .i32 n] w (AddPost w base m xs n) := by
  have hk : wd n = 1 := by rw [wd_eq, if_pos h]
  have hl : cells (Ut.enc n) = [.int .u8 n] := by
    unfold Ut.enc
    rw [if_pos h]
    simp only [cells, List.map_cons, List.map_nil, Ut.bn n (by omega)]
  have hw := width_any n w (by omega)
  rw [hk] at hw
  obtain ⟨i0, hi0, hz0, hz1, hz2⟩ := infoB
  have HN := hide (news w [.int .u8 n] 5)
  have HO := hide (ho.alloc (.cells #[.int .u8 n] 5))
  have Ho := hide ho
  have Hk := hide hk
  have Hl := hide hl
  clear ho hk hl
  go_enter Tryd.func75, Tryd.ntmps75
  go_wp2_with fail
  refine hw.mono ?_
  rintro e w1 ⟨rfl, rfl⟩
  go_wp2_with (at_builtin; refine wpList_append_lies _ rfl (.tmp 24) (.tmp 27) 44 rfl base 5 i0 (.int .u8 0) 1 1 Tryd.underlying44 hi0 hz0 hz1 hz2 rfl (by omega) v m xs rfl (unhide HO) ⟨w1.heap.size, 0, none⟩ 1 1 [.int .u8 n] rfl rfl (unhide HN) (by simp [Value.oneCell']) (by omega) (by unfold maxLen; omega) (by omega) (by simp; omega) (w1.heap.size + 1) (by simp) ?_; intro gg cp w4 hown hgrow hat hglt; replace hown := hide hown; replace hgrow := hide hgrow; clear hat)
  go_ret
  exact addPost_mk (unhide Hk) (unhide Hl) (unhide Ho) hb (unhide hown) (unhide hgrow)

set_option maxRecDepth 100000 in
theorem add2 (n : Nat) (w : World) (base : Nat) (v : Value) (m : Nat) (xs : List Value) (h : 128 ≤ n ∧ n < 2048) (ho : w.ownsRow base 5 1 v m xs) (hm : m ≤ 100000) (hb : base ≤ w.heap.size) :
    Calls Tryd.prog 75 #[v, .int .i32 n] w (AddPost w base m xs n) := by
  have hk : wd n = 2 := by rw [wd_eq, if_neg (by omega), if_pos h.2]
  have hl : cells (Ut.enc n) = [.int .u8 (192 + (n : Int) / 64), .int .u8 (128 + (n : Int) % 64)] := by
    unfold Ut.enc
    rw [if_neg (by omega), if_pos h.2]
    simp only [cells, List.map_cons, List.map_nil, Ut.bn _ (show 192 + n / 64 < 256 by omega), Ut.bn _ (show 128 + n % 64 < 256 by omega)]
    rfl
  have hw := width_any n w (by omega)
  have h2 := hide (next_any n w)
  rw [hk] at hw
  obtain ⟨i0, hi0, hz0, hz1, hz2⟩ := infoB
  have HN := hide (news w [.int .u8 (192 + (n : Int) / 64), .int .u8 (128 + (n : Int) % 64)] 5)
  have HO := hide (ho.alloc (.cells #[.int .u8 (192 + (n : Int) / 64), .int .u8 (128 + (n : Int) % 64)] 5))
  have Ho := hide ho
  have Hk := hide hk
  have Hl := hide hl
  have e1 : (n : Int) / 64 % 256 = n / 64 := by omega
  have e2 := or192 ((n : Int) / 64) (by omega)
  clear ho hk hl h
  go_enter Tryd.func75, Tryd.ntmps75
  go_wp2_with fail
  refine hw.mono ?_
  rintro e w1 ⟨rfl, rfl⟩
  go_wp2_with fail
  refine (unhide h2).mono ?_
  rintro e w1 ⟨rfl, rfl⟩
  go_wp2_with (at_builtin; refine wpList_append_lies _ rfl (.tmp 31) (.tmp 38) 44 rfl base 5 i0 (.int .u8 0) 1 1 Tryd.underlying44 hi0 hz0 hz1 hz2 rfl (by omega) v m xs rfl (unhide HO) ⟨w1.heap.size, 0, none⟩ 2 2 [.int .u8 (192 + (n : Int) / 64), .int .u8 (128 + (n : Int) % 64)] rfl rfl (unhide HN) (by simp [Value.oneCell']) (by omega) (by unfold maxLen; omega) (by omega) (by simp; omega) (w1.heap.size + 1) (by simp) ?_; intro gg cp w4 hown hgrow hat hglt; replace hown := hide hown; replace hgrow := hide hgrow; clear hat)
  go_ret
  exact addPost_mk (unhide Hk) (unhide Hl) (unhide Ho) hb (unhide hown) (unhide hgrow)

set_option maxRecDepth 100000 in
theorem add3 (n : Nat) (w : World) (base : Nat) (v : Value) (m : Nat) (xs : List Value) (h : 2048 ≤ n ∧ n < 65536) (ho : w.ownsRow base 5 1 v m xs) (hm : m ≤ 100000) (hb : base ≤ w.heap.size) :
    Calls Tryd.prog 75 #[v, .int .i32 n] w (AddPost w base m xs n) := by
  have hk : wd n = 3 := by rw [wd_eq, if_neg (by omega), if_neg (by omega), if_pos h.2]
  have hl : cells (Ut.enc n) = [.int .u8 (224 + (n : Int) / 4096), .int .u8 (128 + (n : Int) / 64 % 64), .int .u8 (128 + (n : Int) % 64)] := by
    unfold Ut.enc
    rw [if_neg (by omega), if_neg (by omega), if_pos h.2]
    simp only [cells, List.map_cons, List.map_nil, Ut.bn _ (show 224 + n / 4096 < 256 by omega), Ut.bn _ (show 128 + n / 64 % 64 < 256 by omega), Ut.bn _ (show 128 + n % 64 < 256 by omega)]
    rfl
  have hw := width_any n w (by omega)
  have h2 := hide (next_any (n / 64) w)
  have h3 := hide (next_any n w)
  rw [hk] at hw
  obtain ⟨i0, hi0, hz0, hz1, hz2⟩ := infoB
  have HN := hide (news w [.int .u8 (224 + (n : Int) / 4096), .int .u8 (128 + (n : Int) / 64 % 64), .int .u8 (128 + (n : Int) % 64)] 5)
  have HO := hide (ho.alloc (.cells #[.int .u8 (224 + (n : Int) / 4096), .int .u8 (128 + (n : Int) / 64 % 64), .int .u8 (128 + (n : Int) % 64)] 5))
  have Ho := hide ho
  have Hk := hide hk
  have Hl := hide hl
  have e1 : (n : Int) / 4096 % 256 = n / 4096 := by omega
  have e2 := or224 ((n : Int) / 4096) (by omega)
  clear ho hk hl h
  go_enter Tryd.func75, Tryd.ntmps75
  go_wp2_with fail
  refine hw.mono ?_
  rintro e w1 ⟨rfl, rfl⟩
  go_wp2_with fail
  refine (unhide h2).mono ?_
  rintro e w1 ⟨rfl, rfl⟩
  go_wp2_with fail
  refine (unhide h3).mono ?_
  rintro e w1 ⟨rfl, rfl⟩
  go_wp2_with (at_builtin; refine wpList_append_lies _ rfl (.tmp 42) (.tmp 52) 44 rfl base 5 i0 (.int .u8 0) 1 1 Tryd.underlying44 hi0 hz0 hz1 hz2 rfl (by omega) v m xs rfl (unhide HO) ⟨w1.heap.size, 0, none⟩ 3 3 [.int .u8 (224 + (n : Int) / 4096), .int .u8 (128 + (n : Int) / 64 % 64), .int .u8 (128 + (n : Int) % 64)] rfl rfl (unhide HN) (by simp [Value.oneCell']) (by omega) (by unfold maxLen; omega) (by omega) (by simp; omega) (w1.heap.size + 1) (by simp) ?_; intro gg cp w4 hown hgrow hat hglt; replace hown := hide hown; replace hgrow := hide hgrow; clear hat)
  go_ret
  exact addPost_mk (unhide Hk) (unhide Hl) (unhide Ho) hb (unhide hown) (unhide hgrow)

set_option maxRecDepth 100000 in
theorem add4 (n : Nat) (w : World) (base : Nat) (v : Value) (m : Nat) (xs : List Value) (h : 65536 ≤ n ∧ n ≤ 1114111) (ho : w.ownsRow base 5 1 v m xs) (hm : m ≤ 100000) (hb : base ≤ w.heap.size) :
    Calls Tryd.prog 75 #[v, .int .i32 n] w (AddPost w base m xs n) := by
  have hk : wd n = 4 := by rw [wd_eq, if_neg (by omega), if_neg (by omega), if_neg (by omega)]
  have hl : cells (Ut.enc n) = [.int .u8 (240 + (n : Int) / 262144), .int .u8 (128 + (n : Int) / 4096 % 64), .int .u8 (128 + (n : Int) / 64 % 64), .int .u8 (128 + (n : Int) % 64)] := by
    unfold Ut.enc
    rw [if_neg (by omega), if_neg (by omega), if_neg (by omega)]
    simp only [cells, List.map_cons, List.map_nil, Ut.bn _ (show 240 + n / 262144 < 256 by omega), Ut.bn _ (show 128 + n / 4096 % 64 < 256 by omega), Ut.bn _ (show 128 + n / 64 % 64 < 256 by omega), Ut.bn _ (show 128 + n % 64 < 256 by omega)]
    rfl
  have hw := width_any n w (by omega)
  have h1 := hide (next_any (n / 4096) w)
  have h2 := hide (next_any (n / 64) w)
  have h3 := hide (next_any n w)
  rw [hk] at hw
  obtain ⟨i0, hi0, hz0, hz1, hz2⟩ := infoB
  have HN := hide (news w [.int .u8 (240 + (n : Int) / 262144), .int .u8 (128 + (n : Int) / 4096 % 64), .int .u8 (128 + (n : Int) / 64 % 64), .int .u8 (128 + (n : Int) % 64)] 5)
  have HO := hide (ho.alloc (.cells #[.int .u8 (240 + (n : Int) / 262144), .int .u8 (128 + (n : Int) / 4096 % 64), .int .u8 (128 + (n : Int) / 64 % 64), .int .u8 (128 + (n : Int) % 64)] 5))
  have Ho := hide ho
  have Hk := hide hk
  have Hl := hide hl
  have e1 : (n : Int) / 262144 % 256 = n / 262144 := by omega
  have e2 := or240 ((n : Int) / 262144) (by omega)
  clear ho hk hl h
  go_enter Tryd.func75, Tryd.ntmps75
  go_wp2_with fail
  refine hw.mono ?_
  rintro e w1 ⟨rfl, rfl⟩
  go_wp2_with fail
  refine (unhide h1).mono ?_
  rintro e w1 ⟨rfl, rfl⟩
  go_wp2_with fail
  refine (unhide h2).mono ?_
  rintro e w1 ⟨rfl, rfl⟩
  go_wp2_with fail
  refine (unhide h3).mono ?_
  rintro e w1 ⟨rfl, rfl⟩
  go_wp2_with (at_builtin; refine wpList_append_lies _ rfl (.tmp 7) (.tmp 20) 44 rfl base 5 i0 (.int .u8 0) 1 1 Tryd.underlying44 hi0 hz0 hz1 hz2 rfl (by omega) v m xs rfl (unhide HO) ⟨w1.heap.size, 0, none⟩ 4 4 [.int .u8 (240 + (n : Int) / 262144), .int .u8 (128 + (n : Int) / 4096 % 64), .int .u8 (128 + (n : Int) / 64 % 64), .int .u8 (128 + (n : Int) % 64)] rfl rfl (unhide HN) (by simp [Value.oneCell']) (by omega) (by unfold maxLen; omega) (by omega) (by simp; omega) (w1.heap.size + 1) (by simp) ?_; intro gg cp w4 hown hgrow hat hglt; replace hown := hide hown; replace hgrow := hide hgrow; clear hat)
  go_ret
  exact addPost_mk (unhide Hk) (unhide Hl) (unhide Ho) hb (unhide hown) (unhide hgrow)

theorem add_any (n : Nat) (w : World) (base : Nat) (v : Value) (m : Nat) (xs : List Value) (h : n ≤ 1114111) (ho : w.ownsRow base 5 1 v m xs) (hm : m ≤ 100000) (hb : base ≤ w.heap.size) :
    Calls Tryd.prog 75 #[v, .int .i32 n] w (AddPost w base m xs n) := by
  by_cases h1 : n < 128
  · exact add1 n w base v m xs h1 ho hm hb
  by_cases h2 : n < 2048
  · exact add2 n w base v m xs ⟨by omega, h2⟩ ho hm hb
  by_cases h3 : n < 65536
  · exact add3 n w base v m xs ⟨by omega, h3⟩ ho hm hb
  · exact add4 n w base v m xs ⟨by omega, h⟩ ho hm hb
end Go.Proofs.YtgapoofalnakmaaDoor.U
