/-
  What code.signs.sign, number, coder.whole and pack answer. Conditions: none.
-/
import Derived.Test.YtgapoofalnakmaaDoorCTake
import Derived.Test.YtgapoofalnakmaaDoorCPure
import Derived.Laws.BitsAllLaws
namespace Go.Proofs.YtgapoofalnakmaaDoor.C
open Go Go.RowKit Cd
attribute [local go_sem] Oper.semAt_some

/-- a coder of a kind lies in a block. -/
structure Cod (k : Kd) (w : World) (B : Nat) : Prop where
  pr : ∀ n, n < 2 ^ k.bt → w.cell? ⟨B, n, none⟩ = some (.int .u8 ((k.sg n).toNat : Int))
  nu : ∀ n, n < 128 → w.cell? ⟨B, 64 + n, none⟩ = some (.int .i8 (match k.nm (UInt8.ofNat n) with | some m => (m : Int) + 1 | none => 0))
  by' : w.cell? ⟨B, 192, none⟩ = some (.int .i64 k.bs)
  wi : w.cell? ⟨B, 193, none⟩ = some (.int .i64 k.wd)
  bi : w.cell? ⟨B, 194, none⟩ = some (.int .i64 k.bt)
  lt : B < w.heap.size
theorem Cod.below {k : Kd} {w w' : World} {B X : Nat} (h : Cod k w B) (hX : B < X) (hb : Below X w w') : Cod k w' B :=
  ⟨fun n hn => (hb.cell hX).trans (h.pr n hn), fun n hn => (hb.cell hX).trans (h.nu n hn), (hb.cell hX).trans h.by', (hb.cell hX).trans h.wi, (hb.cell hX).trans h.bi, Nat.lt_of_lt_of_le h.lt hb.size⟩
theorem prB : (List.range 64).map (fun n => tabB[n]?) = (List.range 64).map (fun n => some (.int .u8 ((sx n).toNat : Int))) := by kernel_rfl
theorem prH : (List.range 16).map (fun n => tabH[n]?) = (List.range 16).map (fun n => some (.int .u8 ((dx n).toNat : Int))) := by kernel_rfl
theorem nuB : (List.range 128).map (fun n => tabB[64 + n]?) = (List.range 128).map (fun n => some (.int .i8 (match nx (UInt8.ofNat n) with | some m => (m : Int) + 1 | none => 0))) := by kernel_rfl
theorem nuH : (List.range 128).map (fun n => tabH[64 + n]?) = (List.range 128).map (fun n => some (.int .i8 (match nh (UInt8.ofNat n) with | some m => (m : Int) + 1 | none => 0))) := by kernel_rfl
theorem cell_tab {w : World} {B : Nat} {c : Array Value} {ty : TypeId} (h : w.heap[B]? = some (.cells c ty)) (i : Nat) : w.cell? ⟨B, i, none⟩ = c[i]? := by
  simp [World.cell?, h]
theorem codB {w : World} {B : Nat} (h : CodB w B) : Cod kB w B :=
  ⟨fun n hn => (cell_tab h n).trans (List.map_inj_left.1 prB n (List.mem_range.2 hn)), fun n hn => (cell_tab h _).trans (List.map_inj_left.1 nuB n (List.mem_range.2 hn)),
    (cell_tab h _).trans (by kernel_rfl), (cell_tab h _).trans (by kernel_rfl), (cell_tab h _).trans (by kernel_rfl), (Array.getElem?_eq_some_iff.1 h).1⟩
theorem codH {w : World} {B : Nat} (h : CodH w B) : Cod kH w B :=
  ⟨fun n hn => (cell_tab h n).trans (List.map_inj_left.1 prH n (List.mem_range.2 hn)), fun n hn => (cell_tab h _).trans (List.map_inj_left.1 nuH n (List.mem_range.2 hn)),
    (cell_tab h _).trans (by kernel_rfl), (cell_tab h _).trans (by kernel_rfl), (cell_tab h _).trans (by kernel_rfl), (Array.getElem?_eq_some_iff.1 h).1⟩

set_option maxRecDepth 100000 in
theorem sign_any (k : Kd) (B n : Nat) (w : World) (h : Cod k w B) (hn : n < 2 ^ k.bt) (h64 : n < 64) :
    Calls Tryd.prog 69 #[.pointer (some ⟨B, 0, none⟩), .int .i64 n] w fun e w' => e = .returned (.int .u8 ((k.sg n).toNat : Int)) ∧ w' = w := by
  have hc := h.pr n hn
  clear h hn
  go_enter Tryd.func69, Tryd.ntmps69
  go_wp2
  go_ret
  exact ⟨rfl, rfl⟩

/-- what number answers. -/
def nv (k : Kd) (n : Nat) : Int × Bool := if n < 128 then (match k.nm (UInt8.ofNat n) with | some m => ((m : Int), true) | none => (0, false)) else (0, false)
set_option maxRecDepth 100000 in
theorem number_any (k : Kd) (B n : Nat) (w : World) (h : Cod k w B) (hm : ∀ x m, k.nm x = some m → m < 64) :
    Calls Tryd.prog 83 #[.pointer (some ⟨B, 0, none⟩), .int .i32 n] w fun e w' => e = .returned (.tuple #[.int .i64 (nv k n).1, .bool (nv k n).2]) ∧ w' = w := by
  unfold nv
  by_cases h1 : n < 128
  · rw [if_pos h1]
    have hc := h.nu n h1
    have h1' : ¬ (128 : Int) ≤ n := by omega
    cases hx : k.nm (UInt8.ofNat n) with
    | none =>
      rw [hx] at hc
      clear h hx hm
      go_enter Tryd.func83, Tryd.ntmps83
      go_wp2
      go_ret2
      exact ⟨rfl, rfl⟩
    | some m =>
      rw [hx] at hc
      have hm' := hm _ _ hx
      have e1 : ((m : Int) + 1 == 0) = false := by simp; omega
      have e2 : wrap64 ((m : Int) + 1 - 1) = m := by unfold wrap64; omega
      clear h hx hm
      go_enter Tryd.func83, Tryd.ntmps83
      go_wp2
      go_ret2
      exact ⟨by simp, rfl⟩
  · rw [if_neg h1]
    have h1' : (128 : Int) ≤ n := by omega
    clear h hm
    go_enter Tryd.func83, Tryd.ntmps83
    go_wp2
    go_ret2
    exact ⟨rfl, rfl⟩

set_option maxRecDepth 100000 in
theorem whole_any (k : Kd) (B c t : Nat) (w : World) (h : Cod k w B) (hk : k.bt = t) (ht : t ≤ 6) (hc : c ≤ 4) :
    Calls Tryd.prog 82 #[.pointer (some ⟨B, 0, none⟩), .int .i64 c] w fun e w' => e = .returned (.int .i64 ((c * k.bt / 8 : Nat) : Int)) ∧ w' = w := by
  have hb := h.bi
  rw [hk] at hb ⊢
  clear h hk
  have e1 : (c : Int) * t = ((c * t : Nat) : Int) := by simp
  have e2 : c * t ≤ 24 := Nat.mul_le_mul hc ht
  rw [show ((c * t / 8 : Nat) : Int) = ((c * t : Nat) : Int) / 8 by omega]
  generalize c * t = m at *
  have e3 : wrap64 (m : Int) = m := by unfold wrap64; omega
  go_enter Tryd.func82, Tryd.ntmps82
  go_wp2
  go_ret
  refine ⟨?_, rfl⟩
  rfl

theorem getD_of {s : ByteArray} {l : List UInt8} (h : s.data.toList = l) (i : Nat) (hi : i < s.size) : s[i] = l.getD i 0 := by
  subst h
  have hl : i < s.data.toList.length := by simpa using hi
  rw [List.getD_eq_getElem?_getD, List.getElem?_eq_getElem hl]
  rfl
theorem ofInt_i64 (a : Nat) (ha : a < 2 ^ 63) : (BitVec.ofInt 64 (a : Int)).toNat = a := by
  rw [BitVec.ofInt_natCast, BitVec.toNat_ofNat]; exact Nat.mod_eq_of_lt (by omega)
theorem wrap_i64 (a : Nat) (ha : a < 2 ^ 63) : IntKind.i64.wrap (a : Int) = a := by
  simp only [IntKind.wrap, IntKind.bits, IntKind.signed]
  simp
  omega
theorem i64_or_nat (a b : Nat) (ha : a < 2 ^ 63) (hb : b < 2 ^ 63) : bits .or .i64 (a : Int) (b : Int) = ((a ||| b : Nat) : Int) := by
  have hx : a ||| b < 2 ^ 63 := Nat.or_lt_two_pow ha hb
  show IntKind.i64.wrap ((BitVec.ofInt 64 (a : Int) ||| BitVec.ofInt 64 (b : Int)).toNat : Int) = _
  rw [BitVec.toNat_or, ofInt_i64 a ha, ofInt_i64 b hb, wrap_i64 _ hx]
theorem i64_and_nat (a b : Nat) (ha : a < 2 ^ 63) (hb : b < 2 ^ 63) : bits .and .i64 (a : Int) (b : Int) = ((a &&& b : Nat) : Int) := by
  have hx : a &&& b < 2 ^ 63 := Nat.and_lt_two_pow _ hb
  show IntKind.i64.wrap ((BitVec.ofInt 64 (a : Int) &&& BitVec.ofInt 64 (b : Int)).toNat : Int) = _
  rw [BitVec.toNat_and, ofInt_i64 a ha, ofInt_i64 b hb, wrap_i64 _ hx]
theorem and_mask (x k : Nat) (hx : x < 2 ^ 63) (hk : 2 ^ k - 1 < 2 ^ 63) : bits .and .i64 (x : Int) ((2 ^ k - 1 : Nat) : Int) = ((x % 2 ^ k : Nat) : Int) := by
  rw [i64_and_nat x _ hx hk, Nat.and_two_pow_sub_one_eq_mod]
/-- bits that do not meet. -/
theorem or_hi (x y k : Nat) (hx : x < 2 ^ k) (h : y * 2 ^ k + x < 2 ^ 63) : bits .or .i64 (x : Int) ((y * 2 ^ k : Nat) : Int) = ((y * 2 ^ k + x : Nat) : Int) := by
  rw [i64_or_nat x (y * 2 ^ k) (by omega) (by omega), Nat.or_comm, ← Nat.shiftLeft_eq, Nat.shiftLeft_add_eq_or_of_lt hx]
theorem or_lo (x y k : Nat) (hy : y < 2 ^ k) (h : x * 2 ^ k + y < 2 ^ 63) : bits .or .i64 ((x * 2 ^ k : Nat) : Int) (y : Int) = ((x * 2 ^ k + y : Nat) : Int) := by
  rw [i64_or_nat (x * 2 ^ k) y (by omega) (by omega), ← Nat.shiftLeft_eq, Nat.shiftLeft_add_eq_or_of_lt hy]
theorem or_zero (y : Nat) (h : y < 2 ^ 63) : bits .or .i64 0 (y : Int) = y := by
  have := or_lo 0 y 63 h (by omega)
  simpa using this
set_option maxRecDepth 100000 in
theorem pack1 (s : ByteArray) (a : UInt8) (w : World) (h : s.data.toList = [a]) :
    Calls Tryd.prog 68 #[.string s] w fun e w' => e = .returned (.int .i64 (pk s.data.toList)) ∧ w' = w := by
  have hz : s.size = 1 := by have := congrArg List.length h; simpa using this
  have hz' : (s.size : Int) = 1 := by omega
  have h0 : s[0] = a := getD_of h 0 (by omega)
  rw [h]
  have ha := a.toNat_lt
  have e1 : wrap64 (a.toNat : Int) = a.toNat := by unfold wrap64; omega
  have e2 : wrap64 ((a.toNat : Int) * 65536) = ((a.toNat * 65536 : Nat) : Int) := by unfold wrap64; omega
  have e3 := or_zero (a.toNat * 65536) (by omega)
  show Calls _ _ _ _ fun e w' => e = .returned (.int .i64 ((a.toNat * 65536 : Nat) : Int)) ∧ w' = w
  generalize a.toNat * 65536 = x at *
  clear ha
  go_enter Tryd.func68, Tryd.ntmps68
  go_wp2
  go_ret
  exact ⟨rfl, rfl⟩
set_option maxRecDepth 100000 in
theorem pack2 (s : ByteArray) (a b : UInt8) (w : World) (h : s.data.toList = [a, b]) :
    Calls Tryd.prog 68 #[.string s] w fun e w' => e = .returned (.int .i64 (pk s.data.toList)) ∧ w' = w := by
  have hz : s.size = 2 := by have := congrArg List.length h; simpa using this
  have hz' : (s.size : Int) = 2 := by omega
  have h0 : s[0] = a := getD_of h 0 (by omega)
  have h1 : s[1] = b := getD_of h 1 (by omega)
  rw [h]
  have ha := a.toNat_lt
  have hb := b.toNat_lt
  have e1 : wrap64 (a.toNat : Int) = a.toNat := by unfold wrap64; omega
  have e2 : wrap64 ((a.toNat : Int) * 65536) = ((a.toNat * 65536 : Nat) : Int) := by unfold wrap64; omega
  have e3 : wrap64 (b.toNat : Int) = b.toNat := by unfold wrap64; omega
  have e4 : wrap64 ((b.toNat : Int) * 256) = ((b.toNat * 256 : Nat) : Int) := by unfold wrap64; omega
  have e5 := or_zero (b.toNat * 256) (by omega)
  have e6 := or_hi (b.toNat * 256) a.toNat 16 (by omega) (by omega)
  show Calls _ _ _ _ fun e w' => e = .returned (.int .i64 ((a.toNat * 65536 + b.toNat * 256 : Nat) : Int)) ∧ w' = w
  rw [show 2 ^ 16 = 65536 from rfl] at e6
  generalize b.toNat * 256 = y at *
  generalize a.toNat * 65536 = x at *
  generalize x + y = z at *
  clear ha hb
  go_enter Tryd.func68, Tryd.ntmps68
  go_wp2
  go_ret
  exact ⟨rfl, rfl⟩
set_option maxRecDepth 100000 in
theorem pack3 (s : ByteArray) (a b c : UInt8) (w : World) (h : s.data.toList = [a, b, c]) :
    Calls Tryd.prog 68 #[.string s] w fun e w' => e = .returned (.int .i64 (pk s.data.toList)) ∧ w' = w := by
  have hz : s.size = 3 := by have := congrArg List.length h; simpa using this
  have hz' : (s.size : Int) = 3 := by omega
  have h0 : s[0] = a := getD_of h 0 (by omega)
  have h1 : s[1] = b := getD_of h 1 (by omega)
  have h2 : s[2] = c := getD_of h 2 (by omega)
  rw [h]
  have ha := a.toNat_lt
  have hb := b.toNat_lt
  have hc := c.toNat_lt
  have e1 : wrap64 (a.toNat : Int) = a.toNat := by unfold wrap64; omega
  have e2 : wrap64 ((a.toNat : Int) * 65536) = ((a.toNat * 65536 : Nat) : Int) := by unfold wrap64; omega
  have e3 : wrap64 (b.toNat : Int) = b.toNat := by unfold wrap64; omega
  have e4 : wrap64 ((b.toNat : Int) * 256) = ((b.toNat * 256 : Nat) : Int) := by unfold wrap64; omega
  have e7 : wrap64 (c.toNat : Int) = c.toNat := by unfold wrap64; omega
  have e5 := or_zero c.toNat (by omega)
  have e8 := or_hi c.toNat b.toNat 8 (by omega) (by omega)
  have e6 := or_hi (b.toNat * 2 ^ 8 + c.toNat) a.toNat 16 (by omega) (by omega)
  show Calls _ _ _ _ fun e w' => e = .returned (.int .i64 ((a.toNat * 65536 + b.toNat * 256 + c.toNat : Nat) : Int)) ∧ w' = w
  rw [Nat.add_assoc]
  rw [show 2 ^ 8 = 256 from rfl] at e8 e6
  rw [show 2 ^ 16 = 65536 from rfl] at e6
  generalize b.toNat * 256 = y at *
  generalize a.toNat * 65536 = x at *
  generalize y + c.toNat = u at *
  generalize x + u = z at *
  clear ha hb hc
  go_enter Tryd.func68, Tryd.ntmps68
  go_wp2
  go_ret
  exact ⟨rfl, rfl⟩
theorem pack_any (s : ByteArray) (w : World) (h1 : 1 ≤ s.size) (h3 : s.size ≤ 3) :
    Calls Tryd.prog 68 #[.string s] w fun e w' => e = .returned (.int .i64 (pk s.data.toList)) ∧ w' = w := by
  have hl : s.data.toList.length = s.size := by simp
  match hs : s.data.toList with
  | [] => rw [hs] at hl; simp at hl; omega
  | [a] => rw [← hs]; exact pack1 s a w hs
  | [a, b] => rw [← hs]; exact pack2 s a b w hs
  | [a, b, c] => rw [← hs]; exact pack3 s a b c w hs
  | a :: b :: c :: d :: r => rw [hs] at hl; simp at hl; omega
end Go.Proofs.YtgapoofalnakmaaDoor.C
