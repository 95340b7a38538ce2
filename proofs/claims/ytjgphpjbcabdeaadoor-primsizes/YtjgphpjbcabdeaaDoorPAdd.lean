/-
  What prim.number.add writes, and what prim.number.check answers. Conditions: none.
-/
import Derived.Test.YtjgphpjbcabdeaaDoorPNum
import Derived.Laws.BitsAllLaws
namespace Go.Proofs.YtjgphpjbcabdeaaDoor.P
open Go Go.RowKit

theorem or_byte64 (n : Int) (x : UInt8) (h : -16777216 ≤ n ∧ n ≤ 16777215) : bits .or .i64 (n * 256) (x.toNat : Int) = 256 * n + x.toNat := by
  have hx : x.toNat < 256 := x.toNat_lt
  show IntKind.i64.wrap ((BitVec.ofInt 64 (n * 256) ||| BitVec.ofInt 64 ((x.toNat : Nat) : Int)).toNat : Int) = _
  rw [BitVec.toNat_or, BitVec.toNat_ofInt, BitVec.toNat_ofInt]
  have e : (((x.toNat : Nat) : Int) % ((2 ^ 64 : Nat) : Int)).toNat = x.toNat := by omega
  rw [e, nat_join8 _ _ (by omega) hx, IntKind.wrap_i64]
  omega

set_option maxRecDepth 100000 in
theorem add_any (b : Nat) (c n : Int) (x : UInt8) (w : World) (h0 : w.cell? ⟨b, 0, none⟩ = some (.int .i64 c)) (h1 : w.cell? ⟨b, 1, none⟩ = some (.int .i64 n)) (f0 : w.frozen? ⟨b, 0, none⟩ = false) (f1 : w.frozen? ⟨b, 1, none⟩ = false)
    (hc : 0 ≤ c ∧ c ≤ 4) (hn : -16777216 ≤ n ∧ n ≤ 16777215) :
    Calls Tryd.prog 29 #[.pointer (some ⟨b, 0, none⟩), .int .u8 x.toNat] w fun e w' => e = .returned (.tuple #[]) ∧ w' = (w.setCell ⟨b, 1, none⟩ (.int .i64 (256 * n + x.toNat))).setCell ⟨b, 0, none⟩ (.int .i64 (c + 1)) := by
  have ho := or_byte64 n x hn
  have hw : wrap64 (x.toNat : Int) = x.toNat := by have := x.toNat_lt; unfold wrap64; omega
  obtain ⟨c0, c4⟩ := hc
  obtain ⟨n0, n4⟩ := hn
  go_enter Tryd.func29, Tryd.ntmps29
  go_wp2
  go_end0
  exact ⟨rfl, rfl⟩

abbrev noneS : ByteArray := ⟨#[110, 111, 32, 98, 121, 116, 101, 115]⟩
abbrev fewS : ByteArray := ⟨#[102, 101, 119, 101, 114, 32, 98, 121, 116, 101, 115, 32, 119, 111, 117, 108, 100, 32, 100, 111]⟩
abbrev bad (at_ : Int) (s : ByteArray) : Value := .iface 60 (.agg #[.int .i64 at_, .iface 50 (.agg #[.string s])])

set_option maxRecDepth 100000 in
theorem check0 (n : Int) (w : World) :
    Calls Tryd.prog 30 #[.agg #[.int .i64 0, .int .i64 n]] w fun e w' => e = .returned (bad 0 noneS) ∧ Below w.heap.size w w' := by
  go_enter Tryd.func30, Tryd.ntmps30
  go_wp2
  go_ret
  refine ⟨rfl, ?_⟩
  repeat (refine Below.alloc ?_ (by simp <;> omega) _)
  exact Below.refl _ _

set_option maxRecDepth 100000 in
theorem check_few (c n : Int) (w : World) (h0 : Pr.wd n ≠ 0) (h : (Pr.wd n : Int) < c) :
    Calls Tryd.prog 30 #[.agg #[.int .i64 c, .int .i64 n]] w fun e w' => e = .returned (bad 0 fewS) ∧ Below w.heap.size w w' := by
  have hc : (c == 0) = false := beq_eq_false_iff_ne.2 (by omega)
  have H := (numberOf_ok n h0 (w.alloc (.cells #[.int .i64 c, .int .i64 n] 39))).mono (R' := fun e w' => e = .returned (.tuple #[.agg #[.int .i64 (Pr.wd n), .int .i64 n], .nilIface]) ∧ w'.cell? ⟨w.heap.size, 0, none⟩ = some (.int .i64 c) ∧ Hid (Below w.heap.size w w') ∧ w.heap.size < w'.heap.size)
    (fun e w' ⟨he, hb⟩ => ⟨he, by rw [hb.cell (by simp)]; simp, by show Below _ _ _; exact ((Below.refl _ _).alloc (Nat.le_refl _) _).trans (hb.mono (by simp)), by have := hb.size; simp at this; omega⟩)
  go_enter Tryd.func30, Tryd.ntmps30
  go_wp2_with (go_at_call 19; refine H.mono ?_; rintro e w' ⟨rfl, hcell, hb, hsz⟩)
  go_ret
  exact ⟨rfl, hb.out.alloc (by omega) _⟩

set_option maxRecDepth 100000 in
theorem check_fine (c n : Int) (w : World) (h0 : Pr.wd n ≠ 0) (h : (Pr.wd n : Int) = c) :
    Calls Tryd.prog 30 #[.agg #[.int .i64 c, .int .i64 n]] w fun e w' => e = .returned .nilIface ∧ Below w.heap.size w w' := by
  have hc : (c == 0) = false := beq_eq_false_iff_ne.2 (by omega)
  have hlt : ¬ (Pr.wd n : Int) < c := by omega
  clear h
  have H := (numberOf_ok n h0 (w.alloc (.cells #[.int .i64 c, .int .i64 n] 39))).mono (R' := fun e w' => e = .returned (.tuple #[.agg #[.int .i64 (Pr.wd n), .int .i64 n], .nilIface]) ∧ w'.cell? ⟨w.heap.size, 0, none⟩ = some (.int .i64 c) ∧ Hid (Below w.heap.size w w') ∧ w.heap.size < w'.heap.size)
    (fun e w' ⟨he, hb⟩ => ⟨he, by rw [hb.cell (by simp)]; simp, by show Below _ _ _; exact ((Below.refl _ _).alloc (Nat.le_refl _) _).trans (hb.mono (by simp)), by have := hb.size; simp at this; omega⟩)
  go_enter Tryd.func30, Tryd.ntmps30
  go_wp2_with (go_at_call 19; refine H.mono ?_; rintro e w' ⟨rfl, hcell, hb, hsz⟩)
  go_ret
  exact ⟨rfl, hb.out.alloc (by omega) _⟩
end Go.Proofs.YtjgphpjbcabdeaaDoor.P
