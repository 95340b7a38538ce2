/- What code.unpack lays: the first bytes of a group's bits behind others. Conditions: none. -/
import Derived.Test.YtjhnblgamodekaaGreatDoorCAdd
set_option maxHeartbeats 4000000
set_option maxRecDepth 100000
namespace Go.Proofs.YtjhnblgamodekaaGreatDoor.C
open Go Go.RowKit Cd
theorem cells_append (a b : List UInt8) : cells (a ++ b) = cells a ++ cells b := by simp [cells]
theorem unp_succ (X j : Nat) : unp X (j + 1) = unp X j ++ [UInt8.ofNat (X / 2 ^ (24 - 8 * (j + 1)))] := by simp [unp, List.range_succ]
def RowPost (l : List UInt8) (base m : Nat) (xs : List Value) (w : World) (e : Ending) (w' : World) : Prop := ∃ v', e = .returned v' /\ w'.ownsRow base 5 1 v' (m + l.length) (xs ++ cells l) /\ Bel base w w'
theorem unpack_any (X n : Nat) (w : World) (base : Nat) (v : Value) (m : Nat) (xs : List Value) (hX : X < 16777216) (hn : n <= 3) (ho : w.ownsRow base 5 1 v m xs) (hm : m <= 100000) (hb : base <= w.heap.size) :
  Calls Tryz.prog 179 #[v, .int .i64 X, .int .i64 n] w (RowPost (unp X n) base m xs w) := by
 obtain ⟨i0, hi0, hz0, hz1, hz2⟩ := infoB
 go_enter Tryz.func179, Tryz.ntmps179
 go_wp2
 go_loopw [0, 9] (fun sl ix wr => ∃ j : Nat, j <= n /\ ix = .int .i64 (j : Int) /\ wr.ownsRow base 5 1 sl (m + j) (xs ++ cells (unp X j)) /\ Bel base w wr)
  (fun _ ix _ => n - (intOf ix).toNat)
 case atStart =>
  exact ⟨0, Nat.zero_le _, rfl, by simpa [unp, cells] using ho, bel_refl _ _⟩
 case round =>
  obtain ⟨j, hj, rfl, ho2, hbl⟩ := hrel
  have Ho2 := H_ ho2
  have Hbl := H_ hbl
  clear ho2 ho hbl
  obtain ⟨rfl, h⟩ | ⟨rfl, h⟩ | ⟨rfl, h⟩ | rfl : (j = 0 /\ 0 < n) \/ (j = 1 /\ 1 < n) \/ (j = 2 /\ 2 < n) \/ j = n := by omega
  ·have hlt' : (0 : Int) < n := by omega
   have hsn : cells [UInt8.ofNat (X / 2 ^ (24 - 8 * (0 + 1)))] = [.int .u8 ((X : Int) / 65536)] := by
    have e : (X : Int) / 65536 % 256 = X / 65536 := by omega
    simp [cells, e]
   have HN := H_ (news wr [.int .u8 ((X : Int) / 65536)] 5)
   have HO := H_ ((un Ho2).alloc (.cells #[.int .u8 ((X : Int) / 65536)] 5))
   have Hsn := H_ hsn
   clear hsn
   go_wp2_with (at_builtin; refine wpList_append_lies _ rfl (.tmp 12) (.tmp 20) 113 rfl base 5 i0 (.int .u8 0) 1 1 Tryz.underlying113 hi0 hz0 hz1 hz2 rfl (by omega) u0 (m + 0) _ rfl (un HO) ⟨wr.heap.size, 0, none⟩ 1 1 [.int .u8 ((X : Int) / 65536)] rfl rfl (un HN) (by simp [Value.oneCell']) (by omega) (by unfold maxLen; omega) (by omega) (by have := (un Hbl).1.size; simp; omega) (wr.heap.size + 1) (by simp) ?_; intro gg cp w4 hown hgrow hat hglt; replace hown := H_ hown; replace hgrow := H_ hgrow; clear hat)
   go_roundw
   case rel =>
    refine ⟨1, by omega, by simp, ?_, add_below2 (un Hbl) (un Ho2) (un hgrow) hb⟩
    rw [unp_succ, cells_append, un Hsn, <- List.append_assoc]
    exact un hown
   case measure => simp [intOf] <;> omega
  ·have hlt' : (1 : Int) < n := by omega
   have hsn : cells [UInt8.ofNat (X / 2 ^ (24 - 8 * (1 + 1)))] = [.int .u8 ((X : Int) / 256 % 256)] := by
    simp [cells]
   have HN := H_ (news wr [.int .u8 ((X : Int) / 256 % 256)] 5)
   have HO := H_ ((un Ho2).alloc (.cells #[.int .u8 ((X : Int) / 256 % 256)] 5))
   have Hsn := H_ hsn
   clear hsn
   go_wp2_with (at_builtin; refine wpList_append_lies _ rfl (.tmp 12) (.tmp 20) 113 rfl base 5 i0 (.int .u8 0) 1 1 Tryz.underlying113 hi0 hz0 hz1 hz2 rfl (by omega) u0 (m + 1) _ rfl (un HO) ⟨wr.heap.size, 0, none⟩ 1 1 [.int .u8 ((X : Int) / 256 % 256)] rfl rfl (un HN) (by simp [Value.oneCell']) (by omega) (by unfold maxLen; omega) (by omega) (by have := (un Hbl).1.size; simp; omega) (wr.heap.size + 1) (by simp) ?_; intro gg cp w4 hown hgrow hat hglt; replace hown := H_ hown; replace hgrow := H_ hgrow; clear hat)
   go_roundw
   case rel =>
    refine ⟨2, by omega, by simp, ?_, add_below2 (un Hbl) (un Ho2) (un hgrow) hb⟩
    rw [unp_succ, cells_append, un Hsn, <- List.append_assoc]
    exact un hown
   case measure => simp [intOf] <;> omega
  ·have hlt' : (2 : Int) < n := by omega
   have hsn : cells [UInt8.ofNat (X / 2 ^ (24 - 8 * (2 + 1)))] = [.int .u8 ((X : Int) % 256)] := by
    simp [cells]
   have HN := H_ (news wr [.int .u8 ((X : Int) % 256)] 5)
   have HO := H_ ((un Ho2).alloc (.cells #[.int .u8 ((X : Int) % 256)] 5))
   have Hsn := H_ hsn
   clear hsn
   go_wp2_with (at_builtin; refine wpList_append_lies _ rfl (.tmp 12) (.tmp 20) 113 rfl base 5 i0 (.int .u8 0) 1 1 Tryz.underlying113 hi0 hz0 hz1 hz2 rfl (by omega) u0 (m + 2) _ rfl (un HO) ⟨wr.heap.size, 0, none⟩ 1 1 [.int .u8 ((X : Int) % 256)] rfl rfl (un HN) (by simp [Value.oneCell']) (by omega) (by unfold maxLen; omega) (by omega) (by have := (un Hbl).1.size; simp; omega) (wr.heap.size + 1) (by simp) ?_; intro gg cp w4 hown hgrow hat hglt; replace hown := H_ hown; replace hgrow := H_ hgrow; clear hat)
   go_roundw
   case rel =>
    refine ⟨3, by omega, by simp, ?_, add_below2 (un Hbl) (un Ho2) (un hgrow) hb⟩
    rw [unp_succ, cells_append, un Hsn, <- List.append_assoc]
    exact un hown
   case measure => simp [intOf] <;> omega
  ·have hge : ¬ (j : Int) < j := by omega
   go_wp2
   go_ret
   exact ⟨_, rfl, by have := un Ho2; simpa [unp] using this, un Hbl⟩
end Go.Proofs.YtjhnblgamodekaaGreatDoor.C
