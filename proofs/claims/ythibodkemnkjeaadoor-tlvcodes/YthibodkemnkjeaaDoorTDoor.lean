/-
  What tlv.Right, Encode, Decode and Whole answer. Conditions: a text is at most 9000 bytes long; the package-level variables hold what the program's text lays.
-/
import Derived.Test.YthibodkemnkjeaaDoorTRead
namespace Tv
/-- the whole text is one right tree. -/
def wholeT (l : List UInt8) : Except Int (Tr 13) :=
  match decT l 0 with
  | .error e => .error e
  | .ok (T, nx) => if nx < l.length then .error 11 else .ok T
theorem right_small {n : Nat} {T : Tr n} (h : right T = true) : (enc n T).length ≤ 16000000 := by
  unfold right at h
  simp only [Bool.and_eq_true, decide_eq_true_eq] at h
  omega
theorem right_shape {n : Nat} {T : Tr n} (h : right T = true) : shape n 12 T = true := by
  unfold right at h
  simp only [Bool.and_eq_true, decide_eq_true_eq] at h
  exact h.1.1
end Tv
namespace Go.Proofs.YthibodkemnkjeaaDoor
open Go.RowKit Tv T Go.Shelf

theorem right_any (n : Nat) (T : Tr n) (A : Ads) (aS aF : Addr) (w : World) (p : Nat → Prop) (v : Value) (g : Gl A aS aF w) (hN : Node n w p v T) (hn : n ≤ 100) :
    Calls Tryd.prog 21 #[v] w fun e w' => e = .returned (.bool (right T)) ∧ Below w.heap.size w w' := by
  cases n with
  | zero => exact Empty.elim T
  | succ n =>
  obtain ⟨g0, off, cap, a, rfl, hd, hk, hks⟩ := kidsAt hN
  have hb0 : Below w.heap.size w (w.alloc (.cells #[.int .i64 (tag T), .string (dat T), .slice a (kids T).length cap] 24)) := (Below.refl _ _).alloc (Nat.le_refl _) _
  have hC := check_any (n + 1) T A aS aF _ _ _ (g.below hb0) (hN.below hb0) hn
  clear g hN hks
  go_enter Tryd.func21, Tryd.ntmps21
  go_wp2_with fail
  refine hC.mono ?_
  rintro e w2 ⟨hb2, h2⟩
  have hb := hb0.trans (hb2.mono hb0.size)
  cases hr : right T
  · rw [hr, if_neg (by simp)] at h2
    obtain ⟨_, rfl, kk, u, rfl, hw⟩ := h2
    have Hr := hide hr
    clear hC hb2 hr hw
    go_wp2
    go_ret
    rw [unhide Hr]
    exact ⟨rfl, hb⟩
  · rw [hr, if_pos rfl] at h2
    obtain rfl := h2
    have Hr := hide hr
    clear hC hb2 hr
    go_wp2
    go_ret
    rw [unhide Hr]
    exact ⟨rfl, hb⟩

/-- what Encode answers. -/
def encT {n : Nat} (T : Tr n) : Value := if right T = true then .tuple #[txt (enc n T), .int .i64 0] else .tuple #[.string ⟨#[]⟩, .int .i64 21]

theorem encode_any (n : Nat) (T : Tr n) (A : Ads) (aS aF : Addr) (w : World) (p : Nat → Prop) (v : Value) (g : Gl A aS aF w) (hN : Node n w p v T) (hn : n ≤ 100) :
    Calls Tryd.prog 15 #[v] w fun e w' => e = .returned (encT T) ∧ Below w.heap.size w w' := by
  cases n with
  | zero => exact Empty.elim T
  | succ n =>
  obtain ⟨g0, off, cap, a, rfl, hd, hk, hks⟩ := kidsAt hN
  have hb0 : Below w.heap.size w (w.alloc (.cells #[.int .i64 (tag T), .string (dat T), .slice a (kids T).length cap] 24)) := (Below.refl _ _).alloc (Nat.le_refl _) _
  have hC := check_any (n + 1) T A aS aF _ _ _ (g.below hb0) (hN.below hb0) hn
  have HN := hide hN
  have HG := hide g
  clear g hN hks
  go_enter Tryd.func15, Tryd.ntmps15
  go_wp2_with fail
  refine hC.mono ?_
  rintro e w2 ⟨hb2, h2⟩
  have hb := hb0.trans (hb2.mono hb0.size)
  cases hr : right T
  · rw [hr, if_neg (by simp)] at h2
    obtain ⟨v, rfl, hE⟩ := h2
    have hO := errnoOf_any A v 21 hE w2 ((unhide HG).below hb).t
    obtain ⟨kk, u, rfl, hw⟩ := hE
    have Hr := hide hr
    clear hC hb2 hr hw
    go_wp2_with (go_at_call 29; refine hO.mono ?_; rintro e w3 ⟨rfl, hb3⟩)
    go_ret2
    unfold encT
    rw [unhide Hr]
    exact ⟨rfl, hb.trans (hb3.mono hb.size)⟩
  · rw [hr, if_pos rfl] at h2
    obtain rfl := h2
    have hL := lay_any (n + 1) T 12 w2 p _ ((unhide HN).below hb) (right_shape hr) (right_small hr)
    obtain ⟨⟨b0, b1, b2⟩, _⟩ := cells3 ((hb2.block w.heap.size (by simp)).trans (World.alloc_heap_new w _))
    have Hr := hide hr
    clear hC hb2 hr
    go_wp2_with (go_at_call 30; refine hL.mono ?_; rintro e w3 ⟨rfl, hb3⟩)
    go_ret2
    unfold encT
    rw [unhide Hr]
    exact ⟨rfl, hb.trans (hb3.mono hb.size)⟩

/-- what Decode leaves. -/
def DecPost (w : World) (r : Except Int (Tr 13 × Nat)) (e : Ending) (w' : World) : Prop :=
  Below w.heap.size w w' ∧ match r with
    | .error E => e = .returned (.tuple #[zeroN, .int .i64 0, .int .i64 E])
    | .ok (T, nx) => ∃ v, e = .returned (.tuple #[v, .int .i64 nx, .int .i64 0]) ∧ Node 13 w' (fun b => w.heap.size ≤ b) v T

set_option maxRecDepth 100000 in
set_option maxHeartbeats 1000000 in
theorem decodeT_any (s : ByteArray) (p : Int) (A : Ads) (aS aF : Addr) (w : World) (g : Gl A aS aF w) (hs : s.size ≤ 9000) :
    Calls Tryd.prog 17 #[.string s, .int .i64 p] w (DecPost w (decT s.data.toList p)) := by
  have hb0 : Below w.heap.size w (w.alloc (.cells #[.int .i64 0, .string ⟨#[]⟩, .slice none 0 0] 24)) := (Below.refl _ _).alloc (Nat.le_refl _) _
  have hR := read_any s p A aS aF _ (g.below hb0) hs
  have HG := hide g
  clear g
  go_enter Tryd.func17, Tryd.ntmps17
  go_wp2_with fail
  refine hR.mono ?_
  rintro e w2 ⟨hb2, h2⟩
  have hb := hb0.trans (hb2.mono hb0.size)
  have hz2 : w.heap.size + 1 ≤ w2.heap.size := by have := hb2.size; simpa using this
  have hq0 := (hb2.block w.heap.size (by simp)).trans (World.alloc_heap_new w _)
  have q3 := hide fun o => cells3 ((Below.heap_alloc w2 o w.heap.size (by omega)).trans hq0)
  cases hd : decT s.data.toList p with
  | error E =>
    rw [hd] at h2
    obtain ⟨v, rfl, hE⟩ := h2
    have hb1 := hb.alloc (o := .cells #[.int .i64 0, .string ⟨#[]⟩, .slice none 0 0] 24) hb.size
    have hO := errnoOf_any A v E hE _ ((unhide HG).below hb1).t
    have hqq := (Below.heap_alloc w2 (.cells #[.int .i64 0, .string ⟨#[]⟩, .slice none 0 0] 24) w.heap.size (by omega)).trans hq0
    obtain ⟨kk, u, rfl, hw⟩ := hE
    have Hd := hide hd
    clear hd hb2 hR hw q3 hq0
    go_wp2_with fail
    refine hO.mono ?_
    rintro e w3 ⟨rfl, hb3⟩
    obtain ⟨⟨c0, c1, c2⟩, r0, r1, r2⟩ := cells3 ((hb3.block w.heap.size (by simp; omega)).trans hqq)
    have Hb := hide (hb1.trans (hb3.mono hb1.size))
    clear hb3 hqq hO
    go_wp2_with fail
    refine bodyPost_ret (v := .tuple #[zeroN, .int .i64 0, .int .i64 E]) (by simp [results, Tryd.results17, go_sem, c0, c1, c2]) rfl ?_
    unfold DecPost
    rw [unhide Hd]
    exact ⟨set3n (unhide Hb) (Nat.le_refl _) _ _ _, rfl⟩
  | ok r =>
    obtain ⟨T, nx⟩ := r
    rw [hd] at h2
    obtain ⟨v, rfl, hN⟩ := h2
    obtain ⟨g0, off, cap, a, rfl, hdd, hk, hks⟩ := kidsAt hN
    obtain ⟨⟨c0, c1, c2⟩, r0, r1, r2⟩ := (unhide q3) (.cells #[.int .i64 (tag T), .string (dat T), .slice a (kids T).length cap] 24)
    have hb1 := hb.alloc (o := .cells #[.int .i64 (tag T), .string (dat T), .slice a (kids T).length cap] 24) hb.size
    have HN1 := hide (hN.below ((Below.refl w2.heap.size w2).alloc (Nat.le_refl _) (.cells #[.int .i64 (tag T), .string (dat T), .slice a (kids T).length cap] 24)))
    have Hd := hide hd
    have Hb := hide hb1
    clear hd hb2 hR q3 hq0 hN hb1 hb hks
    go_wp2_with fail
    refine bodyPost_ret (v := .tuple #[.agg #[.int .i64 (tag T), .string (dat T), .slice a (kids T).length cap], .int .i64 nx, .int .i64 0]) (by simp [results, Tryd.results17, go_sem, c0, c1, c2]) rfl ?_
    unfold DecPost
    rw [unhide Hd]
    exact ⟨set3n (unhide Hb) (Nat.le_refl _) _ _ _, _, rfl, (set3_node (unhide HN1) (by simp) _ _ _).imp fun b hb _ => by simp at hb; omega⟩

/-- what Whole leaves. -/
def WholePost (w : World) (r : Except Int (Tr 13)) (e : Ending) (w' : World) : Prop :=
  Below w.heap.size w w' ∧ match r with
    | .error E => e = .returned (.tuple #[zeroN, .int .i64 E])
    | .ok T => ∃ v, e = .returned (.tuple #[v, .int .i64 0]) ∧ Node 13 w' (fun b => w.heap.size ≤ b) v T

set_option maxRecDepth 100000 in
set_option maxHeartbeats 1000000 in
theorem whole_any (s : ByteArray) (A : Ads) (aS aF : Addr) (w : World) (g : Gl A aS aF w) (hs : s.size ≤ 9000) :
    Calls Tryd.prog 19 #[.string s] w (WholePost w (wholeT s.data.toList)) := by
  have hl : s.data.toList.length = s.size := Array.length_toList
  have hb0 : Below w.heap.size w (w.alloc (.cells #[.int .i64 0, .string ⟨#[]⟩, .slice none 0 0] 24)) := (Below.refl _ _).alloc (Nat.le_refl _) _
  have hR := read_any s 0 A aS aF _ (g.below hb0) hs
  have HG := hide g
  clear g
  go_enter Tryd.func19, Tryd.ntmps19
  go_wp2_with fail
  refine hR.mono ?_
  rintro e w2 ⟨hb2, h2⟩
  have hb := hb0.trans (hb2.mono hb0.size)
  have hz2 : w.heap.size + 1 ≤ w2.heap.size := by have := hb2.size; simpa using this
  have hq0 := (hb2.block w.heap.size (by simp)).trans (World.alloc_heap_new w _)
  have q3 := hide fun o => cells3 ((Below.heap_alloc w2 o w.heap.size (by omega)).trans hq0)
  cases hd : decT s.data.toList 0 with
  | error E =>
    rw [hd] at h2
    obtain ⟨v, rfl, hE⟩ := h2
    have hb1 := hb.alloc (o := .cells #[.int .i64 0, .string ⟨#[]⟩, .slice none 0 0] 24) hb.size
    have hO := errnoOf_any A v E hE _ ((unhide HG).below hb1).t
    have hqq := (Below.heap_alloc w2 (.cells #[.int .i64 0, .string ⟨#[]⟩, .slice none 0 0] 24) w.heap.size (by omega)).trans hq0
    obtain ⟨kk, u, rfl, hw⟩ := hE
    have Hd := hide (show wholeT s.data.toList = .error E by unfold wholeT; rw [hd])
    clear hd hb2 hR hw q3 hq0
    go_wp2_with fail
    refine hO.mono ?_
    rintro e w3 ⟨rfl, hb3⟩
    obtain ⟨⟨c0, c1, c2⟩, r0, r1, r2⟩ := cells3 ((hb3.block w.heap.size (by simp; omega)).trans hqq)
    have Hb := hide (hb1.trans (hb3.mono hb1.size))
    clear hb3 hqq hO
    go_wp2_with fail
    refine bodyPost_ret (v := .tuple #[zeroN, .int .i64 E]) (by simp [results, Tryd.results19, go_sem, c0, c1, c2]) rfl ?_
    unfold WholePost
    rw [unhide Hd]
    exact ⟨set3n (unhide Hb) (Nat.le_refl _) _ _ _, rfl⟩
  | ok r =>
    obtain ⟨T, nx⟩ := r
    rw [hd] at h2
    obtain ⟨v, rfl, hN⟩ := h2
    obtain ⟨g0, off, cap, a, rfl, hdd, hk, hks⟩ := kidsAt hN
    obtain ⟨⟨c0, c1, c2⟩, r0, r1, r2⟩ := (unhide q3) (.cells #[.int .i64 (tag T), .string (dat T), .slice a (kids T).length cap] 24)
    have hb1 := hb.alloc (o := .cells #[.int .i64 (tag T), .string (dat T), .slice a (kids T).length cap] 24) hb.size
    by_cases hnx : nx < s.size
    · have hnx' : (nx : Int) < s.size := by omega
      have gmo := ((unhide HG).below hb1).t.mo
      have hO := errnoOf_any A (.iface 60 (.agg #[.int .i64 nx, sentV A.mo])) 11 ⟨_, _, rfl, .inr ⟨_, rfl, .inr (.inr (.inl ⟨rfl, rfl⟩))⟩⟩ _ ((unhide HG).below hb1).t
      have hqq := (Below.heap_alloc w2 (.cells #[.int .i64 (tag T), .string (dat T), .slice a (kids T).length cap] 24) w.heap.size (by omega)).trans hq0
      have Hd := hide (show wholeT s.data.toList = .error 11 by unfold wholeT; rw [hd]; simp only [hl]; rw [if_pos hnx])
      clear hd hb2 hR q3 hq0 c0 c1 c2 r0 r1 r2 hN hks
      go_wp2_with fail
      refine hO.mono ?_
      rintro e w3 ⟨rfl, hb3⟩
      obtain ⟨⟨c0, c1, c2⟩, r0, r1, r2⟩ := cells3 ((hb3.block w.heap.size (by simp; omega)).trans hqq)
      have Hb := hide (hb1.trans (hb3.mono hb1.size))
      clear hb3 hqq hO gmo
      go_wp2_with fail
      refine bodyPost_ret (v := .tuple #[zeroN, .int .i64 11]) (by simp [results, Tryd.results19, go_sem, c0, c1, c2]) rfl ?_
      unfold WholePost
      rw [unhide Hd]
      exact ⟨set3n (unhide Hb) (Nat.le_refl _) _ _ _, rfl⟩
    · have hnx' : ¬ (nx : Int) < s.size := by omega
      have HN1 := hide (hN.below ((Below.refl w2.heap.size w2).alloc (Nat.le_refl _) (.cells #[.int .i64 (tag T), .string (dat T), .slice a (kids T).length cap] 24)))
      have Hd := hide (show wholeT s.data.toList = .ok T by unfold wholeT; rw [hd]; simp only [hl]; rw [if_neg hnx])
      have Hb := hide hb1
      clear hd hb2 hR q3 hq0 hN hb1 hb hks
      go_wp2_with fail
      refine bodyPost_ret (v := .tuple #[.agg #[.int .i64 (tag T), .string (dat T), .slice a (kids T).length cap], .int .i64 0]) (by simp [results, Tryd.results19, go_sem, c0, c1, c2]) rfl ?_
      unfold WholePost
      rw [unhide Hd]
      exact ⟨set3n (unhide Hb) (Nat.le_refl _) _ _ _, _, rfl, (set3_node (unhide HN1) (by simp) _ _ _).imp fun b hb _ => by simp at hb; omega⟩
end Go.Proofs.YthibodkemnkjeaaDoor
