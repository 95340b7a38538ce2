/-
  What tlv.read answers. Conditions: the text is at most 9000 bytes long; the package-level variables hold what the program's text lays.
-/
import Derived.Test.YthibodkemnkjeaaDoorTSame
import Derived.Test.YthibodkemnkjeaaDoorTTree
import Derived.Test.YthibodkemnkjeaaDoorTCheck
namespace Tv
/-- the tree at a place, if it is right, and the place behind. -/
def decT (l : List UInt8) (p : Int) : Except Int (Tr 13 × Nat) :=
  if 0 ≤ p ∧ p ≤ l.length then
    match readT l 12 p.toNat l.length 0 with
    | .error e => .error e
    | .ok (T, nx, _) => if right T = true then .ok (T, nx) else .error 21
  else .error 10
end Tv
namespace Go.Proofs.YthibodkemnkjeaaDoor
open Go.RowKit Tv T Go.Shelf

/-- what read leaves. -/
def ReadPost (A : Ads) (w : World) (r : Except Int (Tr 13 × Nat)) (e : Ending) (w' : World) : Prop :=
  Below w.heap.size w w' ∧ match r with
    | .error E => ∃ v, e = .returned (.tuple #[zeroN, .int .i64 0, v]) ∧ IsErr A v E
    | .ok (T, nx) => ∃ v, e = .returned (.tuple #[v, .int .i64 nx, .nilIface]) ∧ Node 13 w' (fun b => w.heap.size ≤ b) v T

/-- the two boxes of read. -/
abbrev twoR (w : World) (s : ByteArray) : World := (w.alloc (.cells #[.int .i64 0, .string ⟨#[]⟩, .slice none 0 0] 24)).alloc (.cells #[.string s, .int .i64 0] 79)
theorem set3 {B b : Nat} {a w : World} (h : Below B a w) (hb : B ≤ b) (x y z : Value) : Below B a (((w.setCell ⟨b, 0, none⟩ x).setCell ⟨b, 1, none⟩ y).setCell ⟨b, 2, none⟩ z).drew :=
  have := ((h.setCell (p := ⟨b, 0, none⟩) hb x).setCell (p := ⟨b, 1, none⟩) hb y).setCell (p := ⟨b, 2, none⟩) hb z
  ⟨this.os, this.tape, this.output, this.size, this.block⟩
theorem set3n {B b : Nat} {a w : World} (h : Below B a w) (hb : B ≤ b) (x y z : Value) : Below B a (((w.setCell ⟨b, 0, none⟩ x).setCell ⟨b, 1, none⟩ y).setCell ⟨b, 2, none⟩ z) :=
  ((h.setCell (p := ⟨b, 0, none⟩) hb x).setCell (p := ⟨b, 1, none⟩) hb y).setCell (p := ⟨b, 2, none⟩) hb z
theorem set3_node {n b : Nat} {p : Nat → Prop} {w : World} {v : Value} {T : Tr n} (h : Node n w p v T) (hb : ¬ p b) (x y z : Value) : Node n (((w.setCell ⟨b, 0, none⟩ x).setCell ⟨b, 1, none⟩ y).setCell ⟨b, 2, none⟩ z) p v T :=
  h.of fun k hk _ => by
    have hne : k ≠ b := fun e => hb (e ▸ hk)
    rw [Below.heap_setCell _ _ _ _ hne, Below.heap_setCell _ _ _ _ hne, Below.heap_setCell _ _ _ _ hne]
theorem twoR_0 (w : World) (s : ByteArray) : (twoR w s).heap[w.heap.size]? = some (.cells #[.int .i64 0, .string ⟨#[]⟩, .slice none 0 0] 24 (0, 0)) := by
  rw [Below.heap_alloc _ _ _ (by simp)]; exact World.alloc_heap_new w _
theorem twoR_1 (w : World) (s : ByteArray) : TRd (w.heap.size + 1) s 0 (twoR w s) := by
  have h : (twoR w s).heap[w.heap.size + 1]? = some (.cells #[.string s, .int .i64 0] 79 (0, 0)) := by
    have := World.alloc_heap_new (w.alloc (.cells #[.int .i64 0, .string ⟨#[]⟩, .slice none 0 0] 24)) (.cells #[.string s, .int .i64 0] 79)
    simpa using this
  generalize twoR w s = W at *
  refine ⟨?_, ?_, ?_⟩ <;> simp [World.cell?, World.frozen?, h]

set_option maxRecDepth 100000 in
set_option maxHeartbeats 2000000 in
theorem read_any (s : ByteArray) (p : Int) (A : Ads) (aS aF : Addr) (w : World) (g : Gl A aS aF w) (hs : s.size ≤ 9000) :
    Calls Tryd.prog 32 #[.string s, .int .i64 p] w (ReadPost A w (decT s.data.toList p)) := by
  have hl : s.data.toList.length = s.size := Array.length_toList
  have hbt : Below w.heap.size w (twoR w s) := ((Below.refl _ _).alloc (Nat.le_refl _) _).alloc (by simp) _
  have g2 := g.below hbt
  have hP := place_any s p (twoR w s)
  by_cases hp : 0 ≤ p ∧ p ≤ s.size
  · rw [decide_eq_true hp] at hP
    obtain ⟨hp0, hp1⟩ := hp
    obtain ⟨p, rfl⟩ : ∃ n : Nat, p = n := ⟨p.toNat, by omega⟩
    have hr : decT s.data.toList p = match readT s.data.toList 12 p s.size 0 with | .error e => .error e | .ok (T, nx, _) => if right T = true then .ok (T, nx) else .error 21 := by
      unfold decT; rw [if_pos (by rw [hl]; exact ⟨hp0, hp1⟩), Int.toNat_natCast, hl]
    have HT := hide fun w1 (h : Below (twoR w s).heap.size (twoR w s) w1) => by
      have := tree_any (w.heap.size + 1) s A aS aF w g (by omega) hs 12 p s.size 0 w1 ((twoR_1 w s).below h (by simp)) (hbt.trans (h.mono hbt.size)) (by omega) (by omega) (Nat.le_refl _) (Nat.le_refl _)
      rw [show (13 - ((12 : Nat) : Int)) = 1 by omega] at this
      exact this
    have Hr := hide hr
    clear hr
    go_enter Tryd.func32, Tryd.ntmps32
    go_wp2_with (first | (go_at_call 50; refine hP.mono ?_; rintro e w' ⟨rfl, hb⟩) | (go_at_call 51; refine ((unhide HT) w' hb).mono ?_))
    rintro e w2 ⟨hb2, h2⟩
    have hzw : w.heap.size + 2 ≤ w'.heap.size := by have := hb.size; simp at this; omega
    have hq0 : w2.heap[w.heap.size]? = some (.cells #[.int .i64 0, .string ⟨#[]⟩, .slice none 0 0] 24 (0, 0)) := (hb2.block _ (by omega) (by omega)).trans ((hb.block _ (by simp; omega)).trans (twoR_0 w s))
    have hbb : Below w.heap.size w w2 := (hbt.trans (hb.mono hbt.size)).trans (hb2.below (by omega) (by omega))
    have hz2 : w.heap.size + 2 ≤ w2.heap.size := Nat.le_trans hzw hb2.size
    have q3 := hide fun o => cells3 ((Below.heap_alloc w2 o w.heap.size (by omega)).trans hq0)
    have q2 := hide hq0
    cases hrd : readT s.data.toList 12 p s.size 0 with
    | error E =>
      rw [hrd] at h2
      have hE : decT s.data.toList p = .error E := by rw [unhide Hr, hrd]
      obtain ⟨_, rfl, kk, u, rfl, hw⟩ := h2
      obtain ⟨⟨c0, c1, c2⟩, r0, r1, r2⟩ := (unhide q3) (.cells #[.int .i64 0, .string ⟨#[]⟩, .slice none 0 0] 24)
      obtain ⟨T0, v0, rfl⟩ := hw.iface
      have Hw := hide hw
      have HE := hide hE
      have Hb := hide (hbb.alloc (o := .cells #[.int .i64 0, .string ⟨#[]⟩, .slice none 0 0] 24) hbb.size)
      clear hrd hw hE hb2 hb hbb hq0 HT Hr hP hbt g g2
      go_wp2_with fail
      refine bodyPost_ret (v := .tuple #[zeroN, .int .i64 0, .iface 60 (.agg #[.int .i64 kk, .iface T0 v0])]) (by simp [results, Tryd.results32, go_sem, c0, c1, c2]) rfl ?_
      unfold ReadPost
      rw [unhide HE]
      exact ⟨set3n (unhide Hb) (Nat.le_refl _) _ _ _, _, rfl, _, _, rfl, unhide Hw⟩
    | ok r =>
      obtain ⟨T, nx, c'⟩ := r
      rw [hrd] at h2
      obtain ⟨v, rfl, hN, _⟩ := h2
      obtain ⟨g0, off, cap, a, rfl, hd, hk, hks⟩ := kidsAt hN
      have hC := check_any 13 T A aS aF (w2.alloc (.cells #[.int .i64 (tag T), .string (dat T), .slice a (kids T).length cap] 24)) _ _ (g.below (hbb.alloc hbb.size _)) (hN.below ((Below.refl _ _).alloc (Nat.le_refl _) _)) (by omega)
      have hbx := (hbb.alloc (o := .cells #[.int .i64 (tag T), .string (dat T), .slice a (kids T).length cap] 24) hbb.size)
      have HC := hide hC
      have HN := hide hN
      cases hrt : right T
      · have hE : decT s.data.toList p = .error 21 := by rw [unhide Hr, hrd]; simp [hrt]
        have Hrt := hide hrt
        have HE := hide hE
        have Hb := hide hbx
        clear hrd hE hb2 hb hbb hbx HT Hr hP hbt g g2 hN hC hrt hks
        go_wp2_with fail
        refine (unhide HC).mono ?_
        rintro e w3 ⟨hb3, h3⟩
        rw [unhide Hrt, if_neg (by simp)] at h3
        obtain ⟨_, rfl, kk, u, rfl, hw⟩ := h3
        obtain ⟨T0, v0, rfl⟩ := hw.iface
        obtain ⟨⟨c0, c1, c2⟩, r0, r1, r2⟩ := cells3 ((hb3.block _ (by simp; omega)).trans ((Below.heap_alloc w2 _ w.heap.size (by omega)).trans hq0))
        have Hw := hide hw
        have Hb3 := hide ((unhide Hb).trans (hb3.mono (unhide Hb).size))
        clear hw hb3 hq0 HC q3 q2
        go_wp2_with fail
        refine bodyPost_ret (v := .tuple #[zeroN, .int .i64 0, .iface 60 (.agg #[.int .i64 kk, .iface T0 v0])]) (by simp [results, Tryd.results32, go_sem, c0, c1, c2]) rfl ?_
        unfold ReadPost
        rw [unhide HE]
        exact ⟨set3n (unhide Hb3) (Nat.le_refl _) _ _ _, _, rfl, _, _, rfl, unhide Hw⟩
      · have hE : decT s.data.toList p = .ok (T, nx) := by rw [unhide Hr, hrd]; simp [hrt]
        have Hrt := hide hrt
        have HE := hide hE
        have Hb := hide hbx
        clear hrd hE hb2 hb hbb hbx HT Hr hP hbt g g2 hN hC hrt hks
        go_wp2_with fail
        refine (unhide HC).mono ?_
        rintro e w3 ⟨hb3, h3⟩
        rw [unhide Hrt, if_pos rfl] at h3
        obtain rfl := h3
        obtain ⟨⟨c0, c1, c2⟩, r0, r1, r2⟩ := cells3 ((hb3.block _ (by simp; omega)).trans ((Below.heap_alloc w2 _ w.heap.size (by omega)).trans hq0))
        obtain ⟨⟨b0, b1, b2⟩, _⟩ := cells3 ((hb3.block w2.heap.size (by simp)).trans (World.alloc_heap_new w2 _))
        have Hb3 := hide ((unhide Hb).trans (hb3.mono (unhide Hb).size))
        have HN3 := hide (((unhide HN).below ((Below.refl _ _).alloc (Nat.le_refl _) _)).below hb3)
        clear hb3 hq0 HC q3 q2 HN Hb
        go_wp2_with fail
        refine bodyPost_ret (v := .tuple #[.agg #[.int .i64 (tag T), .string (dat T), .slice a (kids T).length cap], .int .i64 nx, .nilIface]) (by simp [results, Tryd.results32, go_sem, c0, c1, c2]) rfl ?_
        unfold ReadPost
        rw [unhide HE]
        exact ⟨set3n (unhide Hb3) (Nat.le_refl _) _ _ _, _, rfl, (set3_node (unhide HN3) (by omega) _ _ _).imp fun b hb _ => by omega⟩
  · rw [decide_eq_false hp] at hP
    have hr : decT s.data.toList p = .error 10 := by unfold decT; rw [if_neg (by rw [hl]; exact hp)]
    rw [hr]
    have hg4 := lt_of_cell g.t.sh
    have hgl := hide fun w' (h : Below (twoR w s).heap.size (twoR w s) w') => (g2.below h).t.sh
    clear g g2 hp hr
    go_enter Tryd.func32, Tryd.ntmps32
    go_wp2_with (go_at_call 50; refine hP.mono ?_; rintro e w' ⟨rfl, hb⟩)
    have gsh := (unhide hgl) w' hb
    obtain ⟨⟨c0, c1, c2⟩, r0, r1, r2⟩ := cells3 ((hb.block _ (by simp; omega)).trans (twoR_0 w s))
    have hbb : Below w.heap.size w w' := hbt.trans (hb.mono hbt.size)
    have gsh' : ∀ v, (w'.setCell ⟨w.heap.size, 0, none⟩ v).cell? ⟨4, 0, none⟩ = some (sentV A.sh) := fun v => by rw [World.cell?_setCell_far _ _ _ _ (by simp at hg4 ⊢; omega)]; exact gsh
    have Hb := hide hbb
    clear hb hbb hP hgl hbt
    go_region
    all_goals go_wp2
    all_goals refine bodyPost_ret (v := .tuple #[zeroN, .int .i64 0, .iface 60 (.agg #[.int .i64 p, .iface 158 (.pointer (some A.sh))])]) (by simp [results, Tryd.results32, go_sem, c0, c1, c2]) rfl ⟨?_, _, rfl, p, _, rfl, .inr ⟨_, rfl, .inl ⟨rfl, rfl⟩⟩⟩
    all_goals exact set3 (unhide Hb) (Nat.le_refl _) _ _ _
end Go.Proofs.YthibodkemnkjeaaDoor
