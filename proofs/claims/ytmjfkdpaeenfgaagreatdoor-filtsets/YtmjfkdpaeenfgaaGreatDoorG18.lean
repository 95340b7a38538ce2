/-
  Several texts in one: FShelf, FSplit, FPass, FSigns, QTail, FRd1, DNums, FName. Each says what it proves, and its conditions.
-/
import Derived.Test.YtmjfkdpaeenfgaaGreatDoorG17
import Derived.Lib.Bytealg
import Derived.BigQuiet
import Derived.Deep.Light
import Derived.Maps.OwnSet
import Derived.Maps.RangeWalk
import Derived.Maps.StringElems
import Derived.Carry
import Derived.WalkKit
import Derived.Test.YtmjfkdpaeenfgaaGreatDoorG11
import Derived.Test.YtmjfkdpaeenfgaaGreatDoorEPrint
/-
  strings.Index, strings.Cut, strings.Contains, strings.Clone at a separator of one byte. Conditions: the bounds that each statement names.
-/
namespace Go.Proofs.YtmjfkdpaeenfgaaGreatDoor.F
open Go Go.RowKit Go.Shelf Fp
open Go.Proofs.YtmjfkdpaeenfgaaGreatDoor.D (hide unhide ext_list)
attribute [local go_sem] Oper.semAt_some

theorem idx_cut (c : UInt8) : ∀ l : List UInt8, match cutB c l with
    | none => Lib.indexByte l c = -1
    | some (k, t) => Lib.indexByte l c = k.length ∧ k.length + 1 + t.length = l.length
  | [] => rfl
  | x :: r => by
    have ih := idx_cut c r
    rw [cutB]
    by_cases h : x = c
    · subst h
      rw [if_pos rfl]
      exact ⟨by rw [Lib.indexByte]; simp, by simp; omega⟩
    · rw [if_neg h]
      have hb : (x == c) = false := by simpa using h
      cases hc : cutB c r with
      | none =>
        rw [hc] at ih
        show Lib.indexByte (x :: r) c = -1
        rw [Lib.indexByte, hb, ih]
        rfl
      | some q =>
        rw [hc] at ih
        show Lib.indexByte (x :: r) c = ((x :: q.1).length : Int) ∧ _
        rw [Lib.indexByte, hb, ih.1]
        have h1 : ((q.1.length : Int) == -1) = false := by rw [beq_eq_false_iff_ne]; omega
        rw [h1]
        refine ⟨by simp, ?_⟩
        have := ih.2
        simp only [List.length_cons]
        omega
set_option maxRecDepth 100000 in
theorem indexByte_any (c : UInt8) (s : ByteArray) (w : World) :
    Calls Tryz.prog 131 #[.string s, .int .u8 c.toNat] w fun e w' => e = .returned (.int .i64 (Lib.indexByte s.data.toList c)) ∧ w' = w := by
  have hx := @run_callFunc_extern Tryz.prog 153 _ Extern.BytealgIndexByte.indexByte Tryz.func153 (by kernel_rfl) (by kernel_rfl) (by kernel_rfl) (by kernel_rfl)
  have hr := fun w => Lib.run_indexByteString (P := Tryz.prog) s c.toNat w
  rw [show (c.toNat : Int).toNat.toUInt8 = c by simp] at hr
  generalize Lib.indexByte s.data.toList c = n at *
  go_enter Tryz.func131, Tryz.ntmps131
  go_wp2
  go_ret
  exact ⟨rfl, rfl⟩
set_option maxRecDepth 100000 in
theorem index0_any (c : UInt8) (s : ByteArray) (w : World) :
    Calls Tryz.prog 118 #[.string s, .string ⟨#[c]⟩] w fun e w' => e = .returned (.int .i64 (Lib.indexByte s.data.toList c)) ∧ w' = w := by
  have H := hide fun W => indexByte_any c s W
  have hl : (⟨#[c]⟩ : ByteArray).toList = [c] := by rw [ByteArray.toList_eq]
  have hg : (⟨#[c]⟩ : ByteArray)[0]'(by show 0 < 1; decide) = c := rfl
  cases h : (([c] : List UInt8) == s.toList)
  · generalize Lib.indexByte s.data.toList c = n at *
    go_enter Tryz.func118, Tryz.ntmps118
    go_wp2_with fail
    refine ((unhide H) _).mono ?_
    rintro e w1 ⟨rfl, rfl⟩
    go_wp2
    go_ret
    exact ⟨rfl, rfl⟩
  · have e : Lib.indexByte s.data.toList c = 0 := by
      have : ([c] : List UInt8) = s.toList := by simpa using h
      rw [← ByteArray.toList_eq, ← this]
      simp [Lib.indexByte]
    rw [e]
    clear e H
    go_enter Tryz.func118, Tryz.ntmps118
    go_wp2
    go_ret
    exact ⟨rfl, rfl⟩
theorem index_any (c : UInt8) (s : ByteArray) (w : World) :
    Calls Tryz.prog 144 #[.string s, .string ⟨#[c]⟩] w fun e w' => e = .returned (.int .i64 (Lib.indexByte s.data.toList c)) ∧ w' = w := by
  have H := hide fun W => index0_any c s W
  generalize Lib.indexByte s.data.toList c = n at *
  go_enter Tryz.func144, Tryz.ntmps144
  go_wp2_with fail
  refine ((unhide H) _).mono ?_
  rintro e w1 ⟨rfl, rfl⟩
  go_wp2
  go_ret
  exact ⟨rfl, rfl⟩
theorem contains_any (c : UInt8) (s : ByteArray) (w : World) :
    Calls Tryz.prog 147 #[.string s, .string ⟨#[c]⟩] w fun e w' => e = .returned (.bool (decide (c ∈ s.data.toList))) ∧ w' = w := by
  have H := hide fun W => index_any c s W
  have hi := idx_cut c s.data.toList
  have hn := cutB_none c s.data.toList
  cases h : cutB c s.data.toList with
  | none =>
    rw [h] at hi
    rw [show Lib.indexByte s.data.toList c = -1 from hi] at H
    rw [decide_eq_false (hn.1 h)]
    clear hi hn h
    go_enter Tryz.func147, Tryz.ntmps147
    go_wp2_with fail
    refine ((unhide H) _).mono ?_
    rintro e w1 ⟨rfl, rfl⟩
    go_wp2
    go_ret
    exact ⟨rfl, rfl⟩
  | some q =>
    obtain ⟨k, t⟩ := q
    rw [h] at hi hn
    rw [hi.1] at H
    rw [decide_eq_true (Classical.byContradiction fun hm => by have := hn.2 hm; cases this)]
    have hk : (0 : Int) ≤ k.length := by omega
    generalize (k.length : Int) = n at *
    clear hi hn h
    go_enter Tryz.func147, Tryz.ntmps147
    go_wp2_with fail
    refine ((unhide H) _).mono ?_
    rintro e w1 ⟨rfl, rfl⟩
    go_wp2
    go_ret
    exact ⟨rfl, rfl⟩
theorem take_drop_of {c : UInt8} {s : ByteArray} {k t : List UInt8} (h : cutB c s.data.toList = some (k, t)) : s.extract 0 k.length = ⟨k.toArray⟩ ∧ s.extract (k.length + 1) s.size = ⟨t.toArray⟩ := by
  have e := (cutB_some _ _ _ _ h).1
  have hz : s.size = s.data.toList.length := (Array.length_toList).symm
  constructor
  · refine ByteArray.ext (Array.ext' ?_)
    rw [ext_list, e]
    simp
  · refine ByteArray.ext (Array.ext' ?_)
    rw [ext_list, hz, List.take_length, e]
    simp
set_option maxRecDepth 100000 in
theorem cut0_none (c : UInt8) (s : ByteArray) (w : World) (h : cutB c s.data.toList = none) :
    Calls Tryz.prog 94 #[.string s, .string ⟨#[c]⟩] w fun e w' => e = .returned (.tuple #[.string s, .string ⟨#[]⟩, .bool false]) ∧ Below w.heap.size w w' := by
  have H := hide fun W => index0_any c s W
  have hi := idx_cut c s.data.toList
  rw [h] at hi
  rw [show Lib.indexByte s.data.toList c = -1 from hi] at H
  clear hi h
  go_enter Tryz.func94, Tryz.ntmps94
  go_wp2_with fail
  refine ((unhide H) _).mono ?_
  rintro e w1 ⟨rfl, rfl⟩
  go_wp2
  go_ret3
  exact ⟨rfl, Below.refl _ _⟩
set_option maxRecDepth 100000 in
theorem cut0_some (c : UInt8) (s : ByteArray) (k t : List UInt8) (w : World) (hs : s.size ≤ 100000000) (h : cutB c s.data.toList = some (k, t)) :
    Calls Tryz.prog 94 #[.string s, .string ⟨#[c]⟩] w fun e w' => e = .returned (.tuple #[.string ⟨k.toArray⟩, .string ⟨t.toArray⟩, .bool true]) ∧ Below w.heap.size w w' := by
  have H := hide fun W => index0_any c s W
  have hi := idx_cut c s.data.toList
  rw [h] at hi
  obtain ⟨h1, h2⟩ : Lib.indexByte s.data.toList c = k.length ∧ k.length + 1 + t.length = s.data.toList.length := hi
  rw [h1] at H
  rw [Array.length_toList] at h2
  obtain ⟨e1, e2⟩ := take_drop_of h
  rw [← e1, ← e2]
  have h2' : k.length + 1 + t.length = s.size := h2
  clear h h1 e1 e2 h2
  obtain ⟨n, hn⟩ : ∃ n, k.length = n := ⟨_, rfl⟩
  rw [hn] at H h2' ⊢
  clear hn
  have hn1 : (n : Int) ≤ s.size := by omega
  have hn2 : (n : Int) + 1 ≤ s.size := by omega
  have hn3 : (n : Int) ≤ 100000000 := by omega
  have hc1 : ((⟨#[c]⟩ : ByteArray).size : Int) = 1 := rfl
  clear h2' hs
  have hmx : Tryz.prog.follows .mixedOrders = true := by kernel_rfl
  go_enter Tryz.func94, Tryz.ntmps94
  go_wp2_with fail
  refine ((unhide H) _).mono ?_
  rintro e w1 ⟨rfl, rfl⟩
  clear H
  go_wp2
  go_quiet (fail)
  go_wp2
  go_ret3
  exact ⟨rfl, U.below_drewN (Below.refl _ _) _⟩
theorem cut_none (c : UInt8) (s : ByteArray) (w : World) (h : cutB c s.data.toList = none) :
    Calls Tryz.prog 65 #[.string s, .string ⟨#[c]⟩] w fun e w' => e = .returned (.tuple #[.string s, .string ⟨#[]⟩, .bool false]) ∧ Below w.heap.size w w' := by
  have H := hide fun W => cut0_none c s W h
  clear h
  go_enter Tryz.func65, Tryz.ntmps65
  go_wp2_with fail
  refine ((unhide H) _).mono ?_
  rintro e w1 ⟨rfl, hb⟩
  have HB := hide hb
  clear hb
  go_wp2
  go_ret3
  exact ⟨rfl, unhide HB⟩
theorem cut_some (c : UInt8) (s : ByteArray) (k t : List UInt8) (w : World) (hs : s.size ≤ 100000000) (h : cutB c s.data.toList = some (k, t)) :
    Calls Tryz.prog 65 #[.string s, .string ⟨#[c]⟩] w fun e w' => e = .returned (.tuple #[.string ⟨k.toArray⟩, .string ⟨t.toArray⟩, .bool true]) ∧ Below w.heap.size w w' := by
  have H := hide fun W => cut0_some c s k t W hs h
  generalize (⟨k.toArray⟩ : ByteArray) = kk at *
  generalize (⟨t.toArray⟩ : ByteArray) = tt at *
  clear h hs
  go_enter Tryz.func65, Tryz.ntmps65
  go_wp2_with fail
  refine ((unhide H) _).mono ?_
  rintro e w1 ⟨rfl, hb⟩
  have HB := hide hb
  clear hb
  go_wp2
  go_ret3
  exact ⟨rfl, unhide HB⟩
theorem clone_any (s : ByteArray) (w : World) (hs : s.size ≤ 10000) : Calls Tryz.prog 41 #[.string s] w fun e w' => e = .returned (.string s) ∧ Below w.heap.size w w' := by
  have H := clone0_any s w (by omega)
  go_enter Tryz.func41, Tryz.ntmps41
  go_wp2_with (go_at_call 64; refine H.mono ?_; rintro e w' ⟨rfl, hb⟩)
  go_ret
  exact ⟨rfl, hb⟩
end Go.Proofs.YtmjfkdpaeenfgaaGreatDoor.F

/-
  strings.SplitSeq at a separator of one byte: its iterator hands over a text's pieces. Conditions: the text has at most 100000000 bytes.
-/
namespace Go.Proofs.YtmjfkdpaeenfgaaGreatDoor.F
open Go Go.RowKit Go.Shelf Fp
open Go.Proofs.YtmjfkdpaeenfgaaGreatDoor.D (hide unhide ext_list)
attribute [local go_sem] Oper.semAt_some

/-- what is left of blocks such as S says. -/
def Kpt (S : Nat → Prop) (A B : World) : Prop := A.heap.size ≤ B.heap.size ∧ ∀ k, S k → k < A.heap.size → B.heap[k]? = A.heap[k]?
theorem Kpt.refl (S : Nat → Prop) (A : World) : Kpt S A A := ⟨Nat.le_refl _, fun _ _ _ => rfl⟩
theorem Kpt.trans {S : Nat → Prop} {A B C : World} (h : Kpt S A B) (k : Kpt S B C) : Kpt S A C := ⟨Nat.le_trans h.1 k.1, fun i hs hl => (k.2 i hs (Nat.lt_of_lt_of_le hl h.1)).trans (h.2 i hs hl)⟩
theorem Kpt.of_but {S : Nat → Prop} {A B : World} {b : Nat} (h : But b A B) (hS : ¬ S b) : Kpt S A B := ⟨h.size, fun k hs hl => h.block k hl (fun e => hS (e ▸ hs))⟩
theorem Kpt.of_below {S : Nat → Prop} {A B : World} (h : Below A.heap.size A B) : Kpt S A B := ⟨h.size, fun k _ hl => h.block k hl⟩
theorem Kpt.cell {S : Nat → Prop} {A B : World} (h : Kpt S A B) {p : Addr} {v : Value} (hv : A.cell? p = some v) (hs : S p.block) : B.cell? p = some v :=
  (World.cell?_of_block (h.2 _ hs (D.lt_cell hv))).trans hv
theorem Kpt.imp {S R : Nat → Prop} {A B : World} (h : Kpt S A B) (hR : ∀ k, R k → S k) : Kpt R A B := ⟨h.1, fun k hs hl => h.2 k (hR k hs) hl⟩
theorem Kpt.drew {S : Nat → Prop} {A B : World} (h : Kpt S A B) : Kpt S A B.drew := h
theorem Kpt.alloc {S : Nat → Prop} {A B : World} (h : Kpt S A B) (o : Obj) : Kpt S A (B.alloc o) := h.trans (Kpt.of_below ((Below.refl _ _).alloc (Nat.le_refl _) o))

/-- a text's pieces. -/
def spb (c : UInt8) (s : ByteArray) : List ByteArray := (spl c s.data.toList).map fun l => ⟨l.toArray⟩
theorem spb_cut (c : UInt8) (s : ByteArray) : spb c s = match cutB c s.data.toList with
    | none => [s]
    | some (a, b) => ⟨a.toArray⟩ :: spb c ⟨b.toArray⟩ := by
  unfold spb
  rw [spl_cut]
  cases h : cutB c s.data.toList with
  | none => rfl
  | some q => rfl

/-- the three boxes of the iterator: the text, the separator, and 0. -/
structure Box3 (B : Nat) (c : UInt8) (s : ByteArray) (W : World) : Prop where
  bs : W.heap[B]? = some (.cells #[.string s] 9 (0, 0))
  bc : W.heap[B + 1]? = some (.cells #[.string ⟨#[c]⟩] 9 (0, 0))
  bz : W.heap[B + 2]? = some (.cells #[.int .i64 0] 3 (0, 0))
theorem Box3.kept {B : Nat} {c : UInt8} {s : ByteArray} {W W' : World} (h : Box3 B c s W) (hk : Kpt (fun k => B ≤ k ∧ k < B + 3) W W') : Box3 B c s W' :=
  ⟨(hk.2 _ ⟨Nat.le_refl _, by omega⟩ (Array.getElem?_eq_some_iff.1 h.bs).1).trans h.bs, (hk.2 _ ⟨by omega, by omega⟩ (Array.getElem?_eq_some_iff.1 h.bc).1).trans h.bc, (hk.2 _ ⟨by omega, by omega⟩ (Array.getElem?_eq_some_iff.1 h.bz).1).trans h.bz⟩
theorem Box3.below {B : Nat} {c : UInt8} {s : ByteArray} {W W' : World} (h : Box3 B c s W) (hb : Below W.heap.size W W') : Box3 B c s W' := h.kept (Kpt.of_below hb)
theorem Box3.lt {B : Nat} {c : UInt8} {s : ByteArray} {W : World} (h : Box3 B c s W) : B + 2 < W.heap.size := (Array.getElem?_eq_some_iff.1 h.bz).1
theorem Box3.cells {B : Nat} {c : UInt8} {s : ByteArray} {W : World} (h : Box3 B c s W) : (W.cell? ⟨B, 0, none⟩ = some (.string s) ∧ W.cell? ⟨B + 1, 0, none⟩ = some (.string ⟨#[c]⟩) ∧ W.cell? ⟨B + 2, 0, none⟩ = some (.int .i64 0)) ∧ W.frozen? ⟨B, 0, none⟩ = false := by
  obtain ⟨h1, h2, h3⟩ := h
  refine ⟨⟨?_, ?_, ?_⟩, ?_⟩ <;> simp [World.cell?, World.frozen?, h1, h2, h3]
theorem heap_set (W : World) (b i : Nat) (cs : Array Value) (t : TypeId) (v : Value) (h : W.heap[b]? = some (.cells cs t (0, 0))) : (W.setCell ⟨b, i, none⟩ v).heap[b]? = some (.cells (cs.setIfInBounds i v) t (0, 0)) := heap_setCell_same W b i cs t v h
theorem Box3.set {B : Nat} {c : UInt8} {s : ByteArray} {W : World} (h : Box3 B c s W) (t : ByteArray) : Box3 B c t (W.setCell ⟨B, 0, none⟩ (.string t)) :=
  ⟨heap_set W B 0 _ _ _ h.bs, (Below.heap_setCell _ _ _ _ (by show B + 1 ≠ B; omega)).trans h.bc, (Below.heap_setCell _ _ _ _ (by show B + 2 ≠ B; omega)).trans h.bz⟩

theorem splitSeq_any (c : UInt8) (s : ByteArray) (w : World) :
    Calls Tryz.prog 97 #[.string s, .string ⟨#[c]⟩] w fun e w' => e = .returned (.func (.func 142) #[] #[.pointer (some ⟨w.heap.size + 1, 0, none⟩), .pointer (some ⟨w.heap.size, 0, none⟩), .pointer (some ⟨w.heap.size + 1 + 1, 0, none⟩)]) ∧
      Below w.heap.size w w' ∧ w'.heap.size = w.heap.size + 3 ∧ Box3 w.heap.size c s w' := by
  have K : ∀ w, Calls Tryz.prog 122 #[.string s, .string ⟨#[c]⟩, .int .i64 0] w fun e w' => e = .returned (.func (.func 142) #[] #[.pointer (some ⟨w.heap.size + 1, 0, none⟩), .pointer (some ⟨w.heap.size, 0, none⟩), .pointer (some ⟨w.heap.size + 1 + 1, 0, none⟩)]) ∧
      w' = ((w.alloc (.cells #[.string s] 9)).alloc (.cells #[.string ⟨#[c]⟩] 9)).alloc (.cells #[.int .i64 0] 3) := by
    intro w
    go_enter Tryz.func122, Tryz.ntmps122
    go_wp2
    go_ret
    exact ⟨rfl, rfl⟩
  have H := hide K
  clear K
  go_enter Tryz.func97, Tryz.ntmps97
  go_wp2_with fail
  refine ((unhide H) _).mono ?_
  rintro e w1 ⟨rfl, rfl⟩
  go_wp2
  go_ret
  refine ⟨rfl, (((Below.refl _ _).alloc (Nat.le_refl _) _).alloc (by simp) _).alloc (by simp; omega) _, by simp, ?_, ?_, ?_⟩
  · rw [Below.heap_alloc _ _ _ (by simp; omega), Below.heap_alloc _ _ _ (by simp)]; exact World.alloc_heap_new _ _
  · rw [Below.heap_alloc _ _ _ (by simp)]; have := World.alloc_heap_new (w.alloc (.cells #[.string s] 9)) (.cells #[.string ⟨#[c]⟩] 9); rwa [World.size_alloc] at this
  · have := World.alloc_heap_new ((w.alloc (.cells #[.string s] 9)).alloc (.cells #[.string ⟨#[c]⟩] 9)) (.cells #[.int .i64 0] 3); rwa [World.size_alloc, World.size_alloc] at this

/-- how a piece was taken. -/
def Gone (G Gx : List ByteArray → ByteArray → Prop) (J Jx : List ByteArray → World → Prop) (S : Nat → Prop) (p : List ByteArray) (x : ByteArray) (W : World) (e : Ending) (W2 : World) : Prop :=
  (e = .returned (.bool true) ∧ G p x ∧ J (p ++ [x]) W2 ∧ Kpt S W W2) ∨ (e = .returned (.bool false) ∧ Gx p x ∧ Jx (p ++ [x]) W2)
/-- what the iterator leaves. -/
def Split (G Gx : List ByteArray → ByteArray → Prop) (J Jx : List ByteArray → World → Prop) (l : List ByteArray) (W' : World) : Prop :=
  ((∀ q x, q ++ [x] <+: l → G q x) ∧ J l W') ∨ (∃ q x, q ++ [x] <+: l ∧ Gx q x ∧ Jx (q ++ [x]) W')

set_option maxRecDepth 100000 in
set_option maxHeartbeats 2000000 in
theorem split1_any (c : UInt8) (s : ByteArray) (B l : Nat) (hs : s.size ≤ 100000000) (G Gx : List ByteArray → ByteArray → Prop) (J Jx : List ByteArray → World → Prop)
    (hJ : ∀ p A A', But B A A' → J p A → J p A')
    (hY : ∀ p x W m, J p W → p ++ [x] <+: spb c s → YieldAt Fence.wide m Tryz.prog l #[.string x] W (Gone G Gx J Jx (fun k => B ≤ k ∧ k < B + 3) p x W))
    (W : World) (h0 : J [] W) (hB : Box3 B c s W) :
    CallsIn Fence.wide 6 Tryz.prog 142 #[.func (.yield l) #[] #[], .pointer (some ⟨B + 1, 0, none⟩), .pointer (some ⟨B, 0, none⟩), .pointer (some ⟨B + 1 + 1, 0, none⟩)] W fun e W' => (∃ v, e = .returned v) ∧ Split G Gx J Jx (spb c s) W' := by
  have HB := hide hB
  obtain ⟨⟨c0, c1, c2⟩, _⟩ := hB.cells
  have HJ := hide hJ
  have HY := hide hY
  have hc1 : ((⟨#[c]⟩ : ByteArray).size : Int) = 1 := rfl
  clear hJ hY hB
  refine callsIn_of_wp Tryz.func142 rfl trivial ?_ rfl
  simp only [Tryz.ntmps142, List.size_toArray, List.length_cons, List.length_nil, Nat.reduceAdd, Nat.reduceSub, Array.replicate_succ, Array.replicate_zero, List.push_toArray, List.append_toArray, List.nil_append, List.cons_append]
  gi_wp2
  gi_loopw [7] (fun _ wr => ∃ (pre : List ByteArray) (r : ByteArray), Hid (pre ++ spb c r = spb c s) ∧ Hid (r.size ≤ 100000000) ∧ Hid (∀ q x, q ++ [x] <+: pre → G q x) ∧ Hid (J pre wr) ∧ Hid (Box3 B c r wr)) (fun _ wr => match wr.cell? ⟨B, 0, none⟩ with | some (.string r) => r.size | _ => 0)
  case atStart => exact ⟨[], s, hide rfl, hide hs, hide (fun q x h => by have := h.length_le; simp at this), hide h0, HB⟩
  case round =>
    obtain ⟨pre, r, hpre, hr, hG, hj, hB⟩ := hrel
    clear HB h0 c0 c1 c2
    obtain ⟨⟨c0, c1, c2⟩, f0⟩ := (unhide hB).cells
    have HI := hide fun W => index_any c r W
    have hcut := idx_cut c r.data.toList
    have hsp := spb_cut c r
    cases hq : cutB c r.data.toList with
    | none =>
      rw [hq] at hcut hsp
      rw [show Lib.indexByte r.data.toList c = -1 from hcut] at HI
      have hsp : spb c r = [r] := hsp
      have hp1 : pre ++ [r] = spb c s := by rw [← hsp]; exact unhide hpre
      have hp2 : pre ++ [r] <+: spb c s := hp1 ▸ List.prefix_rfl
      obtain ⟨fn, tmps, assign, body, hy, hRd⟩ := (unhide HY) pre r wr 5 (unhide hj) hp2
      have HP := hide hp1
      clear hcut hsp hp1 hp2 HY HJ
      gi_wp2_with fail
      refine ⟨trivial, (callsIn_wide.2 ((unhide HI) _)).mono ?_⟩
      rintro e w1 ⟨rfl, rfl⟩
      gi_wp2
      refine hRd.mono ?_
      rintro e W3 (⟨rfl, hg, hj3, _⟩ | ⟨rfl, hg, hx3⟩)
      · gi_wp2
        go_end0
        refine ⟨⟨_, rfl⟩, .inl ⟨fun q x hpx => ?_, (unhide HP) ▸ hj3⟩⟩
        rw [← unhide HP] at hpx
        rcases List.prefix_concat_iff.1 hpx with h | h
        · have h2 := List.append_inj' h rfl
          have h3 : x = r := by simpa using h2.2
          rw [h2.1, h3]; exact hg
        · exact (unhide hG) q x h
      · gi_wp2
        go_end0
        exact ⟨⟨_, rfl⟩, .inr ⟨pre, r, (unhide HP) ▸ List.prefix_rfl, hg, hx3⟩⟩
    | some q =>
      obtain ⟨a, b⟩ := q
      rw [hq] at hcut hsp
      obtain ⟨h1, h2⟩ : Lib.indexByte r.data.toList c = a.length ∧ a.length + 1 + b.length = r.data.toList.length := hcut
      rw [h1] at HI
      rw [Array.length_toList] at h2
      have h2' : a.length + 1 + b.length = r.size := h2
      have hsp : spb c r = ⟨a.toArray⟩ :: spb c ⟨b.toArray⟩ := hsp
      have hpn : (pre ++ [⟨a.toArray⟩]) ++ spb c ⟨b.toArray⟩ = spb c s := by rw [List.append_assoc, List.singleton_append, ← hsp]; exact unhide hpre
      have hp2 : pre ++ [⟨a.toArray⟩] <+: spb c s := by rw [← hpn]; exact List.prefix_append _ _
      obtain ⟨e1, e2⟩ := take_drop_of hq
      have hbz : (⟨b.toArray⟩ : ByteArray).size = b.length := by show b.toArray.size = _; simp
      obtain ⟨fn, tmps, assign, body, hy, hRd⟩ := (unhide HY) pre (r.extract 0 a.length) wr 5 (unhide hj) (by rw [e1]; exact hp2)
      obtain ⟨n, hn⟩ : ∃ n, a.length = n := ⟨_, rfl⟩
      rw [hn] at HI h2' e1 e2 hy hRd
      have hrz := unhide hr
      have hn1 : (n : Int) ≤ r.size := by omega
      have hn2 : (n : Int) + 1 ≤ r.size := by omega
      have hn3 : (n : Int) ≤ 100000000 := by omega
      have HS : Hid ((⟨b.toArray⟩ : ByteArray).size < r.size) := hide (by omega)
      have HE := hide (And.intro e1 e2)
      have HP := hide (And.intro hpn hp2)
      clear hsp hpn hp2 h1 h2 h2' e1 e2 hq hn hrz hbz
      gi_wp2_with fail
      refine ⟨trivial, (callsIn_wide.2 ((unhide HI) _)).mono ?_⟩
      rintro e w1 ⟨rfl, rfl⟩
      gi_wp2
      refine hRd.mono ?_
      rintro e W3 (⟨rfl, hg, hj3, hk3⟩ | ⟨rfl, hg, hx3⟩)
      · have hB3 := (unhide hB).kept hk3
        obtain ⟨⟨d0, d1, d2⟩, g0⟩ := hB3.cells
        have HB3 := hide hB3
        have HJ3 := hide hj3
        have HG3 := hide hg
        clear hB3 hj3 hg hk3
        gi_wp2
        go_roundw
        case rel =>
          obtain ⟨e1, e2⟩ := unhide HE
          refine ⟨pre ++ [⟨a.toArray⟩], ⟨b.toArray⟩, hide (unhide HP).1, hide (by have := unhide HS; have := unhide hr; omega), hide fun q x hpx => ?_, ?_, ?_⟩
          · rcases List.prefix_concat_iff.1 hpx with h | h
            · have h2 := List.append_inj' h rfl
              have h3 : x = ⟨a.toArray⟩ := by simpa using h2.2
              rw [h2.1, h3, ← e1]; exact unhide HG3
            · exact (unhide hG) q x h
          · rw [← e1]
            exact hide ((unhide HJ) _ _ _ ((But.refl _ _).setCell 0 _) (unhide HJ3))
          · rw [e2]
            exact hide ((unhide HB3).set _)
        case measure =>
          obtain ⟨e1, e2⟩ := unhide HE
          have h1 := unhide HS
          have h2 := ((unhide HB3).set (r.extract (n + 1) r.size)).cells.1.1
          have h3 := (unhide hB).cells.1.1
          rw [e2] at h2
          simp only [e2, h2, h3]
          exact h1
      · have hp2 := (unhide HP).2
        obtain ⟨e1, e2⟩ := unhide HE
        rw [e1] at hg hx3
        have HX := hide (And.intro hp2 (And.intro hg hx3))
        clear hg hx3 hp2 e1 e2
        gi_wp2
        refine bodyPost_ret (results_none rfl _ _ _) rfl ?_
        exact ⟨⟨_, rfl⟩, .inr ⟨pre, ⟨a.toArray⟩, (unhide HX).1, (unhide HX).2.1, (unhide HX).2.2⟩⟩
end Go.Proofs.YtmjfkdpaeenfgaaGreatDoor.F

/-
  How filt.pass goes through the filters in a filter, and filt.all's iterator. Conditions: none.
-/
namespace Go.Proofs.YtmjfkdpaeenfgaaGreatDoor.F
open Go Go.RowKit Go.Shelf Fp
open Go.Proofs.YtmjfkdpaeenfgaaGreatDoor.D (hide unhide)
attribute [local go_sem] Oper.semAt_some

/-- what is told of a filter that is gone through: how deep it stands, whether it fits, its name. -/
structure Pv where
  deep : Nat
  ok : Bool
  nm : ByteArray
def vis : (n : Nat) → Nat → Fl n → List Pv
  | 0, _, t => Empty.elim t
  | n + 1, deep, F => ⟨deep, fitF F, Fp.nm F⟩ :: ((ls F).map (vis n (deep + 1))).flatten
theorem vis_right : ∀ (n deep : Nat) (F : Fl n), right n (7 - deep) F = (vis n deep F).all fun q => decide (q.deep ≤ 6) && q.ok
  | 0, _, t => Empty.elim t
  | n + 1, deep, F => by
    rw [right, vis, List.all_cons, List.all_flatten, List.all_map]
    congr 1
    · congr 1
      show decide (0 < 7 - deep) = decide (deep ≤ 6)
      exact decide_eq_decide.2 (by omega)
    · congr 1
      funext x
      rw [show 7 - deep - 1 = 7 - (deep + 1) by omega]
      exact vis_right n (deep + 1) x
def nxN (s : List ByteArray) (q : Pv) : List ByteArray := if q.nm.size = 0 then s else s ++ [q.nm]
theorem vis_names : ∀ (n deep : Nat) (F : Fl n) (s : List ByteArray), (vis n deep F).foldl nxN s = s ++ names n F
  | 0, _, t, _ => Empty.elim t
  | n + 1, deep, F, s => by
    have key : ∀ (l : List (Fl n)) (s : List ByteArray), ((l.map (vis n (deep + 1))).flatten).foldl nxN s = s ++ (l.map (names n)).flatten := by
      intro l
      induction l with
      | nil => intro s; simp
      | cons x l ih =>
        intro s
        rw [List.map_cons, List.flatten_cons, List.foldl_append, vis_names n (deep + 1) x, ih, List.map_cons, List.flatten_cons, List.append_assoc]
    rw [vis, List.foldl_cons, key, names, ← List.append_assoc]
    congr 1
    unfold nxN
    simp only
    split <;> simp

/-- what a round keeps: what lies below Lo, and boxes of filters, all but block l. -/
def Kf (Lo l : Nat) (A B : World) : Prop := A.heap.size ≤ B.heap.size ∧ ∀ k, k < A.heap.size → k ≠ l → (k < Lo ∨ ∃ cs, A.heap[k]? = some (.cells cs 25 (0, 0))) → B.heap[k]? = A.heap[k]?
theorem Kf.refl (Lo l : Nat) (A : World) : Kf Lo l A A := ⟨Nat.le_refl _, fun _ _ _ _ => rfl⟩
theorem Kf.trans {Lo l : Nat} {A B C : World} (h : Kf Lo l A B) (k : Kf Lo l B C) : Kf Lo l A C := ⟨Nat.le_trans h.1 k.1, fun i hi hn ho => by
  have e := h.2 i hi hn ho
  exact (k.2 i (Nat.lt_of_lt_of_le hi h.1) hn (ho.imp id fun ⟨cs, hc⟩ => ⟨cs, e.trans hc⟩)).trans e⟩
theorem Kf.of_but {Lo l : Nat} {A B : World} (h : But l A B) : Kf Lo l A B := ⟨h.size, fun k hk hn _ => h.block k hk hn⟩
theorem Kf.of_below {Lo l : Nat} {A B : World} (h : Below A.heap.size A B) : Kf Lo l A B := ⟨h.size, fun k hk _ _ => h.block k hk⟩
theorem Kf.alloc {Lo l : Nat} {A B : World} (h : Kf Lo l A B) (o : Obj) : Kf Lo l A (B.alloc o) := h.trans (Kf.of_below ((Below.refl _ _).alloc (Nat.le_refl _) o))
/-- what is told, and the fields that are handed over. -/
def PrV (Lo : Nat) (q : Pv) (d : Fd) (W : World) : Prop := ∃ (n : Nat) (F : Fl (n + 1)), Is d F ∧ Sm F ∧ Strs W (fun b => b < Lo) d.sa (an F) ∧ q.ok = fitF F ∧ q.nm = Fp.nm F
/-- how one is taken. -/
def Took {σ : Type} (G Gx : σ → Pv → Prop) (nx : σ → Pv → σ) (J Jx : σ → World → Prop) (Lo l : Nat) (s : σ) (q : Pv) (W : World) (e : Ending) (W2 : World) : Prop :=
  (e = .returned (.bool true) ∧ G s q ∧ J (nx s q) W2 ∧ Kf Lo l W W2) ∨ (e = .returned (.bool false) ∧ Gx s q ∧ Jx (nx s q) W2)
/-- what is left behind all of a list. -/
def Ran {σ : Type} (G Gx : σ → Pv → Prop) (nx : σ → Pv → σ) (J Jx : σ → World → Prop) (Lo l : Nat) (s : σ) (L : List Pv) (W : World) (e : Ending) (W' : World) : Prop :=
  (e = .returned (.bool true) ∧ (∀ L1 q L2, L = L1 ++ q :: L2 → G (L1.foldl nx s) q) ∧ J (L.foldl nx s) W' ∧ Kf Lo l W W') ∨
  (e = .returned (.bool false) ∧ ∃ L1 q L2, L = L1 ++ q :: L2 ∧ Gx (L1.foldl nx s) q ∧ Jx (nx (L1.foldl nx s) q) W')
theorem goods_app {σ : Type} {G : σ → Pv → Prop} {nx : σ → Pv → σ} {s : σ} {A B : List Pv} (hA : ∀ L1 q L2, A = L1 ++ q :: L2 → G (L1.foldl nx s) q) (hB : ∀ L1 q L2, B = L1 ++ q :: L2 → G (L1.foldl nx (A.foldl nx s)) q) :
    ∀ L1 q L2, A ++ B = L1 ++ q :: L2 → G (L1.foldl nx s) q := by
  intro L1 q L2 h
  rcases List.append_eq_append_iff.1 h with ⟨c, h1, h2⟩ | ⟨c, h1, h2⟩
  · rw [h1, List.foldl_append]
    exact hB c q L2 h2
  · cases c with
    | nil =>
      rw [List.append_nil] at h1
      rw [h1] at hB
      rw [List.nil_append] at h2
      exact hB [] q L2 h2.symm
    | cons y c =>
      rw [List.cons_append] at h2
      obtain ⟨rfl, _⟩ := List.cons.inj h2
      exact hA L1 q c h1

set_option maxRecDepth 100000 in
set_option maxHeartbeats 2000000 in
theorem pass_any {σ : Type} (Lo l : Nat) (hLo : Lo ≤ l) (G Gx : σ → Pv → Prop) (nx : σ → Pv → σ) (J Jx : σ → World → Prop) (hJ : ∀ s A o, J s A → J s (A.alloc o)) (hJX : ∀ s A, J s A → l < A.heap.size)
    (Ok : σ → Pv → Prop)
    (hY : ∀ s q d W m, J s W → Ok s q → PrV Lo q d W → YieldAt Fence.wide m Tryz.prog l #[.int .i64 q.deep, d.val] W (Took G Gx nx J Jx Lo l s q W)) :
    ∀ (n : Nat) (F : Fl n) (s : σ) (deep : Nat) (W : World) (d : Fd), (∀ L1 q L2, vis n deep F = L1 ++ q :: L2 → Ok (L1.foldl nx s) q) → FNode n W (fun b => b < Lo) d F → J s W → deep ≤ 1000 - n → n ≤ 100 →
      Calls Tryz.prog 63 #[d.val, .int .i64 deep, .func (.yield l) #[] #[]] W (Ran G Gx nx J Jx Lo l s (vis n deep F) W) := by
  intro n
  induction n with
  | zero => intro F; exact Empty.elim F
  | succ n ih =>
    intro F s deep W d hok hN hj hdp hn
    have HOK := hide hok
    clear hok
    obtain ⟨k, a, v, sa, sn, sc, f, la, ln, lc⟩ := d
    have hI := hN.is
    have hln : ln = (ls F).length := hI.ln
    have hk' : (ln : Int) ≤ 1000 := by have := hN.sm.ln; omega
    have hyv := hY s ⟨deep, fitF F, Fp.nm F⟩ ⟨k, a, v, sa, sn, sc, f, la, ln, lc⟩ (W.alloc (.cells #[.int .i64 k, .string a, .string v, .slice sa sn sc, .string f, .slice la ln lc] 25)) 4 (hJ _ _ _ hj) ((unhide HOK) [] _ _ (by rw [vis]; rfl))
      ⟨n, F, hI, hN.sm, hN.strs.of (fun b _ hl => Below.heap_alloc W _ b hl), rfl, rfl⟩
    have HN := hide hN
    have IH := hide ih
    have HY := hide hY
    have HI := hide hln
    clear ih hN hY hI hln
    obtain ⟨fn, tmps, assign, body, hy, hR⟩ := hyv
    dsimp only at hy
    refine (callsIn_wide (n := 5)).1 ?_
    refine callsIn_of_wp Tryz.func63 rfl trivial ?_ rfl
    simp only [Tryz.ntmps63, List.size_toArray, List.length_cons, List.length_nil, Nat.reduceAdd, Nat.reduceSub, Array.replicate_succ, Array.replicate_zero, List.push_toArray, List.append_toArray, List.nil_append, List.cons_append]
    gi_wp2
    refine hR.mono ?_
    rintro e W2 (⟨rfl, hg, hj2, hlow⟩ | ⟨rfl, hg, hx⟩)
    · have hbox : W2.heap[W.heap.size]? = some (.cells #[.int .i64 k, .string a, .string v, .slice sa sn sc, .string f, .slice la ln lc] 25 (0, 0)) :=
        (hlow.2 _ (by simp) (fun e => by have := hJX _ _ hj; omega) (.inr ⟨_, World.alloc_heap_new W _⟩)).trans (World.alloc_heap_new W _)
      have b5 := (At.box (d := ⟨k, a, v, sa, sn, sc, f, la, ln, lc⟩) hbox).c5
      have hlow2 : Kf Lo l W W2 := ((Kf.refl _ _ W).alloc _).trans hlow
      have HG := hide hg
      clear hR hg hlow hbox
      gi_wp2
      gi_loopw [17] (fun y wr => ∃ i : Nat, i ≤ (ls F).length ∧ y = .int .i64 i ∧ Hid (∀ L1 q L2, ((⟨deep, fitF F, Fp.nm F⟩ : Pv) :: (((ls F).take i).map (vis n (deep + 1))).flatten) = L1 ++ q :: L2 → G (L1.foldl nx s) q) ∧ J (((⟨deep, fitF F, Fp.nm F⟩ : Pv) :: (((ls F).take i).map (vis n (deep + 1))).flatten).foldl nx s) wr ∧ Kf Lo l W wr)
        (fun y _ => (ls F).length - (intOf y).toNat)
      case atStart =>
        refine ⟨0, Nat.zero_le _, rfl, ?_, hj2, hlow2⟩
        show ∀ L1 q L2, _
        intro L1 q L2 h
        cases L1 with
        | nil => obtain ⟨rfl, _⟩ := List.cons.inj h; exact unhide HG
        | cons y L1 => simp at h
      case round =>
        obtain ⟨i, hi, rfl, hgs, hj3, hlow3⟩ := hrel
        clear b5 hlow2 hj2 hy
        have hln := unhide HI
        by_cases hlt : i < (ls F).length
        · obtain ⟨g, off, ha⟩ := (unhide HN).kids
          have ha : la = some ⟨g, off, none⟩ := ha.resolve_right (fun e => by rw [e] at hlt; cases hlt)
          have hNr := (unhide HN).of (W' := wr) (fun b hb hl => hlow3.2 b hl (by omega) (.inl hb))
          obtain ⟨⟨k', a', v', sa', sn', sc', f', la', ln', lc'⟩, hat, hNi⟩ := hNr.kid ha hlt
          obtain ⟨c0, c1, c2, c3, c4, c5⟩ := hat
          dsimp only at c0 c1 c2 c3 c4 c5
          have H := hide (fun o => by
            have := (unhide IH) (ls F)[i] (((⟨deep, fitF F, Fp.nm F⟩ : Pv) :: (((ls F).take i).map (vis n (deep + 1))).flatten).foldl nx s) (deep + 1) (wr.alloc o) _ (fun L1 q L2 e => by
              rw [← List.foldl_append]
              exact (unhide HOK) _ q (L2 ++ (((ls F).drop (i + 1)).map (vis n (deep + 1))).flatten) (by
                rw [vis]
                conv => lhs; rw [← List.take_append_drop i (ls F), List.drop_eq_getElem_cons hlt]
                rw [List.map_append, List.map_cons, List.flatten_append, List.flatten_cons, e]
                simp)) (hNi.of (W' := wr.alloc o) fun b _ hl => Below.heap_alloc wr o b hl) (hJ _ _ _ hj3) (by omega) (by omega)
            rw [Int.natCast_add] at this
            exact this)
          have htk : ((⟨deep, fitF F, Fp.nm F⟩ : Pv) :: (((ls F).take (i + 1)).map (vis n (deep + 1))).flatten) = ((⟨deep, fitF F, Fp.nm F⟩ : Pv) :: (((ls F).take i).map (vis n (deep + 1))).flatten) ++ vis n (deep + 1) (ls F)[i] := by
            rw [List.take_succ_eq_append_getElem hlt, List.map_append, List.flatten_append, List.cons_append]
            simp
          have htot : vis (n + 1) deep F = ((⟨deep, fitF F, Fp.nm F⟩ : Pv) :: (((ls F).take (i + 1)).map (vis n (deep + 1))).flatten) ++ (((ls F).drop (i + 1)).map (vis n (deep + 1))).flatten := by
            rw [vis, List.cons_append, ← List.flatten_append, ← List.map_append, List.take_append_drop]
          have hlt' : (i : Int) < ln := by omega
          have hd1 : (deep : Int) ≤ 1000 := by omega
          subst ha
          have HT := hide htk
          have HT2 := hide htot
          clear hNi hNr htk htot hln
          gi_wp2_with fail
          refine ⟨trivial, (callsIn_wide.2 ((unhide H) _)).mono ?_⟩
          rintro e W3 (⟨rfl, hs2, hj4, hlow4⟩ | ⟨rfl, L1, q, L2, hs2, hg2, hx⟩)
          · have Hs := hide (goods_app (unhide hgs) hs2)
            rw [← List.foldl_append, ← unhide HT] at hj4
            rw [← unhide HT] at Hs
            clear hgs hs2 H
            gi_wp2
            go_roundw
            case rel => exact ⟨i + 1, by omega, by simp, Hs, hj4, hlow3.trans (((Kf.refl _ _ wr).alloc _).trans hlow4)⟩
            case measure => simp [intOf]; omega
          · have Hs : Hid (∃ L1 q L2, vis (n + 1) deep F = L1 ++ q :: L2 ∧ Gx (L1.foldl nx s) q ∧ Jx (nx (L1.foldl nx s) q) W3) := hide ⟨((⟨deep, fitF F, Fp.nm F⟩ : Pv) :: (((ls F).take i).map (vis n (deep + 1))).flatten) ++ L1, q, L2 ++ (((ls F).drop (i + 1)).map (vis n (deep + 1))).flatten, by
              rw [unhide HT2, unhide HT, hs2]; simp, by rw [List.foldl_append]; exact hg2, by rw [List.foldl_append]; exact hx⟩
            clear hgs hs2 H hg2 hx
            gi_wp2
            go_ret
            exact .inr ⟨rfl, unhide Hs⟩
        · have hge : ¬ (i : Int) < ln := by omega
          have hfin : ((⟨deep, fitF F, Fp.nm F⟩ : Pv) :: (((ls F).take i).map (vis n (deep + 1))).flatten) = vis (n + 1) deep F := by rw [List.take_of_length_le (by omega), vis]
          rw [hfin] at hj3 hgs
          clear hfin hln
          gi_wp2
          go_ret
          exact .inl ⟨rfl, unhide hgs, hj3, hlow3⟩
    · have Hs : Hid (∃ L1 q L2, vis (n + 1) deep F = L1 ++ q :: L2 ∧ Gx (L1.foldl nx s) q ∧ Jx (nx (L1.foldl nx s) q) W2) := hide ⟨[], _, _, rfl, hg, hx⟩
      clear hR hg hx
      gi_wp2
      go_ret
      exact .inr ⟨rfl, unhide Hs⟩

theorem all_any (d : Fd) (w : World) :
    Calls Tryz.prog 40 #[d.val] w fun e w' => e = .returned (.func (.func 62) #[] #[.pointer (some ⟨w.heap.size, 0, none⟩)]) ∧ w' = w.alloc d.obj := by
  obtain ⟨k, a, v, sa, sn, sc, f, la, ln, lc⟩ := d
  go_enter Tryz.func40, Tryz.ntmps40
  go_wp2
  go_ret
  exact ⟨rfl, rfl⟩

set_option maxHeartbeats 1000000 in
/-- the iterator's own body. -/
theorem all1_any {σ : Type} (n Lo l Bx : Nat) (hLo : Lo ≤ l) (F : Fl (n + 1)) (G Gx : σ → Pv → Prop) (nx : σ → Pv → σ) (J Jx : σ → World → Prop) (hJ : ∀ s A o, J s A → J s (A.alloc o)) (hJX : ∀ s A, J s A → l < A.heap.size)
    (Ok : σ → Pv → Prop)
    (hY : ∀ s q d W m, J s W → Ok s q → PrV Lo q d W → YieldAt Fence.wide m Tryz.prog l #[.int .i64 q.deep, d.val] W (Took G Gx nx J Jx Lo l s q W))
    (s : σ) (W : World) (d : Fd) (hok : ∀ L1 q L2, vis (n + 1) 1 F = L1 ++ q :: L2 → Ok (L1.foldl nx s) q) (hN : FNode (n + 1) W (fun b => b < Lo) d F) (hn : n ≤ 99) (hj : J s W) (hB : At W Bx 0 d) :
    CallsIn Fence.wide 6 Tryz.prog 62 #[.func (.yield l) #[] #[], .pointer (some ⟨Bx, 0, none⟩)] W fun e W' => (∃ v, e = .returned v) ∧ ∃ e', Ran G Gx nx J Jx Lo l s (vis (n + 1) 1 F) W e' W' := by
  have H := pass_any Lo l hLo G Gx nx J Jx hJ hJX Ok hY (n + 1) F s 1 W d hok hN hj (by omega) (by omega)
  obtain ⟨k, a, v, sa, sn, sc, f, la, ln, lc⟩ := d
  obtain ⟨c0, c1, c2, c3, c4, c5⟩ := hB
  dsimp only at c0 c1 c2 c3 c4 c5
  rw [show ((1 : Nat) : Int) = 1 from rfl] at H
  clear hY hN hok
  refine callsIn_of_wp Tryz.func62 rfl trivial ?_ rfl
  simp only [Tryz.ntmps62, List.size_toArray, List.length_cons, List.length_nil, Nat.reduceAdd, Nat.reduceSub, Array.replicate_succ, Array.replicate_zero, List.push_toArray, List.append_toArray, List.nil_append, List.cons_append]
  gi_wp2_with fail
  refine ⟨trivial, (callsIn_wide.2 H).mono ?_⟩
  rintro e W3 (⟨rfl, h1, h2, h3⟩ | ⟨rfl, h1⟩)
  · gi_wp2
    go_end0
    exact ⟨⟨_, rfl⟩, .returned (.bool true), .inl ⟨rfl, h1, h2, h3⟩⟩
  · gi_wp2
    go_end0
    exact ⟨⟨_, rfl⟩, .returned (.bool false), .inr ⟨rfl, h1⟩⟩
end Go.Proofs.YtmjfkdpaeenfgaaGreatDoor.F

/-
  The maps of filt.signs and of filt.kinds, and what is looked up in them. Conditions: none.
-/
namespace Go.Proofs.YtmjfkdpaeenfgaaGreatDoor.F
open Go Go.RowKit Go.Shelf Go.Maps Fp
open Go.Proofs.YtmjfkdpaeenfgaaGreatDoor.D (hide unhide)

theorem lawI : Keyed Tryz.prog 3 := int_keyed Tryz.underlying3
theorem lawS : Keyed Tryz.prog 9 := string_keyed Tryz.underlying9
theorem zeroS (w : World) : (zeroValue 9).run Tryz.prog w = .ok (.string ⟨#[]⟩) w := by kernel_rfl
theorem zeroI (w : World) : (zeroValue 3).run Tryz.prog w = .ok (.int .i64 0) w := by kernel_rfl

abbrev Dt := DataW Unit
/-- the kinds that have signs. -/
def hasSgn (k : Int) : Bool := k == 0 || k == 1 || k == 2 || k == 3 || k == 5 || k == 6 || k == 8 || k == 7
abbrev kI (k : Int) : Lit := .int .i64 k
abbrev kS (l : List UInt8) : Lit := .string l
def SD : Dt := ((((((((DataW.map [] : Dt).put (kI 0) (.lit (.string [38]))).put (kI 1) (.lit (.string [124]))).put (kI 2) (.lit (.string [33]))).put (kI 3) (.lit (.string [61]))).put (kI 5) (.lit (.string [62, 61]))).put (kI 6) (.lit (.string [60, 61]))).put (kI 8) (.lit (.string [126, 61]))).put (kI 7) (.lit (.string [61, 42]))
theorem isKey (k : Int) : WideAt.IsKeyLit (kI k) := trivial
theorem sd_at (k : Int) (h : hasSgn k = true) (z : Dt) : SD.atKey (kI k) z = .lit (.string (sgn k)) := by
  unfold hasSgn at h
  simp only [Bool.or_eq_true, beq_iff_eq] at h
  rcases h with ((((((h | h) | h) | h) | h) | h) | h) | h <;> subst h <;> rfl
theorem sd_has (k : Int) : Maps.has SD (kI k) = hasSgn k := by
  have hne : ∀ j, k ≠ j → kI k ≠ kI j := fun j h e => h (by cases e; rfl)
  unfold hasSgn
  by_cases h0 : k = 0
  · subst h0; rfl
  by_cases h1 : k = 1
  · subst h1; rfl
  by_cases h2 : k = 2
  · subst h2; rfl
  by_cases h3 : k = 3
  · subst h3; rfl
  by_cases h5 : k = 5
  · subst h5; rfl
  by_cases h6 : k = 6
  · subst h6; rfl
  by_cases h8 : k = 8
  · subst h8; rfl
  by_cases h7 : k = 7
  · subst h7; rfl
  unfold SD
  rw [has_put_other (hne 7 h7), has_put_other (hne 8 h8), has_put_other (hne 6 h6), has_put_other (hne 5 h5), has_put_other (hne 3 h3), has_put_other (hne 2 h2), has_put_other (hne 1 h1), has_put_other (hne 0 h0)]
  have e : ∀ j, k ≠ j → (k == j) = false := fun j h => beq_eq_false_iff_ne.2 h
  rw [e 0 h0, e 1 h1, e 2 h2, e 3 h3, e 5 h5, e 6 h6, e 7 h7, e 8 h8]
  rfl

/-- block B is the map of signs. -/
def SignsAt (W : World) (B : Nat) : Prop := W.ownsMap Tryz.prog 3 (plainElem Tryz.prog 9) B 8 SD
theorem SignsAt.below {W W' : World} {B : Nat} (h : SignsAt W B) (hb : Below W.heap.size W W') : SignsAt W' B :=
  World.ownsMap.kept (row := none) h ⟨hb.os, hb.tape, hb.output, hb.size, fun k hk _ => hb.block k hk⟩ (by simp)
theorem SignsAt.look {W : World} {B : Nat} (h : SignsAt W B) (k : Int) (hk : hasSgn k = true) : (Instr.lookup 50 (.map (some B)) (.int .i64 k) false).run Tryz.prog W = .ok (.string ⟨(sgn k).toArray⟩) W := by
  have hwf : (Lit.int .i64 k).wf = true := by
    unfold hasSgn at hk
    simp only [Bool.or_eq_true, beq_iff_eq] at hk
    rcases hk with ((((((h | h) | h) | h) | h) | h) | h) | h <;> subst h <;> decide
  obtain ⟨v, ps, h1, h2⟩ := World.ownsMap.lookup h lawI Tryz.underlying50 (zeroS W) (plainElem_string Tryz.underlying9 (by decide)) (keyOf_int_mk Tryz.underlying3 hwf)
  obtain ⟨s, rfl, h3, _⟩ := plainElem_string_inv Tryz.underlying9 h2
  rw [sd_at k hk] at h3
  simp only [Prod.mk.injEq, DataW.lit.injEq, Lit.string.injEq] at h3
  rw [h1, h3.1]

/-- an entry of a map that is written out. -/
theorem wpList_insert_own {H : Type} {P : Program} (w : World) {ops : Array Oper} {rest : List Oper} {o : Oper} {a : Act} {Q : Exit → Act → World → Prop}
    (hg : o.guard = none) (m x v : Operand) (t : TypeId) (hop : o.op = Op.insert t m x v)
    (k e : TypeId) (K : Keyed P k) (ht : P.underlying t = some (.map k e)) (R : Value → Option (DataW H × List MemPlace)) (b n : Nat) (D : DataW H)
    (hm : a.eval m = .map (some b)) (hown : w.ownsMap P k R b n D) (hn : n < maxLen) (key val : Value) (kl : Lit) (hx : a.eval x = key) (hv : a.eval v = val) (hkey : keyOf P k key = some kl)
    (d : DataW H) (ps : List MemPlace) (hval : R val = some (d, ps))
    (hK : ∀ w', w'.ownsMap P k R b (n + 1) (D.put kl d) → w.grownBy w' (some b) → wpList P ops Q rest (a.put o.dst undef) w') :
    wpList P ops Q (o :: rest) a w := by
  refine wpList_plain hg fun K' hK' => ?_
  obtain ⟨w', hrun, r1, r2⟩ := hown.update K ht hn hkey hval
  unfold Oper.wp
  simp [execOp, hop, hm, hx, hv, hrun, Result.andThen]
  exact hK' _ _ (hK w' r1 r2)

set_option maxRecDepth 100000 in
theorem signs_any (w : World) : Calls Tryz.prog 32 #[] w fun e w' => e = .returned (.map (some w.heap.size)) ∧ Below w.heap.size w w' ∧ SignsAt w' w.heap.size := by
  have hmm := @run_makeMap Tryz.prog
  have hown0 := World.ownsMap_made w Tryz.prog 3 (plainElem (H := Unit) Tryz.prog 9)
  have hg0 : w.grownBy (w.alloc (.map #[] 0)) (some w.heap.size) := (World.grownBy_alloc w _ none).but _
  go_enter Tryz.func32, Tryz.ntmps32
  go_wp2_with (first | (refine wpList_insert_own _ rfl _ _ _ 50 rfl 3 9 lawI Tryz.underlying50 (plainElem (H := Unit) Tryz.prog 9) w.heap.size 0 _ rfl hown0 (by decide) _ _ _ rfl rfl (keyOf_int_mk Tryz.underlying3 (by decide)) _ [] (plainElem_string Tryz.underlying9 (by decide)) ?_; intro w1 hown1 hq1; have hg1 := hg0.andThen hq1 (by simp); clear hown0 hg0 hq1) | (refine wpList_insert_own _ rfl _ _ _ 50 rfl 3 9 lawI Tryz.underlying50 (plainElem (H := Unit) Tryz.prog 9) w.heap.size 1 _ rfl hown1 (by decide) _ _ _ rfl rfl (keyOf_int_mk Tryz.underlying3 (by decide)) _ [] (plainElem_string Tryz.underlying9 (by decide)) ?_; intro w2 hown2 hq2; have hg2 := hg1.andThen hq2 (by simp); clear hown1 hg1 hq2) | (refine wpList_insert_own _ rfl _ _ _ 50 rfl 3 9 lawI Tryz.underlying50 (plainElem (H := Unit) Tryz.prog 9) w.heap.size 2 _ rfl hown2 (by decide) _ _ _ rfl rfl (keyOf_int_mk Tryz.underlying3 (by decide)) _ [] (plainElem_string Tryz.underlying9 (by decide)) ?_; intro w3 hown3 hq3; have hg3 := hg2.andThen hq3 (by simp); clear hown2 hg2 hq3) | (refine wpList_insert_own _ rfl _ _ _ 50 rfl 3 9 lawI Tryz.underlying50 (plainElem (H := Unit) Tryz.prog 9) w.heap.size 3 _ rfl hown3 (by decide) _ _ _ rfl rfl (keyOf_int_mk Tryz.underlying3 (by decide)) _ [] (plainElem_string Tryz.underlying9 (by decide)) ?_; intro w4 hown4 hq4; have hg4 := hg3.andThen hq4 (by simp); clear hown3 hg3 hq4) | (refine wpList_insert_own _ rfl _ _ _ 50 rfl 3 9 lawI Tryz.underlying50 (plainElem (H := Unit) Tryz.prog 9) w.heap.size 4 _ rfl hown4 (by decide) _ _ _ rfl rfl (keyOf_int_mk Tryz.underlying3 (by decide)) _ [] (plainElem_string Tryz.underlying9 (by decide)) ?_; intro w5 hown5 hq5; have hg5 := hg4.andThen hq5 (by simp); clear hown4 hg4 hq5) | (refine wpList_insert_own _ rfl _ _ _ 50 rfl 3 9 lawI Tryz.underlying50 (plainElem (H := Unit) Tryz.prog 9) w.heap.size 5 _ rfl hown5 (by decide) _ _ _ rfl rfl (keyOf_int_mk Tryz.underlying3 (by decide)) _ [] (plainElem_string Tryz.underlying9 (by decide)) ?_; intro w6 hown6 hq6; have hg6 := hg5.andThen hq6 (by simp); clear hown5 hg5 hq6) | (refine wpList_insert_own _ rfl _ _ _ 50 rfl 3 9 lawI Tryz.underlying50 (plainElem (H := Unit) Tryz.prog 9) w.heap.size 6 _ rfl hown6 (by decide) _ _ _ rfl rfl (keyOf_int_mk Tryz.underlying3 (by decide)) _ [] (plainElem_string Tryz.underlying9 (by decide)) ?_; intro w7 hown7 hq7; have hg7 := hg6.andThen hq7 (by simp); clear hown6 hg6 hq7) | (refine wpList_insert_own _ rfl _ _ _ 50 rfl 3 9 lawI Tryz.underlying50 (plainElem (H := Unit) Tryz.prog 9) w.heap.size 7 _ rfl hown7 (by decide) _ _ _ rfl rfl (keyOf_int_mk Tryz.underlying3 (by decide)) _ [] (plainElem_string Tryz.underlying9 (by decide)) ?_; intro w8 hown8 hq8; have hg8 := hg7.andThen hq8 (by simp); clear hown7 hg7 hq8))
  go_ret
  exact ⟨rfl, ⟨hg8.os, hg8.tape, hg8.output, hg8.size, fun k hk => hg8.block k hk (fun e => by cases e; omega)⟩, hown8⟩

/-- what a sign tells. -/
def kindS (l : List UInt8) : Option Int := if l = [38] then some 0 else if l = [124] then some 1 else if l = [33] then some 2 else if l = [61] then some 3 else if l = [62, 61] then some 5 else if l = [60, 61] then some 6 else if l = [126, 61] then some 8 else if l = [61, 42] then some 7 else none
theorem kindS_sgn (k : Int) (h : hasSgn k = true) : kindS (sgn k) = some k := by
  unfold hasSgn at h
  simp only [Bool.or_eq_true, beq_iff_eq] at h
  rcases h with ((((((h | h) | h) | h) | h) | h) | h) | h <;> subst h <;> rfl
theorem kindS_some (l : List UInt8) (k : Int) (h : kindS l = some k) : hasSgn k = true ∧ sgn k = l := by
  unfold kindS at h
  repeat' (split at h; rename_i he; cases h; subst he; exact ⟨rfl, rfl⟩)
  cases h
theorem kS_ne {l l' : List UInt8} (h : l ≠ l') : kS l ≠ kS l' := fun e => h (by cases e; rfl)
theorem kI_same (x y : Int) : (kI x).sameKey (kI y) = decide (x = y) := by
  show (Lit.int _ _).sameKey (Lit.int _ _) = _
  by_cases h : x = y
  · subst h; rw [decide_eq_true rfl]; simp [Lit.sameKey]
  · rw [decide_eq_false h]; simp [Lit.sameKey, h]
/-- the map that is told holds just the entries that are gone by. -/
structure Told (left : Lit → Bool) (D : Dt) : Prop where
  m : IsMap D
  sub : ∀ x, left (kI x) = true → hasSgn x = true
  has : ∀ l, Maps.has D (kS l) = match kindS l with | some k => !left (kI k) | none => false
  at_ : ∀ l k z, kindS l = some k → left (kI k) = false → D.atKey (kS l) z = .lit (.int .i64 k)
theorem told_first : Told (Maps.has SD) (.map []) := by
  refine ⟨isMap_empty, fun x h => by rw [sd_has] at h; exact h, fun l => ?_, fun l k z h h2 => ?_⟩
  · cases h : kindS l with
    | none => rfl
    | some k =>
      have := (kindS_some l k h).1
      simp only [sd_has, this]
      rfl
  · rw [sd_has, (kindS_some l k h).1] at h2
    cases h2
theorem Told.step {left : Lit → Bool} {D : Dt} (T : Told left D) (x : Int) (hx : left (kI x) = true) : Told (fun z => left z && !z.sameKey (kI x)) (D.put (kS (sgn x)) (.lit (.int .i64 x))) := by
  have hsx := T.sub x hx
  have hk : WideAt.IsKeyLit (kS (sgn x)) := trivial
  refine ⟨T.m.put _ _, fun y h => ?_, fun l => ?_, fun l k z h h2 => ?_⟩
  · simp only [Bool.and_eq_true] at h
    exact T.sub y h.1
  · by_cases hl : l = sgn x
    · subst hl
      rw [has_put_same T.m hk, kindS_sgn x hsx]
      simp [kI_same]
    · rw [has_put_other (kS_ne hl), T.has]
      cases h : kindS l with
      | none => rfl
      | some k =>
        have hkx : k ≠ x := fun e => hl (by rw [← (kindS_some l k h).2, e])
        simp [kI_same, hkx]
  · by_cases hl : l = sgn x
    · subst hl
      rw [kindS_sgn x hsx] at h
      cases h
      rw [atKey_put_same T.m hk]
    · have hkx : k ≠ x := fun e => hl (by rw [← (kindS_some l k h).2, e])
      rw [atKey_put_other (kS_ne hl)]
      refine T.at_ l k z h ?_
      simpa [kI_same, hkx] using h2

/-- block B is the map of kinds. -/
def KindsAt (W : World) (B : Nat) : Prop := ∃ n D, W.ownsMap Tryz.prog 9 (plainElem Tryz.prog 3) B n D ∧ Told (fun _ => false) D
theorem KindsAt.below {W W' : World} {B : Nat} (h : KindsAt W B) (hb : Below W.heap.size W W') : KindsAt W' B := by
  obtain ⟨n, D, h1, h2⟩ := h
  exact ⟨n, D, World.ownsMap.kept (row := none) h1 ⟨hb.os, hb.tape, hb.output, hb.size, fun k hk _ => hb.block k hk⟩ (by simp), h2⟩
theorem KindsAt.of {W W' : World} {B : Nat} (h : KindsAt W B) (hb : W'.heap[B]? = W.heap[B]?) : KindsAt W' B := by
  obtain ⟨n, D, ⟨es, c, h1, h3⟩, h2⟩ := h
  exact ⟨n, D, ⟨es, c, hb.trans h1, h3⟩, h2⟩
theorem KindsAt.look {W : World} {B : Nat} (h : KindsAt W B) (s : ByteArray) (hs : s.size ≤ maxLen) : (Instr.lookup 82 (.map (some B)) (.string s) true).run Tryz.prog W = .ok (.tuple #[.int .i64 ((kindS s.data.toList).getD 0), .bool (kindS s.data.toList).isSome]) W := by
  obtain ⟨n, D, h1, T⟩ := h
  obtain ⟨v, ps, h2, h3⟩ := World.ownsMap.look_ok h1 lawS Tryz.underlying82 (zeroI W) (plainElem_int Tryz.underlying3 (by decide)) (Go.WideMaps.keyOf_string_mk Tryz.underlying9 hs)
  obtain ⟨a, rfl, h4, _⟩ := plainElem_int_inv Tryz.underlying3 h3
  rw [h2]
  have hh := T.has s.data.toList
  cases hk : kindS s.data.toList with
  | none =>
    rw [hk] at hh
    simp only at hh
    rw [show Maps.has D (Lit.string s.data.toList) = false from hh]
    rw [show D.atKey (Lit.string s.data.toList) (.lit (.int .i64 0)) = .lit (.int .i64 0) from atKey_of_not_has hh _] at h4
    cases h4
    rfl
  | some k =>
    rw [hk] at hh
    simp only [Bool.not_false] at hh
    rw [show Maps.has D (Lit.string s.data.toList) = true from hh]
    rw [show D.atKey (Lit.string s.data.toList) (.lit (.int .i64 0)) = .lit (.int .i64 k) from T.at_ _ k _ hk rfl] at h4
    cases h4
    rfl

set_option maxRecDepth 100000 in
set_option maxHeartbeats 1000000 in
theorem kinds_any (w : World) : Calls Tryz.prog 55 #[] w fun e w' => e = .returned (.map (some w.heap.size)) ∧ Below w.heap.size w w' ∧ KindsAt w' w.heap.size := by
  have hmm := @run_makeMap Tryz.prog
  have hown0 := World.ownsMap_made w Tryz.prog 9 (plainElem (H := Unit) Tryz.prog 3)
  have HS := hide fun W => signs_any W
  go_enter Tryz.func55, Tryz.ntmps55
  go_wp2_with fail
  refine ((unhide HS) _).mono ?_
  rintro e w1 ⟨rfl, hb1, hS⟩
  rw [World.size_alloc] at hb1 hS ⊢
  have hown1 := hown0.kept (row := none) ⟨hb1.os, hb1.tape, hb1.output, by have := hb1.size; simpa using this, fun k hk _ => hb1.block k (by simpa using hk)⟩ (by simp)
  have hbw : Below w.heap.size w w1 := ((Below.refl _ _).alloc (Nat.le_refl _) _).trans (hb1.mono (by omega))
  have hlt1 : w.heap.size + 1 < w1.heap.size := hS.lt
  clear hown0 hb1 HS
  have hrg := hS
  unfold SignsAt at hrg
  go_wp2_with (at_range; refine wpList_range_own _ rfl _ 50 rfl 3 9 lawI Tryz.underlying50 (plainElem (H := Unit) Tryz.prog 9) (w.heap.size + 1) 8 SD rfl hrg ?_; intro w0 hrg0 hg0 hs0)
  go_frame
  have hown2 := hown1.kept hg0 (by simp)
  have hB0 : Below w.heap.size w w0 := ⟨hg0.os.trans hbw.os, hg0.tape.trans hbw.tape, hg0.output.trans hbw.output, Nat.le_trans hbw.size hg0.size, fun k hk => (hg0.block k (Nat.lt_of_lt_of_le hk hbw.size) (by simp)).trans (hbw.block k hk)⟩
  obtain ⟨r, hr⟩ : ∃ r, r = w1.heap.size := ⟨_, rfl⟩
  rw [← hr] at hrg0 hlt1 ⊢
  have hsz : size SD = 8 := rfl
  rw [hsz] at hrg0
  have hrn : w.heap.size ≠ r := by omega
  clear hS hrg hown1 hbw hg0 hs0 hr hmm hsz
  go_loopw [2] (fun _ wr => ∃ left cnt n D, wr.ranges Tryz.prog 3 (plainElem (H := Unit) Tryz.prog 9) (w.heap.size + 1) r 8 SD left cnt ∧ wr.ownsMap Tryz.prog 9 (plainElem (H := Unit) Tryz.prog 3) w.heap.size n D ∧ Hid (n + cnt ≤ 8) ∧ Hid (Told left D) ∧ Hid (Below w.heap.size w wr)) (fun _ wr => wr.rangeLeft (w.heap.size + 1) r)
  case atStart => exact ⟨_, 8, 0, _, hrg0, hown2, hide (Nat.le_refl _), hide told_first, hide hB0⟩
  case round =>
    obtain ⟨left, cnt, n, D, hrg, hown, hnc, hT, hb⟩ := hrel
    clear hrg0 hown2 hB0
    go_wp2_with (at_next; refine wpList_next_ranges_is _ rfl _ rfl 3 9 .i64 lawI Tryz.underlying3 Tryz.underlying9 (w.heap.size + 1) r 8 SD left cnt rfl hrg ?_ ?_)
    · intro _ hl0
      have hT2 := unhide hT
      rw [show left = fun _ => false from funext hl0] at hT2
      have HT := hide hT2
      clear hT hT2 hrg hnc
      go_wp2
      go_ret
      exact ⟨rfl, unhide hb, n, D, hown, unhide HT⟩
    · intro x c w2 cnt2 hwx hwc hlx hat hrg1 hlt hg1 hs1 hen
      have hown1 := hown.kept hg1 (fun e => hrn (by cases e; rfl))
      have hcx : sgn x = c.data.toList := by
        have := hat (.lit (.int .i64 0))
        rw [show DataW.atKey SD (Lit.int IntKind.i64 x) (.lit (.int .i64 0)) = .lit (.string (sgn x)) from sd_at x ((unhide hT).sub x hlx) _] at this
        simpa using this
      have hst := (unhide hT).step x hlx
      rw [hcx] at hst
      have HST := hide hst
      have hn8 : n + cnt ≤ 8 := unhide hnc
      have hb2 : Below w.heap.size w w2 := ⟨hg1.os.trans (unhide hb).os, hg1.tape.trans (unhide hb).tape, hg1.output.trans (unhide hb).output, Nat.le_trans (unhide hb).size hg1.size, fun k hk => (hg1.block k (Nat.lt_of_lt_of_le hk (unhide hb).size) (fun e => by cases e; omega)).trans ((unhide hb).block k hk)⟩
      have HB2 := hide hb2
      have hmx : n < maxLen := by unfold maxLen; omega
      have hms := hrg.left_eq
      clear hst hb2 hcx hat hT hb hown
      go_wp2_with (at_mapUpdate; refine wpList_mapUpdate_own _ rfl _ _ _ 82 rfl 9 3 lawS Tryz.underlying82 (plainElem (H := Unit) Tryz.prog 3) w.heap.size n D rfl hown1 hmx _ _ _ rfl rfl (Go.WideMaps.keyOf_string_mk Tryz.underlying9 hwc) _ [] (plainElem_int Tryz.underlying3 hwx) ?_; intro w3 hown3 hg3; go_frame)
      have hrg3 := hrg1.kept hg3 (fun e => by have := Option.some.inj e; omega) (fun e => by have := Option.some.inj e; omega)
      go_roundw
      case rel => exact ⟨_, cnt2, n + 1, _, hrg3, hown3, hide (by omega), HST, hide ⟨hg3.os.trans (unhide HB2).os, hg3.tape.trans (unhide HB2).tape, hg3.output.trans (unhide HB2).output, Nat.le_trans (unhide HB2).size hg3.size, fun k hk => (hg3.block k (Nat.lt_of_lt_of_le hk (unhide HB2).size) (fun e => by cases e; omega)).trans ((unhide HB2).block k hk)⟩⟩
      case measure =>
        rw [hrg3.left_eq, hms]
        exact hlt
end Go.Proofs.YtmjfkdpaeenfgaaGreatDoor.F

/-
  A region that draws its order: first operations that yield the same in every world of a class (calls among them, that leave a world of the class), then a tail that waits for all of them, in the text's order. One walk serves every order. Conditions: the Bool on the region's own waiting list.
-/
namespace Go.Proofs.YtmjfkdpaeenfgaaGreatDoor
open Go Go.RowKit

section
variable {P : Program} {ops : Array Oper} {md : Region.Mode} {C : World → Prop}

/-- f operations of the head come up, in whatever order; then M. -/
def HeadQ (P : Program) (md : Region.Mode) (ops : Array Oper) (C : World → Prop) (n : Nat) (M : Array Bool → Act → Prop) (f : Nat) : Array Bool → Act → Prop :=
  f.rec M fun _ next done a => Region.ready md ops done ≠ [] ∧ ∀ j, j ∈ Region.ready md ops done → j < n ∧ qOp P ops C j (next (done.setIfInBounds j true)) a

theorem HeadQ.any {n g : Nat} {M : Array Bool → Act → Prop} {Q : Exit → Act → World → Prop} (hM : ∀ done a w, C w → M done a → wpAny P md ops Q g done a w) (f : Nat) :
    ∀ (done : Array Bool) (a : Act) (w : World), C w → HeadQ P md ops C n M f done a → wpAny P md ops Q (f + g) done a w := by
  induction f with
  | zero => intro done a w hw h; rw [Nat.zero_add]; exact hM done a w hw h
  | succ f ih =>
    intro done a w hw h
    rw [Nat.succ_add]
    obtain ⟨h1, h2⟩ := h
    exact ⟨fun e => absurd e h1, fun j hj => wpOp_of_qOp hw (fun a' w' hw' h' => ih _ a' w' hw' h') (h2 j hj).2⟩

/-- What the Bool says: nothing selects; the head is waited for by the tail's first; the tail is a chain. -/
structure TailOk (md : Region.Mode) (ops : Array Oper) (n : Nat) : Prop where
  sel : Region.noSelect ops = true
  lt : n < ops.size
  sink : Region.sinkB md ops n = true
  chain : Region.chainB md ops n = true

/-- One of the head that is ready may be taken first. -/
theorem HeadQ.take {n i : Nat} {oi : Oper} {v : Value} {M : Array Bool → Act → Prop} (T : TailOk md ops n) (hi : ops[i]? = some oi) (hin : i < n)
    (hM : ∀ done a, M done a → ∀ j ∈ Region.ready md ops done, n ≤ j) (f : Nat) :
    ∀ (done : Array Bool) (a : Act), HeadInv md ops n done →
      (∀ j oj, ops[j]? = some oj → j ≠ i → done.getD j true = false → (∀ e ∈ oj.after, Region.binds md e = true → e.on ≠ i) → oi.apart ops oj = true) →
      i ∈ Region.ready md ops done → YieldsIn P ops C oi v a → HeadQ P md ops C n M f (done.setIfInBounds i true) (a.put oi.dst v) → HeadQ P md ops C n M (f + 1) done a := by
  have early : ∀ done, HeadInv md ops n done → i ∈ Region.ready md ops done → ∀ j ∈ Region.ready md ops done, j < n := fun done inv hr j hj =>
    Nat.lt_of_not_le fun hnj => tail_waits T.sink T.chain T.lt inv (n - i) i rfl hin (mem_ready.1 hr).1 j hnj hj
  have sel := Region.noSelect_spec T.sel
  induction f with
  | zero =>
    intro done a inv _ hr hy hH
    refine ⟨fun e => (by rw [e] at hr; cases hr), fun j hj => ⟨early done inv hr j hj, ?_⟩⟩
    rcases Nat.decEq j i with hne | rfl
    · exact absurd (hM _ _ hH j (ready_mono hj hne)) (Nat.not_le_of_lt (early done inv hr j hj))
    · exact hy.qOp hi hH
  | succ f ih =>
    intro done a inv hap hr hy hH
    refine ⟨fun e => (by rw [e] at hr; cases hr), fun j hj => ⟨early done inv hr j hj, ?_⟩⟩
    rcases Nat.decEq j i with hne | rfl
    · obtain ⟨hjd, oj, hoj, hw⟩ := mem_ready.1 hj
      have hfar : ∀ e ∈ oj.after, Region.binds md e = true → e.on ≠ i := by
        intro e he hb hon
        have := hw e he hb
        rw [hon, getD_both (mem_ready.1 hr).1] at this
        cases this
      have step := qOp_put hoj (hap j oj hoj hne hjd hfar) (fun cs b => sel i oi cs b hi) (fun cs b => sel j oj cs b hoj) hy (hH.2 j (ready_mono hj hne)).2
      refine qOp_mono (fun a' h3 => ih (done.setIfInBounds j true) a' (inv.set hj (early done inv hr j hj)) ?_ (ready_mono hr (Ne.symm hne)) h3.1 (by rw [Array.setIfInBounds_comm _ _ hne]; exact h3.2)) step
      intro k ok hk hki hkd hon
      refine hap k ok hk hki ?_ hon
      rcases Nat.decEq j k with h | rfl
      · rwa [getD_set_ne true h] at hkd
      · exact hjd
    · exact hy.qOp hi hH

theorem HeadQ.lex {n g : Nat} {L : Act → Prop} (T : TailOk md ops n) : ∀ (l : List Oper) (k : Nat) (done : Array Bool) (a : Act), (∀ j, j < l.length → l[j]? = ops[k + j]?) → k + l.length = n → HeadInv md ops n done →
    Region.lexHead md ops g l.length k done = true → wpQuiet P ops C L l a → HeadQ P md ops C n (fun done' a' => Region.seqB md ops g n done' = true ∧ L a') l.length done a
  | [], k, done, a, _, hk, _, hB, h => by
    obtain rfl : k = n := by simpa using hk
    exact ⟨by simpa [Region.lexHead] using hB, h⟩
  | o :: l, k, done, a, hl, hk, inv, hB, h => by
    have ho : ops[k]? = some o := by simpa using (hl 0 (Nat.succ_pos _)).symm
    have hkn : k < n := by rw [List.length_cons] at hk; omega
    rw [List.length_cons, Region.lexHead, Bool.and_eq_true, Bool.and_eq_true] at hB
    have hr : k ∈ Region.ready md ops done := by simpa using hB.1.1
    have hq : qOp P ops C k (wpQuiet P ops C L l) a := by unfold qOp; simp only [ho]; exact h
    obtain ⟨v, hy, hn⟩ := yieldsIn_of_qOp ho hq
    refine HeadQ.take T ho hkn (fun _ _ hL => seqB_ready hL.1) l.length done a inv (Region.free_spec ho hB.1.2) hr hy ?_
    refine HeadQ.lex T l (k + 1) _ _ (fun j hj => ?_) (by rw [List.length_cons] at hk; omega) (inv.set hr hkn) hB.2 hn
    have := hl (j + 1) (by rw [List.length_cons]; omega)
    rwa [List.getElem?_cons_succ, show k + (j + 1) = k + 1 + j by omega] at this

theorem any_tail {Q : Exit → Act → World → Prop} {a : Act} {w : World} {l : List Oper} (n : Nat) (hB : Region.lexTailB .any l.toArray n = true) (hC : C w.drew)
    (h : wpQuiet P l.toArray C (fun a' => ∀ w', C w' → wpList P l.toArray Q (l.drop n) a' w') (l.take n) a) : wpAny P .any l.toArray Q l.toArray.size (Array.replicate l.toArray.size false) a w.drew := by
  rw [Region.lexTailB, Bool.and_eq_true, Bool.and_eq_true, Bool.and_eq_true, Bool.and_eq_true, decide_eq_true_eq] at hB
  obtain ⟨⟨⟨⟨h1, h2⟩, h3⟩, h4⟩, h5⟩ := hB
  have hn : n < l.length := by simpa using h2
  have e1 : (l.take n).length = n := by rw [List.length_take]; omega
  have e2 : (l.drop n).length = l.toArray.size - n := by simp
  have inv : HeadInv .any l.toArray n (Array.replicate l.toArray.size false) :=
    ⟨by simp, fun j _ _ hl => (by rw [getD_replicate_false] at hl; cases hl), fun t _ ht => getD_in (by simpa using ht) (getD_replicate_false _ _)⟩
  have H := HeadQ.lex (g := l.toArray.size - n) ⟨h1, h2, h3, h4⟩ (l.take n) 0 _ a (fun j hj => by rw [e1] at hj; simp [hj]) (by rw [Nat.zero_add]; exact e1) inv (by rw [e1]; exact h5) h
  have R := HeadQ.any (Q := Q) (g := l.toArray.size - n) (fun done a' w' hw' hL => by
    have := wpAny_of_seq (md := .any) (Q' := Q) (l.drop n) n done a' w' (fun j => by simp [List.getElem?_drop]) (by rw [e2]; exact hL.1) (hL.2 w' hw')
    rwa [e2] at this) _ _ a w.drew hC H
  rwa [e1, show n + (l.toArray.size - n) = l.toArray.size by omega] at R

/-- a post that holds at a normal end alone. -/
def onlyN (Q : Exit → Act → World → Prop) : Exit → Act → World → Prop
  | .normal, a, w => Q .normal a w
  | _, _, _ => False
theorem wp_region_tail {Q : Exit → Act → World → Prop} {id : Nat} {a : Act} {w : World} {l : List Oper} (C : World → Prop) (n : Nat) (hm : P.follows .mixedOrders = true) (hB : Region.lexTailB .any l.toArray n = true) (hC : C w.drew)
    (h : wpQuiet P l.toArray C (fun a' => ∀ w', C w' → wpList P l.toArray (onlyN Q) (l.drop n) a' w') (l.take n) a) : (Code.region id l.toArray true).wp P Q a w :=
  wp_mono (wp_region_any hm (any_tail (Q := onlyN Q) n hB hC h)) fun e _ _ h => by cases e <;> first | exact h | exact h.elim
theorem regionIn_qtail {Q : Exit → Act → World → Prop} {lp m : Nat} {id : Nat} {a : Act} {w : World} {l : List Oper} (C : World → Prop) (n : Nat) (hm : P.follows .mixedOrders = true) (hd : noDefer l = true) (hB : Region.lexTailB .any l.toArray n = true) (hC : C w.drew)
    (h : wpQuiet P l.toArray C (fun a' => ∀ w', C w' → wpList P l.toArray (onlyN Q) (l.drop n) a' w') (l.take n) a) : (Code.region id l.toArray true).wpIn (Fence.wide.inRound lp) m P Q a w :=
  wpIn_mono (regionIn_round (Q := onlyN Q) hm (fun i o ho c => noDefer_spec hd i o ho c) (by rintro ⟨a, w, h⟩; exact h) (any_tail n hB hC h)) fun e _ _ h => by cases e <;> first | exact h | exact h.elim
end

/-- the worlds that keep all that lies in V. -/
structure Kw (V : World) : Type where
  w : World
  b : Below V.heap.size V w
theorem kwNonempty (V : World) : Nonempty (Kw V) := ⟨⟨V, Below.refl _ _⟩⟩
abbrev KwOf (V : World) (w' : World) : Prop := ∃ s : Kw V, w' = s.w
theorem kw_drew (V : World) : KwOf V V.drew := ⟨⟨V.drew, ⟨rfl, rfl, rfl, Nat.le_refl _, fun _ _ => rfl⟩⟩, rfl⟩
theorem Kw.cell {V : World} (s : Kw V) {p : Addr} {v : Value} (h : V.cell? p = some v) (hp : p.block < V.heap.size) : s.w.cell? p = some v := (s.b.cell hp).trans h
/-- a call's contract, in the class. -/
theorem Kw.call {P : Program} {f : FuncId} {args : Array Value} {V : World} {v : Value} (s : Kw V) (h : Calls P f args s.w fun e w' => e = .returned v ∧ Below s.w.heap.size s.w w') :
    Calls P f args s.w fun e w'' => e = .returned v ∧ ∃ m : Kw V, w'' = m.w :=
  h.mono fun _ w' ⟨he, hb⟩ => ⟨he, ⟨w', s.b.trans (hb.mono s.b.size)⟩, rfl⟩
theorem wp_region_kw {P : Program} {Q : Exit → Act → World → Prop} {id : Nat} {a : Act} {V : World} {l : List Oper} (n : Nat) (hm : P.follows .mixedOrders = true) (hB : Region.lexTailB .any l.toArray n = true)
    (h : wpQuiet P l.toArray (fun w' => ∃ s : Kw V, w' = s.w) (fun a' => ∀ w', (∃ s : Kw V, w' = s.w) → wpList P l.toArray (onlyN Q) (l.drop n) a' w') (l.take n) a) : (Code.region id l.toArray true).wp P Q a V :=
  wp_region_tail (fun w' => ∃ s : Kw V, w' = s.w) n hm hB (kw_drew V) h
theorem regionIn_kw {P : Program} {Q : Exit → Act → World → Prop} {lp m : Nat} {id : Nat} {a : Act} {V : World} {l : List Oper} (n : Nat) (hm : P.follows .mixedOrders = true) (hd : noDefer l = true) (hB : Region.lexTailB .any l.toArray n = true)
    (h : wpQuiet P l.toArray (fun w' => ∃ s : Kw V, w' = s.w) (fun a' => ∀ w', (∃ s : Kw V, w' = s.w) → wpList P l.toArray (onlyN Q) (l.drop n) a' w') (l.take n) a) : (Code.region id l.toArray true).wpIn (Fence.wide.inRound lp) m P Q a V :=
  regionIn_qtail (fun w' => ∃ s : Kw V, w' = s.w) n hm hd hB (kw_drew V) h
/-- a region without a tail. -/
theorem wp_region_kw0 {P : Program} {Q : Exit → Act → World → Prop} {id : Nat} {a : Act} {V : World} {l : List Oper} (hm : P.follows .mixedOrders = true) (hB : Region.lexB .any l.toArray = true)
    (h : wpQuiet P l.toArray (fun w' => ∃ s : Kw V, w' = s.w) (fun a' => ∀ w', (∃ s : Kw V, w' = s.w) → Q .normal a' w') l a) : (Code.region id l.toArray true).wp P Q a V :=
  wp_region_quiet (C := fun w' => ∃ s : Kw V, w' = s.w) hm hB (kw_drew V) (by simpa using h)
end Go.Proofs.YtmjfkdpaeenfgaaGreatDoor

/-
  The small functions of filt's text: end, piece, has, upTo, and reader.take. Conditions: the bounds that each names.
-/
namespace Go.Proofs.YtmjfkdpaeenfgaaGreatDoor.F
open Go Go.RowKit Go.Shelf Fp
open Go.Proofs.YtmjfkdpaeenfgaaGreatDoor.D (hide unhide ext_list)
attribute [local go_sem] Oper.semAt_some

/-- a text, as filt has it. -/
abbrev tv (s : ByteArray) : Value := .agg #[.string s]
theorem end_any (s : ByteArray) (w : World) : Calls Tryz.prog 57 #[tv s] w fun e w' => e = .returned (.int .i64 s.size) ∧ Below w.heap.size w w' := by
  go_enter Tryz.func57, Tryz.ntmps57
  go_wp2
  go_ret
  exact ⟨rfl, (Below.refl _ _).alloc (Nat.le_refl _) _⟩
set_option maxRecDepth 100000 in
set_option maxHeartbeats 1000000 in
theorem piece_any (s : ByteArray) (p q : Nat) (w : World) (hs : s.size ≤ 100000000) (hp : p ≤ q) :
    Calls Tryz.prog 113 #[tv s, .int .i64 (p : Int), .int .i64 (q : Int)] w fun e w' => e = .returned (.string (s.extract (min (p : Int) s.size).toNat (min (q : Int) s.size).toNat)) ∧ Below w.heap.size w w' := by
  obtain ⟨V, hV⟩ : ∃ V, V = w.alloc (.cells #[.string s] 81) := ⟨_, rfl⟩
  have HC := hide fun (m : Kw V) => m.call (end_any s m.w)
  have hmx : Tryz.prog.follows .mixedOrders = true := by kernel_rfl
  have h1 : (0 : Int) ≤ min (p : Int) s.size := by omega
  have h2 : min (p : Int) s.size ≤ min (q : Int) s.size := by omega
  have h3 : min (q : Int) s.size ≤ s.size := by omega
  have h4 : (s.size : Int) ≤ 100000000 := by omega
  have c0 : V.cell? ⟨w.heap.size, 0, none⟩ = some (.string s) := by rw [hV, World.cell?_alloc_at _ _ _ _ rfl]; rfl
  have q0 := fun z : Kw V => Kw.cell z c0 (D.lt_cell c0)
  have hne : Nonempty (Kw V) := kwNonempty V
  have HB0 : Hid (Below w.heap.size w V) := by rw [hV]; exact (Below.refl _ _).alloc (Nat.le_refl _) _
  have HVw := hide hV
  clear hV c0 hs hp
  go_enter Tryz.func113, Tryz.ntmps113
  go_wp2_with fail
  rw [← unhide HVw]
  refine wp_region_kw 11 (by kernel_rfl) (by kernel_rfl) ?_
  simp only [List.take_succ_cons, List.take_zero, List.drop_succ_cons, List.drop_zero]
  repeat (go_big_quiet_step (first | with_reducible exact (unhide HC) _))
  refine wpQuiet_nil ?_
  rintro w' ⟨z, rfl⟩
  go_wp2
  simp only [onlyN]
  go_wp2
  go_ret
  exact ⟨rfl, (unhide HB0).trans (z.b.mono (unhide HB0).size)⟩
/-- does the sign c stand at p? -/
def at1 (s : ByteArray) (p : Nat) (c : UInt8) : Bool := decide ((s.data.toList.drop p).head? = some c)
theorem ext_one (s : ByteArray) (p : Nat) (c : UInt8) : ((s.extract (min (p : Int) s.size).toNat (min ((p : Int) + 1) s.size).toNat).toList == [c]) = at1 s p c := by
  have hz : s.size = s.data.toList.length := (Array.length_toList).symm
  rw [ByteArray.toList_eq, ext_list, hz]
  unfold at1
  generalize s.data.toList = l
  by_cases h : p < l.length
  · rw [show (min (p : Int) l.length).toNat = p by omega, show (min ((p : Int) + 1) l.length).toNat = p + 1 by omega]
    have e : (l.take (p + 1)).drop p = [l[p]] := by
      rw [List.take_succ_eq_append_getElem h, List.drop_append]
      simp [Nat.min_eq_left (Nat.le_of_lt h)]
    rw [e, List.drop_eq_getElem_cons h, List.head?_cons]
    by_cases hc : l[p] = c
    · rw [hc]; simp
    · simp [hc]
  · rw [show (min (p : Int) l.length).toNat = l.length by omega, show (min ((p : Int) + 1) l.length).toNat = l.length by omega, List.drop_eq_nil_of_le (Nat.le_of_not_lt h)]
    simp
set_option maxRecDepth 100000 in
set_option maxHeartbeats 1000000 in
theorem has_any (s : ByteArray) (p : Nat) (c : UInt8) (w : World) (hs : s.size ≤ 100000000) (hp : p ≤ 100000000) :
    Calls Tryz.prog 112 #[tv s, .int .i64 (p : Int), .string ⟨#[c]⟩] w fun e w' => e = .returned (.bool (at1 s p c)) ∧ Below w.heap.size w w' := by
  have HP := hide fun W => piece_any s p (p + 1) W hs (by omega)
  have hx := ext_one s p c
  have hc1 : ((⟨#[c]⟩ : ByteArray).size : Int) = 1 := rfl
  have hl : (⟨#[c]⟩ : ByteArray).toList = [c] := by rw [ByteArray.toList_eq]
  rw [show ((p + 1 : Nat) : Int) = (p : Int) + 1 by omega] at HP
  have hp2 : (p : Int) ≤ 100000000 := by omega
  generalize s.extract (min (p : Int) s.size).toNat (min ((p : Int) + 1) s.size).toNat = u at *
  generalize at1 s p c = b at *
  clear hs hp
  go_enter Tryz.func112, Tryz.ntmps112
  go_wp2_with fail
  refine ((unhide HP) _).mono ?_
  rintro e w1 ⟨rfl, hb⟩
  have HB := hide (((Below.refl w.heap.size w).alloc (Nat.le_refl _) (.cells #[.string s] 81)).trans (hb.mono (by simp)))
  clear hb HP
  go_wp2
  go_ret
  exact ⟨rfl, unhide HB⟩
theorem upTo_any (s : ByteArray) (p : Nat) (c : UInt8) (w : World) (hs : s.size ≤ 100000000) (hp : p ≤ s.size) :
    Calls Tryz.prog 126 #[tv s, .int .i64 (p : Int), .string ⟨#[c]⟩] w fun e w' => (match cutB c (s.data.toList.drop p) with
      | none => e = .returned (.tuple #[.string (s.extract p s.size), .bool false])
      | some (a, _) => e = .returned (.tuple #[.string ⟨a.toArray⟩, .bool true])) ∧ Below w.heap.size w w' := by
  have hz : (s.extract p s.size).data.toList = s.data.toList.drop p := by
    rw [ext_list, show s.size = s.data.toList.length from (Array.length_toList).symm, List.take_length]
  have hz2 : (s.extract p s.size).size ≤ 100000000 := by rw [ByteArray.size_extract]; omega
  have hp2 : (p : Int) ≤ s.size := by omega
  have hs2 : (s.size : Int) ≤ 100000000 := by omega
  cases h : cutB c (s.data.toList.drop p) with
  | none =>
    have H := hide fun W => cut_none c (s.extract p s.size) W (by rw [hz]; exact h)
    generalize hu : s.extract p s.size = u at *
    clear hz hz2 h hs hp
    simp only
    go_enter Tryz.func126, Tryz.ntmps126
    go_wp2_with fail
    refine ((unhide H) _).mono ?_
    rintro e w1 ⟨rfl, hb⟩
    have HB := hide (((Below.refl w.heap.size w).alloc (Nat.le_refl _) (.cells #[.string s] 81)).trans (hb.mono (by simp)))
    clear hb H
    go_wp2
    go_ret2
    exact ⟨rfl, unhide HB⟩
  | some q =>
    obtain ⟨a, t⟩ := q
    have H := hide fun W => cut_some c (s.extract p s.size) a t W hz2 (by rw [hz]; exact h)
    generalize hu : s.extract p s.size = u at *
    clear hz hz2 h hs hp
    simp only
    generalize (⟨a.toArray⟩ : ByteArray) = ka at *
    generalize (⟨t.toArray⟩ : ByteArray) = kt at *
    go_enter Tryz.func126, Tryz.ntmps126
    go_wp2_with fail
    refine ((unhide H) _).mono ?_
    rintro e w1 ⟨rfl, hb⟩
    have HB := hide (((Below.refl w.heap.size w).alloc (Nat.le_refl _) (.cells #[.string s] 81)).trans (hb.mono (by simp)))
    clear hb H
    go_wp2
    go_ret2
    exact ⟨rfl, unhide HB⟩
/-- block R is the reader of s, at place p. -/
structure RAt (W : World) (R : Nat) (s : ByteArray) (kb p : Nat) : Prop where
  blk : W.heap[R]? = some (.cells #[.string s, .int .i64 (p : Int), .map (some kb)] 85 (0, 0))
theorem RAt.cells {W : World} {R kb p : Nat} {s : ByteArray} (h : RAt W R s kb p) : (W.cell? ⟨R, 0, none⟩ = some (.string s) ∧ W.cell? ⟨R, 1, none⟩ = some (.int .i64 (p : Int)) ∧ W.cell? ⟨R, 2, none⟩ = some (.map (some kb))) ∧ W.frozen? ⟨R, 1, none⟩ = false := by
  obtain ⟨h⟩ := h
  refine ⟨⟨?_, ?_, ?_⟩, ?_⟩ <;> simp [World.cell?, World.frozen?, h]
theorem RAt.lt {W : World} {R kb p : Nat} {s : ByteArray} (h : RAt W R s kb p) : R < W.heap.size := (Array.getElem?_eq_some_iff.1 h.blk).1
theorem RAt.below {W W' : World} {R kb p : Nat} {s : ByteArray} (h : RAt W R s kb p) (hb : Below W.heap.size W W') : RAt W' R s kb p := ⟨(hb.block _ h.lt).trans h.blk⟩
theorem RAt.but {W W' : World} {R kb p b : Nat} {s : ByteArray} (h : RAt W R s kb p) (hb : But b W W') (hne : b ≠ R) : RAt W' R s kb p := ⟨(hb.block _ h.lt (Ne.symm hne)).trans h.blk⟩
theorem RAt.set {W : World} {R kb p : Nat} {s : ByteArray} (h : RAt W R s kb p) (q : Nat) : RAt (W.setCell ⟨R, 1, none⟩ (.int .i64 (q : Int))) R s kb q := ⟨heap_set W R 1 _ _ _ h.blk⟩
set_option maxRecDepth 100000 in
set_option maxHeartbeats 1000000 in
theorem take_any (s : ByteArray) (R kb p : Nat) (c : UInt8) (w : World) (hs : s.size ≤ 100000000) (hp : p ≤ s.size) (hR : RAt w R s kb p) :
    Calls Tryz.prog 90 #[.pointer (some ⟨R, 0, none⟩), .string ⟨#[c]⟩] w fun e w' => e = .returned (.bool (at1 s p c)) ∧ But R w w' ∧ RAt w' R s kb (if at1 s p c = true then p + 1 else p) := by
  have HC := hide fun (m : Kw w) => m.call (has_any s p c m.w hs (by omega))
  obtain ⟨⟨c0, c1, c2⟩, _⟩ := hR.cells
  have q0 := fun z : Kw w => Kw.cell z c0 (D.lt_cell c0)
  have q1 := fun z : Kw w => Kw.cell z c1 (D.lt_cell c1)
  have hne : Nonempty (Kw w) := kwNonempty w
  have hmx : Tryz.prog.follows .mixedOrders = true := by kernel_rfl
  have hc1 : ((⟨#[c]⟩ : ByteArray).size : Int) = 1 := rfl
  have HR := hide hR
  have h4 : (p : Int) ≤ 100000000 := by omega
  cases hb : at1 s p c with
  | false =>
    rw [hb] at HC
    clear hs hp hR c0 c1 c2 hb
    go_enter Tryz.func90, Tryz.ntmps90
    go_wp2_with fail
    refine wp_region_kw0 (by kernel_rfl) (by kernel_rfl) ?_
    repeat (go_big_quiet_step (first | with_reducible exact (unhide HC) _))
    refine wpQuiet_nil ?_
    rintro w' ⟨z, rfl⟩
    clear q0 q1
    go_wp2
    go_ret
    exact ⟨rfl, But.of_below z.b, (unhide HR).below z.b⟩
  | true =>
    rw [hb] at HC
    clear hs hp hR c0 c1 c2 hb
    go_enter Tryz.func90, Tryz.ntmps90
    go_wp2_with fail
    refine wp_region_kw0 (by kernel_rfl) (by kernel_rfl) ?_
    repeat (go_big_quiet_step (first | with_reducible exact (unhide HC) _))
    refine wpQuiet_nil ?_
    rintro w' ⟨z, rfl⟩
    have hR2 := (unhide HR).below z.b
    obtain ⟨⟨c0, c1, c2⟩, f1⟩ := hR2.cells
    have HR2 := hide hR2
    clear q0 q1 hR2
    go_wp2
    go_ret
    refine ⟨rfl, (But.of_below z.b).setCell _ _, ?_⟩
    exact (unhide HR2).set (p + 1)
end Go.Proofs.YtmjfkdpaeenfgaaGreatDoor.F

/-
  What dn.isNumbers and dn.IsType answer. Conditions: none.
-/
namespace Go.Proofs.YtmjfkdpaeenfgaaGreatDoor.D
open Go Go.RowKit Go.Shelf Dp
attribute [local go_sem] Oper.semAt_some

/-- what lies in memory while the pieces are gone through: the answer's cell, the cutter's two boxes, the count. -/
structure Nin (s : ByteArray) (n : Nat) (w W : World) : Prop where
  br : W.heap[w.heap.size]? = some (.cells #[.bool false] 4)
  bn : W.heap[w.heap.size + 2]? = some (.cells #[.int .i64 (n : Int)] 3)
  bel : Below w.heap.size w W
  size : w.heap.size + 4 ≤ W.heap.size
theorem Nin.cl {s : ByteArray} {n : Nat} {w W : World} (h : Nin s n w W) : W.cell? ⟨w.heap.size, 0, none⟩ = some (.bool false) ∧ W.cell? ⟨w.heap.size + 2, 0, none⟩ = some (.int .i64 (n : Int)) ∧ W.frozen? ⟨w.heap.size, 0, none⟩ = false ∧ W.frozen? ⟨w.heap.size + 2, 0, none⟩ = false := by
  have h1 := h.br
  have h2 := h.bn
  simp [World.cell?, World.frozen?, h1, h2]
theorem Nin.grown {s : ByteArray} {n : Nat} {w W W' : World} {row : Option Nat} (h : Nin s n w W) (hg : W.grownBy W' row) (hr : ∀ r, row = some r → w.heap.size + 4 ≤ r) : Nin s n w W' := by
  have hz := h.size
  have hk : ∀ k, k < w.heap.size + 4 → W'.heap[k]? = W.heap[k]? := fun k hk => hg.block k (by omega) (fun e => by have := hr k e.symm; omega)
  exact ⟨(hk _ (by omega)).trans h.br, (hk _ (by omega)).trans h.bn, ⟨hg.os.trans h.bel.os, hg.tape.trans h.bel.tape, hg.output.trans h.bel.output, Nat.le_trans h.bel.size hg.size, fun k hk' => (hk k (by omega)).trans (h.bel.block k hk')⟩, Nat.le_trans hz hg.size⟩
theorem Nin.set {s : ByteArray} {n : Nat} {w W : World} (h : Nin s n w W) (m : Nat) : Nin s m w (W.setCell ⟨w.heap.size + 2, 0, none⟩ (.int .i64 (m : Int))) := by
  have o : ∀ k, k ≠ w.heap.size + 2 → (W.setCell ⟨w.heap.size + 2, 0, none⟩ (.int .i64 (m : Int))).heap[k]? = W.heap[k]? := fun k hk => Below.heap_setCell _ _ _ _ hk
  exact ⟨(o _ (by omega)).trans h.br, heap_setCell_same W _ 0 _ _ _ h.bn, h.bel.setCell (by show w.heap.size ≤ w.heap.size + 2; omega) _, by simp; exact h.size⟩
theorem Nin.setR {s : ByteArray} {n : Nat} {w W : World} (h : Nin s n w W) : Nin s n w (W.setCell ⟨w.heap.size, 0, none⟩ (.bool false)) := by
  have o : ∀ k, k ≠ w.heap.size → (W.setCell ⟨w.heap.size, 0, none⟩ (.bool false)).heap[k]? = W.heap[k]? := fun k hk => Below.heap_setCell _ _ _ _ hk
  exact ⟨heap_setCell_same W _ 0 _ _ _ h.br, (o _ (by omega)).trans h.bn, h.bel.setCell (Nat.le_refl _) _, by simp; exact h.size⟩
/-- what a round keeps for others. -/
def Kn (w W W' : World) : Prop := KeepsOthers W W' ∧ C.Two (w.heap.size + 3) (w.heap.size + 3) W W'
theorem Kn.set (w W : World) (v : Value) (i : Nat) (hi : i ≠ 3) : Kn w W (W.setCell ⟨w.heap.size + i, 0, none⟩ v) :=
  ⟨KeepsOthers.setCell _ _ _, Below.heap_setCell _ _ _ _ (by show w.heap.size + 3 ≠ w.heap.size + i; omega), Below.heap_setCell _ _ _ _ (by show w.heap.size + 3 ≠ w.heap.size + i; omega)⟩
def ninv (s : ByteArray) (w : World) (pre : List (It fun _ => True)) (W : World) : Prop := (∀ x ∈ pre, num (x.1.g s).data.toList = true) ∧ Nin s pre.length w W
def nout (s : ByteArray) (w : World) (cd : Code) (pre : List (It fun _ => True)) (W : World) : Prop := cd = .ret ∧ (∃ x ∈ pre, num (x.1.g s).data.toList = false) ∧ ∃ n, Nin s n w W
theorem ext_small (s : ByteArray) (a b : Nat) : (s.extract a b).size ≤ s.size := by rw [ByteArray.size_extract]; omega

theorem finN {w V : World} {D : Nat} {tmps : Array Value} {b : Bool} {R : Ending → World → Prop} (hV : V.heap[D]? = some (.deferred (some []))) (hD : w.heap.size + 4 ≤ D) (hb : Below w.heap.size w V) (t2 : tmps.getD 2 undef = .pointer (some ⟨w.heap.size, 0, none⟩)) (hc : V.cell? ⟨w.heap.size, 0, none⟩ = some (.bool b))
    (hp : ∀ V', Below w.heap.size w V' → R (.returned (.bool b)) V') :
    bodyPostM Fence.wide 3 Tryz.prog Tryz.f96 R Exit.ret { tmps, defers := [{ target := .collected D, args := #[] }] } V := by
  refine ⟨by simp, .inl ⟨_, _, rfl, run_takeDeferred hV, ?_⟩⟩
  refine ⟨.bool b, ?_, hp _ (C.putObj_below hb (by omega))⟩
  have hc' : (V.putObj D (.deferred none)).cell? ⟨w.heap.size, 0, none⟩ = some (.bool b) := by
    rw [World.cell?_of_block (w := V) (a := ⟨w.heap.size, 0, none⟩) (World.putObj_heap_other (by show w.heap.size ≠ D; omega))]
    exact hc
  have t2' : tmps[2]?.getD undef = .pointer (some ⟨w.heap.size, 0, none⟩) := by simpa using t2
  simp [results, Tryz.results96, go_sem, t2', hc']

set_option maxRecDepth 100000 in
set_option maxHeartbeats 2000000 in
theorem isNumbers_any (s : ByteArray) (w : World) (hs : s.size ≤ 1000) :
    Calls Tryz.prog 96 #[.string s] w fun e w' => e = .returned (.bool (nums s.data.toList)) ∧ Below w.heap.size w w' := by
  refine (callsIn_wide (n := 3)).1 ?_
  refine callsIn_of_wp_marks Tryz.func96 rfl trivial ?_ rfl
  simp only [Tryz.ntmps96, List.size_toArray, List.length_cons, List.length_nil, Nat.reduceAdd, Nat.reduceSub, Array.replicate_succ, Array.replicate_zero, List.push_toArray, List.append_toArray, List.nil_append, List.cons_append]
  refine wpIn_wide.2 ?_
  go_wp2_with fail
  refine (pieces_any s 46 _).mono ?_
  rintro e w' ⟨rfl, rfl⟩
  go_wp2
  obtain ⟨W0, hW0⟩ : ∃ W0, W0 = (((w.alloc (.cells #[.bool false] 4)).alloc (.cells #[.string s, .int .u8 46] 188)).alloc (.cells #[.int .i64 0] 3)).alloc (cb s 46) := ⟨_, rfl⟩
  have hz : W0.heap.size = w.heap.size + 4 := by rw [hW0]; simp
  have hSt : Nin s 0 w W0 := by
    rw [hW0]
    refine ⟨?_, ?_, ?_, by simp⟩
    · rw [Below.heap_alloc _ _ _ (by simp <;> omega), Below.heap_alloc _ _ _ (by simp <;> omega), Below.heap_alloc _ _ _ (by simp)]; exact World.alloc_heap_new _ _
    · rw [Below.heap_alloc _ _ _ (by simp <;> omega)]; have := World.alloc_heap_new ((w.alloc (.cells #[.bool false] 4)).alloc (.cells #[.string s, .int .u8 46] 188)) (.cells #[.int .i64 0] 3); rwa [World.size_alloc, World.size_alloc] at this
    · repeat (refine Below.alloc ?_ (by simp <;> omega) _)
      exact Below.refl _ _
  have hBs : W0.cell? ⟨w.heap.size + 3, 0, none⟩ = some (.string s) ∧ W0.cell? ⟨w.heap.size + 3, 1, none⟩ = some (.int .u8 ((46 : UInt8).toNat : Int)) := by
    rw [hW0, World.cell?_alloc_at _ _ _ _ (by simp), World.cell?_alloc_at _ _ _ _ (by simp)]
    exact ⟨rfl, rfl⟩
  rw [← hW0]
  clear hW0
  refine (wpIn_wide (n := 3)).1 ?_
  refine wpIn_rangeFunc_ownF rfl (by omega) (gf := 137) (lb := #[.pointer (some ⟨w.heap.size + 3, 0, none⟩)]) rfl trivial (enters_of Tryz.func137 (by kernel_rfl) rfl)
    (pieces1_stops (fun _ => True) (3 - 1) (by omega) (w.heap.size + 3) s 46 W0 (by omega) (fun _ _ => trivial) hBs.1 hBs.2) C.Two.trans (fun W l o o' hl h1 h2 h3 => C.Two.book (w := W0) (by omega) (by omega) W l o o' hl h1 h2 h3) (Below.refl _ _) (fun _ => rfl)
    (ninv s w) (nout s w)
    (fun pre A B' row hs hg hr => ⟨hs.1, hs.2.grown hg (fun r e => by have := (hr r e).1; omega)⟩)
    (fun cd pre A B' row hs hg hr => ⟨hs.1, hs.2.1, let ⟨n, h⟩ := hs.2.2; ⟨n, h.grown hg (fun r e => by have := (hr r e).1; omega)⟩⟩)
    ⟨by simp, hSt⟩
    (fun x => { tmps := #[.string s, undef, .pointer (some ⟨w.heap.size, 0, none⟩), .pointer (some ⟨w.heap.size + 1, 0, none⟩), .pointer (some ⟨w.heap.size + 1 + 1, 0, none⟩), undef, .string (x.1.g s), .string s, .agg #[.string s], .agg #[.string s, .int .u8 46], .agg #[.string s, .int .u8 46], .func (.func 137) #[] #[.pointer (some ⟨w.heap.size + 1 + 1 + 1, 0, none⟩)], .int .i64 x.1.i, .string (x.1.g s), undef, undef, undef, undef, undef, undef, undef], defers := [] }) ?assign ?body ?done ?stop
  case assign =>
    intro l x W K hK
    gi_wp2
    exact hK
  case body =>
    rintro l pre x W ⟨hall, hin⟩ hN
    go_light
    have hsm := ext_small s x.1.fr x.1.to
    have H := isNumber_any (x.1.g s) W (by show (s.extract x.1.fr x.1.to).size ≤ 1000; omega)
    obtain ⟨c0, c1, f0, f1⟩ := hin.cl
    have hpl : (pre.length : Int) ≤ 2000 := by omega
    cases hb : num (x.1.g s).data.toList
    · rw [hb] at H
      have H' := hide H
      have Hin := hide hin
      have Hb := hide hb
      clear H hin hb hN hSt hBs hz hsm hall
      gi_wp2_with fail
      refine ⟨trivial, (E.inR (unhide H')).mono ?_⟩
      rintro e w' ⟨rfl, rfl⟩
      gi_wp2
      exact ⟨KeepsOthers.setCell _ _ _, rfl, ⟨x, by simp, unhide Hb⟩, _, (unhide Hin).setR⟩
    · rw [hb] at H
      have H' := hide H
      have Hin := hide hin
      have Hall : Hid (∀ y ∈ pre ++ [x], num (y.1.g s).data.toList = true) := hide (fun y hy => by
        rcases List.mem_append.1 hy with h | h
        · exact hall y h
        · rw [List.mem_singleton.1 h]; exact hb)
      clear H hin hb hN hSt hBs hz hsm hall
      gi_wp2_with fail
      refine ⟨trivial, (E.inR (unhide H')).mono ?_⟩
      rintro e w' ⟨rfl, rfl⟩
      gi_wp2
      refine ⟨KeepsOthers.setCell _ _ _, ⟨Below.heap_setCell _ _ _ _ (by show w.heap.size + 3 ≠ w.heap.size + 1 + 1; omega), Below.heap_setCell _ _ _ _ (by show w.heap.size + 3 ≠ w.heap.size + 1 + 1; omega)⟩, unhide Hall, ?_⟩
      have := (unhide Hin).set (pre.length + 1)
      rw [List.length_append]
      exact this
  case done =>
    rintro D ys W hD hys ⟨hall, hin⟩ hK
    have hys : vals ys = pks s 46 := hys
    obtain ⟨c0, c1, f0, f1⟩ := hin.cl
    have HK := hide hK
    have Hin := hide hin
    clear hK hin hSt hBs
    go_wp2
    have hbb : decide ((1 : Int) < ys.length) = nums s.data.toList := by
      have he := pks_pcs s 46 (by decide)
      unfold nums
      rw [← he, ← hys, vals, List.length_map, List.length_map, Bool.eq_iff_iff, Bool.and_eq_true, List.all_eq_true]
      simp only [decide_eq_true_eq]
      constructor
      · intro h
        refine ⟨by omega, fun l hl => ?_⟩
        obtain ⟨x, hx, rfl⟩ := List.mem_map.1 hl
        obtain ⟨y, hy, rfl⟩ := List.mem_map.1 hx
        exact hall y hy
      · intro h
        have := h.1
        omega
    rw [hbb]
    refine finN (b := nums s.data.toList) ((Below.heap_setCell _ _ _ _ (by show D ≠ w.heap.size; omega)).trans (unhide HK)) (by omega) ((unhide Hin).bel.setCell (Nat.le_refl _) _) rfl ?_ fun V' hb => ⟨rfl, hb⟩
    have := heap_setCell_same W _ 0 _ _ (.bool (nums s.data.toList)) (unhide Hin).br
    simp [World.cell?, this]
  case stop =>
    rintro D cd pre W hD hpre ⟨rfl, hno, n, hin⟩ hK
    have hbb : nums s.data.toList = false := by
      have he := pks_pcs s 46 (by decide)
      obtain ⟨x, hx, hn⟩ := hno
      unfold nums
      rw [← he, Bool.and_eq_false_iff]
      right
      rw [List.all_eq_false]
      obtain ⟨t, ht⟩ := hpre
      exact ⟨_, List.mem_map.2 ⟨x.1, by rw [← ht]; exact List.mem_append_left _ (List.mem_map_of_mem hx), rfl⟩, by rw [hn]; simp⟩
    obtain ⟨c0, c1, f0, f1⟩ := hin.cl
    have HK := hide hK
    have Hin := hide hin
    clear hK hin hSt hBs hno hpre
    gi_wp2
    rw [hbb]
    exact finN (b := false) (unhide HK) (by omega) (unhide Hin).bel rfl c0 fun V' hb => ⟨rfl, hb⟩
theorem isType_any (s : ByteArray) (w : World) (hs : s.size ≤ 1000) :
    Calls Tryz.prog 66 #[.string s] w fun e w' => e = .returned (.bool (isTy s)) ∧ Below w.heap.size w w' := by
  have H1 := hide fun W => isWord_any s W hs
  have H2 := hide fun W => isNumbers_any s W hs
  have hl : s.data.toList.length = s.size := Array.length_toList
  unfold isTy tyL
  rw [hl]
  clear hl
  by_cases h : s.size ≤ 20
  · have h' : (s.size : Int) ≤ 20 := by omega
    rw [decide_eq_true h, Bool.true_and]
    generalize nums s.data.toList = b2 at *
    generalize word s.data.toList = b1 at *
    cases b1
    · go_enter Tryz.func66, Tryz.ntmps66
      go_wp2_with fail
      refine ((unhide H1) _).mono ?_
      rintro e w1 ⟨rfl, rfl⟩
      go_wp2_with fail
      refine ((unhide H2) _).mono ?_
      rintro e w2 ⟨rfl, hb⟩
      have HB := hide hb
      clear hb
      go_wp2
      go_ret
      exact ⟨rfl, unhide HB⟩
    · go_enter Tryz.func66, Tryz.ntmps66
      go_wp2_with fail
      refine ((unhide H1) _).mono ?_
      rintro e w1 ⟨rfl, rfl⟩
      go_wp2
      go_ret
      exact ⟨rfl, Below.refl _ _⟩
  · have h' : ¬ (s.size : Int) ≤ 20 := by omega
    rw [decide_eq_false h, Bool.false_and]
    go_enter Tryz.func66, Tryz.ntmps66
    go_wp2
    go_ret
    exact ⟨rfl, Below.refl _ _⟩
end Go.Proofs.YtmjfkdpaeenfgaaGreatDoor.D

/-
  What filt.inOption, isOption, areOptions, isTypeWithOptions and IsName answer. Conditions: the text has at most 100000000 bytes.
-/
namespace Go.Proofs.YtmjfkdpaeenfgaaGreatDoor.F
open Go Go.RowKit Go.Shelf Fp
open Go.Proofs.YtmjfkdpaeenfgaaGreatDoor.D (hide unhide ext_list drop_at drop_out beq_int finN)
attribute [local go_sem] Oper.semAt_some

theorem inOption_0 (x : UInt8) (w : World) (_h0 : 65 ≤ x.toNat) (_h1 : x.toNat ≤ 90) :
    Calls Tryz.prog 123 #[.int .u8 x.toNat] w fun e w' => e = .returned (.bool true) ∧ w' = w := by
  have k0 : 65 ≤ (x.toNat : Int) := by omega
  have k1 : (x.toNat : Int) ≤ 90 := by omega
  clear _h0 _h1
  go_enter Tryz.func123, Tryz.ntmps123
  go_wp2
  go_ret
  exact ⟨rfl, rfl⟩
theorem inOption_1 (x : UInt8) (w : World) (_h0 : 65 ≤ x.toNat) (_h1 : ¬ x.toNat ≤ 90) (_h2 : 97 ≤ x.toNat) (_h3 : x.toNat ≤ 122) :
    Calls Tryz.prog 123 #[.int .u8 x.toNat] w fun e w' => e = .returned (.bool true) ∧ w' = w := by
  have k0 : 65 ≤ (x.toNat : Int) := by omega
  have k1 : ¬ (x.toNat : Int) ≤ 90 := by omega
  have k2 : 97 ≤ (x.toNat : Int) := by omega
  have k3 : (x.toNat : Int) ≤ 122 := by omega
  clear _h0 _h1 _h2 _h3
  go_enter Tryz.func123, Tryz.ntmps123
  go_wp2
  go_ret
  exact ⟨rfl, rfl⟩
theorem inOption_2 (x : UInt8) (w : World) (_h0 : 65 ≤ x.toNat) (_h1 : ¬ x.toNat ≤ 90) (_h2 : 97 ≤ x.toNat) (_h3 : ¬ x.toNat ≤ 122) (_h4 : 48 ≤ x.toNat) (_h5 : ¬ x.toNat ≤ 57) (_h6 : ¬ x.toNat = 45) :
    Calls Tryz.prog 123 #[.int .u8 x.toNat] w fun e w' => e = .returned (.bool false) ∧ w' = w := by
  have k0 : 65 ≤ (x.toNat : Int) := by omega
  have k1 : ¬ (x.toNat : Int) ≤ 90 := by omega
  have k2 : 97 ≤ (x.toNat : Int) := by omega
  have k3 : ¬ (x.toNat : Int) ≤ 122 := by omega
  have k4 : 48 ≤ (x.toNat : Int) := by omega
  have k5 : ¬ (x.toNat : Int) ≤ 57 := by omega
  have k6 : ((x.toNat : Int) == 45) = false := by simp; omega
  clear _h0 _h1 _h2 _h3 _h4 _h5 _h6
  go_enter Tryz.func123, Tryz.ntmps123
  go_wp2
  go_ret
  exact ⟨rfl, rfl⟩
theorem inOption_3 (x : UInt8) (w : World) (_h0 : 65 ≤ x.toNat) (_h1 : ¬ x.toNat ≤ 90) (_h2 : ¬ 97 ≤ x.toNat) (_h3 : 48 ≤ x.toNat) (_h4 : ¬ x.toNat ≤ 57) (_h5 : ¬ x.toNat = 45) :
    Calls Tryz.prog 123 #[.int .u8 x.toNat] w fun e w' => e = .returned (.bool false) ∧ w' = w := by
  have k0 : 65 ≤ (x.toNat : Int) := by omega
  have k1 : ¬ (x.toNat : Int) ≤ 90 := by omega
  have k2 : ¬ 97 ≤ (x.toNat : Int) := by omega
  have k3 : 48 ≤ (x.toNat : Int) := by omega
  have k4 : ¬ (x.toNat : Int) ≤ 57 := by omega
  have k5 : ((x.toNat : Int) == 45) = false := by simp; omega
  clear _h0 _h1 _h2 _h3 _h4 _h5
  go_enter Tryz.func123, Tryz.ntmps123
  go_wp2
  go_ret
  exact ⟨rfl, rfl⟩
theorem inOption_4 (x : UInt8) (w : World) (_h0 : ¬ 65 ≤ x.toNat) (_h1 : ¬ 97 ≤ x.toNat) (_h2 : 48 ≤ x.toNat) (_h3 : x.toNat ≤ 57) :
    Calls Tryz.prog 123 #[.int .u8 x.toNat] w fun e w' => e = .returned (.bool true) ∧ w' = w := by
  have k0 : ¬ 65 ≤ (x.toNat : Int) := by omega
  have k1 : ¬ 97 ≤ (x.toNat : Int) := by omega
  have k2 : 48 ≤ (x.toNat : Int) := by omega
  have k3 : (x.toNat : Int) ≤ 57 := by omega
  clear _h0 _h1 _h2 _h3
  go_enter Tryz.func123, Tryz.ntmps123
  go_wp2
  go_ret
  exact ⟨rfl, rfl⟩
theorem inOption_5 (x : UInt8) (w : World) (_h0 : ¬ 65 ≤ x.toNat) (_h1 : ¬ 97 ≤ x.toNat) (_h2 : 48 ≤ x.toNat) (_h3 : ¬ x.toNat ≤ 57) (_h4 : ¬ x.toNat = 45) :
    Calls Tryz.prog 123 #[.int .u8 x.toNat] w fun e w' => e = .returned (.bool false) ∧ w' = w := by
  have k0 : ¬ 65 ≤ (x.toNat : Int) := by omega
  have k1 : ¬ 97 ≤ (x.toNat : Int) := by omega
  have k2 : 48 ≤ (x.toNat : Int) := by omega
  have k3 : ¬ (x.toNat : Int) ≤ 57 := by omega
  have k4 : ((x.toNat : Int) == 45) = false := by simp; omega
  clear _h0 _h1 _h2 _h3 _h4
  go_enter Tryz.func123, Tryz.ntmps123
  go_wp2
  go_ret
  exact ⟨rfl, rfl⟩
theorem inOption_6 (x : UInt8) (w : World) (_h0 : ¬ 65 ≤ x.toNat) (_h1 : ¬ 97 ≤ x.toNat) (_h2 : ¬ 48 ≤ x.toNat) (_h3 : x.toNat = 45) :
    Calls Tryz.prog 123 #[.int .u8 x.toNat] w fun e w' => e = .returned (.bool true) ∧ w' = w := by
  have k0 : ¬ 65 ≤ (x.toNat : Int) := by omega
  have k1 : ¬ 97 ≤ (x.toNat : Int) := by omega
  have k2 : ¬ 48 ≤ (x.toNat : Int) := by omega
  have k3 : ((x.toNat : Int) == 45) = true := by simp; omega
  clear _h0 _h1 _h2 _h3
  go_enter Tryz.func123, Tryz.ntmps123
  go_wp2
  go_ret
  exact ⟨rfl, rfl⟩
theorem inOption_7 (x : UInt8) (w : World) (_h0 : ¬ 65 ≤ x.toNat) (_h1 : ¬ 97 ≤ x.toNat) (_h2 : ¬ 48 ≤ x.toNat) (_h3 : ¬ x.toNat = 45) :
    Calls Tryz.prog 123 #[.int .u8 x.toNat] w fun e w' => e = .returned (.bool false) ∧ w' = w := by
  have k0 : ¬ 65 ≤ (x.toNat : Int) := by omega
  have k1 : ¬ 97 ≤ (x.toNat : Int) := by omega
  have k2 : ¬ 48 ≤ (x.toNat : Int) := by omega
  have k3 : ((x.toNat : Int) == 45) = false := by simp; omega
  clear _h0 _h1 _h2 _h3
  go_enter Tryz.func123, Tryz.ntmps123
  go_wp2
  go_ret
  exact ⟨rfl, rfl⟩
theorem inOption_any (x : UInt8) (w : World) :
    Calls Tryz.prog 123 #[.int .u8 x.toNat] w fun e w' => e = .returned (.bool (Dp.fit x)) ∧ w' = w := by
  have fx : Dp.fit x = (decide (48 ≤ x.toNat ∧ x.toNat ≤ 57) || decide (x.toNat = 45) || decide (65 ≤ x.toNat ∧ x.toNat ≤ 90 ∨ 97 ≤ x.toNat ∧ x.toNat ≤ 122)) := by
    have : (x == 45) = decide (x.toNat = 45) := by
      rw [Bool.eq_iff_iff, beq_iff_eq, decide_eq_true_eq]
      exact ⟨fun h => by subst h; rfl, fun h => UInt8.toNat_inj.1 h⟩
    unfold Dp.fit Dp.dig Dp.ltr
    rw [this, Bool.eq_iff_iff]
    simp
  have yes : (48 ≤ x.toNat ∧ x.toNat ≤ 57) ∨ x.toNat = 45 ∨ (65 ≤ x.toNat ∧ x.toNat ≤ 90 ∨ 97 ≤ x.toNat ∧ x.toNat ≤ 122) → Dp.fit x = true := fun h => by rw [fx]; simp; omega
  have no : ¬ ((48 ≤ x.toNat ∧ x.toNat ≤ 57) ∨ x.toNat = 45 ∨ (65 ≤ x.toNat ∧ x.toNat ≤ 90 ∨ 97 ≤ x.toNat ∧ x.toNat ≤ 122)) → Dp.fit x = false := fun h => by rw [fx]; simp; omega
  by_cases h1 : 65 ≤ x.toNat
  · by_cases h2 : x.toNat ≤ 90
    · rw [yes (by omega)]; exact inOption_0 x w h1 h2
    by_cases h3 : 97 ≤ x.toNat
    · by_cases h4 : x.toNat ≤ 122
      · rw [yes (by omega)]; exact inOption_1 x w h1 h2 h3 h4
      · rw [no (by omega)]; exact inOption_2 x w h1 h2 h3 h4 (by omega) (by omega) (by omega)
    · rw [no (by omega)]; exact inOption_3 x w h1 h2 h3 (by omega) (by omega) (by omega)
  · by_cases h5 : 48 ≤ x.toNat
    · by_cases h6 : x.toNat ≤ 57
      · rw [yes (by omega)]; exact inOption_4 x w h1 (by omega) h5 h6
      · rw [no (by omega)]; exact inOption_5 x w h1 (by omega) h5 h6 (by omega)
    · by_cases h7 : x.toNat = 45
      · rw [yes (by omega)]; exact inOption_6 x w h1 (by omega) h5 h7
      · rw [no (by omega)]; exact inOption_7 x w h1 (by omega) h5 h7

set_option maxRecDepth 100000 in
theorem isOption_any (s : ByteArray) (w : World) (hs : s.size ≤ 100000000) :
    Calls Tryz.prog 98 #[.string s] w fun e w' => e = .returned (.bool (opt s.data.toList)) ∧ w' = w := by
  have H := hide fun x W => inOption_any x W
  have ho : opt s.data.toList = (s.toList != ([] : List UInt8) && s.data.toList.all Dp.fit) := by rw [ByteArray.toList_eq]; rfl
  rw [ho]
  clear ho
  obtain ⟨r, hr⟩ : ∃ r, s.data.toList.all Dp.fit = r := ⟨_, rfl⟩
  rw [hr]
  have Hr := hide hr
  clear hr
  go_enter Tryz.func98, Tryz.ntmps98
  go_wp2
  go_loopw [6] (fun ix wr => ∃ j : Nat, j ≤ s.size ∧ ix = .int .i64 (j : Int) ∧ Hid ((s.data.toList.drop j).all Dp.fit = r) ∧ wr = w)
    (fun ix _ => s.size - (intOf ix).toNat)
  case atStart => exact ⟨0, Nat.zero_le _, rfl, by rw [List.drop_zero]; exact Hr, rfl⟩
  case round =>
    obtain ⟨j, hj, rfl, hd, rfl⟩ := hrel
    by_cases hlt : j < s.size
    · have hlt' : (j : Int) < s.size := by omega
      have hj' : (j : Int) ≤ 100000000 := by omega
      obtain ⟨b, hb⟩ : ∃ b, Dp.fit s[j] = b := ⟨_, rfl⟩
      have Hc := hide ((unhide H) s[j])
      rw [hb] at Hc
      have Hn : Hid ((b && (s.data.toList.drop (j + 1)).all Dp.fit) = r) := hide (by rw [← hb, ← List.all_cons, ← drop_at hlt]; exact unhide hd)
      obtain ⟨y, hy⟩ : ∃ y, s[j] = y := ⟨_, rfl⟩
      rw [hy] at Hc
      clear hb hd
      cases b
      · obtain rfl : r = false := by rw [← unhide Hn]; rfl
        go_wp2_with fail
        refine ((unhide Hc) _).mono ?_
        rintro e w1 ⟨rfl, rfl⟩
        go_wp2
        go_ret
        rw [Bool.and_false]
        exact ⟨rfl, rfl⟩
      · go_wp2_with fail
        refine ((unhide Hc) _).mono ?_
        rintro e w1 ⟨rfl, rfl⟩
        go_wp2
        go_roundw
        case rel => exact ⟨j + 1, by omega, by simp, by have := unhide Hn; rw [Bool.true_and] at this; exact this, by first | rfl | trivial⟩
        case measure => simp [intOf]; omega
    · have hge : ¬ (j : Int) < s.size := by omega
      have hd := unhide hd
      rw [drop_out hlt] at hd
      obtain rfl : r = true := by rw [← hd]; rfl
      clear hd
      go_wp2
      go_ret
      exact ⟨by show Ending.returned (Value.bool (!s.toList.isEmpty)) = _; cases s.toList <;> rfl, rfl⟩

theorem below_but {n b : Nat} {w A B : World} (h : Below n w A) (k : But b A B) (hn : n ≤ w.heap.size) (hb : n ≤ b) : Below n w B :=
  ⟨k.os.trans h.os, k.tape.trans h.tape, k.output.trans h.output, Nat.le_trans h.size k.size, fun i hi => (k.block i (by have := h.size; omega) (by omega)).trans (h.block i hi)⟩
/-- the answer's box. -/
structure Bx (w : World) (W : World) : Prop where
  b : W.heap[w.heap.size]? = some (.cells #[.bool false] 4 (0, 0))
  bel : Below w.heap.size w W
theorem Bx.but {w A B : World} {b : Nat} (h : Bx w A) (k : But b A B) (hb : w.heap.size < b) : Bx w B :=
  ⟨(k.block _ (Array.getElem?_eq_some_iff.1 h.b).1 (by omega)).trans h.b, below_but h.bel k (Nat.le_refl _) (by omega)⟩
theorem Bx.cell {w W : World} (h : Bx w W) : W.cell? ⟨w.heap.size, 0, none⟩ = some (.bool false) ∧ W.frozen? ⟨w.heap.size, 0, none⟩ = false := by
  constructor <;> simp [World.cell?, World.frozen?, h.b]
theorem finO {w V : World} {D : Nat} {tmps : Array Value} {b : Bool} {R : Ending → World → Prop} (hV : V.heap[D]? = some (.deferred (some []))) (hD : w.heap.size + 4 ≤ D) (hb : Below w.heap.size w V) (t2 : tmps.getD 2 undef = .pointer (some ⟨w.heap.size, 0, none⟩)) (hc : V.cell? ⟨w.heap.size, 0, none⟩ = some (.bool b))
    (hp : ∀ V', Below w.heap.size w V' → R (.returned (.bool b)) V') :
    bodyPostM Fence.wide 7 Tryz.prog Tryz.f67 R Exit.ret { tmps, defers := [{ target := .collected D, args := #[] }] } V := by
  refine ⟨by simp, .inl ⟨_, _, rfl, run_takeDeferred hV, ?_⟩⟩
  refine ⟨.bool b, ?_, hp _ (C.putObj_below hb (by omega))⟩
  have hc' : (V.putObj D (.deferred none)).cell? ⟨w.heap.size, 0, none⟩ = some (.bool b) := by
    rw [World.cell?_of_block (w := V) (a := ⟨w.heap.size, 0, none⟩) (World.putObj_heap_other (by show w.heap.size ≠ D; omega))]
    exact hc
  have t2' : tmps[2]?.getD undef = .pointer (some ⟨w.heap.size, 0, none⟩) := by simpa using t2
  simp [results, Tryz.results67, go_sem, t2', hc']
theorem spb_mem {c : UInt8} {s : ByteArray} (x : ByteArray) (h : x ∈ spb c s) : x.size ≤ s.size ∧ x.data.toList ∈ spl c s.data.toList := by
  unfold spb at h
  obtain ⟨l, hl, rfl⟩ := List.mem_map.1 h
  have h2 := spl_small c _ l hl
  rw [Array.length_toList] at h2
  refine ⟨?_, by simpa using hl⟩
  show l.toArray.size ≤ _
  simpa using h2

set_option maxRecDepth 100000 in
set_option maxHeartbeats 2000000 in
theorem areOptions_any (s : ByteArray) (w : World) (hs : s.size ≤ 100000000) :
    Calls Tryz.prog 67 #[.string s] w fun e w' => e = .returned (.bool ((spl 59 s.data.toList).all opt)) ∧ Below w.heap.size w w' := by
  have hall : (spl 59 s.data.toList).all opt = (spb 59 s).all fun x => opt x.data.toList := by
    unfold spb
    rw [List.all_map]
    rfl
  rw [hall]
  clear hall
  have hb0 : Below w.heap.size w (w.alloc (.cells #[.bool false] 4)) := (Below.refl _ _).alloc (Nat.le_refl _) _
  have HX := hide (World.alloc_heap_new w (.cells #[.bool false] 4))
  have HSp := hide (splitSeq_any 59 s (w.alloc (.cells #[.bool false] 4)))
  refine (callsIn_wide (n := 7)).1 ?_
  refine callsIn_of_wp_marks Tryz.func67 rfl trivial ?_ rfl
  simp only [Tryz.ntmps67, List.size_toArray, List.length_cons, List.length_nil, Nat.reduceAdd, Nat.reduceSub, Array.replicate_succ, Array.replicate_zero, List.push_toArray, List.append_toArray, List.nil_append, List.cons_append]
  refine wpIn_wide.2 ?_
  go_wp2_with fail
  refine (unhide HSp).mono ?_
  rintro e W0 ⟨rfl, hbw, hz, hB3⟩
  have hI0 : Bx w W0 := ⟨(hbw.block _ (by simp)).trans (unhide HX), hb0.trans (hbw.mono (by simp))⟩
  rw [show (w.alloc (.cells #[.bool false] 4)).heap.size = w.heap.size + 1 by simp] at *
  clear HX HSp hbw hb0
  go_wp2
  refine (wpIn_wide (n := 7)).1 ?_
  refine range_own (α := ByteArray) (σ := List ByteArray) (gf := 142) (lb := #[.pointer (some ⟨w.heap.size + 1 + 1, 0, none⟩), .pointer (some ⟨w.heap.size + 1, 0, none⟩), .pointer (some ⟨w.heap.size + 1 + 1 + 1, 0, none⟩)]) rfl (enters_of Tryz.func142 (by kernel_rfl) rfl)
    (fun x => #[.string x]) (fun _ => rfl) (Kpt fun k => w.heap.size + 1 ≤ k ∧ k < w.heap.size + 1 + 3) (But (w.heap.size + 1))
    (fun _ W => Bx w W) (fun cd _ W => cd = .ret ∧ Bx w W) (fun q x _ => q ++ [x] <+: spb 59 s) (fun q x => q ++ [x]) [] (fun q _ => (spb 59 s).all (fun x => opt x.data.toList) = true) (fun _ => (spb 59 s).all (fun x => opt x.data.toList) = false) (fun _ x => opt x.data.toList = true) (fun _ x => opt x.data.toList = false)
    (fun _ B => B) (fun x _ => { tmps := #[.string s, undef, .pointer (some ⟨w.heap.size, 0, none⟩), .string x, .string s, .func (.func 142) #[] #[.pointer (some ⟨w.heap.size + 1 + 1, 0, none⟩), .pointer (some ⟨w.heap.size + 1, 0, none⟩), .pointer (some ⟨w.heap.size + 1 + 1 + 1, 0, none⟩)], .string x, undef, undef, undef], defers := [] }) (fun _ _ => Below.refl _ _)
    Kpt.trans ?_ ?_ ?_ ?_ ?_ (fun _ _ _ _ _ h => h) (fun _ _ _ _ h => h) hI0 ?iter ?assign ?body ?done ?stop
  · intro A B hb
    rw [hz] at hb
    exact Kpt.of_but hb (by omega)
  · intro A B hb hsz
    rw [hz] at hsz ⊢
    exact ⟨hb.block _ (by omega) (by omega), hb.block _ (by omega) (by omega)⟩
  · intro _ A B hb h
    rw [hz] at hb
    exact h.but hb (by omega)
  · intro _ A B hb _ h
    exact h.but hb (by omega)
  · rintro _ _ A B hb ⟨h1, h2⟩
    rw [hz] at hb
    exact ⟨h1, h2.but hb (by omega)⟩
  case iter =>
    intro W hbW hzW J Jx hJ hJI hY h0
    rw [hz] at hbW hzW hY ⊢
    refine (split1_any 59 s (w.heap.size + 1) (w.heap.size + 4 + 1) hs (fun _ x => opt x.data.toList = true) (fun _ x => opt x.data.toList = false) J Jx (fun q A A' hb h => hJ q A A' hb h) (fun q x W' m hj hp => (hY q x W' m hj hp).mono ?_) W h0 (hB3.kept (Kpt.of_but hbW (by omega)))).mono ?_
    · rintro e W2 (⟨h1, h2, h3, h4⟩ | ⟨h1, h2, h3⟩)
      · exact .inl ⟨h1, h2, h3, h4⟩
      · exact .inr ⟨h1, h2, h3⟩
    · rintro e W' ⟨h1, ⟨h2, h3⟩ | ⟨q, x, h2, h3, h4⟩⟩
      · refine ⟨h1, .inl ⟨_, ?_, h3⟩⟩
        rw [List.all_eq_true]
        intro x hx
        obtain ⟨q, t, e⟩ := List.append_of_mem hx
        exact h2 q x ⟨t, by rw [e]; simp⟩
      · refine ⟨h1, .inr ⟨_, ?_, h4⟩⟩
        rw [List.all_eq_false]
        obtain ⟨t, e⟩ := h2
        exact ⟨x, by rw [← e]; simp, by rw [h3]; simp⟩
  case assign =>
    intro q x W K _ _ hK
    gi_wp2
    exact hK
  case body =>
    rintro q x B W hI hp hB hbb _
    go_light
    have hxs : x.size ≤ 100000000 := by
      have := (spb_mem x (hp.subset (by simp))).1
      omega
    have H := hide fun W => isOption_any x W hxs
    obtain ⟨c0, f0⟩ := hI.cell
    have HI := hide hI
    have Hp := hide hp
    clear hI hB hbb hB3 hI0 hp hxs
    cases ho : opt x.data.toList
    · rw [ho] at H
      clear ho
      gi_wp2_with fail
      refine ⟨trivial, (E.inR ((unhide H) _)).mono ?_⟩
      rintro e w' ⟨rfl, rfl⟩
      gi_wp2
      exact ⟨trivial, ⟨Below.heap_setCell _ _ _ _ (by show w.heap.size + 1 + 3 ≠ w.heap.size; omega), Below.heap_setCell _ _ _ _ (by show w.heap.size + 1 + 3 + 1 ≠ w.heap.size; omega)⟩, rfl, heap_set _ _ 0 _ _ _ (unhide HI).b, (unhide HI).bel.setCell (p := ⟨w.heap.size, 0, none⟩) (Nat.le_refl _) _⟩
    · rw [ho] at H
      clear ho
      gi_wp2_with fail
      refine ⟨trivial, (E.inR ((unhide H) _)).mono ?_⟩
      rintro e w' ⟨rfl, rfl⟩
      gi_wp2
      exact ⟨trivial, ⟨rfl, rfl⟩, Kpt.refl _ _, unhide HI⟩
  case done =>
    intro q W hall hI hK
    obtain ⟨c0, f0⟩ := hI.cell
    have HK := hide hK
    have HI := hide hI
    have HA := hide hall
    clear hK hI hI0 hB3 hall
    go_wp2
    rw [unhide HA]
    refine finO (b := true) ((Below.heap_setCell _ _ _ _ (by show W0.heap.size ≠ w.heap.size; omega)).trans (unhide HK)) (by omega) ((unhide HI).bel.setCell (p := ⟨w.heap.size, 0, none⟩) (Nat.le_refl _) _) rfl ?_ fun V' hb => ⟨rfl, hb⟩
    have := heap_set W _ 0 _ _ (.bool true) (unhide HI).b
    simp [World.cell?, this]
  case stop =>
    rintro cd q W hno ⟨rfl, hI⟩ hK
    obtain ⟨c0, f0⟩ := hI.cell
    have HK := hide hK
    have HI := hide hI
    have HA := hide hno
    clear hK hI hI0 hB3 hno
    gi_wp2
    rw [unhide HA]
    exact finO (b := false) (unhide HK) (by omega) (unhide HI).bel rfl c0 fun V' hb => ⟨rfl, hb⟩

set_option maxRecDepth 100000 in
theorem typeWith_any (s : ByteArray) (w : World) (hs : s.size ≤ 30) :
    Calls Tryz.prog 42 #[.string s] w fun e w' => e = .returned (.bool (okName s)) ∧ Below w.heap.size w w' := by
  have hl : decide (s.data.toList.length ≤ 30) = true := by rw [Array.length_toList]; exact decide_eq_true hs
  have ho : okName s = match cutB 59 s.data.toList with
      | none => Dp.tyL s.data.toList
      | some (k, o) => Dp.tyL k && (spl 59 o).all opt := by
    unfold okName nmL
    rw [hl, Bool.true_and]
    rfl
  rw [ho]
  clear ho hl
  cases h : cutB 59 s.data.toList with
  | none =>
    have HC := hide fun W => cut_none 59 s W h
    have HT := hide fun W => D.isType_any s W (by omega)
    show Calls _ _ _ _ fun e w' => e = .returned (.bool (Dp.isTy s)) ∧ _
    clear h
    generalize Dp.isTy s = b at *
    cases b
    · go_enter Tryz.func42, Tryz.ntmps42
      go_wp2_with fail
      refine ((unhide HC) _).mono ?_
      rintro e w1 ⟨rfl, hb⟩
      have HB := hide hb
      clear hb HC
      go_wp2_with fail
      refine ((unhide HT) _).mono ?_
      rintro e w2 ⟨rfl, hb⟩
      have HB2 := hide ((unhide HB).trans (hb.mono (unhide HB).size))
      clear hb HB
      go_wp2
      go_ret
      exact ⟨rfl, unhide HB2⟩
    · go_enter Tryz.func42, Tryz.ntmps42
      go_wp2_with fail
      refine ((unhide HC) _).mono ?_
      rintro e w1 ⟨rfl, hb⟩
      have HB := hide hb
      clear hb HC
      go_wp2_with fail
      refine ((unhide HT) _).mono ?_
      rintro e w2 ⟨rfl, hb⟩
      have HB2 := hide ((unhide HB).trans (hb.mono (unhide HB).size))
      clear hb HB
      go_wp2
      go_ret
      exact ⟨rfl, unhide HB2⟩
  | some q =>
    obtain ⟨k, o⟩ := q
    have hcs := (cutB_some _ _ _ _ h).1
    have hln : s.data.toList.length ≤ 30 := by rw [Array.length_toList]; exact hs
    rw [hcs] at hln
    simp only [List.length_append, List.length_cons] at hln
    have HC := hide fun W => cut_some 59 s k o W (by omega) h
    have HT := hide fun W => D.isType_any ⟨k.toArray⟩ W (by show k.toArray.size ≤ 1000; simp; omega)
    have HO := hide fun W => areOptions_any ⟨o.toArray⟩ W (by show o.toArray.size ≤ 100000000; simp; omega)
    show Calls _ _ _ _ fun e w' => e = .returned (.bool (Dp.isTy ⟨k.toArray⟩ && (spl 59 (ByteArray.mk o.toArray).data.toList).all opt)) ∧ _
    clear h hcs hln
    generalize (⟨k.toArray⟩ : ByteArray) = kk at *
    generalize (⟨o.toArray⟩ : ByteArray) = oo at *
    generalize Dp.isTy kk = b at *
    generalize (spl 59 oo.data.toList).all opt = b2 at *
    cases b
    · go_enter Tryz.func42, Tryz.ntmps42
      go_wp2_with fail
      refine ((unhide HC) _).mono ?_
      rintro e w1 ⟨rfl, hb⟩
      have HB := hide hb
      clear hb HC
      go_wp2_with fail
      refine ((unhide HT) _).mono ?_
      rintro e w2 ⟨rfl, hb⟩
      have HB2 := hide ((unhide HB).trans (hb.mono (unhide HB).size))
      clear hb HB
      go_wp2
      go_ret
      exact ⟨rfl, unhide HB2⟩
    · go_enter Tryz.func42, Tryz.ntmps42
      go_wp2_with fail
      refine ((unhide HC) _).mono ?_
      rintro e w1 ⟨rfl, hb⟩
      have HB := hide hb
      clear hb HC
      go_wp2_with fail
      refine ((unhide HT) _).mono ?_
      rintro e w2 ⟨rfl, hb⟩
      have HB2 := hide ((unhide HB).trans (hb.mono (unhide HB).size))
      clear hb HB
      go_wp2_with fail
      refine ((unhide HO) _).mono ?_
      rintro e w3 ⟨rfl, hb⟩
      have HB3 := hide ((unhide HB2).trans (hb.mono (unhide HB2).size))
      clear hb HB2
      go_wp2
      go_ret
      exact ⟨rfl, unhide HB3⟩

theorem isName_any (s : ByteArray) (w : World) :
    Calls Tryz.prog 25 #[.string s] w fun e w' => e = .returned (.bool (okName s)) ∧ Below w.heap.size w w' := by
  by_cases hs : s.size ≤ 30
  · have H := hide fun W => typeWith_any s W hs
    have hs' : (s.size : Int) ≤ 30 := by omega
    generalize okName s = b at *
    clear hs
    go_enter Tryz.func25, Tryz.ntmps25
    go_wp2_with fail
    refine ((unhide H) _).mono ?_
    rintro e w1 ⟨rfl, hb⟩
    have HB := hide hb
    clear hb
    go_wp2
    go_ret
    exact ⟨rfl, unhide HB⟩
  · have hs' : ¬ (s.size : Int) ≤ 30 := by omega
    rw [show okName s = false by unfold okName nmL; rw [decide_eq_false (by rw [Array.length_toList]; exact hs)]; rfl]
    clear hs
    go_enter Tryz.func25, Tryz.ntmps25
    go_wp2
    go_ret
    exact ⟨rfl, Below.refl _ _⟩
end Go.Proofs.YtmjfkdpaeenfgaaGreatDoor.F
