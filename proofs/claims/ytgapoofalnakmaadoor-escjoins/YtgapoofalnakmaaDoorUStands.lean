/-
  What utf.text.stands answers. Conditions: none.
-/
import Derived.Test.YtgapoofalnakmaaDoorUAdd
import Derived.Deep.RegionWith
import Derived.Deep.QuietTactic
import Derived.BigQuiet
import Derived.RangeFuncRecord
namespace Go.Proofs.YtgapoofalnakmaaDoor.U
open Go Go.RowKit

abbrev zero4 : Obj := .cells #[.int .u8 0, .int .u8 0, .int .u8 0, .int .u8 0] 135
theorem rcell {R : Nat} {w : World} (h : w.heap[R]? = some zero4) : (w.cell? ⟨R, 0, none⟩ = some (.int .u8 0) ∧ w.cell? ⟨R, 1, none⟩ = some (.int .u8 0) ∧ w.cell? ⟨R, 2, none⟩ = some (.int .u8 0) ∧ w.cell? ⟨R, 3, none⟩ = some (.int .u8 0)) ∧
    w.frozen? ⟨R, 0, none⟩ = false ∧ w.frozen? ⟨R, 1, none⟩ = false ∧ w.frozen? ⟨R, 2, none⟩ = false ∧ w.frozen? ⟨R, 3, none⟩ = false := by
  simp [World.cell?, World.frozen?, h]

set_option maxRecDepth 100000 in
theorem room1 (n : Nat) (w : World) (R : Nat) (h : n < 128) (hR : w.heap[R]? = some zero4) :
    Calls Tryd.prog 75 #[.slice (some ⟨R, 0, none⟩) 0 4, .int .i32 n] w fun e w' => e = .returned (.slice (some ⟨R, 0, none⟩) 1 4) ∧ w' = (w.setCell ⟨R, 0, none⟩ (.int .u8 n)).alloc (.cells #[.int .u8 n] 5) := by
  have hk : wd n = 1 := by rw [wd_eq]; repeat (split <;> try omega)
  have hw := width_any n w (by omega)
  rw [hk] at hw
  have e1 : (n : Int) % 256 = n := by omega
  obtain ⟨⟨c0, c1, c2, c3⟩, f0, f1, f2, f3⟩ := rcell hR
  have hlt := lt_of_cell c0
  have hlt' : ¬ R = w.heap.size := by simp at hlt; omega
  clear hk h
  go_enter Tryd.func75, Tryd.ntmps75
  go_wp2_with fail
  refine hw.mono ?_
  rintro e w1 ⟨rfl, rfl⟩
  go_wp2
  go_ret
  exact ⟨rfl, rfl⟩

set_option maxRecDepth 100000 in
theorem room2 (n : Nat) (w : World) (R : Nat) (h : 128 ≤ n ∧ n < 2048) (hR : w.heap[R]? = some zero4) :
    Calls Tryd.prog 75 #[.slice (some ⟨R, 0, none⟩) 0 4, .int .i32 n] w fun e w' => e = .returned (.slice (some ⟨R, 0, none⟩) 2 4) ∧ w' = ((w.setCell ⟨R, 0, none⟩ (.int .u8 (192 + (n : Int) / 64))).setCell ⟨R, 1, none⟩ (.int .u8 (128 + (n : Int) % 64))).alloc (.cells #[.int .u8 (192 + (n : Int) / 64), .int .u8 (128 + (n : Int) % 64)] 5) := by
  have hk : wd n = 2 := by rw [wd_eq]; repeat (split <;> try omega)
  have hw := width_any n w (by omega)
  rw [hk] at hw
  have g0 := hide (next_any (n) w)
  have e1 : (n : Int) / 64 % 256 = n / 64 := by omega
  have e2 := or192 ((n : Int) / 64) (by omega)
  obtain ⟨⟨c0, c1, c2, c3⟩, f0, f1, f2, f3⟩ := rcell hR
  have hlt := lt_of_cell c0
  have hlt' : ¬ R = w.heap.size := by simp at hlt; omega
  clear hk h
  go_enter Tryd.func75, Tryd.ntmps75
  go_wp2_with fail
  refine hw.mono ?_
  rintro e w1 ⟨rfl, rfl⟩
  go_wp2_with fail
  refine (unhide g0).mono ?_
  rintro e w1 ⟨rfl, rfl⟩
  go_wp2
  go_ret
  exact ⟨rfl, rfl⟩

set_option maxRecDepth 100000 in
theorem room3 (n : Nat) (w : World) (R : Nat) (h : 2048 ≤ n ∧ n < 65536) (hR : w.heap[R]? = some zero4) :
    Calls Tryd.prog 75 #[.slice (some ⟨R, 0, none⟩) 0 4, .int .i32 n] w fun e w' => e = .returned (.slice (some ⟨R, 0, none⟩) 3 4) ∧ w' = (((w.setCell ⟨R, 0, none⟩ (.int .u8 (224 + (n : Int) / 4096))).setCell ⟨R, 1, none⟩ (.int .u8 (128 + (n : Int) / 64 % 64))).setCell ⟨R, 2, none⟩ (.int .u8 (128 + (n : Int) % 64))).alloc (.cells #[.int .u8 (224 + (n : Int) / 4096), .int .u8 (128 + (n : Int) / 64 % 64), .int .u8 (128 + (n : Int) % 64)] 5) := by
  have hk : wd n = 3 := by rw [wd_eq]; repeat (split <;> try omega)
  have hw := width_any n w (by omega)
  rw [hk] at hw
  have g0 := hide (next_any (n / 64) w)
  have g1 := hide (next_any (n) w)
  have e1 : (n : Int) / 4096 % 256 = n / 4096 := by omega
  have e2 := or224 ((n : Int) / 4096) (by omega)
  obtain ⟨⟨c0, c1, c2, c3⟩, f0, f1, f2, f3⟩ := rcell hR
  have hlt := lt_of_cell c0
  have hlt' : ¬ R = w.heap.size := by simp at hlt; omega
  clear hk h
  go_enter Tryd.func75, Tryd.ntmps75
  go_wp2_with fail
  refine hw.mono ?_
  rintro e w1 ⟨rfl, rfl⟩
  go_wp2_with fail
  refine (unhide g0).mono ?_
  rintro e w1 ⟨rfl, rfl⟩
  go_wp2_with fail
  refine (unhide g1).mono ?_
  rintro e w1 ⟨rfl, rfl⟩
  go_wp2
  go_ret
  exact ⟨rfl, rfl⟩

set_option maxRecDepth 100000 in
theorem room4 (n : Nat) (w : World) (R : Nat) (h : 65536 ≤ n ∧ n ≤ 1114111) (hR : w.heap[R]? = some zero4) :
    Calls Tryd.prog 75 #[.slice (some ⟨R, 0, none⟩) 0 4, .int .i32 n] w fun e w' => e = .returned (.slice (some ⟨R, 0, none⟩) 4 4) ∧ w' = ((((w.setCell ⟨R, 0, none⟩ (.int .u8 (240 + (n : Int) / 262144))).setCell ⟨R, 1, none⟩ (.int .u8 (128 + (n : Int) / 4096 % 64))).setCell ⟨R, 2, none⟩ (.int .u8 (128 + (n : Int) / 64 % 64))).setCell ⟨R, 3, none⟩ (.int .u8 (128 + (n : Int) % 64))).alloc (.cells #[.int .u8 (240 + (n : Int) / 262144), .int .u8 (128 + (n : Int) / 4096 % 64), .int .u8 (128 + (n : Int) / 64 % 64), .int .u8 (128 + (n : Int) % 64)] 5) := by
  have hk : wd n = 4 := by rw [wd_eq]; repeat (split <;> try omega)
  have hw := width_any n w (by omega)
  rw [hk] at hw
  have g0 := hide (next_any (n / 4096) w)
  have g1 := hide (next_any (n / 64) w)
  have g2 := hide (next_any (n) w)
  have e1 : (n : Int) / 262144 % 256 = n / 262144 := by omega
  have e2 := or240 ((n : Int) / 262144) (by omega)
  obtain ⟨⟨c0, c1, c2, c3⟩, f0, f1, f2, f3⟩ := rcell hR
  have hlt := lt_of_cell c0
  have hlt' : ¬ R = w.heap.size := by simp at hlt; omega
  clear hk h
  go_enter Tryd.func75, Tryd.ntmps75
  go_wp2_with fail
  refine hw.mono ?_
  rintro e w1 ⟨rfl, rfl⟩
  go_wp2_with fail
  refine (unhide g0).mono ?_
  rintro e w1 ⟨rfl, rfl⟩
  go_wp2_with fail
  refine (unhide g1).mono ?_
  rintro e w1 ⟨rfl, rfl⟩
  go_wp2_with fail
  refine (unhide g2).mono ?_
  rintro e w1 ⟨rfl, rfl⟩
  go_wp2
  go_ret
  exact ⟨rfl, rfl⟩

/-- cells laid one behind the other. -/
def fill (R : Nat) : List Value → Nat → World → World
  | [], _, w => w
  | x :: l, i, w => fill R l (i + 1) (w.setCell ⟨R, i, none⟩ x)
abbrev Wr (w : World) (R n : Nat) : World := (fill R (cells (Ut.enc n)) 0 w).alloc (.cells (cells (Ut.enc n)).toArray 5)
theorem room_any (n : Nat) (w : World) (R : Nat) (h : n ≤ 1114111) (hR : w.heap[R]? = some zero4) :
    Calls Tryd.prog 75 #[.slice (some ⟨R, 0, none⟩) 0 4, .int .i32 n] w fun e w' => e = .returned (.slice (some ⟨R, 0, none⟩) (wd n) 4) ∧ w' = Wr w R n := by
  by_cases h1 : n < 128
  · have := room1 n w R h1 hR
    have hl : cells (Ut.enc n) = [.int .u8 n] := by
      unfold Ut.enc
      rw [if_pos h1]
      simp only [cells, List.map_cons, List.map_nil, Ut.bn n (by omega)]
    rw [Wr, hl, show wd n = 1 by rw [wd_eq, if_pos h1]]
    exact this
  by_cases h2 : n < 2048
  · have := room2 n w R ⟨by omega, h2⟩ hR
    have hl : cells (Ut.enc n) = [.int .u8 (192 + (n : Int) / 64), .int .u8 (128 + (n : Int) % 64)] := by
      unfold Ut.enc
      rw [if_neg (by omega), if_pos h2]
      simp only [cells, List.map_cons, List.map_nil, Ut.bn _ (show 192 + n / 64 < 256 by omega), Ut.bn _ (show 128 + n % 64 < 256 by omega)]
      rfl
    rw [Wr, hl, show wd n = 2 by rw [wd_eq, if_neg h1, if_pos h2]]
    exact this
  by_cases h3 : n < 65536
  · have := room3 n w R ⟨by omega, h3⟩ hR
    have hl : cells (Ut.enc n) = [.int .u8 (224 + (n : Int) / 4096), .int .u8 (128 + (n : Int) / 64 % 64), .int .u8 (128 + (n : Int) % 64)] := by
      unfold Ut.enc
      rw [if_neg (by omega), if_neg (by omega), if_pos h3]
      simp only [cells, List.map_cons, List.map_nil, Ut.bn _ (show 224 + n / 4096 < 256 by omega), Ut.bn _ (show 128 + n / 64 % 64 < 256 by omega), Ut.bn _ (show 128 + n % 64 < 256 by omega)]
      rfl
    rw [Wr, hl, show wd n = 3 by rw [wd_eq, if_neg h1, if_neg h2, if_pos h3]]
    exact this
  · have := room4 n w R ⟨by omega, h⟩ hR
    have hl : cells (Ut.enc n) = [.int .u8 (240 + (n : Int) / 262144), .int .u8 (128 + (n : Int) / 4096 % 64), .int .u8 (128 + (n : Int) / 64 % 64), .int .u8 (128 + (n : Int) % 64)] := by
      unfold Ut.enc
      rw [if_neg (by omega), if_neg (by omega), if_neg (by omega)]
      simp only [cells, List.map_cons, List.map_nil, Ut.bn _ (show 240 + n / 262144 < 256 by omega), Ut.bn _ (show 128 + n / 4096 % 64 < 256 by omega), Ut.bn _ (show 128 + n / 64 % 64 < 256 by omega), Ut.bn _ (show 128 + n % 64 < 256 by omega)]
      rfl
    rw [Wr, hl, show wd n = 4 by rw [wd_eq, if_neg h1, if_neg h2, if_neg h3]]
    exact this

theorem fill_size (R : Nat) : ∀ (l : List Value) (i : Nat) (w : World), (fill R l i w).heap.size = w.heap.size
  | [], _, _ => rfl
  | x :: l, i, w => by rw [fill, fill_size R l]; simp
theorem fill_other (R : Nat) : ∀ (l : List Value) (i : Nat) (w : World) (k : Nat), k ≠ R → (fill R l i w).heap[k]? = w.heap[k]?
  | [], _, _, _, _ => rfl
  | x :: l, i, w, k, h => by rw [fill, fill_other R l _ _ k h, Below.heap_setCell _ _ _ _ (by simpa using h)]
theorem fill_lt (R : Nat) : ∀ (l : List Value) (i : Nat) (w : World) (j : Nat), j < i → (fill R l i w).cell? ⟨R, j, none⟩ = w.cell? ⟨R, j, none⟩
  | [], _, _, _, _ => rfl
  | x :: l, i, w, j, h => by
    rw [fill, fill_lt R l (i + 1) _ j (by omega), World.cell?_setCell_other (h := by simp <;> omega)]
theorem fill_at (R : Nat) : ∀ (l : List Value) (i : Nat) (w : World) (k : Nat), k < l.length → (∀ q, q < l.length → (w.cell? ⟨R, i + q, none⟩).isSome) → (fill R l i w).cell? ⟨R, i + k, none⟩ = l[k]?
  | [], _, _, k, h, _ => by simp at h
  | x :: l, i, w, 0, _, hs => by
    rw [fill, fill_lt R l (i + 1) _ _ (by omega)]
    exact World.cell?_setCell_same' _ _ _ (by simpa using hs 0 (by simp))
  | x :: l, i, w, k + 1, h, hs => by
    rw [fill, show i + (k + 1) = (i + 1) + k by omega, fill_at R l (i + 1) _ k (by simpa using h) (fun q hq => ?_)]
    · rfl
    · rw [World.cell?_setCell_other (h := by simp <;> omega), show i + 1 + q = i + (q + 1) by omega]
      exact hs (q + 1) (by simp <;> omega)
theorem cells_length (l : List UInt8) : (cells l).length = l.length := by simp [cells]
theorem nums_str (l : List UInt8) : strOfNums (l.map fun x => (x.toNat : Int)) = ⟨l.toArray⟩ := by
  unfold strOfNums
  congr 1
  simp [List.map_map]
  refine (List.map_congr_left (g := id) fun x _ => ?_).trans (List.map_id _)
  simp
theorem conv_room (w : World) (R n : Nat) (hR : w.heap[R]? = some zero4) (V : World) (hV : V.heap = (Wr w R n).heap) :
    (convert 44 9 (.slice (some ⟨R, 0, none⟩) (wd n) 4)).run Tryd.prog V = .ok (.string ⟨(Ut.enc n).toArray⟩) V := by
  rw [← nums_str]
  refine run_convert_bytes_arg V _ _ Tryd.underlying44 Tryd.underlying5 R 0 (wd n) 4 ((Ut.enc n).map fun x => (x.toNat : Int)) (by simp [wd]) (fun i hi => ?_) _ Tryd.underlying9
  have hlt : R < w.heap.size := (Array.getElem?_eq_some_iff.1 hR).1
  have hb : V.cell? ⟨R, 0 + i, none⟩ = (fill R (cells (Ut.enc n)) 0 w).cell? ⟨R, 0 + i, none⟩ := by
    refine World.cell?_of_block ?_
    rw [hV]
    exact heap_alloc_old _ _ (by rw [fill_size]; exact hlt)
  have hle := Ut.enc_le n
  have hi' : i < (Ut.enc n).length := hi
  rw [hb, fill_at R _ 0 w i (by rw [cells_length]; exact hi) (fun q hq => ?_)]
  · simp only [cells, List.getElem?_map, List.getD_eq_getElem?_getD]
    rw [List.getElem?_eq_getElem hi']
    rfl
  · rw [cells_length] at hq
    obtain ⟨⟨c0, c1, c2, c3⟩, _⟩ := rcell hR
    rcases q with _ | _ | _ | _ | q
    · rw [c0]; rfl
    · rw [c1]; rfl
    · rw [c2]; rfl
    · rw [c3]; rfl
    · omega

/-- do a sign's bytes stand at a place? -/
def st (s : ByteArray) (p n : Nat) : Bool := (Ut.enc n).isPrefixOf (s.data.toList.drop p)
theorem Wr_below (w : World) (R n : Nat) (B : Nat) (hB : B ≤ R) (hs : B ≤ w.heap.size) : Below B w (Wr w R n) := by
  refine Below.alloc ?_ (by rw [fill_size]; exact hs) _
  suffices h : ∀ (l : List Value) (i : Nat) (w0 : World), Below B w w0 → Below B w (fill R l i w0) from h _ _ _ (Below.refl _ _)
  intro l
  induction l with
  | nil => intro i w0 h; exact h
  | cons x l ih => intro i w0 h; exact ih _ _ (Below.setCell (p := ⟨R, i, none⟩) h hB _)

theorem below_drewN {B : Nat} {u w : World} (h : Below B u w) (n : Nat) : Below B u (w.drewN n) := ⟨h.os, h.tape, h.output, h.size, h.block⟩
theorem heap_new (w : World) (o : Obj) : (w.alloc o).heap[w.heap.size]? = some o := World.alloc_heap_new w o
set_option maxRecDepth 100000 in
theorem stands_far (s : ByteArray) (p n : Nat) (w : World) (h : n ≤ 1114111) (hp : p ≤ s.size) (hs : s.size ≤ 1000) (hf : s.size < p + wd n) :
    Calls Tryd.prog 71 #[.agg #[.string s], .int .i64 p, .int .i32 n] w fun e w' => e = .returned (.bool false) ∧ Below w.heap.size w w' := by
  have hw := width_any n ((w.alloc (.cells #[.string s] 125)).alloc zero4) h
  have hle := Ut.enc_le n
  have hwd : (wd n : Int) ≤ 4 := by unfold wd; omega
  have he : wrap64 ((p : Int) + wd n) = p + wd n := by unfold wrap64; omega
  have hf' : decide ((p : Int) + wd n ≤ s.size) = false := decide_eq_false (by omega)
  clear hf hle
  go_enter Tryd.func71, Tryd.ntmps71
  go_wp2_with fail
  refine hw.mono ?_
  rintro e w1 ⟨rfl, rfl⟩
  go_wp2
  go_quiet (fail)
  go_wp2
  go_ret
  refine ⟨rfl, below_drewN ?_ _⟩
  repeat (refine Below.alloc ?_ (by simp <;> omega) _)
  exact Below.refl _ _

end Go.Proofs.YtgapoofalnakmaaDoor.U
