/-
  What the document's own answers of layer 4 say: sign, Bytes, one. Conditions: none.
-/
import Derived.Test.YtgapoofalnakmaaDoorURight
import Derived.Test.YtgapoofalnakmaaDoorUStand2
namespace Go.Proofs.YtgapoofalnakmaaDoor.U
open Go Go.RowKit

set_option maxRecDepth 100000 in
theorem refSign_any (n : Int) (w : World) :
    Calls Tryd.prog 65 #[.int .i64 n] w fun e w' => e = .returned (.bool (isg n)) ∧ w' = w := by
  unfold isg
  by_cases a : 0 ≤ n
  · by_cases c : n ≤ 1114111
    · by_cases d : n < 55296
      · rw [decide_eq_true ⟨a, c, .inl d⟩]
        go_enter Tryd.func65, Tryd.ntmps65
        go_wp2
        go_ret
        exact ⟨rfl, rfl⟩
      · by_cases f : 57343 < n
        · rw [decide_eq_true ⟨a, c, .inr (by omega)⟩]
          go_enter Tryd.func65, Tryd.ntmps65
          go_wp2
          go_ret
          exact ⟨rfl, rfl⟩
        · rw [decide_eq_false (by omega)]
          go_enter Tryd.func65, Tryd.ntmps65
          go_wp2
          go_ret
          exact ⟨rfl, rfl⟩
    · rw [decide_eq_false (by omega)]
      go_enter Tryd.func65, Tryd.ntmps65
      go_wp2
      go_ret
      exact ⟨rfl, rfl⟩
  · rw [decide_eq_false (by omega)]
    go_enter Tryd.func65, Tryd.ntmps65
    go_wp2
    go_ret
    exact ⟨rfl, rfl⟩

theorem convL (W : World) (l : List UInt8) (b k : Nat) (cs : Array Value) (hb : W.heap.size = b) (hk : l.length = k) (hc : (cells l).toArray = cs) :
    (convert 44 9 (.slice (some ⟨b, 0, none⟩) k k)).run Tryd.prog (W.alloc (.cells cs 5)) = .ok (.string ⟨l.toArray⟩) (W.alloc (.cells cs 5)) := by
  subst hk
  subst hc
  subst hb
  rw [← nums_str]
  refine run_convert_bytes_arg _ _ _ Tryd.underlying44 Tryd.underlying5 W.heap.size 0 l.length l.length (l.map fun x => (x.toNat : Int)) (by simp) (fun i hi => ?_) _ Tryd.underlying9
  rw [World.cell?_alloc_at _ _ _ _ rfl, Nat.zero_add]
  simp [cells, List.getD_eq_getElem?_getD, List.getElem?_eq_getElem hi]
abbrev str (l : List UInt8) : ByteArray := ⟨l.toArray⟩

set_option maxRecDepth 100000 in
theorem refBytes_any (n : Nat) (w : World) (h : n ≤ 1114111) :
    Calls Tryd.prog 66 #[.int .i64 n] w fun e w' => e = .returned (.string (str (Ut.enc n))) ∧ Below w.heap.size w w' := by
  by_cases h1 : n < 128
  · have hl : (cells (Ut.enc n)).toArray = #[.int .u8 n] := by
      unfold Ut.enc
      rw [if_pos h1]
      simp only [cells, List.map_cons, List.map_nil, Ut.bn n (by omega)]
    have k1 := fun W b hb => convL W (Ut.enc n) b 1 _ hb (by rw [Ut.enc_length, if_pos h1]) hl
    have d1 : (n : Int) < 128 := by omega
    clear hl
    go_enter Tryd.func66, Tryd.ntmps66
    go_wp2
    go_ret
    exact ⟨rfl, (Below.refl _ _).alloc (Nat.le_refl _) _⟩
  by_cases h2 : n < 2048
  · have hl : (cells (Ut.enc n)).toArray = #[.int .u8 (192 + (n : Int) / 64), .int .u8 (128 + (n : Int) % 64)] := by
      unfold Ut.enc
      rw [if_neg (by omega), if_pos h2]
      simp only [cells, List.map_cons, List.map_nil, Ut.bn _ (show 192 + n / 64 < 256 by omega), Ut.bn _ (show 128 + n % 64 < 256 by omega)]
      rfl
    have k1 := fun W b hb => convL W (Ut.enc n) b 2 _ hb (by rw [Ut.enc_length, if_neg h1, if_pos h2]) hl
    have d1 : decide ((n : Int) < 128) = false := decide_eq_false (by omega)
    have d2 : decide ((n : Int) < 2048) = true := decide_eq_true (by omega)
    have d3 : (192 + (n : Int) / 64) % 256 = 192 + n / 64 := by omega
    have hn : (n : Int) ≤ 1114111 := by omega
    clear hl
    go_enter Tryd.func66, Tryd.ntmps66
    go_wp2
    go_ret
    exact ⟨rfl, (Below.refl _ _).alloc (Nat.le_refl _) _⟩
  by_cases h3 : n < 65536
  · have hl : (cells (Ut.enc n)).toArray = #[.int .u8 (224 + (n : Int) / 4096), .int .u8 (128 + (n : Int) / 64 % 64), .int .u8 (128 + (n : Int) % 64)] := by
      unfold Ut.enc
      rw [if_neg (by omega), if_neg (by omega), if_pos h3]
      simp only [cells, List.map_cons, List.map_nil, Ut.bn _ (show 224 + n / 4096 < 256 by omega), Ut.bn _ (show 128 + n / 64 % 64 < 256 by omega), Ut.bn _ (show 128 + n % 64 < 256 by omega)]
      rfl
    have k1 := fun W b hb => convL W (Ut.enc n) b 3 _ hb (by rw [Ut.enc_length, if_neg h1, if_neg h2, if_pos h3]) hl
    have d1 : decide ((n : Int) < 128) = false := decide_eq_false (by omega)
    have d2 : decide ((n : Int) < 2048) = false := decide_eq_false (by omega)
    have d3 : decide ((n : Int) < 65536) = true := decide_eq_true (by omega)
    have d4 : (224 + (n : Int) / 4096) % 256 = 224 + n / 4096 := by omega
    have hn : (n : Int) ≤ 1114111 := by omega
    clear hl
    go_enter Tryd.func66, Tryd.ntmps66
    go_wp2
    go_ret
    exact ⟨rfl, (Below.refl _ _).alloc (Nat.le_refl _) _⟩
  · have hl : (cells (Ut.enc n)).toArray = #[.int .u8 (240 + (n : Int) / 262144), .int .u8 (128 + (n : Int) / 4096 % 64), .int .u8 (128 + (n : Int) / 64 % 64), .int .u8 (128 + (n : Int) % 64)] := by
      unfold Ut.enc
      rw [if_neg (by omega), if_neg (by omega), if_neg (by omega)]
      simp only [cells, List.map_cons, List.map_nil, Ut.bn _ (show 240 + n / 262144 < 256 by omega), Ut.bn _ (show 128 + n / 4096 % 64 < 256 by omega), Ut.bn _ (show 128 + n / 64 % 64 < 256 by omega), Ut.bn _ (show 128 + n % 64 < 256 by omega)]
      rfl
    have k1 := fun W b hb => convL W (Ut.enc n) b 4 _ hb (by rw [Ut.enc_length, if_neg h1, if_neg h2, if_neg h3]) hl
    have d1 : decide ((n : Int) < 128) = false := decide_eq_false (by omega)
    have d2 : decide ((n : Int) < 2048) = false := decide_eq_false (by omega)
    have d3 : decide ((n : Int) < 65536) = false := decide_eq_false (by omega)
    have d4 : (240 + (n : Int) / 262144) % 256 = 240 + n / 262144 := by omega
    have hn : (n : Int) ≤ 1114111 := by omega
    clear hl
    go_enter Tryd.func66, Tryd.ntmps66
    go_wp2
    go_ret
    exact ⟨rfl, (Below.refl _ _).alloc (Nat.le_refl _) _⟩
end Go.Proofs.YtgapoofalnakmaaDoor.U
