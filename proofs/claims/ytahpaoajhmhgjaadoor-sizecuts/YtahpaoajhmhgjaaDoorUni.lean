/-
  The contracts of layer 1, in the form in which the laws' walks take them: the world behind a call keeps what lay when the law began. Conditions: the package-level variables hold what the program's text lays.
-/
import Derived.Test.YtahpaoajhmhgjaaDoorShown
import Derived.Test.YtahpaoajhmhgjaaDoorPureLaws
namespace Go.Proofs.YtahpaoajhmhgjaaDoor
open Go.RowKit

/-- a call that answers v and keeps what lay in w. -/
def Keeps (w : World) (f : FuncId) (args : Array Value) (v : Value) : Prop :=
  ∀ w1, Below w.heap.size w w1 → Calls Tryd.prog f args w1 fun e w' => e = .returned v ∧ Below w.heap.size w w'
theorem keep {aS aF : Addr} {w : World} (g : Glob aS aF w) {f : FuncId} {args : Array Value} {v : Value}
    (h : ∀ w1, Glob aS aF w1 → Calls Tryd.prog f args w1 fun e w' => e = .returned v ∧ Below w1.heap.size w1 w') : Keeps w f args v :=
  fun w1 hb => (h w1 (g.below (Nat.le_refl _) hb)).mono fun _ _ ⟨he, hb'⟩ => ⟨he, hb.trans (hb'.mono hb.size)⟩
theorem keep_same {w : World} {f : FuncId} {args : Array Value} {v : Value}
    (h : ∀ w1, Calls Tryd.prog f args w1 fun e w' => e = .returned v ∧ w' = w1) : Keeps w f args v :=
  fun w1 hb => (h w1).mono fun _ _ ⟨he, hw⟩ => ⟨he, by rw [hw]; exact hb⟩

theorem lst_size (n : Nat) : (lst n).size = (Sz.least n).length := by simp [lst, ByteArray.size]
theorem lst_list (n : Nat) : (lst n).data.toList = Sz.least n := by simp [lst]
theorem lst_le (n : Nat) (h : n ≤ 16777215) : (lst n).size ≤ 4 := by
  rw [lst_size, Sz.least_length]
  have := Sz.wd_le3 n h
  split <;> omega
theorem sz_length (n : Nat) : sz n = (Sz.least n).length := by
  unfold sz
  rw [Sz.least_length]
  split <;> simp

/-- IsLeast, whatever Decode tells. -/
def isL (l : List UInt8) (a : Int) : Bool := decide ((Sz.dec l a).2.2 = 0) && ((l.drop a.toNat).take ((Sz.dec l a).2.1 - a).toNat == Sz.least (Sz.dec l a).1.toNat)
theorem isLeast_any (s : ByteArray) (a : Int) (aS aF : Addr) (w : World) (g : Glob aS aF w) (hs : s.size ≤ maxLen) :
    Calls Tryd.prog 17 #[.string s, .int .i64 a] w fun e w' => e = .returned (.bool (isL s.data.toList a)) ∧ Below w.heap.size w w' := by
  obtain ⟨n, p, E, hd⟩ : ∃ n p E, Sz.dec s.data.toList a = (n, p, E) := ⟨_, _, _, rfl⟩
  obtain ⟨h1, h2⟩ := Sz.dec_shape _ _ _ _ _ hd
  by_cases hE : E = 0
  · obtain ⟨k, n', p', rfl, rfl, rfl, hkp, hpl, hn, _, _⟩ := h2 hE
    clear h1 h2
    subst hE
    have e : isL s.data.toList k = ((s.data.toList.drop k).take (p' - k) == Sz.least n') := by
      unfold isL
      rw [hd]
      simp only [decide_true, Bool.true_and, Int.toNat_natCast]
      rw [show ((p' : Int) - k).toNat = p' - k by omega]
    rw [e]
    exact isLeast_y s k p' n' aS aF w g hs hd hn (by omega) (by simpa using hpl)
  · have e : isL s.data.toList a = false := by
      unfold isL
      rw [hd]
      simp [hE]
    rw [e]
    exact isLeast_no s a aS aF w g hs n p E hd hE

theorem cut_any (s : ByteArray) (w : World) (hs : s.size ≤ maxLen) :
    Calls Tryd.prog 10 #[.string s] w fun e w' => e = .returned (.string (s.extract 0 100)) ∧ w' = w := by
  unfold maxLen at hs
  by_cases h : s.size ≤ 100
  · have h' : (s.size : Int) ≤ 100 := by omega
    have e : s.extract 0 100 = s := by
      apply ByteArray.ext
      simp [ByteArray.data_extract]
      exact .inr h
    rw [e]
    go_enter Tryd.func10, Tryd.ntmps10
    go_wp2
    go_ret
    exact ⟨rfl, rfl⟩
  · have h' : ¬ (s.size : Int) ≤ 100 := by omega
    go_enter Tryd.func10, Tryd.ntmps10
    go_wp2
    go_ret
    exact ⟨rfl, rfl⟩

theorem cut_size (s : ByteArray) : (s.extract 0 100).size ≤ 100 := by
  rw [ByteArray.size_extract]; omega

theorem K_shown {aS aF : Addr} {w : World} (g : Glob aS aF w) : Keeps w 9 #[] (.bool true) := keep g fun w1 g1 => shown_true aS aF w1 g1
theorem K_cut {w : World} (s : ByteArray) (hs : s.size ≤ maxLen) : Keeps w 10 #[.string s] (.string (s.extract 0 100)) := keep_same fun w1 => cut_any s w1 hs
theorem K_decode {aS aF : Addr} {w : World} (g : Glob aS aF w) (s : ByteArray) (a : Int) (hs : s.size ≤ 1000) : Keeps w 13 #[.string s, .int .i64 a] (tup (Sz.dec s.data.toList a)) :=
  keep g fun w1 g1 => decode_any s a aS aF w1 g1 (small_maxLen hs)
theorem K_isLeast {aS aF : Addr} {w : World} (g : Glob aS aF w) (s : ByteArray) (a : Int) (hs : s.size ≤ 1000) : Keeps w 17 #[.string s, .int .i64 a] (.bool (isL s.data.toList a)) :=
  keep g fun w1 g1 => isLeast_any s a aS aF w1 g1 (small_maxLen hs)
theorem K_encode {aS aF : Addr} {w : World} (g : Glob aS aF w) (n : Int) (h0 : 0 ≤ n) (h1 : n ≤ 16777215) : Keeps w 11 #[.int .i64 n] (.tuple #[.string (lst n.toNat), .int .i64 0]) :=
  keep g fun w1 _ => encode_ok n w1 h0 h1
theorem K_encode_no {aS aF : Addr} {w : World} (g : Glob aS aF w) (n : Int) (h : ¬ (0 ≤ n ∧ n ≤ 16777215)) : Keeps w 11 #[.int .i64 n] (.tuple #[.string ⟨#[]⟩, .int .i64 12]) :=
  keep g fun w1 g1 => encode_no n aS aF w1 g1 h
theorem K_size {aS aF : Addr} {w : World} (g : Glob aS aF w) (n : Int) (h0 : 0 ≤ n) (h1 : n ≤ 16777215) : Keeps w 15 #[.int .i64 n] (.tuple #[.int .i64 (sz n.toNat), .int .i64 0]) :=
  keep g fun w1 _ => size_ok n w1 h0 h1
theorem K_size_no {aS aF : Addr} {w : World} (g : Glob aS aF w) (n : Int) (h : ¬ (0 ≤ n ∧ n ≤ 16777215)) : Keeps w 15 #[.int .i64 n] (.tuple #[.int .i64 0, .int .i64 12]) :=
  keep g fun w1 g1 => size_no n aS aF w1 g1 h
end Go.Proofs.YtahpaoajhmhgjaaDoor
