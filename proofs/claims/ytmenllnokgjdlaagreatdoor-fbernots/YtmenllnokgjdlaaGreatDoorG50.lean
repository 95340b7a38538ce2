/- Several texts in one: TErrno, TvLaws, TNode. Each says what it proves, and its conditions. -/
import Derived.Test.YtmenllnokgjdlaaGreatDoorTErrs
import Derived.Test.YtmenllnokgjdlaaGreatDoorG33
set_option maxHeartbeats 1000000
/-
 What tlv.errnoOf answers at each error that package tlv makes. Conditions: the package-level variables hold what the program's text lays ('TG').
-/
namespace Go.Proofs.YtmenllnokgjdlaaGreatDoor
open Go.RowKit
theorem H_ {p : Prop} (h : p) : Hid p := h
theorem un {p : Prop} (h : Hid p) : p := h
end Go.Proofs.YtmenllnokgjdlaaGreatDoor
namespace Go.Proofs.YtmenllnokgjdlaaGreatDoor.T
open Go.RowKit Go.Extern.Stop Go.Stop Go.Extern
theorem Is_same (k : Int) (a : Addr) (w : World) :
  Calls Tryz.prog 55 #[.iface 97 (.agg #[.int .i64 k, .iface 350 (.pointer (some a))]), .iface 350 (.pointer (some a))] w fun e w' => e = .returned (.bool true) /\ Below w.heap.size w w' := by
 obtain ⟨i, hi, hcmp⟩ := Option.map_eq_some_iff.1 compS
 obtain ⟨j, hj, hjs⟩ := Option.map_eq_some_iff.1 sizeS
 have hext36 := @run_callFunc_extern Tryz.prog 86 _ ReflectliteType.typeOf Tryz.func86 (by kernel_rfl) (by kernel_rfl) (by kernel_rfl) (by kernel_rfl)
 obtain ⟨ext, hfind, cT⟩ := cmpExt
 have hext66 := @run_callFunc_extern Tryz.prog 283 _ ext Tryz.func283 (by kernel_rfl) (by kernel_rfl) (by kernel_rfl) hfind
 clear hfind
 have tT := typeOfS
 have mR := methodComparable
 have nW := noIsF
 have uW := unwF
 have mU := methodUnwrap
 have heq := fun w => run_eql_iface_ptr_same (P := Tryz.prog) w a Tryz.underlying52 Tryz.underlying350 hi hcmp hj
 have hty := fun w => run_eql_iface_types (P := Tryz.prog) 97 350 (.agg #[.int .i64 k, .iface 350 (.pointer (some a))]) (.pointer (some a)) Tryz.underlying52 (by decide) w
 go_enter Tryz.func55, Tryz.ntmps55
 go_wp2
 refine wp_loop_rounds 2 ?_
 rw [rounds_succ]
 go_wp2
 rw [rounds_succ]
 go_wp2
 go_ret
 exact ⟨rfl, (Below.refl _ _).alloc (by simp) _⟩
theorem Is_other (k : Int) (a b : Addr) (ca cb : Array Value) (ta tb : TypeId) (w : World) (hne : a ≠ b) (ha : w.heap[a.block]? = some (.cells ca ta (0, 0))) (hb : w.heap[b.block]? = some (.cells cb tb (0, 0))) :
  Calls Tryz.prog 55 #[.iface 97 (.agg #[.int .i64 k, .iface 350 (.pointer (some a))]), .iface 350 (.pointer (some b))] w fun e w' => e = .returned (.bool false) /\ Below w.heap.size w w' := by
 obtain ⟨i, hi, hcmp⟩ := Option.map_eq_some_iff.1 compS
 obtain ⟨j, hj, hjs⟩ := Option.map_eq_some_iff.1 sizeS
 have hext36 := @run_callFunc_extern Tryz.prog 86 _ ReflectliteType.typeOf Tryz.func86 (by kernel_rfl) (by kernel_rfl) (by kernel_rfl) (by kernel_rfl)
 obtain ⟨ext, hfind, cT⟩ := cmpExt
 have hext66 := @run_callFunc_extern Tryz.prog 283 _ ext Tryz.func283 (by kernel_rfl) (by kernel_rfl) (by kernel_rfl) hfind
 clear hfind
 have tT := typeOfS
 have mR := methodComparable
 have nW := noIsF
 have nE := noIsS
 have uW := unwF
 have uE := noUnwS
 have vE := noUnwsS
 have mU := methodUnwrap
 have hal : a.block < w.heap.size := (Array.getElem?_eq_some_iff.1 ha).1
 have hbl : b.block < w.heap.size := (Array.getElem?_eq_some_iff.1 hb).1
 have heq := run_eql_iface_ptr_other (P := Tryz.prog) (w.alloc (.cells #[.int .i64 k, .iface 350 (.pointer (some a))] 97)) Tryz.underlying52 Tryz.underlying350 hi hcmp hj (by rw [hjs]; decide) hne ((Below.heap_alloc _ _ _ hal).trans ha) ((Below.heap_alloc _ _ _ hbl).trans hb)
 have hty := fun w => run_eql_iface_types (P := Tryz.prog) 97 350 (.agg #[.int .i64 k, .iface 350 (.pointer (some a))]) (.pointer (some b)) Tryz.underlying52 (by decide) w
 clear ha hb hal hbl
 go_enter Tryz.func55, Tryz.ntmps55
 go_wp2
 refine wp_loop_rounds 2 ?_
 rw [rounds_succ]
 go_wp2
 rw [rounds_succ]
 go_wp2
 go_ret
 exact ⟨rfl, (Below.refl _ _).alloc (by simp) _⟩
structure Ads where
 sh : Addr
 tg : Addr
 mo : Addr
 no : Addr
 ki : Addr
 la : Addr
def Lies (w : World) (a : Addr) : Prop := ∃ c t, w.heap[a.block]? = some (.cells c t (0, 0))
theorem Lies.lt {w : World} {a : Addr} (h : Lies w a) : a.block < w.heap.size := by obtain ⟨_, _, h⟩ := h; exact (Array.getElem?_eq_some_iff.1 h).1
theorem Lies.of {w w' : World} {a : Addr} (h : Lies w a) (e : w'.heap[a.block]? = w.heap[a.block]?) : Lies w' a := by obtain ⟨c, t, h⟩ := h; exact ⟨c, t, e.trans h⟩
structure TG (A : Ads) (w : World) : Prop where
 ty : w.cell? ⟨15, 0, none⟩ = some (.iface 180 (.agg #[.pointer (some ⟨29, 52, none⟩)]))
 sh : w.cell? ⟨16, 0, none⟩ = some (.iface 350 (.pointer (some A.sh)))
 tg : w.cell? ⟨17, 0, none⟩ = some (.iface 350 (.pointer (some A.tg)))
 mo : w.cell? ⟨4, 0, none⟩ = some (.iface 350 (.pointer (some A.mo)))
 no : w.cell? ⟨12, 0, none⟩ = some (.iface 350 (.pointer (some A.no)))
 ki : w.cell? ⟨13, 0, none⟩ = some (.iface 350 (.pointer (some A.ki)))
 la : w.cell? ⟨14, 0, none⟩ = some (.iface 350 (.pointer (some A.la)))
 lsh : Lies w A.sh
 ltg : Lies w A.tg
 lmo : Lies w A.mo
 lno : Lies w A.no
 lki : Lies w A.ki
 lla : Lies w A.la
 ne : A.tg ≠ A.sh /\ A.mo ≠ A.sh /\ A.no ≠ A.sh /\ A.ki ≠ A.sh /\ A.la ≠ A.sh /\ A.mo ≠ A.tg /\ A.no ≠ A.tg /\ A.ki ≠ A.tg /\ A.la ≠ A.tg /\ A.no ≠ A.mo /\ A.ki ≠ A.mo /\ A.la ≠ A.mo
theorem TG.of {A : Ads} {w w' : World} (g : TG A w) (hc : ∀ k, k < 29 -> k < w.heap.size -> w'.heap[k]? = w.heap[k]?) (hl : ∀ a, Lies w a -> (a = A.sh \/ a = A.tg \/ a = A.mo \/ a = A.no \/ a = A.ki \/ a = A.la) -> w'.heap[a.block]? = w.heap[a.block]?) : TG A w' := by
 have c : ∀ (k : Nat) (v : Value), k < 29 -> w.cell? ⟨k, 0, none⟩ = some v -> w'.cell? ⟨k, 0, none⟩ = some v := fun k v hk h => (World.cell?_of_block (w := w) (a := ⟨k, 0, none⟩) (hc k hk (lt_of_cell h))).trans h
 exact ⟨c _ _ (by decide) g.ty, c _ _ (by decide) g.sh, c _ _ (by decide) g.tg, c _ _ (by decide) g.mo, c _ _ (by decide) g.no, c _ _ (by decide) g.ki, c _ _ (by decide) g.la,
  g.lsh.of (hl _ g.lsh (by simp)), g.ltg.of (hl _ g.ltg (by simp)), g.lmo.of (hl _ g.lmo (by simp)), g.lno.of (hl _ g.lno (by simp)), g.lki.of (hl _ g.lki (by simp)), g.lla.of (hl _ g.lla (by simp)), g.ne⟩
theorem TG.below {A : Ads} {w w' : World} (g : TG A w) {B : Nat} (hB : w.heap.size <= B) (h : Below B w w') : TG A w' :=
 g.of (fun k _ hk => h.block k (by omega)) (fun a ha _ => h.block _ (by have := ha.lt; omega))
def IsWhy (A : Ads) (u : Value) (E : Int) : Prop := u = .iface 149 (.agg #[.int .i64 E]) \/
 ∃ a, u = .iface 350 (.pointer (some a)) /\ (a = A.sh /\ E = 10 \/ a = A.tg /\ E = 20 \/ a = A.mo /\ E = 11 \/ (a = A.no \/ a = A.ki \/ a = A.la) /\ E = 21)
def IsErr (A : Ads) (v : Value) (E : Int) : Prop := ∃ k u, v = .iface 97 (.agg #[.int .i64 k, u]) /\ IsWhy A u E
theorem Is_any (k : Int) (a b : Addr) (w : World) (ha : Lies w a) (hb : Lies w b) (w1 : World) (h : Below w.heap.size w w1) :
  Calls Tryz.prog 55 #[.iface 97 (.agg #[.int .i64 k, .iface 350 (.pointer (some a))]), .iface 350 (.pointer (some b))] w1 fun e w' => e = .returned (.bool (decide (a = b))) /\ Below w.heap.size w w' := by
 by_cases e : a = b
 ·subst e
  rw [decide_eq_true rfl]
  exact (Is_same k a w1).mono fun _ _ ⟨h1, h2⟩ => ⟨h1, h.trans (h2.mono h.size)⟩
 ·rw [decide_eq_false e]
  obtain ⟨ca, ta, ha'⟩ := ha.of (h.block _ ha.lt)
  obtain ⟨cb, tb, hb'⟩ := hb.of (h.block _ hb.lt)
  exact (Is_other k a b ca cb ta tb w1 e ha' hb').mono fun _ _ ⟨h1, h2⟩ => ⟨h1, h.trans (h2.mono h.size)⟩
theorem errnoOf_size (k n : Int) (A : Ads) (w : World) (g : TG A w) :
  Calls Tryz.prog 60 #[.iface 97 (.agg #[.int .i64 k, .iface 149 (.agg #[.int .i64 n])])] w fun e w' => e = .returned (.int .i64 n) /\ Below w.heap.size w w' := by
 have gt := (g.below (Nat.le_refl _) ((Below.refl _ _).alloc (Nat.le_refl _) (.cells #[.int .i64 0] 149))).ty
 have H := As_gives _ _ true _ (as2 n k) ⟨w.heap.size, 0, none⟩ (.int .i64 0) (w.alloc (.cells #[.int .i64 0] 149)) gt (by simp) (by simp)
 clear gt g
 go_enter Tryz.func60, Tryz.ntmps60
 go_wp2_with (go_at_call 54; refine H.mono ?_; rintro e w' ⟨rfl, hb, hc⟩)
 go_ret
 exact ⟨rfl, ((Below.refl _ _).alloc (Nat.le_refl _) _).trans hb⟩
theorem errnoOf_sent (k : Int) (a : Addr) (E : Int) (A : Ads) (w : World) (g : TG A w) (la : Lies w a) (hE : E = if a = A.sh then 10 else if a = A.tg then 20 else if a = A.mo then 11 else 21) :
  Calls Tryz.prog 60 #[.iface 97 (.agg #[.int .i64 k, .iface 350 (.pointer (some a))])] w fun e w' => e = .returned (.int .i64 E) /\ Below w.heap.size w w' := by
 have gt := (g.below (Nat.le_refl _) ((Below.refl _ _).alloc (Nat.le_refl _) (.cells #[.int .i64 0] 149))).ty
 have H := As_gives _ _ false _ (as3 k a) ⟨w.heap.size, 0, none⟩ (.int .i64 0) (w.alloc (.cells #[.int .i64 0] 149)) gt (by simp) (by simp)
 have I1 := H_ (Is_any k a A.sh w la g.lsh)
 have I2 := H_ (Is_any k a A.tg w la g.ltg)
 have I3 := H_ (Is_any k a A.mo w la g.lmo)
 have HE := H_ hE
 have G := H_ (show ∀ w1, Below w.heap.size w w1 -> w1.cell? ⟨16, 0, none⟩ = some (.iface 350 (.pointer (some A.sh))) /\ w1.cell? ⟨17, 0, none⟩ = some (.iface 350 (.pointer (some A.tg))) /\ w1.cell? ⟨4, 0, none⟩ = some (.iface 350 (.pointer (some A.mo))) from
  fun w1 h => ⟨(g.below (Nat.le_refl _) h).sh, (g.below (Nat.le_refl _) h).tg, (g.below (Nat.le_refl _) h).mo⟩)
 clear gt g hE la
 go_enter Tryz.func60, Tryz.ntmps60
 go_wp2_with fail
 refine H.mono ?_
 rintro e w1 ⟨rfl, hb, _⟩
 have hb1 : Below w.heap.size w w1 := ((Below.refl _ _).alloc (Nat.le_refl _) _).trans hb
 obtain ⟨c1, _, _⟩ := (un G) w1 hb1
 clear hb H
 go_wp2_with fail
 refine ((un I1) w1 hb1).mono ?_
 rintro e w2 ⟨rfl, hb2⟩
 obtain ⟨_, c2, _⟩ := (un G) w2 hb2
 clear I1 c1
 by_cases e1 : a = A.sh
 ·rw [decide_eq_true e1]
  go_wp2
  go_ret
  exact ⟨by rw [un HE, if_pos e1]; rfl, hb2⟩
 ·rw [decide_eq_false e1]
  go_wp2_with fail
  refine ((un I2) w2 hb2).mono ?_
  rintro e w3 ⟨rfl, hb3⟩
  obtain ⟨_, _, c3⟩ := (un G) w3 hb3
  clear I2 c2
  by_cases e2 : a = A.tg
  ·rw [decide_eq_true e2]
   go_wp2
   go_ret
   exact ⟨by rw [un HE, if_neg e1, if_pos e2]; rfl, hb3⟩
  ·rw [decide_eq_false e2]
   go_wp2_with fail
   refine ((un I3) w3 hb3).mono ?_
   rintro e w4 ⟨rfl, hb4⟩
   by_cases e3 : a = A.mo
   ·rw [decide_eq_true e3]
    go_wp2
    go_ret
    exact ⟨by rw [un HE, if_neg e1, if_neg e2, if_pos e3]; rfl, hb4⟩
   ·rw [decide_eq_false e3]
    go_wp2
    go_ret
    exact ⟨by rw [un HE, if_neg e1, if_neg e2, if_neg e3]; rfl, hb4⟩
theorem errnoOf_any (A : Ads) (v : Value) (E : Int) (h : IsErr A v E) (w : World) (g : TG A w) :
  Calls Tryz.prog 60 #[v] w fun e w' => e = .returned (.int .i64 E) /\ Below w.heap.size w w' := by
 obtain ⟨k, u, rfl, rfl | ⟨a, rfl, h⟩⟩ := h
 ·exact errnoOf_size k E A w g
 ·obtain ⟨n1, n2, n3, n4, n5, n6, n7, n8, n9, n10, n11, n12⟩ := g.ne
  rcases h with ⟨rfl, rfl⟩ | ⟨rfl, rfl⟩ | ⟨rfl, rfl⟩ | ⟨rfl | rfl | rfl, rfl⟩
  ·exact errnoOf_sent k _ _ A w g g.lsh (by simp)
  ·exact errnoOf_sent k _ _ A w g g.ltg (by simp [n1])
  ·exact errnoOf_sent k _ _ A w g g.lmo (by simp [n2, n6])
  ·exact errnoOf_sent k _ _ A w g g.lno (by simp [n3, n7, n10])
  ·exact errnoOf_sent k _ _ A w g g.lki (by simp [n4, n8, n11])
  ·exact errnoOf_sent k _ _ A w g g.lla (by simp [n5, n9, n12])
end Go.Proofs.YtmenllnokgjdlaaGreatDoor.T
/-
 Laws on trees of tags, their bytes, and what is read of bytes: plain mathematics; no program. Conditions: none.
-/
namespace Tv
theorem okL_eq {α : Type} (f : Nat -> α -> Option Nat) (S : α -> Bool) (N : α -> Nat) (hf : ∀ c x, c <= 200 -> f c x = if S x = true /\ c + N x <= 200 then some (c + N x) else none) :
  ∀ (xs : List α) (c : Nat), c <= 200 -> okL f c xs = if xs.all S = true /\ c + (xs.map N).sum <= 200 then some (c + (xs.map N).sum) else none
 | [], c, hc => by simp [okL, hc]
 | x :: xs, c, hc => by
  unfold okL
  rw [hf c x hc]
  by_cases h : S x = true /\ c + N x <= 200
  ·rw [if_pos h, Option.bind_some, okL_eq f S N hf xs _ h.2]
   simp only [List.all_cons, h.1, Bool.true_and, List.map_cons, List.sum_cons, Nat.add_assoc]
  ·rw [if_neg h, Option.bind_none, if_neg]
   rintro ⟨h1, h2⟩
   simp at h1 h2
   exact h ⟨h1.1, by omega⟩
theorem count_pos : ∀ (n : Nat) (T : Tr n), 1 <= count n T
 | 0, t => Empty.elim t
 | n + 1, T => by unfold count; omega
theorem okT_eq : ∀ (n : Nat) (c deep : Nat) (T : Tr n), c <= 200 -> okT n c deep T = if shape n (13 - deep) T = true /\ c + count n T <= 200 then some (c + count n T) else none
 | 0, _, _, t, _ => Empty.elim t
 | n + 1, c, deep, T, hc => by
  unfold okT
  by_cases h : c < 200 /\ deep <= 12 /\ fitB (tag T) (dat T).size (kids T).length = true
  ·rw [if_pos h, okL_eq _ (shape n (13 - (deep + 1))) (count n) (fun c' x hc' => okT_eq n c' (deep + 1) x hc') _ _ (by omega)]
   have e : shape (n + 1) (13 - deep) T = (kids T).all (shape n (13 - (deep + 1))) := by
    unfold shape
    rw [h.2.2, show 13 - deep - 1 = 13 - (deep + 1) by omega]
    simp
    omega
   rw [e]
   unfold count
   simp only [Nat.add_assoc]
  ·rw [if_neg h, if_neg]
   rintro ⟨h1, h2⟩
   have := count_pos (n + 1) T
   unfold shape at h1
   simp at h1
   exact h ⟨by omega, by omega, h1.1.2⟩
theorem okT_right (n : Nat) (T : Tr n) : (okT n 0 1 T).isSome = (shape n 12 T && decide (count n T <= 200)) := by
 rw [okT_eq n 0 1 T (by omega)]
 by_cases h : shape n (13 - 1) T = true /\ 0 + count n T <= 200
 ·rw [if_pos h]; simp at h; simp [h]
 ·rw [if_neg h]
  cases h1 : shape n 12 T
  ·rfl
  ·simp at h
   simp
   exact h h1
theorem least_len (n : Nat) : (Sz.least n).length <= 5 := by
 rw [Sz.least_length]; have := Sz.wd_le n; split <;> omega
theorem enc_len {n : Nat} (T : Tr (n + 1)) : (enc (n + 1) T).length = 1 + (Sz.least (body T).length).length + (body T).length := by
 rw [enc_succ]; simp; omega
theorem flat_len {α : Type} (f : α -> List UInt8) (g : α -> Nat) : ∀ (xs : List α), (∀ x ∈ xs, (f x).length <= g x) -> (xs.map f).flatten.length <= (xs.map g).sum
 | [], _ => by simp
 | x :: xs, h => by
  have h1 := h x (by simp)
  have h2 := flat_len f g xs (fun y hy => h y (by simp [hy]))
  simp at h2 ⊢
  omega
theorem sum_mul {α : Type} (f : α -> Nat) (k : Nat) : ∀ (xs : List α), (xs.map fun x => f x * k).sum = (xs.map f).sum * k
 | [] => by simp
 | x :: xs => by simp [sum_mul f k xs, Nat.add_mul]
theorem enc_small : ∀ (n : Nat) (T : Tr n), small n T = true -> (enc n T).length <= count n T * 9010
 | 0, t, _ => Empty.elim t
 | n + 1, T, h => by
  unfold small at h
  simp only [Bool.and_eq_true, decide_eq_true_eq, List.all_eq_true] at h
  have h2 := flat_len (enc n) (fun x => count n x * 9010) (kids T) (fun x hx => enc_small n x (h.2 x hx))
  rw [sum_mul] at h2
  have h3 := least_len (body T).length
  have h4 : (body T).length = (dat T).size + ((kids T).map (enc n)).flatten.length := by unfold body; rw [List.length_append]; rfl
  have h5 : count (n + 1) T = 1 + ((kids T).map (count n)).sum := rfl
  rw [enc_len, h5]
  omega
theorem kid_le {α : Type} (f : α -> List UInt8) : ∀ (xs : List α) (x : α), x ∈ xs -> (f x).length <= (xs.map f).flatten.length
 | y :: ys, x, h => by
  simp only [List.map_cons, List.flatten_cons, List.length_append]
  rcases List.mem_cons.1 h with rfl | h
  ·omega
  ·have := kid_le f ys x h; omega
theorem kid_body {n : Nat} (T : Tr (n + 1)) (x : Tr n) (h : x ∈ kids T) : (enc n x).length <= (body T).length := by
 have := kid_le (enc n) (kids T) x h
 unfold body
 simp only [List.length_append]
 omega
theorem nil_of_size {d : ByteArray} (h : d.size = 0) : d = ⟨#[]⟩ := by
 cases d with | mk a =>
 have : a.size = 0 := h
 rw [Array.eq_empty_of_size_eq_zero this]
theorem fit_iff (t : Int) (d k : Nat) : fitB t d k = true ↔ (0 <= t /\ t <= 255 /\ t % 32 ≠ 31 /\ (isIn t = true -> d = 0) /\ (isIn t = false -> k = 0)) := by
 unfold fitB; rw [decide_eq_true_iff]
theorem shape_succ {n k : Nat} {T : Tr (n + 1)} (h : shape (n + 1) k T = true) : 0 < k /\ fitB (tag T) (dat T).size (kids T).length = true /\ ∀ x ∈ kids T, shape n (k - 1) x = true := by
 unfold shape at h
 simp only [Bool.and_eq_true, decide_eq_true_eq, List.all_eq_true] at h
 exact ⟨h.1.1, h.1.2, h.2⟩
theorem readL_props {α : Type} (rd : Nat -> Nat -> Except Int (α × Nat × Nat)) (en : α -> List UInt8) (N : α -> Nat) (S : α -> Prop) (stop : Nat)
  (hr : ∀ q c x nx c', c <= 200 -> rd q c = .ok (x, nx, c') -> q + (en x).length <= nx /\ nx <= stop /\ q < nx /\ S x /\ c' = c + N x /\ c' <= 200) :
  ∀ (fuel p c : Nat) (xs : List α) (c' : Nat), c <= 200 -> p <= stop -> readL rd fuel p stop c = .ok (xs, c') -> p + (xs.map en).flatten.length <= stop /\ (∀ x ∈ xs, S x) /\ c' = c + (xs.map N).sum /\ c' <= 200
 | 0, p, c, xs, c', hc, hp, h => by
  simp only [readL, Except.ok.injEq, Prod.mk.injEq] at h
  obtain ⟨rfl, rfl⟩ := h
  simp [hc, hp]
 | f + 1, p, c, xs, c', hc, hp, h => by
  unfold readL at h
  by_cases hlt : p < stop
  ·rw [if_pos hlt] at h
   cases hrd : rd p c with
   | error e => rw [hrd] at h; cases h
   | ok r =>
    obtain ⟨x, nx, c1⟩ := r
    rw [hrd] at h
    obtain ⟨g1, g2, g3, g4, g5, g6⟩ := hr p c x nx c1 hc hrd
    simp only at h
    cases hl : readL rd f nx stop c1 with
    | error e => rw [hl] at h; cases h
    | ok r =>
     obtain ⟨ys, c2⟩ := r
     rw [hl] at h
     simp only [Except.ok.injEq, Prod.mk.injEq] at h
     obtain ⟨rfl, rfl⟩ := h
     obtain ⟨i1, i2, i3, i4⟩ := readL_props rd en N S stop hr f nx c1 ys c2 g6 g2 hl
     refine ⟨by simp at i1 ⊢; omega, ?_, by simp; omega, i4⟩
     intro y hy
     rcases List.mem_cons.1 hy with rfl | hy
     ·exact g4
     ·exact i2 y hy
  ·rw [if_neg hlt] at h
   simp only [Except.ok.injEq, Prod.mk.injEq] at h
   obtain ⟨rfl, rfl⟩ := h
   simp [hc, hp]
theorem headT_ok {l : List UInt8} {p stop t a b : Nat} (hs : stop <= l.length) (h : headT l p stop = .ok (t, a, b)) :
  p < stop /\ p + 2 <= a /\ a <= b /\ b <= stop /\ t = (l.getD p 0).toNat /\ t < 256 /\ t % 32 ≠ 31 /\ b - a <= 16777215 /\ (Sz.least (b - a)).length <= a - (p + 1) := by
 unfold headT at h
 by_cases h1 : p = stop
 ·rw [if_pos h1] at h; cases h
 ·rw [if_neg h1] at h
  by_cases h2 : (l.getD p 0).toNat % 32 = 31
  ·rw [if_pos h2] at h; cases h
  ·rw [if_neg h2] at h
   obtain ⟨n, q, E, hd⟩ : ∃ n q E, Sz.dec (l.take stop) ((p : Int) + 1) = (n, q, E) := ⟨_, _, _, rfl⟩
   rw [hd] at h
   simp only at h
   by_cases h3 : E ≠ 0
   ·rw [if_pos h3] at h; cases h
   ·rw [if_neg h3] at h
    have hE : E = 0 := by simpa using h3
    obtain ⟨k, n', q', e1, rfl, rfl, e4, e5, e6, e7, _⟩ := (Sz.dec_shape _ _ _ _ _ hd).2 hE
    by_cases h4 : (stop : Int) - (q' : Int) < (n' : Int)
    ·rw [if_pos h4] at h; cases h
    ·rw [if_neg h4] at h
     simp only [Except.ok.injEq, Prod.mk.injEq, Int.toNat_natCast] at h
     obtain ⟨rfl, rfl, rfl⟩ := h
     have hlt := (l.getD p 0).toNat_lt
     simp at e5
     rw [show q' + n' - q' = n' by omega]
     exact ⟨by omega, by omega, by omega, by omega, rfl, hlt, h2, e6, by omega⟩
theorem readT_props (l : List UInt8) : ∀ (k : Nat) (p stop c : Nat) (T : Tr (k + 1)) (nx c' : Nat), stop <= l.length -> c <= 200 -> readT l k p stop c = .ok (T, nx, c') ->
  p + (enc (k + 1) T).length <= nx /\ nx <= stop /\ p + 2 <= nx /\ (shape (k + 1) k T = true /\ (stop <= 9000 -> small (k + 1) T = true)) /\ c' = c + count (k + 1) T /\ c' <= 200
 | 0, p, stop, c, T, nx, c', _, _, h => by simp [readT] at h
 | k + 1, p, stop, c, T, nx, c', hs, hc, h => by
  unfold readT at h
  by_cases h1 : c = 200
  ·rw [if_pos h1] at h; cases h
  ·rw [if_neg h1] at h
   cases hh : headT l p stop with
   | error e => rw [hh] at h; cases h
   | ok r =>
    obtain ⟨t, a, b⟩ := r
    obtain ⟨g1, g2, g3, g4, _, g5, g6, g7, g8⟩ := headT_ok hs hh
    rw [hh] at h
    simp only at h
    by_cases hi : isIn t = true
    ·rw [if_pos hi] at h
     cases hl : readL (fun q c' => readT l k q b c') (b - a) a b (c + 1) with
     | error e => rw [hl] at h; cases h
     | ok r =>
      obtain ⟨ks, c2⟩ := r
      rw [hl] at h
      simp only [Except.ok.injEq, Prod.mk.injEq] at h
      obtain ⟨rfl, rfl, rfl⟩ := h
      obtain ⟨i1, i2, i3, i4⟩ := readL_props _ (enc (k + 1)) (count (k + 1)) (fun T => shape (k + 1) k T = true /\ (b <= 9000 -> small (k + 1) T = true)) b
       (fun q c x nx c' hc' hx => by
        obtain ⟨j1, j2, j3, j4, j5, j6⟩ := readT_props l k q b c x nx c' (by omega) hc' hx
        exact ⟨j1, j2, by omega, j4, j5, j6⟩) _ _ _ _ _ (by omega) g3 hl
      have hbl : (body (mk (t : Int) (⟨#[]⟩ : ByteArray) ks)).length = (ks.map (enc (k + 1))).flatten.length := by unfold body; simp
      have hm : (Sz.least (ks.map (enc (k + 1))).flatten.length).length <= (Sz.least (b - a)).length := by
       rw [Sz.least_length, Sz.least_length]
       have := Sz.wd_le (ks.map (enc (k + 1))).flatten.length
       by_cases q1 : (ks.map (enc (k + 1))).flatten.length < 128
       ·rw [if_pos q1]; split <;> omega
       ·rw [if_neg q1, if_neg (by omega)]
        have := Sz.wd_min (ks.map (enc (k + 1))).flatten.length (Sz.wd (b - a)) (Sz.wd_le _) (Nat.lt_of_le_of_lt (by omega) (Sz.lt_pow_wd (b - a) (by omega)))
        omega
      refine ⟨by rw [enc_len, hbl]; omega, g4, by omega, ⟨?_, ?_⟩, by rw [i3]; unfold count; simp only [kids_mk]; omega, i4⟩
      ·unfold shape
       simp only [tag_mk, dat_mk, kids_mk, Bool.and_eq_true, decide_eq_true_eq, List.all_eq_true]
       refine ⟨⟨by omega, (fit_iff _ _ _).2 ⟨by omega, by omega, by omega, fun _ => rfl, (fun e => by rw [hi] at e; cases e)⟩⟩, fun x hx => (i2 x hx).1⟩
      ·intro h5
       unfold small
       simp only [dat_mk, kids_mk, Bool.and_eq_true, List.all_eq_true]
       exact ⟨decide_eq_true (Nat.zero_le _), fun x hx => (i2 x hx).2 (by omega)⟩
    ·rw [if_neg hi] at h
     simp only [Except.ok.injEq, Prod.mk.injEq] at h
     obtain ⟨rfl, rfl, rfl⟩ := h
     have hi' : isIn t = false := by simpa using hi
     have hsz : ((l.drop a).take (b - a)).length = b - a := by simp; omega
     have hbl : (body (mk (n := k + 1) (t : Int) (⟨((l.drop a).take (b - a)).toArray⟩ : ByteArray) [])).length = b - a := by unfold body; simp; omega
     refine ⟨by rw [enc_len, hbl]; omega, g4, by omega, ⟨?_, ?_⟩, by unfold count; simp, by omega⟩
     ·unfold shape
      simp only [tag_mk, dat_mk, kids_mk, Bool.and_eq_true, decide_eq_true_eq, List.all_eq_true]
      exact ⟨⟨by omega, (fit_iff _ _ _).2 ⟨by omega, by omega, by omega, (fun e => by rw [hi'] at e; cases e), fun _ => rfl⟩⟩, fun x hx => by cases hx⟩
     ·intro h5
      unfold small
      simp only [dat_mk, kids_mk, Bool.and_eq_true, List.all_eq_true]
      refine ⟨decide_eq_true ?_, fun x hx => by cases hx⟩
      show (List.toArray _).size <= 9000
      simp
      omega
end Tv
/-
 What lies in memory of a tree: 'Node'; and small laws on it. Conditions: none.
-/
namespace Go.Proofs.YtmenllnokgjdlaaGreatDoor
open Go.RowKit Tv
def Node : (n : Nat) -> World -> (Nat -> Prop) -> Value -> Tr n -> Prop
 | 0, _, _, _, t => Empty.elim t
 | n + 1, W, p, v, T => ∃ a cap, v = .agg #[.int .i64 (tag T), .string (dat T), .slice a (kids T).length cap] /\ (dat T).size <= 9000 /\ (kids T).length <= 4000 /\
   (kids T = [] \/ ∃ g off, a = some ⟨g, off, none⟩ /\ p g /\ ∀ (i : Nat) x, (kids T)[i]? = some x -> ∃ c0 c1 c2, W.cell? ⟨g, off + i * 3, none⟩ = some c0 /\ W.cell? ⟨g, off + i * 3 + 1, none⟩ = some c1 /\ W.cell? ⟨g, off + i * 3 + 2, none⟩ = some c2 /\ Node n W p (.agg #[c0, c1, c2]) x)
theorem Node.of : ∀ {n : Nat} {W W' : World} {p : Nat -> Prop} {v : Value} {T : Tr n}, Node n W p v T -> (∀ b, p b -> b < W.heap.size -> W'.heap[b]? = W.heap[b]?) -> Node n W' p v T
 | 0, _, _, _, _, t, _, _ => Empty.elim t
 | n + 1, W, W', p, v, T, ⟨a, cap, hv, hd, hk, h⟩, hb => by
  refine ⟨a, cap, hv, hd, hk, ?_⟩
  rcases h with h | ⟨g, off, ha, hp, hx⟩
  ·exact .inl h
  ·refine .inr ⟨g, off, ha, hp, fun i x hi => ?_⟩
   obtain ⟨c0, c1, c2, h0, h1, h2, h3⟩ := hx i x hi
   have e : W'.heap[g]? = W.heap[g]? := hb g hp (lt_of_cell h0)
   exact ⟨c0, c1, c2, (World.cell?_of_block (w := W) (a := ⟨g, off + i * 3, none⟩) e).trans h0, (World.cell?_of_block (w := W) (a := ⟨g, off + i * 3 + 1, none⟩) e).trans h1, (World.cell?_of_block (w := W) (a := ⟨g, off + i * 3 + 2, none⟩) e).trans h2, Node.of h3 hb⟩
theorem Node.imp : ∀ {n : Nat} {W : World} {p q : Nat -> Prop} {v : Value} {T : Tr n}, Node n W p v T -> (∀ b, p b -> b < W.heap.size -> q b) -> Node n W q v T
 | 0, _, _, _, _, t, _, _ => Empty.elim t
 | n + 1, W, p, q, v, T, ⟨a, cap, hv, hd, hk, h⟩, hb => by
  refine ⟨a, cap, hv, hd, hk, ?_⟩
  rcases h with h | ⟨g, off, ha, hp, hx⟩
  ·exact .inl h
  ·cases hks : kids T with
   | nil => exact .inl rfl
   | cons y ys =>
    rw [hks] at hx
    obtain ⟨_, _, _, h0, _, _, _⟩ := hx 0 y rfl
    refine .inr ⟨g, off, ha, hb g hp (lt_of_cell h0), fun i x hi => ?_⟩
    obtain ⟨c0, c1, c2, h0, h1, h2, h3⟩ := hx i x hi
    exact ⟨c0, c1, c2, h0, h1, h2, Node.imp h3 hb⟩
theorem Node.below {n : Nat} {W W' : World} {p : Nat -> Prop} {v : Value} {T : Tr n} (h : Node n W p v T) (hb : Below W.heap.size W W') : Node n W' p v T := h.of fun b _ hl => hb.block b hl
theorem Node.but {n : Nat} {W W' : World} {p : Nat -> Prop} {v : Value} {T : Tr n} {b : Nat} (h : Node n W p v T) (hb : But b W W') (hp : ¬ p b) : Node n W' p v T := h.of fun k hk hl => hb.block k hl (fun e => hp (e ▸ hk))
theorem Node.shape {n : Nat} {W : World} {p : Nat -> Prop} {v : Value} {T : Tr (n + 1)} (h : Node (n + 1) W p v T) : ∃ a cap, v = .agg #[.int .i64 (tag T), .string (dat T), .slice a (kids T).length cap] /\ (dat T).size <= 9000 /\ (kids T).length <= 4000 /\
   ∀ (i : Nat) (hi : i < (kids T).length), ∃ g off, a = some ⟨g, off, none⟩ /\ p g /\ ∃ t d a' len' cap', W.cell? ⟨g, off + i * 3, none⟩ = some (.int .i64 t) /\ W.cell? ⟨g, off + i * 3 + 1, none⟩ = some (.string d) /\ W.cell? ⟨g, off + i * 3 + 2, none⟩ = some (.slice a' len' cap') /\
    Node n W p (.agg #[.int .i64 t, .string d, .slice a' len' cap']) (kids T)[i] := by
 obtain ⟨a, cap, hv, hd, hk, h⟩ := h
 refine ⟨a, cap, hv, hd, hk, fun i hi => ?_⟩
 rcases h with h | ⟨g, off, ha, hp, hx⟩
 ·rw [h] at hi; cases hi
 ·obtain ⟨c0, c1, c2, h0, h1, h2, h3⟩ := hx i _ (List.getElem?_eq_getElem hi)
  cases n with
  | zero => exact Empty.elim (kids T)[i]
  | succ m =>
   have h3' := h3
   obtain ⟨a', cap', e, _, _, _⟩ := h3'
   injection e with e
   have e' := congrArg Array.toList e
   simp only [List.cons.injEq, and_true] at e'
   obtain ⟨rfl, rfl, rfl⟩ := e'
   exact ⟨g, off, ha, hp, _, _, _, _, _, h0, h1, h2, h3⟩
end Go.Proofs.YtmenllnokgjdlaaGreatDoor
