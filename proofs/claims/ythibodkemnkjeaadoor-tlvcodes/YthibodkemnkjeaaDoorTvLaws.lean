/-
  Laws on trees of tags, their bytes, and what is read of bytes: plain mathematics; no program. Conditions: none.
-/
import Derived.Test.YthibodkemnkjeaaDoorTvPure
namespace Tv

/-! ### passed in order -/
theorem okL_eq {α : Type} (f : Nat → α → Option Nat) (S : α → Bool) (N : α → Nat) (hf : ∀ c x, c ≤ 200 → f c x = if S x = true ∧ c + N x ≤ 200 then some (c + N x) else none) :
    ∀ (xs : List α) (c : Nat), c ≤ 200 → okL f c xs = if xs.all S = true ∧ c + (xs.map N).sum ≤ 200 then some (c + (xs.map N).sum) else none
  | [], c, hc => by simp [okL, hc]
  | x :: xs, c, hc => by
    unfold okL
    rw [hf c x hc]
    by_cases h : S x = true ∧ c + N x ≤ 200
    · rw [if_pos h, Option.bind_some, okL_eq f S N hf xs _ h.2]
      simp only [List.all_cons, h.1, Bool.true_and, List.map_cons, List.sum_cons, Nat.add_assoc]
    · rw [if_neg h, Option.bind_none, if_neg]
      rintro ⟨h1, h2⟩
      simp at h1 h2
      exact h ⟨h1.1, by omega⟩
theorem count_pos : ∀ (n : Nat) (T : Tr n), 1 ≤ count n T
  | 0, t => Empty.elim t
  | n + 1, T => by unfold count; omega
theorem okT_eq : ∀ (n : Nat) (c deep : Nat) (T : Tr n), c ≤ 200 → okT n c deep T = if shape n (13 - deep) T = true ∧ c + count n T ≤ 200 then some (c + count n T) else none
  | 0, _, _, t, _ => Empty.elim t
  | n + 1, c, deep, T, hc => by
    unfold okT
    by_cases h : c < 200 ∧ deep ≤ 12 ∧ fitB (tag T) (dat T).size (kids T).length = true
    · rw [if_pos h, okL_eq _ (shape n (13 - (deep + 1))) (count n) (fun c' x hc' => okT_eq n c' (deep + 1) x hc') _ _ (by omega)]
      have e : shape (n + 1) (13 - deep) T = (kids T).all (shape n (13 - (deep + 1))) := by
        unfold shape
        rw [h.2.2, show 13 - deep - 1 = 13 - (deep + 1) by omega]
        simp
        omega
      rw [e]
      unfold count
      simp only [Nat.add_assoc]
    · rw [if_neg h, if_neg]
      rintro ⟨h1, h2⟩
      have := count_pos (n + 1) T
      unfold shape at h1
      simp at h1
      exact h ⟨by omega, by omega, h1.1.2⟩
theorem okT_right (n : Nat) (T : Tr n) : (okT n 0 1 T).isSome = (shape n 12 T && decide (count n T ≤ 200)) := by
  rw [okT_eq n 0 1 T (by omega)]
  by_cases h : shape n (13 - 1) T = true ∧ 0 + count n T ≤ 200
  · rw [if_pos h]; simp at h; simp [h]
  · rw [if_neg h]
    cases h1 : shape n 12 T
    · rfl
    · simp at h
      simp
      exact h h1

/-! ### how many bytes -/
theorem least_len (n : Nat) : (Sz.least n).length ≤ 5 := by
  rw [Sz.least_length]; have := Sz.wd_le n; split <;> omega
theorem least_pos (n : Nat) : 1 ≤ (Sz.least n).length := by
  rw [Sz.least_length]; split <;> omega
theorem enc_len {n : Nat} (T : Tr (n + 1)) : (enc (n + 1) T).length = 1 + (Sz.least (body T).length).length + (body T).length := by
  rw [enc_succ]; simp; omega
theorem enc_two : ∀ (n : Nat) (T : Tr n), 2 ≤ (enc n T).length
  | 0, t => Empty.elim t
  | n + 1, T => by rw [enc_len]; have := least_pos (body T).length; omega
theorem flat_len {α : Type} (f : α → List UInt8) (g : α → Nat) : ∀ (xs : List α), (∀ x ∈ xs, (f x).length ≤ g x) → (xs.map f).flatten.length ≤ (xs.map g).sum
  | [], _ => by simp
  | x :: xs, h => by
    have h1 := h x (by simp)
    have h2 := flat_len f g xs (fun y hy => h y (by simp [hy]))
    simp at h2 ⊢
    omega
theorem sum_mul {α : Type} (f : α → Nat) (k : Nat) : ∀ (xs : List α), (xs.map fun x => f x * k).sum = (xs.map f).sum * k
  | [] => by simp
  | x :: xs => by simp [sum_mul f k xs, Nat.add_mul]
theorem enc_small : ∀ (n : Nat) (T : Tr n), small n T = true → (enc n T).length ≤ count n T * 9010
  | 0, t, _ => Empty.elim t
  | n + 1, T, h => by
    unfold small at h
    simp only [Bool.and_eq_true, decide_eq_true_eq, List.all_eq_true] at h
    have h2 := flat_len (enc n) (fun x => count n x * 9010) (kids T) (fun x hx => enc_small n x (h.2 x hx))
    rw [sum_mul] at h2
    have h3 := least_len (body T).length
    have h4 : (body T).length = (dat T).size + ((kids T).map (enc n)).flatten.length := by unfold body; rw [List.length_append]; rfl
    have h5 : count (n + 1) T = 1 + ((kids T).map (count n)).sum := rfl
    rw [enc_len, h5]
    omega
theorem kid_le {α : Type} (f : α → List UInt8) : ∀ (xs : List α) (x : α), x ∈ xs → (f x).length ≤ (xs.map f).flatten.length
  | y :: ys, x, h => by
    simp only [List.map_cons, List.flatten_cons, List.length_append]
    rcases List.mem_cons.1 h with rfl | h
    · omega
    · have := kid_le f ys x h; omega
theorem kid_body {n : Nat} (T : Tr (n + 1)) (x : Tr n) (h : x ∈ kids T) : (enc n x).length ≤ (body T).length := by
  have := kid_le (enc n) (kids T) x h
  unfold body
  simp only [List.length_append]
  omega

/-! ### the same -/
theorem allB_iff {α : Type} (f : α → α → Bool) (hf : ∀ x y, f x y = true ↔ x = y) : ∀ xs ys : List α, allB f xs ys = true ↔ xs = ys
  | [], [] => by simp [allB]
  | x :: xs, y :: ys => by simp [allB, hf, allB_iff f hf xs ys]
  | [], _ :: _ => by simp [allB]
  | _ :: _, [] => by simp [allB]
theorem same_iff : ∀ (n : Nat) (A B : Tr n), same n A B = true ↔ A = B
  | 0, t, _ => Empty.elim t
  | n + 1, A, B => by
    unfold same
    simp only [Bool.and_eq_true, decide_eq_true_eq, beq_iff_eq, allB_iff _ (same_iff n)]
    constructor
    · rintro ⟨⟨h1, h2⟩, h3⟩
      have h2' : dat A = dat B := by
        cases hA : dat A with | mk a => cases hB : dat B with | mk b =>
        rw [hA, hB] at h2
        have : a = b := Array.toList_inj.1 h2
        rw [this]
      rw [← mk_eta A, ← mk_eta B, h1, h2', h3]
    · rintro rfl; exact ⟨⟨rfl, rfl⟩, rfl⟩

/-! ### a tree is read from its bytes -/
theorem nil_of_size {d : ByteArray} (h : d.size = 0) : d = ⟨#[]⟩ := by
  cases d with | mk a =>
  have : a.size = 0 := h
  rw [Array.eq_empty_of_size_eq_zero this]
theorem fit_iff (t : Int) (d k : Nat) : fitB t d k = true ↔ (0 ≤ t ∧ t ≤ 255 ∧ t % 32 ≠ 31 ∧ (isIn t = true → d = 0) ∧ (isIn t = false → k = 0)) := by
  unfold fitB; rw [decide_eq_true_iff]
theorem take_app (pre e post : List UInt8) (stop : Nat) (h : pre.length + e.length ≤ stop) : (pre ++ e ++ post).take stop = pre ++ e ++ post.take (stop - (pre.length + e.length)) := by
  rw [List.take_append, List.take_of_length_le (by simp; omega)]
  simp
theorem headT_enc {n : Nat} (T : Tr (n + 1)) (h0 : 0 ≤ tag T) (h1 : tag T ≤ 255) (h2 : tag T % 32 ≠ 31) (hb : (body T).length ≤ 16777215) (pre post : List UInt8) (stop : Nat) (hs : pre.length + (enc (n + 1) T).length ≤ stop) :
    headT (pre ++ enc (n + 1) T ++ post) pre.length stop = .ok ((tag T).toNat, pre.length + 1 + (Sz.least (body T).length).length, pre.length + (enc (n + 1) T).length) := by
  have e2 := enc_two (n + 1) T
  have hx : (UInt8.ofNat (tag T).toNat).toNat = (tag T).toNat := by simp; omega
  have hg : (pre ++ enc (n + 1) T ++ post).getD pre.length 0 = UInt8.ofNat (tag T).toNat := by
    rw [enc_succ]; simp [List.getD_eq_getElem?_getD]
  have hd : Sz.dec ((pre ++ enc (n + 1) T ++ post).take stop) ((pre.length : Int) + 1) = (((body T).length : Int), ((pre.length + 1 + (Sz.least (body T).length).length : Nat) : Int), 0) := by
    rw [take_app _ _ _ _ hs, enc_succ]
    have := Sz.dec_least (body T).length hb (pre ++ [UInt8.ofNat (tag T).toNat]) (body T ++ post.take (stop - (pre.length + (UInt8.ofNat (tag T).toNat :: (Sz.least (body T).length ++ body T)).length)))
    simp at this ⊢
    rw [this]
  have hl := enc_len T
  unfold headT
  rw [hg, hd, hx, if_neg (by omega), if_neg (by omega)]
  simp only [ne_eq, not_true_eq_false, if_false, Int.toNat_natCast]
  rw [if_neg (by omega), hl]
  congr 3
  omega
theorem readL_enc {α : Type} (rd : Nat → Nat → Except Int (α × Nat × Nat)) (en : α → List UInt8) (N : α → Nat) (he : ∀ x, 1 ≤ (en x).length) (l : List UInt8) :
    ∀ (xs : List α) (fuel c : Nat) (pre post : List UInt8), l = pre ++ (xs.map en).flatten ++ post → (xs.map en).flatten.length ≤ fuel → c + (xs.map N).sum ≤ 200 →
      (∀ x ∈ xs, ∀ (c : Nat) (pre' post' : List UInt8), l = pre' ++ en x ++ post' → pre.length + (xs.map en).flatten.length ≥ pre'.length + (en x).length → c + N x ≤ 200 → rd pre'.length c = .ok (x, pre'.length + (en x).length, c + N x)) →
      readL rd fuel pre.length (pre.length + (xs.map en).flatten.length) c = .ok (xs, c + (xs.map N).sum)
  | [], fuel, c, pre, post, _, _, _, _ => by cases fuel <;> simp [readL]
  | x :: xs, fuel, c, pre, post, hl, hf, hc, hr => by
    have h1 := he x
    simp only [List.map_cons, List.flatten_cons, List.length_append, List.sum_cons] at hf hc hr ⊢
    obtain ⟨f, rfl⟩ : ∃ f, fuel = f + 1 := ⟨fuel - 1, by omega⟩
    unfold readL
    rw [if_pos (by omega), hr x (by simp) c pre ((xs.map en).flatten ++ post) (by rw [hl]; simp) (by omega) (by omega)]
    have ih := readL_enc rd en N he l xs f (c + N x) (pre ++ en x) post (by rw [hl]; simp) (by omega) (by omega)
      (fun y hy c' pre' post' e1 e2 e3 => hr y (by simp [hy]) c' pre' post' e1 (by rw [List.length_append] at e2; omega) e3)
    simp only [List.length_append] at ih
    rw [show pre.length + ((en x).length + (xs.map en).flatten.length) = pre.length + (en x).length + (xs.map en).flatten.length by omega]
    simp only
    rw [ih]
    simp only [Nat.add_assoc]
theorem shape_succ {n k : Nat} {T : Tr (n + 1)} (h : shape (n + 1) k T = true) : 0 < k ∧ fitB (tag T) (dat T).size (kids T).length = true ∧ ∀ x ∈ kids T, shape n (k - 1) x = true := by
  unfold shape at h
  simp only [Bool.and_eq_true, decide_eq_true_eq, List.all_eq_true] at h
  exact ⟨h.1.1, h.1.2, h.2⟩
theorem readT_enc : ∀ (k : Nat) (T : Tr (k + 1)), shape (k + 1) k T = true → (enc (k + 1) T).length ≤ 16777215 → ∀ (pre post : List UInt8) (stop c : Nat), c + count (k + 1) T ≤ 200 → pre.length + (enc (k + 1) T).length ≤ stop →
    readT (pre ++ enc (k + 1) T ++ post) k pre.length stop c = .ok (T, pre.length + (enc (k + 1) T).length, c + count (k + 1) T)
  | 0, T, h, _, _, _, _, _, _, _ => by have := (shape_succ h).1; omega
  | k + 1, T, h, hb, pre, post, stop, c, hc, hs => by
    obtain ⟨_, hfit, hk⟩ := shape_succ h
    obtain ⟨f0, f1, f2, f3, f4⟩ := (fit_iff _ _ _).1 hfit
    have hl := enc_len T
    have hp := count_pos (k + 1 + 1) T
    have hcnt : count (k + 1 + 1) T = 1 + ((kids T).map (count (k + 1))).sum := rfl
    unfold readT
    rw [if_neg (by omega), headT_enc T f0 f1 f2 (by omega) pre post stop hs]
    have ht : (((tag T).toNat : Nat) : Int) = tag T := by omega
    simp only [ht]
    by_cases hi : isIn (tag T) = true
    · have hd := nil_of_size (f3 hi)
      have hbd : body T = ((kids T).map (enc (k + 1))).flatten := by unfold body; rw [hd]; rfl
      have el : pre ++ enc (k + 1 + 1) T ++ post = (pre ++ UInt8.ofNat (tag T).toNat :: Sz.least (body T).length) ++ ((kids T).map (enc (k + 1))).flatten ++ post := by rw [enc_succ, ← hbd]; simp
      have en : pre.length + (enc (k + 1 + 1) T).length = (pre ++ UInt8.ofNat (tag T).toNat :: Sz.least (body T).length).length + ((kids T).map (enc (k + 1))).flatten.length := by rw [hl, ← hbd]; simp; omega
      have ea : pre.length + 1 + (Sz.least (body T).length).length = (pre ++ UInt8.ofNat (tag T).toNat :: Sz.least (body T).length).length := by simp; omega
      rw [if_pos hi, en, ea, readL_enc _ (enc (k + 1)) (count (k + 1)) (fun x => by have := enc_two _ x; omega) _ (kids T) _ (c + 1) _ post el (by omega) (by omega)
        (fun x hx c' pre' post' e1 e2 e3 => by
          rw [← hbd] at e2 ⊢
          have := kid_body T x hx
          rw [e1]
          exact readT_enc k x (hk x hx) (by omega) pre' post' _ c' e3 (by omega))]
      simp only
      rw [hcnt, ← Nat.add_assoc, show mk (tag T) ⟨#[]⟩ (kids T) = T from by rw [← hd]; rfl]
    · have hi' : isIn (tag T) = false := by simpa using hi
      have hk0 : kids T = [] := List.length_eq_zero_iff.1 (f4 hi')
      have hbd : body T = (dat T).data.toList := by unfold body; rw [hk0]; simp
      rw [if_neg hi]
      have ec : count (k + 1 + 1) T = 1 := by rw [hcnt, hk0]; rfl
      have ed : (⟨(((pre ++ enc (k + 1 + 1) T ++ post).drop (pre.length + 1 + (Sz.least (body T).length).length)).take (pre.length + (enc (k + 1 + 1) T).length - (pre.length + 1 + (Sz.least (body T).length).length))).toArray⟩ : ByteArray) = dat T := by
        have e1 : pre ++ enc (k + 1 + 1) T ++ post = (pre ++ UInt8.ofNat (tag T).toNat :: Sz.least (body T).length) ++ (body T ++ post) := by rw [enc_succ]; simp
        have ea : pre.length + 1 + (Sz.least (body T).length).length = (pre ++ UInt8.ofNat (tag T).toNat :: Sz.least (body T).length).length := by simp; omega
        rw [e1, ea, List.drop_left, show pre.length + (enc (k + 1 + 1) T).length - (pre ++ UInt8.ofNat (tag T).toNat :: Sz.least (body T).length).length = (body T).length by rw [hl]; simp; omega, List.take_left, hbd]
      rw [ed, ec, ← mk_eta T, tag_mk, dat_mk, hk0]

/-! ### what is read is right -/
theorem readL_props {α : Type} (rd : Nat → Nat → Except Int (α × Nat × Nat)) (en : α → List UInt8) (N : α → Nat) (S : α → Prop) (stop : Nat)
    (hr : ∀ q c x nx c', c ≤ 200 → rd q c = .ok (x, nx, c') → q + (en x).length ≤ nx ∧ nx ≤ stop ∧ q < nx ∧ S x ∧ c' = c + N x ∧ c' ≤ 200) :
    ∀ (fuel p c : Nat) (xs : List α) (c' : Nat), c ≤ 200 → p ≤ stop → readL rd fuel p stop c = .ok (xs, c') → p + (xs.map en).flatten.length ≤ stop ∧ (∀ x ∈ xs, S x) ∧ c' = c + (xs.map N).sum ∧ c' ≤ 200
  | 0, p, c, xs, c', hc, hp, h => by
    simp only [readL, Except.ok.injEq, Prod.mk.injEq] at h
    obtain ⟨rfl, rfl⟩ := h
    simp [hc, hp]
  | f + 1, p, c, xs, c', hc, hp, h => by
    unfold readL at h
    by_cases hlt : p < stop
    · rw [if_pos hlt] at h
      cases hrd : rd p c with
      | error e => rw [hrd] at h; cases h
      | ok r =>
        obtain ⟨x, nx, c1⟩ := r
        rw [hrd] at h
        obtain ⟨g1, g2, g3, g4, g5, g6⟩ := hr p c x nx c1 hc hrd
        simp only at h
        cases hl : readL rd f nx stop c1 with
        | error e => rw [hl] at h; cases h
        | ok r =>
          obtain ⟨ys, c2⟩ := r
          rw [hl] at h
          simp only [Except.ok.injEq, Prod.mk.injEq] at h
          obtain ⟨rfl, rfl⟩ := h
          obtain ⟨i1, i2, i3, i4⟩ := readL_props rd en N S stop hr f nx c1 ys c2 g6 g2 hl
          refine ⟨by simp at i1 ⊢; omega, ?_, by simp; omega, i4⟩
          intro y hy
          rcases List.mem_cons.1 hy with rfl | hy
          · exact g4
          · exact i2 y hy
    · rw [if_neg hlt] at h
      simp only [Except.ok.injEq, Prod.mk.injEq] at h
      obtain ⟨rfl, rfl⟩ := h
      simp [hc, hp]
theorem headT_ok {l : List UInt8} {p stop t a b : Nat} (hs : stop ≤ l.length) (h : headT l p stop = .ok (t, a, b)) :
    p < stop ∧ p + 2 ≤ a ∧ a ≤ b ∧ b ≤ stop ∧ t = (l.getD p 0).toNat ∧ t < 256 ∧ t % 32 ≠ 31 ∧ b - a ≤ 16777215 ∧ (Sz.least (b - a)).length ≤ a - (p + 1) := by
  unfold headT at h
  by_cases h1 : p = stop
  · rw [if_pos h1] at h; cases h
  · rw [if_neg h1] at h
    by_cases h2 : (l.getD p 0).toNat % 32 = 31
    · rw [if_pos h2] at h; cases h
    · rw [if_neg h2] at h
      obtain ⟨n, q, E, hd⟩ : ∃ n q E, Sz.dec (l.take stop) ((p : Int) + 1) = (n, q, E) := ⟨_, _, _, rfl⟩
      rw [hd] at h
      simp only at h
      by_cases h3 : E ≠ 0
      · rw [if_pos h3] at h; cases h
      · rw [if_neg h3] at h
        have hE : E = 0 := by simpa using h3
        obtain ⟨k, n', q', e1, rfl, rfl, e4, e5, e6, e7, _⟩ := (Sz.dec_shape _ _ _ _ _ hd).2 hE
        by_cases h4 : (stop : Int) - (q' : Int) < (n' : Int)
        · rw [if_pos h4] at h; cases h
        · rw [if_neg h4] at h
          simp only [Except.ok.injEq, Prod.mk.injEq, Int.toNat_natCast] at h
          obtain ⟨rfl, rfl, rfl⟩ := h
          have hlt := (l.getD p 0).toNat_lt
          simp at e5
          rw [show q' + n' - q' = n' by omega]
          exact ⟨by omega, by omega, by omega, by omega, rfl, hlt, h2, e6, by omega⟩
theorem readT_props (l : List UInt8) : ∀ (k : Nat) (p stop c : Nat) (T : Tr (k + 1)) (nx c' : Nat), stop ≤ l.length → c ≤ 200 → readT l k p stop c = .ok (T, nx, c') →
    p + (enc (k + 1) T).length ≤ nx ∧ nx ≤ stop ∧ p + 2 ≤ nx ∧ (shape (k + 1) k T = true ∧ (stop ≤ 9000 → small (k + 1) T = true)) ∧ c' = c + count (k + 1) T ∧ c' ≤ 200
  | 0, p, stop, c, T, nx, c', _, _, h => by simp [readT] at h
  | k + 1, p, stop, c, T, nx, c', hs, hc, h => by
    unfold readT at h
    by_cases h1 : c = 200
    · rw [if_pos h1] at h; cases h
    · rw [if_neg h1] at h
      cases hh : headT l p stop with
      | error e => rw [hh] at h; cases h
      | ok r =>
        obtain ⟨t, a, b⟩ := r
        obtain ⟨g1, g2, g3, g4, _, g5, g6, g7, g8⟩ := headT_ok hs hh
        rw [hh] at h
        simp only at h
        by_cases hi : isIn t = true
        · rw [if_pos hi] at h
          cases hl : readL (fun q c' => readT l k q b c') (b - a) a b (c + 1) with
          | error e => rw [hl] at h; cases h
          | ok r =>
            obtain ⟨ks, c2⟩ := r
            rw [hl] at h
            simp only [Except.ok.injEq, Prod.mk.injEq] at h
            obtain ⟨rfl, rfl, rfl⟩ := h
            obtain ⟨i1, i2, i3, i4⟩ := readL_props _ (enc (k + 1)) (count (k + 1)) (fun T => shape (k + 1) k T = true ∧ (b ≤ 9000 → small (k + 1) T = true)) b
              (fun q c x nx c' hc' hx => by
                obtain ⟨j1, j2, j3, j4, j5, j6⟩ := readT_props l k q b c x nx c' (by omega) hc' hx
                exact ⟨j1, j2, by omega, j4, j5, j6⟩) _ _ _ _ _ (by omega) g3 hl
            have hbl : (body (mk (t : Int) (⟨#[]⟩ : ByteArray) ks)).length = (ks.map (enc (k + 1))).flatten.length := by unfold body; simp
            have hm : (Sz.least (ks.map (enc (k + 1))).flatten.length).length ≤ (Sz.least (b - a)).length := by
              rw [Sz.least_length, Sz.least_length]
              have := Sz.wd_le (ks.map (enc (k + 1))).flatten.length
              by_cases q1 : (ks.map (enc (k + 1))).flatten.length < 128
              · rw [if_pos q1]; split <;> omega
              · rw [if_neg q1, if_neg (by omega)]
                have := Sz.wd_min (ks.map (enc (k + 1))).flatten.length (Sz.wd (b - a)) (Sz.wd_le _) (Nat.lt_of_le_of_lt (by omega) (Sz.lt_pow_wd (b - a) (by omega)))
                omega
            refine ⟨by rw [enc_len, hbl]; omega, g4, by omega, ⟨?_, ?_⟩, by rw [i3]; unfold count; simp only [kids_mk]; omega, i4⟩
            · unfold shape
              simp only [tag_mk, dat_mk, kids_mk, Bool.and_eq_true, decide_eq_true_eq, List.all_eq_true]
              refine ⟨⟨by omega, (fit_iff _ _ _).2 ⟨by omega, by omega, by omega, fun _ => rfl, (fun e => by rw [hi] at e; cases e)⟩⟩, fun x hx => (i2 x hx).1⟩
            · intro h5
              unfold small
              simp only [dat_mk, kids_mk, Bool.and_eq_true, List.all_eq_true]
              exact ⟨decide_eq_true (Nat.zero_le _), fun x hx => (i2 x hx).2 (by omega)⟩
        · rw [if_neg hi] at h
          simp only [Except.ok.injEq, Prod.mk.injEq] at h
          obtain ⟨rfl, rfl, rfl⟩ := h
          have hi' : isIn t = false := by simpa using hi
          have hsz : ((l.drop a).take (b - a)).length = b - a := by simp; omega
          have hbl : (body (mk (n := k + 1) (t : Int) (⟨((l.drop a).take (b - a)).toArray⟩ : ByteArray) [])).length = b - a := by unfold body; simp; omega
          refine ⟨by rw [enc_len, hbl]; omega, g4, by omega, ⟨?_, ?_⟩, by unfold count; simp, by omega⟩
          · unfold shape
            simp only [tag_mk, dat_mk, kids_mk, Bool.and_eq_true, decide_eq_true_eq, List.all_eq_true]
            exact ⟨⟨by omega, (fit_iff _ _ _).2 ⟨by omega, by omega, by omega, (fun e => by rw [hi'] at e; cases e), fun _ => rfl⟩⟩, fun x hx => by cases hx⟩
          · intro h5
            unfold small
            simp only [dat_mk, kids_mk, Bool.and_eq_true, List.all_eq_true]
            refine ⟨decide_eq_true ?_, fun x hx => by cases hx⟩
            show (List.toArray _).size ≤ 9000
            simp
            omega
end Tv
