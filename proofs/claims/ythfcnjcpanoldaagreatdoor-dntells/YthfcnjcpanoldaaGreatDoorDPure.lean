/-
  Names, plainly: types, cutting, joining, what is right; what the document says of layer 7, and what follows. Conditions: none.
-/
import Derived.Lib.Join
import Derived.Lib.IndexMore
namespace Go.Proofs.YthfcnjcpanoldaaGreatDoor.Dp

abbrev Av := ByteArray × ByteArray
abbrev Rd := List Av
abbrev Nm := List Rd

/-! ### types -/
def ltr (x : UInt8) : Bool := (decide (65 ≤ x.toNat) && decide (x.toNat ≤ 90)) || (decide (97 ≤ x.toNat) && decide (x.toNat ≤ 122))
def dig (x : UInt8) : Bool := decide (48 ≤ x.toNat) && decide (x.toNat ≤ 57)
def fit (x : UInt8) : Bool := dig x || x == 45 || ltr x
def word : List UInt8 → Bool
  | [] => false
  | x :: r => ltr x && r.all fit
def num : List UInt8 → Bool
  | [] => false
  | [x] => dig x
  | x :: r => dig x && x != 48 && r.all dig

/-! ### cutting -/
/-- pieces: is the byte ahead a mark? what stands in the piece so far; what comes. -/
def sp (c : UInt8) : Bool → List UInt8 → List UInt8 → List (List UInt8)
  | _, a, [] => [a]
  | true, a, x :: r => sp c false (a ++ [x]) r
  | false, a, x :: r => if x = c then a :: sp c false [] r else sp c (x == 92) (a ++ [x]) r
abbrev pcs (c : UInt8) (l : List UInt8) : List (List UInt8) := sp c false [] l
def nums (l : List UInt8) : Bool := decide (2 ≤ (pcs 46 l).length) && (pcs 46 l).all num
def tyL (l : List UInt8) : Bool := decide (l.length ≤ 20) && (word l || nums l)
def isTy (s : ByteArray) : Bool := tyL s.data.toList

theorem sp_ne (c : UInt8) : ∀ (l : List UInt8) (e : Bool) (a : List UInt8), sp c e a l ≠ []
  | [], e, a => by cases e <;> simp [sp]
  | x :: r, true, a => by rw [sp]; exact sp_ne c r false _
  | x :: r, false, a => by
    rw [sp]
    split
    · simp
    · exact sp_ne c r _ _
theorem sp_len (c : UInt8) : ∀ (l : List UInt8) (e : Bool) (a : List UInt8), (sp c e a l).length ≤ l.length + 1
  | [], e, a => by cases e <;> simp [sp]
  | x :: r, true, a => by rw [sp]; have := sp_len c r false (a ++ [x]); simp; omega
  | x :: r, false, a => by
    rw [sp]
    split
    · have := sp_len c r false []; simp; omega
    · have := sp_len c r (x == 92) (a ++ [x]); simp; omega
theorem sp_small (c : UInt8) : ∀ (l : List UInt8) (e : Bool) (a : List UInt8), ∀ q ∈ sp c e a l, q.length ≤ a.length + l.length
  | [], e, a, q, h => by cases e <;> (simp [sp] at h; subst h; simp)
  | x :: r, true, a, q, h => by rw [sp] at h; have := sp_small c r false _ q h; simp at this ⊢; omega
  | x :: r, false, a, q, h => by
    rw [sp] at h
    split at h
    · rcases List.mem_cons.1 h with rfl | h
      · simp
      · have := sp_small c r false _ q h; simp at this ⊢; omega
    · have := sp_small c r _ _ q h; simp at this ⊢; omega

/-- bytes that are cut nowhere, whatever comes behind. -/
def clo (c : UInt8) : Bool → List UInt8 → Bool
  | e, [] => !e
  | true, _ :: r => clo c false r
  | false, x :: r => x != c && clo c (x == 92) r
theorem clo_sp (c : UInt8) : ∀ (l : List UInt8) (e : Bool) (a : List UInt8), clo c e l = true → sp c e a l = [a ++ l] ∧ ∀ r, sp c e a (l ++ c :: r) = (a ++ l) :: sp c false [] r
  | [], e, a, h => by
    cases e
    · simp [sp]
    · simp [clo] at h
  | x :: l, true, a, h => by
    rw [clo] at h
    have := clo_sp c l false (a ++ [x]) h
    simpa [sp] using this
  | x :: l, false, a, h => by
    rw [clo, Bool.and_eq_true] at h
    have h1 : x ≠ c := by simpa using h.1
    have := clo_sp c l (x == 92) (a ++ [x]) h.2
    simpa [sp, h1] using this
theorem clo_app (c : UInt8) : ∀ (l m : List UInt8) (e : Bool), clo c e l = true → clo c false m = true → clo c e (l ++ m) = true
  | [], m, e, h, hm => by
    cases e
    · exact hm
    · simp [clo] at h
  | x :: l, m, true, h, hm => by
    rw [clo] at h
    rw [List.cons_append, clo]
    exact clo_app c l m false h hm
  | x :: l, m, false, h, hm => by
    rw [clo, Bool.and_eq_true] at h
    rw [List.cons_append, clo, Bool.and_eq_true]
    exact ⟨h.1, clo_app c l m _ h.2 hm⟩
/-- bytes that are neither the sign nor a mark. -/
theorem clo_plain (c : UInt8) : ∀ l : List UInt8, (∀ x ∈ l, x ≠ c ∧ x ≠ 92) → clo c false l = true
  | [], _ => rfl
  | x :: l, h => by
    have h1 := h x (by simp)
    have e : (x == 92) = false := by simpa using h1.2
    rw [clo, e, clo_plain c l (fun y hy => h y (by simp [hy]))]
    simpa using h1.1

/-! ### joining -/
def jn (c : UInt8) (xs : List (List UInt8)) : List UInt8 := Go.Lib.join xs [c]
theorem jn_nil (c : UInt8) : jn c [] = [] := rfl
theorem jn_one (c : UInt8) (x : List UInt8) : jn c [x] = x := Go.Lib.join_one x [c]
theorem jn_cons (c : UInt8) (x y : List UInt8) (r : List (List UInt8)) : jn c (x :: y :: r) = x ++ c :: jn c (y :: r) := by
  unfold jn
  rw [Go.Lib.join_cons, Go.Lib.join_cons]
  simp [Go.Lib.joinTail]
theorem jn_cons' (c : UInt8) (x : List UInt8) {r : List (List UInt8)} (h : r ≠ []) : jn c (x :: r) = x ++ c :: jn c r := by
  cases r with
  | nil => exact absurd rfl h
  | cons y r => exact jn_cons c x y r
theorem jn_app (c : UInt8) : ∀ {xs ys : List (List UInt8)}, xs ≠ [] → ys ≠ [] → jn c (xs ++ ys) = jn c xs ++ c :: jn c ys
  | [], ys, h, _ => absurd rfl h
  | [x], ys, _, hy => by rw [List.singleton_append, jn_cons' c x hy, jn_one]
  | x :: y :: r, ys, _, hy => by
    have := jn_app c (xs := y :: r) (ys := ys) (by simp) hy
    rw [List.cons_append, jn_cons' c x (by simp), this, jn_cons]
    simp
/-- what is joined is cut where it was joined. -/
theorem pcs_jn (c : UInt8) : ∀ xs : List (List UInt8), xs ≠ [] → (∀ x ∈ xs, clo c false x = true) → pcs c (jn c xs) = xs
  | [], h, _ => absurd rfl h
  | [x], _, h => by rw [jn_one]; exact (clo_sp c x false [] (h x (by simp))).1
  | x :: y :: r, _, h => by
    rw [jn_cons, pcs, (clo_sp c x false [] (h x (by simp))).2, List.nil_append]
    have := pcs_jn c (y :: r) (by simp) (fun z hz => h z (by simp [hz]))
    rw [show sp c false [] (jn c (y :: r)) = y :: r from this]
theorem clo_jn (k c : UInt8) (hk : c ≠ k) (hc : c ≠ 92) : ∀ xs : List (List UInt8), (∀ x ∈ xs, clo k false x = true) → clo k false (jn c xs) = true
  | [], _ => rfl
  | [x], h => by rw [jn_one]; exact h x (by simp)
  | x :: y :: r, h => by
    rw [jn_cons]
    have := clo_jn k c hk hc (y :: r) (fun z hz => h z (by simp [hz]))
    refine clo_app k _ _ _ (h x (by simp)) ?_
    rw [clo, show (c == 92) = false by simpa using hc, this]
    simpa using hk
theorem jn_len (c : UInt8) (n : Nat) : ∀ xs : List (List UInt8), (∀ x ∈ xs, x.length ≤ n) → (jn c xs).length ≤ xs.length * (n + 1)
  | [], _ => by simp [jn_nil]
  | [x], h => by rw [jn_one]; have := h x (by simp); simp; omega
  | x :: y :: r, h => by
    rw [jn_cons]
    have h1 := jn_len c n (y :: r) (fun z hz => h z (by simp [hz]))
    have h2 := h x (by simp)
    simp only [List.length_append, List.length_cons] at h1 ⊢
    have e : (r.length + 1 + 1) * (n + 1) = (r.length + 1) * (n + 1) + (n + 1) := by rw [Nat.succ_mul]
    omega

/-! ### reading -/
/-- ahead of the first '=' and behind it. -/
def cutE : List UInt8 → Option (List UInt8 × List UInt8)
  | [] => none
  | x :: r => if x = 61 then some ([], r) else (cutE r).map fun q => (x :: q.1, q.2)
theorem cutE_at : ∀ (k t : List UInt8), (∀ x ∈ k, x ≠ 61) → cutE (k ++ 61 :: t) = some (k, t)
  | [], t, _ => by simp [cutE]
  | x :: k, t, h => by
    have h1 := h x (by simp)
    rw [List.cons_append, cutE, if_neg h1, cutE_at k t (fun y hy => h y (by simp [hy]))]
    rfl
theorem cutE_len : ∀ (l k t : List UInt8), cutE l = some (k, t) → l = k ++ 61 :: t
  | [], k, t, h => by simp [cutE] at h
  | x :: l, k, t, h => by
    rw [cutE] at h
    split at h
    · rename_i hx; cases h; rw [hx]; rfl
    · cases h1 : cutE l with
      | none => rw [h1] at h; cases h
      | some q =>
        rw [h1] at h
        cases h
        rw [cutE_len l q.1 q.2 h1]
        rfl
def mp {α : Type} (f : List UInt8 → Option α) : List (List UInt8) → Option (List α)
  | [] => some []
  | x :: r => match f x, mp f r with
    | some a, some b => some (a :: b)
    | _, _ => none
def rdAll {α : Type} (f : List UInt8 → Option α) (most : Nat) (ps : List (List UInt8)) : Option (List α) := if ps.length ≤ most then mp f ps else none
theorem mp_app {α : Type} (f : List UInt8 → Option α) : ∀ (xs ys : List (List UInt8)), mp f (xs ++ ys) = match mp f xs, mp f ys with
    | some a, some b => some (a ++ b)
    | _, _ => none
  | [], ys => by
    rw [List.nil_append, mp]
    cases mp f ys <;> rfl
  | x :: xs, ys => by
    rw [List.cons_append, mp, mp_app f xs ys, mp]
    cases f x with
    | none => simp
    | some a =>
      cases mp f xs with
      | none => simp
      | some b => cases mp f ys <;> simp
theorem mp_len {α : Type} (f : List UInt8 → Option α) : ∀ (xs : List (List UInt8)) (l : List α), mp f xs = some l → l.length = xs.length
  | [], l, h => by rw [mp] at h; cases h; rfl
  | x :: xs, l, h => by
    rw [mp] at h
    cases h1 : f x with
    | none => rw [h1] at h; cases h
    | some a =>
      cases h2 : mp f xs with
      | none => rw [h1, h2] at h; cases h
      | some b =>
        rw [h1, h2] at h
        cases h
        simp [mp_len f xs b h2]
theorem mp_all {α : Type} (f : List UInt8 → Option α) (P : α → Prop) (hf : ∀ x a, f x = some a → P a) : ∀ (xs : List (List UInt8)) (l : List α), mp f xs = some l → ∀ a ∈ l, P a
  | [], l, h, a, ha => by rw [mp] at h; cases h; cases ha
  | x :: xs, l, h, a, ha => by
    rw [mp] at h
    cases h1 : f x with
    | none => rw [h1] at h; cases h
    | some b =>
      cases h2 : mp f xs with
      | none => rw [h1, h2] at h; cases h
      | some m =>
        rw [h1, h2] at h
        cases h
        rcases List.mem_cons.1 ha with rfl | ha
        · exact hf x _ h1
        · exact mp_all f P hf xs m h2 a ha
theorem mp_map {α : Type} (f : List UInt8 → Option α) (g : α → List UInt8) : ∀ (l : List α), (∀ a ∈ l, f (g a) = some a) → mp f (l.map g) = some l
  | [], _ => rfl
  | a :: l, h => by
    rw [List.map_cons, mp, h a (by simp), mp_map f g l (fun b hb => h b (by simp [hb]))]

/-! ### what is right -/
def okA (a : Av) : Bool := isTy a.1 && decide (a.2.size ≤ 60)
def okR (r : Rd) : Bool := decide (1 ≤ r.length) && decide (r.length ≤ 3) && r.all okA
def okN (d : Nm) : Bool := decide (d.length ≤ 8) && d.all okR
/-- the same? under? -/
def under (d b : Nm) : Bool := decide (b.length ≤ d.length) && decide (d.drop (d.length - b.length) = b)

/-- the bytes of a type. -/
def tyB (x : UInt8) : Bool := fit x || x == 46
theorem sp_bytes (c : UInt8) : ∀ (l : List UInt8) (e : Bool) (a : List UInt8), ∀ x ∈ l, x = c ∨ ∃ q ∈ sp c e a l, x ∈ q
  | [], _, _, x, h => by cases h
  | y :: l, true, a, x, h => by
    rw [sp]
    rcases List.mem_cons.1 h with rfl | h
    · right
      refine ⟨_, List.head_mem (sp_ne c l false (a ++ [x])), ?_⟩
      have : ∀ (l : List UInt8) (e : Bool) (a : List UInt8), ∀ z ∈ a, z ∈ (sp c e a l).head (sp_ne c l e a) := by
        intro l
        induction l with
        | nil => intro e a z hz; cases e <;> simpa [sp] using hz
        | cons w l ih =>
          intro e a z hz
          cases e with
          | true => simp only [sp]; exact ih false (a ++ [w]) z (by simp [hz])
          | false =>
            simp only [sp]
            split
            · simpa using hz
            · exact ih _ (a ++ [w]) z (by simp [hz])
      exact this l false (a ++ [x]) x (by simp)
    · exact sp_bytes c l false _ x h
  | y :: l, false, a, x, h => by
    rw [sp]
    split
    · rename_i hy
      rcases List.mem_cons.1 h with rfl | h
      · exact .inl hy
      · rcases sp_bytes c l false [] x h with h1 | ⟨q, h1, h2⟩
        · exact .inl h1
        · exact .inr ⟨q, by simp [h1], h2⟩
    · rcases List.mem_cons.1 h with rfl | h
      · right
        refine ⟨_, List.head_mem (sp_ne c l (x == 92) (a ++ [x])), ?_⟩
        have : ∀ (l : List UInt8) (e : Bool) (a : List UInt8), ∀ z ∈ a, z ∈ (sp c e a l).head (sp_ne c l e a) := by
          intro l
          induction l with
          | nil => intro e a z hz; cases e <;> simpa [sp] using hz
          | cons w l ih =>
            intro e a z hz
            cases e with
            | true => simp only [sp]; exact ih false (a ++ [w]) z (by simp [hz])
            | false =>
              simp only [sp]
              split
              · simpa using hz
              · exact ih _ (a ++ [w]) z (by simp [hz])
        exact this l (x == 92) (a ++ [x]) x (by simp)
      · exact sp_bytes c l _ _ x h
theorem num_dig {l : List UInt8} (h : num l = true) : ∀ x ∈ l, dig x = true := by
  match l, h with
  | [x], h => intro y hy; simp at hy; subst hy; exact h
  | x :: y :: r, h =>
    rw [num] at h
    · simp only [Bool.and_eq_true, List.all_eq_true] at h
      intro z hz
      rcases List.mem_cons.1 hz with rfl | hz
      · exact h.1.1
      · exact h.2 z hz
    · simp
theorem ty_bytes {l : List UInt8} (h : tyL l = true) : ∀ x ∈ l, tyB x = true := by
  unfold tyL at h
  rw [Bool.and_eq_true, Bool.or_eq_true] at h
  intro x hx
  unfold tyB
  rcases h.2 with h | h
  · cases l with
    | nil => cases hx
    | cons y r =>
      rw [word, Bool.and_eq_true, List.all_eq_true] at h
      rcases List.mem_cons.1 hx with rfl | hx
      · simp [fit, h.1]
      · simp [h.2 x hx]
  · unfold nums at h
    rw [Bool.and_eq_true, List.all_eq_true] at h
    rcases sp_bytes 46 l false [] x hx with h1 | ⟨q, h1, h2⟩
    · simp [h1]
    · simp [fit, num_dig (h.2 q h1) x h2]
theorem u8_all {p : UInt8 → Prop} (h : ∀ i : Fin 256, p (UInt8.ofNat i.val)) (x : UInt8) : p x := by
  have := h ⟨x.toNat, x.toNat_lt⟩
  simpa using this
theorem tyB_ne (x : UInt8) (h : tyB x = true) : x ≠ 61 ∧ x ≠ 44 ∧ x ≠ 43 ∧ x ≠ 92 := by
  have : ∀ i : Fin 256, tyB (UInt8.ofNat i.val) = true → UInt8.ofNat i.val ≠ 61 ∧ UInt8.ofNat i.val ≠ 44 ∧ UInt8.ofNat i.val ≠ 43 ∧ UInt8.ofNat i.val ≠ 92 := by decide +kernel
  exact u8_all (p := fun x => tyB x = true → x ≠ 61 ∧ x ≠ 44 ∧ x ≠ 43 ∧ x ≠ 92) this x h
theorem ty_ne {l : List UInt8} (h : tyL l = true) : l ≠ [] := by
  rintro rfl
  revert h
  decide

/-! ### under -/
theorem under_iff (d b : Nm) : under d b = true ↔ ∃ t, d = t ++ b := by
  unfold under
  rw [Bool.and_eq_true, decide_eq_true_eq, decide_eq_true_eq]
  constructor
  · rintro ⟨_, h⟩
    exact ⟨d.take (d.length - b.length), by rw [← h, List.length_drop, show d.length - (d.length - (d.length - b.length)) = d.length - b.length by omega]; exact (List.take_append_drop _ d).symm⟩
  · rintro ⟨t, rfl⟩
    refine ⟨by simp, ?_⟩
    rw [List.length_append, Nat.add_sub_cancel, List.drop_left]
theorem under_self (d : Nm) : under d d = true := (under_iff d d).2 ⟨[], rfl⟩
theorem under_nil (d : Nm) : under d [] = true := (under_iff d []).2 ⟨d, by simp⟩
theorem under_app (x y : Nm) : under (x ++ y) y = true := (under_iff _ _).2 ⟨x, rfl⟩
theorem under_trans {x y z : Nm} (h : under x y = true) (k : under y z = true) : under x z = true := by
  obtain ⟨t, rfl⟩ := (under_iff _ _).1 h
  obtain ⟨u, rfl⟩ := (under_iff _ _).1 k
  exact (under_iff _ _).2 ⟨t ++ u, by simp⟩
theorem under_both (x y : Nm) : (under x y && under y x) = decide (x = y) := by
  rw [Bool.eq_iff_iff, Bool.and_eq_true, decide_eq_true_eq]
  constructor
  · rintro ⟨h, k⟩
    obtain ⟨t, ht⟩ := (under_iff _ _).1 h
    obtain ⟨u, hu⟩ := (under_iff _ _).1 k
    have e1 := congrArg List.length ht
    have e2 := congrArg List.length hu
    simp at e1 e2
    have : t = [] := List.length_eq_zero_iff.1 (by omega)
    rw [ht, this]
    rfl
  · rintro rfl
    exact ⟨under_self x, under_self x⟩
end Go.Proofs.YthfcnjcpanoldaaGreatDoor.Dp
