/-
  Several texts in one: DPure, CErrFacts. Each says what it proves, and its conditions.
-/
import Derived.Lib.Join
import Derived.Lib.IndexMore
import Derived.Test.YtmjfkdpaeenfgaaGreatDoorProg
import Derived.WalkKit
import Derived.LaidEql
import Derived.Stop.Asserts
import Derived.RowKitTokens
/-
  Names, plainly: types, cutting, joining, what is right; what the document says of layer 7, and what follows. Conditions: none.
-/
namespace Go.Proofs.YtmjfkdpaeenfgaaGreatDoor.Dp

abbrev Av := ByteArray × ByteArray
abbrev Rd := List Av
abbrev Nm := List Rd

/-! ### types -/
def ltr (x : UInt8) : Bool := (decide (65 ≤ x.toNat) && decide (x.toNat ≤ 90)) || (decide (97 ≤ x.toNat) && decide (x.toNat ≤ 122))
def dig (x : UInt8) : Bool := decide (48 ≤ x.toNat) && decide (x.toNat ≤ 57)
def fit (x : UInt8) : Bool := dig x || x == 45 || ltr x
def word : List UInt8 → Bool
  | [] => false
  | x :: r => ltr x && r.all fit
def num : List UInt8 → Bool
  | [] => false
  | [x] => dig x
  | x :: r => dig x && x != 48 && r.all dig

/-! ### cutting -/
/-- pieces: is the byte ahead a mark? what stands in the piece so far; what comes. -/
def sp (c : UInt8) : Bool → List UInt8 → List UInt8 → List (List UInt8)
  | _, a, [] => [a]
  | true, a, x :: r => sp c false (a ++ [x]) r
  | false, a, x :: r => if x = c then a :: sp c false [] r else sp c (x == 92) (a ++ [x]) r
abbrev pcs (c : UInt8) (l : List UInt8) : List (List UInt8) := sp c false [] l
def nums (l : List UInt8) : Bool := decide (2 ≤ (pcs 46 l).length) && (pcs 46 l).all num
def tyL (l : List UInt8) : Bool := decide (l.length ≤ 20) && (word l || nums l)
def isTy (s : ByteArray) : Bool := tyL s.data.toList

theorem sp_ne (c : UInt8) : ∀ (l : List UInt8) (e : Bool) (a : List UInt8), sp c e a l ≠ []
  | [], e, a => by cases e <;> simp [sp]
  | x :: r, true, a => by rw [sp]; exact sp_ne c r false _
  | x :: r, false, a => by
    rw [sp]
    split
    · simp
    · exact sp_ne c r _ _
theorem sp_len (c : UInt8) : ∀ (l : List UInt8) (e : Bool) (a : List UInt8), (sp c e a l).length ≤ l.length + 1
  | [], e, a => by cases e <;> simp [sp]
  | x :: r, true, a => by rw [sp]; have := sp_len c r false (a ++ [x]); simp; omega
  | x :: r, false, a => by
    rw [sp]
    split
    · have := sp_len c r false []; simp; omega
    · have := sp_len c r (x == 92) (a ++ [x]); simp; omega
theorem sp_small (c : UInt8) : ∀ (l : List UInt8) (e : Bool) (a : List UInt8), ∀ q ∈ sp c e a l, q.length ≤ a.length + l.length
  | [], e, a, q, h => by cases e <;> (simp [sp] at h; subst h; simp)
  | x :: r, true, a, q, h => by rw [sp] at h; have := sp_small c r false _ q h; simp at this ⊢; omega
  | x :: r, false, a, q, h => by
    rw [sp] at h
    split at h
    · rcases List.mem_cons.1 h with rfl | h
      · simp
      · have := sp_small c r false _ q h; simp at this ⊢; omega
    · have := sp_small c r _ _ q h; simp at this ⊢; omega

/-- bytes that are cut nowhere, whatever comes behind. -/
def clo (c : UInt8) : Bool → List UInt8 → Bool
  | e, [] => !e
  | true, _ :: r => clo c false r
  | false, x :: r => x != c && clo c (x == 92) r
theorem clo_sp (c : UInt8) : ∀ (l : List UInt8) (e : Bool) (a : List UInt8), clo c e l = true → sp c e a l = [a ++ l] ∧ ∀ r, sp c e a (l ++ c :: r) = (a ++ l) :: sp c false [] r
  | [], e, a, h => by
    cases e
    · simp [sp]
    · simp [clo] at h
  | x :: l, true, a, h => by
    rw [clo] at h
    have := clo_sp c l false (a ++ [x]) h
    simpa [sp] using this
  | x :: l, false, a, h => by
    rw [clo, Bool.and_eq_true] at h
    have h1 : x ≠ c := by simpa using h.1
    have := clo_sp c l (x == 92) (a ++ [x]) h.2
    simpa [sp, h1] using this
theorem clo_app (c : UInt8) : ∀ (l m : List UInt8) (e : Bool), clo c e l = true → clo c false m = true → clo c e (l ++ m) = true
  | [], m, e, h, hm => by
    cases e
    · exact hm
    · simp [clo] at h
  | x :: l, m, true, h, hm => by
    rw [clo] at h
    rw [List.cons_append, clo]
    exact clo_app c l m false h hm
  | x :: l, m, false, h, hm => by
    rw [clo, Bool.and_eq_true] at h
    rw [List.cons_append, clo, Bool.and_eq_true]
    exact ⟨h.1, clo_app c l m _ h.2 hm⟩
/-- bytes that are neither the sign nor a mark. -/
theorem clo_plain (c : UInt8) : ∀ l : List UInt8, (∀ x ∈ l, x ≠ c ∧ x ≠ 92) → clo c false l = true
  | [], _ => rfl
  | x :: l, h => by
    have h1 := h x (by simp)
    have e : (x == 92) = false := by simpa using h1.2
    rw [clo, e, clo_plain c l (fun y hy => h y (by simp [hy]))]
    simpa using h1.1

/-! ### joining -/
def jn (c : UInt8) (xs : List (List UInt8)) : List UInt8 := Go.Lib.join xs [c]
theorem jn_nil (c : UInt8) : jn c [] = [] := rfl
theorem jn_one (c : UInt8) (x : List UInt8) : jn c [x] = x := Go.Lib.join_one x [c]
theorem jn_cons (c : UInt8) (x y : List UInt8) (r : List (List UInt8)) : jn c (x :: y :: r) = x ++ c :: jn c (y :: r) := by
  unfold jn
  rw [Go.Lib.join_cons, Go.Lib.join_cons]
  simp [Go.Lib.joinTail]
theorem jn_cons' (c : UInt8) (x : List UInt8) {r : List (List UInt8)} (h : r ≠ []) : jn c (x :: r) = x ++ c :: jn c r := by
  cases r with
  | nil => exact absurd rfl h
  | cons y r => exact jn_cons c x y r
theorem jn_app (c : UInt8) : ∀ {xs ys : List (List UInt8)}, xs ≠ [] → ys ≠ [] → jn c (xs ++ ys) = jn c xs ++ c :: jn c ys
  | [], ys, h, _ => absurd rfl h
  | [x], ys, _, hy => by rw [List.singleton_append, jn_cons' c x hy, jn_one]
  | x :: y :: r, ys, _, hy => by
    have := jn_app c (xs := y :: r) (ys := ys) (by simp) hy
    rw [List.cons_append, jn_cons' c x (by simp), this, jn_cons]
    simp
/-- what is joined is cut where it was joined. -/
theorem pcs_jn (c : UInt8) : ∀ xs : List (List UInt8), xs ≠ [] → (∀ x ∈ xs, clo c false x = true) → pcs c (jn c xs) = xs
  | [], h, _ => absurd rfl h
  | [x], _, h => by rw [jn_one]; exact (clo_sp c x false [] (h x (by simp))).1
  | x :: y :: r, _, h => by
    rw [jn_cons, pcs, (clo_sp c x false [] (h x (by simp))).2, List.nil_append]
    have := pcs_jn c (y :: r) (by simp) (fun z hz => h z (by simp [hz]))
    rw [show sp c false [] (jn c (y :: r)) = y :: r from this]
theorem clo_jn (k c : UInt8) (hk : c ≠ k) (hc : c ≠ 92) : ∀ xs : List (List UInt8), (∀ x ∈ xs, clo k false x = true) → clo k false (jn c xs) = true
  | [], _ => rfl
  | [x], h => by rw [jn_one]; exact h x (by simp)
  | x :: y :: r, h => by
    rw [jn_cons]
    have := clo_jn k c hk hc (y :: r) (fun z hz => h z (by simp [hz]))
    refine clo_app k _ _ _ (h x (by simp)) ?_
    rw [clo, show (c == 92) = false by simpa using hc, this]
    simpa using hk
theorem jn_len (c : UInt8) (n : Nat) : ∀ xs : List (List UInt8), (∀ x ∈ xs, x.length ≤ n) → (jn c xs).length ≤ xs.length * (n + 1)
  | [], _ => by simp [jn_nil]
  | [x], h => by rw [jn_one]; have := h x (by simp); simp; omega
  | x :: y :: r, h => by
    rw [jn_cons]
    have h1 := jn_len c n (y :: r) (fun z hz => h z (by simp [hz]))
    have h2 := h x (by simp)
    simp only [List.length_append, List.length_cons] at h1 ⊢
    have e : (r.length + 1 + 1) * (n + 1) = (r.length + 1) * (n + 1) + (n + 1) := by rw [Nat.succ_mul]
    omega

/-! ### reading -/
/-- ahead of the first '=' and behind it. -/
def cutE : List UInt8 → Option (List UInt8 × List UInt8)
  | [] => none
  | x :: r => if x = 61 then some ([], r) else (cutE r).map fun q => (x :: q.1, q.2)
theorem cutE_at : ∀ (k t : List UInt8), (∀ x ∈ k, x ≠ 61) → cutE (k ++ 61 :: t) = some (k, t)
  | [], t, _ => by simp [cutE]
  | x :: k, t, h => by
    have h1 := h x (by simp)
    rw [List.cons_append, cutE, if_neg h1, cutE_at k t (fun y hy => h y (by simp [hy]))]
    rfl
theorem cutE_len : ∀ (l k t : List UInt8), cutE l = some (k, t) → l = k ++ 61 :: t
  | [], k, t, h => by simp [cutE] at h
  | x :: l, k, t, h => by
    rw [cutE] at h
    split at h
    · rename_i hx; cases h; rw [hx]; rfl
    · cases h1 : cutE l with
      | none => rw [h1] at h; cases h
      | some q =>
        rw [h1] at h
        cases h
        rw [cutE_len l q.1 q.2 h1]
        rfl
def mp {α : Type} (f : List UInt8 → Option α) : List (List UInt8) → Option (List α)
  | [] => some []
  | x :: r => match f x, mp f r with
    | some a, some b => some (a :: b)
    | _, _ => none
def rdAll {α : Type} (f : List UInt8 → Option α) (most : Nat) (ps : List (List UInt8)) : Option (List α) := if ps.length ≤ most then mp f ps else none
theorem mp_app {α : Type} (f : List UInt8 → Option α) : ∀ (xs ys : List (List UInt8)), mp f (xs ++ ys) = match mp f xs, mp f ys with
    | some a, some b => some (a ++ b)
    | _, _ => none
  | [], ys => by
    rw [List.nil_append, mp]
    cases mp f ys <;> rfl
  | x :: xs, ys => by
    rw [List.cons_append, mp, mp_app f xs ys, mp]
    cases f x with
    | none => simp
    | some a =>
      cases mp f xs with
      | none => simp
      | some b => cases mp f ys <;> simp
theorem mp_len {α : Type} (f : List UInt8 → Option α) : ∀ (xs : List (List UInt8)) (l : List α), mp f xs = some l → l.length = xs.length
  | [], l, h => by rw [mp] at h; cases h; rfl
  | x :: xs, l, h => by
    rw [mp] at h
    cases h1 : f x with
    | none => rw [h1] at h; cases h
    | some a =>
      cases h2 : mp f xs with
      | none => rw [h1, h2] at h; cases h
      | some b =>
        rw [h1, h2] at h
        cases h
        simp [mp_len f xs b h2]
theorem mp_all {α : Type} (f : List UInt8 → Option α) (P : α → Prop) (hf : ∀ x a, f x = some a → P a) : ∀ (xs : List (List UInt8)) (l : List α), mp f xs = some l → ∀ a ∈ l, P a
  | [], l, h, a, ha => by rw [mp] at h; cases h; cases ha
  | x :: xs, l, h, a, ha => by
    rw [mp] at h
    cases h1 : f x with
    | none => rw [h1] at h; cases h
    | some b =>
      cases h2 : mp f xs with
      | none => rw [h1, h2] at h; cases h
      | some m =>
        rw [h1, h2] at h
        cases h
        rcases List.mem_cons.1 ha with rfl | ha
        · exact hf x _ h1
        · exact mp_all f P hf xs m h2 a ha
theorem mp_map {α : Type} (f : List UInt8 → Option α) (g : α → List UInt8) : ∀ (l : List α), (∀ a ∈ l, f (g a) = some a) → mp f (l.map g) = some l
  | [], _ => rfl
  | a :: l, h => by
    rw [List.map_cons, mp, h a (by simp), mp_map f g l (fun b hb => h b (by simp [hb]))]

/-! ### what is right -/
def okA (a : Av) : Bool := isTy a.1 && decide (a.2.size ≤ 60)
def okR (r : Rd) : Bool := decide (1 ≤ r.length) && decide (r.length ≤ 3) && r.all okA
def okN (d : Nm) : Bool := decide (d.length ≤ 8) && d.all okR
/-- the same? under? -/
def under (d b : Nm) : Bool := decide (b.length ≤ d.length) && decide (d.drop (d.length - b.length) = b)

/-- the bytes of a type. -/
def tyB (x : UInt8) : Bool := fit x || x == 46
theorem sp_bytes (c : UInt8) : ∀ (l : List UInt8) (e : Bool) (a : List UInt8), ∀ x ∈ l, x = c ∨ ∃ q ∈ sp c e a l, x ∈ q
  | [], _, _, x, h => by cases h
  | y :: l, true, a, x, h => by
    rw [sp]
    rcases List.mem_cons.1 h with rfl | h
    · right
      refine ⟨_, List.head_mem (sp_ne c l false (a ++ [x])), ?_⟩
      have : ∀ (l : List UInt8) (e : Bool) (a : List UInt8), ∀ z ∈ a, z ∈ (sp c e a l).head (sp_ne c l e a) := by
        intro l
        induction l with
        | nil => intro e a z hz; cases e <;> simpa [sp] using hz
        | cons w l ih =>
          intro e a z hz
          cases e with
          | true => simp only [sp]; exact ih false (a ++ [w]) z (by simp [hz])
          | false =>
            simp only [sp]
            split
            · simpa using hz
            · exact ih _ (a ++ [w]) z (by simp [hz])
      exact this l false (a ++ [x]) x (by simp)
    · exact sp_bytes c l false _ x h
  | y :: l, false, a, x, h => by
    rw [sp]
    split
    · rename_i hy
      rcases List.mem_cons.1 h with rfl | h
      · exact .inl hy
      · rcases sp_bytes c l false [] x h with h1 | ⟨q, h1, h2⟩
        · exact .inl h1
        · exact .inr ⟨q, by simp [h1], h2⟩
    · rcases List.mem_cons.1 h with rfl | h
      · right
        refine ⟨_, List.head_mem (sp_ne c l (x == 92) (a ++ [x])), ?_⟩
        have : ∀ (l : List UInt8) (e : Bool) (a : List UInt8), ∀ z ∈ a, z ∈ (sp c e a l).head (sp_ne c l e a) := by
          intro l
          induction l with
          | nil => intro e a z hz; cases e <;> simpa [sp] using hz
          | cons w l ih =>
            intro e a z hz
            cases e with
            | true => simp only [sp]; exact ih false (a ++ [w]) z (by simp [hz])
            | false =>
              simp only [sp]
              split
              · simpa using hz
              · exact ih _ (a ++ [w]) z (by simp [hz])
        exact this l (x == 92) (a ++ [x]) x (by simp)
      · exact sp_bytes c l _ _ x h
theorem num_dig {l : List UInt8} (h : num l = true) : ∀ x ∈ l, dig x = true := by
  match l, h with
  | [x], h => intro y hy; simp at hy; subst hy; exact h
  | x :: y :: r, h =>
    rw [num] at h
    · simp only [Bool.and_eq_true, List.all_eq_true] at h
      intro z hz
      rcases List.mem_cons.1 hz with rfl | hz
      · exact h.1.1
      · exact h.2 z hz
    · simp
theorem ty_bytes {l : List UInt8} (h : tyL l = true) : ∀ x ∈ l, tyB x = true := by
  unfold tyL at h
  rw [Bool.and_eq_true, Bool.or_eq_true] at h
  intro x hx
  unfold tyB
  rcases h.2 with h | h
  · cases l with
    | nil => cases hx
    | cons y r =>
      rw [word, Bool.and_eq_true, List.all_eq_true] at h
      rcases List.mem_cons.1 hx with rfl | hx
      · simp [fit, h.1]
      · simp [h.2 x hx]
  · unfold nums at h
    rw [Bool.and_eq_true, List.all_eq_true] at h
    rcases sp_bytes 46 l false [] x hx with h1 | ⟨q, h1, h2⟩
    · simp [h1]
    · simp [fit, num_dig (h.2 q h1) x h2]
theorem u8_all {p : UInt8 → Prop} (h : ∀ i : Fin 256, p (UInt8.ofNat i.val)) (x : UInt8) : p x := by
  have := h ⟨x.toNat, x.toNat_lt⟩
  simpa using this
theorem tyB_ne (x : UInt8) (h : tyB x = true) : x ≠ 61 ∧ x ≠ 44 ∧ x ≠ 43 ∧ x ≠ 92 := by
  have : ∀ i : Fin 256, tyB (UInt8.ofNat i.val) = true → UInt8.ofNat i.val ≠ 61 ∧ UInt8.ofNat i.val ≠ 44 ∧ UInt8.ofNat i.val ≠ 43 ∧ UInt8.ofNat i.val ≠ 92 := by decide +kernel
  exact u8_all (p := fun x => tyB x = true → x ≠ 61 ∧ x ≠ 44 ∧ x ≠ 43 ∧ x ≠ 92) this x h
theorem ty_ne {l : List UInt8} (h : tyL l = true) : l ≠ [] := by
  rintro rfl
  revert h
  decide

/-! ### under -/
theorem under_iff (d b : Nm) : under d b = true ↔ ∃ t, d = t ++ b := by
  unfold under
  rw [Bool.and_eq_true, decide_eq_true_eq, decide_eq_true_eq]
  constructor
  · rintro ⟨_, h⟩
    exact ⟨d.take (d.length - b.length), by rw [← h, List.length_drop, show d.length - (d.length - (d.length - b.length)) = d.length - b.length by omega]; exact (List.take_append_drop _ d).symm⟩
  · rintro ⟨t, rfl⟩
    refine ⟨by simp, ?_⟩
    rw [List.length_append, Nat.add_sub_cancel, List.drop_left]
theorem under_self (d : Nm) : under d d = true := (under_iff d d).2 ⟨[], rfl⟩
theorem under_nil (d : Nm) : under d [] = true := (under_iff d []).2 ⟨d, by simp⟩
theorem under_app (x y : Nm) : under (x ++ y) y = true := (under_iff _ _).2 ⟨x, rfl⟩
theorem under_trans {x y z : Nm} (h : under x y = true) (k : under y z = true) : under x z = true := by
  obtain ⟨t, rfl⟩ := (under_iff _ _).1 h
  obtain ⟨u, rfl⟩ := (under_iff _ _).1 k
  exact (under_iff _ _).2 ⟨t ++ u, by simp⟩
theorem under_both (x y : Nm) : (under x y && under y x) = decide (x = y) := by
  rw [Bool.eq_iff_iff, Bool.and_eq_true, decide_eq_true_eq]
  constructor
  · rintro ⟨h, k⟩
    obtain ⟨t, ht⟩ := (under_iff _ _).1 h
    obtain ⟨u, hu⟩ := (under_iff _ _).1 k
    have e1 := congrArg List.length ht
    have e2 := congrArg List.length hu
    simp at e1 e2
    have : t = [] := List.length_eq_zero_iff.1 (by omega)
    rw [ht, this]
    rfl
  · rintro rfl
    exact ⟨under_self x, under_self x⟩
end Go.Proofs.YtmjfkdpaeenfgaaGreatDoor.Dp

/-
  Closed facts on the model's entries for reflectlite at this program's types, and on the assertions that errors.As and errors.Is make there. Conditions: none.
-/
namespace Go.Proofs.YtmjfkdpaeenfgaaGreatDoor.C
open Go.RowKit Go.Extern.Stop Go.Stop Go.Extern

/-! ### closed facts on reflectlite's entries -/
theorem vOfT (t : Addr) (w : World) : (ReflectliteValue.unpack (.iface 256 (.pointer (some t)))).run Tryz.prog w
    = .ok (.agg #[.pointer (some ⟨17, 256, none⟩), .pointer (some ⟨w.heap.size, 0, none⟩), .int .u64 150]) (w.alloc (.cells #[.pointer (some t)] 256)) := by kernel_rfl
theorem typeT (a : Addr) (w : World) : (ReflectliteValue.methodAny (ReflectliteValue.valueError "reflectlite.Value.Type" 0) (fun t _ _ _ => ReflectliteType.toType t) #[.agg #[.pointer (some ⟨17, 256, none⟩), .pointer (some a), .int .u64 150]]).run Tryz.prog w
    = .ok (.iface 153 (.agg #[.pointer (some ⟨17, 256, none⟩)])) w := by kernel_rfl
theorem methodKind (h : Value) (w : World) : (Go.method 387 153 (.agg #[h]) "Kind").run Tryz.prog w = .ok (203, h) w := by kernel_rfl
theorem kindT (w : World) : ((ReflectliteType.abiMethod fun t => (fun a : Nat => Value.int IntKind.u8 (a : Int)) <$> Rtype.kind t) #[.pointer (some ⟨17, 256, none⟩)]).run Tryz.prog w = .ok (.int .u8 22) w := by kernel_rfl
theorem kindE (w : World) : ((ReflectliteType.abiMethod fun t => (fun a : Nat => Value.int IntKind.u8 (a : Int)) <$> Rtype.kind t) #[.pointer (some ⟨17, 255, none⟩)]).run Tryz.prog w = .ok (.int .u8 25) w := by kernel_rfl
/-- one step of a run, the first part known. -/
theorem run_step {α β : Type} {P : Program} {m : Sem α} {k : α → Sem β} {w w1 : World} {a : α} {r : Result β} (h : m.run P w = .ok a w1) (h2 : (k a).run P w1 = r) : (m >>= k).run P w = r := by
  rw [Sem.run_bind, h]; exact h2
theorem partsT (a : Addr) (w : World) : (ReflectliteValue.parts (.agg #[.pointer (some ⟨17, 256, none⟩), .pointer (some a), .int .u64 150])).run Tryz.prog w = .ok (some (256, a, 150)) w := by kernel_rfl
theorem isNilT (a p : Addr) (W : World) (ha : W.cell? a = some (.pointer (some p))) :
    (ReflectliteValue.method (ReflectliteValue.valueError "reflectlite.Value.IsNil" 0) ReflectliteValue.isNil #[.agg #[.pointer (some ⟨17, 256, none⟩), .pointer (some a), .int .u64 150]]).run Tryz.prog W = .ok (.bool false) W := by
  refine run_step (partsT a W) ?_
  simp [ReflectliteValue.isNil, loadVar, isAgg, underlying, Tryz.underlying256, ha, Result.andThen]
theorem methodElem (h : Value) (w : World) : (Go.method 387 153 (.agg #[h]) "Elem").run Tryz.prog w = .ok (216, .agg #[h]) w := by kernel_rfl
theorem methodImplements (h : Value) (w : World) : (Go.method 387 153 (.agg #[h]) "Implements").run Tryz.prog w = .ok (217, .agg #[h]) w := by kernel_rfl
theorem methodAssignableTo (h : Value) (w : World) : (Go.method 387 153 (.agg #[h]) "AssignableTo").run Tryz.prog w = .ok (214, .agg #[h]) w := by kernel_rfl
theorem elemT (w : World) : (ReflectliteType.method ReflectliteType.elem #[.agg #[.pointer (some ⟨17, 256, none⟩)]]).run Tryz.prog w = .ok (.iface 153 (.agg #[.pointer (some ⟨17, 255, none⟩)])) w := by kernel_rfl
theorem implementsE (w : World) : (ReflectliteType.relation "Implements" ReflectliteType.implements_ #[.agg #[.pointer (some ⟨17, 255, none⟩)], .iface 153 (.agg #[.pointer (some ⟨17, 47, none⟩)])]).run Tryz.prog w = .ok (.bool true) w := by kernel_rfl
theorem typeOfE (v : Value) (w : World) : (ReflectliteType.typeOf #[.iface 255 v]).run Tryz.prog w = .ok (.iface 153 (.agg #[.pointer (some ⟨17, 255, none⟩)])) w := by kernel_rfl
theorem typeOfF (v : Value) (w : World) : (ReflectliteType.typeOf #[.iface 252 v]).run Tryz.prog w = .ok (.iface 153 (.agg #[.pointer (some ⟨17, 252, none⟩)])) w := by kernel_rfl
theorem typeOfS (v : Value) (w : World) : (ReflectliteType.typeOf #[.iface 258 v]).run Tryz.prog w = .ok (.iface 153 (.agg #[.pointer (some ⟨17, 258, none⟩)])) w := by kernel_rfl
theorem assignE (w : World) : (ReflectliteType.relation "AssignableTo" ReflectliteType.assignableTo #[.agg #[.pointer (some ⟨17, 255, none⟩)], .iface 153 (.agg #[.pointer (some ⟨17, 255, none⟩)])]).run Tryz.prog w = .ok (.bool true) w := by kernel_rfl
theorem assignF (w : World) : (ReflectliteType.relation "AssignableTo" ReflectliteType.assignableTo #[.agg #[.pointer (some ⟨17, 252, none⟩)], .iface 153 (.agg #[.pointer (some ⟨17, 255, none⟩)])]).run Tryz.prog w = .ok (.bool false) w := by kernel_rfl
theorem assignS (w : World) : (ReflectliteType.relation "AssignableTo" ReflectliteType.assignableTo #[.agg #[.pointer (some ⟨17, 258, none⟩)], .iface 153 (.agg #[.pointer (some ⟨17, 255, none⟩)])]).run Tryz.prog w = .ok (.bool false) w := by kernel_rfl
theorem vOfE (x : Value) (w : World) : (ReflectliteValue.unpack (.iface 255 (.agg #[x]))).run Tryz.prog w
    = .ok (.agg #[.pointer (some ⟨17, 255, none⟩), .pointer (some ⟨w.heap.size, 0, none⟩), .int .u64 153]) (w.alloc (.cells #[x] 255)) := by kernel_rfl
theorem elemOfT (w : World) : (Rtype.elem? 256).run Tryz.prog w = .ok (some 255) w := by kernel_rfl
theorem mkE (p : Addr) (w : World) : (ReflectliteValue.mk 255 p ReflectliteValue.flagAddr).run Tryz.prog w = .ok (.agg #[.pointer (some ⟨17, 255, none⟩), .pointer (some p), .int .u64 409]) w := by kernel_rfl
theorem elemVT (a p : Addr) (W : World) (ha : W.cell? a = some (.pointer (some p))) :
    (ReflectliteValue.method (ReflectliteValue.valueError "reflectlite.Value.Elem" 0) ReflectliteValue.elem #[.agg #[.pointer (some ⟨17, 256, none⟩), .pointer (some a), .int .u64 150]]).run Tryz.prog W
      = .ok (.agg #[.pointer (some ⟨17, 255, none⟩), .pointer (some p), .int .u64 409]) W := by
  refine run_step (partsT a W) ?_
  simp [ReflectliteValue.elem, loadVar, isAgg, underlying, Tryz.underlying256, ha, Result.andThen, elemOfT, mkE]
theorem partsEa (a : Addr) (w : World) : (ReflectliteValue.parts (.agg #[.pointer (some ⟨17, 255, none⟩), .pointer (some a), .int .u64 409])).run Tryz.prog w = .ok (some (255, a, 409)) w := by kernel_rfl
theorem partsE (a : Addr) (w : World) : (ReflectliteValue.parts (.agg #[.pointer (some ⟨17, 255, none⟩), .pointer (some a), .int .u64 153])).run Tryz.prog w = .ok (some (255, a, 153)) w := by kernel_rfl
theorem directE (w : World) : (Rtype.directlyAssignable 255 255).run Tryz.prog w = .ok true w := by kernel_rfl
theorem sizeE (w : World) : (sizeOf 255).run Tryz.prog w = .ok 1 w := by kernel_rfl
theorem load1 (b : Addr) (x : Value) (W : World) (hb : W.cell? b = some x) : (loadCells b 1).run Tryz.prog W = .ok #[x] W := by
  have h : W.cell? (b.add 0) = some x := by simpa [Addr.add] using hb
  simp [loadCells, loadCellsFrom, h, Result.andThen]
theorem setE (ta b : Addr) (n : Int) (old : Value) (W : World) (hb : W.cell? b = some (.int .i32 n)) (ht : W.cell? ta = some old) (hf : W.frozen? ta = false) :
    (ReflectliteValue.set #[.agg #[.pointer (some ⟨17, 255, none⟩), .pointer (some ta), .int .u64 409], .agg #[.pointer (some ⟨17, 255, none⟩), .pointer (some b), .int .u64 153]]).run Tryz.prog W
      = .ok (.tuple #[]) (W.setCell ta (.int .i32 n)) := by
  refine run_step (partsEa ta W) ?_
  refine run_step (partsE b W) ?_
  simp [ReflectliteValue.flagAddr, loadVar, isAgg, underlying, Tryz.underlying255, load1 b _ W hb, Result.andThen, directE, storeVar, Value.cells, storeCells, Addr.add]
  rw [run_store Tryz.prog W ta _ _ (by rfl)]
  simp [ht, hf]

/-! ### what errors.as and errors.is find on the dynamic types -/
theorem noAsF (v : Value) (xT : TypeId) (w : World) : (Instr.typeAssert (.iface 252 v) xT 157 true).run Tryz.prog w = .ok (.tuple #[.nilIface, .bool false]) w := run_typeAssert_lacksB Tryz.underlying157 (by kernel_rfl) (by kernel_rfl) v xT w
theorem noAsS (v : Value) (xT : TypeId) (w : World) : (Instr.typeAssert (.iface 258 v) xT 157 true).run Tryz.prog w = .ok (.tuple #[.nilIface, .bool false]) w := run_typeAssert_lacksB Tryz.underlying157 (by kernel_rfl) (by kernel_rfl) v xT w
theorem noIsF (v : Value) (xT : TypeId) (w : World) : (Instr.typeAssert (.iface 252 v) xT 165 true).run Tryz.prog w = .ok (.tuple #[.nilIface, .bool false]) w := run_typeAssert_lacksB Tryz.underlying165 (by kernel_rfl) (by kernel_rfl) v xT w
theorem noIsS (v : Value) (xT : TypeId) (w : World) : (Instr.typeAssert (.iface 258 v) xT 165 true).run Tryz.prog w = .ok (.tuple #[.nilIface, .bool false]) w := run_typeAssert_lacksB Tryz.underlying165 (by kernel_rfl) (by kernel_rfl) v xT w
theorem unwF (v : Value) (xT : TypeId) (w : World) : (Instr.typeAssert (.iface 252 v) xT 160 true).run Tryz.prog w = .ok (.tuple #[.iface 252 v, .bool true]) w := run_typeAssert_hasB Tryz.underlying160 (by kernel_rfl) v xT w
theorem noUnwS (v : Value) (xT : TypeId) (w : World) : (Instr.typeAssert (.iface 258 v) xT 160 true).run Tryz.prog w = .ok (.tuple #[.nilIface, .bool false]) w := run_typeAssert_lacksB Tryz.underlying160 (by kernel_rfl) (by kernel_rfl) v xT w
theorem noUnwsS (v : Value) (xT : TypeId) (w : World) : (Instr.typeAssert (.iface 258 v) xT 162 true).run Tryz.prog w = .ok (.tuple #[.nilIface, .bool false]) w := run_typeAssert_lacksB Tryz.underlying162 (by kernel_rfl) (by kernel_rfl) v xT w
theorem methodUnwrap (v : Value) (w : World) : (Go.method 387 252 v "Unwrap").run Tryz.prog w = .ok (232, v) w := by kernel_rfl
/-- the model's entry for (rtype).Comparable, by its name, says that a pointer can be compared. -/
theorem cmpExt : ∃ ext : Array Value → Sem Value, find Tryz.f215 = some ext ∧
    ∀ w : World, (ext #[.agg #[.pointer (some ⟨17, 258, none⟩)]]).run Tryz.prog w = .ok (.bool true) w :=
  ⟨(find Tryz.f215).getD fun _ => pure (.tuple #[]), by kernel_rfl, fun w => by kernel_rfl⟩
theorem methodComparable (v : Value) (w : World) : (Go.method 387 153 v "Comparable").run Tryz.prog w = .ok (215, v) w := by kernel_rfl
theorem compS : (Tryz.prog.info? 258).map (·.comparable) = some true := by kernel_rfl
theorem sizeS : (Tryz.prog.info? 276).map (·.size) = some 1 := by kernel_rfl
end Go.Proofs.YtmjfkdpaeenfgaaGreatDoor.C
