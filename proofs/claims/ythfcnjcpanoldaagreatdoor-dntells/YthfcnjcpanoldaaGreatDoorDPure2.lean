/-
  Names and their texts, plainly: printing, reading, and what follows. Conditions: none.
-/
import Derived.Test.YthfcnjcpanoldaaGreatDoorDPure
import Derived.Test.YthfcnjcpanoldaaGreatDoorEB
namespace Go.Proofs.YthfcnjcpanoldaaGreatDoor.Dp
open Go Go.Proofs.YthfcnjcpanoldaaGreatDoor.Ec

def prA (a : Av) : List UInt8 := a.1.data.toList ++ 61 :: (E.pri true a.2).data.toList
def prR (r : Rd) : List UInt8 := jn 43 (r.map prA)
def prL (d : Nm) : List UInt8 := jn 44 (d.map prR)
def pr (d : Nm) : ByteArray := ⟨(prL d).toArray⟩
def rdA (l : List UInt8) : Option Av := match cutE l with
  | none => none
  | some (k, t) => if (E.und true ⟨t.toArray⟩).2 = 0 ∧ okA (⟨k.toArray⟩, (E.und true ⟨t.toArray⟩).1) = true then some (⟨k.toArray⟩, (E.und true ⟨t.toArray⟩).1) else none
def rdR (l : List UInt8) : Option Rd := rdAll rdA 3 (pcs 43 l)
def rdN (l : List UInt8) : Option Nm := if l = [] then some [] else rdAll rdR 8 (pcs 44 l)
theorem pr_data (d : Nm) : (pr d).data.toList = prL d := rfl
theorem mk_toList (l : List UInt8) : (⟨l.toArray⟩ : ByteArray).data.toList = l := rfl

/-! ### what is printed is cut nowhere -/
def sg (c : UInt8) : Prop := c = 44 ∨ c = 43
theorem clo_esc {c : UInt8} (hc : c ≠ 92) (x : UInt8) (r : List UInt8) : clo c false (92 :: x :: r) = clo c false r := by
  rw [clo, show ((92 : UInt8) == 92) = true from rfl, clo]
  simp [Ne.symm hc]
theorem clo_pb {c : UInt8} (hc : sg c) (n p : Nat) (x : UInt8) : clo c false (pb true n p x) = true := by
  have hN : sN.contains c = true ∧ c ≠ 92 := by rcases hc with rfl | rfl <;> decide
  unfold pb
  split
  · rename_i h
    rw [Bool.and_eq_true, Bool.not_eq_true'] at h
    have h92 : x ≠ 92 := fun e => by subst e; rw [res92] at h; cases h.2
    have hxc : x ≠ c := fun e => by
      subst e
      have : res true n p x = true := by unfold res; rw [if_pos rfl, hN.1]; rfl
      rw [this] at h
      cases h.2
    exact clo_plain c [x] (by simp [hxc, h92])
  · split
    · rw [clo_esc hN.2]
      rfl
    · have h2 : ∀ i : Fin 16, Cd.dx i.val ≠ 44 ∧ Cd.dx i.val ≠ 43 ∧ Cd.dx i.val ≠ 92 := by decide +kernel
      have h3 := h2 ⟨x.toNat % 16, by omega⟩
      have h4 : Cd.dx (x.toNat % 16) ≠ c := by rcases hc with rfl | rfl; exact h3.1; exact h3.2.1
      have h5 : Cd.dx (x.toNat % 16) ≠ 92 := h3.2.2
      rw [hx, clo_esc hN.2]
      exact clo_plain c _ (by simp [h4, h5])
theorem clo_prt {c : UInt8} (hc : sg c) (n : Nat) : ∀ (l : List UInt8) (p : Nat), clo c false (prt true n p l) = true
  | [], _ => rfl
  | x :: l, p => by rw [prt]; exact clo_app c _ _ _ (clo_pb hc n p x) (clo_prt hc n l (p + 1))
theorem clo_A {c : UInt8} (hc : sg c) {a : Av} (h : okA a = true) : clo c false (prA a) = true := by
  unfold okA isTy at h
  rw [Bool.and_eq_true] at h
  unfold prA
  have h1 : ∀ x ∈ a.1.data.toList, x ≠ c ∧ x ≠ 92 := fun x hx => by
    have := tyB_ne x (ty_bytes h.1 x hx)
    rcases hc with rfl | rfl
    · exact ⟨this.2.1, this.2.2.2⟩
    · exact ⟨this.2.2.1, this.2.2.2⟩
  refine clo_app c _ _ _ (clo_plain c _ h1) ?_
  have h2 := clo_prt hc a.2.data.toList.length a.2.data.toList 0
  rw [← E.pri_data] at h2
  rw [clo, show ((61 : UInt8) == 92) = false by decide, h2]
  rcases hc with rfl | rfl <;> decide
theorem clo_R {r : Rd} (h : okR r = true) : clo 44 false (prR r) = true := by
  unfold okR at h
  rw [Bool.and_eq_true, List.all_eq_true] at h
  refine clo_jn 44 43 (by decide) (by decide) _ fun x hx => ?_
  obtain ⟨a, ha, rfl⟩ := List.mem_map.1 hx
  exact clo_A (.inl rfl) (h.2 a ha)
theorem mk_list (s : ByteArray) : (⟨s.data.toList.toArray⟩ : ByteArray) = s := by cases s; rfl
theorem rdA_pr {a : Av} (h : okA a = true) : rdA (prA a) = some a := by
  have h' := h
  unfold okA isTy at h
  rw [Bool.and_eq_true] at h
  unfold rdA prA
  rw [cutE_at _ _ (fun x hx => (tyB_ne x (ty_bytes h.1 x hx)).1)]
  simp only [mk_list, E.und_pri]
  rw [if_pos ⟨trivial, h'⟩]
theorem pcs_R {r : Rd} (h : okR r = true) : pcs 43 (prR r) = r.map prA := by
  unfold okR at h
  simp only [Bool.and_eq_true, decide_eq_true_eq, List.all_eq_true] at h
  refine pcs_jn 43 _ (fun e => ?_) fun x hx => ?_
  · have := congrArg List.length e
    simp at this
    rw [this] at h
    simp at h
  · obtain ⟨a, ha, rfl⟩ := List.mem_map.1 hx
    exact clo_A (.inr rfl) (h.2 a ha)
theorem rdR_pr {r : Rd} (h : okR r = true) : rdR (prR r) = some r := by
  unfold rdR rdAll
  rw [pcs_R h]
  unfold okR at h
  simp only [Bool.and_eq_true, decide_eq_true_eq, List.all_eq_true] at h
  rw [if_pos (by simpa using h.1.2)]
  exact mp_map rdA prA r fun a ha => rdA_pr (h.2 a ha)
theorem prA_ne (a : Av) : prA a ≠ [] := by unfold prA; simp
theorem jn_ne (c : UInt8) : ∀ xs : List (List UInt8), xs ≠ [] → (∀ x ∈ xs, x ≠ []) → jn c xs ≠ []
  | [], h, _ => absurd rfl h
  | [x], _, h => by rw [jn_one]; exact h x (by simp)
  | x :: y :: r, _, _ => by rw [jn_cons]; simp
theorem prR_ne {r : Rd} (h : okR r = true) : prR r ≠ [] := by
  unfold okR at h
  simp only [Bool.and_eq_true, decide_eq_true_eq] at h
  refine jn_ne 43 _ (fun e => ?_) fun x hx => ?_
  · have := congrArg List.length e
    simp at this
    rw [this] at h
    simp at h
  · obtain ⟨a, _, rfl⟩ := List.mem_map.1 hx
    exact prA_ne a
theorem okN_all {d : Nm} (h : okN d = true) : d.length ≤ 8 ∧ ∀ r ∈ d, okR r = true := by
  unfold okN at h
  simpa [Bool.and_eq_true, List.all_eq_true] using h
theorem pcs_N {d : Nm} (h : okN d = true) (hd : d ≠ []) : pcs 44 (prL d) = d.map prR := by
  refine pcs_jn 44 _ (by simpa using hd) fun x hx => ?_
  obtain ⟨r, hr, rfl⟩ := List.mem_map.1 hx
  exact clo_R ((okN_all h).2 r hr)
theorem prL_ne {d : Nm} (h : okN d = true) (hd : d ≠ []) : prL d ≠ [] := by
  refine jn_ne 44 _ (by simpa using hd) fun x hx => ?_
  obtain ⟨r, hr, rfl⟩ := List.mem_map.1 hx
  exact prR_ne ((okN_all h).2 r hr)
/-- names are read from their texts. -/
theorem rdN_pr {d : Nm} (h : okN d = true) : rdN (prL d) = some d := by
  unfold rdN
  by_cases hd : d = []
  · subst hd; rfl
  · rw [if_neg (prL_ne h hd), rdAll, pcs_N h hd, if_pos (by simpa using (okN_all h).1)]
    exact mp_map rdR prR d fun r hr => rdR_pr ((okN_all h).2 r hr)
theorem rdA_ok {l : List UInt8} {a : Av} (h : rdA l = some a) : okA a = true := by
  unfold rdA at h
  split at h
  · cases h
  · split at h
    · rename_i h1; cases h; exact h1.2
    · cases h
theorem rdR_ok {l : List UInt8} {r : Rd} (h : rdR l = some r) : okR r = true := by
  unfold rdR rdAll at h
  split at h
  · rename_i h3
    have h1 := mp_len rdA _ _ h
    have h2 := mp_all rdA (fun a => okA a = true) (fun x a => rdA_ok) _ _ h
    have h4 : (pcs 43 l).length ≠ 0 := fun e => sp_ne 43 l false [] (List.length_eq_zero_iff.1 e)
    unfold okR
    simp only [Bool.and_eq_true, decide_eq_true_eq, List.all_eq_true]
    exact ⟨⟨by omega, by omega⟩, h2⟩
  · cases h
/-- what is read is right. -/
theorem rdN_ok {l : List UInt8} {d : Nm} (h : rdN l = some d) : okN d = true := by
  unfold rdN at h
  split at h
  · cases h; decide
  · unfold rdAll at h
    split at h
    · rename_i h3
      have h1 := mp_len rdR _ _ h
      have h2 := mp_all rdR (fun a => okR a = true) (fun x a => rdR_ok) _ _ h
      unfold okN
      simp only [Bool.and_eq_true, decide_eq_true_eq, List.all_eq_true]
      exact ⟨by omega, h2⟩
    · cases h

/-! ### how long -/
theorem okA_size {a : Av} (h : okA a = true) : a.1.size ≤ 20 ∧ a.2.size ≤ 60 := by
  unfold okA isTy tyL at h
  simp only [Bool.and_eq_true, decide_eq_true_eq] at h
  exact ⟨by have := h.1.1; rwa [E.len_toList] at this, h.2⟩
theorem prA_len {a : Av} (h : okA a = true) : (prA a).length ≤ 201 := by
  have h1 := okA_size h
  have h2 := (E.pri_size true a.2).2
  unfold prA
  rw [List.length_append, List.length_cons, E.len_toList, E.len_toList]
  omega
theorem prR_len {r : Rd} (h : okR r = true) : (prR r).length ≤ 606 := by
  unfold okR at h
  simp only [Bool.and_eq_true, decide_eq_true_eq, List.all_eq_true] at h
  have := jn_len 43 201 (r.map prA) fun x hx => by
    obtain ⟨a, ha, rfl⟩ := List.mem_map.1 hx
    exact prA_len (h.2 a ha)
  rw [List.length_map] at this
  unfold prR
  omega
theorem prL_len {d : Nm} (h : okN d = true) : (prL d).length ≤ 4856 := by
  have := jn_len 44 606 (d.map prR) fun x hx => by
    obtain ⟨r, hr, rfl⟩ := List.mem_map.1 hx
    exact prR_len ((okN_all h).2 r hr)
  rw [List.length_map] at this
  have := (okN_all h).1
  unfold prL
  omega
/-- each piece that is read as a part is short. -/
def Shrt (l : List UInt8) : Prop := l.length ≤ 5000 ∧ ∀ p ∈ pcs 44 l, ∀ q ∈ pcs 43 p, q.length ≤ 1000
theorem shrt_of {l : List UInt8} (h : l.length ≤ 1000) : Shrt l := ⟨by omega, fun p hp q hq => by
  have h1 := sp_small 44 l false [] p hp
  have h2 := sp_small 43 p false [] q hq
  simp at h1 h2
  omega⟩
theorem shrt_pr {d : Nm} (h : okN d = true) : Shrt (prL d) := by
  refine ⟨by have := prL_len h; omega, fun p hp q hq => ?_⟩
  by_cases hd : d = []
  · subst hd
    have e : pcs 44 (prL []) = [[]] := rfl
    rw [e] at hp
    simp at hp
    subst hp
    have e : pcs 43 [] = [[]] := rfl
    rw [e] at hq
    simp at hq
    subst hq
    simp
  · rw [pcs_N h hd] at hp
    obtain ⟨r, hr, rfl⟩ := List.mem_map.1 hp
    rw [pcs_R ((okN_all h).2 r hr)] at hq
    obtain ⟨a, ha, rfl⟩ := List.mem_map.1 hq
    have h1 := (okN_all h).2 r hr
    unfold okR at h1
    simp only [Bool.and_eq_true, List.all_eq_true] at h1
    have := prA_len (h1.2 a ha)
    omega

/-! ### joining, parents -/
theorem prL_app {x y : Nm} (hx : x ≠ []) (hy : y ≠ []) : prL (x ++ y) = prL x ++ 44 :: prL y := by
  unfold prL
  rw [List.map_append, jn_app 44 (by simpa using hx) (by simpa using hy)]
theorem okN_app (x y : Nm) : okN (x ++ y) = (decide ((x ++ y).length ≤ 8) && (x.all okR && y.all okR)) := by
  unfold okN
  rw [List.all_append]
theorem okN_tail {r : Rd} {d : Nm} (h : okN (r :: d) = true) : okN d = true := by
  unfold okN at h ⊢
  simp only [Bool.and_eq_true, decide_eq_true_eq, List.all_cons, List.length_cons] at h ⊢
  exact ⟨by omega, h.2.2⟩

/-! ### values by their digits -/
def dgs (l : List UInt8) : List UInt8 := l.flatMap fun x => 92 :: hx x
theorem rdk_dgs (N : Nat) : ∀ (l : List UInt8) (p : Nat), rdk true N 0 p (dgs l) = some l
  | [], p => by simp [dgs, rdk]
  | x :: l, p => by
    obtain ⟨a1, a2, _⟩ := dx_ok _ (u16 x).1
    obtain ⟨b1, b2, _⟩ := dx_ok _ (u16 x).2
    have e : dgs (x :: l) = 92 :: Cd.dx (x.toNat / 16) :: Cd.dx (x.toNat % 16) :: dgs l := by simp [dgs, hx]
    have hs : stp true N p 92 (Cd.dx (x.toNat / 16) :: Cd.dx (x.toNat % 16) :: dgs l) = some ([x], 2) := by
      unfold stp
      rw [if_pos rfl]
      rw [esc1, if_neg (by rw [a2]; simp)]
      simp only [a1, b1]
      congr 2
      have : UInt8.ofNat (16 * (x.toNat / 16) + x.toNat % 16) = x := Cd.ofNat_eq (by have := x.toNat_lt; omega)
      rw [this]
    rw [e, rdk_cons, hs]
    simp only
    rw [rdk, rdk, rdk_dgs N l]
    rfl
theorem dgs_mem {l : List UInt8} : ∀ y ∈ dgs l, pln y = true := by
  intro y hy
  unfold dgs at hy
  obtain ⟨x, _, h⟩ := List.mem_flatMap.1 hy
  simp [hx] at h
  rcases h with rfl | rfl | rfl
  · exact pln92
  · exact (dx_ok _ (u16 x).1).2.2
  · exact (dx_ok _ (u16 x).2).2.2
theorem und_dgs (v : ByteArray) : E.und true ⟨(dgs v.data.toList).toArray⟩ = (v, 0) := by
  have h := E.rd_low true (s := ⟨(dgs v.data.toList).toArray⟩) (fun x hx => E.pln_low (dgs_mem x hx))
  have h2 := rdk_dgs (⟨(dgs v.data.toList).toArray⟩ : ByteArray).size v.data.toList 0
  unfold E.und
  rw [h, show (⟨(dgs v.data.toList).toArray⟩ : ByteArray).data.toList = dgs v.data.toList from rfl, h2]
theorem clo_dgs {c : UInt8} (hc : sg c) : ∀ l : List UInt8, clo c false (dgs l) = true
  | [] => rfl
  | x :: l => by
    have h2 : ∀ i : Fin 16, Cd.dx i.val ≠ 44 ∧ Cd.dx i.val ≠ 43 ∧ Cd.dx i.val ≠ 92 := by decide +kernel
    have h3 := h2 ⟨x.toNat % 16, by omega⟩
    have h4 : Cd.dx (x.toNat % 16) ≠ c := by rcases hc with rfl | rfl; exact h3.1; exact h3.2.1
    have hN : c ≠ 92 := by rcases hc with rfl | rfl <;> decide
    have e : dgs (x :: l) = [92, Cd.dx (x.toNat / 16), Cd.dx (x.toNat % 16)] ++ dgs l := by simp [dgs, hx]
    rw [e]
    refine clo_app c _ _ _ ?_ (clo_dgs hc l)
    rw [clo_esc hN]
    exact clo_plain c _ (by simpa using ⟨h4, h3.2.2⟩)
/-- a part whose value is told by its digits. -/
theorem rdN_dgs {k v : ByteArray} (h : okA (k, v) = true) : rdN (k.data.toList ++ 61 :: dgs v.data.toList) = some [[(k, v)]] := by
  have h' := h
  unfold okA isTy at h'
  rw [Bool.and_eq_true] at h'
  have hc : ∀ {c : UInt8}, sg c → clo c false (k.data.toList ++ 61 :: dgs v.data.toList) = true := fun {c} hc => by
    have h1 : ∀ x ∈ k.data.toList, x ≠ c ∧ x ≠ 92 := fun x hx => by
      have := tyB_ne x (ty_bytes h'.1 x hx)
      rcases hc with rfl | rfl
      · exact ⟨this.2.1, this.2.2.2⟩
      · exact ⟨this.2.2.1, this.2.2.2⟩
    refine clo_app c _ _ _ (clo_plain c _ h1) ?_
    rw [clo, show ((61 : UInt8) == 92) = false by decide, clo_dgs hc]
    rcases hc with rfl | rfl <;> decide
  have e1 : pcs 44 (k.data.toList ++ 61 :: dgs v.data.toList) = [k.data.toList ++ 61 :: dgs v.data.toList] := (clo_sp 44 _ false [] (hc (.inl rfl))).1
  have e2 : pcs 43 (k.data.toList ++ 61 :: dgs v.data.toList) = [k.data.toList ++ 61 :: dgs v.data.toList] := (clo_sp 43 _ false [] (hc (.inr rfl))).1
  have e3 : rdA (k.data.toList ++ 61 :: dgs v.data.toList) = some (k, v) := by
    unfold rdA
    rw [cutE_at _ _ (fun x hx => (tyB_ne x (ty_bytes h'.1 x hx)).1)]
    simp only [mk_list, und_dgs]
    rw [if_pos ⟨trivial, h⟩]
  have e4 : rdR (k.data.toList ++ 61 :: dgs v.data.toList) = some [(k, v)] := by
    unfold rdR rdAll
    rw [e2, if_pos (by simp), mp, e3]
    rfl
  unfold rdN rdAll
  rw [if_neg (by simp), e1, if_pos (by simp), mp, e4]
  rfl
end Go.Proofs.YthfcnjcpanoldaaGreatDoor.Dp
