/-
  What the document's own Base and Hex answer. Conditions: none.
-/
import Derived.Test.YtgapoofalnakmaaDoorCRef1
namespace Go.Proofs.YtgapoofalnakmaaDoor.C
open Go Go.RowKit Cd
attribute [local go_sem] Oper.semAt_some

theorem data_app (a b : ByteArray) : (a ++ b).data.toList = a.data.toList ++ b.data.toList := by simp [ByteArray.data_append]
theorem eq_of_data {a : ByteArray} {l : List UInt8} (h : a.data.toList = l) : a = ⟨l.toArray⟩ := ByteArray.ext (Array.ext' h)
theorem size_mk (l : List UInt8) : (⟨l.toArray⟩ : ByteArray).size = l.length := List.size_toArray
theorem i64w (n : Int) (h0 : 0 ≤ n) (h : n < 1000000000000) : IntKind.i64.wrap n = n := by
  obtain ⟨m, rfl⟩ := Int.eq_ofNat_of_zero_le h0
  exact wrap_i64 m (by omega)
theorem slice_dig (k : Nat) (hk : k < 16) (wx : World) : (Instr.slice 9 (.string digitsS) (some (.int .i64 (k : Int))) (some (.int .i64 ((k : Int) + 1))) none).run Tryd.prog wx = .ok (.string ⟨#[dx k]⟩) wx := by
  have := run_slice_string (P := Tryd.prog) (w := wx) 9 digitsS .i64 .i64 (k : Int) ((k : Int) + 1) Tryd.underlying9 (by omega) (by omega) (by show (k : Int) + 1 ≤ 16; omega)
  rw [show ((k : Int)).toNat = k by omega, show ((k : Int) + 1).toNat = k + 1 by omega] at this
  have e : ∀ i : Fin 16, (digitsS.extract i.val (i.val + 1)).data.toList = [dx i.val] := by decide +kernel
  rw [this, show digitsS.extract k (k + 1) = ⟨#[dx k]⟩ from ByteArray.ext (Array.ext' (e ⟨k, hk⟩))]
theorem at_drop {s : ByteArray} {p : Nat} (h : p < s.size) : s.data.toList.drop p = s[p] :: s.data.toList.drop (p + 1) := by
  have hl : p < s.data.toList.length := by simpa using h
  rw [List.drop_eq_getElem_cons hl]
  rfl
set_option linter.unusedSimpArgs false in
set_option maxRecDepth 100000 in
set_option maxHeartbeats 2000000 in
theorem refHex_any (s : ByteArray) (w : World) (hs : s.size ≤ 1000) :
    Calls Tryd.prog 25 #[.string s] w fun e w' => e = .returned (.string (pri kH s)) ∧ Below w.heap.size w w' := by
  have hmx : Tryd.prog.follows .mixedOrders = true := by kernel_rfl
  go_enter Tryd.func25, Tryd.ntmps25
  go_wp2
  go_loopw [4, 5] (fun sl ix wr => ∃ (p : Nat) (o : ByteArray), p ≤ s.size ∧ sl = .string o ∧ ix = .int .i64 (p : Int) ∧ o.size = 2 * p ∧ o.data.toList ++ enc kH (s.data.toList.drop p) = enc kH s.data.toList ∧ Below w.heap.size w wr)
    (fun _ ix _ => s.size - (intOf ix).toNat)
  case atStart => exact ⟨0, ⟨#[]⟩, by omega, rfl, rfl, by decide, rfl, Below.refl _ _⟩
  case round =>
    obtain ⟨p, o, hp, rfl, rfl, ho, hE, hB⟩ := hrel
    have HB := hide hB
    clear hB
    by_cases hlt : p < s.size
    · obtain ⟨c, hc⟩ : ∃ c, s[p] = c := ⟨_, rfl⟩
      have hcl := c.toNat_lt
      rw [at_drop hlt, hc, enc_H1, gr_H1, ← List.append_assoc] at hE
      have s1 := fun wx => slice_dig (c.toNat / 16) (by omega) wx
      have s2 := fun wx => slice_dig (c.toNat % 16) (by omega) wx
      rw [show ((c.toNat / 16 : Nat) : Int) = (c.toNat : Int) / 16 by omega] at s1
      rw [show ((c.toNat % 16 : Nat) : Int) = (c.toNat : Int) % 16 by omega] at s2
      have hE2 : (o ++ ⟨#[dx (c.toNat / 16)]⟩ ++ ⟨#[dx (c.toNat % 16)]⟩).data.toList ++ enc kH (s.data.toList.drop (p + 1)) = enc kH s.data.toList := by
        rw [data_app, data_app, List.append_assoc o.data.toList]
        exact hE
      have hsz : (o ++ ⟨#[dx (c.toNat / 16)]⟩ ++ ⟨#[dx (c.toNat % 16)]⟩).size = o.size + 1 + 1 := by rw [ByteArray.size_append, ByteArray.size_append]; rfl
      have HE := hide hE2
      have z1 : ((⟨#[dx (c.toNat / 16)]⟩ : ByteArray).size : Int) = 1 := rfl
      have z2 : ((⟨#[dx (c.toNat % 16)]⟩ : ByteArray).size : Int) = 1 := rfl
      generalize (⟨#[dx (c.toNat / 16)]⟩ : ByteArray) = x at *
      generalize (⟨#[dx (c.toNat % 16)]⟩ : ByteArray) = y at *
      have ho' : (o.size : Int) ≤ 2000 := by omega
      have hp' : (p : Int) ≤ 1000 := by omega
      have hlt' : (p : Int) < s.size := by omega
      have zz : ((o ++ x).size : Int) ≤ 2001 := by rw [ByteArray.size_append]; omega
      have v1 : IntKind.i64.wrap ((c.toNat : Int) / 16 + 1) = (c.toNat : Int) / 16 + 1 := i64w _ (by omega) (by omega)
      have v2 : IntKind.i64.wrap ((c.toNat : Int) % 16 + 1) = (c.toNat : Int) % 16 + 1 := i64w _ (by omega) (by omega)
      have Hsz := hide hsz
      have Ho := hide ho
      clear hE hE2 hsz ho
      go_wp2
      have k1 : ¬ 9223372036854775807 < o.size + x.size := by omega
      have k2 : ¬ 9223372036854775807 < o.size + x.size + y.size := by omega
      refine region_tail_n 13 hmx (by kernel_rfl) ?_
      simp only [List.take_succ_cons, List.take_zero, List.drop_succ_cons, List.drop_zero]
      refine wst_do (by kernel_rfl) (fun K hK => ?_)
      go_simp
      refine hK.out _ ?_
      clear hK K
      refine wst_do (by kernel_rfl) (fun K hK => ?_)
      go_simp
      refine hK.out _ ?_
      clear hK K
      refine wst_do (by kernel_rfl) (fun K hK => ?_)
      go_simp
      refine hK.out _ ?_
      clear hK K
      refine wst_do (by kernel_rfl) (fun K hK => ?_)
      go_simp
      refine hK.out _ ?_
      clear hK K
      refine wst_do (by kernel_rfl) (fun K hK => ?_)
      go_simp
      refine hK.out _ ?_
      clear hK K
      refine wst_do (by kernel_rfl) (fun K hK => ?_)
      go_simp
      refine hK.out _ ?_
      clear hK K
      refine wst_do (by kernel_rfl) (fun K hK => ?_)
      go_simp
      refine hK.out _ ?_
      clear hK K
      refine wst_do (by kernel_rfl) (fun K hK => ?_)
      go_simp
      refine hK.out _ ?_
      clear hK K
      refine wst_do (by kernel_rfl) (fun K hK => ?_)
      go_simp
      refine hK.out _ ?_
      clear hK K
      refine wst_do (by kernel_rfl) (fun K hK => ?_)
      go_simp
      refine hK.out _ ?_
      clear hK K
      refine wst_do (by kernel_rfl) (fun K hK => ?_)
      go_simp
      refine hK.out _ ?_
      clear hK K
      refine wst_do (by kernel_rfl) (fun K hK => ?_)
      go_simp
      refine hK.out _ ?_
      clear hK K
      refine wst_do (by kernel_rfl) (fun K hK => ?_)
      go_simp
      refine hK.out _ ?_
      clear hK K
      clear k1 k2
      refine wst_nil ?_
      go_wp2
      simp only [only]
      go_wp2
      go_roundw
      case rel =>
        exact ⟨p + 1, _, by omega, rfl, by simp, by have := unhide Hsz; have := unhide Ho; omega, unhide HE, (unhide HB).drew⟩
      case measure => simp [intOf]; omega
    · have hge : ¬ (p : Int) < s.size := by omega
      rw [drop_ne.2 hlt, enc_nil, List.append_nil] at hE
      have HE := hide (eq_of_data hE)
      clear hE
      go_wp2
      go_ret
      exact ⟨by rw [unhide HE]; rfl, unhide HB⟩
end Go.Proofs.YtgapoofalnakmaaDoor.C
