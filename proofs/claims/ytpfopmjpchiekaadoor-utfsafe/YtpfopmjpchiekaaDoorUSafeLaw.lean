/-
  latinerlaw04.UtfSafe returns true at every text: a safe text is right, has as many signs as bytes, and is not safe with a blank ahead, or behind. Conditions: the package-level variables hold what the program's text lays (the card ties them).
-/
import Derived.Test.YtpfopmjpchiekaaDoorULaid
import Derived.Test.YtpfopmjpchiekaaDoorURight
import Derived.Laws.DeepStrings4
namespace Go.Proofs.YtpfopmjpchiekaaDoor.U.safe
open Go Go.RowKit Go.ChangeShapes Go.WideShapes Go.ChangeAt Go.ChangeMaps

set_option maxRecDepth 100000 in
set_option maxHeartbeats 2000000 in
theorem wb (s p : ByteArray) (w : World) (e0 : Hid (Keeps w 10 #[] (.bool true))) (e1 : Hid (Keeps w 11 #[.string s] (.string p))) (e2 : Hid (Keeps w 13 #[.string p] (.tuple #[.slice none 0 0, .int .i64 40]))) (e3 : Hid (Keeps w 22 #[.string p] (.bool false))) (hp : p.toList.isEmpty = false) :
    Calls Tryd.prog 7 #[.string s] w fun e w' => e = .returned (.bool true) ∧ Below w.heap.size w w' := by
  go_enter Tryd.func7, Tryd.ntmps7
  go_wp2_with fail
  refine ((unhide e0) _ (Below.refl _ _)).mono ?_
  rintro e w1 ⟨rfl, hb⟩
  have B1 := hide (step (Below.refl _ _) hb)
  clear hb
  go_wp2_with fail
  refine ((unhide e1) _ (unhide B1)).mono ?_
  rintro e w2 ⟨rfl, hb⟩
  have B2 := hide (step (unhide B1) hb)
  clear hb
  go_wp2_with fail
  refine ((unhide e2) _ (unhide B2)).mono ?_
  rintro e w3 ⟨rfl, hb⟩
  have B3 := hide (step (unhide B2) hb)
  clear hb
  go_wp2_with fail
  refine ((unhide e3) _ (unhide B3)).mono ?_
  rintro e w4 ⟨rfl, hb⟩
  have B4 := hide (step (unhide B3) hb)
  clear hb
  go_wp2
  go_ret
  exact ⟨rfl, unhide B4⟩

set_option maxRecDepth 100000 in
set_option maxHeartbeats 2000000 in
theorem wr (s p : ByteArray) (w : World) (e0 : Hid (Keeps w 10 #[] (.bool true))) (e1 : Hid (Keeps w 11 #[.string s] (.string p))) (cs : List Int) (e2 : Hid (KSigns w p cs)) (e3 : Hid (Keeps w 22 #[.string p] (.bool false))) (hp : p.toList.isEmpty = false) :
    Calls Tryd.prog 7 #[.string s] w fun e w' => e = .returned (.bool true) ∧ Below w.heap.size w w' := by
  go_enter Tryd.func7, Tryd.ntmps7
  go_wp2_with fail
  refine ((unhide e0) _ (Below.refl _ _)).mono ?_
  rintro e w1 ⟨rfl, hb⟩
  have B1 := hide (step (Below.refl _ _) hb)
  clear hb
  go_wp2_with fail
  refine ((unhide e1) _ (unhide B1)).mono ?_
  rintro e w2 ⟨rfl, hb⟩
  have B2 := hide (step (unhide B1) hb)
  clear hb
  go_wp2_with fail
  refine ((unhide e2) _ (unhide B2)).mono ?_
  rintro e w3 ⟨aX, nX, cX, rfl, hnX, hl, hb⟩
  have B3 := hide (step (unhide B2) hb)
  have LX_3 := hide hl
  clear hb hl
  clear hnX
  go_wp2_with fail
  refine ((unhide e3) _ (unhide B3)).mono ?_
  rintro e w4 ⟨rfl, hb⟩
  have B4 := hide (step (unhide B3) hb)
  have LX_4 := hide ((unhide LX_3).below (Nat.le_refl _) hb)
  clear hb
  go_wp2
  go_ret
  exact ⟨rfl, unhide B4⟩

set_option maxRecDepth 100000 in
set_option maxHeartbeats 2000000 in
theorem wy (s p : ByteArray) (w : World) (e0 : Hid (Keeps w 10 #[] (.bool true))) (e1 : Hid (Keeps w 11 #[.string s] (.string p))) (cs : List Int) (hc : cs.length = p.size) (hz : (p.size : Int) ≤ 100) (e2 : Hid (KSigns w p cs)) (e3 : Hid (Keeps w 22 #[.string p] (.bool true))) (e4 : Hid (Keeps w 22 #[.string (⟨#[32]⟩ ++ p)] (.bool false))) (e5 : Hid (Keeps w 22 #[.string (p ++ ⟨#[32]⟩)] (.bool false))) (e6 : Hid (Keeps w 22 #[.string (p ++ ⟨#[10]⟩)] (.bool false))) (e7 : Hid (Keeps w 22 #[.string (⟨#[97]⟩ ++ p ++ ⟨#[97]⟩)] (.bool true))) :
    Calls Tryd.prog 7 #[.string s] w fun e w' => e = .returned (.bool true) ∧ Below w.heap.size w w' := by
  go_enter Tryd.func7, Tryd.ntmps7
  go_wp2_with fail
  refine ((unhide e0) _ (Below.refl _ _)).mono ?_
  rintro e w1 ⟨rfl, hb⟩
  have B1 := hide (step (Below.refl _ _) hb)
  clear hb
  go_wp2_with fail
  refine ((unhide e1) _ (unhide B1)).mono ?_
  rintro e w2 ⟨rfl, hb⟩
  have B2 := hide (step (unhide B1) hb)
  clear hb
  go_wp2_with fail
  refine ((unhide e2) _ (unhide B2)).mono ?_
  rintro e w3 ⟨aX, nX, cX, rfl, hnX, hl, hb⟩
  have B3 := hide (step (unhide B2) hb)
  have LX_3 := hide hl
  clear hb hl
  rw [hc] at hnX
  subst hnX
  go_wp2_with fail
  refine ((unhide e3) _ (unhide B3)).mono ?_
  rintro e w4 ⟨rfl, hb⟩
  have B4 := hide (step (unhide B3) hb)
  have LX_4 := hide ((unhide LX_3).below (Nat.le_refl _) hb)
  clear hb
  go_wp2_with fail
  refine ((unhide e4) _ (unhide B4)).mono ?_
  rintro e w5 ⟨rfl, hb⟩
  have B5 := hide (step (unhide B4) hb)
  have LX_5 := hide ((unhide LX_4).below (Nat.le_refl _) hb)
  clear hb
  go_wp2_with fail
  refine ((unhide e5) _ (unhide B5)).mono ?_
  rintro e w6 ⟨rfl, hb⟩
  have B6 := hide (step (unhide B5) hb)
  have LX_6 := hide ((unhide LX_5).below (Nat.le_refl _) hb)
  clear hb
  go_wp2_with fail
  refine ((unhide e6) _ (unhide B6)).mono ?_
  rintro e w7 ⟨rfl, hb⟩
  have B7 := hide (step (unhide B6) hb)
  have LX_7 := hide ((unhide LX_6).below (Nat.le_refl _) hb)
  clear hb
  go_wp2_with fail
  refine ((unhide e7) _ (unhide B7)).mono ?_
  rintro e w8 ⟨rfl, hb⟩
  have B8 := hide (step (unhide B7) hb)
  have LX_8 := hide ((unhide LX_7).below (Nat.le_refl _) hb)
  clear hb
  go_wp2
  go_ret
  exact ⟨rfl, unhide B8⟩

theorem at_append (a c : ByteArray) (q : Nat) : at_ (a ++ c) q = if q < a.size then at_ a q else at_ c (q - a.size) := by
  unfold at_ Ut.g
  rw [data_append, List.getD_eq_getElem?_getD, List.getElem?_append, len_toList]
  split <;> rw [List.getD_eq_getElem?_getD]
theorem ok3_size {s s' : ByteArray} (p n : Nat) (h : s.size = s'.size) : ok3 s p n = ok3 s' p n := by unfold ok3 ends; rw [h]
theorem not_safe {s : ByteArray} (q : Nat) (hq : q < s.size) (h : ok3 s q (at_ s q) = false) : safe s = false := by
  rw [Bool.eq_false_iff]
  intro hs
  have := (safe_iff s).1 hs q hq
  rw [h] at this
  cases this
theorem ok3_iff (s : ByteArray) (p n : Nat) : ok3 s p n = true ↔ (n ≠ 0 ∧ n ≠ 10 ∧ n ≠ 13 ∧ n < 128) ∧ ¬ (p = 0 ∧ (n = 32 ∨ n = 58 ∨ n = 60)) ∧ ¬ ((p : Int) = (s.size : Int) - 1 ∧ n = 32) := by
  unfold ok3 plain begins ends
  simp only [Bool.and_eq_true, Bool.not_eq_true', Bool.or_eq_false_iff, Bool.and_eq_false_iff, decide_eq_false_iff_not, beq_eq_false_iff_ne]
  omega
theorem ok3_false (s : ByteArray) (p n : Nat) (h : n = 10 ∨ (p = 0 ∧ n = 32) ∨ ((p : Int) = (s.size : Int) - 1 ∧ n = 32)) : ok3 s p n = false := by
  rw [Bool.eq_false_iff]
  intro hk
  have := (ok3_iff s p n).1 hk
  omega

theorem ascii_is : ∀ (l : List UInt8), (∀ x ∈ l, x.toNat < 128) → Ut.Is l (l.map (·.toNat)) []
  | [], _ => ⟨by simp, rfl, rfl⟩
  | x :: l, h => by
    have hx := h x (by simp)
    have e : Ut.enc x.toNat = [x] := by
      rcases Ut.enc_cases x.toNat with ⟨h1, e⟩ | ⟨h1, _⟩ | ⟨h1, _⟩ | ⟨h1, _⟩
      · rw [e]; congr 1; exact Ut.u8 (Ut.bn _ (by omega))
      · omega
      · omega
      · omega
    have h1 : Ut.Is [x] [x.toNat] [] := by rw [← e]; exact is_enc ⟨by omega, by omega⟩
    exact h1.behind (ascii_is l fun y hy => h y (by simp [hy]))

theorem one_size (x : UInt8) : (⟨#[x]⟩ : ByteArray).size = 1 := rfl
theorem walk (s : ByteArray) (aU aS : Addr) (w : World) (g : Glob aU aS w) (wf : s.size ≤ maxLen) :
    Calls Tryd.prog 7 #[.string s] w fun e w' => e = .returned (.bool true) ∧ Below w.heap.size w w' := by
  have e0 := hide (K_shown g)
  have e1 := hide (K_cut (w := w) s wf)
  have hz := cut_size s
  generalize s.extract 0 100 = p at *
  have e3 := K_safe g p (by omega)
  by_cases hs : safe p = true
  · rw [hs] at e3
    have hall := (safe_iff p).1 hs
    have hb : ∀ x ∈ p.data.toList, x.toNat < 128 := fun x hx => by
      obtain ⟨i, hi, rfl⟩ := List.getElem_of_mem hx
      rw [len_toList] at hi
      have := ((ok3_iff _ _ _).1 (hall i hi)).1
      rw [at_getElem p i hi] at this
      exact this.2.2.2
    have hi := ascii_is _ hb
    have e2 := K_signs g p (by omega) (bad_of_is hi) _ (signs_is hi)
    have e4 := K_safe g (⟨#[32]⟩ ++ p) (by rw [ByteArray.size_append, one_size]; omega)
    have e5 := K_safe g (p ++ ⟨#[32]⟩) (by rw [ByteArray.size_append, one_size]; omega)
    have e6 := K_safe g (p ++ ⟨#[10]⟩) (by rw [ByteArray.size_append, one_size]; omega)
    have e7 := K_safe g (⟨#[97]⟩ ++ p ++ ⟨#[97]⟩) (by rw [ByteArray.size_append, ByteArray.size_append, one_size]; omega)
    rw [not_safe 0 (by rw [ByteArray.size_append, one_size]; omega) (ok3_false _ _ _ (.inr (.inl ⟨rfl, by rw [at_append, if_pos (by rw [one_size]; omega)]; rfl⟩)))] at e4
    rw [not_safe p.size (by rw [ByteArray.size_append, one_size]; omega) (ok3_false _ _ _ (.inr (.inr ⟨by rw [ByteArray.size_append, one_size]; omega, by rw [at_append, if_neg (by omega), Nat.sub_self]; rfl⟩)))] at e5
    rw [not_safe p.size (by rw [ByteArray.size_append, one_size]; omega) (ok3_false _ _ _ (.inl (by rw [at_append, if_neg (by omega), Nat.sub_self]; rfl)))] at e6
    have h7 : safe (⟨#[97]⟩ ++ p ++ ⟨#[97]⟩) = true := by
      refine (safe_iff _).2 fun q hq => (ok3_iff _ _ _).2 ?_
      have hsz : (⟨#[97]⟩ ++ p ++ ⟨#[97]⟩ : ByteArray).size = p.size + 2 := by rw [ByteArray.size_append, ByteArray.size_append, one_size]; omega
      rw [hsz] at hq ⊢
      by_cases h0 : q = 0
      · subst h0
        have : at_ (⟨#[97]⟩ ++ p ++ ⟨#[97]⟩) 0 = 97 := by
          rw [at_append, if_pos (by rw [ByteArray.size_append, one_size]; omega), at_append, if_pos (by rw [one_size]; omega)]; rfl
        rw [this]
        omega
      by_cases h1 : q < p.size + 1
      · have : at_ (⟨#[97]⟩ ++ p ++ ⟨#[97]⟩) q = at_ p (q - 1) := by
          rw [at_append, if_pos (by rw [ByteArray.size_append, one_size]; omega), at_append, if_neg (by rw [one_size]; omega), one_size]
        rw [this]
        have := ((ok3_iff _ _ _).1 (hall (q - 1) (by omega))).1
        omega
      · have : at_ (⟨#[97]⟩ ++ p ++ ⟨#[97]⟩) q = 97 := by
          rw [at_append, if_neg (by rw [ByteArray.size_append, one_size]; omega), ByteArray.size_append, one_size, show q - (1 + p.size) = 0 by omega]; rfl
        rw [this]
        omega
    rw [h7] at e7
    exact wy s p w e0 e1 _ (by rw [List.length_map, List.length_map, len_toList]) (by omega) e2 e3 e4 e5 e6 e7
  · have hs' : safe p = false := by simpa using hs
    rw [hs'] at e3
    have hp : p.toList.isEmpty = false := by
      rw [ByteArray.toList_eq, List.isEmpty_eq_false_iff]
      intro he
      refine hs ((safe_iff p).2 fun q hq => ?_)
      have := len_toList p
      rw [he] at this
      simp at this
      omega
    cases hb : bad p with
    | none => exact wr s p w e0 e1 _ (K_signs g p (by omega) hb _ rfl) e3 hp
    | some k => exact wb s p w e0 e1 (K_signsBad g p (by omega) (by rw [hb]; simp)) e3 hp

set_option maxRecDepth 100000 in
/-- What the walk gives, for every argument. -/
theorem contract (H : Type) (enc : TypeId × Value → H) (W : World) (base : Nat) (args : Array Value) (ds gs : List (DataW H)) (before : List MemPlace)
    (hval : ∀ (j : Nat) t v, Tryd.f7.params[j]? = some t → args[j]? = some v → Value.okWide Tryd.prog W .any base t v)
    (hW : DataW.Whole enc Tryd.prog Tryd.f7.params.toList Rows.utfSafeSpec.vars false W args.toList ds gs before) (hL : laidMetH Tryd.prog Rows.utfSafeRow.laid W) :
    Calls Tryd.prog 7 args W fun e W' => ∃ v, e = .returned v ∧ Rows.utfSafeSpec.post enc Tryd.prog Tryd.f7 false true false false W args v W' := by
  obtain ⟨aU, aS, g⟩ := glob_of_laid hL
  have hW' := hW
  obtain ⟨p, q, hA0, hV, rfl, hfz, hnd⟩ := hW
  have hA : DataW.TrodAll enc Tryd.prog W 0 (fun _ => true) true Tryd.f7.params.toList args.toList ds p := hA0
  rw [Tryd.params7] at hA hval
  obtain ⟨v0, vs0, d0, ds0, p0, q0, hargs0, rfl, rfl, h0, r0⟩ := trodAll_cons hA
  obtain ⟨rfl, rfl, rfl⟩ := trodAll_nil r0
  obtain rfl : args = #[v0] := by cases args; simp_all
  obtain ⟨rfl, rfl⟩ := trodVars_none hV
  obtain ⟨x0, rfl, rfl, rfl, wf0⟩ := open_string Tryd.underlying9 (hval 0 9 v0 rfl rfl) h0
  clear hA0
  simp only [List.append_nil] at hW'
  refine (walk x0 aU aS W g wf0).mono fun e W' ⟨he, hg⟩ => ?_
  subst he
  refine ⟨_, rfl, _, _, _, [], [], [], hW', ?_, ?_, ?_, hg.frame _, fun h => by cases h⟩
  · exact trodAll_cons_mk (shut_bool Tryd.underlying4 _) trodAll_mk0
  · exact trodAll_cons_mk (shut_string Tryd.underlying9 wf0) (trodAll_mk0)
  · rfl

theorem reads (os : Os) {H : Type} (enc : TypeId × Value → H) : ∃ places, DataW.whole enc Tryd.prog (({ World.holding Tryd.prog os ⟨#[.cells #[.string sentS0] 126, .cells #[.string sentS1] 126], #[], []⟩ with heap := (((World.holding Tryd.prog os ⟨#[.cells #[.string sentS0] 126, .cells #[.string sentS1] 126], #[], []⟩).heap.modify 0 fun | .cells _ t frozen => .cells #[.iface 104 (.pointer (some ⟨(World.holding Tryd.prog default ⟨#[], #[], []⟩).heap.size + 0, 0, none⟩))] t frozen | o => o).modify 1 fun | .cells _ t frozen => .cells #[.iface 104 (.pointer (some ⟨(World.holding Tryd.prog default ⟨#[], #[], []⟩).heap.size + 1, 0, none⟩))] t frozen | o => o).modify 2 fun | .cells _ t frozen => .cells #[.iface 90 (.agg #[.pointer (some ⟨3, 39, none⟩)])] t frozen | o => o } : World).forCall (fun _ _ => 0) ⟨#[], #[.string ⟨#[]⟩], []⟩).memory Tryd.f7.params.toList Rows.utfSafeSpec.vars false #[Value.string ⟨#[]⟩].toList 8 = some ([.lit (.string [])], [], places) :=
  ⟨[], by kernel_rfl⟩

set_option maxRecDepth 100000 in
theorem lifted (os : Os) (started : os.Started) (H : Type) (enc : TypeId × Value → H) (F : Stop.Interp) :
    ReturnsInHanded {} Tryd.checked os 7 .any ((OpenSpec.ofChange Rows.utfSafeSpec).preRow enc Tryd.prog Tryd.f7 Rows.utfSafeRow.domain false Rows.utfSafeRow.laid) (((OpenSpec.ofChange Rows.utfSafeSpec).at F).post enc Tryd.prog Tryd.f7 false true false false) := by
  obtain ⟨places, hx⟩ := reads os enc
  refine returnsInHanded_of_row (C := Tryd.checked) (s := OpenSpec.ofChange Rows.utfSafeSpec) own started (by kernel_rfl) Tryd.func7
    (witness_row_at (enc := enc) (C := Tryd.checked) false ({ World.holding Tryd.prog os ⟨#[.cells #[.string sentS0] 126, .cells #[.string sentS1] 126], #[], []⟩ with heap := (((World.holding Tryd.prog os ⟨#[.cells #[.string sentS0] 126, .cells #[.string sentS1] 126], #[], []⟩).heap.modify 0 fun | .cells _ t frozen => .cells #[.iface 104 (.pointer (some ⟨(World.holding Tryd.prog default ⟨#[], #[], []⟩).heap.size + 0, 0, none⟩))] t frozen | o => o).modify 1 fun | .cells _ t frozen => .cells #[.iface 104 (.pointer (some ⟨(World.holding Tryd.prog default ⟨#[], #[], []⟩).heap.size + 1, 0, none⟩))] t frozen | o => o).modify 2 fun | .cells _ t frozen => .cells #[.iface 90 (.agg #[.pointer (some ⟨3, 39, none⟩)])] t frozen | o => o } : World) #[.string ⟨#[]⟩] rfl (by kernel_rfl) (by kernel_rfl) (by kernel_rfl)
      (OpenSpec.preRow_of_cond 8 hx (by kernel_rfl) (fun k hk => by cases hk) (by kernel_rfl) (laid_met os _))) ?_
  intro W base args ds gs before hval hW _ _ _ hL _ _
  exact contract H enc W base args ds gs before hval hW hL

theorem said : Rows.UtfSafeSaid :=
  OpenClaim.holds_of_cond 7 Tryd.f7 rfl rfl rfl rfl rfl rfl rfl ⟨rfl, rfl, rfl, rfl, rfl⟩ rfl rfl rfl rfl rfl (by kernel_rfl) Tryd.func7 (by kernel_rfl)
    (of_decide_eq_true (by kernel_rfl)) (by unfold Func.isWrapper; first | (rw [if_pos (by decide +kernel)]; kernel_rfl) | (rw [if_neg (by decide +kernel)]; exact ⟨rfl, rfl⟩))
    (fun os started H enc _ F => by rw [OpenClaim.pre_eq_preRow]; exact lifted os started H enc F)

theorem plain (f : FuncId) (fn : Func) (hf : Tryd.pinned.checked.prog.funcNamed "latiner/latinerlaw04.UtfSafe" = some f) (hfn : Tryd.pinned.checked.prog.funcs[f]? = some fn) :
    true = Tryd.pinned.checked.prog.looks [] ∧ ∀ (j : Nat) t, fn.params[j]? = some t → Tryd.pinned.checked.prog.wantsStandIn t = false := by
  obtain rfl : f = 7 := Option.some.inj ((show Tryd.prog.funcNamed "latiner/latinerlaw04.UtfSafe" = some 7 by kernel_rfl).symm.trans hf) |>.symm
  obtain rfl : fn = Tryd.f7 := (Option.some.inj (Tryd.func7.symm.trans hfn)).symm
  refine ⟨by kernel_rfl, fun j t ht => ?_⟩
  rw [Tryd.params7] at ht
  have hm : t = 9 := by have := Array.mem_of_getElem? ht; simp at this; first | exact this | omega | (rcases this with h | h | h <;> simp [h]) | (rcases this with h | h | h | h <;> simp [h])
  subst hm
  exact (show Tryd.prog.wantsStandIn 9 = false by kernel_rfl)

/-- The card. -/
theorem card : Rows.UtfSafeCardSaid :=
  Claim7.holds_tied_plain_at .later [] _ _ _ _ said (fun _ h => by cases h) (by kernel_rfl) (fun _ h => by cases h) utfSafe_row_tie rfl ⟨rfl, rfl⟩ (by kernel_rfl) rfl plain (by kernel_rfl)
end Go.Proofs.YtpfopmjpchiekaaDoor.U.safe

namespace Go.Proofs.YtpfopmjpchiekaaDoor
theorem utfSafe_holds : Rows.UtfSafeCardSaid := U.safe.card
#print axioms utfSafe_holds
end Go.Proofs.YtpfopmjpchiekaaDoor
