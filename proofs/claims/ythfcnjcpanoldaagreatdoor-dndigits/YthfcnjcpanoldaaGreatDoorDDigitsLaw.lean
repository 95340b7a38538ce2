/-
  DnDigits: a value whose bytes are all printed by their digits is read as it is, for any two texts. Conditions: the package-level variables hold what the program's text lays (the card ties them).
-/
import Derived.Test.YthfcnjcpanoldaaGreatDoorDLaid
import Derived.Test.YthfcnjcpanoldaaGreatDoorDOne
import Derived.Laws.DeepStrings4
namespace Go.Proofs.YthfcnjcpanoldaaGreatDoor.D.Digits
open Go Go.RowKit Go.Shelf Dp Go.ChangeShapes Go.WideShapes Go.ChangeAt Go.ChangeMaps

theorem dgs_len : ∀ l : List UInt8, (dgs l).length = 3 * l.length
  | [] => rfl
  | x :: l => by
    have e : dgs (x :: l) = [92, Cd.dx (x.toNat / 16), Cd.dx (x.toNat % 16)] ++ dgs l := by simp [dgs, Ec.hx]
    rw [e, List.length_append, dgs_len l]
    simp
    omega
theorem dgs_snoc (l : List UInt8) (x : UInt8) : dgs (l ++ [x]) = dgs l ++ 92 :: Ec.hx x := by simp [dgs]
theorem next_text {S k v : ByteArray} {i : Nat} (hi : i < v.size) (h : S.data.toList = k.data.toList ++ 61 :: dgs (v.data.toList.take i)) :
    (S ++ ⟨#[92]⟩ ++ ⟨(Ec.hx v[i]).toArray⟩ : ByteArray).data.toList = k.data.toList ++ 61 :: dgs (v.data.toList.take (i + 1)) := by
  have hl : i < v.data.toList.length := by rw [Array.length_toList]; exact hi
  rw [E.data_app, E.data_app, h, List.take_succ_eq_append_getElem hl, dgs_snoc]
  show _ ++ _ ++ [92] ++ Ec.hx v[i] = _
  have : v.data.toList[i] = v[i] := rfl
  rw [this]
  simp

set_option maxRecDepth 100000 in
set_option maxHeartbeats 4000000 in
theorem walk (x0 x1 : ByteArray) (a : Ad) (w : World) (g : Glob a w) (h0 : x0.size ≤ maxLen) (h1 : x1.size ≤ maxLen) :
    Calls Tryz.prog 9 #[.string x0, .string x1] w fun e w' => e = .returned (.bool true) ∧ Below w.heap.size w w' := by
  unfold maxLen at h0 h1
  have hk : x0.extract 0 (min (x0.size : Int) 61).toNat = x0.extract 0 61 := ext_min x0 61
  have hv : x1.extract 0 (min (x1.size : Int) 61).toNat = x1.extract 0 61 := ext_min x1 61
  have zk := ext_size x0 61
  have zv := ext_size x1 61
  generalize x0.extract 0 61 = k at *
  generalize x1.extract 0 61 = v at *
  have HSh := hide (shown_true a w g)
  have Hg := hide g
  have HT := hide fun W => isType_any k W (by omega)
  clear g
  have hk1 : k.size ≤ 9223372036854775806 := by omega
  go_enter Tryz.func9, Tryz.ntmps9
  go_wp2_with fail
  refine (unhide HSh).mono ?_
  rintro e w1 ⟨rfl, hb⟩
  have B1 := hide hb
  clear hb HSh
  go_wp2
  have zv' : (v.size : Int) ≤ 61 := by omega
  clear hk hv hk1
  go_loopw [6, 7] (fun st ix wr => ∃ (i : Nat) (S : ByteArray), i ≤ v.size ∧ st = .string S ∧ ix = .int .i64 (i : Int) ∧ Hid (S.data.toList = k.data.toList ++ 61 :: dgs (v.data.toList.take i)) ∧ Hid (Below w.heap.size w wr))
    (fun _ ix _ => v.size - (intOf ix).toNat)
  case atStart => exact ⟨0, _, Nat.zero_le _, rfl, rfl, hide (by rw [E.data_app]; simp [dgs]), B1⟩
  case round =>
    obtain ⟨i, S, hi, rfl, rfl, hS, hb⟩ := hrel
    clear B1
    have hSz : S.size ≤ 245 := by
      have h1 := congrArg List.length (unhide hS)
      rw [Array.length_toList, List.length_append, List.length_cons, dgs_len, List.length_take, Array.length_toList, Array.length_toList] at h1
      have h2 : S.data.size = S.size := rfl
      have h3 : k.data.size = k.size := rfl
      have h4 : v.data.size = v.size := rfl
      omega
    by_cases hlt : i < v.size
    · have hlt' : (i : Int) < v.size := by omega
      have hlt2 : (i : Int) + 1 ≤ v.size := by omega
      have hn := hide (next_text hlt (unhide hS))
      have hsl := fun wx => run_slice_string (P := Tryz.prog) (w := wx) 9 v .i64 .i64 (i : Int) ((i : Int) + 1) Tryz.underlying9 (by omega) (by omega) (by omega)
      rw [show ((i : Int)).toNat = i by omega, show ((i : Int) + 1).toNat = i + 1 by omega] at hsl
      have hp1 : v.extract i (i + 1) = ⟨#[v[i]]⟩ := by
        have := E.pc_one hlt
        unfold E.pc at this
        rwa [Nat.min_eq_left (by omega)] at this
      rw [hp1] at hsl
      have HX := hide fun W => E.hex_one v[i] W
      have hhx : (⟨(Ec.hx v[i]).toArray⟩ : ByteArray).size = 2 := rfl
      generalize v[i] = y at *
      generalize (⟨(Ec.hx y).toArray⟩ : ByteArray) = hy at *
      have hs1 : S.size ≤ 9223372036854775806 := by omega
      have hs2 : S.size + 1 + hy.size ≤ 9223372036854775807 := by omega
      have hi61 : (i : Int) ≤ 61 := by omega
      clear hp1 hhx hSz
      go_wp2_with fail
      refine ((unhide HX) _).mono ?_
      rintro e w2 ⟨rfl, hb2⟩
      have B2 := hide (step (unhide hb) hb2)
      clear hb2 HX
      go_wp2
      go_roundw
      case rel => exact ⟨i + 1, _, by omega, rfl, by simp, hn, B2⟩
      case measure => simp [intOf]; omega
    · have hge : ¬ (i : Int) < v.size := by omega
      have hS2 := unhide hS
      rw [List.take_of_length_le (by rw [Array.length_toList]; show v.size ≤ i; omega)] at hS2
      have HPa := hide (parse_any S a wr ((unhide Hg).below (Nat.le_refl _) (unhide hb)) (shrt_of (by rw [Array.length_toList]; show S.size ≤ 1000; omega)))
      cases hty : isTy k
      · rw [hty] at HT
        clear hS hS2 hty
        go_wp2_with fail
        refine (unhide HPa).mono ?_
        rintro e w2 ⟨hb2, ⟨d, u, hf, rfl, ho⟩ | ⟨hf, rfl⟩⟩
        · obtain ⟨ad, cap, rfl, _, _⟩ := ho.nml
          have B2 := hide (step (unhide hb) hb2)
          clear hb2 HPa hf ho
          go_wp2_with fail
          refine ((unhide HT) _).mono ?_
          rintro e w3 ⟨rfl, hb3⟩
          have B3 := hide (step (unhide B2) hb3)
          clear hb3
          go_wp2
          go_ret
          exact ⟨rfl, unhide B3⟩
        · have B2 := hide (step (unhide hb) hb2)
          clear hb2 HPa hf
          go_wp2_with fail
          refine ((unhide HT) _).mono ?_
          rintro e w3 ⟨rfl, hb3⟩
          have B3 := hide (step (unhide B2) hb3)
          clear hb3
          go_wp2
          go_ret
          exact ⟨rfl, unhide B3⟩
      · rw [hty] at HT
        by_cases hz : v.size ≤ 60
        · have hz' : ¬ (60 : Int) < v.size := by omega
          have hoa : okA (k, v) = true := by unfold okA; rw [hty, decide_eq_true hz]; rfl
          have hrd := rdN_dgs hoa
          rw [← hS2] at hrd
          rw [hrd] at HPa
          clear hS hS2 hty hrd hz
          go_wp2_with fail
          refine (unhide HPa).mono ?_
          rintro e w2 ⟨hb2, ⟨d, u, hf, rfl, ho⟩ | ⟨hf, _⟩⟩
          case inr => cases hf
          cases hf
          have Ho := hide ho.nml
          obtain ⟨ad, cap, rfl, _, _⟩ := ho.nml
          have B2 := hide (step (unhide hb) hb2)
          clear hb2 HPa ho
          go_wp2_with fail
          refine ((unhide HT) _).mono ?_
          rintro e w3 ⟨rfl, hb3⟩
          have B3 := hide (step (unhide B2) hb3)
          have Ho3 := hide ((unhide Ho).below hb3)
          clear hb3
          have hbb : Below w3.heap.size w3 ((w3.alloc (.cells #[.string k, .string v] 39)).alloc (.cells #[.slice (some ⟨w3.heap.size, 0, none⟩) 1 1] 42)) := ((Below.refl _ _).alloc (Nat.le_refl _) _).alloc (by simp) _
          have hS3 := same_any _ _ _ _ _ ((unhide Ho3).below hbb) (one_lies w3 k v) (sm_one (by omega) (by omega))
          rw [decide_eq_true rfl] at hS3
          have HS3 := hide hS3
          have B4 := hide (step (unhide B3) hbb)
          clear hS3 hbb
          go_wp2_with fail
          refine (unhide HS3).mono ?_
          rintro e w5 ⟨rfl, hb5⟩
          have B5 := hide (step (unhide B4) hb5)
          clear hb5
          go_wp2
          go_ret
          exact ⟨rfl, unhide B5⟩
        · have hz' : (60 : Int) < v.size := by omega
          clear hS hS2 hty hz
          go_wp2_with fail
          refine (unhide HPa).mono ?_
          rintro e w2 ⟨hb2, ⟨d, u, hf, rfl, ho⟩ | ⟨hf, rfl⟩⟩
          · obtain ⟨ad, cap, rfl, _, _⟩ := ho.nml
            have B2 := hide (step (unhide hb) hb2)
            clear hb2 HPa hf ho
            go_wp2_with fail
            refine ((unhide HT) _).mono ?_
            rintro e w3 ⟨rfl, hb3⟩
            have B3 := hide (step (unhide B2) hb3)
            clear hb3
            go_wp2
            go_ret
            exact ⟨rfl, unhide B3⟩
          · have B2 := hide (step (unhide hb) hb2)
            clear hb2 HPa hf
            go_wp2_with fail
            refine ((unhide HT) _).mono ?_
            rintro e w3 ⟨rfl, hb3⟩
            have B3 := hide (step (unhide B2) hb3)
            clear hb3
            go_wp2
            go_ret
            exact ⟨rfl, unhide B3⟩

set_option maxRecDepth 100000 in
/-- What the walk gives, for every argument. -/
theorem contract (H : Type) (enc : TypeId × Value → H) (W : World) (base : Nat) (args : Array Value) (ds gs : List (DataW H)) (before : List MemPlace)
    (hval : ∀ (j : Nat) t v, Tryz.f9.params[j]? = some t → args[j]? = some v → Value.okWide Tryz.prog W .any base t v)
    (hW : DataW.Whole enc Tryz.prog Tryz.f9.params.toList Rows.dnDigitsSpec.vars false W args.toList ds gs before) (hL : laidMetH Tryz.prog Rows.dnDigitsRow.laid W) :
    Calls Tryz.prog 9 args W fun e W' => ∃ v, e = .returned v ∧ Rows.dnDigitsSpec.post enc Tryz.prog Tryz.f9 false true false false W args v W' := by
  obtain ⟨a, g⟩ := glob_of_laid hL
  have hW' := hW
  obtain ⟨p, q, hA0, hV, rfl, hfz, hnd⟩ := hW
  have hA : DataW.TrodAll enc Tryz.prog W 0 (fun _ => true) true Tryz.f9.params.toList args.toList ds p := hA0
  rw [Tryz.params9] at hA hval
  obtain ⟨v0, vs0, d0, ds0, p0, q0, hargs0, rfl, rfl, h0, r0⟩ := trodAll_cons hA
  obtain ⟨v1, vs1, d1, ds1, p1, q1, hargs1, rfl, rfl, h1, r1⟩ := trodAll_cons r0
  obtain ⟨rfl, rfl, rfl⟩ := trodAll_nil r1
  obtain rfl : args = #[v0, v1] := by cases args; simp_all
  obtain ⟨rfl, rfl⟩ := trodVars_none hV
  obtain ⟨x0, rfl, rfl, rfl, wf0⟩ := open_string Tryz.underlying9 (hval 0 9 v0 rfl rfl) h0
  obtain ⟨x1, rfl, rfl, rfl, wf1⟩ := open_string Tryz.underlying9 (hval 1 9 v1 rfl rfl) h1
  clear hA0
  simp only [List.append_nil] at hW'
  refine (walk x0 x1 a W g wf0 wf1).mono fun e W' ⟨he, hg⟩ => ?_
  subst he
  refine ⟨_, rfl, _, _, _, [], [], [], hW', ?_, ?_, ?_, hg.frame _, fun h => by cases h⟩
  · exact trodAll_cons_mk (shut_bool Tryz.underlying4 _) trodAll_mk0
  · exact trodAll_cons_mk (shut_string Tryz.underlying9 wf0) (trodAll_cons_mk (shut_string Tryz.underlying9 wf1) (trodAll_mk0))
  · rfl

theorem reads (os : Os) {H : Type} (enc : TypeId × Value → H) : ∃ places, DataW.whole enc Tryz.prog (({ World.holding Tryz.prog os ⟨#[.cells #[.string sentS0] 237, .cells #[.string sentS1] 237, .cells #[.string sentS2] 237, .cells #[.string sentS3] 237, .cells #[.string sentS4] 237, .cells #[.string sentS5] 237, .cells #[.string sentS6] 237, .cells #[.string sentS7] 237, .cells #[.string sentS8] 237, .cells #[.string sentS9] 237], #[], []⟩ with heap := (((((((((((World.holding Tryz.prog os ⟨#[.cells #[.string sentS0] 237, .cells #[.string sentS1] 237, .cells #[.string sentS2] 237, .cells #[.string sentS3] 237, .cells #[.string sentS4] 237, .cells #[.string sentS5] 237, .cells #[.string sentS6] 237, .cells #[.string sentS7] 237, .cells #[.string sentS8] 237, .cells #[.string sentS9] 237], #[], []⟩).heap.modify 10 fun | .cells _ t frozen => .cells #[.iface 219 (.pointer (some ⟨(World.holding Tryz.prog default ⟨#[], #[], []⟩).heap.size + 0, 0, none⟩))] t frozen | o => o).modify 9 fun | .cells _ t frozen => .cells #[.iface 219 (.pointer (some ⟨(World.holding Tryz.prog default ⟨#[], #[], []⟩).heap.size + 1, 0, none⟩))] t frozen | o => o).modify 11 fun | .cells _ t frozen => .cells #[.iface 219 (.pointer (some ⟨(World.holding Tryz.prog default ⟨#[], #[], []⟩).heap.size + 2, 0, none⟩))] t frozen | o => o).modify 8 fun | .cells _ t frozen => .cells #[.iface 219 (.pointer (some ⟨(World.holding Tryz.prog default ⟨#[], #[], []⟩).heap.size + 3, 0, none⟩))] t frozen | o => o).modify 6 fun | .cells _ t frozen => .cells #[.iface 219 (.pointer (some ⟨(World.holding Tryz.prog default ⟨#[], #[], []⟩).heap.size + 4, 0, none⟩))] t frozen | o => o).modify 7 fun | .cells _ t frozen => .cells #[.iface 219 (.pointer (some ⟨(World.holding Tryz.prog default ⟨#[], #[], []⟩).heap.size + 5, 0, none⟩))] t frozen | o => o).modify 0 fun | .cells _ t frozen => .cells #[.iface 219 (.pointer (some ⟨(World.holding Tryz.prog default ⟨#[], #[], []⟩).heap.size + 6, 0, none⟩))] t frozen | o => o).modify 1 fun | .cells _ t frozen => .cells #[.iface 219 (.pointer (some ⟨(World.holding Tryz.prog default ⟨#[], #[], []⟩).heap.size + 7, 0, none⟩))] t frozen | o => o).modify 2 fun | .cells _ t frozen => .cells #[.iface 219 (.pointer (some ⟨(World.holding Tryz.prog default ⟨#[], #[], []⟩).heap.size + 8, 0, none⟩))] t frozen | o => o).modify 3 fun | .cells _ t frozen => .cells #[.iface 219 (.pointer (some ⟨(World.holding Tryz.prog default ⟨#[], #[], []⟩).heap.size + 9, 0, none⟩))] t frozen | o => o).modify 4 fun | .cells _ t frozen => .cells #[.iface 135 (.agg #[.pointer (some ⟨12, 45, none⟩)])] t frozen | o => o } : World).forCall (fun _ _ => 0) ⟨#[], #[.string ⟨#[]⟩, .string ⟨#[]⟩], []⟩).memory Tryz.f9.params.toList Rows.dnDigitsSpec.vars false #[Value.string ⟨#[]⟩, Value.string ⟨#[]⟩].toList 8 = some ([.lit (.string []), .lit (.string [])], [], places) :=
  ⟨[], by kernel_rfl⟩

set_option maxRecDepth 100000 in
theorem lifted (os : Os) (started : os.Started) (H : Type) (enc : TypeId × Value → H) (F : Stop.Interp) :
    ReturnsInHanded {} Tryz.checked os 9 .any ((OpenSpec.ofChange Rows.dnDigitsSpec).preRow enc Tryz.prog Tryz.f9 Rows.dnDigitsRow.domain false Rows.dnDigitsRow.laid) (((OpenSpec.ofChange Rows.dnDigitsSpec).at F).post enc Tryz.prog Tryz.f9 false true false false) := by
  obtain ⟨places, hx⟩ := reads os enc
  refine returnsInHanded_of_row (C := Tryz.checked) (s := OpenSpec.ofChange Rows.dnDigitsSpec) own started (by kernel_rfl) Tryz.func9
    (witness_row_at (enc := enc) (C := Tryz.checked) false ({ World.holding Tryz.prog os ⟨#[.cells #[.string sentS0] 237, .cells #[.string sentS1] 237, .cells #[.string sentS2] 237, .cells #[.string sentS3] 237, .cells #[.string sentS4] 237, .cells #[.string sentS5] 237, .cells #[.string sentS6] 237, .cells #[.string sentS7] 237, .cells #[.string sentS8] 237, .cells #[.string sentS9] 237], #[], []⟩ with heap := (((((((((((World.holding Tryz.prog os ⟨#[.cells #[.string sentS0] 237, .cells #[.string sentS1] 237, .cells #[.string sentS2] 237, .cells #[.string sentS3] 237, .cells #[.string sentS4] 237, .cells #[.string sentS5] 237, .cells #[.string sentS6] 237, .cells #[.string sentS7] 237, .cells #[.string sentS8] 237, .cells #[.string sentS9] 237], #[], []⟩).heap.modify 10 fun | .cells _ t frozen => .cells #[.iface 219 (.pointer (some ⟨(World.holding Tryz.prog default ⟨#[], #[], []⟩).heap.size + 0, 0, none⟩))] t frozen | o => o).modify 9 fun | .cells _ t frozen => .cells #[.iface 219 (.pointer (some ⟨(World.holding Tryz.prog default ⟨#[], #[], []⟩).heap.size + 1, 0, none⟩))] t frozen | o => o).modify 11 fun | .cells _ t frozen => .cells #[.iface 219 (.pointer (some ⟨(World.holding Tryz.prog default ⟨#[], #[], []⟩).heap.size + 2, 0, none⟩))] t frozen | o => o).modify 8 fun | .cells _ t frozen => .cells #[.iface 219 (.pointer (some ⟨(World.holding Tryz.prog default ⟨#[], #[], []⟩).heap.size + 3, 0, none⟩))] t frozen | o => o).modify 6 fun | .cells _ t frozen => .cells #[.iface 219 (.pointer (some ⟨(World.holding Tryz.prog default ⟨#[], #[], []⟩).heap.size + 4, 0, none⟩))] t frozen | o => o).modify 7 fun | .cells _ t frozen => .cells #[.iface 219 (.pointer (some ⟨(World.holding Tryz.prog default ⟨#[], #[], []⟩).heap.size + 5, 0, none⟩))] t frozen | o => o).modify 0 fun | .cells _ t frozen => .cells #[.iface 219 (.pointer (some ⟨(World.holding Tryz.prog default ⟨#[], #[], []⟩).heap.size + 6, 0, none⟩))] t frozen | o => o).modify 1 fun | .cells _ t frozen => .cells #[.iface 219 (.pointer (some ⟨(World.holding Tryz.prog default ⟨#[], #[], []⟩).heap.size + 7, 0, none⟩))] t frozen | o => o).modify 2 fun | .cells _ t frozen => .cells #[.iface 219 (.pointer (some ⟨(World.holding Tryz.prog default ⟨#[], #[], []⟩).heap.size + 8, 0, none⟩))] t frozen | o => o).modify 3 fun | .cells _ t frozen => .cells #[.iface 219 (.pointer (some ⟨(World.holding Tryz.prog default ⟨#[], #[], []⟩).heap.size + 9, 0, none⟩))] t frozen | o => o).modify 4 fun | .cells _ t frozen => .cells #[.iface 135 (.agg #[.pointer (some ⟨12, 45, none⟩)])] t frozen | o => o } : World) #[.string ⟨#[]⟩, .string ⟨#[]⟩] rfl (by kernel_rfl) (by kernel_rfl) (by kernel_rfl)
      (OpenSpec.preRow_of_cond 8 hx (by kernel_rfl) (fun k hk => by cases hk) (by kernel_rfl) (laid_met os _))) ?_
  intro W base args ds gs before hval hW _ _ _ hL _ _
  exact contract H enc W base args ds gs before hval hW hL

theorem said : Rows.DnDigitsSaid :=
  OpenClaim.holds_of_cond 9 Tryz.f9 rfl rfl rfl rfl rfl rfl rfl ⟨rfl, rfl, rfl, rfl, rfl⟩ rfl rfl rfl rfl rfl (by kernel_rfl) Tryz.func9 (by kernel_rfl)
    (of_decide_eq_true (by kernel_rfl)) (by unfold Func.isWrapper; first | (rw [if_pos (by decide +kernel)]; kernel_rfl) | (rw [if_neg (by decide +kernel)]; exact ⟨rfl, rfl⟩))
    (fun os started H enc _ F => by rw [OpenClaim.pre_eq_preRow]; exact lifted os started H enc F)

theorem plain (f : FuncId) (fn : Func) (hf : Tryz.pinned.checked.prog.funcNamed "latiner/latinerlaw07.DnDigits" = some f) (hfn : Tryz.pinned.checked.prog.funcs[f]? = some fn) :
    true = Tryz.pinned.checked.prog.looks [] ∧ ∀ (j : Nat) t, fn.params[j]? = some t → Tryz.pinned.checked.prog.wantsStandIn t = false := by
  obtain rfl : f = 9 := Option.some.inj ((show Tryz.prog.funcNamed "latiner/latinerlaw07.DnDigits" = some 9 by kernel_rfl).symm.trans hf) |>.symm
  obtain rfl : fn = Tryz.f9 := (Option.some.inj (Tryz.func9.symm.trans hfn)).symm
  refine ⟨by kernel_rfl, fun j t ht => ?_⟩
  rw [Tryz.params9] at ht
  have hm : t = 9 := by have := Array.mem_of_getElem? ht; simp at this; first | exact this | omega | (rcases this with h | h | h <;> simp [h]) | (rcases this with h | h | h | h <;> simp [h])
  subst hm
  exact (show Tryz.prog.wantsStandIn 9 = false by kernel_rfl)

/-- The card. -/
theorem card : Rows.DnDigitsCardSaid :=
  Claim7.holds_tied_plain_at .later [] _ _ _ _ said (fun _ h => by cases h) (by kernel_rfl) (fun _ h => by cases h) dnDigits_row_tie rfl ⟨rfl, rfl⟩ (by kernel_rfl) rfl plain (by kernel_rfl)
end Go.Proofs.YthfcnjcpanoldaaGreatDoor.D.Digits

namespace Go.Proofs.YthfcnjcpanoldaaGreatDoor
theorem dnDigits_holds : Rows.DnDigitsCardSaid := D.Digits.card
#print axioms dnDigits_holds
end Go.Proofs.YthfcnjcpanoldaaGreatDoor
