/-
  What tlv.lay answers. Conditions: the tree is of the right shape, and its bytes are at most 16000000.
-/
import Derived.Test.YthibodkemnkjeaaDoorTMeasure
import Derived.OwnWalk
import Derived.Test.YthibodkemnkjeaaDoorTTree1
import Derived.Lib.Join
namespace Go.Proofs.YthibodkemnkjeaaDoor
open Go.RowKit Tv Go.Shelf

theorem infoStr : (Tryd.prog.info? 9).map (fun i => (i.zero, i.size, i.bytes)) = some (some (.string ⟨#[]⟩), 1, 16) := by kernel_rfl

theorem join_flat (xs : List (List UInt8)) : Lib.join xs [] = xs.flatten := by
  unfold Lib.join
  rw [List.intercalate]
  induction xs with
  | nil => rfl
  | cons x xs ih =>
    cases xs with
    | nil => simp
    | cons y ys => simp [List.intersperse] at ih ⊢; rw [ih]
/-- a text of these bytes. -/
abbrev txt (l : List UInt8) : Value := .string ⟨l.toArray⟩

theorem join_any (g c : Nat) (xs : List (List UInt8)) (n : Nat) (hn : n = xs.length) (w : World) (hcells : ∀ (j : Nat) x, xs[j]? = some x → w.cell? ⟨g, j, none⟩ = some (txt x)) (hg : g < w.heap.size) (hN : xs.length ≤ 4000) (hcap : xs.length ≤ c) (hlen : xs.flatten.length ≤ 17000000) :
    Calls Tryd.prog 48 #[.slice (some ⟨g, 0, none⟩) n c] w fun e w' => e = .returned (txt xs.flatten) ∧ Below w.heap.size w w' := by
  subst hn
  have H := join_some g 0 c (xs.map fun x => (⟨x.toArray⟩ : ByteArray)) ⟨#[]⟩ w (fun j x hx => by
    rw [List.getElem?_map, Option.map_eq_some_iff] at hx
    obtain ⟨y, hy, rfl⟩ := hx
    rw [Nat.zero_add]
    exact hcells j y hy) hg (by simp; omega) (by simpa using hcap) (by
      rw [List.map_map, show ((fun x : ByteArray => x.data.toList) ∘ fun x : List UInt8 => (⟨x.toArray⟩ : ByteArray)) = id from rfl, List.map_id]
      show (Lib.join xs []).length ≤ _
      rw [join_flat]; omega)
  rw [List.map_map, show ((fun x : ByteArray => x.data.toList) ∘ fun x : List UInt8 => (⟨x.toArray⟩ : ByteArray)) = id from rfl, List.map_id, show Lib.join xs (ByteArray.data ⟨#[]⟩).toList = xs.flatten from join_flat xs, List.length_map] at H
  go_enter Tryd.func48, Tryd.ntmps48
  go_wp2_with (go_at_call 63; refine H.mono ?_; rintro e w' ⟨rfl, hb⟩)
  go_ret
  exact ⟨rfl, hb⟩

theorem convT (w : World) (x : Int) : (convert 41 9 (.slice (some ⟨w.heap.size, 0, none⟩) 1 1)).run Tryd.prog (w.alloc (.cells #[.int .u8 x] 5)) = .ok (.string (strOfNums [x])) (w.alloc (.cells #[.int .u8 x] 5)) :=
  run_convert_bytes_arg _ _ _ Tryd.underlying41 Tryd.underlying5 _ 0 _ _ [x] rfl (fun i hi => by
    obtain rfl : i = 0 := by simp at hi; omega
    rw [World.cell?_alloc_at _ _ _ _ rfl]; rfl) _ Tryd.underlying9

/-- what is joined at the end: the tag, the length, the body. -/
theorem join_last (t : Int) (n : Nat) (d : ByteArray) (w : World) (hd : d.size ≤ 16000000) :
    Calls Tryd.prog 48 #[.slice (some ⟨w.heap.size + 1, 0, none⟩) 3 3] ((w.alloc (.cells #[.int .u8 (t)] 5)).alloc (.cells #[.string (strOfNums [t]), .string (lst n), .string d] 9))
      fun e w' => e = .returned (txt (UInt8.ofNat t.toNat :: (Sz.least n ++ d.data.toList))) ∧ Below w.heap.size w w' := by
  have hs : w.heap.size + 1 = (w.alloc (.cells #[.int .u8 (t)] 5)).heap.size := by simp
  have hl := least_len n
  have hdl : d.data.toList.length = d.size := Array.length_toList
  have H := join_any (w.heap.size + 1) 3 [[UInt8.ofNat t.toNat], Sz.least n, d.data.toList] 3 rfl ((w.alloc (.cells #[.int .u8 (t)] 5)).alloc (.cells #[.string (strOfNums [t]), .string (lst n), .string d] 9)) (fun j x hx => by
    rw [World.cell?_alloc_at _ _ _ _ hs]
    match j, hx with
    | 0, hx =>
      simp at hx
      subst hx
      rfl
    | 1, hx => simp at hx; subst hx; rfl
    | 2, hx => simp at hx; subst hx; rfl) (by simp) (by simp) (by simp) (by simp only [List.flatten_cons, List.flatten_nil, List.length_append, List.length_cons, List.length_nil]; omega)
  refine H.mono ?_
  rintro e w' ⟨rfl, hb⟩
  exact ⟨by simp, (((Below.refl _ _).alloc (Nat.le_refl _) _).alloc (by simp) _).trans (hb.mono (by simp; omega))⟩

set_option maxRecDepth 100000 in
set_option maxHeartbeats 1000000 in
theorem lay_leaf (t : Int) (d : ByteArray) (a : Option Addr) (len cap : Nat) (w : World) (h0 : 0 ≤ t) (h1 : t ≤ 255) (hi : isIn t = false) (hd : d.size ≤ 16000000) :
    Calls Tryd.prog 30 #[.agg #[.int .i64 t, .string d, .slice a len cap]] w fun e w' => e = .returned (txt (UInt8.ofNat t.toNat :: (Sz.least d.size ++ d.data.toList))) ∧ Below w.heap.size w w' := by
  have hI := inB_eq t h0 h1
  rw [hi] at hI
  have hd' : (d.size : Int) ≤ 16000000 := by omega
  go_enter Tryd.func30, Tryd.ntmps30
  go_wp2_with (go_at_call 47; refine (isInner_any _ _).mono ?_; rintro e w' ⟨rfl, rfl⟩)
  refine (encode_ok _ _ (by omega) (by omega)).mono ?_
  rintro e w' ⟨rfl, hb⟩
  have c0 : w'.cell? ⟨w.heap.size, 0, none⟩ = some (.int .i64 t) := (hb.cell (by simp)).trans (by rw [World.cell?_alloc_at _ _ _ _ rfl]; rfl)
  have hC := convT w' (t)
  have HJ := hide (join_last t d.size d w' hd)
  have hbb : Below w.heap.size w w' := ((Below.refl _ _).alloc (Nat.le_refl _) _).trans (hb.mono (by simp))
  clear hb
  go_wp2_with (go_at_call 48; refine (unhide HJ).mono ?_; rintro e w' ⟨rfl, hb⟩)
  go_ret
  exact ⟨rfl, hbb.trans (hb.mono hbb.size)⟩

/-- the parts laid so far, as values. -/
def partV {n : Nat} (T : Tr (n + 1)) (i : Nat) : List Value := ((kids T).take i).map fun x => txt (enc n x)
theorem partV_succ {n : Nat} (T : Tr (n + 1)) (i : Nat) (h : i < (kids T).length) : partV T (i + 1) = partV T i ++ [txt (enc n (kids T)[i])] := by
  unfold partV; rw [List.take_succ_eq_append_getElem h, List.map_append]; rfl
theorem below_grown {w wr w' : World} {g : Option Nat} (h : Below w.heap.size w wr) (hg : wr.grownBy w' g) (hb : ∀ k, g = some k → w.heap.size ≤ k) : Below w.heap.size w w' :=
  ⟨hg.os.trans h.os, hg.tape.trans h.tape, hg.output.trans h.output, Nat.le_trans h.size hg.size, fun k hk => (hg.block k (Nat.lt_of_lt_of_le hk h.size) (fun e => by have := hb k e.symm; omega)).trans (h.block k hk)⟩

set_option maxRecDepth 100000 in
set_option maxHeartbeats 1000000 in
theorem lay_any : ∀ (n : Nat) (T : Tr n) (k : Nat) (w : World) (p : Nat → Prop) (v : Value), Node n w p v T → Tv.shape n k T = true → (enc n T).length ≤ 16000000 →
    Calls Tryd.prog 30 #[v] w fun e w' => e = .returned (txt (enc n T)) ∧ Below w.heap.size w w' := by
  intro n
  induction n with
  | zero => intro T; exact Empty.elim T
  | succ n ih =>
    intro T k w p v hN hsh hlen
    obtain ⟨g, off, cap, a, hv, hd, hk, hks⟩ := kidsAt hN
    have hel := enc_len T
    have hbl : (body T).length ≤ 16000000 := by omega
    obtain ⟨_, hfit, hsk⟩ := shape_succ hsh
    obtain ⟨h0, h1, _, hin, hlf⟩ := (fit_iff _ _ _).1 hfit
    subst hv
    have hbd := body_len T
    cases hi : isIn (tag T)
    · have hkn : kids T = [] := List.length_eq_zero_iff.1 (hlf hi)
      have := lay_leaf (tag T) (dat T) a (kids T).length cap w h0 h1 hi (by omega)
      rw [enc_succ, show (body T).length = (dat T).size by rw [hbd, hkn]; simp, show body T = (dat T).data.toList by unfold body; rw [hkn]; simp]
      exact this
    · have hI := inB_eq (tag T) h0 h1
      rw [hi] at hI
      have hdn := hin hi
      have IH := hide ih
      have HN := hide hN
      have HS := hide hsk
      have HD := hide hdn
      have hle := fun x hx => kid_body T x hx
      have HL := hide hle
      obtain ⟨is, his, hz0, hz1, hz2⟩ := info_parts infoStr
      have hk' : ((kids T).length : Int) ≤ 4000 := by omega
      clear ih hN hel hsk hdn hle hin hlf hi hsh hfit
      go_enter Tryd.func30, Tryd.ntmps30
      go_wp2_with (first | (go_at_call 47; refine (isInner_any _ _).mono ?_; rintro e w' ⟨rfl, rfl⟩) | (at_make; refine wpList_make_own _ rfl _ _ 74 rfl w.heap.size 9 is _ 1 Tryd.underlying74 his hz0 hz1 _ _ _ (kids T).length rfl rfl rfl (by rw [hz2]; omega) (by unfold maxLen; omega) (by simp) ?_))
      intro w1 hown hgr
      have hb1 : Below w.heap.size w w1 := below_grown ((Below.refl _ _).alloc (Nat.le_refl _) _) hgr (fun _ h => by cases h)
      have q0 : w1.heap[w.heap.size]? = some (.cells #[.int .i64 (tag T), .string (dat T), .slice a (kids T).length cap] 24 (0, 0)) := (hgr.block _ (by simp) (by simp)).trans (World.alloc_heap_new w _)
      obtain ⟨y0, y1, y2⟩ := (cells3 q0).1
      have HO := hide hown
      have Q0 := hide q0
      clear hown hgr q0
      go_wp2
      go_loopw [4, 21] (fun x y wr => ∃ i : Nat, i ≤ (kids T).length ∧ x = .slice (some ⟨w.heap.size + 1, 0, none⟩) i (kids T).length ∧ y = .int .i64 i ∧ Hid (wr.ownsRow w.heap.size 9 1 (.slice (some ⟨w.heap.size + 1, 0, none⟩) i (kids T).length) i (partV T i)) ∧ Below w.heap.size w wr ∧
          Hid (wr.heap[w.heap.size]? = some (.cells #[.int .i64 (tag T), .string (dat T), .slice a (kids T).length cap] 24 (0, 0)))) (fun _ y _ => (kids T).length - (intOf y).toNat)
      case atStart => exact ⟨0, Nat.zero_le _, rfl, rfl, HO, hb1, Q0⟩
      case round =>
        obtain ⟨i, hi, rfl, rfl, hO, hb, hQ⟩ := hrel
        clear y0 y1 y2 HO Q0 hb1
        by_cases hlt : i < (kids T).length
        · have ha : a = some ⟨g, off, none⟩ := hks.resolve_right (fun e => by rw [e] at hlt; cases hlt)
          obtain ⟨t, d, a', len', cap', c0, c1, c2, hNi⟩ := kidAt (unhide HN) hb hlt rfl ha
          have hm : (kids T)[i] ∈ kids T := List.getElem_mem hlt
          have hkl := (unhide HL) _ hm
          have H := hide (fun o => (unhide IH) (kids T)[i] (k - 1) (wr.alloc o) p _ (hNi.below ((Below.refl _ _).alloc (Nat.le_refl _) _)) ((unhide HS) _ hm) (by omega))
          have hps := hide (partV_succ T i hlt)
          have hlt' : (i : Int) < (kids T).length := by omega
          subst ha
          clear hNi hks
          go_wp2_with fail
          refine ((unhide H) _).mono ?_
          rintro e w2 ⟨rfl, hb2⟩
          have hb3 : Below wr.heap.size wr w2 := ((Below.refl _ _).alloc (Nat.le_refl _) _).trans (hb2.mono (by simp))
          have hO2 : w2.ownsRow w.heap.size 9 1 (.slice (some ⟨w.heap.size + 1, 0, none⟩) i (kids T).length) i (partV T i) := (unhide hO).kept (row := none) ⟨hb3.os, hb3.tape, hb3.output, hb3.size, fun k hk _ => hb3.block k hk⟩ (.inr (by simp [Value.ownBlock]))
          have hlS := (Array.getElem?_eq_some_iff.1 (unhide hQ)).1
          have hQ2 := (hb3.block _ hlS).trans (unhide hQ)
          have hbb := hb.trans (hb3.mono hb.size)
          have HO2 := hide (hO2.alloc (.cells #[txt (enc n (kids T)[i])] 9))
          have HQ2 := hide hQ2
          clear hO hQ hO2 hQ2 hb2 hb3 hb H c0 c1 c2
          go_wp2_with (at_builtin; refine wpList_append_fits _ rfl _ _ 74 rfl w.heap.size 9 is 1 Tryd.underlying74 his hz1 (w.heap.size + 1) i (kids T).length (partV T i) rfl (unhide HO2) ⟨w2.heap.size, 0, none⟩ 1 1 [txt (enc n (kids T)[i])] rfl rfl (fun j u hj => by
            match j, hj with
            | 0, hj =>
              simp at hj
              subst hj
              rw [Addr.add_lit, World.cell?_alloc_at _ _ _ _ rfl]; rfl) (fun u hu => by simp at hu; subst hu; rfl) (by omega) ?_)
          intro w3 hO3 hg3
          have hbw : Below w.heap.size w w3 := below_grown (hbb.alloc hbb.size _) hg3 (fun k hk => by injection hk with hk; omega)
          have hlS2 := (Array.getElem?_eq_some_iff.1 (unhide HQ2)).1
          have hQ3 := (hg3.block w.heap.size (by simp; omega) (by simp)).trans ((Below.heap_alloc w2 _ _ hlS2).trans (unhide HQ2))
          rw [← unhide hps] at hO3
          have HO3 := hide hO3
          have HQ3 := hide hQ3
          clear hO3 hQ3 hg3 HO2 HQ2 hps
          go_wp2
          go_roundw
          case rel => exact ⟨i + 1, by omega, rfl, by simp, HO3, hbw, HQ3⟩
          case measure => simp [intOf]; omega
        · have hge : ¬ (i : Int) < (kids T).length := by omega
          obtain rfl : i = (kids T).length := by omega
          have hfl : ((kids T).map (enc n)).flatten.length = (body T).length := by rw [hbd, flat_sum, unhide HD]; omega
          have hO2 := unhide hO
          have hJ := join_any (w.heap.size + 1) (kids T).length ((kids T).map (enc n)) (kids T).length (by simp) wr (fun j x hx => by
            rw [List.getElem?_map, Option.map_eq_some_iff] at hx
            obtain ⟨y, hy, rfl⟩ := hx
            have := hO2.cells rfl j (txt (enc n y)) (by unfold partV; rw [List.take_of_length_le (Nat.le_refl _), List.getElem?_map, hy]; rfl)
            rw [Addr.add_lit, Nat.zero_add] at this
            exact this) (hO2.lt _ rfl).2 (by simpa using hk) (by simp) (by omega)
          have henc : enc (n + 1) T = UInt8.ofNat (tag T).toNat :: (Sz.least ((kids T).map (enc n)).flatten.length ++ ((kids T).map (enc n)).flatten) := by
            rw [enc_succ, hfl]
            have : body T = ((kids T).map (enc n)).flatten := by unfold body; rw [show (dat T).data.toList = [] from List.length_eq_zero_iff.1 (Array.length_toList.trans (unhide HD))]; rfl
            rw [this]
          have hl16 : ((kids T).map (enc n)).flatten.length ≤ 16000000 := by omega
          generalize ((kids T).map (enc n)).flatten = bd at *
          have Henc := hide henc
          have HQ := hQ
          have HJ := hide hJ
          clear hO hO2 hQ hJ henc hfl
          go_wp2_with fail
          refine (unhide HJ).mono ?_
          rintro e w2 ⟨rfl, hb2⟩
          have hlS2 := (Array.getElem?_eq_some_iff.1 (unhide HQ)).1
          have hQ2 := (hb2.block _ hlS2).trans (unhide HQ)
          have hbb := hb.trans (hb2.mono hb.size)
          have HQ2 := hide hQ2
          have hl16' : ((bd.length : Nat) : Int) ≤ 16000000 := by omega
          clear HJ hQ2 hb2 hb HQ
          go_wp2_with fail
          refine (encode_ok _ _ (by omega) (by omega)).mono ?_
          rintro e w3 ⟨rfl, hb3⟩
          have hQ3 := (hb3.block _ (Array.getElem?_eq_some_iff.1 (unhide HQ2)).1).trans (unhide HQ2)
          have hbc := hbb.trans (hb3.mono hbb.size)
          obtain ⟨y0, y1, y2⟩ := (cells3 hQ3).1
          have hC := convT w3 (tag T)
          have HJ := hide (join_last (tag T) bd.length ⟨bd.toArray⟩ w3 hl16)
          clear hQ3 HQ2 hb3
          go_wp2_with (go_at_call 48; refine (unhide HJ).mono ?_; rintro e w' ⟨rfl, hb⟩)
          go_ret
          rw [unhide Henc]
          exact ⟨rfl, hbc.trans (hb.mono hbc.size)⟩
end Go.Proofs.YthibodkemnkjeaaDoor
