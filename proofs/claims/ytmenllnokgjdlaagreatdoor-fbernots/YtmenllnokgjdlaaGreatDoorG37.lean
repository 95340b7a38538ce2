/- Several texts in one: TLay, TSame, TTree, TPass, TCheck, TRead, GLeaf. Each says what it proves, and its conditions. -/
import Derived.Test.YtmenllnokgjdlaaGreatDoorG36
set_option maxHeartbeats 2000000
set_option maxRecDepth 100000
/-
 What tlv.lay answers. Conditions: the tree is of the right shape, and its bytes are at most 16000000.
-/
namespace Go.Proofs.YtmenllnokgjdlaaGreatDoor
open Go.RowKit Tv Go.Shelf
theorem infoStr : (Tryz.prog.info? 9).map (fun i => (i.zero, i.size, i.bytes)) = some (some (.string ⟨#[]⟩), 1, 16) := by kernel_rfl
theorem join_flat (xs : List (List UInt8)) : Lib.join xs [] = xs.flatten := by
 unfold Lib.join
 rw [List.intercalate]
 induction xs with
 | nil => rfl
 | cons x xs ih =>
  cases xs with
  | nil => simp
  | cons y ys => simp [List.intersperse] at ih ⊢; rw [ih]
abbrev txt (l : List UInt8) : Value := .string ⟨l.toArray⟩
theorem join_any (g c : Nat) (xs : List (List UInt8)) (n : Nat) (hn : n = xs.length) (w : World) (hcells : ∀ (j : Nat) x, xs[j]? = some x -> w.cell? ⟨g, j, none⟩ = some (txt x)) (hg : g < w.heap.size) (hN : xs.length <= 4000) (hcap : xs.length <= c) (hlen : xs.flatten.length <= 17000000) :
  Calls Tryz.prog 92 #[.slice (some ⟨g, 0, none⟩) n c] w fun e w' => e = .returned (txt xs.flatten) /\ Below w.heap.size w w' := by
 subst hn
 have H := join_some g 0 c (xs.map fun x => (⟨x.toArray⟩ : ByteArray)) ⟨#[]⟩ w (fun j x hx => by
  rw [List.getElem?_map, Option.map_eq_some_iff] at hx
  obtain ⟨y, hy, rfl⟩ := hx
  rw [Nat.zero_add]
  exact hcells j y hy) hg (by simp; omega) (by simpa using hcap) (by
   rw [List.map_map, show ((fun x : ByteArray => x.data.toList) ∘ fun x : List UInt8 => (⟨x.toArray⟩ : ByteArray)) = id from rfl, List.map_id]
   show (Lib.join xs []).length <= _
   rw [join_flat]; omega)
 rw [List.map_map, show ((fun x : ByteArray => x.data.toList) ∘ fun x : List UInt8 => (⟨x.toArray⟩ : ByteArray)) = id from rfl, List.map_id, show Lib.join xs (ByteArray.data ⟨#[]⟩).toList = xs.flatten from join_flat xs, List.length_map] at H
 go_enter Tryz.func92, Tryz.ntmps92
 go_wp2_with (go_at_call 113; refine H.mono ?_; rintro e w' ⟨rfl, hb⟩)
 go_ret
 exact ⟨rfl, hb⟩
theorem convT (w : World) (x : Int) : (convert 152 9 (.slice (some ⟨w.heap.size, 0, none⟩) 1 1)).run Tryz.prog (w.alloc (.cells #[.int .u8 x] 5)) = .ok (.string (strOfNums [x])) (w.alloc (.cells #[.int .u8 x] 5)) :=
 run_convert_bytes_arg _ _ _ Tryz.underlying152 Tryz.underlying5 _ 0 _ _ [x] rfl (fun i hi => by
  obtain rfl : i = 0 := by simp at hi; omega
  rw [World.cell?_alloc_at _ _ _ _ rfl]; rfl) _ Tryz.underlying9
theorem join_last (t : Int) (n : Nat) (d : ByteArray) (w : World) (hd : d.size <= 16000000) :
  Calls Tryz.prog 92 #[.slice (some ⟨w.heap.size + 1, 0, none⟩) 3 3] ((w.alloc (.cells #[.int .u8 (t)] 5)).alloc (.cells #[.string (strOfNums [t]), .string (lst n), .string d] 9))
   fun e w' => e = .returned (txt (UInt8.ofNat t.toNat :: (Sz.least n ++ d.data.toList))) /\ Below w.heap.size w w' := by
 have hs : w.heap.size + 1 = (w.alloc (.cells #[.int .u8 (t)] 5)).heap.size := by simp
 have hl := least_len n
 have hdl : d.data.toList.length = d.size := Array.length_toList
 have H := join_any (w.heap.size + 1) 3 [[UInt8.ofNat t.toNat], Sz.least n, d.data.toList] 3 rfl ((w.alloc (.cells #[.int .u8 (t)] 5)).alloc (.cells #[.string (strOfNums [t]), .string (lst n), .string d] 9)) (fun j x hx => by
  rw [World.cell?_alloc_at _ _ _ _ hs]
  match j, hx with
  | 0, hx =>
   simp at hx
   subst hx
   rfl
  | 1, hx => simp at hx; subst hx; rfl
  | 2, hx => simp at hx; subst hx; rfl) (by simp) (by simp) (by simp) (by simp only [List.flatten_cons, List.flatten_nil, List.length_append, List.length_cons, List.length_nil]; omega)
 refine H.mono ?_
 rintro e w' ⟨rfl, hb⟩
 exact ⟨by simp, (((Below.refl _ _).alloc (Nat.le_refl _) _).alloc (by simp) _).trans (hb.mono (by simp; omega))⟩
theorem lay_leaf (t : Int) (d : ByteArray) (a : Option Addr) (len cap : Nat) (w : World) (h0 : 0 <= t) (h1 : t <= 255) (hi : isIn t = false) (hd : d.size <= 16000000) :
  Calls Tryz.prog 61 #[.agg #[.int .i64 t, .string d, .slice a len cap]] w fun e w' => e = .returned (txt (UInt8.ofNat t.toNat :: (Sz.least d.size ++ d.data.toList))) /\ Below w.heap.size w w' := by
 have hI := inB_eq t h0 h1
 rw [hi] at hI
 have hd' : (d.size : Int) <= 16000000 := by omega
 go_enter Tryz.func61, Tryz.ntmps61
 go_wp2_with (go_at_call 91; refine (isInner_any _ _).mono ?_; rintro e w' ⟨rfl, rfl⟩)
 refine (encode_ok _ _ (by omega) (by omega)).mono ?_
 rintro e w' ⟨rfl, hb⟩
 have c0 : w'.cell? ⟨w.heap.size, 0, none⟩ = some (.int .i64 t) := (hb.cell (by simp)).trans (by rw [World.cell?_alloc_at _ _ _ _ rfl]; rfl)
 have hC := convT w' (t)
 have HJ := H_ (join_last t d.size d w' hd)
 have hbb : Below w.heap.size w w' := ((Below.refl _ _).alloc (Nat.le_refl _) _).trans (hb.mono (by simp))
 clear hb
 go_wp2_with (go_at_call 92; refine (un HJ).mono ?_; rintro e w' ⟨rfl, hb⟩)
 go_ret
 exact ⟨rfl, hbb.trans (hb.mono hbb.size)⟩
def partV {n : Nat} (T : Tr (n + 1)) (i : Nat) : List Value := ((kids T).take i).map fun x => txt (enc n x)
theorem partV_succ {n : Nat} (T : Tr (n + 1)) (i : Nat) (h : i < (kids T).length) : partV T (i + 1) = partV T i ++ [txt (enc n (kids T)[i])] := by
 unfold partV; rw [List.take_succ_eq_append_getElem h, List.map_append]; rfl
theorem below_grown {w wr w' : World} {g : Option Nat} (h : Below w.heap.size w wr) (hg : wr.grownBy w' g) (hb : ∀ k, g = some k -> w.heap.size <= k) : Below w.heap.size w w' :=
 ⟨hg.os.trans h.os, hg.tape.trans h.tape, hg.output.trans h.output, Nat.le_trans h.size hg.size, fun k hk => (hg.block k (Nat.lt_of_lt_of_le hk h.size) (fun e => by have := hb k e.symm; omega)).trans (h.block k hk)⟩
theorem lay_any : ∀ (n : Nat) (T : Tr n) (k : Nat) (w : World) (p : Nat -> Prop) (v : Value), Node n w p v T -> Tv.shape n k T = true -> (enc n T).length <= 16000000 ->
  Calls Tryz.prog 61 #[v] w fun e w' => e = .returned (txt (enc n T)) /\ Below w.heap.size w w' := by
 intro n
 induction n with
 | zero => intro T; exact Empty.elim T
 | succ n ih =>
  intro T k w p v hN hsh hlen
  obtain ⟨g, off, cap, a, hv, hd, hk, hks⟩ := kidsAt hN
  have hel := enc_len T
  have hbl : (body T).length <= 16000000 := by omega
  obtain ⟨_, hfit, hsk⟩ := shape_succ hsh
  obtain ⟨h0, h1, _, hin, hlf⟩ := (fit_iff _ _ _).1 hfit
  subst hv
  have hbd := body_len T
  cases hi : isIn (tag T)
  ·have hkn : kids T = [] := List.length_eq_zero_iff.1 (hlf hi)
   have := lay_leaf (tag T) (dat T) a (kids T).length cap w h0 h1 hi (by omega)
   rw [enc_succ, show (body T).length = (dat T).size by rw [hbd, hkn]; simp, show body T = (dat T).data.toList by unfold body; rw [hkn]; simp]
   exact this
  ·have hI := inB_eq (tag T) h0 h1
   rw [hi] at hI
   have hdn := hin hi
   have IH := H_ ih
   have HN := H_ hN
   have HS := H_ hsk
   have HD := H_ hdn
   have hle := fun x hx => kid_body T x hx
   have HL := H_ hle
   obtain ⟨is, his, hz0, hz1, hz2⟩ := info_parts infoStr
   have hk' : ((kids T).length : Int) <= 4000 := by omega
   clear ih hN hel hsk hdn hle hin hlf hi hsh hfit
   go_enter Tryz.func61, Tryz.ntmps61
   go_wp2_with (first | (go_at_call 91; refine (isInner_any _ _).mono ?_; rintro e w' ⟨rfl, rfl⟩) | (at_make; refine wpList_make_own _ rfl _ _ 22 rfl w.heap.size 9 is _ 1 Tryz.underlying22 his hz0 hz1 _ _ _ (kids T).length rfl rfl rfl (by rw [hz2]; omega) (by unfold maxLen; omega) (by simp) ?_))
   intro w1 hown hgr
   have hb1 : Below w.heap.size w w1 := below_grown ((Below.refl _ _).alloc (Nat.le_refl _) _) hgr (fun _ h => by cases h)
   have q0 : w1.heap[w.heap.size]? = some (.cells #[.int .i64 (tag T), .string (dat T), .slice a (kids T).length cap] 28 (0, 0)) := (hgr.block _ (by simp) (by simp)).trans (World.alloc_heap_new w _)
   obtain ⟨y0, y1, y2⟩ := (cells3 q0).1
   have HO := H_ hown
   have Q0 := H_ q0
   clear hown hgr q0
   go_wp2
   go_loopw [4, 21] (fun x y wr => ∃ i : Nat, i <= (kids T).length /\ x = .slice (some ⟨w.heap.size + 1, 0, none⟩) i (kids T).length /\ y = .int .i64 i /\ Hid (wr.ownsRow w.heap.size 9 1 (.slice (some ⟨w.heap.size + 1, 0, none⟩) i (kids T).length) i (partV T i)) /\ Below w.heap.size w wr /\
     Hid (wr.heap[w.heap.size]? = some (.cells #[.int .i64 (tag T), .string (dat T), .slice a (kids T).length cap] 28 (0, 0)))) (fun _ y _ => (kids T).length - (intOf y).toNat)
   case atStart => exact ⟨0, Nat.zero_le _, rfl, rfl, HO, hb1, Q0⟩
   case round =>
    obtain ⟨i, hi, rfl, rfl, hO, hb, hQ⟩ := hrel
    clear y0 y1 y2 HO Q0 hb1
    by_cases hlt : i < (kids T).length
    ·have ha : a = some ⟨g, off, none⟩ := hks.resolve_right (fun e => by rw [e] at hlt; cases hlt)
     obtain ⟨t, d, a', len', cap', c0, c1, c2, hNi⟩ := kidAt (un HN) hb hlt rfl ha
     have hm : (kids T)[i] ∈ kids T := List.getElem_mem hlt
     have hkl := (un HL) _ hm
     have H := H_ (fun o => (un IH) (kids T)[i] (k - 1) (wr.alloc o) p _ (hNi.below ((Below.refl _ _).alloc (Nat.le_refl _) _)) ((un HS) _ hm) (by omega))
     have hps := H_ (partV_succ T i hlt)
     have hlt' : (i : Int) < (kids T).length := by omega
     subst ha
     clear hNi hks
     go_wp2_with fail
     refine ((un H) _).mono ?_
     rintro e w2 ⟨rfl, hb2⟩
     have hb3 : Below wr.heap.size wr w2 := ((Below.refl _ _).alloc (Nat.le_refl _) _).trans (hb2.mono (by simp))
     have hO2 : w2.ownsRow w.heap.size 9 1 (.slice (some ⟨w.heap.size + 1, 0, none⟩) i (kids T).length) i (partV T i) := (un hO).kept (row := none) ⟨hb3.os, hb3.tape, hb3.output, hb3.size, fun k hk _ => hb3.block k hk⟩ (.inr (by simp [Value.ownBlock]))
     have hlS := (Array.getElem?_eq_some_iff.1 (un hQ)).1
     have hQ2 := (hb3.block _ hlS).trans (un hQ)
     have hbb := hb.trans (hb3.mono hb.size)
     have HO2 := H_ (hO2.alloc (.cells #[txt (enc n (kids T)[i])] 9))
     have HQ2 := H_ hQ2
     clear hO hQ hO2 hQ2 hb2 hb3 hb H c0 c1 c2
     go_wp2_with (at_builtin; refine wpList_append_fits _ rfl _ _ 22 rfl w.heap.size 9 is 1 Tryz.underlying22 his hz1 (w.heap.size + 1) i (kids T).length (partV T i) rfl (un HO2) ⟨w2.heap.size, 0, none⟩ 1 1 [txt (enc n (kids T)[i])] rfl rfl (fun j u hj => by
      match j, hj with
      | 0, hj =>
       simp at hj
       subst hj
       rw [Addr.add_lit, World.cell?_alloc_at _ _ _ _ rfl]; rfl) (fun u hu => by simp at hu; subst hu; rfl) (by omega) ?_)
     intro w3 hO3 hg3
     have hbw : Below w.heap.size w w3 := below_grown (hbb.alloc hbb.size _) hg3 (fun k hk => by injection hk with hk; omega)
     have hlS2 := (Array.getElem?_eq_some_iff.1 (un HQ2)).1
     have hQ3 := (hg3.block w.heap.size (by simp; omega) (by simp)).trans ((Below.heap_alloc w2 _ _ hlS2).trans (un HQ2))
     rw [<- un hps] at hO3
     have HO3 := H_ hO3
     have HQ3 := H_ hQ3
     clear hO3 hQ3 hg3 HO2 HQ2 hps
     go_wp2
     go_roundw
     case rel => exact ⟨i + 1, by omega, rfl, by simp, HO3, hbw, HQ3⟩
     case measure => simp [intOf]; omega
    ·have hge : ¬ (i : Int) < (kids T).length := by omega
     obtain rfl : i = (kids T).length := by omega
     have hfl : ((kids T).map (enc n)).flatten.length = (body T).length := by rw [hbd, flat_sum, un HD]; omega
     have hO2 := un hO
     have hJ := join_any (w.heap.size + 1) (kids T).length ((kids T).map (enc n)) (kids T).length (by simp) wr (fun j x hx => by
      rw [List.getElem?_map, Option.map_eq_some_iff] at hx
      obtain ⟨y, hy, rfl⟩ := hx
      have := hO2.cells rfl j (txt (enc n y)) (by unfold partV; rw [List.take_of_length_le (Nat.le_refl _), List.getElem?_map, hy]; rfl)
      rw [Addr.add_lit, Nat.zero_add] at this
      exact this) (hO2.lt _ rfl).2 (by simpa using hk) (by simp) (by omega)
     have henc : enc (n + 1) T = UInt8.ofNat (tag T).toNat :: (Sz.least ((kids T).map (enc n)).flatten.length ++ ((kids T).map (enc n)).flatten) := by
      rw [enc_succ, hfl]
      have : body T = ((kids T).map (enc n)).flatten := by unfold body; rw [show (dat T).data.toList = [] from List.length_eq_zero_iff.1 (Array.length_toList.trans (un HD))]; rfl
      rw [this]
     have hl16 : ((kids T).map (enc n)).flatten.length <= 16000000 := by omega
     generalize ((kids T).map (enc n)).flatten = bd at *
     have Henc := H_ henc
     have HQ := hQ
     have HJ := H_ hJ
     clear hO hO2 hQ hJ henc hfl
     go_wp2_with fail
     refine (un HJ).mono ?_
     rintro e w2 ⟨rfl, hb2⟩
     have hlS2 := (Array.getElem?_eq_some_iff.1 (un HQ)).1
     have hQ2 := (hb2.block _ hlS2).trans (un HQ)
     have hbb := hb.trans (hb2.mono hb.size)
     have HQ2 := H_ hQ2
     have hl16' : ((bd.length : Nat) : Int) <= 16000000 := by omega
     clear HJ hQ2 hb2 hb HQ
     go_wp2_with fail
     refine (encode_ok _ _ (by omega) (by omega)).mono ?_
     rintro e w3 ⟨rfl, hb3⟩
     have hQ3 := (hb3.block _ (Array.getElem?_eq_some_iff.1 (un HQ2)).1).trans (un HQ2)
     have hbc := hbb.trans (hb3.mono hbb.size)
     obtain ⟨y0, y1, y2⟩ := (cells3 hQ3).1
     have hC := convT w3 (tag T)
     have HJ := H_ (join_last (tag T) bd.length ⟨bd.toArray⟩ w3 hl16)
     clear hQ3 HQ2 hb3
     go_wp2_with (go_at_call 92; refine (un HJ).mono ?_; rintro e w' ⟨rfl, hb⟩)
     go_ret
     rw [un Henc]
     exact ⟨rfl, hbc.trans (hb.mono hbc.size)⟩
end Go.Proofs.YtmenllnokgjdlaaGreatDoor
/-
 What tlv.Same answers. Conditions: none.
-/
namespace Go.Proofs.YtmenllnokgjdlaaGreatDoor
open Go.RowKit Tv Go.Shelf
theorem allB_len {α : Type} (f : α -> α -> Bool) : ∀ (xs ys : List α), xs.length ≠ ys.length -> allB f xs ys = false
 | [], [], h => absurd rfl h
 | [], _ :: _, _ => rfl
 | _ :: _, [], _ => rfl
 | x :: xs, y :: ys, h => by
  rw [allB, allB_len f xs ys (by simpa using h), Bool.and_false]
theorem allB_true {α : Type} (f : α -> α -> Bool) : ∀ (xs ys : List α) (hl : xs.length = ys.length), (∀ (j : Nat) (h : j < xs.length), f xs[j] (ys[j]'(hl ▸ h)) = true) -> allB f xs ys = true
 | [], [], _, _ => rfl
 | [], _ :: _, hl, _ => by cases hl
 | _ :: _, [], hl, _ => by cases hl
 | x :: xs, y :: ys, hl, h => by
  rw [allB, Bool.and_eq_true]
  exact ⟨h 0 (by simp), allB_true f xs ys (by simpa using hl) fun j hj => h (j + 1) (by simpa using hj)⟩
theorem allB_false {α : Type} (f : α -> α -> Bool) : ∀ (xs ys : List α) (hl : xs.length = ys.length) (j : Nat) (h : j < xs.length), f xs[j] (ys[j]'(hl ▸ h)) = false -> allB f xs ys = false
 | [], _, _, j, h, _ => by cases h
 | _ :: _, [], hl, _, _, _ => by cases hl
 | x :: xs, y :: ys, hl, 0, h, hf => by
  simp at hf
  rw [allB, hf, Bool.false_and]
 | x :: xs, y :: ys, hl, j + 1, h, hf => by
  rw [allB, allB_false f xs ys (by simpa using hl) j (by simpa using h) (by simpa using hf), Bool.and_false]
def SameIs (n : Nat) : Prop := ∀ (A B : Tr n) (w : World) (p q : Nat -> Prop) (u v : Value), Node n w p u A -> Node n w q v B ->
 Calls Tryz.prog 27 #[u, v] w fun e w' => e = .returned (.bool (same n A B)) /\ Below w.heap.size w w'
theorem equal_any (n : Nat) (ih : SameIs n) (A B : Tr (n + 1)) (w : World) (p q : Nat -> Prop) (a b : Option Addr) (cap cap' : Nat) (hA : Node (n + 1) w p (.agg #[.int .i64 (tag A), .string (dat A), .slice a (kids A).length cap]) A) (hB : Node (n + 1) w q (.agg #[.int .i64 (tag B), .string (dat B), .slice b (kids B).length cap']) B) :
  Calls Tryz.prog 48 #[.slice a (kids A).length cap, .slice b (kids B).length cap', .func (.func 27) #[] #[]] w fun e w' => e = .returned (.bool (allB (same n) (kids A) (kids B))) /\ Below w.heap.size w w' := by
 have HA := H_ hA
 have HB := H_ hB
 obtain ⟨g, off, _, _, hv, _, hk, hks⟩ := kidsAt hA
 injection hv with hv
 have e' := congrArg Array.toList hv
 simp only [List.cons.injEq, Value.slice.injEq, true_and, and_true] at e'
 obtain ⟨rfl, rfl⟩ := e'
 obtain ⟨g', off', _, _, hv', _, hk', hks'⟩ := kidsAt hB
 injection hv' with hv'
 have e' := congrArg Array.toList hv'
 simp only [List.cons.injEq, Value.slice.injEq, true_and, and_true] at e'
 obtain ⟨rfl, rfl⟩ := e'
 clear hv hv' hA hB
 by_cases hl : (kids A).length = (kids B).length
 ·have hll : (((kids A).length : Int) != ((kids B).length : Int)) = false := by simp [hl]
  have IH := H_ ih
  have hl1 : ((kids A).length : Int) <= 4000 := by omega
  have HL := H_ hl
  clear ih hl
  go_enter Tryz.func48, Tryz.ntmps48
  go_wp2
  go_loopw [17] (fun y wr => ∃ i : Nat, i <= (kids A).length /\ y = .int .i64 i /\ Hid (∀ (j : Nat) (h : j < (kids A).length), j < i -> same n (kids A)[j] ((kids B)[j]'((un HL) ▸ h)) = true) /\ Below w.heap.size w wr) (fun y _ => (kids A).length - (intOf y).toNat)
  case atStart => exact ⟨0, Nat.zero_le _, rfl, H_ (fun j _ h => by cases h), Below.refl _ _⟩
  case round =>
   obtain ⟨i, hi, rfl, hall, hb⟩ := hrel
   by_cases hlt : i < (kids A).length
   ·have hltB : i < (kids B).length := (un HL) ▸ hlt
    have ha : a = some ⟨g, off, none⟩ := hks.resolve_right (fun e => by rw [e] at hlt; cases hlt)
    have hb' : b = some ⟨g', off', none⟩ := hks'.resolve_right (fun e => by rw [e] at hltB; cases hltB)
    obtain ⟨t, d, sa, sl, sc, c0, c1, c2, hNi⟩ := kidAt (un HA) hb hlt rfl ha
    obtain ⟨t', d', sa', sl', sc', x0, x1, x2, hNi'⟩ := kidAt (un HB) hb hltB rfl hb'
    have H := H_ (fun o o' => (un IH) (kids A)[i] (kids B)[i] ((wr.alloc o).alloc o') p q _ _ (hNi.below (((Below.refl _ _).alloc (Nat.le_refl _) _).alloc (by simp) _)) (hNi'.below (((Below.refl _ _).alloc (Nat.le_refl _) _).alloc (by simp) _)))
    have hlt' : (i : Int) < (kids A).length := by omega
    have hltB' : (i : Int) < (kids B).length := by omega
    have z0 : ∀ o, (wr.alloc o).cell? ⟨g', off' + i * 3, none⟩ = some (.int .i64 t') := fun o => (((Below.refl wr.heap.size wr).alloc (Nat.le_refl _) o).cell (lt_of_cell x0)).trans x0
    have z1 : ∀ o, (wr.alloc o).cell? ⟨g', off' + i * 3 + 1, none⟩ = some (.string d') := fun o => (((Below.refl wr.heap.size wr).alloc (Nat.le_refl _) o).cell (lt_of_cell x1)).trans x1
    have z2 : ∀ o, (wr.alloc o).cell? ⟨g', off' + i * 3 + 2, none⟩ = some (.slice sa' sl' sc') := fun o => (((Below.refl wr.heap.size wr).alloc (Nat.le_refl _) o).cell (lt_of_cell x2)).trans x2
    subst ha
    subst hb'
    clear hNi hNi' hks hks' x0 x1 x2
    go_wp2_with fail
    refine ((un H) _ _).mono ?_
    rintro e w2 ⟨rfl, hb2⟩
    have hbb : Below w.heap.size w w2 := hb.trans ((((Below.refl wr.heap.size wr).alloc (Nat.le_refl _) _).alloc (by simp) _).trans (hb2.mono (by simp; omega)) |>.mono hb.size)
    cases hs : same n (kids A)[i] (kids B)[i]
    ·have Hf := H_ (allB_false (same n) (kids A) (kids B) (un HL) i hlt hs)
     clear hs hb2 H hb z0 z1 z2 c0 c1 c2
     go_wp2
     go_ret
     rw [un Hf]
     exact ⟨rfl, hbb⟩
    ·have hs' := H_ hs
     clear hs hb2 H hb z0 z1 z2 c0 c1 c2
     go_wp2
     go_roundw
     case rel =>
      refine ⟨i + 1, by omega, by simp, H_ (fun j h hj => ?_), hbb⟩
      by_cases hji : j = i
      ·subst hji; exact un hs'
      ·exact (un hall) j h (by omega)
     case measure => simp [intOf]; omega
   ·have hge : ¬ (i : Int) < (kids A).length := by omega
    have Hf := H_ (allB_true (same n) (kids A) (kids B) (un HL) (fun j h => (un hall) j h (by omega)))
    clear hall hks hks'
    go_wp2
    go_ret
    rw [un Hf]
    exact ⟨rfl, hb⟩
 ·have hll : (((kids A).length : Int) != ((kids B).length : Int)) = true := by rw [bne_iff_ne]; omega
  have hf := allB_len (same n) (kids A) (kids B) hl
  rw [hf]
  clear ih
  go_enter Tryz.func48, Tryz.ntmps48
  go_wp2
  go_ret
  exact ⟨rfl, Below.refl _ _⟩
theorem same_any : ∀ n, SameIs n
 | 0 => fun A => Empty.elim A
 | n + 1 => by
  have ih := same_any n
  intro A B w p q u v hA hB
  obtain ⟨g, off, cap, a, rfl, _, _, _⟩ := kidsAt hA
  obtain ⟨g', off', cap', b, rfl, _, _, _⟩ := kidsAt hB
  have hbt : ∀ o o', Below w.heap.size w ((w.alloc o).alloc o') := fun o o' => ((Below.refl _ _).alloc (Nat.le_refl _) o).alloc (by simp) o'
  have H := H_ (fun o o' => equal_any n ih A B ((w.alloc o).alloc o') p q a b cap cap' (hA.below (hbt o o')) (hB.below (hbt o o')))
  have hs : same (n + 1) A B = (decide (tag A = tag B) && ((dat A).data.toList == (dat B).data.toList) && allB (same n) (kids A) (kids B)) := rfl
  have HS := H_ hs
  clear ih hA hB hs
  cases ht : (tag A == tag B)
  ·have Ht := H_ ht
   go_enter Tryz.func27, Tryz.ntmps27
   go_wp2
   go_ret
   refine ⟨?_, hbt _ _⟩
   rw [un HS, decide_eq_false (by simpa using un Ht)]
   rfl
  ·cases hd : ((dat A).toList == (dat B).toList)
   ·have Ht := H_ ht
    have Hd := H_ hd
    go_enter Tryz.func27, Tryz.ntmps27
    go_wp2
    go_ret
    refine ⟨?_, hbt _ _⟩
    have := un Hd
    rw [ByteArray.toList_eq, ByteArray.toList_eq] at this
    rw [un HS, this, Bool.and_false]
    rfl
   ·have Ht := H_ ht
    have Hd := H_ hd
    go_enter Tryz.func27, Tryz.ntmps27
    go_wp2_with (go_at_call 48; refine ((un H) _ _).mono ?_; rintro e w2 ⟨rfl, hb2⟩)
    go_ret
    refine ⟨?_, (hbt _ _).trans (hb2.mono (by simp; omega))⟩
    have := un Hd
    rw [ByteArray.toList_eq, ByteArray.toList_eq] at this
    rw [un HS, this, decide_eq_true (by simpa using un Ht)]
    rfl
end Go.Proofs.YtmenllnokgjdlaaGreatDoor
/-
 What reader.tree of package tlv does, for every text, place and depth. Conditions: the package-level variables hold what the program's text lays.
-/
namespace Go.Proofs.YtmenllnokgjdlaaGreatDoor
open Go.RowKit Tv T
theorem ext_eq (s : ByteArray) (a b : Nat) : (⟨((s.data.toList.drop a).take (b - a)).toArray⟩ : ByteArray) = s.extract a b := by
 apply ByteArray.ext
 simp [ByteArray.data_extract]
 apply Array.ext'
 simp [List.extract_eq_take_drop]
theorem leaf_node (k : Nat) (W : World) (p : Nat -> Prop) (t : Int) (d : ByteArray) (hd : d.size <= 9000) : Node (k + 1) W p (.agg #[.int .i64 t, .string d, .slice none 0 0]) (mk t d []) := ⟨none, 0, rfl, hd, Nat.zero_le _, .inl rfl⟩
theorem tree_any (R : Nat) (s : ByteArray) (A : Ads) (aS aF : Addr) (w₀ : World) (g : Gl A aS aF w₀) (hR : w₀.heap.size <= R) (hs : s.size <= 9000) :
  ∀ (k p stop c : Nat) (w : World), TRd R s c w -> Below w₀.heap.size w₀ w -> c <= 200 -> p <= stop -> stop <= s.size -> k <= 12 ->
   Calls Tryz.prog 99 #[.pointer (some ⟨R, 0, none⟩), .int .i64 p, .int .i64 stop, .int .i64 (13 - (k : Int))] w (TreePost R s A w k (readT s.data.toList k p stop c)) := by
 intro k
 induction k with
 | zero =>
  intro p stop c w hT hw hc hp hst _
  have hTa : TRd R s c (ans w) := hT.below (ans_below w) hT.lt
  have hwa : Below w₀.heap.size w₀ (ans w) := hw.trans ((ans_below w).mono hw.size)
  refine (tree_err R A w p stop _ 21 hT.lt ((head_node R s c p stop _ A (ans w) hTa (g.below hwa).t (.inr (by decide))).mono fun e w' ⟨he, hb⟩ => ⟨But.of_below hb, _, he, by simp, .inr ⟨_, rfl, .inr (.inr (.inr ⟨.inl rfl, rfl⟩))⟩⟩)).mono fun e w' h => ?_
  exact h
 | succ k ih =>
  intro p stop c w hT hw hc hp hst hk
  have hTa : TRd R s c (ans w) := hT.below (ans_below w) hT.lt
  have hwa : Below w₀.heap.size w₀ (ans w) := hw.trans ((ans_below w).mono hw.size)
  by_cases h200 : c = 200
  ·refine (tree_err R A w p stop _ 21 hT.lt ((head_node R s c p stop _ A (ans w) hTa (g.below hwa).t (.inl (by omega))).mono fun e w' ⟨he, hb⟩ => ⟨But.of_below hb, _, he, by simp, .inr ⟨_, rfl, .inr (.inr (.inr ⟨.inl rfl, rfl⟩))⟩⟩)).mono fun e w' h => ?_
   unfold readT
   rw [if_pos h200]
   exact h
  ·have H := head_any R s c p stop (13 - ((k + 1 : Nat) : Int)) A aS aF w₀ (ans w) hTa g hwa hR (by omega) (by omega) (by omega) hp hst
   cases hh : headT s.data.toList p stop with
   | error E =>
    rw [hh] at H
    refine (tree_err R A w p stop _ E hT.lt (H.mono fun e w' ⟨hb, _, u, he, hu, hy⟩ => ⟨hb, u, he, hu, hy⟩)).mono fun e w' h => ?_
    unfold readT
    rw [if_neg h200, hh]
    exact h
   | ok r =>
    obtain ⟨t, a, b⟩ := r
    rw [hh] at H
    obtain ⟨g1, g2, g3, g4, _, g5, g6, _, _⟩ := headT_ok (by simpa using hst) hh
    by_cases hi : isIn t = true
    ·refine (tree_inner k R s (c + 1) a b t A w₀ w p stop _ hw hR hT.lt g3 (by omega) g5 hi (by omega) (by omega) (by omega)
      (H.mono fun e w' ⟨hb, ht, he⟩ => ⟨hb, ht, he⟩)
      (fun q c' w' hT' hw' hc' hq => by
       have := ih q b c' w' hT' hw' hc' hq (by omega) (by omega)
       rw [show 13 - ((k + 1 : Nat) : Int) + 1 = 13 - (k : Int) by omega]
       exact this)).mono fun e w' h => ?_
     unfold readT
     rw [if_neg h200, hh]
     simp only
     rw [if_pos hi]
     refine ⟨h.1, ?_⟩
     have h2 := h.2
     cases hl : readL (fun q c' => readT s.data.toList k q b c') (b - a) a b (c + 1) with
     | error E => rw [hl] at h2; exact h2
     | ok r => rw [hl] at h2; exact h2
    ·have hi' : isIn t = false := by simpa using hi
     refine (tree_leaf R s ((c + 1 : Nat)) a b t w p stop _ hT.lt (by omega) g3 (by omega) g5 hi' (H.mono fun e w' ⟨hb, ht, he⟩ => ⟨hb, ht, he⟩)).mono fun e w' ⟨hb, he, ht⟩ => ?_
     unfold readT
     rw [if_neg h200, hh]
     simp only
     rw [if_neg hi]
     refine ⟨hb, _, he, ?_, ht⟩
     rw [ext_eq]
     exact leaf_node _ _ _ _ _ (by rw [ByteArray.size_extract]; omega)
end Go.Proofs.YtmenllnokgjdlaaGreatDoor
/-
 How tlv.all goes through the trees in a tree: the iterator. Conditions: none.
-/
namespace Go.Proofs.YtmenllnokgjdlaaGreatDoor
open Go.RowKit Tv T Go.Shelf
attribute [local go_sem] Oper.semAt_some
structure Visit where
 deep : Int
 t : Int
 d : ByteArray
 sa : Option Addr
 sn : Nat
 sc : Nat
abbrev Visit.cs (x : Visit) : Array Value := #[.int .i64 x.t, .string x.d, .slice x.sa x.sn x.sc]
def good (c : Nat) (x : Visit) : Prop := c < 200 /\ x.deep <= 12 /\ fitB x.t x.d.size x.sn = true
def Low (X : Nat -> Prop) (A B : World) : Prop := A.heap.size <= B.heap.size /\ ∀ k, k < A.heap.size -> ¬ X k -> B.heap[k]? = A.heap[k]?
theorem Low.refl (X : Nat -> Prop) (A : World) : Low X A A := ⟨Nat.le_refl _, fun _ _ _ => rfl⟩
theorem Low.trans {X : Nat -> Prop} {A B C : World} (h : Low X A B) (k : Low X B C) : Low X A C := ⟨Nat.le_trans h.1 k.1, fun i hl hn => (k.2 i (Nat.lt_of_lt_of_le hl h.1) hn).trans (h.2 i hl hn)⟩
theorem Low.alloc {X : Nat -> Prop} {A B : World} (h : Low X A B) (o : Obj) : Low X A (B.alloc o) := h.trans ⟨by simp, fun k hl _ => Below.heap_alloc B o k hl⟩
theorem Node.low {n : Nat} {X : Nat -> Prop} {W W' : World} {v : Value} {T : Tr n} (h : Node n W (fun b => ¬ X b) v T) (hk : Low X W W') : Node n W' (fun b => ¬ X b) v T := h.of fun b hb hl => hk.2 b hl hb
theorem kidLow {n : Nat} {X : Nat -> Prop} {w wr : World} {T : Tr (n + 1)} {v : Value} (h : Node (n + 1) w (fun b => ¬ X b) v T) (hk : Low X w wr) {i : Nat} (hi : i < (kids T).length) {g off : Nat} {a : Option Addr} {cap : Nat} (hv : v = .agg #[.int .i64 (tag T), .string (dat T), .slice a (kids T).length cap]) (ha : a = some ⟨g, off, none⟩) :
  ∃ t d a' len' cap', wr.cell? ⟨g, off + i * 3, none⟩ = some (.int .i64 t) /\ wr.cell? ⟨g, off + i * 3 + 1, none⟩ = some (.string d) /\ wr.cell? ⟨g, off + i * 3 + 2, none⟩ = some (.slice a' len' cap') /\ Node n wr (fun b => ¬ X b) (.agg #[.int .i64 t, .string d, .slice a' len' cap']) (kids T)[i] :=
 kidAt (h.low hk) (Below.refl _ _) hi hv ha
theorem okL_app {α : Type} (f : Nat -> α -> Option Nat) : ∀ (xs ys : List α) (c : Nat), okL f c (xs ++ ys) = (okL f c xs).bind fun c' => okL f c' ys
 | [], ys, c => rfl
 | x :: xs, ys, c => by
  simp only [List.cons_append, okL]
  cases f c x with
  | none => rfl
  | some c' => simp [okL_app f xs ys c']
theorem okL_none {α : Type} (f : Nat -> α -> Option Nat) (xs : List α) (i c c' : Nat) (hi : i < xs.length) (h1 : okL f c (xs.take i) = some c') (h2 : f c' xs[i] = none) : okL f c xs = none := by
 rw [<- List.take_append_drop i xs, okL_app, h1, List.drop_eq_getElem_cons hi]
 simp [okL, h2]
theorem okL_some {α : Type} (f : Nat -> α -> Option Nat) (xs : List α) (i c c' c'' : Nat) (hi : i < xs.length) (h1 : okL f c (xs.take i) = some c') (h2 : f c' xs[i] = some c'') : okL f c (xs.take (i + 1)) = some c'' := by
 rw [List.take_succ_eq_append_getElem hi, okL_app, h1]
 simp [okL, h2]
def PassPost (X : Nat -> Prop) (J : Nat -> World -> Prop) (Jx : World -> Prop) (W : World) (r : Option Nat) (e : Ending) (W' : World) : Prop :=
 (∃ c', e = .returned (.bool true) /\ r = some c' /\ J c' W' /\ Low X W W') \/ (e = .returned (.bool false) /\ r = none /\ Jx W')
theorem pass_any (l : Nat) (X : Nat -> Prop) (J : Nat -> World -> Prop) (Jx : World -> Prop) (hJ : ∀ c A o, J c A -> J c (A.alloc o)) (hJX : ∀ c A k, J c A -> X k -> k < A.heap.size)
  (hY : ∀ c x W m, J c W -> YieldAt Fence.wide m Tryz.prog l #[.int .i64 x.deep, .agg x.cs] W fun e W2 => (e = .returned (.bool true) /\ good c x /\ J (c + 1) W2 /\ Low X W W2) \/ (e = .returned (.bool false) /\ ¬ good c x /\ Jx W2)) :
  ∀ (n : Nat) (T : Tr n) (c deep : Nat) (W : World) (v : Value), Node n W (fun b => ¬ X b) v T -> J c W -> deep <= 1000 - n -> n <= 100 ->
   Calls Tryz.prog 108 #[v, .int .i64 deep, .func (.yield l) #[] #[]] W (PassPost X J Jx W (okT n c deep T)) := by
 intro n
 induction n with
 | zero => intro T; exact Empty.elim T
 | succ n ih =>
  intro T c deep W v hN hj hdp hn
  obtain ⟨g, off, cap, a, hv, hd, hk, hks⟩ := kidsAt hN
  have HN := H_ hN
  have IH := H_ ih
  subst hv
  clear ih hN
  obtain ⟨fn, tmps, assign, body, hy, hR⟩ := hY c ⟨deep, tag T, dat T, a, (kids T).length, cap⟩ _ 4 (hJ _ _ (.cells #[.int .i64 (tag T), .string (dat T), .slice a (kids T).length cap] 28) hj)
  dsimp only at hy
  have HY := H_ hY
  clear hY
  refine (callsIn_wide (n := 5)).1 ?_
  refine callsIn_of_wp Tryz.func108 rfl trivial ?_ rfl
  simp only [Tryz.ntmps108, List.size_toArray, List.length_cons, List.length_nil, Nat.reduceAdd, Nat.reduceSub, Array.replicate_succ, Array.replicate_zero, List.push_toArray, List.append_toArray, List.nil_append, List.cons_append]
  gi_wp2
  refine hR.mono ?_
  rintro e W2 (⟨rfl, hg, hj2, hlow⟩ | ⟨rfl, hg, hx⟩)
  ·have hok : okT (n + 1) c deep T = okL (fun c' x => okT n c' (deep + 1) x) (c + 1) (kids T) := by
    obtain ⟨h1, h2, h3⟩ := hg
    dsimp only at h1 h2 h3
    rw [okT, if_pos ⟨h1, by omega, h3⟩]
   have Hok := H_ hok
   clear hok hg hR
   have hbox : W2.heap[W.heap.size]? = some (.cells #[.int .i64 (tag T), .string (dat T), .slice a (kids T).length cap] 28 (0, 0)) :=
    (hlow.2 _ (by simp) (fun hx => by have := hJX _ _ _ hj hx; omega)).trans (World.alloc_heap_new W _)
   obtain ⟨b0, b1, b2⟩ := (cells3 hbox).1
   have hlow2 : Low X W W2 := ((Low.refl X W).alloc _).trans hlow
   have hk' : ((kids T).length : Int) <= 4000 := by omega
   gi_wp2
   gi_loopw [17] (fun y wr => ∃ i c' : Nat, i <= (kids T).length /\ y = .int .i64 i /\ Hid (okL (fun c' x => okT n c' (deep + 1) x) (c + 1) ((kids T).take i) = some c') /\ J c' wr /\ Low X W wr) (fun y _ => (kids T).length - (intOf y).toNat)
   case atStart => exact ⟨0, c + 1, Nat.zero_le _, rfl, rfl, hj2, hlow2⟩
   case round =>
    obtain ⟨i, c1, hi, rfl, hsum, hj3, hlow3⟩ := hrel
    clear b0 b1 b2 hbox hlow hlow2 hj2
    by_cases hlt : i < (kids T).length
    ·have ha : a = some ⟨g, off, none⟩ := hks.resolve_right (fun e => by rw [e] at hlt; cases hlt)
     obtain ⟨t, d, a', len', cap', c0, c1', c2, hNi⟩ := kidLow (un HN) hlow3 hlt rfl ha
     have H := H_ (fun o => by
      have := (un IH) (kids T)[i] c1 (deep + 1) (wr.alloc o) _ (hNi.low ((Low.refl X wr).alloc o)) (hJ _ _ _ hj3) (by omega) (by omega)
      rw [Int.natCast_add] at this
      exact this)
     have hlt' : (i : Int) < (kids T).length := by omega
     have hd1 : (deep : Int) <= 1000 := by omega
     subst ha
     clear hNi hks
     gi_wp2_with fail
     refine ⟨trivial, (callsIn_wide.2 ((un H) _)).mono ?_⟩
     rintro e W3 (⟨c2, rfl, hs2, hj4, hlow4⟩ | ⟨rfl, hs2, hx⟩)
     ·have Hs := H_ (okL_some _ _ _ _ _ _ hlt (un hsum) hs2)
      clear hsum hs2 H
      gi_wp2
      go_roundw
      case rel => exact ⟨i + 1, c2, by omega, by simp, Hs, hj4, hlow3.trans (((Low.refl X wr).alloc _).trans hlow4)⟩
      case measure => simp [intOf]; omega
     ·have hno : okT (n + 1) c deep T = none := by rw [un Hok]; exact okL_none _ _ _ _ _ hlt (un hsum) hs2
      have Hno := H_ hno
      clear hno hsum hs2 H
      gi_wp2
      go_ret
      exact .inr ⟨rfl, un Hno, hx⟩
    ·have hge : ¬ (i : Int) < (kids T).length := by omega
     have hfin : okT (n + 1) c deep T = some c1 := by rw [un Hok, <- un hsum, List.take_of_length_le (by omega)]
     have Hfin := H_ hfin
     clear hfin hsum hks
     gi_wp2
     go_ret
     exact .inl ⟨c1, rfl, un Hfin, hj3, hlow3⟩
  ·have hno : okT (n + 1) c deep T = none := by
    rw [okT, if_neg]
    rintro ⟨h1, h2, h3⟩
    exact hg ⟨h1, by dsimp only; omega, h3⟩
   have Hno := H_ hno
   clear hno hg hR
   gi_wp2
   go_ret
   exact .inr ⟨rfl, un Hno, hx⟩
end Go.Proofs.YtmenllnokgjdlaaGreatDoor
/-
 What tlv.check answers. Conditions: the package-level variables hold what the program's text lays.
-/
namespace Go.Proofs.YtmenllnokgjdlaaGreatDoor
open Go.RowKit Tv T Go.Shelf
attribute [local go_sem] Oper.semAt_some
theorem all_any (t : Int) (d : ByteArray) (a : Option Addr) (len cap : Nat) (w : World) :
  Calls Tryz.prog 68 #[.agg #[.int .i64 t, .string d, .slice a len cap]] w fun e w' => e = .returned (.func (.func 107) #[] #[.pointer (some ⟨w.heap.size, 0, none⟩)]) /\ w' = w.alloc (.cells #[.int .i64 t, .string d, .slice a len cap] 28) := by
 go_enter Tryz.func68, Tryz.ntmps68
 go_wp2
 go_ret
 exact ⟨rfl, rfl⟩
theorem Node.small : ∀ {n : Nat} {W : World} {p : Nat -> Prop} {v : Value} {T : Tr n}, Node n W p v T -> small n T = true
 | 0, _, _, _, t, _ => Empty.elim t
 | n + 1, W, p, v, T, h => by
  obtain ⟨a, cap, _, hd, _, hk⟩ := h.shape
  unfold Tv.small
  simp only [Bool.and_eq_true, decide_eq_true_eq, List.all_eq_true]
  refine ⟨hd, fun x hx => ?_⟩
  obtain ⟨i, hi, rfl⟩ := List.getElem_of_mem hx
  obtain ⟨g, off, _, _, t, d, a', l', c', _, _, _, hN⟩ := hk i hi
  exact hN.small
def CheckPost (A : Ads) (w : World) (b : Bool) (e : Ending) (w' : World) : Prop := Below w.heap.size w w' /\ if b = true then e = .returned .nilIface else ∃ v, e = .returned v /\ IsErr A v 21
abbrev four (w : World) (t : Int) (d : ByteArray) (a : Option Addr) (len cap : Nat) : World := (((w.alloc (.cells #[.int .i64 t, .string d, .slice a len cap] 28)).alloc (.cells #[.nilIface] 52)).alloc (.cells #[.int .i64 0] 3)).alloc (.cells #[.int .i64 t, .string d, .slice a len cap] 28)
theorem four_below (w : World) (t : Int) (d : ByteArray) (a : Option Addr) (len cap : Nat) : Below w.heap.size w (four w t d a len cap) := ((((Below.refl _ _).alloc (Nat.le_refl _) _).alloc (by simp) _).alloc (by simp; omega) _).alloc (by simp; omega) _
theorem four_at (w : World) (t : Int) (d : ByteArray) (a : Option Addr) (len cap : Nat) : (four w t d a len cap).heap[w.heap.size]? = some (.cells #[.int .i64 t, .string d, .slice a len cap] 28 (0, 0)) /\ (four w t d a len cap).heap[w.heap.size + 1]? = some (.cells #[.nilIface] 52 (0, 0)) /\
  (four w t d a len cap).heap[w.heap.size + 1 + 1]? = some (.cells #[.int .i64 0] 3 (0, 0)) /\ (four w t d a len cap).heap[w.heap.size + 1 + 1 + 1]? = some (.cells #[.int .i64 t, .string d, .slice a len cap] 28 (0, 0)) := by
 have h : (four w t d a len cap).heap = (((w.heap.push (.cells #[.int .i64 t, .string d, .slice a len cap] 28)).push (.cells #[.nilIface] 52)).push (.cells #[.int .i64 0] 3)).push (.cells #[.int .i64 t, .string d, .slice a len cap] 28) := rfl
 refine ⟨?_, ?_, ?_, ?_⟩
 ·rw [Below.heap_alloc _ _ _ (by simp; omega), Below.heap_alloc _ _ _ (by simp; omega), Below.heap_alloc _ _ _ (by simp)]; exact World.alloc_heap_new w _
 ·rw [h]; simp [Array.getElem_push]
 ·rw [h]; simp [Array.getElem_push]
 ·rw [h]; simp [Array.getElem_push]
structure InvC (w : World) (t : Int) (d : ByteArray) (a : Option Addr) (len cap : Nat) (y : Value) (c : Int) (W : World) : Prop where
 b0 : W.heap[w.heap.size]? = some (.cells #[.int .i64 t, .string d, .slice a len cap] 28 (0, 0))
 b1 : W.heap[w.heap.size + 1]? = some (.cells #[y] 52 (0, 0))
 b2 : W.heap[w.heap.size + 1 + 1]? = some (.cells #[.int .i64 c] 3 (0, 0))
 bel : Below w.heap.size w W
 sz : w.heap.size + 4 <= W.heap.size
theorem InvC.ext {w : World} {t : Int} {d : ByteArray} {a : Option Addr} {len cap : Nat} {y : Value} {c : Int} {A B : World} (h : InvC w t d a len cap y c A) (hb : ∀ x, x < w.heap.size + 3 -> B.heap[x]? = A.heap[x]?) (ho : B.os = A.os /\ B.tape = A.tape /\ B.output = A.output) (hz : A.heap.size <= B.heap.size) : InvC w t d a len cap y c B :=
 ⟨(hb _ (by omega)).trans h.b0, (hb _ (by omega)).trans h.b1, (hb _ (by omega)).trans h.b2, ⟨ho.1.trans h.bel.os, ho.2.1.trans h.bel.tape, ho.2.2.trans h.bel.output, Nat.le_trans h.bel.size hz, fun k hk => (hb k (by omega)).trans (h.bel.block k hk)⟩, Nat.le_trans h.sz hz⟩
theorem InvC.but {w : World} {t : Int} {d : ByteArray} {a : Option Addr} {len cap : Nat} {y : Value} {c : Int} {A B : World} {l : Nat} (h : InvC w t d a len cap y c A) (hl : w.heap.size + 4 <= l) (hb : But l A B) : InvC w t d a len cap y c B :=
 h.ext (fun x hx => hb.block x (by have := h.sz; omega) (by omega)) ⟨hb.os, hb.tape, hb.output⟩ hb.size
theorem InvC.below {w : World} {t : Int} {d : ByteArray} {a : Option Addr} {len cap : Nat} {y : Value} {c : Int} {A B : World} (h : InvC w t d a len cap y c A) (hb : Below A.heap.size A B) : InvC w t d a len cap y c B :=
 h.ext (fun x hx => hb.block x (by have := h.sz; omega)) ⟨hb.os, hb.tape, hb.output⟩ hb.size
theorem InvC.cells {w : World} {t : Int} {d : ByteArray} {a : Option Addr} {len cap : Nat} {y : Value} {c : Int} {A : World} (h : InvC w t d a len cap y c A) : (A.cell? ⟨w.heap.size, 0, none⟩ = some (.int .i64 t) /\ A.cell? ⟨w.heap.size, 1, none⟩ = some (.string d) /\ A.cell? ⟨w.heap.size, 2, none⟩ = some (.slice a len cap)) /\ (A.cell? ⟨w.heap.size + 1, 0, none⟩ = some y /\ A.cell? ⟨w.heap.size + 1 + 1, 0, none⟩ = some (.int .i64 c)) /\ A.frozen? ⟨w.heap.size + 1, 0, none⟩ = false /\ A.frozen? ⟨w.heap.size + 1 + 1, 0, none⟩ = false := by
 refine ⟨(cells3 h.b0).1, ⟨?_, ?_⟩, ?_, ?_⟩ <;> simp [World.cell?, World.frozen?, h.b1, h.b2]
theorem InvC.setWhy {w : World} {t : Int} {d : ByteArray} {a : Option Addr} {len cap : Nat} {y : Value} {c : Int} {A : World} (h : InvC w t d a len cap y c A) (y' : Value) : InvC w t d a len cap y' c (A.setCell ⟨w.heap.size + 1, 0, none⟩ y') :=
 ⟨(Below.heap_setCell _ _ _ _ (by show w.heap.size ≠ w.heap.size + 1; omega)).trans h.b0, heap_setCell_same A _ 0 _ _ _ h.b1, (Below.heap_setCell _ _ _ _ (by show w.heap.size + 1 + 1 ≠ w.heap.size + 1; omega)).trans h.b2, h.bel.setCell (p := ⟨w.heap.size + 1, 0, none⟩) (by show _ <= w.heap.size + 1; omega) _, by rw [size_setCell]; exact h.sz⟩
theorem InvC.setAt {w : World} {t : Int} {d : ByteArray} {a : Option Addr} {len cap : Nat} {y : Value} {c : Int} {A : World} (h : InvC w t d a len cap y c A) (c' : Int) : InvC w t d a len cap y c' (A.setCell ⟨w.heap.size + 1 + 1, 0, none⟩ (.int .i64 c')) :=
 ⟨(Below.heap_setCell _ _ _ _ (by show w.heap.size ≠ w.heap.size + 1 + 1; omega)).trans h.b0, (Below.heap_setCell _ _ _ _ (by show w.heap.size + 1 ≠ w.heap.size + 1 + 1; omega)).trans h.b1, heap_setCell_same A _ 0 _ _ _ h.b2, h.bel.setCell (p := ⟨w.heap.size + 1 + 1, 0, none⟩) (by show _ <= w.heap.size + 1 + 1; omega) _, by rw [size_setCell]; exact h.sz⟩
def OutC (A : Ads) (w : World) (t : Int) (d : ByteArray) (a : Option Addr) (len cap : Nat) (cd : Code) (W : World) : Prop := cd = .exit 0 /\ ∃ ad c, (ad = A.no \/ ad = A.ki) /\ InvC w t d a len cap (sentV ad) c W
theorem all1_any (n l Bx : Nat) (T : Tr (n + 1)) (X : Nat -> Prop) (J : Nat -> World -> Prop) (Jx : World -> Prop) (hJ : ∀ c A o, J c A -> J c (A.alloc o)) (hJX : ∀ c A k, J c A -> X k -> k < A.heap.size)
  (hY : ∀ c x W m, J c W -> YieldAt Fence.wide m Tryz.prog l #[.int .i64 x.deep, .agg x.cs] W fun e W2 => (e = .returned (.bool true) /\ good c x /\ J (c + 1) W2 /\ Low X W W2) \/ (e = .returned (.bool false) /\ ¬ good c x /\ Jx W2))
  (W : World) (a : Option Addr) (cap : Nat) (hN : Node (n + 1) W (fun b => ¬ X b) (.agg #[.int .i64 (tag T), .string (dat T), .slice a (kids T).length cap]) T) (hn : n + 1 <= 100) (h0 : J 0 W) (hB : W.heap[Bx]? = some (.cells #[.int .i64 (tag T), .string (dat T), .slice a (kids T).length cap] 28 (0, 0))) :
  CallsIn Fence.wide 6 Tryz.prog 107 #[.func (.yield l) #[] #[], .pointer (some ⟨Bx, 0, none⟩)] W fun e W' => (∃ v, e = .returned v) /\ ((∃ c, okT (n + 1) 0 1 T = some c /\ J c W') \/ (okT (n + 1) 0 1 T = none /\ Jx W')) := by
 have H := pass_any l X J Jx hJ hJX hY (n + 1) T 0 1 W _ hN h0 (by omega) hn
 obtain ⟨b0, b1, b2⟩ := (cells3 hB).1
 clear hY hN hB
 refine callsIn_of_wp Tryz.func107 rfl trivial ?_ rfl
 simp only [Tryz.ntmps107, List.size_toArray, List.length_cons, List.length_nil, Nat.reduceAdd, Nat.reduceSub, Array.replicate_succ, Array.replicate_zero, List.push_toArray, List.append_toArray, List.nil_append, List.cons_append]
 gi_wp2_with fail
 refine ⟨trivial, (callsIn_wide.2 H).mono ?_⟩
 rintro e W3 (⟨c2, rfl, hs2, hj4, _⟩ | ⟨rfl, hs2, hx⟩)
 ·gi_wp2
  go_end0
  exact ⟨⟨_, rfl⟩, .inl ⟨c2, hs2, hj4⟩⟩
 ·gi_wp2
  go_end0
  exact ⟨⟨_, rfl⟩, .inr ⟨hs2, hx⟩⟩
theorem below_putNew {B l : Nat} {a w : World} (h : Below B a w) (hl : B <= l) (o : Obj) : Below B a (w.putObj l o) :=
 ⟨h.os, h.tape, h.output, by rw [World.putObj_size]; exact h.size, fun k hk => (World.putObj_heap_other (by omega)).trans (h.block k hk)⟩
abbrev actD (m : Nat) (t : Int) (d : ByteArray) (a : Option Addr) (len cap : Nat) (L : Int) (x33 : Value) : Act :=
 { defers := [{ target := .collected (m + 4), args := #[] }], tmps := #[.agg #[.int .i64 t, .string d, .slice a len cap], .pointer (some ⟨m, 0, none⟩), .nilIface, .pointer (some ⟨m + 1, 0, none⟩), .pointer (some ⟨m + 1 + 1, 0, none⟩), undef, undef, .agg #[.int .i64 t, .string d, .slice a len cap],
   .func (.func 107) #[] #[.pointer (some ⟨m + 1 + 1 + 1, 0, none⟩)], undef, undef, undef, undef, undef, undef, undef, undef, undef, undef, undef, undef, undef, undef, undef, undef, undef, .nilIface, .bool true, .bool true, .agg #[.int .i64 t, .string d, .slice a len cap], .int .i64 L, .bool true, .bool true, x33, undef, undef, undef, undef, undef, undef] }
abbrev actC (m : Nat) (t : Int) (d : ByteArray) (a : Option Addr) (len cap : Nat) (x5 x6 x9 x10 : Value) : Act :=
 { defers := [], tmps := #[.agg #[.int .i64 t, .string d, .slice a len cap], .pointer (some ⟨m, 0, none⟩), .nilIface, .pointer (some ⟨m + 1, 0, none⟩), .pointer (some ⟨m + 1 + 1, 0, none⟩), x5, x6, .agg #[.int .i64 t, .string d, .slice a len cap],
   .func (.func 107) #[] #[.pointer (some ⟨m + 1 + 1 + 1, 0, none⟩)], x9, x10, undef, undef, undef, undef, undef, undef, undef, undef, undef, undef, undef, undef, undef, undef, undef, undef, undef, undef, undef, undef, undef, undef, undef, undef, undef, undef, undef, undef, undef] }
theorem check_any (n : Nat) (T : Tr n) (A : Ads) (aS aF : Addr) (w : World) (p : Nat -> Prop) (v : Value) (g : Gl A aS aF w) (hN : Node n w p v T) (hn : n <= 100) :
  Calls Tryz.prog 47 #[v] w (CheckPost A w (right T)) := by
 cases n with
 | zero => exact Empty.elim T
 | succ n =>
 obtain ⟨g0, off, cap, a, hv, hd, hk, hks⟩ := kidsAt hN
 subst hv
 have hmx : Tryz.prog.follows .mixedOrders = true := by kernel_rfl
 refine (callsIn_wide (n := 7)).1 ?_
 refine callsIn_of_wp_marks Tryz.func47 rfl trivial ?_ rfl
 simp only [Tryz.ntmps47, List.size_toArray, List.length_cons, List.length_nil, Nat.reduceAdd, Nat.reduceSub, Array.replicate_succ, Array.replicate_zero, List.push_toArray, List.append_toArray, List.nil_append, List.cons_append]
 refine wpIn_wide.2 ?_
 go_wp2
 refine wp_scope_straight ?_
 go_wp2
 refine wp_label ?_
 go_wp2_with (go_at_call 68; refine (all_any _ _ _ _ _ _).mono ?_; rintro e w' ⟨rfl, rfl⟩)
 change Code.wp _ _ _ _ (four w (tag T) (dat T) a (kids T).length cap)
 obtain ⟨q0, q1, q2, q3⟩ := four_at w (tag T) (dat T) a (kids T).length cap
 have hB0 := four_below w (tag T) (dat T) a (kids T).length cap
 have hz : (four w (tag T) (dat T) a (kids T).length cap).heap.size = w.heap.size + 4 := by simp
 have hInv : InvC w (tag T) (dat T) a (kids T).length cap .nilIface 0 (four w (tag T) (dat T) a (kids T).length cap) := ⟨q0, q1, q2, hB0, by omega⟩
 generalize four w (tag T) (dat T) a (kids T).length cap = W0 at *
 clear q0 q1 q2 hB0
 refine (wpIn_wide (n := 7)).1 ?_
 refine range_mine (α := Visit) (σ := Nat) (gf := 107) (lb := #[.pointer (some ⟨w.heap.size + 1 + 1 + 1, 0, none⟩)]) rfl (enters_of Tryz.func107 (by kernel_rfl) rfl)
  (fun x => #[.int .i64 x.deep, .agg x.cs]) (fun _ => rfl) (Low fun k => k = w.heap.size + 1 \/ k = w.heap.size + 1 + 1 \/ k = w.heap.size + 5) (fun A B => Below A.heap.size A B)
  (fun c W => InvC w (tag T) (dat T) a (kids T).length cap .nilIface c W /\ c <= 200)
  (fun cd _ W => OutC A w (tag T) (dat T) a (kids T).length cap cd W)
  (fun _ _ _ => True) (fun c _ => c + 1) 0
  (fun c _ => okT (n + 1) 0 1 T = some c) (fun _ => okT (n + 1) 0 1 T = none) good (fun c x => ¬ good c x)
  (fun x => x.cs) 28 (fun x B => actC w.heap.size (tag T) (dat T) a (kids T).length cap (.int .i64 x.deep) (.pointer (some ⟨B, 0, none⟩)) (.int .i64 x.deep) (.agg x.cs))
  Low.trans ?_ ?_ ?_ ?_ ?_ (fun _ _ _ _ _ h => h) (fun _ _ _ _ h => h) ⟨hInv, by omega⟩ ?iter ?assign ?body ?done ?stop
 ·intro X Y hxy; rw [hz] at hxy; exact ⟨hxy.size, fun k hk hn => hxy.block k hk (fun e => hn (.inr (.inr (by omega))))⟩
 ·intro X Y hxy hsz; rw [hz] at hsz ⊢; exact ⟨hxy.block _ (by omega), hxy.block _ (by omega)⟩
 ·intro c X Y hxy h; rw [hz] at hxy; exact ⟨h.1.but (by omega) hxy, h.2⟩
 ·intro c X Y hxy _ h; exact ⟨h.1.below hxy, h.2⟩
 ·rintro cd c X Y hxy ⟨rfl, ad, c', h1, h2⟩; rw [hz] at hxy; exact ⟨rfl, ad, c', h1, h2.but (by omega) hxy⟩
 case iter =>
  intro W hbW hzW J Jx hJ hJI hY h0
  rw [hz] at hbW hzW hY ⊢
  have hNW : Node (n + 1) W (fun b => ¬ (b = w.heap.size + 1 \/ b = w.heap.size + 1 + 1 \/ b = w.heap.size + 5)) (.agg #[.int .i64 (tag T), .string (dat T), .slice a (kids T).length cap]) T := by
   have h1 : Node (n + 1) w (fun b => b < w.heap.size) (.agg #[.int .i64 (tag T), .string (dat T), .slice a (kids T).length cap]) T := hN.imp fun b _ hl => hl
   exact ((h1.below hInv.bel).of fun b hb hl => hbW.block b hl (by omega)).imp fun b hb _ => by omega
  refine (all1_any n (w.heap.size + 4 + 1) (w.heap.size + 1 + 1 + 1) T _ J (fun W => ∃ c, Jx c W) (fun c A o h => hJ c A _ ((Below.refl _ _).alloc (Nat.le_refl _) o) h)
   (fun c X k hX hk' => by have := (hJI c X hX).2; rw [hz] at this; omega)
   (fun c x W' m hj => (hY c x W' m hj trivial).mono fun e W2 h => h.imp id fun ⟨h1, h2, h3⟩ => ⟨h1, h2, _, h3⟩) W a cap hNW hn h0 ((hbW.block _ (by omega) (by omega)).trans q3)).mono ?_
  rintro e W' ⟨h1, h2⟩
  refine ⟨h1, h2.imp (fun ⟨c, h3, h4⟩ => ⟨c, h3, h4⟩) (fun ⟨h3, c, h4⟩ => ⟨c, h3, h4⟩)⟩
 case assign =>
  intro c x W K _ _ hK
  gi_wp2
  exact hK
 case body =>
  rintro c ⟨xd, xt, xs, xa, xn, xc⟩ B W ⟨hI, hc⟩ _ hB hbox
  go_light
  dsimp only at hbox ⊢
  obtain ⟨_, ⟨y1, y2⟩, f1, f2⟩ := hI.cells
  obtain ⟨e0, e1, e2⟩ := (cells3 hbox).1
  have hG := g.below hI.bel
  have gno := hG.t.no
  have hc1 : (c : Int) <= 200 := by omega
  by_cases h200 : c = 200
  ·have t1 : ((c : Int) == 200) = true := beq_iff_eq.2 (by omega)
   have H200 := H_ h200
   clear h200
   gi_wp2
   try rw [hz]
   have h200 := un H200
   exact ⟨fun h => by have := h.1; omega, ⟨Below.heap_setCell _ _ _ _ (by show w.heap.size + 4 ≠ w.heap.size + 1; omega), Below.heap_setCell _ _ _ _ (by show w.heap.size + 4 + 1 ≠ w.heap.size + 1; omega)⟩, rfl, A.no, c, .inl rfl, hI.setWhy _⟩
  ·have t1 : ((c : Int) == 200) = false := beq_eq_false_iff_ne.2 (by omega)
   by_cases h12 : 12 < xd
   ·gi_wp2
    try rw [hz]
    exact ⟨fun h => by have := h.2.1; dsimp only at this; omega, ⟨Below.heap_setCell _ _ _ _ (by show w.heap.size + 4 ≠ w.heap.size + 1; omega), Below.heap_setCell _ _ _ _ (by show w.heap.size + 4 + 1 ≠ w.heap.size + 1; omega)⟩, rfl, A.no, c, .inl rfl, hI.setWhy _⟩
   ·have H := fits_any xt xs xa xn xc W
    cases hf : fitB xt xs.size xn
    ·rw [hf] at H
     have hK := H_ fun (w' : World) (hb : Below W.heap.size W w') => (hI.below hb)
     have hGk := H_ fun (w' : World) (hb : Below W.heap.size W w') => ((g.below (hI.below hb).bel).t.ki)
     have hno : ¬ good c ⟨xd, xt, xs, xa, xn, xc⟩ := fun h => by have := h.2.2; dsimp only at this; rw [hf] at this; cases this
     have Hno := H_ hno
     clear hno hI hf hG gno
     gi_wp2_with fail
     refine ⟨trivial, (CallsIn.inRound _ (callsIn_wide.2 H)).mono ?_⟩
     rintro e w' ⟨rfl, hb⟩
     have hI2 := (un hK) w' hb
     have gki := (un hGk) w' hb
     obtain ⟨_, ⟨z1, z2⟩, g1, g2⟩ := hI2.cells
     have HI2 := H_ hI2
     have Hb := H_ hb
     clear hI2 hb H
     gi_wp2
     try rw [hz]
     have hzW := (un Hb).size
     refine ⟨un Hno, ⟨(Below.heap_setCell _ _ _ _ (by show w.heap.size + 4 ≠ w.heap.size + 1; omega)).trans ((un Hb).block _ ?_), (Below.heap_setCell _ _ _ _ (by show w.heap.size + 4 + 1 ≠ w.heap.size + 1; omega)).trans ((un Hb).block _ ?_)⟩, rfl, A.ki, c, .inr rfl, (un HI2).setWhy _⟩
     ·have := (Array.getElem?_eq_some_iff.1 hbox).1; omega
     ·have := (Array.getElem?_eq_some_iff.1 hbox).1; omega
    ·rw [hf] at H
     have hK := H_ fun (w' : World) (hb : Below W.heap.size W w') => (hI.below hb)
     have hgo : good c ⟨xd, xt, xs, xa, xn, xc⟩ := ⟨by omega, by dsimp only; omega, hf⟩
     have Hgo := H_ hgo
     clear hgo hI hf hG gno
     gi_wp2_with fail
     refine ⟨trivial, (CallsIn.inRound _ (callsIn_wide.2 H)).mono ?_⟩
     rintro e w' ⟨rfl, hb⟩
     have hI2 := (un hK) w' hb
     obtain ⟨_, ⟨z1, z2⟩, g1, g2⟩ := hI2.cells
     have HI2 := H_ hI2
     have Hb := H_ hb
     clear hI2 hb H
     gi_wp2
     try rw [hz]
     have hzW := (un Hb).size
     have hBl := (Array.getElem?_eq_some_iff.1 hbox).1
     refine ⟨un Hgo, ⟨(Below.heap_setCell _ _ _ _ (by show w.heap.size + 4 ≠ w.heap.size + 1 + 1; omega)).trans ((un Hb).block _ (by omega)), (Below.heap_setCell _ _ _ _ (by show w.heap.size + 4 + 1 ≠ w.heap.size + 1 + 1; omega)).trans ((un Hb).block _ (by omega))⟩, ⟨by rw [size_setCell]; exact hzW, fun k hk hn => (Below.heap_setCell _ _ _ _ (by show k ≠ w.heap.size + 1 + 1; omega)).trans ((un Hb).block k hk)⟩, (un HI2).setAt _, by omega⟩
 case done =>
  rintro c W hok ⟨hI, hc⟩ hK
  rw [hz] at hK
  have hrt : Tv.shape (n + 1) 12 T = true /\ count (n + 1) T <= 200 := by
   have := okT_right (n + 1) T
   rw [hok] at this
   simpa using this.symm
  have hsm := hN.small
  have hle := enc_small (n + 1) T hsm
  have hle2 : (enc (n + 1) T).length <= 16000000 := by omega
  have M := measure_any (n + 1) T W p _ (hN.below hI.bel) hle2
  obtain ⟨⟨y0, y1, y2⟩, ⟨z1, z2⟩, f1, f2⟩ := hI.cells
  have hKb := H_ fun (w' : World) (hb : Below W.heap.size W w') => hI.below hb
  have hKd := H_ fun (w' : World) (hb : Below W.heap.size W w') => (hb.block _ (Array.getElem?_eq_some_iff.1 hK).1).trans hK
  have hG := H_ fun (w' : World) (hb : Below W.heap.size W w') => (g.below (hI.below hb).bel).t.la
  by_cases h4 : 4000 < (enc (n + 1) T).length
  ·have hr : right T = false := by unfold right; simp; omega
   have h4' : (4000 : Int) < (enc (n + 1) T).length := by omega
   rw [hr]
   clear hrt hsm hle hI hN
   go_wp2_with fail
   refine M.mono ?_
   rintro e w' ⟨rfl, hb⟩
   have hI2 := (un hKb) w' hb
   have hK2 := (un hKd) w' hb
   have gla := (un hG) w' hb
   obtain ⟨_, ⟨u1, u2⟩, f3, f4⟩ := hI2.cells
   have hgl := lt_of_cell g.t.la
   have gla' : ∀ v, (w'.setCell ⟨w.heap.size + 1 + 1, 0, none⟩ v).cell? ⟨14, 0, none⟩ = some (sentV A.la) := fun v => by rw [World.cell?_setCell_far _ _ _ _ (by simp at hgl ⊢; omega)]; exact gla
   have HI2 := H_ hI2
   have HK2 := H_ hK2
   clear hI2 hb M hK2 hgl
   go_wp2
   refine wp_mono (Q := fun e a1 w1 => match e with | .normal => a1 = actD w.heap.size (tag T) (dat T) a (kids T).length cap (enc (n + 1) T).length (sentV A.la) /\ w1 = ((w'.setCell ⟨w.heap.size + 1 + 1, 0, none⟩ (.int .i64 0)).setCell ⟨w.heap.size + 1, 0, none⟩ (sentV A.la)).drew | _ => False) ?_ ?_
   ·go_region
    all_goals exact ⟨rfl, rfl⟩
   intro e a1 w5 hq
   cases e with
   | normal =>
    obtain ⟨rfl, hw5⟩ := hq
    have hI5 : InvC w (tag T) (dat T) a (kids T).length cap (sentV A.la) 0 w5 := by
     rw [hw5]
     exact (((un HI2).setAt 0).setWhy (sentV A.la)).ext (fun _ _ => rfl) ⟨rfl, rfl, rfl⟩ (Nat.le_refl _)
    have hK5 : w5.heap[w.heap.size + 4]? = some (.deferred (some [])) := by
     rw [hw5]
     show ((w'.setCell ⟨w.heap.size + 1 + 1, 0, none⟩ (.int .i64 0)).setCell ⟨w.heap.size + 1, 0, none⟩ (sentV A.la)).heap[w.heap.size + 4]? = _
     rw [Below.heap_setCell _ _ _ _ (by show w.heap.size + 4 ≠ w.heap.size + 1; omega), Below.heap_setCell _ _ _ _ (by show w.heap.size + 4 ≠ w.heap.size + 1 + 1; omega)]
     exact un HK2
    clear hw5 gla gla' u1 u2 f3 f4
    obtain ⟨_, ⟨u1, u2⟩, _, _⟩ := hI5.cells
    have HI5 := H_ hI5
    have HK5 := H_ hK5
    clear hI5 hK5
    go_wp2
    refine ⟨by simp, .inl ⟨_, _, rfl, run_takeDeferred (un HK5), ?_⟩⟩
    refine ⟨_, results_tmp rfl _ _ _, below_putNew (un HI5).bel (by omega) _, ?_⟩
    rw [hr]
    exact ⟨_, rfl, 0, _, rfl, .inr ⟨_, rfl, .inr (.inr (.inr ⟨.inr (.inr rfl), rfl⟩))⟩⟩
   | _ => exact hq.elim
  ·have hr : right T = true := by unfold right; simp [hrt]; omega
   have h4' : ¬ (4000 : Int) < (enc (n + 1) T).length := by omega
   rw [hr]
   clear hrt hsm hle hI hN
   go_wp2_with fail
   refine M.mono ?_
   rintro e w' ⟨rfl, hb⟩
   have hI2 := (un hKb) w' hb
   have hK2 := (un hKd) w' hb
   obtain ⟨_, ⟨u1, u2⟩, _, _⟩ := hI2.cells
   have HI2 := H_ hI2
   clear hI2 hb M
   have HK2 := H_ hK2
   clear hK2
   go_wp2
   refine ⟨by simp, .inl ⟨_, _, rfl, run_takeDeferred (un HK2), ?_⟩⟩
   refine ⟨_, results_tmp rfl _ _ _, below_putNew (un HI2).bel (by omega) _, ?_⟩
   rw [hr]
   rfl
 case stop =>
  rintro cd c W hno ⟨rfl, ad, c', had, hI⟩ hK
  rw [hz] at hK
  have hr : right T = false := by
   have := okT_right (n + 1) T
   rw [hno] at this
   unfold right
   rw [<- this]
   rfl
  obtain ⟨_, ⟨u1, u2⟩, _, _⟩ := hI.cells
  have HI := H_ hI
  have HK := H_ hK
  clear hI hK
  refine wpIn_exit ?_
  go_wp2
  refine ⟨by simp, .inl ⟨_, _, rfl, run_takeDeferred ((congrArg (fun x => W.heap[x]?) hz).trans (un HK)), ?_⟩⟩
  refine ⟨_, results_tmp rfl _ _ _, below_putNew (un HI).bel (by omega) _, ?_⟩
  rw [hr]
  exact ⟨_, rfl, c', _, rfl, .inr ⟨_, rfl, .inr (.inr (.inr ⟨had.imp id .inl, rfl⟩))⟩⟩
end Go.Proofs.YtmenllnokgjdlaaGreatDoor
/-
 What tlv.read answers. Conditions: the text is at most 9000 bytes long; the package-level variables hold what the program's text lays.
-/
namespace Tv
def decT (l : List UInt8) (p : Int) : Except Int (Tr 13 × Nat) :=
 if 0 <= p /\ p <= l.length then
  match readT l 12 p.toNat l.length 0 with
  | .error e => .error e
  | .ok (T, nx, _) => if right T = true then .ok (T, nx) else .error 21
 else .error 10
end Tv
namespace Go.Proofs.YtmenllnokgjdlaaGreatDoor
open Go.RowKit Tv T Go.Shelf
def ReadPost (A : Ads) (w : World) (r : Except Int (Tr 13 × Nat)) (e : Ending) (w' : World) : Prop :=
 Below w.heap.size w w' /\ match r with
  | .error E => ∃ v, e = .returned (.tuple #[zeroN, .int .i64 0, v]) /\ IsErr A v E
  | .ok (T, nx) => ∃ v, e = .returned (.tuple #[v, .int .i64 nx, .nilIface]) /\ Node 13 w' (fun b => w.heap.size <= b) v T
abbrev twoR (w : World) (s : ByteArray) : World := (w.alloc (.cells #[.int .i64 0, .string ⟨#[]⟩, .slice none 0 0] 28)).alloc (.cells #[.string s, .int .i64 0] 157)
theorem set3 {B b : Nat} {a w : World} (h : Below B a w) (hb : B <= b) (x y z : Value) : Below B a (((w.setCell ⟨b, 0, none⟩ x).setCell ⟨b, 1, none⟩ y).setCell ⟨b, 2, none⟩ z).drew :=
 have := ((h.setCell (p := ⟨b, 0, none⟩) hb x).setCell (p := ⟨b, 1, none⟩) hb y).setCell (p := ⟨b, 2, none⟩) hb z
 ⟨this.os, this.tape, this.output, this.size, this.block⟩
theorem set3n {B b : Nat} {a w : World} (h : Below B a w) (hb : B <= b) (x y z : Value) : Below B a (((w.setCell ⟨b, 0, none⟩ x).setCell ⟨b, 1, none⟩ y).setCell ⟨b, 2, none⟩ z) :=
 ((h.setCell (p := ⟨b, 0, none⟩) hb x).setCell (p := ⟨b, 1, none⟩) hb y).setCell (p := ⟨b, 2, none⟩) hb z
theorem set3_node {n b : Nat} {p : Nat -> Prop} {w : World} {v : Value} {T : Tr n} (h : Node n w p v T) (hb : ¬ p b) (x y z : Value) : Node n (((w.setCell ⟨b, 0, none⟩ x).setCell ⟨b, 1, none⟩ y).setCell ⟨b, 2, none⟩ z) p v T :=
 h.of fun k hk _ => by
  have hne : k ≠ b := fun e => hb (e ▸ hk)
  rw [Below.heap_setCell _ _ _ _ hne, Below.heap_setCell _ _ _ _ hne, Below.heap_setCell _ _ _ _ hne]
theorem twoR_0 (w : World) (s : ByteArray) : (twoR w s).heap[w.heap.size]? = some (.cells #[.int .i64 0, .string ⟨#[]⟩, .slice none 0 0] 28 (0, 0)) := by
 rw [Below.heap_alloc _ _ _ (by simp)]; exact World.alloc_heap_new w _
theorem twoR_1 (w : World) (s : ByteArray) : TRd (w.heap.size + 1) s 0 (twoR w s) := by
 have h : (twoR w s).heap[w.heap.size + 1]? = some (.cells #[.string s, .int .i64 0] 157 (0, 0)) := by
  have := World.alloc_heap_new (w.alloc (.cells #[.int .i64 0, .string ⟨#[]⟩, .slice none 0 0] 28)) (.cells #[.string s, .int .i64 0] 157)
  simpa using this
 generalize twoR w s = W at *
 refine ⟨?_, ?_, ?_⟩ <;> simp [World.cell?, World.frozen?, h]
theorem read_any (s : ByteArray) (p : Int) (A : Ads) (aS aF : Addr) (w : World) (g : Gl A aS aF w) (hs : s.size <= 9000) :
  Calls Tryz.prog 64 #[.string s, .int .i64 p] w (ReadPost A w (decT s.data.toList p)) := by
 have hl : s.data.toList.length = s.size := Array.length_toList
 have hbt : Below w.heap.size w (twoR w s) := ((Below.refl _ _).alloc (Nat.le_refl _) _).alloc (by simp) _
 have g2 := g.below hbt
 have hP := place_any s p (twoR w s)
 by_cases hp : 0 <= p /\ p <= s.size
 ·rw [decide_eq_true hp] at hP
  obtain ⟨hp0, hp1⟩ := hp
  obtain ⟨p, rfl⟩ : ∃ n : Nat, p = n := ⟨p.toNat, by omega⟩
  have hr : decT s.data.toList p = match readT s.data.toList 12 p s.size 0 with | .error e => .error e | .ok (T, nx, _) => if right T = true then .ok (T, nx) else .error 21 := by
   unfold decT; rw [if_pos (by rw [hl]; exact ⟨hp0, hp1⟩), Int.toNat_natCast, hl]
  have HT := H_ fun w1 (h : Below (twoR w s).heap.size (twoR w s) w1) => by
   have := tree_any (w.heap.size + 1) s A aS aF w g (by omega) hs 12 p s.size 0 w1 ((twoR_1 w s).below h (by simp)) (hbt.trans (h.mono hbt.size)) (by omega) (by omega) (Nat.le_refl _) (Nat.le_refl _)
   rw [show (13 - ((12 : Nat) : Int)) = 1 by omega] at this
   exact this
  have Hr := H_ hr
  clear hr
  go_enter Tryz.func64, Tryz.ntmps64
  go_wp2_with (first | (go_at_call 98; refine hP.mono ?_; rintro e w' ⟨rfl, hb⟩) | (go_at_call 99; refine ((un HT) w' hb).mono ?_))
  rintro e w2 ⟨hb2, h2⟩
  have hzw : w.heap.size + 2 <= w'.heap.size := by have := hb.size; simp at this; omega
  have hq0 : w2.heap[w.heap.size]? = some (.cells #[.int .i64 0, .string ⟨#[]⟩, .slice none 0 0] 28 (0, 0)) := (hb2.block _ (by omega) (by omega)).trans ((hb.block _ (by simp; omega)).trans (twoR_0 w s))
  have hbb : Below w.heap.size w w2 := (hbt.trans (hb.mono hbt.size)).trans (hb2.below (by omega) (by omega))
  have hz2 : w.heap.size + 2 <= w2.heap.size := Nat.le_trans hzw hb2.size
  have q3 := H_ fun o => cells3 ((Below.heap_alloc w2 o w.heap.size (by omega)).trans hq0)
  have q2 := H_ hq0
  cases hrd : readT s.data.toList 12 p s.size 0 with
  | error E =>
   rw [hrd] at h2
   have hE : decT s.data.toList p = .error E := by rw [un Hr, hrd]
   obtain ⟨_, rfl, kk, u, rfl, hw⟩ := h2
   obtain ⟨⟨c0, c1, c2⟩, r0, r1, r2⟩ := (un q3) (.cells #[.int .i64 0, .string ⟨#[]⟩, .slice none 0 0] 28)
   obtain ⟨T0, v0, rfl⟩ := hw.iface
   have Hw := H_ hw
   have HE := H_ hE
   have Hb := H_ (hbb.alloc (o := .cells #[.int .i64 0, .string ⟨#[]⟩, .slice none 0 0] 28) hbb.size)
   clear hrd hw hE hb2 hb hbb hq0 HT Hr hP hbt g g2
   go_wp2_with fail
   refine bodyPost_ret (v := .tuple #[zeroN, .int .i64 0, .iface 97 (.agg #[.int .i64 kk, .iface T0 v0])]) (by simp [results, Tryz.results64, go_sem, c0, c1, c2]) rfl ?_
   unfold ReadPost
   rw [un HE]
   exact ⟨set3n (un Hb) (Nat.le_refl _) _ _ _, _, rfl, _, _, rfl, un Hw⟩
  | ok r =>
   obtain ⟨T, nx, c'⟩ := r
   rw [hrd] at h2
   obtain ⟨v, rfl, hN, _⟩ := h2
   obtain ⟨g0, off, cap, a, rfl, hd, hk, hks⟩ := kidsAt hN
   have hC := check_any 13 T A aS aF (w2.alloc (.cells #[.int .i64 (tag T), .string (dat T), .slice a (kids T).length cap] 28)) _ _ (g.below (hbb.alloc hbb.size _)) (hN.below ((Below.refl _ _).alloc (Nat.le_refl _) _)) (by omega)
   have hbx := (hbb.alloc (o := .cells #[.int .i64 (tag T), .string (dat T), .slice a (kids T).length cap] 28) hbb.size)
   have HC := H_ hC
   have HN := H_ hN
   cases hrt : right T
   ·have hE : decT s.data.toList p = .error 21 := by rw [un Hr, hrd]; simp [hrt]
    have Hrt := H_ hrt
    have HE := H_ hE
    have Hb := H_ hbx
    clear hrd hE hb2 hb hbb hbx HT Hr hP hbt g g2 hN hC hrt hks
    go_wp2_with fail
    refine (un HC).mono ?_
    rintro e w3 ⟨hb3, h3⟩
    rw [un Hrt, if_neg (by simp)] at h3
    obtain ⟨_, rfl, kk, u, rfl, hw⟩ := h3
    obtain ⟨T0, v0, rfl⟩ := hw.iface
    obtain ⟨⟨c0, c1, c2⟩, r0, r1, r2⟩ := cells3 ((hb3.block _ (by simp; omega)).trans ((Below.heap_alloc w2 _ w.heap.size (by omega)).trans hq0))
    have Hw := H_ hw
    have Hb3 := H_ ((un Hb).trans (hb3.mono (un Hb).size))
    clear hw hb3 hq0 HC q3 q2
    go_wp2_with fail
    refine bodyPost_ret (v := .tuple #[zeroN, .int .i64 0, .iface 97 (.agg #[.int .i64 kk, .iface T0 v0])]) (by simp [results, Tryz.results64, go_sem, c0, c1, c2]) rfl ?_
    unfold ReadPost
    rw [un HE]
    exact ⟨set3n (un Hb3) (Nat.le_refl _) _ _ _, _, rfl, _, _, rfl, un Hw⟩
   ·have hE : decT s.data.toList p = .ok (T, nx) := by rw [un Hr, hrd]; simp [hrt]
    have Hrt := H_ hrt
    have HE := H_ hE
    have Hb := H_ hbx
    clear hrd hE hb2 hb hbb hbx HT Hr hP hbt g g2 hN hC hrt hks
    go_wp2_with fail
    refine (un HC).mono ?_
    rintro e w3 ⟨hb3, h3⟩
    rw [un Hrt, if_pos rfl] at h3
    obtain rfl := h3
    obtain ⟨⟨c0, c1, c2⟩, r0, r1, r2⟩ := cells3 ((hb3.block _ (by simp; omega)).trans ((Below.heap_alloc w2 _ w.heap.size (by omega)).trans hq0))
    obtain ⟨⟨b0, b1, b2⟩, _⟩ := cells3 ((hb3.block w2.heap.size (by simp)).trans (World.alloc_heap_new w2 _))
    have Hb3 := H_ ((un Hb).trans (hb3.mono (un Hb).size))
    have HN3 := H_ (((un HN).below ((Below.refl _ _).alloc (Nat.le_refl _) _)).below hb3)
    clear hb3 hq0 HC q3 q2 HN Hb
    go_wp2_with fail
    refine bodyPost_ret (v := .tuple #[.agg #[.int .i64 (tag T), .string (dat T), .slice a (kids T).length cap], .int .i64 nx, .nilIface]) (by simp [results, Tryz.results64, go_sem, c0, c1, c2]) rfl ?_
    unfold ReadPost
    rw [un HE]
    exact ⟨set3n (un Hb3) (Nat.le_refl _) _ _ _, _, rfl, (set3_node (un HN3) (by omega) _ _ _).imp fun b hb _ => by omega⟩
 ·rw [decide_eq_false hp] at hP
  have hr : decT s.data.toList p = .error 10 := by unfold decT; rw [if_neg (by rw [hl]; exact hp)]
  rw [hr]
  have hg4 := lt_of_cell g.t.sh
  have hgl := H_ fun w' (h : Below (twoR w s).heap.size (twoR w s) w') => (g2.below h).t.sh
  clear g g2 hp hr
  go_enter Tryz.func64, Tryz.ntmps64
  go_wp2_with (go_at_call 98; refine hP.mono ?_; rintro e w' ⟨rfl, hb⟩)
  have gsh := (un hgl) w' hb
  obtain ⟨⟨c0, c1, c2⟩, r0, r1, r2⟩ := cells3 ((hb.block _ (by simp; omega)).trans (twoR_0 w s))
  have hbb : Below w.heap.size w w' := hbt.trans (hb.mono hbt.size)
  have gsh' : ∀ v, (w'.setCell ⟨w.heap.size, 0, none⟩ v).cell? ⟨16, 0, none⟩ = some (sentV A.sh) := fun v => by rw [World.cell?_setCell_far _ _ _ _ (by simp at hg4 ⊢; omega)]; exact gsh
  have Hb := H_ hbb
  clear hb hbb hP hgl hbt
  go_region
  all_goals go_wp2
  all_goals refine bodyPost_ret (v := .tuple #[zeroN, .int .i64 0, .iface 97 (.agg #[.int .i64 p, .iface 350 (.pointer (some A.sh))])]) (by simp [results, Tryz.results64, go_sem, c0, c1, c2]) rfl ⟨?_, _, rfl, p, _, rfl, .inr ⟨_, rfl, .inl ⟨rfl, rfl⟩⟩⟩
  all_goals exact set3 (un Hb) (Nat.le_refl _) _ _ _
end Go.Proofs.YtmenllnokgjdlaaGreatDoor
/-
 What fber.leaf and fber.inner answer. Conditions: a text of at most 10000 bytes.
-/
namespace Go.Proofs.YtmenllnokgjdlaaGreatDoor.G
open Go Go.RowKit Go.Shelf Gp
open D (H_ un)
attribute [local go_sem] Oper.semAt_some
theorem leaf_any (t : Int) (s : ByteArray) (w : World) (hs : s.size <= 10000) : Calls Tryz.prog 78 #[.int .i64 t, .string s] w fun e w' => e = .returned (.agg #[.int .i64 t, .string s, .slice none 0 0]) /\ Below w.heap.size w w' := by
 have hb0 : Below w.heap.size w (w.alloc (.cells #[.int .i64 0, .string ⟨#[]⟩, .slice none 0 0] 28)) := (Below.refl _ _).alloc (Nat.le_refl _) _
 have HC := H_ fun W => F.clone_any s W hs
 have HB := H_ hb0
 clear hb0 hs
 go_enter Tryz.func78, Tryz.ntmps78
 go_wp2_with fail
 refine ((un HC) _).mono ?_
 rintro e w2 ⟨rfl, hb⟩
 have hq0 := (hb.block w.heap.size (by simp)).trans (World.alloc_heap_new w _)
 obtain ⟨⟨c0, c1, c2⟩, r0, r1, r2⟩ := cells3 hq0
 have Hb := H_ ((un HB).trans (hb.mono (un HB).size))
 clear hb hq0 HB HC
 go_wp2_with fail
 refine bodyPost_ret (v := .agg #[.int .i64 t, .string s, .slice none 0 0]) (by simp [results, Tryz.results78, go_sem, c0, c1, c2]) rfl ?_
 exact ⟨rfl, set3n (un Hb) (Nat.le_refl _) _ _ _⟩
theorem inner_any (t : Int) (a : Option Addr) (n c : Nat) (w : World) : Calls Tryz.prog 80 #[.int .i64 t, .slice a n c] w fun e w' => e = .returned (.agg #[.int .i64 t, .string ⟨#[]⟩, .slice a n c]) /\ Below w.heap.size w w' := by
 go_enter Tryz.func80, Tryz.ntmps80
 go_wp2_with fail
 refine bodyPost_ret (v := .agg #[.int .i64 t, .string ⟨#[]⟩, .slice a n c]) (by simp [results, Tryz.results80, go_sem]) rfl ?_
 exact ⟨rfl, (Below.refl _ _).alloc (Nat.le_refl _) _⟩
end Go.Proofs.YtmenllnokgjdlaaGreatDoor.G
