/-
  The tests that the law file of package tlv shows: shown answers true. Conditions: the package-level variables hold what the program's text lays.
-/
import Derived.Test.YthibodkemnkjeaaDoorTDoor
namespace Go.Proofs.YthibodkemnkjeaaDoor
open Go.RowKit Tv T Go.Shelf

def shA {n : Nat} : Tr (n + 1) := mk 2 ⟨#[5]⟩ []
def shB {n : Nat} : Tr (n + 1) := mk 4 ⟨#[104, 105]⟩ []
def sh1 : Tr 13 := mk 48 ⟨#[]⟩ [shA, shB]
def sh2 : Tr 13 := mk 4 ⟨#[]⟩ [shA, shB]

theorem sh_enc1 : encT sh1 = .tuple #[.string ⟨#[48, 7, 2, 1, 5, 4, 2, 104, 105]⟩, .int .i64 0] := by kernel_rfl
theorem sh_enc2 : encT sh2 = .tuple #[.string ⟨#[]⟩, .int .i64 21] := by kernel_rfl
theorem sh_whole1 : wholeT (ByteArray.data ⟨#[48, 129, 7, 2, 1, 5, 4, 2, 104, 105]⟩).toList = .ok sh1 := by kernel_rfl
theorem sh_dec : decT (ByteArray.data ⟨#[31, 0]⟩).toList 0 = .error 20 := by kernel_rfl
theorem sh_whole2 : wholeT (ByteArray.data ⟨#[48, 2, 4, 1, 97]⟩).toList = .error 10 := by kernel_rfl
theorem sh_same : same 13 sh1 sh1 = true := by kernel_rfl

/-- the cells of the two trees. -/
abbrev shC : Array Value := #[.int .i64 2, .string ⟨#[5]⟩, .slice none 0 0, .int .i64 4, .string ⟨#[104, 105]⟩, .slice none 0 0]
theorem sh_node (W : World) (b : Nat) (t : Int) (h : W.heap[b]? = some (.cells shC 24 (0, 0))) : Node 13 W (fun _ => True) (.agg #[.int .i64 t, .string ⟨#[]⟩, .slice (some ⟨b, 0, none⟩) 2 2]) (mk t ⟨#[]⟩ [shA, shB]) := by
  refine ⟨_, 2, rfl, Nat.zero_le _, by simp, .inr ⟨b, 0, rfl, trivial, fun i x hx => ?_⟩⟩
  have hc : ∀ j, W.cell? ⟨b, j, none⟩ = shC[j]? := fun j => by simp [World.cell?, h]
  match i, hx with
  | 0, hx =>
    obtain rfl := Option.some.inj hx
    exact ⟨_, _, _, (hc _).trans rfl, (hc _).trans rfl, (hc _).trans rfl, leaf_node 11 W _ 2 ⟨#[5]⟩ (by simp [ByteArray.size])⟩
  | 1, hx =>
    obtain rfl := Option.some.inj hx
    exact ⟨_, _, _, (hc _).trans rfl, (hc _).trans rfl, (hc _).trans rfl, leaf_node 11 W _ 4 ⟨#[104, 105]⟩ (by simp [ByteArray.size])⟩

theorem Node.agg {n : Nat} {W : World} {p : Nat → Prop} {v : Value} {T : Tr n} (h : Node n W p v T) : ∃ t d a len cap, v = .agg #[.int .i64 t, .string d, .slice a len cap] := by
  cases n with
  | zero => exact Empty.elim T
  | succ n => obtain ⟨g0, off, cap, a, rfl, _⟩ := kidsAt h; exact ⟨_, _, _, _, _, rfl⟩
/-- the two blocks of shown's tree, in a world that keeps what lay. -/
structure Sh (w W : World) : Prop where
  bel : Below w.heap.size w W
  b0 : W.heap[w.heap.size]? = some (.cells shC 24 (0, 0))
  b1 : W.heap[w.heap.size + 1]? = some (.cells #[.int .i64 48, .string ⟨#[]⟩, .slice (some ⟨w.heap.size, 0, none⟩) 2 2] 24 (0, 0))
theorem Sh.next {w W V : World} (h : Sh w W) (hb : Below W.heap.size W V) : Sh w V :=
  ⟨h.bel.trans (hb.mono h.bel.size), (hb.block _ (Array.getElem?_eq_some_iff.1 h.b0).1).trans h.b0, (hb.block _ (Array.getElem?_eq_some_iff.1 h.b1).1).trans h.b1⟩
theorem Sh.alloc {w W : World} (h : Sh w W) (o : Obj) : Sh w (W.alloc o) := h.next ((Below.refl _ _).alloc (Nat.le_refl _) _)
theorem Sh.first (w : World) : Sh w ((w.alloc (.cells shC 24)).alloc (.cells #[.int .i64 48, .string ⟨#[]⟩, .slice (some ⟨w.heap.size, 0, none⟩) 2 2] 24)) := by
  refine ⟨((Below.refl _ _).alloc (Nat.le_refl _) _).alloc (by simp) _, (Below.heap_alloc _ _ _ (by simp)).trans (World.alloc_heap_new w _), ?_⟩
  have := World.alloc_heap_new (w.alloc (.cells shC 24)) (.cells #[.int .i64 48, .string ⟨#[]⟩, .slice (some ⟨w.heap.size, 0, none⟩) 2 2] 24)
  rw [World.size_alloc] at this
  exact this

set_option maxRecDepth 100000 in
set_option maxHeartbeats 2000000 in
theorem shown_any (A : Ads) (aS aF : Addr) (w : World) (g : Gl A aS aF w) :
    Calls Tryd.prog 12 #[] w fun e w' => e = .returned (.bool true) ∧ Below w.heap.size w w' := by
  have G := hide fun w' (h : Sh w w') => g.below h.bel
  clear g
  go_enter Tryd.func12, Tryd.ntmps12
  go_wp2_with fail
  have h1 := Sh.first w
  have H1 := hide h1
  refine (encode_any 13 sh1 A aS aF _ _ _ ((unhide G) _ h1) (sh_node _ _ 48 h1.b0) (by omega)).mono ?_
  rintro e w1 ⟨rfl, hb1⟩
  rw [sh_enc1]
  have H2 := hide ((unhide H1).next hb1)
  clear hb1 h1 H1
  go_wp2_with fail
  refine (whole_any _ A aS aF _ ((unhide G) _ (unhide H2)) (by decide)).mono ?_
  rw [sh_whole1]
  rintro e w2 ⟨hb2, v2, rfl, hN2⟩
  obtain ⟨vt, vd, va, vl, vc, rfl⟩ := hN2.agg
  have H3 := hide ((unhide H2).next hb2)
  have HN := hide hN2
  clear hb2 hN2 H2
  go_wp2_with fail
  have h4 := (unhide H3).alloc (.cells #[.int .i64 vt, .string vd, .slice va vl vc] 24)
  have hq := World.alloc_heap_new w2 (.cells #[.int .i64 vt, .string vd, .slice va vl vc] 24)
  have hN4 := (unhide HN).below ((Below.refl _ _).alloc (Nat.le_refl _) (.cells #[.int .i64 vt, .string vd, .slice va vl vc] 24))
  have hlt : w2.heap.size < (w2.alloc (.cells #[.int .i64 vt, .string vd, .slice va vl vc] 24)).heap.size := by simp
  generalize w2.alloc (.cells #[.int .i64 vt, .string vd, .slice va vl vc] 24) = w4 at *
  refine (decodeT_any _ 0 A aS aF _ ((unhide G) _ h4) (by decide)).mono ?_
  rw [sh_dec]
  rintro e w5 ⟨hb5, rfl⟩
  have h5 := (h4.next hb5).alloc (.cells #[.int .i64 0, .string ⟨#[]⟩, .slice none 0 0] 24)
  have hb6 := hb5.alloc (o := .cells #[.int .i64 0, .string ⟨#[]⟩, .slice none 0 0] 24) hb5.size
  have hN5 := hide (hN4.below hb6)
  have hq5 := hide ((hb6.block _ hlt).trans hq)
  have hlt5 : w2.heap.size < (w5.alloc (.cells #[.int .i64 0, .string ⟨#[]⟩, .slice none 0 0] 24)).heap.size := Nat.lt_of_lt_of_le hlt hb6.size
  obtain ⟨y0, y1, y2⟩ := (cells3 h5.b1).1
  have H5 := hide h5
  clear hb5 hb6 h5 h4 hq hN4 H3 HN
  go_wp2_with fail
  clear y0 y1 y2
  have h5 := unhide H5
  generalize w5.alloc (.cells #[.int .i64 0, .string ⟨#[]⟩, .slice none 0 0] 24) = w6 at *
  refine (encode_any 13 sh2 A aS aF _ _ _ ((unhide G) _ h5) (sh_node _ _ 4 h5.b0) (by omega)).mono ?_
  rintro e w7 ⟨rfl, hb7⟩
  rw [sh_enc2]
  have H7 := hide (h5.next hb7)
  have hN7 := hide ((unhide hN5).below hb7)
  have hq7 := hide ((hb7.block _ hlt5).trans (unhide hq5))
  have hlt7 : w2.heap.size < w7.heap.size := Nat.lt_of_lt_of_le hlt5 hb7.size
  clear hb7 h5 H5 hN5 hq5
  go_wp2_with fail
  refine (whole_any _ A aS aF _ ((unhide G) _ (unhide H7)) (by decide)).mono ?_
  rw [sh_whole2]
  rintro e w8 ⟨hb8, rfl⟩
  have h8 := ((unhide H7).next hb8).alloc (.cells #[.int .i64 0, .string ⟨#[]⟩, .slice none 0 0] 24)
  have hb9 := hb8.alloc (o := .cells #[.int .i64 0, .string ⟨#[]⟩, .slice none 0 0] 24) hb8.size
  have hN9 := (unhide hN7).below hb9
  obtain ⟨y0, y1, y2⟩ := (cells3 h8.b1).1
  obtain ⟨z0, z1, z2⟩ := (cells3 ((hb9.block _ hlt7).trans (unhide hq7))).1
  have HS := hide (same_any 13 sh1 sh1 _ _ _ _ _ (sh_node _ _ 48 h8.b0) hN9)
  have H8 := hide h8
  clear hb8 hb9 hN9 h8 hN7 hq7 H7
  go_wp2_with fail
  refine (unhide HS).mono ?_
  rintro e w9 ⟨rfl, hb9⟩
  rw [sh_same]
  have H9 := hide ((unhide H8).next hb9)
  clear hb9 HS H8 y0 y1 y2 z0 z1 z2
  go_wp2
  go_ret
  exact ⟨rfl, (unhide H9).bel⟩
end Go.Proofs.YthibodkemnkjeaaDoor
