/- Several texts in one: FErrs0, FErrsI. Each says what it proves, and its conditions. -/
import Derived.Test.YtmenllnokgjdlaaGreatDoorFErrFacts
import Derived.Test.YtmenllnokgjdlaaGreatDoorG21
set_option maxRecDepth 100000
/-
 What errors.As and errors.Is answer where package filt asks them: at a sentinel, a noKind or a noValue, wrapped any number of times. Conditions: none.
-/
namespace Go.Proofs.YtmenllnokgjdlaaGreatDoor.F
open Go.RowKit Go.Extern.Stop Go.Stop Go.Extern
open D (H_ un)
abbrev sen (a : Addr) : Value := .iface 350 (.pointer (some a))
abbrev flt (k : Int) (v : Value) : Value := .iface 110 (.agg #[.int .i64 k, v])
abbrev nok (n : Int) : Value := .iface 101 (.agg #[.int .i64 n])
abbrev nov (n : Int) : Value := .iface 103 (.agg #[.int .i64 n])
def Ch : Nat -> Value -> Value -> Prop
 | 0, b, v => v = b
 | n + 1, b, v => ∃ k u, v = flt k u /\ Ch n b u
def lim (b : Bool) (x y : Nat) : Nat := if b then x else y
def NF (b : Value) : Prop := ∀ k u, b ≠ flt k u
theorem Ch.uniq {b : Value} (hb : NF b) : ∀ {n m : Nat} {v : Value}, Ch n b v -> Ch m b v -> n = m
 | 0, 0, _, _, _ => rfl
 | 0, m + 1, v, h, ⟨k, u, e, _⟩ => by subst h; exact absurd e (hb k u)
 | n + 1, 0, v, ⟨k, u, e, _⟩, h => by subst h; exact absurd e (hb k u)
 | n + 1, m + 1, v, ⟨k, u, e, h⟩, ⟨k', u', e', h'⟩ => by
  subst e
  injection e' with _ e1
  injection e1 with e2
  have e3 := congrArg Array.toList e2
  simp only [List.cons.injEq, and_true] at e3
  rw [<- e3.2] at h'
  rw [Ch.uniq hb h h']
open Classical in
noncomputable def dep (b v : Value) : Nat := if h : ∃ n, Ch n b v then h.choose else 0
theorem dep_eq {b v : Value} {n : Nat} (hb : NF b) (h : Ch n b v) : dep b v = n := by
 have he : ∃ n, Ch n b v := ⟨n, h⟩
 unfold dep
 rw [dif_pos he]
 exact Ch.uniq hb he.choose_spec h
theorem Ch.shape {b : Value} (hb : ∃ T x, b = .iface T x) : ∀ {n : Nat} {v : Value}, Ch n b v -> ∃ T x, v = .iface T x
 | 0, _, h => by subst h; exact hb
 | n + 1, _, ⟨k, u, e, _⟩ => ⟨_, _, e⟩
theorem nf_s (a : Addr) : NF (sen a) := fun k u h => by injection h with h; exact absurd h (by decide)
theorem nf_k (n : Int) : NF (nok n) := fun k u h => by injection h with h; exact absurd h (by decide)
theorem nf_v (n : Int) : NF (nov n) := fun k u h => by injection h with h; exact absurd h (by decide)
theorem lt_of_cell {w : World} {a : Addr} {v : Value} (h : w.cell? a = some v) : a.block < w.heap.size := D.lt_cell h
end Go.Proofs.YtmenllnokgjdlaaGreatDoor.F
/-
 What errors.As and errors.Is answer where package filt asks them (errors.Is). Conditions: none.
-/
namespace Go.Proofs.YtmenllnokgjdlaaGreatDoor.F
open Go.RowKit Go.Extern.Stop Go.Stop Go.Extern F.K
open D (H_ un)
theorem isY (n : Nat) (a : Addr) (v : Value) (h : Ch n (sen a) v) (w : World) :
  Calls Tryz.prog 87 #[v, sen a, .bool true] w fun e w' => e = .returned (.bool true) /\ Below w.heap.size w w' := by
 obtain ⟨i, hi, hcmp⟩ := Option.map_eq_some_iff.1 K.compS
 obtain ⟨j, hj, hjs⟩ := Option.map_eq_some_iff.1 K.sizeS
 have nW := K.noIsF
 have nE := K.noIsS
 have uW := K.unwF
 have uE := K.noUnwS
 have vE := K.noUnwsS
 have mU := K.methodUnwrap
 have heq := fun w => run_eql_iface_ptr_same (P := Tryz.prog) w a Tryz.underlying52 Tryz.underlying350 hi hcmp hj
 have hty := fun (x : Array Value) (b : Option Addr) (w : World) => run_eql_iface_types (P := Tryz.prog) 110 350 (.agg x) (.pointer b) Tryz.underlying52 (by decide) w
 have H := H_ h
 obtain ⟨vT, vx, rfl⟩ := h.shape ⟨_, _, rfl⟩
 clear h
 go_enter Tryz.func87, Tryz.ntmps87
 go_wp2
 go_loopw [0] (fun y wr => ∃ m, Hid (Ch m (sen a) y) /\ Hid (Below w.heap.size w wr)) (fun y _ => dep (sen a) y)
 case atStart => exact ⟨n, H, H_ (Below.refl _ _)⟩
 case round =>
  obtain ⟨m, hc, hb⟩ := hrel
  clear H
  cases m with
  | zero =>
   obtain rfl := un hc
   clear hc
   go_wp2
   go_ret
   exact ⟨rfl, un hb⟩
  | succ m =>
   obtain ⟨k, u, rfl, hu⟩ := un hc
   have Hd := H_ (dep_eq (nf_s a) (un hc))
   obtain ⟨uT, ux, rfl⟩ := hu.shape ⟨_, _, rfl⟩
   have Hd2 := H_ (dep_eq (nf_s a) hu)
   have HU := H_ hu
   clear hc hu
   go_wp2
   go_roundw
   case rel => exact ⟨m, HU, H_ ((un hb).alloc (un hb).size _)⟩
   case measure =>
    have e1 := un Hd
    have e2 := un Hd2
    have e3 : dep (sen a) (.iface uT ux) < dep (sen a) (flt k (.iface uT ux)) := by omega
    exact e3
theorem IsY (n : Nat) (a : Addr) (v : Value) (h : Ch n (sen a) v) (w : World) :
  Calls Tryz.prog 55 #[v, sen a] w fun e w' => e = .returned (.bool true) /\ Below w.heap.size w w' := by
 have hext36 := @run_callFunc_extern Tryz.prog 86 _ ReflectliteType.typeOf Tryz.func86 (by kernel_rfl) (by kernel_rfl) (by kernel_rfl) (by kernel_rfl)
 obtain ⟨ext, hfind, cT⟩ := K.cmpExt
 have hext66 := @run_callFunc_extern Tryz.prog 283 _ ext Tryz.func283 (by kernel_rfl) (by kernel_rfl) (by kernel_rfl) hfind
 clear hfind
 have tT := K.typeOfS
 have mR := K.methodComparable
 have H := H_ (isY n a v h w)
 obtain ⟨vT, vx, rfl⟩ := h.shape ⟨_, _, rfl⟩
 clear h
 go_enter Tryz.func55, Tryz.ntmps55
 go_wp2_with fail
 refine (un H).mono ?_
 rintro e w1 ⟨rfl, hb⟩
 have HB := H_ hb
 clear hb H
 go_wp2
 go_ret
 exact ⟨rfl, un HB⟩
theorem isN (n : Nat) (a : Addr) (v : Value) (h : Ch n (sen a) v) (w : World) (b : Addr) (hne : a ≠ b) (hx : ∃ c t, w.heap[a.block]? = some (.cells c t (0, 0))) (hy : ∃ c t, w.heap[b.block]? = some (.cells c t (0, 0))) :
  Calls Tryz.prog 87 #[v, sen b, .bool true] w fun e w' => e = .returned (.bool false) /\ Below w.heap.size w w' := by
 obtain ⟨i, hi, hcmp⟩ := Option.map_eq_some_iff.1 K.compS
 obtain ⟨j, hj, hjs⟩ := Option.map_eq_some_iff.1 K.sizeS
 have nW := K.noIsF
 have nE := K.noIsS
 have uW := K.unwF
 have uE := K.noUnwS
 have vE := K.noUnwsS
 have mU := K.methodUnwrap
 obtain ⟨ca, ta, ha⟩ := hx
 obtain ⟨cb, tb, hb⟩ := hy
 have heq := H_ fun (w' : World) (hbw : Below w.heap.size w w') => run_eql_iface_ptr_other (P := Tryz.prog) w' Tryz.underlying52 Tryz.underlying350 hi hcmp hj (by rw [hjs]; decide) hne ((hbw.block _ (Array.getElem?_eq_some_iff.1 ha).1).trans ha) ((hbw.block _ (Array.getElem?_eq_some_iff.1 hb).1).trans hb)
 clear ha hb
 have hty := fun (x : Array Value) (b : Option Addr) (w : World) => run_eql_iface_types (P := Tryz.prog) 110 350 (.agg x) (.pointer b) Tryz.underlying52 (by decide) w
 have H := H_ h
 obtain ⟨vT, vx, rfl⟩ := h.shape ⟨_, _, rfl⟩
 clear h
 go_enter Tryz.func87, Tryz.ntmps87
 go_wp2
 go_loopw [0] (fun y wr => ∃ m, Hid (Ch m (sen a) y) /\ Hid (Below w.heap.size w wr)) (fun y _ => dep (sen a) y)
 case atStart => exact ⟨n, H, H_ (Below.refl _ _)⟩
 case round =>
  obtain ⟨m, hc, hb⟩ := hrel
  clear H
  cases m with
  | zero =>
   obtain rfl := un hc
   clear hc
   have heq2 := (un heq) wr (un hb)
   go_wp2
   go_ret
   exact ⟨rfl, un hb⟩
  | succ m =>
   obtain ⟨k, u, rfl, hu⟩ := un hc
   have Hd := H_ (dep_eq (nf_s a) (un hc))
   obtain ⟨uT, ux, rfl⟩ := hu.shape ⟨_, _, rfl⟩
   have Hd2 := H_ (dep_eq (nf_s a) hu)
   have HU := H_ hu
   clear hc hu
   go_wp2
   go_roundw
   case rel => exact ⟨m, HU, H_ ((un hb).alloc (un hb).size _)⟩
   case measure =>
    have e1 := un Hd
    have e2 := un Hd2
    have e3 : dep (sen a) (.iface uT ux) < dep (sen a) (flt k (.iface uT ux)) := by omega
    exact e3
theorem IsN (n : Nat) (a : Addr) (v : Value) (h : Ch n (sen a) v) (w : World) (b : Addr) (hne : a ≠ b) (hx : ∃ c t, w.heap[a.block]? = some (.cells c t (0, 0))) (hy : ∃ c t, w.heap[b.block]? = some (.cells c t (0, 0))) :
  Calls Tryz.prog 55 #[v, sen b] w fun e w' => e = .returned (.bool false) /\ Below w.heap.size w w' := by
 have hext36 := @run_callFunc_extern Tryz.prog 86 _ ReflectliteType.typeOf Tryz.func86 (by kernel_rfl) (by kernel_rfl) (by kernel_rfl) (by kernel_rfl)
 obtain ⟨ext, hfind, cT⟩ := K.cmpExt
 have hext66 := @run_callFunc_extern Tryz.prog 283 _ ext Tryz.func283 (by kernel_rfl) (by kernel_rfl) (by kernel_rfl) hfind
 clear hfind
 have tT := K.typeOfS
 have mR := K.methodComparable
 have H := H_ (isN n a v h w b hne hx hy)
 obtain ⟨vT, vx, rfl⟩ := h.shape ⟨_, _, rfl⟩
 clear h hx hy
 go_enter Tryz.func55, Tryz.ntmps55
 go_wp2_with fail
 refine (un H).mono ?_
 rintro e w1 ⟨rfl, hb⟩
 have HB := H_ hb
 clear hb H
 go_wp2
 go_ret
 exact ⟨rfl, un HB⟩
theorem Is_nil (b : Addr) (w : World) : Calls Tryz.prog 55 #[.nilIface, .iface 350 (.pointer (some b))] w fun e w' => e = .returned (.bool false) /\ w' = w := by
 have hn := fun w => run_eql_iface_nil_left (P := Tryz.prog) w 350 (.pointer (some b)) Tryz.underlying52
 go_enter Tryz.func55, Tryz.ntmps55
 go_wp2
 go_ret
 exact ⟨rfl, rfl⟩
end Go.Proofs.YtmenllnokgjdlaaGreatDoor.F
