/- Several texts in one: DPure, CErrFacts. Each says what it proves, and its conditions. -/
import Derived.Lib.Join
import Derived.Lib.IndexMore
import Derived.Test.YtjhnblgamodekaaGreatDoorProg
import Derived.WalkKit
import Derived.Stop.Asserts
import Derived.RowKitTokens
/-
 Names, plainly: types, cutting, joining, what is right; what the document says of layer 7, and what follows. Conditions: none.
-/
namespace Go.Proofs.YtjhnblgamodekaaGreatDoor.Dp
def ltr (x : UInt8) : Bool := (decide (65 <= x.toNat) && decide (x.toNat <= 90)) || (decide (97 <= x.toNat) && decide (x.toNat <= 122))
def dig (x : UInt8) : Bool := decide (48 <= x.toNat) && decide (x.toNat <= 57)
def fit (x : UInt8) : Bool := dig x || x == 45 || ltr x
def word : List UInt8 -> Bool
 | [] => false
 | x :: r => ltr x && r.all fit
def num : List UInt8 -> Bool
 | [] => false
 | [x] => dig x
 | x :: r => dig x && x != 48 && r.all dig
def sp (c : UInt8) : Bool -> List UInt8 -> List UInt8 -> List (List UInt8)
 | _, a, [] => [a]
 | true, a, x :: r => sp c false (a ++ [x]) r
 | false, a, x :: r => if x = c then a :: sp c false [] r else sp c (x == 92) (a ++ [x]) r
abbrev pcs (c : UInt8) (l : List UInt8) : List (List UInt8) := sp c false [] l
def nums (l : List UInt8) : Bool := decide (2 <= (pcs 46 l).length) && (pcs 46 l).all num
def tyL (l : List UInt8) : Bool := decide (l.length <= 20) && (word l || nums l)
def isTy (s : ByteArray) : Bool := tyL s.data.toList
theorem sp_ne (c : UInt8) : ∀ (l : List UInt8) (e : Bool) (a : List UInt8), sp c e a l ≠ []
 | [], e, a => by cases e <;> simp [sp]
 | x :: r, true, a => by rw [sp]; exact sp_ne c r false _
 | x :: r, false, a => by
  rw [sp]
  split
  ·simp
  ·exact sp_ne c r _ _
def jn (c : UInt8) (xs : List (List UInt8)) : List UInt8 := Go.Lib.join xs [c]
theorem jn_nil (c : UInt8) : jn c [] = [] := rfl
theorem jn_one (c : UInt8) (x : List UInt8) : jn c [x] = x := Go.Lib.join_one x [c]
theorem jn_cons (c : UInt8) (x y : List UInt8) (r : List (List UInt8)) : jn c (x :: y :: r) = x ++ c :: jn c (y :: r) := by
 unfold jn
 rw [Go.Lib.join_cons, Go.Lib.join_cons]
 simp [Go.Lib.joinTail]
theorem jn_len (c : UInt8) (n : Nat) : ∀ xs : List (List UInt8), (∀ x ∈ xs, x.length <= n) -> (jn c xs).length <= xs.length * (n + 1)
 | [], _ => by simp [jn_nil]
 | [x], h => by rw [jn_one]; have := h x (by simp); simp; omega
 | x :: y :: r, h => by
  rw [jn_cons]
  have h1 := jn_len c n (y :: r) (fun z hz => h z (by simp [hz]))
  have h2 := h x (by simp)
  simp only [List.length_append, List.length_cons] at h1 ⊢
  have e : (r.length + 1 + 1) * (n + 1) = (r.length + 1) * (n + 1) + (n + 1) := by rw [Nat.succ_mul]
  omega
def mp {α : Type} (f : List UInt8 -> Option α) : List (List UInt8) -> Option (List α)
 | [] => some []
 | x :: r => match f x, mp f r with
  | some a, some b => some (a :: b)
  | _, _ => none
theorem mp_app {α : Type} (f : List UInt8 -> Option α) : ∀ (xs ys : List (List UInt8)), mp f (xs ++ ys) = match mp f xs, mp f ys with
  | some a, some b => some (a ++ b)
  | _, _ => none
 | [], ys => by
  rw [List.nil_append, mp]
  cases mp f ys <;> rfl
 | x :: xs, ys => by
  rw [List.cons_append, mp, mp_app f xs ys, mp]
  cases f x with
  | none => simp
  | some a =>
   cases mp f xs with
   | none => simp
   | some b => cases mp f ys <;> simp
theorem mp_len {α : Type} (f : List UInt8 -> Option α) : ∀ (xs : List (List UInt8)) (l : List α), mp f xs = some l -> l.length = xs.length
 | [], l, h => by rw [mp] at h; cases h; rfl
 | x :: xs, l, h => by
  rw [mp] at h
  cases h1 : f x with
  | none => rw [h1] at h; cases h
  | some a =>
   cases h2 : mp f xs with
   | none => rw [h1, h2] at h; cases h
   | some b =>
    rw [h1, h2] at h
    cases h
    simp [mp_len f xs b h2]
theorem mp_map {α : Type} (f : List UInt8 -> Option α) (g : α -> List UInt8) : ∀ (l : List α), (∀ a ∈ l, f (g a) = some a) -> mp f (l.map g) = some l
 | [], _ => rfl
 | a :: l, h => by
  rw [List.map_cons, mp, h a (by simp), mp_map f g l (fun b hb => h b (by simp [hb]))]
def tyB (x : UInt8) : Bool := fit x || x == 46
theorem sp_bytes (c : UInt8) : ∀ (l : List UInt8) (e : Bool) (a : List UInt8), ∀ x ∈ l, x = c \/ ∃ q ∈ sp c e a l, x ∈ q
 | [], _, _, x, h => by cases h
 | y :: l, true, a, x, h => by
  rw [sp]
  rcases List.mem_cons.1 h with rfl | h
  ·right
   refine ⟨_, List.head_mem (sp_ne c l false (a ++ [x])), ?_⟩
   have : ∀ (l : List UInt8) (e : Bool) (a : List UInt8), ∀ z ∈ a, z ∈ (sp c e a l).head (sp_ne c l e a) := by
    intro l
    induction l with
    | nil => intro e a z hz; cases e <;> simpa [sp] using hz
    | cons w l ih =>
     intro e a z hz
     cases e with
     | true => simp only [sp]; exact ih false (a ++ [w]) z (by simp [hz])
     | false =>
      simp only [sp]
      split
      ·simpa using hz
      ·exact ih _ (a ++ [w]) z (by simp [hz])
   exact this l false (a ++ [x]) x (by simp)
  ·exact sp_bytes c l false _ x h
 | y :: l, false, a, x, h => by
  rw [sp]
  split
  ·rename_i hy
   rcases List.mem_cons.1 h with rfl | h
   ·exact .inl hy
   ·rcases sp_bytes c l false [] x h with h1 | ⟨q, h1, h2⟩
    ·exact .inl h1
    ·exact .inr ⟨q, by simp [h1], h2⟩
  ·rcases List.mem_cons.1 h with rfl | h
   ·right
    refine ⟨_, List.head_mem (sp_ne c l (x == 92) (a ++ [x])), ?_⟩
    have : ∀ (l : List UInt8) (e : Bool) (a : List UInt8), ∀ z ∈ a, z ∈ (sp c e a l).head (sp_ne c l e a) := by
     intro l
     induction l with
     | nil => intro e a z hz; cases e <;> simpa [sp] using hz
     | cons w l ih =>
      intro e a z hz
      cases e with
      | true => simp only [sp]; exact ih false (a ++ [w]) z (by simp [hz])
      | false =>
       simp only [sp]
       split
       ·simpa using hz
       ·exact ih _ (a ++ [w]) z (by simp [hz])
    exact this l (x == 92) (a ++ [x]) x (by simp)
   ·exact sp_bytes c l _ _ x h
theorem num_dig {l : List UInt8} (h : num l = true) : ∀ x ∈ l, dig x = true := by
 match l, h with
 | [x], h => intro y hy; simp at hy; subst hy; exact h
 | x :: y :: r, h =>
  rw [num] at h
  ·simp only [Bool.and_eq_true, List.all_eq_true] at h
   intro z hz
   rcases List.mem_cons.1 hz with rfl | hz
   ·exact h.1.1
   ·exact h.2 z hz
  ·simp
theorem ty_bytes {l : List UInt8} (h : tyL l = true) : ∀ x ∈ l, tyB x = true := by
 unfold tyL at h
 rw [Bool.and_eq_true, Bool.or_eq_true] at h
 intro x hx
 unfold tyB
 rcases h.2 with h | h
 ·cases l with
  | nil => cases hx
  | cons y r =>
   rw [word, Bool.and_eq_true, List.all_eq_true] at h
   rcases List.mem_cons.1 hx with rfl | hx
   ·simp [fit, h.1]
   ·simp [h.2 x hx]
 ·unfold nums at h
  rw [Bool.and_eq_true, List.all_eq_true] at h
  rcases sp_bytes 46 l false [] x hx with h1 | ⟨q, h1, h2⟩
  ·simp [h1]
  ·simp [fit, num_dig (h.2 q h1) x h2]
theorem ty_ne {l : List UInt8} (h : tyL l = true) : l ≠ [] := by
 rintro rfl
 revert h
 decide
end Go.Proofs.YtjhnblgamodekaaGreatDoor.Dp
/-
 Closed facts on the model's entries for reflectlite at this program's types, and on the assertions that errors.As and errors.Is make there. Conditions: none.
-/
namespace Go.Proofs.YtjhnblgamodekaaGreatDoor.C
open Go.RowKit Go.Extern.Stop Go.Stop Go.Extern
theorem vOfT (t : Addr) (w : World) : (ReflectliteValue.unpack (.iface 252 (.pointer (some t)))).run Tryz.prog w
  = .ok (.agg #[.pointer (some ⟨17, 252, none⟩), .pointer (some ⟨w.heap.size, 0, none⟩), .int .u64 150]) (w.alloc (.cells #[.pointer (some t)] 252)) := by kernel_rfl
theorem typeT (a : Addr) (w : World) : (ReflectliteValue.methodAny (ReflectliteValue.valueError "reflectlite.Value.Type" 0) (fun t _ _ _ => ReflectliteType.toType t) #[.agg #[.pointer (some ⟨17, 252, none⟩), .pointer (some a), .int .u64 150]]).run Tryz.prog w
  = .ok (.iface 121 (.agg #[.pointer (some ⟨17, 252, none⟩)])) w := by kernel_rfl
theorem methodKind (h : Value) (w : World) : (Go.method 383 121 (.agg #[h]) "Kind").run Tryz.prog w = .ok (196, h) w := by kernel_rfl
theorem kindT (w : World) : ((ReflectliteType.abiMethod fun t => (fun a : Nat => Value.int IntKind.u8 (a : Int)) <$> Rtype.kind t) #[.pointer (some ⟨17, 252, none⟩)]).run Tryz.prog w = .ok (.int .u8 22) w := by kernel_rfl
theorem kindE (w : World) : ((ReflectliteType.abiMethod fun t => (fun a : Nat => Value.int IntKind.u8 (a : Int)) <$> Rtype.kind t) #[.pointer (some ⟨17, 251, none⟩)]).run Tryz.prog w = .ok (.int .u8 25) w := by kernel_rfl
theorem run_step {α β : Type} {P : Program} {m : Sem α} {k : α -> Sem β} {w w1 : World} {a : α} {r : Result β} (h : m.run P w = .ok a w1) (h2 : (k a).run P w1 = r) : (m >>= k).run P w = r := by
 rw [Sem.run_bind, h]; exact h2
theorem partsT (a : Addr) (w : World) : (ReflectliteValue.parts (.agg #[.pointer (some ⟨17, 252, none⟩), .pointer (some a), .int .u64 150])).run Tryz.prog w = .ok (some (252, a, 150)) w := by kernel_rfl
theorem isNilT (a p : Addr) (W : World) (ha : W.cell? a = some (.pointer (some p))) :
  (ReflectliteValue.method (ReflectliteValue.valueError "reflectlite.Value.IsNil" 0) ReflectliteValue.isNil #[.agg #[.pointer (some ⟨17, 252, none⟩), .pointer (some a), .int .u64 150]]).run Tryz.prog W = .ok (.bool false) W := by
 refine run_step (partsT a W) ?_
 simp [ReflectliteValue.isNil, loadVar, isAgg, underlying, Tryz.underlying252, ha, Result.andThen]
theorem methodElem (h : Value) (w : World) : (Go.method 383 121 (.agg #[h]) "Elem").run Tryz.prog w = .ok (209, .agg #[h]) w := by kernel_rfl
theorem methodImplements (h : Value) (w : World) : (Go.method 383 121 (.agg #[h]) "Implements").run Tryz.prog w = .ok (210, .agg #[h]) w := by kernel_rfl
theorem methodAssignableTo (h : Value) (w : World) : (Go.method 383 121 (.agg #[h]) "AssignableTo").run Tryz.prog w = .ok (207, .agg #[h]) w := by kernel_rfl
theorem elemT (w : World) : (ReflectliteType.method ReflectliteType.elem #[.agg #[.pointer (some ⟨17, 252, none⟩)]]).run Tryz.prog w = .ok (.iface 121 (.agg #[.pointer (some ⟨17, 251, none⟩)])) w := by kernel_rfl
theorem implementsE (w : World) : (ReflectliteType.relation "Implements" ReflectliteType.implements_ #[.agg #[.pointer (some ⟨17, 251, none⟩)], .iface 121 (.agg #[.pointer (some ⟨17, 42, none⟩)])]).run Tryz.prog w = .ok (.bool true) w := by kernel_rfl
theorem typeOfE (v : Value) (w : World) : (ReflectliteType.typeOf #[.iface 251 v]).run Tryz.prog w = .ok (.iface 121 (.agg #[.pointer (some ⟨17, 251, none⟩)])) w := by kernel_rfl
theorem typeOfF (v : Value) (w : World) : (ReflectliteType.typeOf #[.iface 248 v]).run Tryz.prog w = .ok (.iface 121 (.agg #[.pointer (some ⟨17, 248, none⟩)])) w := by kernel_rfl
theorem typeOfS (v : Value) (w : World) : (ReflectliteType.typeOf #[.iface 254 v]).run Tryz.prog w = .ok (.iface 121 (.agg #[.pointer (some ⟨17, 254, none⟩)])) w := by kernel_rfl
theorem assignE (w : World) : (ReflectliteType.relation "AssignableTo" ReflectliteType.assignableTo #[.agg #[.pointer (some ⟨17, 251, none⟩)], .iface 121 (.agg #[.pointer (some ⟨17, 251, none⟩)])]).run Tryz.prog w = .ok (.bool true) w := by kernel_rfl
theorem assignF (w : World) : (ReflectliteType.relation "AssignableTo" ReflectliteType.assignableTo #[.agg #[.pointer (some ⟨17, 248, none⟩)], .iface 121 (.agg #[.pointer (some ⟨17, 251, none⟩)])]).run Tryz.prog w = .ok (.bool false) w := by kernel_rfl
theorem assignS (w : World) : (ReflectliteType.relation "AssignableTo" ReflectliteType.assignableTo #[.agg #[.pointer (some ⟨17, 254, none⟩)], .iface 121 (.agg #[.pointer (some ⟨17, 251, none⟩)])]).run Tryz.prog w = .ok (.bool false) w := by kernel_rfl
theorem vOfE (x : Value) (w : World) : (ReflectliteValue.unpack (.iface 251 (.agg #[x]))).run Tryz.prog w
  = .ok (.agg #[.pointer (some ⟨17, 251, none⟩), .pointer (some ⟨w.heap.size, 0, none⟩), .int .u64 153]) (w.alloc (.cells #[x] 251)) := by kernel_rfl
theorem elemOfT (w : World) : (Rtype.elem? 252).run Tryz.prog w = .ok (some 251) w := by kernel_rfl
theorem mkE (p : Addr) (w : World) : (ReflectliteValue.mk 251 p ReflectliteValue.flagAddr).run Tryz.prog w = .ok (.agg #[.pointer (some ⟨17, 251, none⟩), .pointer (some p), .int .u64 409]) w := by kernel_rfl
theorem elemVT (a p : Addr) (W : World) (ha : W.cell? a = some (.pointer (some p))) :
  (ReflectliteValue.method (ReflectliteValue.valueError "reflectlite.Value.Elem" 0) ReflectliteValue.elem #[.agg #[.pointer (some ⟨17, 252, none⟩), .pointer (some a), .int .u64 150]]).run Tryz.prog W
   = .ok (.agg #[.pointer (some ⟨17, 251, none⟩), .pointer (some p), .int .u64 409]) W := by
 refine run_step (partsT a W) ?_
 simp [ReflectliteValue.elem, loadVar, isAgg, underlying, Tryz.underlying252, ha, Result.andThen, elemOfT, mkE]
theorem partsEa (a : Addr) (w : World) : (ReflectliteValue.parts (.agg #[.pointer (some ⟨17, 251, none⟩), .pointer (some a), .int .u64 409])).run Tryz.prog w = .ok (some (251, a, 409)) w := by kernel_rfl
theorem partsE (a : Addr) (w : World) : (ReflectliteValue.parts (.agg #[.pointer (some ⟨17, 251, none⟩), .pointer (some a), .int .u64 153])).run Tryz.prog w = .ok (some (251, a, 153)) w := by kernel_rfl
theorem directE (w : World) : (Rtype.directlyAssignable 251 251).run Tryz.prog w = .ok true w := by kernel_rfl
theorem load1 (b : Addr) (x : Value) (W : World) (hb : W.cell? b = some x) : (loadCells b 1).run Tryz.prog W = .ok #[x] W := by
 have h : W.cell? (b.add 0) = some x := by simpa [Addr.add] using hb
 simp [loadCells, loadCellsFrom, h, Result.andThen]
theorem setE (ta b : Addr) (n : Int) (old : Value) (W : World) (hb : W.cell? b = some (.int .i32 n)) (ht : W.cell? ta = some old) (hf : W.frozen? ta = false) :
  (ReflectliteValue.set #[.agg #[.pointer (some ⟨17, 251, none⟩), .pointer (some ta), .int .u64 409], .agg #[.pointer (some ⟨17, 251, none⟩), .pointer (some b), .int .u64 153]]).run Tryz.prog W
   = .ok (.tuple #[]) (W.setCell ta (.int .i32 n)) := by
 refine run_step (partsEa ta W) ?_
 refine run_step (partsE b W) ?_
 simp [ReflectliteValue.flagAddr, loadVar, isAgg, underlying, Tryz.underlying251, load1 b _ W hb, Result.andThen, directE, storeVar, Value.cells, storeCells, Addr.add]
 rw [run_store Tryz.prog W ta _ _ (by rfl)]
 simp [ht, hf]
theorem noAsF (v : Value) (xT : TypeId) (w : World) : (Instr.typeAssert (.iface 248 v) xT 125 true).run Tryz.prog w = .ok (.tuple #[.nilIface, .bool false]) w := run_typeAssert_lacksB Tryz.underlying125 (by kernel_rfl) (by kernel_rfl) v xT w
theorem noAsS (v : Value) (xT : TypeId) (w : World) : (Instr.typeAssert (.iface 254 v) xT 125 true).run Tryz.prog w = .ok (.tuple #[.nilIface, .bool false]) w := run_typeAssert_lacksB Tryz.underlying125 (by kernel_rfl) (by kernel_rfl) v xT w
theorem noIsF (v : Value) (xT : TypeId) (w : World) : (Instr.typeAssert (.iface 248 v) xT 133 true).run Tryz.prog w = .ok (.tuple #[.nilIface, .bool false]) w := run_typeAssert_lacksB Tryz.underlying133 (by kernel_rfl) (by kernel_rfl) v xT w
theorem noIsS (v : Value) (xT : TypeId) (w : World) : (Instr.typeAssert (.iface 254 v) xT 133 true).run Tryz.prog w = .ok (.tuple #[.nilIface, .bool false]) w := run_typeAssert_lacksB Tryz.underlying133 (by kernel_rfl) (by kernel_rfl) v xT w
theorem unwF (v : Value) (xT : TypeId) (w : World) : (Instr.typeAssert (.iface 248 v) xT 128 true).run Tryz.prog w = .ok (.tuple #[.iface 248 v, .bool true]) w := run_typeAssert_hasB Tryz.underlying128 (by kernel_rfl) v xT w
theorem noUnwS (v : Value) (xT : TypeId) (w : World) : (Instr.typeAssert (.iface 254 v) xT 128 true).run Tryz.prog w = .ok (.tuple #[.nilIface, .bool false]) w := run_typeAssert_lacksB Tryz.underlying128 (by kernel_rfl) (by kernel_rfl) v xT w
theorem noUnwsS (v : Value) (xT : TypeId) (w : World) : (Instr.typeAssert (.iface 254 v) xT 130 true).run Tryz.prog w = .ok (.tuple #[.nilIface, .bool false]) w := run_typeAssert_lacksB Tryz.underlying130 (by kernel_rfl) (by kernel_rfl) v xT w
theorem methodUnwrap (v : Value) (w : World) : (Go.method 383 248 v "Unwrap").run Tryz.prog w = .ok (225, v) w := by kernel_rfl
theorem cmpExt : ∃ ext : Array Value -> Sem Value, find Tryz.f208 = some ext /\
  ∀ w : World, (ext #[.agg #[.pointer (some ⟨17, 254, none⟩)]]).run Tryz.prog w = .ok (.bool true) w :=
 ⟨(find Tryz.f208).getD fun _ => pure (.tuple #[]), by kernel_rfl, fun w => by kernel_rfl⟩
theorem methodComparable (v : Value) (w : World) : (Go.method 383 121 v "Comparable").run Tryz.prog w = .ok (208, v) w := by kernel_rfl
theorem compS : (Tryz.prog.info? 254).map (·.comparable) = some true := by kernel_rfl
theorem sizeS : (Tryz.prog.info? 272).map (·.size) = some 1 := by kernel_rfl
end Go.Proofs.YtjhnblgamodekaaGreatDoor.C
