/-
  NARROWER THAN 'FOR EVERY INPUT', by the rows' own cells (each row's printed sentence says how): PrimCodes: laid · PrimBack: laid · PrimOrder: laid · PrimSizes: laid · PrimLonger: laid · PrimTrue: laid.
  DERIVED. THE GIVEN ROWS OF THIS SEAT. 6 by the template 'for every input the law returns true; each argument reads behind the call as it read before'; 0 by the template 'total and deterministic' (their statements: YtjgphpjbcabdeaaDoorTotals.lean).
  GIVEN WITH THE SEED: the statements are not yours to turn. If you find one false, say at which input.
  Laid BY PROGRAM, IN A SANDBOX (cutbox-rows.mjs): the forced cells as the released guide's own fill.sh prints them over the translation 7d3bc86d2ade3325… (all of the seat's roots in one cut). By AI agents, Wed Nov 11 2026. No macro, syntax, notation, axiom, sorry.
-/
import Derived.Test.YtjgphpjbcabdeaaDoorChecked
import GoSem.Claim
import GoSem.ClaimJoined
import GoSem.ClaimMapViews
import Derived.JoinedTies
import Derived.KernelRfl
namespace Go.Proofs.YtjgphpjbcabdeaaDoor
/- THE CELL 'sum', in the pinned program and in every row, IS THE sha256 OF THE DUMP (.gsa) THAT YtjgphpjbcabdeaaDoorProg.lean LOADS. Nothing in Lean hashes anything: it is a label: what it is worth is what the hold of that sum in a sandbox is worth. -/
noncomputable def Tryd.pinned : Pinned := { name := "ytjgphpjbcabdeaadoor", sum := "7d3bc86d2ade3325cc7febd9adb457b1743328d1f8fd59a77ac6d9605262e228", checked := Tryd.checked }
namespace Rows
def none {H : Type} : Left H := { results := [], args := [] }

/- WHAT THE LISTED PACKAGE-LEVEL VARIABLES READ AS WHEN THE CALL BEGINS. Each datum BY PROGRAM (the guide's laid-datum.mjs) off the statement by which the dump's own 'gosem.cut.vars' lays the variable. In a bare row this is a premise. The card (YtjgphpjbcabdeaaDoorCards.lean) ties it to the program's text. -/
def laid_errors_errorType {H : Type} : DataW H := .iface "internal/reflectlite.rtype" (.agg [.ptr (.lit (.string [101, 114, 114, 111, 114]))])
def laid_latiner_prim_errBool {H : Type} : DataW H := .iface "*errors.errorString" (.ptr (.agg [.lit (.string [97, 32, 98, 111, 111, 108, 101, 97, 110, 32, 104, 97, 115, 32, 111, 110, 101, 32, 98, 121, 116, 101])]))

/-- 'latinerlaw03.PrimCodes': WHATEVER THE INPUT: true; the input reads as it did. -/
def primCodesSpec : ChangeSpec := { name := "primCodes", fn := fun _ => fun
  | [d1, d2, d3] => { results := [.lit (.bool true)], args := [d1, d2, d3] }
  | _ => none }
def primCodesRow : OpenClaim := { program := "ytjgphpjbcabdeaadoor", sum := "7d3bc86d2ade3325cc7febd9adb457b1743328d1f8fd59a77ac6d9605262e228", func := "latiner/latinerlaw03.PrimCodes", spec := "primCodes", inPlace := ["internal/reflectlite.ValueOf", "(internal/reflectlite.Value).Type", "(internal/reflectlite.Value).IsNil", "internal/reflectlite.TypeOf", "(internal/reflectlite.Value).Elem", "(internal/reflectlite.Value).Set"], unfollowed := true, recurses := true, named := ["latiner/prim.errBool", "errors.errorType"], apart := false, laid := [("errors.errorType", laid_errors_errorType), ("latiner/prim.errBool", laid_latiner_prim_errBool)] }
def PrimCodesSaid : Prop := primCodesRow.holds Tryd.pinned (OpenSpec.ofChange primCodesSpec)

/-- ITS FALSE NEIGHBOUR: 'it returns false'. Refute it at one input. -/
def primCodesWrong : ChangeSpec := { name := "primCodes", fn := fun _ => fun
  | [d1, d2, d3] => { results := [.lit (.bool false)], args := [d1, d2, d3] }
  | _ => none }
def PrimCodesWrongFalsely : Prop := primCodesRow.holds Tryd.pinned (OpenSpec.ofChange primCodesWrong)

/-- 'latinerlaw03.PrimBack': WHATEVER THE INPUT: true; the input reads as it did. -/
def primBackSpec : ChangeSpec := { name := "primBack", fn := fun _ => fun
  | [d1, d2, d3] => { results := [.lit (.bool true)], args := [d1, d2, d3] }
  | _ => none }
def primBackRow : OpenClaim := { program := "ytjgphpjbcabdeaadoor", sum := "7d3bc86d2ade3325cc7febd9adb457b1743328d1f8fd59a77ac6d9605262e228", func := "latiner/latinerlaw03.PrimBack", spec := "primBack", inPlace := ["internal/reflectlite.ValueOf", "(internal/reflectlite.Value).Type", "(internal/reflectlite.Value).IsNil", "internal/reflectlite.TypeOf", "(internal/reflectlite.Value).Elem", "(internal/reflectlite.Value).Set"], unfollowed := true, recurses := true, named := ["latiner/prim.errBool", "errors.errorType"], apart := false, laid := [("errors.errorType", laid_errors_errorType), ("latiner/prim.errBool", laid_latiner_prim_errBool)] }
def PrimBackSaid : Prop := primBackRow.holds Tryd.pinned (OpenSpec.ofChange primBackSpec)

/-- ITS FALSE NEIGHBOUR: 'it returns false'. Refute it at one input. -/
def primBackWrong : ChangeSpec := { name := "primBack", fn := fun _ => fun
  | [d1, d2, d3] => { results := [.lit (.bool false)], args := [d1, d2, d3] }
  | _ => none }
def PrimBackWrongFalsely : Prop := primBackRow.holds Tryd.pinned (OpenSpec.ofChange primBackWrong)

/-- 'latinerlaw03.PrimOrder': WHATEVER THE INPUT: true; the input reads as it did. -/
def primOrderSpec : ChangeSpec := { name := "primOrder", fn := fun _ => fun
  | [d1, d2] => { results := [.lit (.bool true)], args := [d1, d2] }
  | _ => none }
def primOrderRow : OpenClaim := { program := "ytjgphpjbcabdeaadoor", sum := "7d3bc86d2ade3325cc7febd9adb457b1743328d1f8fd59a77ac6d9605262e228", func := "latiner/latinerlaw03.PrimOrder", spec := "primOrder", inPlace := ["internal/reflectlite.ValueOf", "(internal/reflectlite.Value).Type", "(internal/reflectlite.Value).IsNil", "internal/reflectlite.TypeOf", "(internal/reflectlite.Value).Elem", "(internal/reflectlite.Value).Set"], unfollowed := true, recurses := true, named := ["latiner/prim.errBool", "errors.errorType"], apart := false, laid := [("errors.errorType", laid_errors_errorType), ("latiner/prim.errBool", laid_latiner_prim_errBool)] }
def PrimOrderSaid : Prop := primOrderRow.holds Tryd.pinned (OpenSpec.ofChange primOrderSpec)

/-- ITS FALSE NEIGHBOUR: 'it returns false'. Refute it at one input. -/
def primOrderWrong : ChangeSpec := { name := "primOrder", fn := fun _ => fun
  | [d1, d2] => { results := [.lit (.bool false)], args := [d1, d2] }
  | _ => none }
def PrimOrderWrongFalsely : Prop := primOrderRow.holds Tryd.pinned (OpenSpec.ofChange primOrderWrong)

/-- 'latinerlaw03.PrimSizes': WHATEVER THE INPUT: true; the input reads as it did. -/
def primSizesSpec : ChangeSpec := { name := "primSizes", fn := fun _ => fun
  | [d] => { results := [.lit (.bool true)], args := [d] }
  | _ => none }
def primSizesRow : OpenClaim := { program := "ytjgphpjbcabdeaadoor", sum := "7d3bc86d2ade3325cc7febd9adb457b1743328d1f8fd59a77ac6d9605262e228", func := "latiner/latinerlaw03.PrimSizes", spec := "primSizes", inPlace := ["internal/reflectlite.ValueOf", "(internal/reflectlite.Value).Type", "(internal/reflectlite.Value).IsNil", "internal/reflectlite.TypeOf", "(internal/reflectlite.Value).Elem", "(internal/reflectlite.Value).Set"], unfollowed := true, recurses := true, named := ["latiner/prim.errBool", "errors.errorType"], apart := false, laid := [("errors.errorType", laid_errors_errorType), ("latiner/prim.errBool", laid_latiner_prim_errBool)] }
def PrimSizesSaid : Prop := primSizesRow.holds Tryd.pinned (OpenSpec.ofChange primSizesSpec)

/-- ITS FALSE NEIGHBOUR: 'it returns false'. Refute it at one input. -/
def primSizesWrong : ChangeSpec := { name := "primSizes", fn := fun _ => fun
  | [d] => { results := [.lit (.bool false)], args := [d] }
  | _ => none }
def PrimSizesWrongFalsely : Prop := primSizesRow.holds Tryd.pinned (OpenSpec.ofChange primSizesWrong)

/-- 'latinerlaw03.PrimLonger': WHATEVER THE INPUT: true; the input reads as it did. -/
def primLongerSpec : ChangeSpec := { name := "primLonger", fn := fun _ => fun
  | [d] => { results := [.lit (.bool true)], args := [d] }
  | _ => none }
def primLongerRow : OpenClaim := { program := "ytjgphpjbcabdeaadoor", sum := "7d3bc86d2ade3325cc7febd9adb457b1743328d1f8fd59a77ac6d9605262e228", func := "latiner/latinerlaw03.PrimLonger", spec := "primLonger", inPlace := ["internal/reflectlite.ValueOf", "(internal/reflectlite.Value).Type", "(internal/reflectlite.Value).IsNil", "internal/reflectlite.TypeOf", "(internal/reflectlite.Value).Elem", "(internal/reflectlite.Value).Set"], unfollowed := true, recurses := true, named := ["latiner/prim.errBool", "errors.errorType"], apart := false, laid := [("errors.errorType", laid_errors_errorType), ("latiner/prim.errBool", laid_latiner_prim_errBool)] }
def PrimLongerSaid : Prop := primLongerRow.holds Tryd.pinned (OpenSpec.ofChange primLongerSpec)

/-- ITS FALSE NEIGHBOUR: 'it returns false'. Refute it at one input. -/
def primLongerWrong : ChangeSpec := { name := "primLonger", fn := fun _ => fun
  | [d] => { results := [.lit (.bool false)], args := [d] }
  | _ => none }
def PrimLongerWrongFalsely : Prop := primLongerRow.holds Tryd.pinned (OpenSpec.ofChange primLongerWrong)

/-- 'latinerlaw03.PrimTrue': WHATEVER THE INPUT: true; the input reads as it did. -/
def primTrueSpec : ChangeSpec := { name := "primTrue", fn := fun _ => fun
  | [d] => { results := [.lit (.bool true)], args := [d] }
  | _ => none }
def primTrueRow : OpenClaim := { program := "ytjgphpjbcabdeaadoor", sum := "7d3bc86d2ade3325cc7febd9adb457b1743328d1f8fd59a77ac6d9605262e228", func := "latiner/latinerlaw03.PrimTrue", spec := "primTrue", inPlace := ["internal/reflectlite.ValueOf", "(internal/reflectlite.Value).Type", "(internal/reflectlite.Value).IsNil", "internal/reflectlite.TypeOf", "(internal/reflectlite.Value).Elem", "(internal/reflectlite.Value).Set"], unfollowed := true, recurses := true, named := ["latiner/prim.errBool", "errors.errorType"], apart := false, laid := [("errors.errorType", laid_errors_errorType), ("latiner/prim.errBool", laid_latiner_prim_errBool)] }
def PrimTrueSaid : Prop := primTrueRow.holds Tryd.pinned (OpenSpec.ofChange primTrueSpec)

/-- ITS FALSE NEIGHBOUR: 'it returns false'. Refute it at one input. -/
def primTrueWrong : ChangeSpec := { name := "primTrue", fn := fun _ => fun
  | [d] => { results := [.lit (.bool false)], args := [d] }
  | _ => none }
def PrimTrueWrongFalsely : Prop := primTrueRow.holds Tryd.pinned (OpenSpec.ofChange primTrueWrong)

/- THE SECOND FORM. 'bulk': how many values and letters a reading holds, each counted each time it is reached (what is shared counts as often as it is met; a slice's spare places count too). A statement '..UptoSaid' is the law's where the arguments, and the package variables that the reading takes, are together of bulk at most 1048576: NARROWER than '..Said'. Prove '..Said' where nothing that the law and all that it calls make is longer than what came in: it says more and counts as full. Else prove '..UptoSaid'. A law counts once. -/
mutual
def uptoBulk {H : Type} : DataW H → Nat
  | .lit (.string bytes) => bytes.length + 1
  | .lit _ => 1
  | .nil => 1
  | .ptr d => uptoBulk d + 1
  | .slice elems spare => uptoBulkAll elems + uptoBulkAll spare + 1
  | .agg parts => uptoBulkAll parts + 1
  | .iface _ d => uptoBulk d + 1
  | .map entries => uptoBulkEntries entries + 1
  | .held _ => 1
def uptoBulkAll {H : Type} : List (DataW H) → Nat
  | [] => 0
  | d :: r => uptoBulk d + uptoBulkAll r
def uptoBulkEntries {H : Type} : List (Lit × DataW H) → Nat
  | [] => 0
  | x :: r => uptoBulkEntry x + uptoBulkEntries r
def uptoBulkEntry {H : Type} : Lit × DataW H → Nat
  | (.string bytes, d) => bytes.length + uptoBulk d + 1
  | (_, d) => uptoBulk d + 1
 end
def uptoSmall : (H : Type) → List (DataW H) → Bool := fun _ ds => decide (uptoBulkAll ds ≤ 1048576)
def OpenSpec.upto (s : _root_.Go.ChangeSpec) : _root_.Go.OpenSpec := { _root_.Go.OpenSpec.ofChange s with cond := some uptoSmall }

/-- 'latinerlaw03.PrimCodes', WHERE WHAT IT READS IS OF BULK AT MOST 1048576: true; the input reads as it did. -/
def primCodesUptoRow : OpenClaim := { program := "ytjgphpjbcabdeaadoor", sum := "7d3bc86d2ade3325cc7febd9adb457b1743328d1f8fd59a77ac6d9605262e228", func := "latiner/latinerlaw03.PrimCodes", spec := "primCodes", inPlace := ["internal/reflectlite.ValueOf", "(internal/reflectlite.Value).Type", "(internal/reflectlite.Value).IsNil", "internal/reflectlite.TypeOf", "(internal/reflectlite.Value).Elem", "(internal/reflectlite.Value).Set"], unfollowed := true, recurses := true, named := ["latiner/prim.errBool", "errors.errorType"], apart := false, laid := [("errors.errorType", laid_errors_errorType), ("latiner/prim.errBool", laid_latiner_prim_errBool)], narrowed := true }
def PrimCodesUptoSaid : Prop := primCodesUptoRow.holds Tryd.pinned (OpenSpec.upto primCodesSpec)

/-- 'latinerlaw03.PrimBack', WHERE WHAT IT READS IS OF BULK AT MOST 1048576: true; the input reads as it did. -/
def primBackUptoRow : OpenClaim := { program := "ytjgphpjbcabdeaadoor", sum := "7d3bc86d2ade3325cc7febd9adb457b1743328d1f8fd59a77ac6d9605262e228", func := "latiner/latinerlaw03.PrimBack", spec := "primBack", inPlace := ["internal/reflectlite.ValueOf", "(internal/reflectlite.Value).Type", "(internal/reflectlite.Value).IsNil", "internal/reflectlite.TypeOf", "(internal/reflectlite.Value).Elem", "(internal/reflectlite.Value).Set"], unfollowed := true, recurses := true, named := ["latiner/prim.errBool", "errors.errorType"], apart := false, laid := [("errors.errorType", laid_errors_errorType), ("latiner/prim.errBool", laid_latiner_prim_errBool)], narrowed := true }
def PrimBackUptoSaid : Prop := primBackUptoRow.holds Tryd.pinned (OpenSpec.upto primBackSpec)

/-- 'latinerlaw03.PrimOrder', WHERE WHAT IT READS IS OF BULK AT MOST 1048576: true; the input reads as it did. -/
def primOrderUptoRow : OpenClaim := { program := "ytjgphpjbcabdeaadoor", sum := "7d3bc86d2ade3325cc7febd9adb457b1743328d1f8fd59a77ac6d9605262e228", func := "latiner/latinerlaw03.PrimOrder", spec := "primOrder", inPlace := ["internal/reflectlite.ValueOf", "(internal/reflectlite.Value).Type", "(internal/reflectlite.Value).IsNil", "internal/reflectlite.TypeOf", "(internal/reflectlite.Value).Elem", "(internal/reflectlite.Value).Set"], unfollowed := true, recurses := true, named := ["latiner/prim.errBool", "errors.errorType"], apart := false, laid := [("errors.errorType", laid_errors_errorType), ("latiner/prim.errBool", laid_latiner_prim_errBool)], narrowed := true }
def PrimOrderUptoSaid : Prop := primOrderUptoRow.holds Tryd.pinned (OpenSpec.upto primOrderSpec)

/-- 'latinerlaw03.PrimSizes', WHERE WHAT IT READS IS OF BULK AT MOST 1048576: true; the input reads as it did. -/
def primSizesUptoRow : OpenClaim := { program := "ytjgphpjbcabdeaadoor", sum := "7d3bc86d2ade3325cc7febd9adb457b1743328d1f8fd59a77ac6d9605262e228", func := "latiner/latinerlaw03.PrimSizes", spec := "primSizes", inPlace := ["internal/reflectlite.ValueOf", "(internal/reflectlite.Value).Type", "(internal/reflectlite.Value).IsNil", "internal/reflectlite.TypeOf", "(internal/reflectlite.Value).Elem", "(internal/reflectlite.Value).Set"], unfollowed := true, recurses := true, named := ["latiner/prim.errBool", "errors.errorType"], apart := false, laid := [("errors.errorType", laid_errors_errorType), ("latiner/prim.errBool", laid_latiner_prim_errBool)], narrowed := true }
def PrimSizesUptoSaid : Prop := primSizesUptoRow.holds Tryd.pinned (OpenSpec.upto primSizesSpec)

/-- 'latinerlaw03.PrimLonger', WHERE WHAT IT READS IS OF BULK AT MOST 1048576: true; the input reads as it did. -/
def primLongerUptoRow : OpenClaim := { program := "ytjgphpjbcabdeaadoor", sum := "7d3bc86d2ade3325cc7febd9adb457b1743328d1f8fd59a77ac6d9605262e228", func := "latiner/latinerlaw03.PrimLonger", spec := "primLonger", inPlace := ["internal/reflectlite.ValueOf", "(internal/reflectlite.Value).Type", "(internal/reflectlite.Value).IsNil", "internal/reflectlite.TypeOf", "(internal/reflectlite.Value).Elem", "(internal/reflectlite.Value).Set"], unfollowed := true, recurses := true, named := ["latiner/prim.errBool", "errors.errorType"], apart := false, laid := [("errors.errorType", laid_errors_errorType), ("latiner/prim.errBool", laid_latiner_prim_errBool)], narrowed := true }
def PrimLongerUptoSaid : Prop := primLongerUptoRow.holds Tryd.pinned (OpenSpec.upto primLongerSpec)

/-- 'latinerlaw03.PrimTrue', WHERE WHAT IT READS IS OF BULK AT MOST 1048576: true; the input reads as it did. -/
def primTrueUptoRow : OpenClaim := { program := "ytjgphpjbcabdeaadoor", sum := "7d3bc86d2ade3325cc7febd9adb457b1743328d1f8fd59a77ac6d9605262e228", func := "latiner/latinerlaw03.PrimTrue", spec := "primTrue", inPlace := ["internal/reflectlite.ValueOf", "(internal/reflectlite.Value).Type", "(internal/reflectlite.Value).IsNil", "internal/reflectlite.TypeOf", "(internal/reflectlite.Value).Elem", "(internal/reflectlite.Value).Set"], unfollowed := true, recurses := true, named := ["latiner/prim.errBool", "errors.errorType"], apart := false, laid := [("errors.errorType", laid_errors_errorType), ("latiner/prim.errBool", laid_latiner_prim_errBool)], narrowed := true }
def PrimTrueUptoSaid : Prop := primTrueUptoRow.holds Tryd.pinned (OpenSpec.upto primTrueSpec)

end Rows
end Go.Proofs.YtjgphpjbcabdeaaDoor
