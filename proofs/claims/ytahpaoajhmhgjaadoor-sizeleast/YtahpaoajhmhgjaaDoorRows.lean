/-
  NARROWER THAN 'FOR EVERY INPUT', by the rows' own cells (each row's printed sentence says how): SizeCodes: laid · SizeBack: laid · SizeLeast: laid · SizeOrder: laid · SizeCuts: laid · SizeLong: laid.
  DERIVED. THE GIVEN ROWS OF THIS SEAT. 6 by the template 'for every input the law returns true; each argument reads behind the call as it read before'; 0 by the template 'total and deterministic' (their statements: YtahpaoajhmhgjaaDoorTotals.lean).
  GIVEN WITH THE SEED: the statements are not yours to turn. If you find one false, say at which input.
  Laid BY PROGRAM, IN A SANDBOX (cutbox-rows.mjs): the forced cells as the released guide's own fill.sh prints them over the translation c6cf65f7706ee52c… (all of the seat's roots in one cut). By AI agents, Wed Nov 11 2026. No macro, syntax, notation, axiom, sorry.
-/
import Derived.Test.YtahpaoajhmhgjaaDoorChecked
import GoSem.Claim
import GoSem.ClaimJoined
import GoSem.ClaimMapViews
import Derived.JoinedTies
import Derived.KernelRfl
namespace Go.Proofs.YtahpaoajhmhgjaaDoor
/- THE CELL 'sum', in the pinned program and in every row, IS THE sha256 OF THE DUMP (.gsa) THAT YtahpaoajhmhgjaaDoorProg.lean LOADS. Nothing in Lean hashes anything: it is a label: what it is worth is what the hold of that sum in a sandbox is worth. -/
noncomputable def Tryd.pinned : Pinned := { name := "ytahpaoajhmhgjaadoor", sum := "c6cf65f7706ee52c851f98d7d71a55ca309589d361689104b846e9ccd2320dfd", checked := Tryd.checked }
namespace Rows
def none {H : Type} : Left H := { results := [], args := [] }

/- WHAT THE LISTED PACKAGE-LEVEL VARIABLES READ AS WHEN THE CALL BEGINS. Each datum BY PROGRAM (the guide's laid-datum.mjs) off the statement by which the dump's own 'gosem.cut.vars' lays the variable. In a bare row this is a premise. The card (YtahpaoajhmhgjaaDoorCards.lean) ties it to the program's text. -/
def laid_errors_errorType {H : Type} : DataW H := .iface "internal/reflectlite.rtype" (.agg [.ptr (.lit (.string [101, 114, 114, 111, 114]))])
def laid_latiner_size_errShort {H : Type} : DataW H := .iface "*errors.errorString" (.ptr (.agg [.lit (.string [98, 121, 116, 101, 115, 32, 97, 114, 101, 32, 109, 105, 115, 115, 105, 110, 103])]))
def laid_latiner_size_errForm {H : Type} : DataW H := .iface "*errors.errorString" (.ptr (.agg [.lit (.string [110, 111, 32, 108, 101, 110, 103, 116, 104, 32, 98, 101, 103, 105, 110, 115, 32, 115, 111])]))

/-- 'latinerlaw01.SizeCodes': WHATEVER THE INPUT: true; the input reads as it did. -/
def sizeCodesSpec : ChangeSpec := { name := "sizeCodes", fn := fun _ => fun
  | [d1, d2, d3] => { results := [.lit (.bool true)], args := [d1, d2, d3] }
  | _ => none }
def sizeCodesRow : OpenClaim := { program := "ytahpaoajhmhgjaadoor", sum := "c6cf65f7706ee52c851f98d7d71a55ca309589d361689104b846e9ccd2320dfd", func := "latiner/latinerlaw01.SizeCodes", spec := "sizeCodes", inPlace := ["internal/reflectlite.ValueOf", "(internal/reflectlite.Value).Type", "(internal/reflectlite.Value).IsNil", "internal/reflectlite.TypeOf", "(internal/reflectlite.Value).Elem", "(internal/reflectlite.Value).Set"], unfollowed := true, recurses := true, named := ["latiner/size.errForm", "errors.errorType", "latiner/size.errShort"], apart := false, laid := [("errors.errorType", laid_errors_errorType), ("latiner/size.errShort", laid_latiner_size_errShort), ("latiner/size.errForm", laid_latiner_size_errForm)] }
def SizeCodesSaid : Prop := sizeCodesRow.holds Tryd.pinned (OpenSpec.ofChange sizeCodesSpec)

/-- ITS FALSE NEIGHBOUR: 'it returns false'. Refute it at one input. -/
def sizeCodesWrong : ChangeSpec := { name := "sizeCodes", fn := fun _ => fun
  | [d1, d2, d3] => { results := [.lit (.bool false)], args := [d1, d2, d3] }
  | _ => none }
def SizeCodesWrongFalsely : Prop := sizeCodesRow.holds Tryd.pinned (OpenSpec.ofChange sizeCodesWrong)

/-- 'latinerlaw01.SizeBack': WHATEVER THE INPUT: true; the input reads as it did. -/
def sizeBackSpec : ChangeSpec := { name := "sizeBack", fn := fun _ => fun
  | [d1, d2, d3] => { results := [.lit (.bool true)], args := [d1, d2, d3] }
  | _ => none }
def sizeBackRow : OpenClaim := { program := "ytahpaoajhmhgjaadoor", sum := "c6cf65f7706ee52c851f98d7d71a55ca309589d361689104b846e9ccd2320dfd", func := "latiner/latinerlaw01.SizeBack", spec := "sizeBack", inPlace := ["internal/reflectlite.ValueOf", "(internal/reflectlite.Value).Type", "(internal/reflectlite.Value).IsNil", "internal/reflectlite.TypeOf", "(internal/reflectlite.Value).Elem", "(internal/reflectlite.Value).Set"], unfollowed := true, recurses := true, named := ["latiner/size.errForm", "errors.errorType", "latiner/size.errShort"], apart := false, laid := [("errors.errorType", laid_errors_errorType), ("latiner/size.errShort", laid_latiner_size_errShort), ("latiner/size.errForm", laid_latiner_size_errForm)] }
def SizeBackSaid : Prop := sizeBackRow.holds Tryd.pinned (OpenSpec.ofChange sizeBackSpec)

/-- ITS FALSE NEIGHBOUR: 'it returns false'. Refute it at one input. -/
def sizeBackWrong : ChangeSpec := { name := "sizeBack", fn := fun _ => fun
  | [d1, d2, d3] => { results := [.lit (.bool false)], args := [d1, d2, d3] }
  | _ => none }
def SizeBackWrongFalsely : Prop := sizeBackRow.holds Tryd.pinned (OpenSpec.ofChange sizeBackWrong)

/-- 'latinerlaw01.SizeLeast': WHATEVER THE INPUT: true; the input reads as it did. -/
def sizeLeastSpec : ChangeSpec := { name := "sizeLeast", fn := fun _ => fun
  | [d1, d2] => { results := [.lit (.bool true)], args := [d1, d2] }
  | _ => none }
def sizeLeastRow : OpenClaim := { program := "ytahpaoajhmhgjaadoor", sum := "c6cf65f7706ee52c851f98d7d71a55ca309589d361689104b846e9ccd2320dfd", func := "latiner/latinerlaw01.SizeLeast", spec := "sizeLeast", inPlace := ["internal/reflectlite.ValueOf", "(internal/reflectlite.Value).Type", "(internal/reflectlite.Value).IsNil", "internal/reflectlite.TypeOf", "(internal/reflectlite.Value).Elem", "(internal/reflectlite.Value).Set"], unfollowed := true, recurses := true, named := ["latiner/size.errForm", "errors.errorType", "latiner/size.errShort"], apart := false, laid := [("errors.errorType", laid_errors_errorType), ("latiner/size.errShort", laid_latiner_size_errShort), ("latiner/size.errForm", laid_latiner_size_errForm)] }
def SizeLeastSaid : Prop := sizeLeastRow.holds Tryd.pinned (OpenSpec.ofChange sizeLeastSpec)

/-- ITS FALSE NEIGHBOUR: 'it returns false'. Refute it at one input. -/
def sizeLeastWrong : ChangeSpec := { name := "sizeLeast", fn := fun _ => fun
  | [d1, d2] => { results := [.lit (.bool false)], args := [d1, d2] }
  | _ => none }
def SizeLeastWrongFalsely : Prop := sizeLeastRow.holds Tryd.pinned (OpenSpec.ofChange sizeLeastWrong)

/-- 'latinerlaw01.SizeOrder': WHATEVER THE INPUT: true; the input reads as it did. -/
def sizeOrderSpec : ChangeSpec := { name := "sizeOrder", fn := fun _ => fun
  | [d1, d2] => { results := [.lit (.bool true)], args := [d1, d2] }
  | _ => none }
def sizeOrderRow : OpenClaim := { program := "ytahpaoajhmhgjaadoor", sum := "c6cf65f7706ee52c851f98d7d71a55ca309589d361689104b846e9ccd2320dfd", func := "latiner/latinerlaw01.SizeOrder", spec := "sizeOrder", inPlace := ["internal/reflectlite.ValueOf", "(internal/reflectlite.Value).Type", "(internal/reflectlite.Value).IsNil", "internal/reflectlite.TypeOf", "(internal/reflectlite.Value).Elem", "(internal/reflectlite.Value).Set"], unfollowed := true, recurses := true, named := ["latiner/size.errForm", "errors.errorType", "latiner/size.errShort"], apart := false, laid := [("errors.errorType", laid_errors_errorType), ("latiner/size.errShort", laid_latiner_size_errShort), ("latiner/size.errForm", laid_latiner_size_errForm)] }
def SizeOrderSaid : Prop := sizeOrderRow.holds Tryd.pinned (OpenSpec.ofChange sizeOrderSpec)

/-- ITS FALSE NEIGHBOUR: 'it returns false'. Refute it at one input. -/
def sizeOrderWrong : ChangeSpec := { name := "sizeOrder", fn := fun _ => fun
  | [d1, d2] => { results := [.lit (.bool false)], args := [d1, d2] }
  | _ => none }
def SizeOrderWrongFalsely : Prop := sizeOrderRow.holds Tryd.pinned (OpenSpec.ofChange sizeOrderWrong)

/-- 'latinerlaw01.SizeCuts': WHATEVER THE INPUT: true; the input reads as it did. -/
def sizeCutsSpec : ChangeSpec := { name := "sizeCuts", fn := fun _ => fun
  | [d1, d2] => { results := [.lit (.bool true)], args := [d1, d2] }
  | _ => none }
def sizeCutsRow : OpenClaim := { program := "ytahpaoajhmhgjaadoor", sum := "c6cf65f7706ee52c851f98d7d71a55ca309589d361689104b846e9ccd2320dfd", func := "latiner/latinerlaw01.SizeCuts", spec := "sizeCuts", inPlace := ["internal/reflectlite.ValueOf", "(internal/reflectlite.Value).Type", "(internal/reflectlite.Value).IsNil", "internal/reflectlite.TypeOf", "(internal/reflectlite.Value).Elem", "(internal/reflectlite.Value).Set"], unfollowed := true, recurses := true, named := ["latiner/size.errForm", "errors.errorType", "latiner/size.errShort"], apart := false, laid := [("errors.errorType", laid_errors_errorType), ("latiner/size.errShort", laid_latiner_size_errShort), ("latiner/size.errForm", laid_latiner_size_errForm)] }
def SizeCutsSaid : Prop := sizeCutsRow.holds Tryd.pinned (OpenSpec.ofChange sizeCutsSpec)

/-- ITS FALSE NEIGHBOUR: 'it returns false'. Refute it at one input. -/
def sizeCutsWrong : ChangeSpec := { name := "sizeCuts", fn := fun _ => fun
  | [d1, d2] => { results := [.lit (.bool false)], args := [d1, d2] }
  | _ => none }
def SizeCutsWrongFalsely : Prop := sizeCutsRow.holds Tryd.pinned (OpenSpec.ofChange sizeCutsWrong)

/-- 'latinerlaw01.SizeLong': WHATEVER THE INPUT: true; the input reads as it did. -/
def sizeLongSpec : ChangeSpec := { name := "sizeLong", fn := fun _ => fun
  | [d] => { results := [.lit (.bool true)], args := [d] }
  | _ => none }
def sizeLongRow : OpenClaim := { program := "ytahpaoajhmhgjaadoor", sum := "c6cf65f7706ee52c851f98d7d71a55ca309589d361689104b846e9ccd2320dfd", func := "latiner/latinerlaw01.SizeLong", spec := "sizeLong", inPlace := ["internal/reflectlite.ValueOf", "(internal/reflectlite.Value).Type", "(internal/reflectlite.Value).IsNil", "internal/reflectlite.TypeOf", "(internal/reflectlite.Value).Elem", "(internal/reflectlite.Value).Set"], unfollowed := true, recurses := true, named := ["latiner/size.errForm", "errors.errorType", "latiner/size.errShort"], apart := false, laid := [("errors.errorType", laid_errors_errorType), ("latiner/size.errShort", laid_latiner_size_errShort), ("latiner/size.errForm", laid_latiner_size_errForm)] }
def SizeLongSaid : Prop := sizeLongRow.holds Tryd.pinned (OpenSpec.ofChange sizeLongSpec)

/-- ITS FALSE NEIGHBOUR: 'it returns false'. Refute it at one input. -/
def sizeLongWrong : ChangeSpec := { name := "sizeLong", fn := fun _ => fun
  | [d] => { results := [.lit (.bool false)], args := [d] }
  | _ => none }
def SizeLongWrongFalsely : Prop := sizeLongRow.holds Tryd.pinned (OpenSpec.ofChange sizeLongWrong)

/- THE SECOND FORM. 'bulk': how many values and letters a reading holds, each counted each time it is reached (what is shared counts as often as it is met; a slice's spare places count too). A statement '..UptoSaid' is the law's where the arguments, and the package variables that the reading takes, are together of bulk at most 1048576: NARROWER than '..Said'. Prove '..Said' where nothing that the law and all that it calls make is longer than what came in: it says more and counts as full. Else prove '..UptoSaid'. A law counts once. -/
mutual
def uptoBulk {H : Type} : DataW H → Nat
  | .lit (.string bytes) => bytes.length + 1
  | .lit _ => 1
  | .nil => 1
  | .ptr d => uptoBulk d + 1
  | .slice elems spare => uptoBulkAll elems + uptoBulkAll spare + 1
  | .agg parts => uptoBulkAll parts + 1
  | .iface _ d => uptoBulk d + 1
  | .map entries => uptoBulkEntries entries + 1
  | .held _ => 1
def uptoBulkAll {H : Type} : List (DataW H) → Nat
  | [] => 0
  | d :: r => uptoBulk d + uptoBulkAll r
def uptoBulkEntries {H : Type} : List (Lit × DataW H) → Nat
  | [] => 0
  | x :: r => uptoBulkEntry x + uptoBulkEntries r
def uptoBulkEntry {H : Type} : Lit × DataW H → Nat
  | (.string bytes, d) => bytes.length + uptoBulk d + 1
  | (_, d) => uptoBulk d + 1
 end
def uptoSmall : (H : Type) → List (DataW H) → Bool := fun _ ds => decide (uptoBulkAll ds ≤ 1048576)
def OpenSpec.upto (s : _root_.Go.ChangeSpec) : _root_.Go.OpenSpec := { _root_.Go.OpenSpec.ofChange s with cond := some uptoSmall }

/-- 'latinerlaw01.SizeCodes', WHERE WHAT IT READS IS OF BULK AT MOST 1048576: true; the input reads as it did. -/
def sizeCodesUptoRow : OpenClaim := { program := "ytahpaoajhmhgjaadoor", sum := "c6cf65f7706ee52c851f98d7d71a55ca309589d361689104b846e9ccd2320dfd", func := "latiner/latinerlaw01.SizeCodes", spec := "sizeCodes", inPlace := ["internal/reflectlite.ValueOf", "(internal/reflectlite.Value).Type", "(internal/reflectlite.Value).IsNil", "internal/reflectlite.TypeOf", "(internal/reflectlite.Value).Elem", "(internal/reflectlite.Value).Set"], unfollowed := true, recurses := true, named := ["latiner/size.errForm", "errors.errorType", "latiner/size.errShort"], apart := false, laid := [("errors.errorType", laid_errors_errorType), ("latiner/size.errShort", laid_latiner_size_errShort), ("latiner/size.errForm", laid_latiner_size_errForm)], narrowed := true }
def SizeCodesUptoSaid : Prop := sizeCodesUptoRow.holds Tryd.pinned (OpenSpec.upto sizeCodesSpec)

/-- 'latinerlaw01.SizeBack', WHERE WHAT IT READS IS OF BULK AT MOST 1048576: true; the input reads as it did. -/
def sizeBackUptoRow : OpenClaim := { program := "ytahpaoajhmhgjaadoor", sum := "c6cf65f7706ee52c851f98d7d71a55ca309589d361689104b846e9ccd2320dfd", func := "latiner/latinerlaw01.SizeBack", spec := "sizeBack", inPlace := ["internal/reflectlite.ValueOf", "(internal/reflectlite.Value).Type", "(internal/reflectlite.Value).IsNil", "internal/reflectlite.TypeOf", "(internal/reflectlite.Value).Elem", "(internal/reflectlite.Value).Set"], unfollowed := true, recurses := true, named := ["latiner/size.errForm", "errors.errorType", "latiner/size.errShort"], apart := false, laid := [("errors.errorType", laid_errors_errorType), ("latiner/size.errShort", laid_latiner_size_errShort), ("latiner/size.errForm", laid_latiner_size_errForm)], narrowed := true }
def SizeBackUptoSaid : Prop := sizeBackUptoRow.holds Tryd.pinned (OpenSpec.upto sizeBackSpec)

/-- 'latinerlaw01.SizeLeast', WHERE WHAT IT READS IS OF BULK AT MOST 1048576: true; the input reads as it did. -/
def sizeLeastUptoRow : OpenClaim := { program := "ytahpaoajhmhgjaadoor", sum := "c6cf65f7706ee52c851f98d7d71a55ca309589d361689104b846e9ccd2320dfd", func := "latiner/latinerlaw01.SizeLeast", spec := "sizeLeast", inPlace := ["internal/reflectlite.ValueOf", "(internal/reflectlite.Value).Type", "(internal/reflectlite.Value).IsNil", "internal/reflectlite.TypeOf", "(internal/reflectlite.Value).Elem", "(internal/reflectlite.Value).Set"], unfollowed := true, recurses := true, named := ["latiner/size.errForm", "errors.errorType", "latiner/size.errShort"], apart := false, laid := [("errors.errorType", laid_errors_errorType), ("latiner/size.errShort", laid_latiner_size_errShort), ("latiner/size.errForm", laid_latiner_size_errForm)], narrowed := true }
def SizeLeastUptoSaid : Prop := sizeLeastUptoRow.holds Tryd.pinned (OpenSpec.upto sizeLeastSpec)

/-- 'latinerlaw01.SizeOrder', WHERE WHAT IT READS IS OF BULK AT MOST 1048576: true; the input reads as it did. -/
def sizeOrderUptoRow : OpenClaim := { program := "ytahpaoajhmhgjaadoor", sum := "c6cf65f7706ee52c851f98d7d71a55ca309589d361689104b846e9ccd2320dfd", func := "latiner/latinerlaw01.SizeOrder", spec := "sizeOrder", inPlace := ["internal/reflectlite.ValueOf", "(internal/reflectlite.Value).Type", "(internal/reflectlite.Value).IsNil", "internal/reflectlite.TypeOf", "(internal/reflectlite.Value).Elem", "(internal/reflectlite.Value).Set"], unfollowed := true, recurses := true, named := ["latiner/size.errForm", "errors.errorType", "latiner/size.errShort"], apart := false, laid := [("errors.errorType", laid_errors_errorType), ("latiner/size.errShort", laid_latiner_size_errShort), ("latiner/size.errForm", laid_latiner_size_errForm)], narrowed := true }
def SizeOrderUptoSaid : Prop := sizeOrderUptoRow.holds Tryd.pinned (OpenSpec.upto sizeOrderSpec)

/-- 'latinerlaw01.SizeCuts', WHERE WHAT IT READS IS OF BULK AT MOST 1048576: true; the input reads as it did. -/
def sizeCutsUptoRow : OpenClaim := { program := "ytahpaoajhmhgjaadoor", sum := "c6cf65f7706ee52c851f98d7d71a55ca309589d361689104b846e9ccd2320dfd", func := "latiner/latinerlaw01.SizeCuts", spec := "sizeCuts", inPlace := ["internal/reflectlite.ValueOf", "(internal/reflectlite.Value).Type", "(internal/reflectlite.Value).IsNil", "internal/reflectlite.TypeOf", "(internal/reflectlite.Value).Elem", "(internal/reflectlite.Value).Set"], unfollowed := true, recurses := true, named := ["latiner/size.errForm", "errors.errorType", "latiner/size.errShort"], apart := false, laid := [("errors.errorType", laid_errors_errorType), ("latiner/size.errShort", laid_latiner_size_errShort), ("latiner/size.errForm", laid_latiner_size_errForm)], narrowed := true }
def SizeCutsUptoSaid : Prop := sizeCutsUptoRow.holds Tryd.pinned (OpenSpec.upto sizeCutsSpec)

/-- 'latinerlaw01.SizeLong', WHERE WHAT IT READS IS OF BULK AT MOST 1048576: true; the input reads as it did. -/
def sizeLongUptoRow : OpenClaim := { program := "ytahpaoajhmhgjaadoor", sum := "c6cf65f7706ee52c851f98d7d71a55ca309589d361689104b846e9ccd2320dfd", func := "latiner/latinerlaw01.SizeLong", spec := "sizeLong", inPlace := ["internal/reflectlite.ValueOf", "(internal/reflectlite.Value).Type", "(internal/reflectlite.Value).IsNil", "internal/reflectlite.TypeOf", "(internal/reflectlite.Value).Elem", "(internal/reflectlite.Value).Set"], unfollowed := true, recurses := true, named := ["latiner/size.errForm", "errors.errorType", "latiner/size.errShort"], apart := false, laid := [("errors.errorType", laid_errors_errorType), ("latiner/size.errShort", laid_latiner_size_errShort), ("latiner/size.errForm", laid_latiner_size_errForm)], narrowed := true }
def SizeLongUptoSaid : Prop := sizeLongUptoRow.holds Tryd.pinned (OpenSpec.upto sizeLongSpec)

end Rows
end Go.Proofs.YtahpaoajhmhgjaaDoor
