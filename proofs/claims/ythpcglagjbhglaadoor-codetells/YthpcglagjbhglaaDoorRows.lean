/-
  NARROWER THAN 'FOR EVERY INPUT', by the rows' own cells (each row's printed sentence says how): CodeTells: laid · CodeBack: laid · CodeJoins: laid · CodeSizes: laid · CodeCases: laid · CodeApart: laid.
  DERIVED. THE GIVEN ROWS OF THIS SEAT. 6 by the template 'for every input the law returns true; each argument reads behind the call as it read before'; 0 by the template 'total and deterministic' (their statements: YthpcglagjbhglaaDoorTotals.lean).
  GIVEN WITH THE SEED: the statements are not yours to turn. If you find one false, say at which input.
  Laid BY PROGRAM, IN A SANDBOX (cutbox-rows.mjs): the forced cells as the released guide's own fill.sh prints them over the translation 3df68fc3d097b4b1… (all of the seat's roots in one cut). By AI agents, Wed Nov 11 2026. No macro, syntax, notation, axiom, sorry.
-/
import Derived.Test.YthpcglagjbhglaaDoorChecked
import GoSem.Claim
import GoSem.ClaimJoined
import GoSem.ClaimMapViews
import Derived.JoinedTies
import Derived.KernelRfl
namespace Go.Proofs.YthpcglagjbhglaaDoor
/- THE CELL 'sum', in the pinned program and in every row, IS THE sha256 OF THE DUMP (.gsa) THAT YthpcglagjbhglaaDoorProg.lean LOADS. Nothing in Lean hashes anything: it is a label: what it is worth is what the hold of that sum in a sandbox is worth. -/
noncomputable def Tryd.pinned : Pinned := { name := "ythpcglagjbhglaadoor", sum := "3df68fc3d097b4b18e3b476c7b69d7be601d0b466bfa8e2fe89e0e9a628afb7f", checked := Tryd.checked }
namespace Rows
def none {H : Type} : Left H := { results := [], args := [] }

/- WHAT THE LISTED PACKAGE-LEVEL VARIABLES READ AS WHEN THE CALL BEGINS. Each datum BY PROGRAM (the guide's laid-datum.mjs) off the statement by which the dump's own 'gosem.cut.vars' lays the variable. In a bare row this is a premise. The card (YthpcglagjbhglaaDoorCards.lean) ties it to the program's text. -/
def laid_errors_errorType {H : Type} : DataW H := .iface "internal/reflectlite.rtype" (.agg [.ptr (.lit (.string [101, 114, 114, 111, 114]))])
def laid_latiner_code_errCut {H : Type} : DataW H := .iface "*errors.errorString" (.ptr (.agg [.lit (.string [97, 32, 103, 114, 111, 117, 112, 39, 115, 32, 115, 105, 103, 110, 115, 32, 109, 105, 115, 115])]))
def laid_latiner_code_errEnd {H : Type} : DataW H := .iface "*errors.errorString" (.ptr (.agg [.lit (.string [115, 105, 103, 110, 115, 32, 98, 101, 104, 105, 110, 100, 32, 116, 104, 101, 32, 101, 110, 100])]))
def laid_latiner_code_errBits {H : Type} : DataW H := .iface "*errors.errorString" (.ptr (.agg [.lit (.string [98, 105, 116, 115, 32, 116, 104, 97, 116, 32, 116, 101, 108, 108, 32, 110, 111, 116, 104, 105, 110, 103, 32, 97, 114, 101, 32, 110, 111, 116, 32, 48])]))

/-- 'latinerlaw05.CodeTells': WHATEVER THE INPUT: true; the input reads as it did. -/
def codeTellsSpec : ChangeSpec := { name := "codeTells", fn := fun _ => fun
  | [d] => { results := [.lit (.bool true)], args := [d] }
  | _ => none }
def codeTellsRow : OpenClaim := { program := "ythpcglagjbhglaadoor", sum := "3df68fc3d097b4b18e3b476c7b69d7be601d0b466bfa8e2fe89e0e9a628afb7f", func := "latiner/latinerlaw05.CodeTells", spec := "codeTells", inPlace := ["internal/reflectlite.ValueOf", "(internal/reflectlite.Value).Type", "(internal/reflectlite.Value).IsNil", "internal/reflectlite.TypeOf", "(internal/reflectlite.Value).Elem", "(internal/reflectlite.Value).Set"], unfollowed := true, recurses := true, named := ["latiner/code.errEnd", "latiner/code.errCut", "latiner/code.errBits", "errors.errorType"], apart := false, laid := [("errors.errorType", laid_errors_errorType), ("latiner/code.errCut", laid_latiner_code_errCut), ("latiner/code.errEnd", laid_latiner_code_errEnd), ("latiner/code.errBits", laid_latiner_code_errBits)] }
def CodeTellsSaid : Prop := codeTellsRow.holds Tryd.pinned (OpenSpec.ofChange codeTellsSpec)

/-- ITS FALSE NEIGHBOUR: 'it returns false'. Refute it at one input. -/
def codeTellsWrong : ChangeSpec := { name := "codeTells", fn := fun _ => fun
  | [d] => { results := [.lit (.bool false)], args := [d] }
  | _ => none }
def CodeTellsWrongFalsely : Prop := codeTellsRow.holds Tryd.pinned (OpenSpec.ofChange codeTellsWrong)

/-- 'latinerlaw05.CodeBack': WHATEVER THE INPUT: true; the input reads as it did. -/
def codeBackSpec : ChangeSpec := { name := "codeBack", fn := fun _ => fun
  | [d] => { results := [.lit (.bool true)], args := [d] }
  | _ => none }
def codeBackRow : OpenClaim := { program := "ythpcglagjbhglaadoor", sum := "3df68fc3d097b4b18e3b476c7b69d7be601d0b466bfa8e2fe89e0e9a628afb7f", func := "latiner/latinerlaw05.CodeBack", spec := "codeBack", inPlace := ["internal/reflectlite.ValueOf", "(internal/reflectlite.Value).Type", "(internal/reflectlite.Value).IsNil", "internal/reflectlite.TypeOf", "(internal/reflectlite.Value).Elem", "(internal/reflectlite.Value).Set"], unfollowed := true, recurses := true, named := ["latiner/code.errEnd", "latiner/code.errCut", "latiner/code.errBits", "errors.errorType"], apart := false, laid := [("errors.errorType", laid_errors_errorType), ("latiner/code.errCut", laid_latiner_code_errCut), ("latiner/code.errEnd", laid_latiner_code_errEnd), ("latiner/code.errBits", laid_latiner_code_errBits)] }
def CodeBackSaid : Prop := codeBackRow.holds Tryd.pinned (OpenSpec.ofChange codeBackSpec)

/-- ITS FALSE NEIGHBOUR: 'it returns false'. Refute it at one input. -/
def codeBackWrong : ChangeSpec := { name := "codeBack", fn := fun _ => fun
  | [d] => { results := [.lit (.bool false)], args := [d] }
  | _ => none }
def CodeBackWrongFalsely : Prop := codeBackRow.holds Tryd.pinned (OpenSpec.ofChange codeBackWrong)

/-- 'latinerlaw05.CodeJoins': WHATEVER THE INPUT: true; the input reads as it did. -/
def codeJoinsSpec : ChangeSpec := { name := "codeJoins", fn := fun _ => fun
  | [d1, d2] => { results := [.lit (.bool true)], args := [d1, d2] }
  | _ => none }
def codeJoinsRow : OpenClaim := { program := "ythpcglagjbhglaadoor", sum := "3df68fc3d097b4b18e3b476c7b69d7be601d0b466bfa8e2fe89e0e9a628afb7f", func := "latiner/latinerlaw05.CodeJoins", spec := "codeJoins", inPlace := ["internal/reflectlite.ValueOf", "(internal/reflectlite.Value).Type", "(internal/reflectlite.Value).IsNil", "internal/reflectlite.TypeOf", "(internal/reflectlite.Value).Elem", "(internal/reflectlite.Value).Set"], unfollowed := true, recurses := true, named := ["latiner/code.errEnd", "latiner/code.errCut", "latiner/code.errBits", "errors.errorType"], apart := false, laid := [("errors.errorType", laid_errors_errorType), ("latiner/code.errCut", laid_latiner_code_errCut), ("latiner/code.errEnd", laid_latiner_code_errEnd), ("latiner/code.errBits", laid_latiner_code_errBits)] }
def CodeJoinsSaid : Prop := codeJoinsRow.holds Tryd.pinned (OpenSpec.ofChange codeJoinsSpec)

/-- ITS FALSE NEIGHBOUR: 'it returns false'. Refute it at one input. -/
def codeJoinsWrong : ChangeSpec := { name := "codeJoins", fn := fun _ => fun
  | [d1, d2] => { results := [.lit (.bool false)], args := [d1, d2] }
  | _ => none }
def CodeJoinsWrongFalsely : Prop := codeJoinsRow.holds Tryd.pinned (OpenSpec.ofChange codeJoinsWrong)

/-- 'latinerlaw05.CodeSizes': WHATEVER THE INPUT: true; the input reads as it did. -/
def codeSizesSpec : ChangeSpec := { name := "codeSizes", fn := fun _ => fun
  | [d] => { results := [.lit (.bool true)], args := [d] }
  | _ => none }
def codeSizesRow : OpenClaim := { program := "ythpcglagjbhglaadoor", sum := "3df68fc3d097b4b18e3b476c7b69d7be601d0b466bfa8e2fe89e0e9a628afb7f", func := "latiner/latinerlaw05.CodeSizes", spec := "codeSizes", inPlace := ["internal/reflectlite.ValueOf", "(internal/reflectlite.Value).Type", "(internal/reflectlite.Value).IsNil", "internal/reflectlite.TypeOf", "(internal/reflectlite.Value).Elem", "(internal/reflectlite.Value).Set"], unfollowed := true, recurses := true, named := ["latiner/code.errEnd", "latiner/code.errCut", "latiner/code.errBits", "errors.errorType"], apart := false, laid := [("errors.errorType", laid_errors_errorType), ("latiner/code.errCut", laid_latiner_code_errCut), ("latiner/code.errEnd", laid_latiner_code_errEnd), ("latiner/code.errBits", laid_latiner_code_errBits)] }
def CodeSizesSaid : Prop := codeSizesRow.holds Tryd.pinned (OpenSpec.ofChange codeSizesSpec)

/-- ITS FALSE NEIGHBOUR: 'it returns false'. Refute it at one input. -/
def codeSizesWrong : ChangeSpec := { name := "codeSizes", fn := fun _ => fun
  | [d] => { results := [.lit (.bool false)], args := [d] }
  | _ => none }
def CodeSizesWrongFalsely : Prop := codeSizesRow.holds Tryd.pinned (OpenSpec.ofChange codeSizesWrong)

/-- 'latinerlaw05.CodeCases': WHATEVER THE INPUT: true; the input reads as it did. -/
def codeCasesSpec : ChangeSpec := { name := "codeCases", fn := fun _ => fun
  | [d] => { results := [.lit (.bool true)], args := [d] }
  | _ => none }
def codeCasesRow : OpenClaim := { program := "ythpcglagjbhglaadoor", sum := "3df68fc3d097b4b18e3b476c7b69d7be601d0b466bfa8e2fe89e0e9a628afb7f", func := "latiner/latinerlaw05.CodeCases", spec := "codeCases", inPlace := ["internal/reflectlite.ValueOf", "(internal/reflectlite.Value).Type", "(internal/reflectlite.Value).IsNil", "internal/reflectlite.TypeOf", "(internal/reflectlite.Value).Elem", "(internal/reflectlite.Value).Set"], unfollowed := true, recurses := true, named := ["latiner/code.errEnd", "latiner/code.errCut", "latiner/code.errBits", "errors.errorType"], apart := false, laid := [("errors.errorType", laid_errors_errorType), ("latiner/code.errCut", laid_latiner_code_errCut), ("latiner/code.errEnd", laid_latiner_code_errEnd), ("latiner/code.errBits", laid_latiner_code_errBits)] }
def CodeCasesSaid : Prop := codeCasesRow.holds Tryd.pinned (OpenSpec.ofChange codeCasesSpec)

/-- ITS FALSE NEIGHBOUR: 'it returns false'. Refute it at one input. -/
def codeCasesWrong : ChangeSpec := { name := "codeCases", fn := fun _ => fun
  | [d] => { results := [.lit (.bool false)], args := [d] }
  | _ => none }
def CodeCasesWrongFalsely : Prop := codeCasesRow.holds Tryd.pinned (OpenSpec.ofChange codeCasesWrong)

/-- 'latinerlaw05.CodeApart': WHATEVER THE INPUT: true; the input reads as it did. -/
def codeApartSpec : ChangeSpec := { name := "codeApart", fn := fun _ => fun
  | [d1, d2] => { results := [.lit (.bool true)], args := [d1, d2] }
  | _ => none }
def codeApartRow : OpenClaim := { program := "ythpcglagjbhglaadoor", sum := "3df68fc3d097b4b18e3b476c7b69d7be601d0b466bfa8e2fe89e0e9a628afb7f", func := "latiner/latinerlaw05.CodeApart", spec := "codeApart", inPlace := ["internal/reflectlite.ValueOf", "(internal/reflectlite.Value).Type", "(internal/reflectlite.Value).IsNil", "internal/reflectlite.TypeOf", "(internal/reflectlite.Value).Elem", "(internal/reflectlite.Value).Set"], unfollowed := true, recurses := true, named := ["latiner/code.errEnd", "latiner/code.errCut", "latiner/code.errBits", "errors.errorType"], apart := false, laid := [("errors.errorType", laid_errors_errorType), ("latiner/code.errCut", laid_latiner_code_errCut), ("latiner/code.errEnd", laid_latiner_code_errEnd), ("latiner/code.errBits", laid_latiner_code_errBits)] }
def CodeApartSaid : Prop := codeApartRow.holds Tryd.pinned (OpenSpec.ofChange codeApartSpec)

/-- ITS FALSE NEIGHBOUR: 'it returns false'. Refute it at one input. -/
def codeApartWrong : ChangeSpec := { name := "codeApart", fn := fun _ => fun
  | [d1, d2] => { results := [.lit (.bool false)], args := [d1, d2] }
  | _ => none }
def CodeApartWrongFalsely : Prop := codeApartRow.holds Tryd.pinned (OpenSpec.ofChange codeApartWrong)

/- THE SECOND FORM. 'bulk': how many values and letters a reading holds, each counted each time it is reached (what is shared counts as often as it is met; a slice's spare places count too). A statement '..UptoSaid' is the law's where the arguments, and the package variables that the reading takes, are together of bulk at most 1048576: NARROWER than '..Said'. Prove '..Said' where nothing that the law and all that it calls make is longer than what came in: it says more and counts as full. Else prove '..UptoSaid'. A law counts once. -/
mutual
def uptoBulk {H : Type} : DataW H → Nat
  | .lit (.string bytes) => bytes.length + 1
  | .lit _ => 1
  | .nil => 1
  | .ptr d => uptoBulk d + 1
  | .slice elems spare => uptoBulkAll elems + uptoBulkAll spare + 1
  | .agg parts => uptoBulkAll parts + 1
  | .iface _ d => uptoBulk d + 1
  | .map entries => uptoBulkEntries entries + 1
  | .held _ => 1
def uptoBulkAll {H : Type} : List (DataW H) → Nat
  | [] => 0
  | d :: r => uptoBulk d + uptoBulkAll r
def uptoBulkEntries {H : Type} : List (Lit × DataW H) → Nat
  | [] => 0
  | x :: r => uptoBulkEntry x + uptoBulkEntries r
def uptoBulkEntry {H : Type} : Lit × DataW H → Nat
  | (.string bytes, d) => bytes.length + uptoBulk d + 1
  | (_, d) => uptoBulk d + 1
 end
def uptoSmall : (H : Type) → List (DataW H) → Bool := fun _ ds => decide (uptoBulkAll ds ≤ 1048576)
def OpenSpec.upto (s : _root_.Go.ChangeSpec) : _root_.Go.OpenSpec := { _root_.Go.OpenSpec.ofChange s with cond := some uptoSmall }

/-- 'latinerlaw05.CodeTells', WHERE WHAT IT READS IS OF BULK AT MOST 1048576: true; the input reads as it did. -/
def codeTellsUptoRow : OpenClaim := { program := "ythpcglagjbhglaadoor", sum := "3df68fc3d097b4b18e3b476c7b69d7be601d0b466bfa8e2fe89e0e9a628afb7f", func := "latiner/latinerlaw05.CodeTells", spec := "codeTells", inPlace := ["internal/reflectlite.ValueOf", "(internal/reflectlite.Value).Type", "(internal/reflectlite.Value).IsNil", "internal/reflectlite.TypeOf", "(internal/reflectlite.Value).Elem", "(internal/reflectlite.Value).Set"], unfollowed := true, recurses := true, named := ["latiner/code.errEnd", "latiner/code.errCut", "latiner/code.errBits", "errors.errorType"], apart := false, laid := [("errors.errorType", laid_errors_errorType), ("latiner/code.errCut", laid_latiner_code_errCut), ("latiner/code.errEnd", laid_latiner_code_errEnd), ("latiner/code.errBits", laid_latiner_code_errBits)], narrowed := true }
def CodeTellsUptoSaid : Prop := codeTellsUptoRow.holds Tryd.pinned (OpenSpec.upto codeTellsSpec)

/-- 'latinerlaw05.CodeBack', WHERE WHAT IT READS IS OF BULK AT MOST 1048576: true; the input reads as it did. -/
def codeBackUptoRow : OpenClaim := { program := "ythpcglagjbhglaadoor", sum := "3df68fc3d097b4b18e3b476c7b69d7be601d0b466bfa8e2fe89e0e9a628afb7f", func := "latiner/latinerlaw05.CodeBack", spec := "codeBack", inPlace := ["internal/reflectlite.ValueOf", "(internal/reflectlite.Value).Type", "(internal/reflectlite.Value).IsNil", "internal/reflectlite.TypeOf", "(internal/reflectlite.Value).Elem", "(internal/reflectlite.Value).Set"], unfollowed := true, recurses := true, named := ["latiner/code.errEnd", "latiner/code.errCut", "latiner/code.errBits", "errors.errorType"], apart := false, laid := [("errors.errorType", laid_errors_errorType), ("latiner/code.errCut", laid_latiner_code_errCut), ("latiner/code.errEnd", laid_latiner_code_errEnd), ("latiner/code.errBits", laid_latiner_code_errBits)], narrowed := true }
def CodeBackUptoSaid : Prop := codeBackUptoRow.holds Tryd.pinned (OpenSpec.upto codeBackSpec)

/-- 'latinerlaw05.CodeJoins', WHERE WHAT IT READS IS OF BULK AT MOST 1048576: true; the input reads as it did. -/
def codeJoinsUptoRow : OpenClaim := { program := "ythpcglagjbhglaadoor", sum := "3df68fc3d097b4b18e3b476c7b69d7be601d0b466bfa8e2fe89e0e9a628afb7f", func := "latiner/latinerlaw05.CodeJoins", spec := "codeJoins", inPlace := ["internal/reflectlite.ValueOf", "(internal/reflectlite.Value).Type", "(internal/reflectlite.Value).IsNil", "internal/reflectlite.TypeOf", "(internal/reflectlite.Value).Elem", "(internal/reflectlite.Value).Set"], unfollowed := true, recurses := true, named := ["latiner/code.errEnd", "latiner/code.errCut", "latiner/code.errBits", "errors.errorType"], apart := false, laid := [("errors.errorType", laid_errors_errorType), ("latiner/code.errCut", laid_latiner_code_errCut), ("latiner/code.errEnd", laid_latiner_code_errEnd), ("latiner/code.errBits", laid_latiner_code_errBits)], narrowed := true }
def CodeJoinsUptoSaid : Prop := codeJoinsUptoRow.holds Tryd.pinned (OpenSpec.upto codeJoinsSpec)

/-- 'latinerlaw05.CodeSizes', WHERE WHAT IT READS IS OF BULK AT MOST 1048576: true; the input reads as it did. -/
def codeSizesUptoRow : OpenClaim := { program := "ythpcglagjbhglaadoor", sum := "3df68fc3d097b4b18e3b476c7b69d7be601d0b466bfa8e2fe89e0e9a628afb7f", func := "latiner/latinerlaw05.CodeSizes", spec := "codeSizes", inPlace := ["internal/reflectlite.ValueOf", "(internal/reflectlite.Value).Type", "(internal/reflectlite.Value).IsNil", "internal/reflectlite.TypeOf", "(internal/reflectlite.Value).Elem", "(internal/reflectlite.Value).Set"], unfollowed := true, recurses := true, named := ["latiner/code.errEnd", "latiner/code.errCut", "latiner/code.errBits", "errors.errorType"], apart := false, laid := [("errors.errorType", laid_errors_errorType), ("latiner/code.errCut", laid_latiner_code_errCut), ("latiner/code.errEnd", laid_latiner_code_errEnd), ("latiner/code.errBits", laid_latiner_code_errBits)], narrowed := true }
def CodeSizesUptoSaid : Prop := codeSizesUptoRow.holds Tryd.pinned (OpenSpec.upto codeSizesSpec)

/-- 'latinerlaw05.CodeCases', WHERE WHAT IT READS IS OF BULK AT MOST 1048576: true; the input reads as it did. -/
def codeCasesUptoRow : OpenClaim := { program := "ythpcglagjbhglaadoor", sum := "3df68fc3d097b4b18e3b476c7b69d7be601d0b466bfa8e2fe89e0e9a628afb7f", func := "latiner/latinerlaw05.CodeCases", spec := "codeCases", inPlace := ["internal/reflectlite.ValueOf", "(internal/reflectlite.Value).Type", "(internal/reflectlite.Value).IsNil", "internal/reflectlite.TypeOf", "(internal/reflectlite.Value).Elem", "(internal/reflectlite.Value).Set"], unfollowed := true, recurses := true, named := ["latiner/code.errEnd", "latiner/code.errCut", "latiner/code.errBits", "errors.errorType"], apart := false, laid := [("errors.errorType", laid_errors_errorType), ("latiner/code.errCut", laid_latiner_code_errCut), ("latiner/code.errEnd", laid_latiner_code_errEnd), ("latiner/code.errBits", laid_latiner_code_errBits)], narrowed := true }
def CodeCasesUptoSaid : Prop := codeCasesUptoRow.holds Tryd.pinned (OpenSpec.upto codeCasesSpec)

/-- 'latinerlaw05.CodeApart', WHERE WHAT IT READS IS OF BULK AT MOST 1048576: true; the input reads as it did. -/
def codeApartUptoRow : OpenClaim := { program := "ythpcglagjbhglaadoor", sum := "3df68fc3d097b4b18e3b476c7b69d7be601d0b466bfa8e2fe89e0e9a628afb7f", func := "latiner/latinerlaw05.CodeApart", spec := "codeApart", inPlace := ["internal/reflectlite.ValueOf", "(internal/reflectlite.Value).Type", "(internal/reflectlite.Value).IsNil", "internal/reflectlite.TypeOf", "(internal/reflectlite.Value).Elem", "(internal/reflectlite.Value).Set"], unfollowed := true, recurses := true, named := ["latiner/code.errEnd", "latiner/code.errCut", "latiner/code.errBits", "errors.errorType"], apart := false, laid := [("errors.errorType", laid_errors_errorType), ("latiner/code.errCut", laid_latiner_code_errCut), ("latiner/code.errEnd", laid_latiner_code_errEnd), ("latiner/code.errBits", laid_latiner_code_errBits)], narrowed := true }
def CodeApartUptoSaid : Prop := codeApartUptoRow.holds Tryd.pinned (OpenSpec.upto codeApartSpec)

end Rows
end Go.Proofs.YthpcglagjbhglaaDoor
