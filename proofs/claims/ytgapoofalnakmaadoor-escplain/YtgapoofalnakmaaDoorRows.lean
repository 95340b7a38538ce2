/-
  NARROWER THAN 'FOR EVERY INPUT', by the rows' own cells (each row's printed sentence says how): EscTells: laid · EscBack: laid · EscAgain: laid · EscJoins: laid · EscApart: laid · EscPlain: laid.
  DERIVED. THE GIVEN ROWS OF THIS SEAT. 6 by the template 'for every input the law returns true; each argument reads behind the call as it read before'; 0 by the template 'total and deterministic' (their statements: YtgapoofalnakmaaDoorTotals.lean).
  GIVEN WITH THE SEED: the statements are not yours to turn. If you find one false, say at which input.
  Laid BY PROGRAM, IN A SANDBOX (cutbox-rows.mjs): the forced cells as the released guide's own fill.sh prints them over the translation 653289466c03d0eb… (all of the seat's roots in one cut). By AI agents, Wed Nov 11 2026. No macro, syntax, notation, axiom, sorry.
-/
import Derived.Test.YtgapoofalnakmaaDoorChecked
import GoSem.Claim
import GoSem.ClaimJoined
import GoSem.ClaimMapViews
import Derived.JoinedTies
import Derived.KernelRfl
namespace Go.Proofs.YtgapoofalnakmaaDoor
/- THE CELL 'sum', in the pinned program and in every row, IS THE sha256 OF THE DUMP (.gsa) THAT YtgapoofalnakmaaDoorProg.lean LOADS. Nothing in Lean hashes anything: it is a label: what it is worth is what the hold of that sum in a sandbox is worth. -/
noncomputable def Tryd.pinned : Pinned := { name := "ytgapoofalnakmaadoor", sum := "653289466c03d0ebc63d861e0eddf0ec0928f9b540c8bba2f0328696b2f6b25c", checked := Tryd.checked }
namespace Rows
def none {H : Type} : Left H := { results := [], args := [] }

/- WHAT THE LISTED PACKAGE-LEVEL VARIABLES READ AS WHEN THE CALL BEGINS. Each datum BY PROGRAM (the guide's laid-datum.mjs) off the statement by which the dump's own 'gosem.cut.vars' lays the variable. In a bare row this is a premise. The card (YtgapoofalnakmaaDoorCards.lean) ties it to the program's text. -/
def laid_errors_errorType {H : Type} : DataW H := .iface "internal/reflectlite.rtype" (.agg [.ptr (.lit (.string [101, 114, 114, 111, 114]))])
def laid_latiner_code_errCut {H : Type} : DataW H := .iface "*errors.errorString" (.ptr (.agg [.lit (.string [97, 32, 103, 114, 111, 117, 112, 39, 115, 32, 115, 105, 103, 110, 115, 32, 109, 105, 115, 115])]))
def laid_latiner_code_errEnd {H : Type} : DataW H := .iface "*errors.errorString" (.ptr (.agg [.lit (.string [115, 105, 103, 110, 115, 32, 98, 101, 104, 105, 110, 100, 32, 116, 104, 101, 32, 101, 110, 100])]))
def laid_latiner_code_errBits {H : Type} : DataW H := .iface "*errors.errorString" (.ptr (.agg [.lit (.string [98, 105, 116, 115, 32, 116, 104, 97, 116, 32, 116, 101, 108, 108, 32, 110, 111, 116, 104, 105, 110, 103, 32, 97, 114, 101, 32, 110, 111, 116, 32, 48])]))
def laid_latiner_utf_errUtf {H : Type} : DataW H := .iface "*errors.errorString" (.ptr (.agg [.lit (.string [110, 111, 32, 115, 105, 103, 110, 39, 115, 32, 98, 121, 116, 101, 115, 32, 98, 101, 103, 105, 110, 32, 115, 111])]))
def laid_latiner_esc_errText {H : Type} : DataW H := .iface "*errors.errorString" (.ptr (.agg [.lit (.string [110, 111, 32, 115, 105, 103, 110, 39, 115, 32, 98, 121, 116, 101, 115, 32, 98, 101, 103, 105, 110, 32, 115, 111])]))
def laid_latiner_esc_errMark {H : Type} : DataW H := .iface "*errors.errorString" (.ptr (.agg [.lit (.string [97, 32, 98, 97, 99, 107, 115, 108, 97, 115, 104, 32, 115, 116, 97, 110, 100, 115, 32, 97, 104, 101, 97, 100, 32, 111, 102, 32, 110, 111, 116, 104, 105, 110, 103, 32, 116, 104, 97, 116, 32, 105, 116, 32, 109, 97, 121])]))

/-- 'latinerlaw06.EscTells': WHATEVER THE INPUT: true; the input reads as it did. -/
def escTellsSpec : ChangeSpec := { name := "escTells", fn := fun _ => fun
  | [d] => { results := [.lit (.bool true)], args := [d] }
  | _ => none }
def escTellsRow : OpenClaim := { program := "ytgapoofalnakmaadoor", sum := "653289466c03d0ebc63d861e0eddf0ec0928f9b540c8bba2f0328696b2f6b25c", func := "latiner/latinerlaw06.EscTells", spec := "escTells", inPlace := ["internal/reflectlite.ValueOf", "(internal/reflectlite.Value).Type", "(internal/reflectlite.Value).IsNil", "internal/reflectlite.TypeOf", "(internal/reflectlite.Value).Elem", "(internal/reflectlite.Value).Set"], unfollowed := true, recurses := true, named := ["latiner/esc.errText", "latiner/utf.errUtf", "errors.errorType", "latiner/esc.errMark", "latiner/code.errEnd", "latiner/code.errCut", "latiner/code.errBits"], apart := false, laid := [("errors.errorType", laid_errors_errorType), ("latiner/code.errCut", laid_latiner_code_errCut), ("latiner/code.errEnd", laid_latiner_code_errEnd), ("latiner/code.errBits", laid_latiner_code_errBits), ("latiner/utf.errUtf", laid_latiner_utf_errUtf), ("latiner/esc.errText", laid_latiner_esc_errText), ("latiner/esc.errMark", laid_latiner_esc_errMark)] }
def EscTellsSaid : Prop := escTellsRow.holds Tryd.pinned (OpenSpec.ofChange escTellsSpec)

/-- ITS FALSE NEIGHBOUR: 'it returns false'. Refute it at one input. -/
def escTellsWrong : ChangeSpec := { name := "escTells", fn := fun _ => fun
  | [d] => { results := [.lit (.bool false)], args := [d] }
  | _ => none }
def EscTellsWrongFalsely : Prop := escTellsRow.holds Tryd.pinned (OpenSpec.ofChange escTellsWrong)

/-- 'latinerlaw06.EscBack': WHATEVER THE INPUT: true; the input reads as it did. -/
def escBackSpec : ChangeSpec := { name := "escBack", fn := fun _ => fun
  | [d] => { results := [.lit (.bool true)], args := [d] }
  | _ => none }
def escBackRow : OpenClaim := { program := "ytgapoofalnakmaadoor", sum := "653289466c03d0ebc63d861e0eddf0ec0928f9b540c8bba2f0328696b2f6b25c", func := "latiner/latinerlaw06.EscBack", spec := "escBack", inPlace := ["internal/reflectlite.ValueOf", "(internal/reflectlite.Value).Type", "(internal/reflectlite.Value).IsNil", "internal/reflectlite.TypeOf", "(internal/reflectlite.Value).Elem", "(internal/reflectlite.Value).Set"], unfollowed := true, recurses := true, named := ["latiner/esc.errText", "latiner/utf.errUtf", "errors.errorType", "latiner/esc.errMark", "latiner/code.errEnd", "latiner/code.errCut", "latiner/code.errBits"], apart := false, laid := [("errors.errorType", laid_errors_errorType), ("latiner/code.errCut", laid_latiner_code_errCut), ("latiner/code.errEnd", laid_latiner_code_errEnd), ("latiner/code.errBits", laid_latiner_code_errBits), ("latiner/utf.errUtf", laid_latiner_utf_errUtf), ("latiner/esc.errText", laid_latiner_esc_errText), ("latiner/esc.errMark", laid_latiner_esc_errMark)] }
def EscBackSaid : Prop := escBackRow.holds Tryd.pinned (OpenSpec.ofChange escBackSpec)

/-- ITS FALSE NEIGHBOUR: 'it returns false'. Refute it at one input. -/
def escBackWrong : ChangeSpec := { name := "escBack", fn := fun _ => fun
  | [d] => { results := [.lit (.bool false)], args := [d] }
  | _ => none }
def EscBackWrongFalsely : Prop := escBackRow.holds Tryd.pinned (OpenSpec.ofChange escBackWrong)

/-- 'latinerlaw06.EscAgain': WHATEVER THE INPUT: true; the input reads as it did. -/
def escAgainSpec : ChangeSpec := { name := "escAgain", fn := fun _ => fun
  | [d] => { results := [.lit (.bool true)], args := [d] }
  | _ => none }
def escAgainRow : OpenClaim := { program := "ytgapoofalnakmaadoor", sum := "653289466c03d0ebc63d861e0eddf0ec0928f9b540c8bba2f0328696b2f6b25c", func := "latiner/latinerlaw06.EscAgain", spec := "escAgain", inPlace := ["internal/reflectlite.ValueOf", "(internal/reflectlite.Value).Type", "(internal/reflectlite.Value).IsNil", "internal/reflectlite.TypeOf", "(internal/reflectlite.Value).Elem", "(internal/reflectlite.Value).Set"], unfollowed := true, recurses := true, named := ["latiner/esc.errText", "latiner/utf.errUtf", "errors.errorType", "latiner/esc.errMark", "latiner/code.errEnd", "latiner/code.errCut", "latiner/code.errBits"], apart := false, laid := [("errors.errorType", laid_errors_errorType), ("latiner/code.errCut", laid_latiner_code_errCut), ("latiner/code.errEnd", laid_latiner_code_errEnd), ("latiner/code.errBits", laid_latiner_code_errBits), ("latiner/utf.errUtf", laid_latiner_utf_errUtf), ("latiner/esc.errText", laid_latiner_esc_errText), ("latiner/esc.errMark", laid_latiner_esc_errMark)] }
def EscAgainSaid : Prop := escAgainRow.holds Tryd.pinned (OpenSpec.ofChange escAgainSpec)

/-- ITS FALSE NEIGHBOUR: 'it returns false'. Refute it at one input. -/
def escAgainWrong : ChangeSpec := { name := "escAgain", fn := fun _ => fun
  | [d] => { results := [.lit (.bool false)], args := [d] }
  | _ => none }
def EscAgainWrongFalsely : Prop := escAgainRow.holds Tryd.pinned (OpenSpec.ofChange escAgainWrong)

/-- 'latinerlaw06.EscJoins': WHATEVER THE INPUT: true; the input reads as it did. -/
def escJoinsSpec : ChangeSpec := { name := "escJoins", fn := fun _ => fun
  | [d1, d2] => { results := [.lit (.bool true)], args := [d1, d2] }
  | _ => none }
def escJoinsRow : OpenClaim := { program := "ytgapoofalnakmaadoor", sum := "653289466c03d0ebc63d861e0eddf0ec0928f9b540c8bba2f0328696b2f6b25c", func := "latiner/latinerlaw06.EscJoins", spec := "escJoins", inPlace := ["internal/reflectlite.ValueOf", "(internal/reflectlite.Value).Type", "(internal/reflectlite.Value).IsNil", "internal/reflectlite.TypeOf", "(internal/reflectlite.Value).Elem", "(internal/reflectlite.Value).Set"], unfollowed := true, recurses := true, named := ["latiner/esc.errText", "latiner/utf.errUtf", "errors.errorType", "latiner/esc.errMark", "latiner/code.errEnd", "latiner/code.errCut", "latiner/code.errBits"], apart := false, laid := [("errors.errorType", laid_errors_errorType), ("latiner/code.errCut", laid_latiner_code_errCut), ("latiner/code.errEnd", laid_latiner_code_errEnd), ("latiner/code.errBits", laid_latiner_code_errBits), ("latiner/utf.errUtf", laid_latiner_utf_errUtf), ("latiner/esc.errText", laid_latiner_esc_errText), ("latiner/esc.errMark", laid_latiner_esc_errMark)] }
def EscJoinsSaid : Prop := escJoinsRow.holds Tryd.pinned (OpenSpec.ofChange escJoinsSpec)

/-- ITS FALSE NEIGHBOUR: 'it returns false'. Refute it at one input. -/
def escJoinsWrong : ChangeSpec := { name := "escJoins", fn := fun _ => fun
  | [d1, d2] => { results := [.lit (.bool false)], args := [d1, d2] }
  | _ => none }
def EscJoinsWrongFalsely : Prop := escJoinsRow.holds Tryd.pinned (OpenSpec.ofChange escJoinsWrong)

/-- 'latinerlaw06.EscApart': WHATEVER THE INPUT: true; the input reads as it did. -/
def escApartSpec : ChangeSpec := { name := "escApart", fn := fun _ => fun
  | [d1, d2] => { results := [.lit (.bool true)], args := [d1, d2] }
  | _ => none }
def escApartRow : OpenClaim := { program := "ytgapoofalnakmaadoor", sum := "653289466c03d0ebc63d861e0eddf0ec0928f9b540c8bba2f0328696b2f6b25c", func := "latiner/latinerlaw06.EscApart", spec := "escApart", inPlace := ["internal/reflectlite.ValueOf", "(internal/reflectlite.Value).Type", "(internal/reflectlite.Value).IsNil", "internal/reflectlite.TypeOf", "(internal/reflectlite.Value).Elem", "(internal/reflectlite.Value).Set"], unfollowed := true, recurses := true, named := ["latiner/esc.errText", "latiner/utf.errUtf", "errors.errorType", "latiner/esc.errMark", "latiner/code.errEnd", "latiner/code.errCut", "latiner/code.errBits"], apart := false, laid := [("errors.errorType", laid_errors_errorType), ("latiner/code.errCut", laid_latiner_code_errCut), ("latiner/code.errEnd", laid_latiner_code_errEnd), ("latiner/code.errBits", laid_latiner_code_errBits), ("latiner/utf.errUtf", laid_latiner_utf_errUtf), ("latiner/esc.errText", laid_latiner_esc_errText), ("latiner/esc.errMark", laid_latiner_esc_errMark)] }
def EscApartSaid : Prop := escApartRow.holds Tryd.pinned (OpenSpec.ofChange escApartSpec)

/-- ITS FALSE NEIGHBOUR: 'it returns false'. Refute it at one input. -/
def escApartWrong : ChangeSpec := { name := "escApart", fn := fun _ => fun
  | [d1, d2] => { results := [.lit (.bool false)], args := [d1, d2] }
  | _ => none }
def EscApartWrongFalsely : Prop := escApartRow.holds Tryd.pinned (OpenSpec.ofChange escApartWrong)

/-- 'latinerlaw06.EscPlain': WHATEVER THE INPUT: true; the input reads as it did. -/
def escPlainSpec : ChangeSpec := { name := "escPlain", fn := fun _ => fun
  | [d] => { results := [.lit (.bool true)], args := [d] }
  | _ => none }
def escPlainRow : OpenClaim := { program := "ytgapoofalnakmaadoor", sum := "653289466c03d0ebc63d861e0eddf0ec0928f9b540c8bba2f0328696b2f6b25c", func := "latiner/latinerlaw06.EscPlain", spec := "escPlain", inPlace := ["internal/reflectlite.ValueOf", "(internal/reflectlite.Value).Type", "(internal/reflectlite.Value).IsNil", "internal/reflectlite.TypeOf", "(internal/reflectlite.Value).Elem", "(internal/reflectlite.Value).Set"], unfollowed := true, recurses := true, named := ["latiner/esc.errText", "latiner/utf.errUtf", "errors.errorType", "latiner/esc.errMark", "latiner/code.errEnd", "latiner/code.errCut", "latiner/code.errBits"], apart := false, laid := [("errors.errorType", laid_errors_errorType), ("latiner/code.errCut", laid_latiner_code_errCut), ("latiner/code.errEnd", laid_latiner_code_errEnd), ("latiner/code.errBits", laid_latiner_code_errBits), ("latiner/utf.errUtf", laid_latiner_utf_errUtf), ("latiner/esc.errText", laid_latiner_esc_errText), ("latiner/esc.errMark", laid_latiner_esc_errMark)] }
def EscPlainSaid : Prop := escPlainRow.holds Tryd.pinned (OpenSpec.ofChange escPlainSpec)

/-- ITS FALSE NEIGHBOUR: 'it returns false'. Refute it at one input. -/
def escPlainWrong : ChangeSpec := { name := "escPlain", fn := fun _ => fun
  | [d] => { results := [.lit (.bool false)], args := [d] }
  | _ => none }
def EscPlainWrongFalsely : Prop := escPlainRow.holds Tryd.pinned (OpenSpec.ofChange escPlainWrong)

/- THE SECOND FORM. 'bulk': how many values and letters a reading holds, each counted each time it is reached (what is shared counts as often as it is met; a slice's spare places count too). A statement '..UptoSaid' is the law's where the arguments, and the package variables that the reading takes, are together of bulk at most 1048576: NARROWER than '..Said'. Prove '..Said' where nothing that the law and all that it calls make is longer than what came in: it says more and counts as full. Else prove '..UptoSaid'. A law counts once. -/
mutual
def uptoBulk {H : Type} : DataW H → Nat
  | .lit (.string bytes) => bytes.length + 1
  | .lit _ => 1
  | .nil => 1
  | .ptr d => uptoBulk d + 1
  | .slice elems spare => uptoBulkAll elems + uptoBulkAll spare + 1
  | .agg parts => uptoBulkAll parts + 1
  | .iface _ d => uptoBulk d + 1
  | .map entries => uptoBulkEntries entries + 1
  | .held _ => 1
def uptoBulkAll {H : Type} : List (DataW H) → Nat
  | [] => 0
  | d :: r => uptoBulk d + uptoBulkAll r
def uptoBulkEntries {H : Type} : List (Lit × DataW H) → Nat
  | [] => 0
  | x :: r => uptoBulkEntry x + uptoBulkEntries r
def uptoBulkEntry {H : Type} : Lit × DataW H → Nat
  | (.string bytes, d) => bytes.length + uptoBulk d + 1
  | (_, d) => uptoBulk d + 1
 end
def uptoSmall : (H : Type) → List (DataW H) → Bool := fun _ ds => decide (uptoBulkAll ds ≤ 1048576)
def OpenSpec.upto (s : _root_.Go.ChangeSpec) : _root_.Go.OpenSpec := { _root_.Go.OpenSpec.ofChange s with cond := some uptoSmall }

/-- 'latinerlaw06.EscTells', WHERE WHAT IT READS IS OF BULK AT MOST 1048576: true; the input reads as it did. -/
def escTellsUptoRow : OpenClaim := { program := "ytgapoofalnakmaadoor", sum := "653289466c03d0ebc63d861e0eddf0ec0928f9b540c8bba2f0328696b2f6b25c", func := "latiner/latinerlaw06.EscTells", spec := "escTells", inPlace := ["internal/reflectlite.ValueOf", "(internal/reflectlite.Value).Type", "(internal/reflectlite.Value).IsNil", "internal/reflectlite.TypeOf", "(internal/reflectlite.Value).Elem", "(internal/reflectlite.Value).Set"], unfollowed := true, recurses := true, named := ["latiner/esc.errText", "latiner/utf.errUtf", "errors.errorType", "latiner/esc.errMark", "latiner/code.errEnd", "latiner/code.errCut", "latiner/code.errBits"], apart := false, laid := [("errors.errorType", laid_errors_errorType), ("latiner/code.errCut", laid_latiner_code_errCut), ("latiner/code.errEnd", laid_latiner_code_errEnd), ("latiner/code.errBits", laid_latiner_code_errBits), ("latiner/utf.errUtf", laid_latiner_utf_errUtf), ("latiner/esc.errText", laid_latiner_esc_errText), ("latiner/esc.errMark", laid_latiner_esc_errMark)], narrowed := true }
def EscTellsUptoSaid : Prop := escTellsUptoRow.holds Tryd.pinned (OpenSpec.upto escTellsSpec)

/-- 'latinerlaw06.EscBack', WHERE WHAT IT READS IS OF BULK AT MOST 1048576: true; the input reads as it did. -/
def escBackUptoRow : OpenClaim := { program := "ytgapoofalnakmaadoor", sum := "653289466c03d0ebc63d861e0eddf0ec0928f9b540c8bba2f0328696b2f6b25c", func := "latiner/latinerlaw06.EscBack", spec := "escBack", inPlace := ["internal/reflectlite.ValueOf", "(internal/reflectlite.Value).Type", "(internal/reflectlite.Value).IsNil", "internal/reflectlite.TypeOf", "(internal/reflectlite.Value).Elem", "(internal/reflectlite.Value).Set"], unfollowed := true, recurses := true, named := ["latiner/esc.errText", "latiner/utf.errUtf", "errors.errorType", "latiner/esc.errMark", "latiner/code.errEnd", "latiner/code.errCut", "latiner/code.errBits"], apart := false, laid := [("errors.errorType", laid_errors_errorType), ("latiner/code.errCut", laid_latiner_code_errCut), ("latiner/code.errEnd", laid_latiner_code_errEnd), ("latiner/code.errBits", laid_latiner_code_errBits), ("latiner/utf.errUtf", laid_latiner_utf_errUtf), ("latiner/esc.errText", laid_latiner_esc_errText), ("latiner/esc.errMark", laid_latiner_esc_errMark)], narrowed := true }
def EscBackUptoSaid : Prop := escBackUptoRow.holds Tryd.pinned (OpenSpec.upto escBackSpec)

/-- 'latinerlaw06.EscAgain', WHERE WHAT IT READS IS OF BULK AT MOST 1048576: true; the input reads as it did. -/
def escAgainUptoRow : OpenClaim := { program := "ytgapoofalnakmaadoor", sum := "653289466c03d0ebc63d861e0eddf0ec0928f9b540c8bba2f0328696b2f6b25c", func := "latiner/latinerlaw06.EscAgain", spec := "escAgain", inPlace := ["internal/reflectlite.ValueOf", "(internal/reflectlite.Value).Type", "(internal/reflectlite.Value).IsNil", "internal/reflectlite.TypeOf", "(internal/reflectlite.Value).Elem", "(internal/reflectlite.Value).Set"], unfollowed := true, recurses := true, named := ["latiner/esc.errText", "latiner/utf.errUtf", "errors.errorType", "latiner/esc.errMark", "latiner/code.errEnd", "latiner/code.errCut", "latiner/code.errBits"], apart := false, laid := [("errors.errorType", laid_errors_errorType), ("latiner/code.errCut", laid_latiner_code_errCut), ("latiner/code.errEnd", laid_latiner_code_errEnd), ("latiner/code.errBits", laid_latiner_code_errBits), ("latiner/utf.errUtf", laid_latiner_utf_errUtf), ("latiner/esc.errText", laid_latiner_esc_errText), ("latiner/esc.errMark", laid_latiner_esc_errMark)], narrowed := true }
def EscAgainUptoSaid : Prop := escAgainUptoRow.holds Tryd.pinned (OpenSpec.upto escAgainSpec)

/-- 'latinerlaw06.EscJoins', WHERE WHAT IT READS IS OF BULK AT MOST 1048576: true; the input reads as it did. -/
def escJoinsUptoRow : OpenClaim := { program := "ytgapoofalnakmaadoor", sum := "653289466c03d0ebc63d861e0eddf0ec0928f9b540c8bba2f0328696b2f6b25c", func := "latiner/latinerlaw06.EscJoins", spec := "escJoins", inPlace := ["internal/reflectlite.ValueOf", "(internal/reflectlite.Value).Type", "(internal/reflectlite.Value).IsNil", "internal/reflectlite.TypeOf", "(internal/reflectlite.Value).Elem", "(internal/reflectlite.Value).Set"], unfollowed := true, recurses := true, named := ["latiner/esc.errText", "latiner/utf.errUtf", "errors.errorType", "latiner/esc.errMark", "latiner/code.errEnd", "latiner/code.errCut", "latiner/code.errBits"], apart := false, laid := [("errors.errorType", laid_errors_errorType), ("latiner/code.errCut", laid_latiner_code_errCut), ("latiner/code.errEnd", laid_latiner_code_errEnd), ("latiner/code.errBits", laid_latiner_code_errBits), ("latiner/utf.errUtf", laid_latiner_utf_errUtf), ("latiner/esc.errText", laid_latiner_esc_errText), ("latiner/esc.errMark", laid_latiner_esc_errMark)], narrowed := true }
def EscJoinsUptoSaid : Prop := escJoinsUptoRow.holds Tryd.pinned (OpenSpec.upto escJoinsSpec)

/-- 'latinerlaw06.EscApart', WHERE WHAT IT READS IS OF BULK AT MOST 1048576: true; the input reads as it did. -/
def escApartUptoRow : OpenClaim := { program := "ytgapoofalnakmaadoor", sum := "653289466c03d0ebc63d861e0eddf0ec0928f9b540c8bba2f0328696b2f6b25c", func := "latiner/latinerlaw06.EscApart", spec := "escApart", inPlace := ["internal/reflectlite.ValueOf", "(internal/reflectlite.Value).Type", "(internal/reflectlite.Value).IsNil", "internal/reflectlite.TypeOf", "(internal/reflectlite.Value).Elem", "(internal/reflectlite.Value).Set"], unfollowed := true, recurses := true, named := ["latiner/esc.errText", "latiner/utf.errUtf", "errors.errorType", "latiner/esc.errMark", "latiner/code.errEnd", "latiner/code.errCut", "latiner/code.errBits"], apart := false, laid := [("errors.errorType", laid_errors_errorType), ("latiner/code.errCut", laid_latiner_code_errCut), ("latiner/code.errEnd", laid_latiner_code_errEnd), ("latiner/code.errBits", laid_latiner_code_errBits), ("latiner/utf.errUtf", laid_latiner_utf_errUtf), ("latiner/esc.errText", laid_latiner_esc_errText), ("latiner/esc.errMark", laid_latiner_esc_errMark)], narrowed := true }
def EscApartUptoSaid : Prop := escApartUptoRow.holds Tryd.pinned (OpenSpec.upto escApartSpec)

/-- 'latinerlaw06.EscPlain', WHERE WHAT IT READS IS OF BULK AT MOST 1048576: true; the input reads as it did. -/
def escPlainUptoRow : OpenClaim := { program := "ytgapoofalnakmaadoor", sum := "653289466c03d0ebc63d861e0eddf0ec0928f9b540c8bba2f0328696b2f6b25c", func := "latiner/latinerlaw06.EscPlain", spec := "escPlain", inPlace := ["internal/reflectlite.ValueOf", "(internal/reflectlite.Value).Type", "(internal/reflectlite.Value).IsNil", "internal/reflectlite.TypeOf", "(internal/reflectlite.Value).Elem", "(internal/reflectlite.Value).Set"], unfollowed := true, recurses := true, named := ["latiner/esc.errText", "latiner/utf.errUtf", "errors.errorType", "latiner/esc.errMark", "latiner/code.errEnd", "latiner/code.errCut", "latiner/code.errBits"], apart := false, laid := [("errors.errorType", laid_errors_errorType), ("latiner/code.errCut", laid_latiner_code_errCut), ("latiner/code.errEnd", laid_latiner_code_errEnd), ("latiner/code.errBits", laid_latiner_code_errBits), ("latiner/utf.errUtf", laid_latiner_utf_errUtf), ("latiner/esc.errText", laid_latiner_esc_errText), ("latiner/esc.errMark", laid_latiner_esc_errMark)], narrowed := true }
def EscPlainUptoSaid : Prop := escPlainUptoRow.holds Tryd.pinned (OpenSpec.upto escPlainSpec)

end Rows
end Go.Proofs.YtgapoofalnakmaaDoor
