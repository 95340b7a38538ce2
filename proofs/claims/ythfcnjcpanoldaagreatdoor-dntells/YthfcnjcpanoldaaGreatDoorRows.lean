/-
  NARROWER THAN 'FOR EVERY INPUT', by the rows' own cells (each row's printed sentence says how): DnTells: laid · DnBack: laid · DnUnder: laid · DnJoins: laid · DnParents: laid · DnValues: laid · DnDigits: laid.
  DERIVED. THE GIVEN ROWS OF THIS SEAT. 7 by the template 'for every input the law returns true; each argument reads behind the call as it read before'; 0 by the template 'total and deterministic' (their statements: YthfcnjcpanoldaaGreatDoorTotals.lean).
  GIVEN WITH THE SEED: the statements are not yours to turn. If you find one false, say at which input.
  Laid BY PROGRAM, IN A SANDBOX (cutbox-rows.mjs): the forced cells as the released guide's own fill.sh prints them over the translation a00952f682084561… (all of the seat's roots in one cut). By AI agents, Wed Nov 11 2026. No macro, syntax, notation, axiom, sorry.
-/
import Derived.Test.YthfcnjcpanoldaaGreatDoorChecked
import GoSem.Claim
import GoSem.ClaimJoined
import GoSem.ClaimMapViews
import Derived.JoinedTies
import Derived.KernelRfl
namespace Go.Proofs.YthfcnjcpanoldaaGreatDoor
/- THE CELL 'sum', in the pinned program and in every row, IS THE sha256 OF THE DUMP (.gsa) THAT YthfcnjcpanoldaaGreatDoorProg.lean LOADS. Nothing in Lean hashes anything: it is a label: what it is worth is what the hold of that sum in a sandbox is worth. -/
noncomputable def Tryz.pinned : Pinned := { name := "ythfcnjcpanoldaagreatdoor", sum := "a00952f682084561fc73d446c0426664c720424c9b51ace28115c3468d2ca4fe", checked := Tryz.checked }
namespace Rows
def none {H : Type} : Left H := { results := [], args := [] }

/- WHAT THE LISTED PACKAGE-LEVEL VARIABLES READ AS WHEN THE CALL BEGINS. Each datum BY PROGRAM (the guide's laid-datum.mjs) off the statement by which the dump's own 'gosem.cut.vars' lays the variable. In a bare row this is a premise. The card (YthfcnjcpanoldaaGreatDoorCards.lean) ties it to the program's text. -/
def laid_errors_errorType {H : Type} : DataW H := .iface "internal/reflectlite.rtype" (.agg [.ptr (.lit (.string [101, 114, 114, 111, 114]))])
def laid_latiner_code_errCut {H : Type} : DataW H := .iface "*errors.errorString" (.ptr (.agg [.lit (.string [97, 32, 103, 114, 111, 117, 112, 39, 115, 32, 115, 105, 103, 110, 115, 32, 109, 105, 115, 115])]))
def laid_latiner_code_errEnd {H : Type} : DataW H := .iface "*errors.errorString" (.ptr (.agg [.lit (.string [115, 105, 103, 110, 115, 32, 98, 101, 104, 105, 110, 100, 32, 116, 104, 101, 32, 101, 110, 100])]))
def laid_latiner_code_errBits {H : Type} : DataW H := .iface "*errors.errorString" (.ptr (.agg [.lit (.string [98, 105, 116, 115, 32, 116, 104, 97, 116, 32, 116, 101, 108, 108, 32, 110, 111, 116, 104, 105, 110, 103, 32, 97, 114, 101, 32, 110, 111, 116, 32, 48])]))
def laid_latiner_utf_errUtf {H : Type} : DataW H := .iface "*errors.errorString" (.ptr (.agg [.lit (.string [110, 111, 32, 115, 105, 103, 110, 39, 115, 32, 98, 121, 116, 101, 115, 32, 98, 101, 103, 105, 110, 32, 115, 111])]))
def laid_latiner_esc_errText {H : Type} : DataW H := .iface "*errors.errorString" (.ptr (.agg [.lit (.string [110, 111, 32, 115, 105, 103, 110, 39, 115, 32, 98, 121, 116, 101, 115, 32, 98, 101, 103, 105, 110, 32, 115, 111])]))
def laid_latiner_esc_errMark {H : Type} : DataW H := .iface "*errors.errorString" (.ptr (.agg [.lit (.string [97, 32, 98, 97, 99, 107, 115, 108, 97, 115, 104, 32, 115, 116, 97, 110, 100, 115, 32, 97, 104, 101, 97, 100, 32, 111, 102, 32, 110, 111, 116, 104, 105, 110, 103, 32, 116, 104, 97, 116, 32, 105, 116, 32, 109, 97, 121])]))
def laid_latiner_dn_errCount {H : Type} : DataW H := .iface "*errors.errorString" (.ptr (.agg [.lit (.string [116, 111, 111, 32, 109, 97, 110, 121, 32, 112, 97, 114, 116, 115, 44, 32, 111, 114, 32, 110, 111, 110, 101])]))
def laid_latiner_dn_errType {H : Type} : DataW H := .iface "*errors.errorString" (.ptr (.agg [.lit (.string [110, 111, 32, 116, 121, 112, 101])]))
def laid_latiner_dn_errLong {H : Type} : DataW H := .iface "*errors.errorString" (.ptr (.agg [.lit (.string [116, 104, 101, 32, 118, 97, 108, 117, 101, 32, 105, 115, 32, 116, 111, 111, 32, 108, 111, 110, 103])]))
def laid_latiner_dn_errPiece {H : Type} : DataW H := .iface "*errors.errorString" (.ptr (.agg [.lit (.string [110, 111, 32, 115, 105, 103, 110, 32, 98, 101, 116, 119, 101, 101, 110, 32, 97, 32, 116, 121, 112, 101, 32, 97, 110, 100, 32, 97, 32, 118, 97, 108, 117, 101])]))

/-- 'latinerlaw07.DnTells': WHATEVER THE INPUT: true; the input reads as it did. -/
def dnTellsSpec : ChangeSpec := { name := "dnTells", fn := fun _ => fun
  | [d1, d2, d3] => { results := [.lit (.bool true)], args := [d1, d2, d3] }
  | _ => none }
def dnTellsRow : OpenClaim := { program := "ythfcnjcpanoldaagreatdoor", sum := "a00952f682084561fc73d446c0426664c720424c9b51ace28115c3468d2ca4fe", func := "latiner/latinerlaw07.DnTells", spec := "dnTells", inPlace := ["internal/reflectlite.ValueOf", "(internal/reflectlite.Value).Type", "(internal/reflectlite.Value).IsNil", "internal/reflectlite.TypeOf", "(internal/reflectlite.Value).Elem", "(internal/reflectlite.Value).Set", "internal/abi.NoEscape", "internal/bytealg.MakeNoZero", "internal/bytealg.IndexByteString", "internal/bytealg.IndexString"], unfollowed := true, recurses := true, named := ["latiner/dn.errCount", "latiner/dn.errType", "latiner/dn.errLong", "latiner/dn.errPiece", "errors.errorType", "internal/bytealg.MaxLen", "latiner/esc.errText", "latiner/utf.errUtf", "latiner/esc.errMark", "latiner/code.errEnd", "latiner/code.errCut", "latiner/code.errBits"], apart := false, laid := [("errors.errorType", laid_errors_errorType), ("latiner/code.errCut", laid_latiner_code_errCut), ("latiner/code.errEnd", laid_latiner_code_errEnd), ("latiner/code.errBits", laid_latiner_code_errBits), ("latiner/utf.errUtf", laid_latiner_utf_errUtf), ("latiner/esc.errText", laid_latiner_esc_errText), ("latiner/esc.errMark", laid_latiner_esc_errMark), ("latiner/dn.errCount", laid_latiner_dn_errCount), ("latiner/dn.errType", laid_latiner_dn_errType), ("latiner/dn.errLong", laid_latiner_dn_errLong), ("latiner/dn.errPiece", laid_latiner_dn_errPiece)] }
def DnTellsSaid : Prop := dnTellsRow.holds Tryz.pinned (OpenSpec.ofChange dnTellsSpec)

/-- ITS FALSE NEIGHBOUR: 'it returns false'. Refute it at one input. -/
def dnTellsWrong : ChangeSpec := { name := "dnTells", fn := fun _ => fun
  | [d1, d2, d3] => { results := [.lit (.bool false)], args := [d1, d2, d3] }
  | _ => none }
def DnTellsWrongFalsely : Prop := dnTellsRow.holds Tryz.pinned (OpenSpec.ofChange dnTellsWrong)

/-- 'latinerlaw07.DnBack': WHATEVER THE INPUT: true; the input reads as it did. -/
def dnBackSpec : ChangeSpec := { name := "dnBack", fn := fun _ => fun
  | [d1, d2] => { results := [.lit (.bool true)], args := [d1, d2] }
  | _ => none }
def dnBackRow : OpenClaim := { program := "ythfcnjcpanoldaagreatdoor", sum := "a00952f682084561fc73d446c0426664c720424c9b51ace28115c3468d2ca4fe", func := "latiner/latinerlaw07.DnBack", spec := "dnBack", inPlace := ["internal/reflectlite.ValueOf", "(internal/reflectlite.Value).Type", "(internal/reflectlite.Value).IsNil", "internal/reflectlite.TypeOf", "(internal/reflectlite.Value).Elem", "(internal/reflectlite.Value).Set", "internal/abi.NoEscape", "internal/bytealg.MakeNoZero", "internal/bytealg.IndexByteString", "internal/bytealg.IndexString"], unfollowed := true, recurses := true, named := ["latiner/dn.errCount", "latiner/dn.errType", "latiner/dn.errLong", "latiner/dn.errPiece", "errors.errorType", "internal/bytealg.MaxLen", "latiner/esc.errText", "latiner/utf.errUtf", "latiner/esc.errMark", "latiner/code.errEnd", "latiner/code.errCut", "latiner/code.errBits"], apart := false, laid := [("errors.errorType", laid_errors_errorType), ("latiner/code.errCut", laid_latiner_code_errCut), ("latiner/code.errEnd", laid_latiner_code_errEnd), ("latiner/code.errBits", laid_latiner_code_errBits), ("latiner/utf.errUtf", laid_latiner_utf_errUtf), ("latiner/esc.errText", laid_latiner_esc_errText), ("latiner/esc.errMark", laid_latiner_esc_errMark), ("latiner/dn.errCount", laid_latiner_dn_errCount), ("latiner/dn.errType", laid_latiner_dn_errType), ("latiner/dn.errLong", laid_latiner_dn_errLong), ("latiner/dn.errPiece", laid_latiner_dn_errPiece)] }
def DnBackSaid : Prop := dnBackRow.holds Tryz.pinned (OpenSpec.ofChange dnBackSpec)

/-- ITS FALSE NEIGHBOUR: 'it returns false'. Refute it at one input. -/
def dnBackWrong : ChangeSpec := { name := "dnBack", fn := fun _ => fun
  | [d1, d2] => { results := [.lit (.bool false)], args := [d1, d2] }
  | _ => none }
def DnBackWrongFalsely : Prop := dnBackRow.holds Tryz.pinned (OpenSpec.ofChange dnBackWrong)

/-- 'latinerlaw07.DnUnder': WHATEVER THE INPUT: true; the input reads as it did. -/
def dnUnderSpec : ChangeSpec := { name := "dnUnder", fn := fun _ => fun
  | [d1, d2, d3] => { results := [.lit (.bool true)], args := [d1, d2, d3] }
  | _ => none }
def dnUnderRow : OpenClaim := { program := "ythfcnjcpanoldaagreatdoor", sum := "a00952f682084561fc73d446c0426664c720424c9b51ace28115c3468d2ca4fe", func := "latiner/latinerlaw07.DnUnder", spec := "dnUnder", inPlace := ["internal/reflectlite.ValueOf", "(internal/reflectlite.Value).Type", "(internal/reflectlite.Value).IsNil", "internal/reflectlite.TypeOf", "(internal/reflectlite.Value).Elem", "(internal/reflectlite.Value).Set", "internal/abi.NoEscape", "internal/bytealg.MakeNoZero", "internal/bytealg.IndexByteString", "internal/bytealg.IndexString"], unfollowed := true, recurses := true, named := ["latiner/dn.errCount", "latiner/dn.errType", "latiner/dn.errLong", "latiner/dn.errPiece", "errors.errorType", "internal/bytealg.MaxLen", "latiner/esc.errText", "latiner/utf.errUtf", "latiner/esc.errMark", "latiner/code.errEnd", "latiner/code.errCut", "latiner/code.errBits"], apart := false, laid := [("errors.errorType", laid_errors_errorType), ("latiner/code.errCut", laid_latiner_code_errCut), ("latiner/code.errEnd", laid_latiner_code_errEnd), ("latiner/code.errBits", laid_latiner_code_errBits), ("latiner/utf.errUtf", laid_latiner_utf_errUtf), ("latiner/esc.errText", laid_latiner_esc_errText), ("latiner/esc.errMark", laid_latiner_esc_errMark), ("latiner/dn.errCount", laid_latiner_dn_errCount), ("latiner/dn.errType", laid_latiner_dn_errType), ("latiner/dn.errLong", laid_latiner_dn_errLong), ("latiner/dn.errPiece", laid_latiner_dn_errPiece)] }
def DnUnderSaid : Prop := dnUnderRow.holds Tryz.pinned (OpenSpec.ofChange dnUnderSpec)

/-- ITS FALSE NEIGHBOUR: 'it returns false'. Refute it at one input. -/
def dnUnderWrong : ChangeSpec := { name := "dnUnder", fn := fun _ => fun
  | [d1, d2, d3] => { results := [.lit (.bool false)], args := [d1, d2, d3] }
  | _ => none }
def DnUnderWrongFalsely : Prop := dnUnderRow.holds Tryz.pinned (OpenSpec.ofChange dnUnderWrong)

/-- 'latinerlaw07.DnJoins': WHATEVER THE INPUT: true; the input reads as it did. -/
def dnJoinsSpec : ChangeSpec := { name := "dnJoins", fn := fun _ => fun
  | [d1, d2] => { results := [.lit (.bool true)], args := [d1, d2] }
  | _ => none }
def dnJoinsRow : OpenClaim := { program := "ythfcnjcpanoldaagreatdoor", sum := "a00952f682084561fc73d446c0426664c720424c9b51ace28115c3468d2ca4fe", func := "latiner/latinerlaw07.DnJoins", spec := "dnJoins", inPlace := ["internal/reflectlite.ValueOf", "(internal/reflectlite.Value).Type", "(internal/reflectlite.Value).IsNil", "internal/reflectlite.TypeOf", "(internal/reflectlite.Value).Elem", "(internal/reflectlite.Value).Set", "internal/abi.NoEscape", "internal/bytealg.MakeNoZero", "internal/bytealg.IndexByteString", "internal/bytealg.IndexString"], unfollowed := true, recurses := true, named := ["latiner/dn.errCount", "latiner/dn.errType", "latiner/dn.errLong", "latiner/dn.errPiece", "errors.errorType", "internal/bytealg.MaxLen", "latiner/esc.errText", "latiner/utf.errUtf", "latiner/esc.errMark", "latiner/code.errEnd", "latiner/code.errCut", "latiner/code.errBits"], apart := false, laid := [("errors.errorType", laid_errors_errorType), ("latiner/code.errCut", laid_latiner_code_errCut), ("latiner/code.errEnd", laid_latiner_code_errEnd), ("latiner/code.errBits", laid_latiner_code_errBits), ("latiner/utf.errUtf", laid_latiner_utf_errUtf), ("latiner/esc.errText", laid_latiner_esc_errText), ("latiner/esc.errMark", laid_latiner_esc_errMark), ("latiner/dn.errCount", laid_latiner_dn_errCount), ("latiner/dn.errType", laid_latiner_dn_errType), ("latiner/dn.errLong", laid_latiner_dn_errLong), ("latiner/dn.errPiece", laid_latiner_dn_errPiece)] }
def DnJoinsSaid : Prop := dnJoinsRow.holds Tryz.pinned (OpenSpec.ofChange dnJoinsSpec)

/-- ITS FALSE NEIGHBOUR: 'it returns false'. Refute it at one input. -/
def dnJoinsWrong : ChangeSpec := { name := "dnJoins", fn := fun _ => fun
  | [d1, d2] => { results := [.lit (.bool false)], args := [d1, d2] }
  | _ => none }
def DnJoinsWrongFalsely : Prop := dnJoinsRow.holds Tryz.pinned (OpenSpec.ofChange dnJoinsWrong)

/-- 'latinerlaw07.DnParents': WHATEVER THE INPUT: true; the input reads as it did. -/
def dnParentsSpec : ChangeSpec := { name := "dnParents", fn := fun _ => fun
  | [d] => { results := [.lit (.bool true)], args := [d] }
  | _ => none }
def dnParentsRow : OpenClaim := { program := "ythfcnjcpanoldaagreatdoor", sum := "a00952f682084561fc73d446c0426664c720424c9b51ace28115c3468d2ca4fe", func := "latiner/latinerlaw07.DnParents", spec := "dnParents", inPlace := ["internal/reflectlite.ValueOf", "(internal/reflectlite.Value).Type", "(internal/reflectlite.Value).IsNil", "internal/reflectlite.TypeOf", "(internal/reflectlite.Value).Elem", "(internal/reflectlite.Value).Set", "internal/abi.NoEscape", "internal/bytealg.MakeNoZero", "internal/bytealg.IndexByteString", "internal/bytealg.IndexString"], unfollowed := true, recurses := true, named := ["latiner/dn.errCount", "latiner/dn.errType", "latiner/dn.errLong", "latiner/dn.errPiece", "errors.errorType", "internal/bytealg.MaxLen", "latiner/esc.errText", "latiner/utf.errUtf", "latiner/esc.errMark", "latiner/code.errEnd", "latiner/code.errCut", "latiner/code.errBits"], apart := false, laid := [("errors.errorType", laid_errors_errorType), ("latiner/code.errCut", laid_latiner_code_errCut), ("latiner/code.errEnd", laid_latiner_code_errEnd), ("latiner/code.errBits", laid_latiner_code_errBits), ("latiner/utf.errUtf", laid_latiner_utf_errUtf), ("latiner/esc.errText", laid_latiner_esc_errText), ("latiner/esc.errMark", laid_latiner_esc_errMark), ("latiner/dn.errCount", laid_latiner_dn_errCount), ("latiner/dn.errType", laid_latiner_dn_errType), ("latiner/dn.errLong", laid_latiner_dn_errLong), ("latiner/dn.errPiece", laid_latiner_dn_errPiece)] }
def DnParentsSaid : Prop := dnParentsRow.holds Tryz.pinned (OpenSpec.ofChange dnParentsSpec)

/-- ITS FALSE NEIGHBOUR: 'it returns false'. Refute it at one input. -/
def dnParentsWrong : ChangeSpec := { name := "dnParents", fn := fun _ => fun
  | [d] => { results := [.lit (.bool false)], args := [d] }
  | _ => none }
def DnParentsWrongFalsely : Prop := dnParentsRow.holds Tryz.pinned (OpenSpec.ofChange dnParentsWrong)

/-- 'latinerlaw07.DnValues': WHATEVER THE INPUT: true; the input reads as it did. -/
def dnValuesSpec : ChangeSpec := { name := "dnValues", fn := fun _ => fun
  | [d1, d2] => { results := [.lit (.bool true)], args := [d1, d2] }
  | _ => none }
def dnValuesRow : OpenClaim := { program := "ythfcnjcpanoldaagreatdoor", sum := "a00952f682084561fc73d446c0426664c720424c9b51ace28115c3468d2ca4fe", func := "latiner/latinerlaw07.DnValues", spec := "dnValues", inPlace := ["internal/reflectlite.ValueOf", "(internal/reflectlite.Value).Type", "(internal/reflectlite.Value).IsNil", "internal/reflectlite.TypeOf", "(internal/reflectlite.Value).Elem", "(internal/reflectlite.Value).Set", "internal/abi.NoEscape", "internal/bytealg.MakeNoZero", "internal/bytealg.IndexByteString", "internal/bytealg.IndexString"], unfollowed := true, recurses := true, named := ["latiner/dn.errCount", "latiner/dn.errType", "latiner/dn.errLong", "latiner/dn.errPiece", "errors.errorType", "internal/bytealg.MaxLen", "latiner/esc.errText", "latiner/utf.errUtf", "latiner/esc.errMark", "latiner/code.errEnd", "latiner/code.errCut", "latiner/code.errBits"], apart := false, laid := [("errors.errorType", laid_errors_errorType), ("latiner/code.errCut", laid_latiner_code_errCut), ("latiner/code.errEnd", laid_latiner_code_errEnd), ("latiner/code.errBits", laid_latiner_code_errBits), ("latiner/utf.errUtf", laid_latiner_utf_errUtf), ("latiner/esc.errText", laid_latiner_esc_errText), ("latiner/esc.errMark", laid_latiner_esc_errMark), ("latiner/dn.errCount", laid_latiner_dn_errCount), ("latiner/dn.errType", laid_latiner_dn_errType), ("latiner/dn.errLong", laid_latiner_dn_errLong), ("latiner/dn.errPiece", laid_latiner_dn_errPiece)] }
def DnValuesSaid : Prop := dnValuesRow.holds Tryz.pinned (OpenSpec.ofChange dnValuesSpec)

/-- ITS FALSE NEIGHBOUR: 'it returns false'. Refute it at one input. -/
def dnValuesWrong : ChangeSpec := { name := "dnValues", fn := fun _ => fun
  | [d1, d2] => { results := [.lit (.bool false)], args := [d1, d2] }
  | _ => none }
def DnValuesWrongFalsely : Prop := dnValuesRow.holds Tryz.pinned (OpenSpec.ofChange dnValuesWrong)

/-- 'latinerlaw07.DnDigits': WHATEVER THE INPUT: true; the input reads as it did. -/
def dnDigitsSpec : ChangeSpec := { name := "dnDigits", fn := fun _ => fun
  | [d1, d2] => { results := [.lit (.bool true)], args := [d1, d2] }
  | _ => none }
def dnDigitsRow : OpenClaim := { program := "ythfcnjcpanoldaagreatdoor", sum := "a00952f682084561fc73d446c0426664c720424c9b51ace28115c3468d2ca4fe", func := "latiner/latinerlaw07.DnDigits", spec := "dnDigits", inPlace := ["internal/reflectlite.ValueOf", "(internal/reflectlite.Value).Type", "(internal/reflectlite.Value).IsNil", "internal/reflectlite.TypeOf", "(internal/reflectlite.Value).Elem", "(internal/reflectlite.Value).Set", "internal/abi.NoEscape", "internal/bytealg.MakeNoZero", "internal/bytealg.IndexByteString", "internal/bytealg.IndexString"], unfollowed := true, recurses := true, named := ["latiner/dn.errCount", "latiner/dn.errType", "latiner/dn.errLong", "latiner/dn.errPiece", "errors.errorType", "internal/bytealg.MaxLen", "latiner/esc.errText", "latiner/utf.errUtf", "latiner/esc.errMark", "latiner/code.errEnd", "latiner/code.errCut", "latiner/code.errBits"], apart := false, laid := [("errors.errorType", laid_errors_errorType), ("latiner/code.errCut", laid_latiner_code_errCut), ("latiner/code.errEnd", laid_latiner_code_errEnd), ("latiner/code.errBits", laid_latiner_code_errBits), ("latiner/utf.errUtf", laid_latiner_utf_errUtf), ("latiner/esc.errText", laid_latiner_esc_errText), ("latiner/esc.errMark", laid_latiner_esc_errMark), ("latiner/dn.errCount", laid_latiner_dn_errCount), ("latiner/dn.errType", laid_latiner_dn_errType), ("latiner/dn.errLong", laid_latiner_dn_errLong), ("latiner/dn.errPiece", laid_latiner_dn_errPiece)] }
def DnDigitsSaid : Prop := dnDigitsRow.holds Tryz.pinned (OpenSpec.ofChange dnDigitsSpec)

/-- ITS FALSE NEIGHBOUR: 'it returns false'. Refute it at one input. -/
def dnDigitsWrong : ChangeSpec := { name := "dnDigits", fn := fun _ => fun
  | [d1, d2] => { results := [.lit (.bool false)], args := [d1, d2] }
  | _ => none }
def DnDigitsWrongFalsely : Prop := dnDigitsRow.holds Tryz.pinned (OpenSpec.ofChange dnDigitsWrong)

/- THE SECOND FORM. 'bulk': how many values and letters a reading holds, each counted each time it is reached (what is shared counts as often as it is met; a slice's spare places count too). A statement '..UptoSaid' is the law's where the arguments, and the package variables that the reading takes, are together of bulk at most 1048576: NARROWER than '..Said'. Prove '..Said' where nothing that the law and all that it calls make is longer than what came in: it says more and counts as full. Else prove '..UptoSaid'. A law counts once. -/
mutual
def uptoBulk {H : Type} : DataW H → Nat
  | .lit (.string bytes) => bytes.length + 1
  | .lit _ => 1
  | .nil => 1
  | .ptr d => uptoBulk d + 1
  | .slice elems spare => uptoBulkAll elems + uptoBulkAll spare + 1
  | .agg parts => uptoBulkAll parts + 1
  | .iface _ d => uptoBulk d + 1
  | .map entries => uptoBulkEntries entries + 1
  | .held _ => 1
def uptoBulkAll {H : Type} : List (DataW H) → Nat
  | [] => 0
  | d :: r => uptoBulk d + uptoBulkAll r
def uptoBulkEntries {H : Type} : List (Lit × DataW H) → Nat
  | [] => 0
  | x :: r => uptoBulkEntry x + uptoBulkEntries r
def uptoBulkEntry {H : Type} : Lit × DataW H → Nat
  | (.string bytes, d) => bytes.length + uptoBulk d + 1
  | (_, d) => uptoBulk d + 1
 end
def uptoSmall : (H : Type) → List (DataW H) → Bool := fun _ ds => decide (uptoBulkAll ds ≤ 1048576)
def OpenSpec.upto (s : _root_.Go.ChangeSpec) : _root_.Go.OpenSpec := { _root_.Go.OpenSpec.ofChange s with cond := some uptoSmall }

/-- 'latinerlaw07.DnTells', WHERE WHAT IT READS IS OF BULK AT MOST 1048576: true; the input reads as it did. -/
def dnTellsUptoRow : OpenClaim := { program := "ythfcnjcpanoldaagreatdoor", sum := "a00952f682084561fc73d446c0426664c720424c9b51ace28115c3468d2ca4fe", func := "latiner/latinerlaw07.DnTells", spec := "dnTells", inPlace := ["internal/reflectlite.ValueOf", "(internal/reflectlite.Value).Type", "(internal/reflectlite.Value).IsNil", "internal/reflectlite.TypeOf", "(internal/reflectlite.Value).Elem", "(internal/reflectlite.Value).Set", "internal/abi.NoEscape", "internal/bytealg.MakeNoZero", "internal/bytealg.IndexByteString", "internal/bytealg.IndexString"], unfollowed := true, recurses := true, named := ["latiner/dn.errCount", "latiner/dn.errType", "latiner/dn.errLong", "latiner/dn.errPiece", "errors.errorType", "internal/bytealg.MaxLen", "latiner/esc.errText", "latiner/utf.errUtf", "latiner/esc.errMark", "latiner/code.errEnd", "latiner/code.errCut", "latiner/code.errBits"], apart := false, laid := [("errors.errorType", laid_errors_errorType), ("latiner/code.errCut", laid_latiner_code_errCut), ("latiner/code.errEnd", laid_latiner_code_errEnd), ("latiner/code.errBits", laid_latiner_code_errBits), ("latiner/utf.errUtf", laid_latiner_utf_errUtf), ("latiner/esc.errText", laid_latiner_esc_errText), ("latiner/esc.errMark", laid_latiner_esc_errMark), ("latiner/dn.errCount", laid_latiner_dn_errCount), ("latiner/dn.errType", laid_latiner_dn_errType), ("latiner/dn.errLong", laid_latiner_dn_errLong), ("latiner/dn.errPiece", laid_latiner_dn_errPiece)], narrowed := true }
def DnTellsUptoSaid : Prop := dnTellsUptoRow.holds Tryz.pinned (OpenSpec.upto dnTellsSpec)

/-- 'latinerlaw07.DnBack', WHERE WHAT IT READS IS OF BULK AT MOST 1048576: true; the input reads as it did. -/
def dnBackUptoRow : OpenClaim := { program := "ythfcnjcpanoldaagreatdoor", sum := "a00952f682084561fc73d446c0426664c720424c9b51ace28115c3468d2ca4fe", func := "latiner/latinerlaw07.DnBack", spec := "dnBack", inPlace := ["internal/reflectlite.ValueOf", "(internal/reflectlite.Value).Type", "(internal/reflectlite.Value).IsNil", "internal/reflectlite.TypeOf", "(internal/reflectlite.Value).Elem", "(internal/reflectlite.Value).Set", "internal/abi.NoEscape", "internal/bytealg.MakeNoZero", "internal/bytealg.IndexByteString", "internal/bytealg.IndexString"], unfollowed := true, recurses := true, named := ["latiner/dn.errCount", "latiner/dn.errType", "latiner/dn.errLong", "latiner/dn.errPiece", "errors.errorType", "internal/bytealg.MaxLen", "latiner/esc.errText", "latiner/utf.errUtf", "latiner/esc.errMark", "latiner/code.errEnd", "latiner/code.errCut", "latiner/code.errBits"], apart := false, laid := [("errors.errorType", laid_errors_errorType), ("latiner/code.errCut", laid_latiner_code_errCut), ("latiner/code.errEnd", laid_latiner_code_errEnd), ("latiner/code.errBits", laid_latiner_code_errBits), ("latiner/utf.errUtf", laid_latiner_utf_errUtf), ("latiner/esc.errText", laid_latiner_esc_errText), ("latiner/esc.errMark", laid_latiner_esc_errMark), ("latiner/dn.errCount", laid_latiner_dn_errCount), ("latiner/dn.errType", laid_latiner_dn_errType), ("latiner/dn.errLong", laid_latiner_dn_errLong), ("latiner/dn.errPiece", laid_latiner_dn_errPiece)], narrowed := true }
def DnBackUptoSaid : Prop := dnBackUptoRow.holds Tryz.pinned (OpenSpec.upto dnBackSpec)

/-- 'latinerlaw07.DnUnder', WHERE WHAT IT READS IS OF BULK AT MOST 1048576: true; the input reads as it did. -/
def dnUnderUptoRow : OpenClaim := { program := "ythfcnjcpanoldaagreatdoor", sum := "a00952f682084561fc73d446c0426664c720424c9b51ace28115c3468d2ca4fe", func := "latiner/latinerlaw07.DnUnder", spec := "dnUnder", inPlace := ["internal/reflectlite.ValueOf", "(internal/reflectlite.Value).Type", "(internal/reflectlite.Value).IsNil", "internal/reflectlite.TypeOf", "(internal/reflectlite.Value).Elem", "(internal/reflectlite.Value).Set", "internal/abi.NoEscape", "internal/bytealg.MakeNoZero", "internal/bytealg.IndexByteString", "internal/bytealg.IndexString"], unfollowed := true, recurses := true, named := ["latiner/dn.errCount", "latiner/dn.errType", "latiner/dn.errLong", "latiner/dn.errPiece", "errors.errorType", "internal/bytealg.MaxLen", "latiner/esc.errText", "latiner/utf.errUtf", "latiner/esc.errMark", "latiner/code.errEnd", "latiner/code.errCut", "latiner/code.errBits"], apart := false, laid := [("errors.errorType", laid_errors_errorType), ("latiner/code.errCut", laid_latiner_code_errCut), ("latiner/code.errEnd", laid_latiner_code_errEnd), ("latiner/code.errBits", laid_latiner_code_errBits), ("latiner/utf.errUtf", laid_latiner_utf_errUtf), ("latiner/esc.errText", laid_latiner_esc_errText), ("latiner/esc.errMark", laid_latiner_esc_errMark), ("latiner/dn.errCount", laid_latiner_dn_errCount), ("latiner/dn.errType", laid_latiner_dn_errType), ("latiner/dn.errLong", laid_latiner_dn_errLong), ("latiner/dn.errPiece", laid_latiner_dn_errPiece)], narrowed := true }
def DnUnderUptoSaid : Prop := dnUnderUptoRow.holds Tryz.pinned (OpenSpec.upto dnUnderSpec)

/-- 'latinerlaw07.DnJoins', WHERE WHAT IT READS IS OF BULK AT MOST 1048576: true; the input reads as it did. -/
def dnJoinsUptoRow : OpenClaim := { program := "ythfcnjcpanoldaagreatdoor", sum := "a00952f682084561fc73d446c0426664c720424c9b51ace28115c3468d2ca4fe", func := "latiner/latinerlaw07.DnJoins", spec := "dnJoins", inPlace := ["internal/reflectlite.ValueOf", "(internal/reflectlite.Value).Type", "(internal/reflectlite.Value).IsNil", "internal/reflectlite.TypeOf", "(internal/reflectlite.Value).Elem", "(internal/reflectlite.Value).Set", "internal/abi.NoEscape", "internal/bytealg.MakeNoZero", "internal/bytealg.IndexByteString", "internal/bytealg.IndexString"], unfollowed := true, recurses := true, named := ["latiner/dn.errCount", "latiner/dn.errType", "latiner/dn.errLong", "latiner/dn.errPiece", "errors.errorType", "internal/bytealg.MaxLen", "latiner/esc.errText", "latiner/utf.errUtf", "latiner/esc.errMark", "latiner/code.errEnd", "latiner/code.errCut", "latiner/code.errBits"], apart := false, laid := [("errors.errorType", laid_errors_errorType), ("latiner/code.errCut", laid_latiner_code_errCut), ("latiner/code.errEnd", laid_latiner_code_errEnd), ("latiner/code.errBits", laid_latiner_code_errBits), ("latiner/utf.errUtf", laid_latiner_utf_errUtf), ("latiner/esc.errText", laid_latiner_esc_errText), ("latiner/esc.errMark", laid_latiner_esc_errMark), ("latiner/dn.errCount", laid_latiner_dn_errCount), ("latiner/dn.errType", laid_latiner_dn_errType), ("latiner/dn.errLong", laid_latiner_dn_errLong), ("latiner/dn.errPiece", laid_latiner_dn_errPiece)], narrowed := true }
def DnJoinsUptoSaid : Prop := dnJoinsUptoRow.holds Tryz.pinned (OpenSpec.upto dnJoinsSpec)

/-- 'latinerlaw07.DnParents', WHERE WHAT IT READS IS OF BULK AT MOST 1048576: true; the input reads as it did. -/
def dnParentsUptoRow : OpenClaim := { program := "ythfcnjcpanoldaagreatdoor", sum := "a00952f682084561fc73d446c0426664c720424c9b51ace28115c3468d2ca4fe", func := "latiner/latinerlaw07.DnParents", spec := "dnParents", inPlace := ["internal/reflectlite.ValueOf", "(internal/reflectlite.Value).Type", "(internal/reflectlite.Value).IsNil", "internal/reflectlite.TypeOf", "(internal/reflectlite.Value).Elem", "(internal/reflectlite.Value).Set", "internal/abi.NoEscape", "internal/bytealg.MakeNoZero", "internal/bytealg.IndexByteString", "internal/bytealg.IndexString"], unfollowed := true, recurses := true, named := ["latiner/dn.errCount", "latiner/dn.errType", "latiner/dn.errLong", "latiner/dn.errPiece", "errors.errorType", "internal/bytealg.MaxLen", "latiner/esc.errText", "latiner/utf.errUtf", "latiner/esc.errMark", "latiner/code.errEnd", "latiner/code.errCut", "latiner/code.errBits"], apart := false, laid := [("errors.errorType", laid_errors_errorType), ("latiner/code.errCut", laid_latiner_code_errCut), ("latiner/code.errEnd", laid_latiner_code_errEnd), ("latiner/code.errBits", laid_latiner_code_errBits), ("latiner/utf.errUtf", laid_latiner_utf_errUtf), ("latiner/esc.errText", laid_latiner_esc_errText), ("latiner/esc.errMark", laid_latiner_esc_errMark), ("latiner/dn.errCount", laid_latiner_dn_errCount), ("latiner/dn.errType", laid_latiner_dn_errType), ("latiner/dn.errLong", laid_latiner_dn_errLong), ("latiner/dn.errPiece", laid_latiner_dn_errPiece)], narrowed := true }
def DnParentsUptoSaid : Prop := dnParentsUptoRow.holds Tryz.pinned (OpenSpec.upto dnParentsSpec)

/-- 'latinerlaw07.DnValues', WHERE WHAT IT READS IS OF BULK AT MOST 1048576: true; the input reads as it did. -/
def dnValuesUptoRow : OpenClaim := { program := "ythfcnjcpanoldaagreatdoor", sum := "a00952f682084561fc73d446c0426664c720424c9b51ace28115c3468d2ca4fe", func := "latiner/latinerlaw07.DnValues", spec := "dnValues", inPlace := ["internal/reflectlite.ValueOf", "(internal/reflectlite.Value).Type", "(internal/reflectlite.Value).IsNil", "internal/reflectlite.TypeOf", "(internal/reflectlite.Value).Elem", "(internal/reflectlite.Value).Set", "internal/abi.NoEscape", "internal/bytealg.MakeNoZero", "internal/bytealg.IndexByteString", "internal/bytealg.IndexString"], unfollowed := true, recurses := true, named := ["latiner/dn.errCount", "latiner/dn.errType", "latiner/dn.errLong", "latiner/dn.errPiece", "errors.errorType", "internal/bytealg.MaxLen", "latiner/esc.errText", "latiner/utf.errUtf", "latiner/esc.errMark", "latiner/code.errEnd", "latiner/code.errCut", "latiner/code.errBits"], apart := false, laid := [("errors.errorType", laid_errors_errorType), ("latiner/code.errCut", laid_latiner_code_errCut), ("latiner/code.errEnd", laid_latiner_code_errEnd), ("latiner/code.errBits", laid_latiner_code_errBits), ("latiner/utf.errUtf", laid_latiner_utf_errUtf), ("latiner/esc.errText", laid_latiner_esc_errText), ("latiner/esc.errMark", laid_latiner_esc_errMark), ("latiner/dn.errCount", laid_latiner_dn_errCount), ("latiner/dn.errType", laid_latiner_dn_errType), ("latiner/dn.errLong", laid_latiner_dn_errLong), ("latiner/dn.errPiece", laid_latiner_dn_errPiece)], narrowed := true }
def DnValuesUptoSaid : Prop := dnValuesUptoRow.holds Tryz.pinned (OpenSpec.upto dnValuesSpec)

/-- 'latinerlaw07.DnDigits', WHERE WHAT IT READS IS OF BULK AT MOST 1048576: true; the input reads as it did. -/
def dnDigitsUptoRow : OpenClaim := { program := "ythfcnjcpanoldaagreatdoor", sum := "a00952f682084561fc73d446c0426664c720424c9b51ace28115c3468d2ca4fe", func := "latiner/latinerlaw07.DnDigits", spec := "dnDigits", inPlace := ["internal/reflectlite.ValueOf", "(internal/reflectlite.Value).Type", "(internal/reflectlite.Value).IsNil", "internal/reflectlite.TypeOf", "(internal/reflectlite.Value).Elem", "(internal/reflectlite.Value).Set", "internal/abi.NoEscape", "internal/bytealg.MakeNoZero", "internal/bytealg.IndexByteString", "internal/bytealg.IndexString"], unfollowed := true, recurses := true, named := ["latiner/dn.errCount", "latiner/dn.errType", "latiner/dn.errLong", "latiner/dn.errPiece", "errors.errorType", "internal/bytealg.MaxLen", "latiner/esc.errText", "latiner/utf.errUtf", "latiner/esc.errMark", "latiner/code.errEnd", "latiner/code.errCut", "latiner/code.errBits"], apart := false, laid := [("errors.errorType", laid_errors_errorType), ("latiner/code.errCut", laid_latiner_code_errCut), ("latiner/code.errEnd", laid_latiner_code_errEnd), ("latiner/code.errBits", laid_latiner_code_errBits), ("latiner/utf.errUtf", laid_latiner_utf_errUtf), ("latiner/esc.errText", laid_latiner_esc_errText), ("latiner/esc.errMark", laid_latiner_esc_errMark), ("latiner/dn.errCount", laid_latiner_dn_errCount), ("latiner/dn.errType", laid_latiner_dn_errType), ("latiner/dn.errLong", laid_latiner_dn_errLong), ("latiner/dn.errPiece", laid_latiner_dn_errPiece)], narrowed := true }
def DnDigitsUptoSaid : Prop := dnDigitsUptoRow.holds Tryz.pinned (OpenSpec.upto dnDigitsSpec)

end Rows
end Go.Proofs.YthfcnjcpanoldaaGreatDoor
