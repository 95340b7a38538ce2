/-
  NARROWER THAN 'FOR EVERY INPUT', by the rows' own cells (each row's printed sentence says how): FiltTells: loops, laid.
  DERIVED. THE GIVEN ROWS OF THIS SEAT. 1 by the template 'for every input the law returns true; each argument reads behind the call as it read before'; 0 by the template 'total and deterministic' (their statements: YtjhnblgamodekaaGreatDoorTotals.lean).
  GIVEN WITH THE SEED: the statements are not yours to turn. If you find one false, say at which input.
  Laid BY PROGRAM, IN A SANDBOX (cutbox-rows.mjs): the forced cells as the released guide's own fill.sh prints them over the translation 19238b3c4438e048… (all of the seat's roots in one cut). By AI agents, Wed Nov 11 2026. No macro, syntax, notation, axiom, sorry.
-/
import Derived.Test.YtjhnblgamodekaaGreatDoorChecked
import GoSem.PinnedTables
import GoSem.Claim
import GoSem.ClaimJoined
import GoSem.ClaimMapViews
import Derived.JoinedTies
import Derived.KernelRfl
namespace Go.Proofs.YtjhnblgamodekaaGreatDoor
/- THE CELL 'sum', in the pinned program and in every row, IS THE sha256 OF THE DUMP (.gsa) THAT YtjhnblgamodekaaGreatDoorProg.lean LOADS. Nothing in Lean hashes anything: it is a label: what it is worth is what the hold of that sum in a sandbox is worth. -/
noncomputable def Tryz.pinned : Pinned := { name := "ytjhnblgamodekaagreatdoor", sum := "19238b3c4438e0486e02da925ef6c6fe500d79451122b66f1b38c0c77a75016d", checked := Tryz.checked }
namespace Rows
def none {H : Type} : Left H := { results := [], args := [] }

/- WHAT THE LISTED PACKAGE-LEVEL VARIABLES READ AS WHEN THE CALL BEGINS. Each datum BY PROGRAM (the guide's laid-datum.mjs) off the statement by which the dump's own 'gosem.cut.vars' lays the variable. In a bare row this is a premise. The card (YtjhnblgamodekaaGreatDoorCards.lean) ties it to the program's text. -/
def laid_unicode_utf8_acceptRanges {H : Type} : DataW H := .agg [.agg [.lit (.int .u8 128), .lit (.int .u8 191)], .agg [.lit (.int .u8 160), .lit (.int .u8 191)], .agg [.lit (.int .u8 128), .lit (.int .u8 159)], .agg [.lit (.int .u8 144), .lit (.int .u8 191)], .agg [.lit (.int .u8 128), .lit (.int .u8 143)], .agg [.lit (.int .u8 0), .lit (.int .u8 0)], .agg [.lit (.int .u8 0), .lit (.int .u8 0)], .agg [.lit (.int .u8 0), .lit (.int .u8 0)], .agg [.lit (.int .u8 0), .lit (.int .u8 0)], .agg [.lit (.int .u8 0), .lit (.int .u8 0)], .agg [.lit (.int .u8 0), .lit (.int .u8 0)], .agg [.lit (.int .u8 0), .lit (.int .u8 0)], .agg [.lit (.int .u8 0), .lit (.int .u8 0)], .agg [.lit (.int .u8 0), .lit (.int .u8 0)], .agg [.lit (.int .u8 0), .lit (.int .u8 0)], .agg [.lit (.int .u8 0), .lit (.int .u8 0)]]
def laid_errors_errorType {H : Type} : DataW H := .iface "internal/reflectlite.rtype" (.agg [.ptr (.lit (.string [101, 114, 114, 111, 114]))])
def laid_latiner_code_errCut {H : Type} : DataW H := .iface "*errors.errorString" (.ptr (.agg [.lit (.string [97, 32, 103, 114, 111, 117, 112, 39, 115, 32, 115, 105, 103, 110, 115, 32, 109, 105, 115, 115])]))
def laid_latiner_code_errEnd {H : Type} : DataW H := .iface "*errors.errorString" (.ptr (.agg [.lit (.string [115, 105, 103, 110, 115, 32, 98, 101, 104, 105, 110, 100, 32, 116, 104, 101, 32, 101, 110, 100])]))
def laid_latiner_code_errBits {H : Type} : DataW H := .iface "*errors.errorString" (.ptr (.agg [.lit (.string [98, 105, 116, 115, 32, 116, 104, 97, 116, 32, 116, 101, 108, 108, 32, 110, 111, 116, 104, 105, 110, 103, 32, 97, 114, 101, 32, 110, 111, 116, 32, 48])]))
def laid_latiner_utf_errUtf {H : Type} : DataW H := .iface "*errors.errorString" (.ptr (.agg [.lit (.string [110, 111, 32, 115, 105, 103, 110, 39, 115, 32, 98, 121, 116, 101, 115, 32, 98, 101, 103, 105, 110, 32, 115, 111])]))
def laid_latiner_esc_errText {H : Type} : DataW H := .iface "*errors.errorString" (.ptr (.agg [.lit (.string [110, 111, 32, 115, 105, 103, 110, 39, 115, 32, 98, 121, 116, 101, 115, 32, 98, 101, 103, 105, 110, 32, 115, 111])]))
def laid_latiner_esc_errMark {H : Type} : DataW H := .iface "*errors.errorString" (.ptr (.agg [.lit (.string [97, 32, 98, 97, 99, 107, 115, 108, 97, 115, 104, 32, 115, 116, 97, 110, 100, 115, 32, 97, 104, 101, 97, 100, 32, 111, 102, 32, 110, 111, 116, 104, 105, 110, 103, 32, 116, 104, 97, 116, 32, 105, 116, 32, 109, 97, 121])]))
def laid_latiner_filt_errDeep {H : Type} : DataW H := .iface "*errors.errorString" (.ptr (.agg [.lit (.string [116, 111, 111, 32, 100, 101, 101, 112])]))
def laid_latiner_filt_errCount {H : Type} : DataW H := .iface "*errors.errorString" (.ptr (.agg [.lit (.string [116, 111, 111, 32, 109, 97, 110, 121, 44, 32, 111, 114, 32, 110, 111, 110, 101])]))
def laid_latiner_filt_errName {H : Type} : DataW H := .iface "*errors.errorString" (.ptr (.agg [.lit (.string [110, 111, 32, 97, 116, 116, 114, 105, 98, 117, 116, 101, 39, 115, 32, 110, 97, 109, 101])]))
def laid_latiner_filt_errLong {H : Type} : DataW H := .iface "*errors.errorString" (.ptr (.agg [.lit (.string [116, 111, 111, 32, 108, 111, 110, 103, 44, 32, 111, 114, 32, 101, 109, 112, 116, 121, 32, 119, 104, 101, 114, 101, 32, 105, 116, 32, 109, 97, 121, 32, 110, 111, 116, 32, 98, 101])]))
def laid_latiner_filt_errField {H : Type} : DataW H := .iface "*errors.errorString" (.ptr (.agg [.lit (.string [115, 111, 109, 101, 116, 104, 105, 110, 103, 32, 116, 104, 97, 116, 32, 116, 104, 105, 115, 32, 107, 105, 110, 100, 32, 104, 97, 115, 32, 110, 111, 116])]))
def laid_latiner_filt_errSign {H : Type} : DataW H := .iface "*errors.errorString" (.ptr (.agg [.lit (.string [97, 32, 115, 105, 103, 110, 32, 105, 115, 32, 109, 105, 115, 115, 105, 110, 103])]))
def laid_latiner_filt_errMore {H : Type} : DataW H := .iface "*errors.errorString" (.ptr (.agg [.lit (.string [109, 111, 114, 101, 32, 115, 116, 97, 110, 100, 115, 32, 98, 101, 104, 105, 110, 100, 32, 116, 104, 101, 32, 102, 105, 108, 116, 101, 114])]))
/-- One of Go's own tables, pinned by name: the form's constant. -/
def laid_unicode_utf8_first : DataW Unit := Go.Pinned.utf8First

/-- 'latinerlaw08.FiltTells': WHATEVER THE INPUT: true; the input reads as it did. -/
def filtTellsSpec : ChangeSpec := { name := "filtTells", fn := fun _ => fun
  | [d1, d2, d3] => { results := [.lit (.bool true)], args := [d1, d2, d3] }
  | _ => none }
def filtTellsRow : OpenClaim := { program := "ytjhnblgamodekaagreatdoor", sum := "19238b3c4438e0486e02da925ef6c6fe500d79451122b66f1b38c0c77a75016d", func := "latiner/latinerlaw08.FiltTells", spec := "filtTells", inPlace := ["internal/bytealg.IndexByteString", "internal/bytealg.IndexString", "internal/reflectlite.ValueOf", "(internal/reflectlite.Value).Type", "(internal/reflectlite.Value).IsNil", "internal/reflectlite.TypeOf", "(internal/reflectlite.Value).Elem", "(internal/reflectlite.Value).Set", "internal/abi.NoEscape", "internal/bytealg.MakeNoZero", "internal/bytealg.CountString"], unfollowed := true, recurses := true, named := ["latiner/filt.errDeep", "latiner/filt.errCount", "latiner/filt.errField", "latiner/filt.errName", "latiner/filt.errLong", "internal/bytealg.MaxLen", "unicode/utf8.first", "unicode/utf8.acceptRanges", "latiner/filt.errSign", "latiner/filt.errMore", "errors.errorType", "latiner/esc.errText", "latiner/utf.errUtf", "latiner/esc.errMark", "latiner/code.errEnd", "latiner/code.errCut", "latiner/code.errBits"], loops := true, apart := false, laid := [("unicode/utf8.acceptRanges", laid_unicode_utf8_acceptRanges), ("errors.errorType", laid_errors_errorType), ("latiner/code.errCut", laid_latiner_code_errCut), ("latiner/code.errEnd", laid_latiner_code_errEnd), ("latiner/code.errBits", laid_latiner_code_errBits), ("latiner/utf.errUtf", laid_latiner_utf_errUtf), ("latiner/esc.errText", laid_latiner_esc_errText), ("latiner/esc.errMark", laid_latiner_esc_errMark), ("latiner/filt.errDeep", laid_latiner_filt_errDeep), ("latiner/filt.errCount", laid_latiner_filt_errCount), ("latiner/filt.errName", laid_latiner_filt_errName), ("latiner/filt.errLong", laid_latiner_filt_errLong), ("latiner/filt.errField", laid_latiner_filt_errField), ("latiner/filt.errSign", laid_latiner_filt_errSign), ("latiner/filt.errMore", laid_latiner_filt_errMore), ("unicode/utf8.first", laid_unicode_utf8_first)] }
def FiltTellsSaid : Prop := filtTellsRow.holds Tryz.pinned (OpenSpec.ofChange filtTellsSpec)

/-- ITS FALSE NEIGHBOUR: 'it returns false'. Refute it at one input. -/
def filtTellsWrong : ChangeSpec := { name := "filtTells", fn := fun _ => fun
  | [d1, d2, d3] => { results := [.lit (.bool false)], args := [d1, d2, d3] }
  | _ => none }
def FiltTellsWrongFalsely : Prop := filtTellsRow.holds Tryz.pinned (OpenSpec.ofChange filtTellsWrong)

/- THE SECOND FORM. 'bulk': how many values and letters a reading holds, each counted each time it is reached (what is shared counts as often as it is met; a slice's spare places count too). A statement '..UptoSaid' is the law's where the arguments, and the package variables that the reading takes, are together of bulk at most 1048576: NARROWER than '..Said'. Prove '..Said' where nothing that the law and all that it calls make is longer than what came in: it says more and counts as full. Else prove '..UptoSaid'. A law counts once. -/
mutual
def uptoBulk {H : Type} : DataW H → Nat
  | .lit (.string bytes) => bytes.length + 1
  | .lit _ => 1
  | .nil => 1
  | .ptr d => uptoBulk d + 1
  | .slice elems spare => uptoBulkAll elems + uptoBulkAll spare + 1
  | .agg parts => uptoBulkAll parts + 1
  | .iface _ d => uptoBulk d + 1
  | .map entries => uptoBulkEntries entries + 1
  | .held _ => 1
def uptoBulkAll {H : Type} : List (DataW H) → Nat
  | [] => 0
  | d :: r => uptoBulk d + uptoBulkAll r
def uptoBulkEntries {H : Type} : List (Lit × DataW H) → Nat
  | [] => 0
  | x :: r => uptoBulkEntry x + uptoBulkEntries r
def uptoBulkEntry {H : Type} : Lit × DataW H → Nat
  | (.string bytes, d) => bytes.length + uptoBulk d + 1
  | (_, d) => uptoBulk d + 1
 end
def uptoSmall : (H : Type) → List (DataW H) → Bool := fun _ ds => decide (uptoBulkAll ds ≤ 1048576)
def OpenSpec.upto (s : _root_.Go.ChangeSpec) : _root_.Go.OpenSpec := { _root_.Go.OpenSpec.ofChange s with cond := some uptoSmall }

/-- 'latinerlaw08.FiltTells', WHERE WHAT IT READS IS OF BULK AT MOST 1048576: true; the input reads as it did. -/
def filtTellsUptoRow : OpenClaim := { program := "ytjhnblgamodekaagreatdoor", sum := "19238b3c4438e0486e02da925ef6c6fe500d79451122b66f1b38c0c77a75016d", func := "latiner/latinerlaw08.FiltTells", spec := "filtTells", inPlace := ["internal/bytealg.IndexByteString", "internal/bytealg.IndexString", "internal/reflectlite.ValueOf", "(internal/reflectlite.Value).Type", "(internal/reflectlite.Value).IsNil", "internal/reflectlite.TypeOf", "(internal/reflectlite.Value).Elem", "(internal/reflectlite.Value).Set", "internal/abi.NoEscape", "internal/bytealg.MakeNoZero", "internal/bytealg.CountString"], unfollowed := true, recurses := true, named := ["latiner/filt.errDeep", "latiner/filt.errCount", "latiner/filt.errField", "latiner/filt.errName", "latiner/filt.errLong", "internal/bytealg.MaxLen", "unicode/utf8.first", "unicode/utf8.acceptRanges", "latiner/filt.errSign", "latiner/filt.errMore", "errors.errorType", "latiner/esc.errText", "latiner/utf.errUtf", "latiner/esc.errMark", "latiner/code.errEnd", "latiner/code.errCut", "latiner/code.errBits"], loops := true, apart := false, laid := [("unicode/utf8.acceptRanges", laid_unicode_utf8_acceptRanges), ("errors.errorType", laid_errors_errorType), ("latiner/code.errCut", laid_latiner_code_errCut), ("latiner/code.errEnd", laid_latiner_code_errEnd), ("latiner/code.errBits", laid_latiner_code_errBits), ("latiner/utf.errUtf", laid_latiner_utf_errUtf), ("latiner/esc.errText", laid_latiner_esc_errText), ("latiner/esc.errMark", laid_latiner_esc_errMark), ("latiner/filt.errDeep", laid_latiner_filt_errDeep), ("latiner/filt.errCount", laid_latiner_filt_errCount), ("latiner/filt.errName", laid_latiner_filt_errName), ("latiner/filt.errLong", laid_latiner_filt_errLong), ("latiner/filt.errField", laid_latiner_filt_errField), ("latiner/filt.errSign", laid_latiner_filt_errSign), ("latiner/filt.errMore", laid_latiner_filt_errMore), ("unicode/utf8.first", laid_unicode_utf8_first)], narrowed := true }
def FiltTellsUptoSaid : Prop := filtTellsUptoRow.holds Tryz.pinned (OpenSpec.upto filtTellsSpec)

end Rows
end Go.Proofs.YtjhnblgamodekaaGreatDoor
