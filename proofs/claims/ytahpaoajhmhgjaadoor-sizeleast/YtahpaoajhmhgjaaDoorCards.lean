/-
  DERIVED. GIVEN WITH THE SEED: THE CARDS: each row of YtahpaoajhmhgjaaDoorRows.lean that lists a variable, with what it lists TIED to the program's text (the seventh form; the later family's looks); each row that meets fmt, with fmt's text TOLD by the authors' own Lean function (tested against real Go, not proved from fmt's source: count such statements apart). THE CARD IS WHAT COUNTS. Prove the row's statement (the work); the ties are given (YtahpaoajhmhgjaaDoorTie.lean); close each card by the builder's one call (the guide's Derived/Test/ToyasCard.lean, 'card_holds'). Laid BY PROGRAM, IN A SANDBOX (cutbox-door.mjs). By AI agents, Wed Nov 11 2026. No macro, syntax, notation, axiom, sorry.
-/
import Derived.Test.YtahpaoajhmhgjaaDoorRows
import GoSem.ClaimSeven
namespace Go.Proofs.YtahpaoajhmhgjaaDoor
namespace Rows

/-- THE TIED CARD OF 'latinerlaw01.SizeCodes'. -/
def sizeCodesCard : Claim7 := { stood := { row := sizeCodesRow, standIns := [], harness := (true, "2d17e1cd0338ed89b24d832d384019b78c6b62609935cb2531dfcac311522fa8"), looks := true }, kinds := [], alts := [], laidByText := true, laidKinds := [.handle, .sentinel, .sentinel], laidTests := true, laidLooks := .later }
def SizeCodesCardSaid : Prop := Claim7.holds Tryd.pinned (.plain (OpenSpec.ofChange sizeCodesSpec)) sizeCodesCard

/-- THE TIED CARD OF 'latinerlaw01.SizeBack'. -/
def sizeBackCard : Claim7 := { stood := { row := sizeBackRow, standIns := [], harness := (true, "2d17e1cd0338ed89b24d832d384019b78c6b62609935cb2531dfcac311522fa8"), looks := true }, kinds := [], alts := [], laidByText := true, laidKinds := [.handle, .sentinel, .sentinel], laidTests := true, laidLooks := .later }
def SizeBackCardSaid : Prop := Claim7.holds Tryd.pinned (.plain (OpenSpec.ofChange sizeBackSpec)) sizeBackCard

/-- THE TIED CARD OF 'latinerlaw01.SizeLeast'. -/
def sizeLeastCard : Claim7 := { stood := { row := sizeLeastRow, standIns := [], harness := (true, "2d17e1cd0338ed89b24d832d384019b78c6b62609935cb2531dfcac311522fa8"), looks := true }, kinds := [], alts := [], laidByText := true, laidKinds := [.handle, .sentinel, .sentinel], laidTests := true, laidLooks := .later }
def SizeLeastCardSaid : Prop := Claim7.holds Tryd.pinned (.plain (OpenSpec.ofChange sizeLeastSpec)) sizeLeastCard

/-- THE TIED CARD OF 'latinerlaw01.SizeOrder'. -/
def sizeOrderCard : Claim7 := { stood := { row := sizeOrderRow, standIns := [], harness := (true, "2d17e1cd0338ed89b24d832d384019b78c6b62609935cb2531dfcac311522fa8"), looks := true }, kinds := [], alts := [], laidByText := true, laidKinds := [.handle, .sentinel, .sentinel], laidTests := true, laidLooks := .later }
def SizeOrderCardSaid : Prop := Claim7.holds Tryd.pinned (.plain (OpenSpec.ofChange sizeOrderSpec)) sizeOrderCard

/-- THE TIED CARD OF 'latinerlaw01.SizeCuts'. -/
def sizeCutsCard : Claim7 := { stood := { row := sizeCutsRow, standIns := [], harness := (true, "2d17e1cd0338ed89b24d832d384019b78c6b62609935cb2531dfcac311522fa8"), looks := true }, kinds := [], alts := [], laidByText := true, laidKinds := [.handle, .sentinel, .sentinel], laidTests := true, laidLooks := .later }
def SizeCutsCardSaid : Prop := Claim7.holds Tryd.pinned (.plain (OpenSpec.ofChange sizeCutsSpec)) sizeCutsCard

/-- THE TIED CARD OF 'latinerlaw01.SizeLong'. -/
def sizeLongCard : Claim7 := { stood := { row := sizeLongRow, standIns := [], harness := (true, "2d17e1cd0338ed89b24d832d384019b78c6b62609935cb2531dfcac311522fa8"), looks := true }, kinds := [], alts := [], laidByText := true, laidKinds := [.handle, .sentinel, .sentinel], laidTests := true, laidLooks := .later }
def SizeLongCardSaid : Prop := Claim7.holds Tryd.pinned (.plain (OpenSpec.ofChange sizeLongSpec)) sizeLongCard

/-- THE SECOND FORM's CARD OF 'latinerlaw01.SizeCodes'. -/
def sizeCodesUptoCard : Claim7 := { stood := { row := sizeCodesUptoRow, standIns := [], harness := (true, "2d17e1cd0338ed89b24d832d384019b78c6b62609935cb2531dfcac311522fa8"), looks := true }, kinds := [], alts := [], laidByText := true, laidKinds := [.handle, .sentinel, .sentinel], laidTests := true, laidLooks := .later }
def SizeCodesUptoCardSaid : Prop := Claim7.holds Tryd.pinned (.plain (OpenSpec.upto sizeCodesSpec)) sizeCodesUptoCard

/-- THE SECOND FORM's CARD OF 'latinerlaw01.SizeBack'. -/
def sizeBackUptoCard : Claim7 := { stood := { row := sizeBackUptoRow, standIns := [], harness := (true, "2d17e1cd0338ed89b24d832d384019b78c6b62609935cb2531dfcac311522fa8"), looks := true }, kinds := [], alts := [], laidByText := true, laidKinds := [.handle, .sentinel, .sentinel], laidTests := true, laidLooks := .later }
def SizeBackUptoCardSaid : Prop := Claim7.holds Tryd.pinned (.plain (OpenSpec.upto sizeBackSpec)) sizeBackUptoCard

/-- THE SECOND FORM's CARD OF 'latinerlaw01.SizeLeast'. -/
def sizeLeastUptoCard : Claim7 := { stood := { row := sizeLeastUptoRow, standIns := [], harness := (true, "2d17e1cd0338ed89b24d832d384019b78c6b62609935cb2531dfcac311522fa8"), looks := true }, kinds := [], alts := [], laidByText := true, laidKinds := [.handle, .sentinel, .sentinel], laidTests := true, laidLooks := .later }
def SizeLeastUptoCardSaid : Prop := Claim7.holds Tryd.pinned (.plain (OpenSpec.upto sizeLeastSpec)) sizeLeastUptoCard

/-- THE SECOND FORM's CARD OF 'latinerlaw01.SizeOrder'. -/
def sizeOrderUptoCard : Claim7 := { stood := { row := sizeOrderUptoRow, standIns := [], harness := (true, "2d17e1cd0338ed89b24d832d384019b78c6b62609935cb2531dfcac311522fa8"), looks := true }, kinds := [], alts := [], laidByText := true, laidKinds := [.handle, .sentinel, .sentinel], laidTests := true, laidLooks := .later }
def SizeOrderUptoCardSaid : Prop := Claim7.holds Tryd.pinned (.plain (OpenSpec.upto sizeOrderSpec)) sizeOrderUptoCard

/-- THE SECOND FORM's CARD OF 'latinerlaw01.SizeCuts'. -/
def sizeCutsUptoCard : Claim7 := { stood := { row := sizeCutsUptoRow, standIns := [], harness := (true, "2d17e1cd0338ed89b24d832d384019b78c6b62609935cb2531dfcac311522fa8"), looks := true }, kinds := [], alts := [], laidByText := true, laidKinds := [.handle, .sentinel, .sentinel], laidTests := true, laidLooks := .later }
def SizeCutsUptoCardSaid : Prop := Claim7.holds Tryd.pinned (.plain (OpenSpec.upto sizeCutsSpec)) sizeCutsUptoCard

/-- THE SECOND FORM's CARD OF 'latinerlaw01.SizeLong'. -/
def sizeLongUptoCard : Claim7 := { stood := { row := sizeLongUptoRow, standIns := [], harness := (true, "2d17e1cd0338ed89b24d832d384019b78c6b62609935cb2531dfcac311522fa8"), looks := true }, kinds := [], alts := [], laidByText := true, laidKinds := [.handle, .sentinel, .sentinel], laidTests := true, laidLooks := .later }
def SizeLongUptoCardSaid : Prop := Claim7.holds Tryd.pinned (.plain (OpenSpec.upto sizeLongSpec)) sizeLongUptoCard
end Rows
end Go.Proofs.YtahpaoajhmhgjaaDoor
