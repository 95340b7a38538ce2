/-
  DERIVED. GIVEN WITH THE SEED: THE CARDS: each row of YtmenllnokgjdlaaGreatDoorRows.lean that lists a variable, with what it lists TIED to the program's text (the seventh form; the later family's looks); each row that meets fmt, with fmt's text TOLD by the authors' own Lean function (tested against real Go, not proved from fmt's source: count such statements apart). THE CARD IS WHAT COUNTS. Prove the row's statement (the work); the ties are given (YtmenllnokgjdlaaGreatDoorTie.lean); close each card by the builder's one call (the guide's Derived/Test/ToyasCard.lean, 'card_holds'). Laid BY PROGRAM, IN A SANDBOX (cutbox-door.mjs). By AI agents, Wed Nov 11 2026. No macro, syntax, notation, axiom, sorry.
-/
import Derived.Test.YtmenllnokgjdlaaGreatDoorRows
import GoSem.ClaimSeven
namespace Go.Proofs.YtmenllnokgjdlaaGreatDoor
namespace Rows

/-- THE TIED CARD OF 'latinerlaw09.FberTrees'. -/
def fberTreesCard : Claim7 := { stood := { row := fberTreesRow, standIns := [], harness := (true, "3233c2a937603a32e0c41e5fd05882df9f4eb2e701a10cf005346c007118347e"), looks := true }, kinds := [], alts := [], laidByText := true, laidKinds := [.data, .handle, .sentinel, .sentinel, .sentinel, .sentinel, .sentinel, .sentinel, .sentinel, .sentinel, .sentinel, .sentinel, .sentinel, .sentinel, .sentinel, .sentinel, .sentinel, .sentinel, .sentinel, .sentinel, .sentinel, .pinned], laidTests := true, laidLooks := .later }
def FberTreesCardSaid : Prop := Claim7.holds Tryz.pinned (.plain (OpenSpec.ofChange fberTreesSpec)) fberTreesCard

/-- THE TIED CARD OF 'latinerlaw09.FberBack'. -/
def fberBackCard : Claim7 := { stood := { row := fberBackRow, standIns := [], harness := (true, "3233c2a937603a32e0c41e5fd05882df9f4eb2e701a10cf005346c007118347e"), looks := true }, kinds := [], alts := [], laidByText := true, laidKinds := [.data, .handle, .sentinel, .sentinel, .sentinel, .sentinel, .sentinel, .sentinel, .sentinel, .sentinel, .sentinel, .sentinel, .sentinel, .sentinel, .sentinel, .sentinel, .sentinel, .sentinel, .sentinel, .sentinel, .sentinel, .pinned], laidTests := true, laidLooks := .later }
def FberBackCardSaid : Prop := Claim7.holds Tryz.pinned (.plain (OpenSpec.ofChange fberBackSpec)) fberBackCard

/-- THE TIED CARD OF 'latinerlaw09.FberReads'. -/
def fberReadsCard : Claim7 := { stood := { row := fberReadsRow, standIns := [], harness := (true, "3233c2a937603a32e0c41e5fd05882df9f4eb2e701a10cf005346c007118347e"), looks := true }, kinds := [], alts := [], laidByText := true, laidKinds := [.data, .handle, .sentinel, .sentinel, .sentinel, .sentinel, .sentinel, .sentinel, .sentinel, .sentinel, .sentinel, .sentinel, .sentinel, .sentinel, .sentinel, .sentinel, .sentinel, .sentinel, .sentinel, .sentinel, .sentinel, .pinned], laidTests := true, laidLooks := .later }
def FberReadsCardSaid : Prop := Claim7.holds Tryz.pinned (.plain (OpenSpec.ofChange fberReadsSpec)) fberReadsCard

/-- THE TIED CARD OF 'latinerlaw09.FberTexts'. -/
def fberTextsCard : Claim7 := { stood := { row := fberTextsRow, standIns := [], harness := (true, "3233c2a937603a32e0c41e5fd05882df9f4eb2e701a10cf005346c007118347e"), looks := true }, kinds := [], alts := [], laidByText := true, laidKinds := [.data, .handle, .sentinel, .sentinel, .sentinel, .sentinel, .sentinel, .sentinel, .sentinel, .sentinel, .sentinel, .sentinel, .sentinel, .sentinel, .sentinel, .sentinel, .sentinel, .sentinel, .sentinel, .sentinel, .sentinel, .sentinel, .sentinel, .sentinel, .sentinel, .sentinel, .sentinel, .pinned], laidTests := true, laidLooks := .later }
def FberTextsCardSaid : Prop := Claim7.holds Tryz.pinned (.plain (OpenSpec.ofChange fberTextsSpec)) fberTextsCard

/-- THE TIED CARD OF 'latinerlaw09.FberSets'. -/
def fberSetsCard : Claim7 := { stood := { row := fberSetsRow, standIns := [], harness := (true, "3233c2a937603a32e0c41e5fd05882df9f4eb2e701a10cf005346c007118347e"), looks := true }, kinds := [], alts := [], laidByText := true, laidKinds := [.data, .handle, .sentinel, .sentinel, .sentinel, .sentinel, .sentinel, .sentinel, .sentinel, .sentinel, .sentinel, .sentinel, .sentinel, .sentinel, .sentinel, .sentinel, .sentinel, .sentinel, .sentinel, .sentinel, .sentinel, .pinned], laidTests := true, laidLooks := .later }
def FberSetsCardSaid : Prop := Claim7.holds Tryz.pinned (.plain (OpenSpec.ofChange fberSetsSpec)) fberSetsCard

/-- THE TIED CARD OF 'latinerlaw09.FberApart'. -/
def fberApartCard : Claim7 := { stood := { row := fberApartRow, standIns := [], harness := (true, "3233c2a937603a32e0c41e5fd05882df9f4eb2e701a10cf005346c007118347e"), looks := true }, kinds := [], alts := [], laidByText := true, laidKinds := [.data, .handle, .sentinel, .sentinel, .sentinel, .sentinel, .sentinel, .sentinel, .sentinel, .sentinel, .sentinel, .sentinel, .sentinel, .sentinel, .sentinel, .sentinel, .sentinel, .sentinel, .sentinel, .sentinel, .sentinel, .pinned], laidTests := true, laidLooks := .later }
def FberApartCardSaid : Prop := Claim7.holds Tryz.pinned (.plain (OpenSpec.ofChange fberApartSpec)) fberApartCard

/-- THE TIED CARD OF 'latinerlaw09.FberNots'. -/
def fberNotsCard : Claim7 := { stood := { row := fberNotsRow, standIns := [], harness := (true, "3233c2a937603a32e0c41e5fd05882df9f4eb2e701a10cf005346c007118347e"), looks := true }, kinds := [], alts := [], laidByText := true, laidKinds := [.data, .handle, .sentinel, .sentinel, .sentinel, .sentinel, .sentinel, .sentinel, .sentinel, .sentinel, .sentinel, .sentinel, .sentinel, .sentinel, .sentinel, .sentinel, .sentinel, .sentinel, .sentinel, .sentinel, .sentinel, .pinned], laidTests := true, laidLooks := .later }
def FberNotsCardSaid : Prop := Claim7.holds Tryz.pinned (.plain (OpenSpec.ofChange fberNotsSpec)) fberNotsCard

/-- THE SECOND FORM's CARD OF 'latinerlaw09.FberTrees'. -/
def fberTreesUptoCard : Claim7 := { stood := { row := fberTreesUptoRow, standIns := [], harness := (true, "3233c2a937603a32e0c41e5fd05882df9f4eb2e701a10cf005346c007118347e"), looks := true }, kinds := [], alts := [], laidByText := true, laidKinds := [.data, .handle, .sentinel, .sentinel, .sentinel, .sentinel, .sentinel, .sentinel, .sentinel, .sentinel, .sentinel, .sentinel, .sentinel, .sentinel, .sentinel, .sentinel, .sentinel, .sentinel, .sentinel, .sentinel, .sentinel, .pinned], laidTests := true, laidLooks := .later }
def FberTreesUptoCardSaid : Prop := Claim7.holds Tryz.pinned (.plain (OpenSpec.upto fberTreesSpec)) fberTreesUptoCard

/-- THE SECOND FORM's CARD OF 'latinerlaw09.FberBack'. -/
def fberBackUptoCard : Claim7 := { stood := { row := fberBackUptoRow, standIns := [], harness := (true, "3233c2a937603a32e0c41e5fd05882df9f4eb2e701a10cf005346c007118347e"), looks := true }, kinds := [], alts := [], laidByText := true, laidKinds := [.data, .handle, .sentinel, .sentinel, .sentinel, .sentinel, .sentinel, .sentinel, .sentinel, .sentinel, .sentinel, .sentinel, .sentinel, .sentinel, .sentinel, .sentinel, .sentinel, .sentinel, .sentinel, .sentinel, .sentinel, .pinned], laidTests := true, laidLooks := .later }
def FberBackUptoCardSaid : Prop := Claim7.holds Tryz.pinned (.plain (OpenSpec.upto fberBackSpec)) fberBackUptoCard

/-- THE SECOND FORM's CARD OF 'latinerlaw09.FberReads'. -/
def fberReadsUptoCard : Claim7 := { stood := { row := fberReadsUptoRow, standIns := [], harness := (true, "3233c2a937603a32e0c41e5fd05882df9f4eb2e701a10cf005346c007118347e"), looks := true }, kinds := [], alts := [], laidByText := true, laidKinds := [.data, .handle, .sentinel, .sentinel, .sentinel, .sentinel, .sentinel, .sentinel, .sentinel, .sentinel, .sentinel, .sentinel, .sentinel, .sentinel, .sentinel, .sentinel, .sentinel, .sentinel, .sentinel, .sentinel, .sentinel, .pinned], laidTests := true, laidLooks := .later }
def FberReadsUptoCardSaid : Prop := Claim7.holds Tryz.pinned (.plain (OpenSpec.upto fberReadsSpec)) fberReadsUptoCard

/-- THE SECOND FORM's CARD OF 'latinerlaw09.FberTexts'. -/
def fberTextsUptoCard : Claim7 := { stood := { row := fberTextsUptoRow, standIns := [], harness := (true, "3233c2a937603a32e0c41e5fd05882df9f4eb2e701a10cf005346c007118347e"), looks := true }, kinds := [], alts := [], laidByText := true, laidKinds := [.data, .handle, .sentinel, .sentinel, .sentinel, .sentinel, .sentinel, .sentinel, .sentinel, .sentinel, .sentinel, .sentinel, .sentinel, .sentinel, .sentinel, .sentinel, .sentinel, .sentinel, .sentinel, .sentinel, .sentinel, .sentinel, .sentinel, .sentinel, .sentinel, .sentinel, .sentinel, .pinned], laidTests := true, laidLooks := .later }
def FberTextsUptoCardSaid : Prop := Claim7.holds Tryz.pinned (.plain (OpenSpec.upto fberTextsSpec)) fberTextsUptoCard

/-- THE SECOND FORM's CARD OF 'latinerlaw09.FberSets'. -/
def fberSetsUptoCard : Claim7 := { stood := { row := fberSetsUptoRow, standIns := [], harness := (true, "3233c2a937603a32e0c41e5fd05882df9f4eb2e701a10cf005346c007118347e"), looks := true }, kinds := [], alts := [], laidByText := true, laidKinds := [.data, .handle, .sentinel, .sentinel, .sentinel, .sentinel, .sentinel, .sentinel, .sentinel, .sentinel, .sentinel, .sentinel, .sentinel, .sentinel, .sentinel, .sentinel, .sentinel, .sentinel, .sentinel, .sentinel, .sentinel, .pinned], laidTests := true, laidLooks := .later }
def FberSetsUptoCardSaid : Prop := Claim7.holds Tryz.pinned (.plain (OpenSpec.upto fberSetsSpec)) fberSetsUptoCard

/-- THE SECOND FORM's CARD OF 'latinerlaw09.FberApart'. -/
def fberApartUptoCard : Claim7 := { stood := { row := fberApartUptoRow, standIns := [], harness := (true, "3233c2a937603a32e0c41e5fd05882df9f4eb2e701a10cf005346c007118347e"), looks := true }, kinds := [], alts := [], laidByText := true, laidKinds := [.data, .handle, .sentinel, .sentinel, .sentinel, .sentinel, .sentinel, .sentinel, .sentinel, .sentinel, .sentinel, .sentinel, .sentinel, .sentinel, .sentinel, .sentinel, .sentinel, .sentinel, .sentinel, .sentinel, .sentinel, .pinned], laidTests := true, laidLooks := .later }
def FberApartUptoCardSaid : Prop := Claim7.holds Tryz.pinned (.plain (OpenSpec.upto fberApartSpec)) fberApartUptoCard

/-- THE SECOND FORM's CARD OF 'latinerlaw09.FberNots'. -/
def fberNotsUptoCard : Claim7 := { stood := { row := fberNotsUptoRow, standIns := [], harness := (true, "3233c2a937603a32e0c41e5fd05882df9f4eb2e701a10cf005346c007118347e"), looks := true }, kinds := [], alts := [], laidByText := true, laidKinds := [.data, .handle, .sentinel, .sentinel, .sentinel, .sentinel, .sentinel, .sentinel, .sentinel, .sentinel, .sentinel, .sentinel, .sentinel, .sentinel, .sentinel, .sentinel, .sentinel, .sentinel, .sentinel, .sentinel, .sentinel, .pinned], laidTests := true, laidLooks := .later }
def FberNotsUptoCardSaid : Prop := Claim7.holds Tryz.pinned (.plain (OpenSpec.upto fberNotsSpec)) fberNotsUptoCard
end Rows
end Go.Proofs.YtmenllnokgjdlaaGreatDoor
