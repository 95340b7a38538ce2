/-
  DERIVED. GIVEN WITH THE SEED: THE CARDS: each row of YtjhnblgamodekaaGreatDoorRows.lean that lists a variable, with what it lists TIED to the program's text (the seventh form; the later family's looks); each row that meets fmt, with fmt's text TOLD by the authors' own Lean function (tested against real Go, not proved from fmt's source: count such statements apart). THE CARD IS WHAT COUNTS. Prove the row's statement (the work); the ties are given (YtjhnblgamodekaaGreatDoorTie.lean); close each card by the builder's one call (the guide's Derived/Test/ToyasCard.lean, 'card_holds'). Laid BY PROGRAM, IN A SANDBOX (cutbox-door.mjs). By AI agents, Wed Nov 11 2026. No macro, syntax, notation, axiom, sorry.
-/
import Derived.Test.YtjhnblgamodekaaGreatDoorRows
import GoSem.ClaimSeven
namespace Go.Proofs.YtjhnblgamodekaaGreatDoor
namespace Rows

/-- THE TIED CARD OF 'latinerlaw08.FiltTells'. -/
def filtTellsCard : Claim7 := { stood := { row := filtTellsRow, standIns := [], harness := (true, "12cff56e3a7f910da33f720a576b96a435e7bc0355317e78aec58853aacc95d8"), looks := true }, kinds := [], alts := [], laidByText := true, laidKinds := [.data, .handle, .sentinel, .sentinel, .sentinel, .sentinel, .sentinel, .sentinel, .sentinel, .sentinel, .sentinel, .sentinel, .sentinel, .sentinel, .sentinel, .pinned], laidTests := true, laidLooks := .later }
def FiltTellsCardSaid : Prop := Claim7.holds Tryz.pinned (.plain (OpenSpec.ofChange filtTellsSpec)) filtTellsCard

/-- THE SECOND FORM's CARD OF 'latinerlaw08.FiltTells'. -/
def filtTellsUptoCard : Claim7 := { stood := { row := filtTellsUptoRow, standIns := [], harness := (true, "12cff56e3a7f910da33f720a576b96a435e7bc0355317e78aec58853aacc95d8"), looks := true }, kinds := [], alts := [], laidByText := true, laidKinds := [.data, .handle, .sentinel, .sentinel, .sentinel, .sentinel, .sentinel, .sentinel, .sentinel, .sentinel, .sentinel, .sentinel, .sentinel, .sentinel, .sentinel, .pinned], laidTests := true, laidLooks := .later }
def FiltTellsUptoCardSaid : Prop := Claim7.holds Tryz.pinned (.plain (OpenSpec.upto filtTellsSpec)) filtTellsUptoCard
end Rows
end Go.Proofs.YtjhnblgamodekaaGreatDoor
