/-
  DERIVED. GIVEN WITH THE SEED: THE CARDS: each row of YtjgphpjbcabdeaaDoorRows.lean that lists a variable, with what it lists TIED to the program's text (the seventh form; the later family's looks); each row that meets fmt, with fmt's text TOLD by the authors' own Lean function (tested against real Go, not proved from fmt's source: count such statements apart). THE CARD IS WHAT COUNTS. Prove the row's statement (the work); the ties are given (YtjgphpjbcabdeaaDoorTie.lean); close each card by the builder's one call (the guide's Derived/Test/ToyasCard.lean, 'card_holds'). Laid BY PROGRAM, IN A SANDBOX (cutbox-door.mjs). By AI agents, Wed Nov 11 2026. No macro, syntax, notation, axiom, sorry.
-/
import Derived.Test.YtjgphpjbcabdeaaDoorRows
import GoSem.ClaimSeven
namespace Go.Proofs.YtjgphpjbcabdeaaDoor
namespace Rows

/-- THE TIED CARD OF 'latinerlaw03.PrimCodes'. -/
def primCodesCard : Claim7 := { stood := { row := primCodesRow, standIns := [], harness := (true, "d5a892c2f3c19761490274f07c1400638ff3939ce34f427c639b0e5ecca9748c"), looks := true }, kinds := [], alts := [], laidByText := true, laidKinds := [.handle, .sentinel], laidTests := true, laidLooks := .later }
def PrimCodesCardSaid : Prop := Claim7.holds Tryd.pinned (.plain (OpenSpec.ofChange primCodesSpec)) primCodesCard

/-- THE TIED CARD OF 'latinerlaw03.PrimBack'. -/
def primBackCard : Claim7 := { stood := { row := primBackRow, standIns := [], harness := (true, "d5a892c2f3c19761490274f07c1400638ff3939ce34f427c639b0e5ecca9748c"), looks := true }, kinds := [], alts := [], laidByText := true, laidKinds := [.handle, .sentinel], laidTests := true, laidLooks := .later }
def PrimBackCardSaid : Prop := Claim7.holds Tryd.pinned (.plain (OpenSpec.ofChange primBackSpec)) primBackCard

/-- THE TIED CARD OF 'latinerlaw03.PrimOrder'. -/
def primOrderCard : Claim7 := { stood := { row := primOrderRow, standIns := [], harness := (true, "d5a892c2f3c19761490274f07c1400638ff3939ce34f427c639b0e5ecca9748c"), looks := true }, kinds := [], alts := [], laidByText := true, laidKinds := [.handle, .sentinel], laidTests := true, laidLooks := .later }
def PrimOrderCardSaid : Prop := Claim7.holds Tryd.pinned (.plain (OpenSpec.ofChange primOrderSpec)) primOrderCard

/-- THE TIED CARD OF 'latinerlaw03.PrimSizes'. -/
def primSizesCard : Claim7 := { stood := { row := primSizesRow, standIns := [], harness := (true, "d5a892c2f3c19761490274f07c1400638ff3939ce34f427c639b0e5ecca9748c"), looks := true }, kinds := [], alts := [], laidByText := true, laidKinds := [.handle, .sentinel], laidTests := true, laidLooks := .later }
def PrimSizesCardSaid : Prop := Claim7.holds Tryd.pinned (.plain (OpenSpec.ofChange primSizesSpec)) primSizesCard

/-- THE TIED CARD OF 'latinerlaw03.PrimLonger'. -/
def primLongerCard : Claim7 := { stood := { row := primLongerRow, standIns := [], harness := (true, "d5a892c2f3c19761490274f07c1400638ff3939ce34f427c639b0e5ecca9748c"), looks := true }, kinds := [], alts := [], laidByText := true, laidKinds := [.handle, .sentinel], laidTests := true, laidLooks := .later }
def PrimLongerCardSaid : Prop := Claim7.holds Tryd.pinned (.plain (OpenSpec.ofChange primLongerSpec)) primLongerCard

/-- THE TIED CARD OF 'latinerlaw03.PrimTrue'. -/
def primTrueCard : Claim7 := { stood := { row := primTrueRow, standIns := [], harness := (true, "d5a892c2f3c19761490274f07c1400638ff3939ce34f427c639b0e5ecca9748c"), looks := true }, kinds := [], alts := [], laidByText := true, laidKinds := [.handle, .sentinel], laidTests := true, laidLooks := .later }
def PrimTrueCardSaid : Prop := Claim7.holds Tryd.pinned (.plain (OpenSpec.ofChange primTrueSpec)) primTrueCard

/-- THE SECOND FORM's CARD OF 'latinerlaw03.PrimCodes'. -/
def primCodesUptoCard : Claim7 := { stood := { row := primCodesUptoRow, standIns := [], harness := (true, "d5a892c2f3c19761490274f07c1400638ff3939ce34f427c639b0e5ecca9748c"), looks := true }, kinds := [], alts := [], laidByText := true, laidKinds := [.handle, .sentinel], laidTests := true, laidLooks := .later }
def PrimCodesUptoCardSaid : Prop := Claim7.holds Tryd.pinned (.plain (OpenSpec.upto primCodesSpec)) primCodesUptoCard

/-- THE SECOND FORM's CARD OF 'latinerlaw03.PrimBack'. -/
def primBackUptoCard : Claim7 := { stood := { row := primBackUptoRow, standIns := [], harness := (true, "d5a892c2f3c19761490274f07c1400638ff3939ce34f427c639b0e5ecca9748c"), looks := true }, kinds := [], alts := [], laidByText := true, laidKinds := [.handle, .sentinel], laidTests := true, laidLooks := .later }
def PrimBackUptoCardSaid : Prop := Claim7.holds Tryd.pinned (.plain (OpenSpec.upto primBackSpec)) primBackUptoCard

/-- THE SECOND FORM's CARD OF 'latinerlaw03.PrimOrder'. -/
def primOrderUptoCard : Claim7 := { stood := { row := primOrderUptoRow, standIns := [], harness := (true, "d5a892c2f3c19761490274f07c1400638ff3939ce34f427c639b0e5ecca9748c"), looks := true }, kinds := [], alts := [], laidByText := true, laidKinds := [.handle, .sentinel], laidTests := true, laidLooks := .later }
def PrimOrderUptoCardSaid : Prop := Claim7.holds Tryd.pinned (.plain (OpenSpec.upto primOrderSpec)) primOrderUptoCard

/-- THE SECOND FORM's CARD OF 'latinerlaw03.PrimSizes'. -/
def primSizesUptoCard : Claim7 := { stood := { row := primSizesUptoRow, standIns := [], harness := (true, "d5a892c2f3c19761490274f07c1400638ff3939ce34f427c639b0e5ecca9748c"), looks := true }, kinds := [], alts := [], laidByText := true, laidKinds := [.handle, .sentinel], laidTests := true, laidLooks := .later }
def PrimSizesUptoCardSaid : Prop := Claim7.holds Tryd.pinned (.plain (OpenSpec.upto primSizesSpec)) primSizesUptoCard

/-- THE SECOND FORM's CARD OF 'latinerlaw03.PrimLonger'. -/
def primLongerUptoCard : Claim7 := { stood := { row := primLongerUptoRow, standIns := [], harness := (true, "d5a892c2f3c19761490274f07c1400638ff3939ce34f427c639b0e5ecca9748c"), looks := true }, kinds := [], alts := [], laidByText := true, laidKinds := [.handle, .sentinel], laidTests := true, laidLooks := .later }
def PrimLongerUptoCardSaid : Prop := Claim7.holds Tryd.pinned (.plain (OpenSpec.upto primLongerSpec)) primLongerUptoCard

/-- THE SECOND FORM's CARD OF 'latinerlaw03.PrimTrue'. -/
def primTrueUptoCard : Claim7 := { stood := { row := primTrueUptoRow, standIns := [], harness := (true, "d5a892c2f3c19761490274f07c1400638ff3939ce34f427c639b0e5ecca9748c"), looks := true }, kinds := [], alts := [], laidByText := true, laidKinds := [.handle, .sentinel], laidTests := true, laidLooks := .later }
def PrimTrueUptoCardSaid : Prop := Claim7.holds Tryd.pinned (.plain (OpenSpec.upto primTrueSpec)) primTrueUptoCard
end Rows
end Go.Proofs.YtjgphpjbcabdeaaDoor
