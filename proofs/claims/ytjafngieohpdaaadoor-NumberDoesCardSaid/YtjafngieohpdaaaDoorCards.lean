/-
  DERIVED. GIVEN WITH THE SEED: THE CARDS: each row of YtjafngieohpdaaaDoorRows.lean that lists a variable, with what it lists TIED to the program's text (the seventh form; the later family's looks); each row that meets fmt, with fmt's text TOLD by the authors' own Lean function (tested against real Go, not proved from fmt's source: count such statements apart). THE CARD IS WHAT COUNTS. Prove the row's statement (the work); the ties are given (YtjafngieohpdaaaDoorTie.lean); close each card by the builder's one call (the guide's Derived/Test/ToyasCard.lean, 'card_holds'). Laid BY PROGRAM, IN A SANDBOX (cutbox-door.mjs). By AI agents, Wed Nov 11 2026. No macro, syntax, notation, axiom, sorry.
-/
import Derived.Test.YtjafngieohpdaaaDoorRows
import GoSem.ClaimSeven
namespace Go.Proofs.YtjafngieohpdaaaDoor
namespace Rows

/-- THE TIED CARD OF 'diaeresislaw10.NumberDoes'. -/
def numberDoesCard : Claim7 := { stood := { row := numberDoesRow, standIns := [], harness := (true, "a55285c3d08593c4c74ecf9da54fa9aa1408510d46051ab096b1a907932b4025"), looks := true }, kinds := [], alts := [], laidByText := true, laidKinds := [.handle, .sentinel], laidTests := true, laidLooks := .later }
def NumberDoesCardSaid : Prop := Claim7.holds Tryd.pinned (.plain (OpenSpec.ofChange numberDoesSpec)) numberDoesCard

/-- THE TIED CARD OF 'diaeresislaw10.NumberBack'. -/
def numberBackCard : Claim7 := { stood := { row := numberBackRow, standIns := [], harness := (true, "a55285c3d08593c4c74ecf9da54fa9aa1408510d46051ab096b1a907932b4025"), looks := true }, kinds := [], alts := [], laidByText := true, laidKinds := [.handle, .sentinel], laidTests := true, laidLooks := .later }
def NumberBackCardSaid : Prop := Claim7.holds Tryd.pinned (.plain (OpenSpec.ofChange numberBackSpec)) numberBackCard

/-- THE TIED CARD OF 'diaeresislaw10.NumberResidues'. -/
def numberResiduesCard : Claim7 := { stood := { row := numberResiduesRow, standIns := [], harness := (true, "a55285c3d08593c4c74ecf9da54fa9aa1408510d46051ab096b1a907932b4025"), looks := true }, kinds := [], alts := [], laidByText := true, laidKinds := [.handle, .sentinel], laidTests := true, laidLooks := .later }
def NumberResiduesCardSaid : Prop := Claim7.holds Tryd.pinned (.plain (OpenSpec.ofChange numberResiduesSpec)) numberResiduesCard

/-- THE TIED CARD OF 'diaeresislaw10.NumberOrders'. -/
def numberOrdersCard : Claim7 := { stood := { row := numberOrdersRow, standIns := [], harness := (true, "a55285c3d08593c4c74ecf9da54fa9aa1408510d46051ab096b1a907932b4025"), looks := true }, kinds := [], alts := [], laidByText := true, laidKinds := [.handle, .sentinel], laidTests := true, laidLooks := .later }
def NumberOrdersCardSaid : Prop := Claim7.holds Tryd.pinned (.plain (OpenSpec.ofChange numberOrdersSpec)) numberOrdersCard

/-- THE TIED CARD OF 'diaeresislaw10.NumberTurns'. -/
def numberTurnsCard : Claim7 := { stood := { row := numberTurnsRow, standIns := [], harness := (true, "a55285c3d08593c4c74ecf9da54fa9aa1408510d46051ab096b1a907932b4025"), looks := true }, kinds := [], alts := [], laidByText := true, laidKinds := [.handle, .sentinel], laidTests := true, laidLooks := .later }
def NumberTurnsCardSaid : Prop := Claim7.holds Tryd.pinned (.plain (OpenSpec.ofChange numberTurnsSpec)) numberTurnsCard

/-- THE TIED CARD OF 'diaeresislaw10.NumberSigns'. -/
def numberSignsCard : Claim7 := { stood := { row := numberSignsRow, standIns := [], harness := (true, "a55285c3d08593c4c74ecf9da54fa9aa1408510d46051ab096b1a907932b4025"), looks := true }, kinds := [], alts := [], laidByText := true, laidKinds := [.handle, .sentinel], laidTests := true, laidLooks := .later }
def NumberSignsCardSaid : Prop := Claim7.holds Tryd.pinned (.plain (OpenSpec.ofChange numberSignsSpec)) numberSignsCard

/-- THE TIED CARD OF 'diaeresislaw10.NumberLogic'. -/
def numberLogicCard : Claim7 := { stood := { row := numberLogicRow, standIns := [], harness := (true, "a55285c3d08593c4c74ecf9da54fa9aa1408510d46051ab096b1a907932b4025"), looks := true }, kinds := [], alts := [], laidByText := true, laidKinds := [.handle, .sentinel], laidTests := true, laidLooks := .later }
def NumberLogicCardSaid : Prop := Claim7.holds Tryd.pinned (.plain (OpenSpec.ofChange numberLogicSpec)) numberLogicCard

/-- THE SECOND FORM's CARD OF 'diaeresislaw10.NumberDoes'. -/
def numberDoesUptoCard : Claim7 := { stood := { row := numberDoesUptoRow, standIns := [], harness := (true, "a55285c3d08593c4c74ecf9da54fa9aa1408510d46051ab096b1a907932b4025"), looks := true }, kinds := [], alts := [], laidByText := true, laidKinds := [.handle, .sentinel], laidTests := true, laidLooks := .later }
def NumberDoesUptoCardSaid : Prop := Claim7.holds Tryd.pinned (.plain (OpenSpec.upto numberDoesSpec)) numberDoesUptoCard

/-- THE SECOND FORM's CARD OF 'diaeresislaw10.NumberBack'. -/
def numberBackUptoCard : Claim7 := { stood := { row := numberBackUptoRow, standIns := [], harness := (true, "a55285c3d08593c4c74ecf9da54fa9aa1408510d46051ab096b1a907932b4025"), looks := true }, kinds := [], alts := [], laidByText := true, laidKinds := [.handle, .sentinel], laidTests := true, laidLooks := .later }
def NumberBackUptoCardSaid : Prop := Claim7.holds Tryd.pinned (.plain (OpenSpec.upto numberBackSpec)) numberBackUptoCard

/-- THE SECOND FORM's CARD OF 'diaeresislaw10.NumberResidues'. -/
def numberResiduesUptoCard : Claim7 := { stood := { row := numberResiduesUptoRow, standIns := [], harness := (true, "a55285c3d08593c4c74ecf9da54fa9aa1408510d46051ab096b1a907932b4025"), looks := true }, kinds := [], alts := [], laidByText := true, laidKinds := [.handle, .sentinel], laidTests := true, laidLooks := .later }
def NumberResiduesUptoCardSaid : Prop := Claim7.holds Tryd.pinned (.plain (OpenSpec.upto numberResiduesSpec)) numberResiduesUptoCard

/-- THE SECOND FORM's CARD OF 'diaeresislaw10.NumberOrders'. -/
def numberOrdersUptoCard : Claim7 := { stood := { row := numberOrdersUptoRow, standIns := [], harness := (true, "a55285c3d08593c4c74ecf9da54fa9aa1408510d46051ab096b1a907932b4025"), looks := true }, kinds := [], alts := [], laidByText := true, laidKinds := [.handle, .sentinel], laidTests := true, laidLooks := .later }
def NumberOrdersUptoCardSaid : Prop := Claim7.holds Tryd.pinned (.plain (OpenSpec.upto numberOrdersSpec)) numberOrdersUptoCard

/-- THE SECOND FORM's CARD OF 'diaeresislaw10.NumberTurns'. -/
def numberTurnsUptoCard : Claim7 := { stood := { row := numberTurnsUptoRow, standIns := [], harness := (true, "a55285c3d08593c4c74ecf9da54fa9aa1408510d46051ab096b1a907932b4025"), looks := true }, kinds := [], alts := [], laidByText := true, laidKinds := [.handle, .sentinel], laidTests := true, laidLooks := .later }
def NumberTurnsUptoCardSaid : Prop := Claim7.holds Tryd.pinned (.plain (OpenSpec.upto numberTurnsSpec)) numberTurnsUptoCard

/-- THE SECOND FORM's CARD OF 'diaeresislaw10.NumberSigns'. -/
def numberSignsUptoCard : Claim7 := { stood := { row := numberSignsUptoRow, standIns := [], harness := (true, "a55285c3d08593c4c74ecf9da54fa9aa1408510d46051ab096b1a907932b4025"), looks := true }, kinds := [], alts := [], laidByText := true, laidKinds := [.handle, .sentinel], laidTests := true, laidLooks := .later }
def NumberSignsUptoCardSaid : Prop := Claim7.holds Tryd.pinned (.plain (OpenSpec.upto numberSignsSpec)) numberSignsUptoCard

/-- THE SECOND FORM's CARD OF 'diaeresislaw10.NumberLogic'. -/
def numberLogicUptoCard : Claim7 := { stood := { row := numberLogicUptoRow, standIns := [], harness := (true, "a55285c3d08593c4c74ecf9da54fa9aa1408510d46051ab096b1a907932b4025"), looks := true }, kinds := [], alts := [], laidByText := true, laidKinds := [.handle, .sentinel], laidTests := true, laidLooks := .later }
def NumberLogicUptoCardSaid : Prop := Claim7.holds Tryd.pinned (.plain (OpenSpec.upto numberLogicSpec)) numberLogicUptoCard
end Rows
end Go.Proofs.YtjafngieohpdaaaDoor
