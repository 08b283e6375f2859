/-
  DERIVED. GIVEN WITH THE SEED: THE CARDS: each row of YtldffmnmofmkaaaDoorRows.lean that lists a variable, with what it lists TIED to the program's text (the seventh form; the later family's looks); each row that meets fmt, with fmt's text TOLD by the authors' own Lean function (tested against real Go, not proved from fmt's source: count such statements apart). THE CARD IS WHAT COUNTS. Prove the row's statement (the work); the ties are given (YtldffmnmofmkaaaDoorTie.lean); close each card by the builder's one call (the guide's Derived/Test/ToyasCard.lean, 'card_holds'). Laid BY PROGRAM, IN A SANDBOX (cutbox-door.mjs). By AI agents, Wed Nov 11 2026. No macro, syntax, notation, axiom, sorry.
-/
import Derived.Test.YtldffmnmofmkaaaDoorRows
import GoSem.ClaimSeven
namespace Go.Proofs.YtldffmnmofmkaaaDoor
namespace Rows

/-- THE TIED CARD OF 'diaeresislaw03.GlyphTells'. -/
def glyphTellsCard : Claim7 := { stood := { row := glyphTellsRow, standIns := [], harness := (true, "1e1aaf3fed04c401d3f99254ca2070e5cc9ea2700b3941a6eff0789780d1fad3"), looks := false }, kinds := [], alts := [], laidByText := true, laidKinds := [.data], laidTests := true, laidLooks := .later }
def GlyphTellsCardSaid : Prop := Claim7.holds Tryd.pinned (.plain (OpenSpec.ofChange glyphTellsSpec)) glyphTellsCard

/-- THE TIED CARD OF 'diaeresislaw03.GlyphTurns'. -/
def glyphTurnsCard : Claim7 := { stood := { row := glyphTurnsRow, standIns := [], harness := (true, "1e1aaf3fed04c401d3f99254ca2070e5cc9ea2700b3941a6eff0789780d1fad3"), looks := false }, kinds := [], alts := [], laidByText := true, laidKinds := [.data], laidTests := true, laidLooks := .later }
def GlyphTurnsCardSaid : Prop := Claim7.holds Tryd.pinned (.plain (OpenSpec.ofChange glyphTurnsSpec)) glyphTurnsCard

/-- THE TIED CARD OF 'diaeresislaw03.GlyphBack'. -/
def glyphBackCard : Claim7 := { stood := { row := glyphBackRow, standIns := [], harness := (true, "1e1aaf3fed04c401d3f99254ca2070e5cc9ea2700b3941a6eff0789780d1fad3"), looks := false }, kinds := [], alts := [], laidByText := true, laidKinds := [.data], laidTests := true, laidLooks := .later }
def GlyphBackCardSaid : Prop := Claim7.holds Tryd.pinned (.plain (OpenSpec.ofChange glyphBackSpec)) glyphBackCard

/-- THE TIED CARD OF 'diaeresislaw03.GlyphFirst'. -/
def glyphFirstCard : Claim7 := { stood := { row := glyphFirstRow, standIns := [], harness := (true, "1e1aaf3fed04c401d3f99254ca2070e5cc9ea2700b3941a6eff0789780d1fad3"), looks := false }, kinds := [], alts := [], laidByText := true, laidKinds := [.data], laidTests := true, laidLooks := .later }
def GlyphFirstCardSaid : Prop := Claim7.holds Tryd.pinned (.plain (OpenSpec.ofChange glyphFirstSpec)) glyphFirstCard

/-- THE TIED CARD OF 'diaeresislaw03.GlyphParts'. -/
def glyphPartsCard : Claim7 := { stood := { row := glyphPartsRow, standIns := [], harness := (true, "1e1aaf3fed04c401d3f99254ca2070e5cc9ea2700b3941a6eff0789780d1fad3"), looks := false }, kinds := [], alts := [], laidByText := true, laidKinds := [.data], laidTests := true, laidLooks := .later }
def GlyphPartsCardSaid : Prop := Claim7.holds Tryd.pinned (.plain (OpenSpec.ofChange glyphPartsSpec)) glyphPartsCard

/-- THE TIED CARD OF 'diaeresislaw03.GlyphLetters'. -/
def glyphLettersCard : Claim7 := { stood := { row := glyphLettersRow, standIns := [], harness := (true, "1e1aaf3fed04c401d3f99254ca2070e5cc9ea2700b3941a6eff0789780d1fad3"), looks := false }, kinds := [], alts := [], laidByText := true, laidKinds := [.data], laidTests := true, laidLooks := .later }
def GlyphLettersCardSaid : Prop := Claim7.holds Tryd.pinned (.plain (OpenSpec.ofChange glyphLettersSpec)) glyphLettersCard

/-- THE SECOND FORM's CARD OF 'diaeresislaw03.GlyphTells'. -/
def glyphTellsUptoCard : Claim7 := { stood := { row := glyphTellsUptoRow, standIns := [], harness := (true, "1e1aaf3fed04c401d3f99254ca2070e5cc9ea2700b3941a6eff0789780d1fad3"), looks := false }, kinds := [], alts := [], laidByText := true, laidKinds := [.data], laidTests := true, laidLooks := .later }
def GlyphTellsUptoCardSaid : Prop := Claim7.holds Tryd.pinned (.plain (OpenSpec.upto glyphTellsSpec)) glyphTellsUptoCard

/-- THE SECOND FORM's CARD OF 'diaeresislaw03.GlyphTurns'. -/
def glyphTurnsUptoCard : Claim7 := { stood := { row := glyphTurnsUptoRow, standIns := [], harness := (true, "1e1aaf3fed04c401d3f99254ca2070e5cc9ea2700b3941a6eff0789780d1fad3"), looks := false }, kinds := [], alts := [], laidByText := true, laidKinds := [.data], laidTests := true, laidLooks := .later }
def GlyphTurnsUptoCardSaid : Prop := Claim7.holds Tryd.pinned (.plain (OpenSpec.upto glyphTurnsSpec)) glyphTurnsUptoCard

/-- THE SECOND FORM's CARD OF 'diaeresislaw03.GlyphBack'. -/
def glyphBackUptoCard : Claim7 := { stood := { row := glyphBackUptoRow, standIns := [], harness := (true, "1e1aaf3fed04c401d3f99254ca2070e5cc9ea2700b3941a6eff0789780d1fad3"), looks := false }, kinds := [], alts := [], laidByText := true, laidKinds := [.data], laidTests := true, laidLooks := .later }
def GlyphBackUptoCardSaid : Prop := Claim7.holds Tryd.pinned (.plain (OpenSpec.upto glyphBackSpec)) glyphBackUptoCard

/-- THE SECOND FORM's CARD OF 'diaeresislaw03.GlyphFirst'. -/
def glyphFirstUptoCard : Claim7 := { stood := { row := glyphFirstUptoRow, standIns := [], harness := (true, "1e1aaf3fed04c401d3f99254ca2070e5cc9ea2700b3941a6eff0789780d1fad3"), looks := false }, kinds := [], alts := [], laidByText := true, laidKinds := [.data], laidTests := true, laidLooks := .later }
def GlyphFirstUptoCardSaid : Prop := Claim7.holds Tryd.pinned (.plain (OpenSpec.upto glyphFirstSpec)) glyphFirstUptoCard

/-- THE SECOND FORM's CARD OF 'diaeresislaw03.GlyphParts'. -/
def glyphPartsUptoCard : Claim7 := { stood := { row := glyphPartsUptoRow, standIns := [], harness := (true, "1e1aaf3fed04c401d3f99254ca2070e5cc9ea2700b3941a6eff0789780d1fad3"), looks := false }, kinds := [], alts := [], laidByText := true, laidKinds := [.data], laidTests := true, laidLooks := .later }
def GlyphPartsUptoCardSaid : Prop := Claim7.holds Tryd.pinned (.plain (OpenSpec.upto glyphPartsSpec)) glyphPartsUptoCard

/-- THE SECOND FORM's CARD OF 'diaeresislaw03.GlyphLetters'. -/
def glyphLettersUptoCard : Claim7 := { stood := { row := glyphLettersUptoRow, standIns := [], harness := (true, "1e1aaf3fed04c401d3f99254ca2070e5cc9ea2700b3941a6eff0789780d1fad3"), looks := false }, kinds := [], alts := [], laidByText := true, laidKinds := [.data], laidTests := true, laidLooks := .later }
def GlyphLettersUptoCardSaid : Prop := Claim7.holds Tryd.pinned (.plain (OpenSpec.upto glyphLettersSpec)) glyphLettersUptoCard
end Rows
end Go.Proofs.YtldffmnmofmkaaaDoor
