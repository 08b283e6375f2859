/-
  NARROWER THAN 'FOR EVERY INPUT', by the rows' own cells (each row's printed sentence says how): GlyphTells: laid · GlyphTurns: laid · GlyphBack: laid · GlyphFirst: laid · GlyphParts: laid · GlyphLetters: laid.
  DERIVED. THE GIVEN ROWS OF THIS SEAT. 6 by the template 'for every input the law returns true; each argument reads behind the call as it read before'; 0 by the template 'total and deterministic' (their statements: YtldffmnmofmkaaaDoorTotals.lean).
  GIVEN WITH THE SEED: the statements are not yours to turn. If you find one false, say at which input.
  Laid BY PROGRAM, IN A SANDBOX (cutbox-rows.mjs): the forced cells as the released guide's own fill.sh prints them over the translation d2cb6a7f08792b38… (all of the seat's roots in one cut). By AI agents, Wed Nov 11 2026. No macro, syntax, notation, axiom, sorry.
-/
import Derived.Test.YtldffmnmofmkaaaDoorChecked
import GoSem.Claim
import GoSem.ClaimJoined
import GoSem.ClaimMapViews
import Derived.JoinedTies
import Derived.KernelRfl
namespace Go.Proofs.YtldffmnmofmkaaaDoor
/- THE CELL 'sum', in the pinned program and in every row, IS THE sha256 OF THE DUMP (.gsa) THAT YtldffmnmofmkaaaDoorProg.lean LOADS. Nothing in Lean hashes anything: it is a label: what it is worth is what the hold of that sum in a sandbox is worth. -/
noncomputable def Tryd.pinned : Pinned := { name := "ytldffmnmofmkaaadoor", sum := "d2cb6a7f08792b384c00771126c8fc738aad347ff1f745825e829409bf5b05b1", checked := Tryd.checked }
namespace Rows
def none {H : Type} : Left H := { results := [], args := [] }

/- WHAT THE LISTED PACKAGE-LEVEL VARIABLES READ AS WHEN THE CALL BEGINS. Each datum BY PROGRAM (the guide's laid-datum.mjs) off the statement by which the dump's own 'gosem.cut.vars' lays the variable. In a bare row this is a premise. The card (YtldffmnmofmkaaaDoorCards.lean) ties it to the program's text. -/
def laid_diaeresis_glyph_table {H : Type} : DataW H := .agg [.agg [.lit (.string [43]), .lit (.string []), .lit (.int .i64 1)], .agg [.lit (.string [45]), .lit (.string []), .lit (.int .i64 1)], .agg [.lit (.string [195, 151]), .lit (.string [96, 120]), .lit (.int .i64 1)], .agg [.lit (.string [195, 183]), .lit (.string [96, 100]), .lit (.int .i64 1)], .agg [.lit (.string [226, 140, 136]), .lit (.string [96, 117]), .lit (.int .i64 1)], .agg [.lit (.string [226, 140, 138]), .lit (.string [96, 110]), .lit (.int .i64 1)], .agg [.lit (.string [124]), .lit (.string []), .lit (.int .i64 1)], .agg [.lit (.string [61]), .lit (.string []), .lit (.int .i64 1)], .agg [.lit (.string [226, 137, 160]), .lit (.string [96, 113]), .lit (.int .i64 1)], .agg [.lit (.string [60]), .lit (.string []), .lit (.int .i64 1)], .agg [.lit (.string [62]), .lit (.string []), .lit (.int .i64 1)], .agg [.lit (.string [226, 137, 164]), .lit (.string [96, 108]), .lit (.int .i64 1)], .agg [.lit (.string [226, 137, 165]), .lit (.string [96, 103]), .lit (.int .i64 1)], .agg [.lit (.string [226, 136, 167]), .lit (.string [96, 97]), .lit (.int .i64 1)], .agg [.lit (.string [226, 136, 168]), .lit (.string [96, 111]), .lit (.int .i64 1)], .agg [.lit (.string [126]), .lit (.string []), .lit (.int .i64 1)], .agg [.lit (.string [226, 141, 180]), .lit (.string [96, 114]), .lit (.int .i64 1)], .agg [.lit (.string [226, 141, 179]), .lit (.string [96, 105]), .lit (.int .i64 1)], .agg [.lit (.string [44]), .lit (.string []), .lit (.int .i64 1)], .agg [.lit (.string [226, 140, 189]), .lit (.string [96, 116]), .lit (.int .i64 1)], .agg [.lit (.string [226, 134, 145]), .lit (.string [96, 107]), .lit (.int .i64 1)], .agg [.lit (.string [226, 134, 147]), .lit (.string [96, 106]), .lit (.int .i64 1)], .agg [.lit (.string [226, 137, 162]), .lit (.string [96, 109]), .lit (.int .i64 1)], .agg [.lit (.string [47]), .lit (.string []), .lit (.int .i64 2)], .agg [.lit (.string [92]), .lit (.string []), .lit (.int .i64 2)], .agg [.lit (.string [194, 168]), .lit (.string [96, 101]), .lit (.int .i64 2)], .agg [.lit (.string [226, 141, 168]), .lit (.string [96, 99]), .lit (.int .i64 2)], .agg [.lit (.string [226, 134, 144]), .lit (.string [96, 115]), .lit (.int .i64 3)], .agg [.lit (.string [226, 139, 132]), .lit (.string [96, 122]), .lit (.int .i64 3)], .agg [.lit (.string [58]), .lit (.string []), .lit (.int .i64 3)], .agg [.lit (.string [123]), .lit (.string []), .lit (.int .i64 3)], .agg [.lit (.string [125]), .lit (.string []), .lit (.int .i64 3)], .agg [.lit (.string [40]), .lit (.string []), .lit (.int .i64 3)], .agg [.lit (.string [41]), .lit (.string []), .lit (.int .i64 3)], .agg [.lit (.string [226, 141, 186]), .lit (.string [96, 112]), .lit (.int .i64 4)], .agg [.lit (.string [226, 141, 181]), .lit (.string [96, 119]), .lit (.int .i64 4)], .agg [.lit (.string [194, 175]), .lit (.string [96, 104]), .lit (.int .i64 5)], .agg [.lit (.string [226, 141, 157]), .lit (.string [96, 98]), .lit (.int .i64 6)]]

/-- 'diaeresislaw03.GlyphTells': WHATEVER THE INPUT: true; the input reads as it did. -/
def glyphTellsSpec : ChangeSpec := { name := "glyphTells", fn := fun _ => fun
  | [d1, d2] => { results := [.lit (.bool true)], args := [d1, d2] }
  | _ => none }
def glyphTellsRow : OpenClaim := { program := "ytldffmnmofmkaaadoor", sum := "d2cb6a7f08792b384c00771126c8fc738aad347ff1f745825e829409bf5b05b1", func := "diaeresis/diaeresislaw03.GlyphTells", spec := "glyphTells", unfollowed := true, recurses := true, named := ["diaeresis/glyph.table"], apart := false, laid := [("diaeresis/glyph.table", laid_diaeresis_glyph_table)] }
def GlyphTellsSaid : Prop := glyphTellsRow.holds Tryd.pinned (OpenSpec.ofChange glyphTellsSpec)

/-- ITS FALSE NEIGHBOUR: 'it returns false'. Refute it at one input. -/
def glyphTellsWrong : ChangeSpec := { name := "glyphTells", fn := fun _ => fun
  | [d1, d2] => { results := [.lit (.bool false)], args := [d1, d2] }
  | _ => none }
def GlyphTellsWrongFalsely : Prop := glyphTellsRow.holds Tryd.pinned (OpenSpec.ofChange glyphTellsWrong)

/-- 'diaeresislaw03.GlyphTurns': WHATEVER THE INPUT: true; the input reads as it did. -/
def glyphTurnsSpec : ChangeSpec := { name := "glyphTurns", fn := fun _ => fun
  | [d] => { results := [.lit (.bool true)], args := [d] }
  | _ => none }
def glyphTurnsRow : OpenClaim := { program := "ytldffmnmofmkaaadoor", sum := "d2cb6a7f08792b384c00771126c8fc738aad347ff1f745825e829409bf5b05b1", func := "diaeresis/diaeresislaw03.GlyphTurns", spec := "glyphTurns", unfollowed := true, recurses := true, named := ["diaeresis/glyph.table"], apart := false, laid := [("diaeresis/glyph.table", laid_diaeresis_glyph_table)] }
def GlyphTurnsSaid : Prop := glyphTurnsRow.holds Tryd.pinned (OpenSpec.ofChange glyphTurnsSpec)

/-- ITS FALSE NEIGHBOUR: 'it returns false'. Refute it at one input. -/
def glyphTurnsWrong : ChangeSpec := { name := "glyphTurns", fn := fun _ => fun
  | [d] => { results := [.lit (.bool false)], args := [d] }
  | _ => none }
def GlyphTurnsWrongFalsely : Prop := glyphTurnsRow.holds Tryd.pinned (OpenSpec.ofChange glyphTurnsWrong)

/-- 'diaeresislaw03.GlyphBack': WHATEVER THE INPUT: true; the input reads as it did. -/
def glyphBackSpec : ChangeSpec := { name := "glyphBack", fn := fun _ => fun
  | [d] => { results := [.lit (.bool true)], args := [d] }
  | _ => none }
def glyphBackRow : OpenClaim := { program := "ytldffmnmofmkaaadoor", sum := "d2cb6a7f08792b384c00771126c8fc738aad347ff1f745825e829409bf5b05b1", func := "diaeresis/diaeresislaw03.GlyphBack", spec := "glyphBack", unfollowed := true, recurses := true, named := ["diaeresis/glyph.table"], apart := false, laid := [("diaeresis/glyph.table", laid_diaeresis_glyph_table)] }
def GlyphBackSaid : Prop := glyphBackRow.holds Tryd.pinned (OpenSpec.ofChange glyphBackSpec)

/-- ITS FALSE NEIGHBOUR: 'it returns false'. Refute it at one input. -/
def glyphBackWrong : ChangeSpec := { name := "glyphBack", fn := fun _ => fun
  | [d] => { results := [.lit (.bool false)], args := [d] }
  | _ => none }
def GlyphBackWrongFalsely : Prop := glyphBackRow.holds Tryd.pinned (OpenSpec.ofChange glyphBackWrong)

/-- 'diaeresislaw03.GlyphFirst': WHATEVER THE INPUT: true; the input reads as it did. -/
def glyphFirstSpec : ChangeSpec := { name := "glyphFirst", fn := fun _ => fun
  | [d] => { results := [.lit (.bool true)], args := [d] }
  | _ => none }
def glyphFirstRow : OpenClaim := { program := "ytldffmnmofmkaaadoor", sum := "d2cb6a7f08792b384c00771126c8fc738aad347ff1f745825e829409bf5b05b1", func := "diaeresis/diaeresislaw03.GlyphFirst", spec := "glyphFirst", unfollowed := true, recurses := true, named := ["diaeresis/glyph.table"], apart := false, laid := [("diaeresis/glyph.table", laid_diaeresis_glyph_table)] }
def GlyphFirstSaid : Prop := glyphFirstRow.holds Tryd.pinned (OpenSpec.ofChange glyphFirstSpec)

/-- ITS FALSE NEIGHBOUR: 'it returns false'. Refute it at one input. -/
def glyphFirstWrong : ChangeSpec := { name := "glyphFirst", fn := fun _ => fun
  | [d] => { results := [.lit (.bool false)], args := [d] }
  | _ => none }
def GlyphFirstWrongFalsely : Prop := glyphFirstRow.holds Tryd.pinned (OpenSpec.ofChange glyphFirstWrong)

/-- 'diaeresislaw03.GlyphParts': WHATEVER THE INPUT: true; the input reads as it did. -/
def glyphPartsSpec : ChangeSpec := { name := "glyphParts", fn := fun _ => fun
  | [d1, d2] => { results := [.lit (.bool true)], args := [d1, d2] }
  | _ => none }
def glyphPartsRow : OpenClaim := { program := "ytldffmnmofmkaaadoor", sum := "d2cb6a7f08792b384c00771126c8fc738aad347ff1f745825e829409bf5b05b1", func := "diaeresis/diaeresislaw03.GlyphParts", spec := "glyphParts", unfollowed := true, recurses := true, named := ["diaeresis/glyph.table"], apart := false, laid := [("diaeresis/glyph.table", laid_diaeresis_glyph_table)] }
def GlyphPartsSaid : Prop := glyphPartsRow.holds Tryd.pinned (OpenSpec.ofChange glyphPartsSpec)

/-- ITS FALSE NEIGHBOUR: 'it returns false'. Refute it at one input. -/
def glyphPartsWrong : ChangeSpec := { name := "glyphParts", fn := fun _ => fun
  | [d1, d2] => { results := [.lit (.bool false)], args := [d1, d2] }
  | _ => none }
def GlyphPartsWrongFalsely : Prop := glyphPartsRow.holds Tryd.pinned (OpenSpec.ofChange glyphPartsWrong)

/-- 'diaeresislaw03.GlyphLetters': WHATEVER THE INPUT: true; the input reads as it did. -/
def glyphLettersSpec : ChangeSpec := { name := "glyphLetters", fn := fun _ => fun
  | [d1, d2] => { results := [.lit (.bool true)], args := [d1, d2] }
  | _ => none }
def glyphLettersRow : OpenClaim := { program := "ytldffmnmofmkaaadoor", sum := "d2cb6a7f08792b384c00771126c8fc738aad347ff1f745825e829409bf5b05b1", func := "diaeresis/diaeresislaw03.GlyphLetters", spec := "glyphLetters", unfollowed := true, recurses := true, named := ["diaeresis/glyph.table"], apart := false, laid := [("diaeresis/glyph.table", laid_diaeresis_glyph_table)] }
def GlyphLettersSaid : Prop := glyphLettersRow.holds Tryd.pinned (OpenSpec.ofChange glyphLettersSpec)

/-- ITS FALSE NEIGHBOUR: 'it returns false'. Refute it at one input. -/
def glyphLettersWrong : ChangeSpec := { name := "glyphLetters", fn := fun _ => fun
  | [d1, d2] => { results := [.lit (.bool false)], args := [d1, d2] }
  | _ => none }
def GlyphLettersWrongFalsely : Prop := glyphLettersRow.holds Tryd.pinned (OpenSpec.ofChange glyphLettersWrong)

/- THE SECOND FORM. 'bulk': how many values and letters a reading holds, each counted each time it is reached (what is shared counts as often as it is met; a slice's spare places count too). A statement '..UptoSaid' is the law's where the arguments, and the package variables that the reading takes, are together of bulk at most 1048576: NARROWER than '..Said'. Prove '..Said' where nothing that the law and all that it calls make is longer than what came in: it says more and counts as full. Else prove '..UptoSaid'. A law counts once. -/
mutual
def uptoBulk {H : Type} : DataW H → Nat
  | .lit (.string bytes) => bytes.length + 1
  | .lit _ => 1
  | .nil => 1
  | .ptr d => uptoBulk d + 1
  | .slice elems spare => uptoBulkAll elems + uptoBulkAll spare + 1
  | .agg parts => uptoBulkAll parts + 1
  | .iface _ d => uptoBulk d + 1
  | .map entries => uptoBulkEntries entries + 1
  | .held _ => 1
def uptoBulkAll {H : Type} : List (DataW H) → Nat
  | [] => 0
  | d :: r => uptoBulk d + uptoBulkAll r
def uptoBulkEntries {H : Type} : List (Lit × DataW H) → Nat
  | [] => 0
  | x :: r => uptoBulkEntry x + uptoBulkEntries r
def uptoBulkEntry {H : Type} : Lit × DataW H → Nat
  | (.string bytes, d) => bytes.length + uptoBulk d + 1
  | (_, d) => uptoBulk d + 1
 end
def uptoSmall : (H : Type) → List (DataW H) → Bool := fun _ ds => decide (uptoBulkAll ds ≤ 1048576)
def OpenSpec.upto (s : _root_.Go.ChangeSpec) : _root_.Go.OpenSpec := { _root_.Go.OpenSpec.ofChange s with cond := some uptoSmall }

/-- 'diaeresislaw03.GlyphTells', WHERE WHAT IT READS IS OF BULK AT MOST 1048576: true; the input reads as it did. -/
def glyphTellsUptoRow : OpenClaim := { program := "ytldffmnmofmkaaadoor", sum := "d2cb6a7f08792b384c00771126c8fc738aad347ff1f745825e829409bf5b05b1", func := "diaeresis/diaeresislaw03.GlyphTells", spec := "glyphTells", unfollowed := true, recurses := true, named := ["diaeresis/glyph.table"], apart := false, laid := [("diaeresis/glyph.table", laid_diaeresis_glyph_table)], narrowed := true }
def GlyphTellsUptoSaid : Prop := glyphTellsUptoRow.holds Tryd.pinned (OpenSpec.upto glyphTellsSpec)

/-- 'diaeresislaw03.GlyphTurns', WHERE WHAT IT READS IS OF BULK AT MOST 1048576: true; the input reads as it did. -/
def glyphTurnsUptoRow : OpenClaim := { program := "ytldffmnmofmkaaadoor", sum := "d2cb6a7f08792b384c00771126c8fc738aad347ff1f745825e829409bf5b05b1", func := "diaeresis/diaeresislaw03.GlyphTurns", spec := "glyphTurns", unfollowed := true, recurses := true, named := ["diaeresis/glyph.table"], apart := false, laid := [("diaeresis/glyph.table", laid_diaeresis_glyph_table)], narrowed := true }
def GlyphTurnsUptoSaid : Prop := glyphTurnsUptoRow.holds Tryd.pinned (OpenSpec.upto glyphTurnsSpec)

/-- 'diaeresislaw03.GlyphBack', WHERE WHAT IT READS IS OF BULK AT MOST 1048576: true; the input reads as it did. -/
def glyphBackUptoRow : OpenClaim := { program := "ytldffmnmofmkaaadoor", sum := "d2cb6a7f08792b384c00771126c8fc738aad347ff1f745825e829409bf5b05b1", func := "diaeresis/diaeresislaw03.GlyphBack", spec := "glyphBack", unfollowed := true, recurses := true, named := ["diaeresis/glyph.table"], apart := false, laid := [("diaeresis/glyph.table", laid_diaeresis_glyph_table)], narrowed := true }
def GlyphBackUptoSaid : Prop := glyphBackUptoRow.holds Tryd.pinned (OpenSpec.upto glyphBackSpec)

/-- 'diaeresislaw03.GlyphFirst', WHERE WHAT IT READS IS OF BULK AT MOST 1048576: true; the input reads as it did. -/
def glyphFirstUptoRow : OpenClaim := { program := "ytldffmnmofmkaaadoor", sum := "d2cb6a7f08792b384c00771126c8fc738aad347ff1f745825e829409bf5b05b1", func := "diaeresis/diaeresislaw03.GlyphFirst", spec := "glyphFirst", unfollowed := true, recurses := true, named := ["diaeresis/glyph.table"], apart := false, laid := [("diaeresis/glyph.table", laid_diaeresis_glyph_table)], narrowed := true }
def GlyphFirstUptoSaid : Prop := glyphFirstUptoRow.holds Tryd.pinned (OpenSpec.upto glyphFirstSpec)

/-- 'diaeresislaw03.GlyphParts', WHERE WHAT IT READS IS OF BULK AT MOST 1048576: true; the input reads as it did. -/
def glyphPartsUptoRow : OpenClaim := { program := "ytldffmnmofmkaaadoor", sum := "d2cb6a7f08792b384c00771126c8fc738aad347ff1f745825e829409bf5b05b1", func := "diaeresis/diaeresislaw03.GlyphParts", spec := "glyphParts", unfollowed := true, recurses := true, named := ["diaeresis/glyph.table"], apart := false, laid := [("diaeresis/glyph.table", laid_diaeresis_glyph_table)], narrowed := true }
def GlyphPartsUptoSaid : Prop := glyphPartsUptoRow.holds Tryd.pinned (OpenSpec.upto glyphPartsSpec)

/-- 'diaeresislaw03.GlyphLetters', WHERE WHAT IT READS IS OF BULK AT MOST 1048576: true; the input reads as it did. -/
def glyphLettersUptoRow : OpenClaim := { program := "ytldffmnmofmkaaadoor", sum := "d2cb6a7f08792b384c00771126c8fc738aad347ff1f745825e829409bf5b05b1", func := "diaeresis/diaeresislaw03.GlyphLetters", spec := "glyphLetters", unfollowed := true, recurses := true, named := ["diaeresis/glyph.table"], apart := false, laid := [("diaeresis/glyph.table", laid_diaeresis_glyph_table)], narrowed := true }
def GlyphLettersUptoSaid : Prop := glyphLettersUptoRow.holds Tryd.pinned (OpenSpec.upto glyphLettersSpec)

end Rows
end Go.Proofs.YtldffmnmofmkaaaDoor
