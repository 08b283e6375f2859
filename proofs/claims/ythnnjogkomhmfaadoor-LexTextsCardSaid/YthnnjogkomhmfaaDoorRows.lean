/-
  NARROWER THAN 'FOR EVERY INPUT', by the rows' own cells (each row's printed sentence says how): LexTexts: laid · LexWhole: laid · LexRest: laid · LexAgain: laid · LexNames: laid · LexPlains: laid.
  DERIVED. THE GIVEN ROWS OF THIS SEAT. 6 by the template 'for every input the law returns true; each argument reads behind the call as it read before'; 0 by the template 'total and deterministic' (their statements: YthnnjogkomhmfaaDoorTotals.lean).
  GIVEN WITH THE SEED: the statements are not yours to turn. If you find one false, say at which input.
  Laid BY PROGRAM, IN A SANDBOX (cutbox-rows.mjs): the forced cells as the released guide's own fill.sh prints them over the translation 17f9f4aa7d91fc57… (all of the seat's roots in one cut). By AI agents, Wed Nov 11 2026. No macro, syntax, notation, axiom, sorry.
-/
import Derived.Test.YthnnjogkomhmfaaDoorChecked
import GoSem.PinnedTables
import GoSem.Claim
import GoSem.ClaimJoined
import GoSem.ClaimMapViews
import Derived.JoinedTies
import Derived.KernelRfl
namespace Go.Proofs.YthnnjogkomhmfaaDoor
/- THE CELL 'sum', in the pinned program and in every row, IS THE sha256 OF THE DUMP (.gsa) THAT YthnnjogkomhmfaaDoorProg.lean LOADS. Nothing in Lean hashes anything: it is a label: what it is worth is what the hold of that sum in a sandbox is worth. -/
noncomputable def Tryd.pinned : Pinned := { name := "ythnnjogkomhmfaadoor", sum := "17f9f4aa7d91fc5709adf3973bcb301b9d3a89c3108a3b545eca14bcf0171f37", checked := Tryd.checked }
namespace Rows
def none {H : Type} : Left H := { results := [], args := [] }

/- WHAT THE LISTED PACKAGE-LEVEL VARIABLES READ AS WHEN THE CALL BEGINS. Each datum BY PROGRAM (the guide's laid-datum.mjs) off the statement by which the dump's own 'gosem.cut.vars' lays the variable. In a bare row this is a premise. The card (YthnnjogkomhmfaaDoorCards.lean) ties it to the program's text. -/
def laid_unicode_utf8_acceptRanges {H : Type} : DataW H := .agg [.agg [.lit (.int .u8 128), .lit (.int .u8 191)], .agg [.lit (.int .u8 160), .lit (.int .u8 191)], .agg [.lit (.int .u8 128), .lit (.int .u8 159)], .agg [.lit (.int .u8 144), .lit (.int .u8 191)], .agg [.lit (.int .u8 128), .lit (.int .u8 143)], .agg [.lit (.int .u8 0), .lit (.int .u8 0)], .agg [.lit (.int .u8 0), .lit (.int .u8 0)], .agg [.lit (.int .u8 0), .lit (.int .u8 0)], .agg [.lit (.int .u8 0), .lit (.int .u8 0)], .agg [.lit (.int .u8 0), .lit (.int .u8 0)], .agg [.lit (.int .u8 0), .lit (.int .u8 0)], .agg [.lit (.int .u8 0), .lit (.int .u8 0)], .agg [.lit (.int .u8 0), .lit (.int .u8 0)], .agg [.lit (.int .u8 0), .lit (.int .u8 0)], .agg [.lit (.int .u8 0), .lit (.int .u8 0)], .agg [.lit (.int .u8 0), .lit (.int .u8 0)]]
def laid_diaeresis_glyph_table {H : Type} : DataW H := .agg [.agg [.lit (.string [43]), .lit (.string []), .lit (.int .i64 1)], .agg [.lit (.string [45]), .lit (.string []), .lit (.int .i64 1)], .agg [.lit (.string [195, 151]), .lit (.string [96, 120]), .lit (.int .i64 1)], .agg [.lit (.string [195, 183]), .lit (.string [96, 100]), .lit (.int .i64 1)], .agg [.lit (.string [226, 140, 136]), .lit (.string [96, 117]), .lit (.int .i64 1)], .agg [.lit (.string [226, 140, 138]), .lit (.string [96, 110]), .lit (.int .i64 1)], .agg [.lit (.string [124]), .lit (.string []), .lit (.int .i64 1)], .agg [.lit (.string [61]), .lit (.string []), .lit (.int .i64 1)], .agg [.lit (.string [226, 137, 160]), .lit (.string [96, 113]), .lit (.int .i64 1)], .agg [.lit (.string [60]), .lit (.string []), .lit (.int .i64 1)], .agg [.lit (.string [62]), .lit (.string []), .lit (.int .i64 1)], .agg [.lit (.string [226, 137, 164]), .lit (.string [96, 108]), .lit (.int .i64 1)], .agg [.lit (.string [226, 137, 165]), .lit (.string [96, 103]), .lit (.int .i64 1)], .agg [.lit (.string [226, 136, 167]), .lit (.string [96, 97]), .lit (.int .i64 1)], .agg [.lit (.string [226, 136, 168]), .lit (.string [96, 111]), .lit (.int .i64 1)], .agg [.lit (.string [126]), .lit (.string []), .lit (.int .i64 1)], .agg [.lit (.string [226, 141, 180]), .lit (.string [96, 114]), .lit (.int .i64 1)], .agg [.lit (.string [226, 141, 179]), .lit (.string [96, 105]), .lit (.int .i64 1)], .agg [.lit (.string [44]), .lit (.string []), .lit (.int .i64 1)], .agg [.lit (.string [226, 140, 189]), .lit (.string [96, 116]), .lit (.int .i64 1)], .agg [.lit (.string [226, 134, 145]), .lit (.string [96, 107]), .lit (.int .i64 1)], .agg [.lit (.string [226, 134, 147]), .lit (.string [96, 106]), .lit (.int .i64 1)], .agg [.lit (.string [226, 137, 162]), .lit (.string [96, 109]), .lit (.int .i64 1)], .agg [.lit (.string [47]), .lit (.string []), .lit (.int .i64 2)], .agg [.lit (.string [92]), .lit (.string []), .lit (.int .i64 2)], .agg [.lit (.string [194, 168]), .lit (.string [96, 101]), .lit (.int .i64 2)], .agg [.lit (.string [226, 141, 168]), .lit (.string [96, 99]), .lit (.int .i64 2)], .agg [.lit (.string [226, 134, 144]), .lit (.string [96, 115]), .lit (.int .i64 3)], .agg [.lit (.string [226, 139, 132]), .lit (.string [96, 122]), .lit (.int .i64 3)], .agg [.lit (.string [58]), .lit (.string []), .lit (.int .i64 3)], .agg [.lit (.string [123]), .lit (.string []), .lit (.int .i64 3)], .agg [.lit (.string [125]), .lit (.string []), .lit (.int .i64 3)], .agg [.lit (.string [40]), .lit (.string []), .lit (.int .i64 3)], .agg [.lit (.string [41]), .lit (.string []), .lit (.int .i64 3)], .agg [.lit (.string [226, 141, 186]), .lit (.string [96, 112]), .lit (.int .i64 4)], .agg [.lit (.string [226, 141, 181]), .lit (.string [96, 119]), .lit (.int .i64 4)], .agg [.lit (.string [194, 175]), .lit (.string [96, 104]), .lit (.int .i64 5)], .agg [.lit (.string [226, 141, 157]), .lit (.string [96, 98]), .lit (.int .i64 6)]]
/-- One of Go's own tables, pinned by name: the form's constant. -/
def laid_unicode_utf8_first : DataW Unit := Go.Pinned.utf8First

/-- 'diaeresislaw04.LexTexts': WHATEVER THE INPUT: true; the input reads as it did. -/
def lexTextsSpec : ChangeSpec := { name := "lexTexts", fn := fun _ => fun
  | [d1, d2] => { results := [.lit (.bool true)], args := [d1, d2] }
  | _ => none }
def lexTextsRow : OpenClaim := { program := "ythnnjogkomhmfaadoor", sum := "17f9f4aa7d91fc5709adf3973bcb301b9d3a89c3108a3b545eca14bcf0171f37", func := "diaeresis/diaeresislaw04.LexTexts", spec := "lexTexts", inPlace := ["internal/bytealg.IndexByteString", "internal/bytealg.IndexString", "internal/abi.NoEscape"], unfollowed := true, recurses := true, named := ["diaeresis/glyph.table", "internal/bytealg.MaxLen", "unicode/utf8.first", "unicode/utf8.acceptRanges"], apart := false, laid := [("unicode/utf8.acceptRanges", laid_unicode_utf8_acceptRanges), ("diaeresis/glyph.table", laid_diaeresis_glyph_table), ("unicode/utf8.first", laid_unicode_utf8_first)] }
def LexTextsSaid : Prop := lexTextsRow.holds Tryd.pinned (OpenSpec.ofChange lexTextsSpec)

/-- ITS FALSE NEIGHBOUR: 'it returns false'. Refute it at one input. -/
def lexTextsWrong : ChangeSpec := { name := "lexTexts", fn := fun _ => fun
  | [d1, d2] => { results := [.lit (.bool false)], args := [d1, d2] }
  | _ => none }
def LexTextsWrongFalsely : Prop := lexTextsRow.holds Tryd.pinned (OpenSpec.ofChange lexTextsWrong)

/-- 'diaeresislaw04.LexWhole': WHATEVER THE INPUT: true; the input reads as it did. -/
def lexWholeSpec : ChangeSpec := { name := "lexWhole", fn := fun _ => fun
  | [d] => { results := [.lit (.bool true)], args := [d] }
  | _ => none }
def lexWholeRow : OpenClaim := { program := "ythnnjogkomhmfaadoor", sum := "17f9f4aa7d91fc5709adf3973bcb301b9d3a89c3108a3b545eca14bcf0171f37", func := "diaeresis/diaeresislaw04.LexWhole", spec := "lexWhole", inPlace := ["internal/bytealg.IndexByteString", "internal/bytealg.IndexString", "internal/abi.NoEscape"], unfollowed := true, recurses := true, named := ["diaeresis/glyph.table", "internal/bytealg.MaxLen", "unicode/utf8.first", "unicode/utf8.acceptRanges"], apart := false, laid := [("unicode/utf8.acceptRanges", laid_unicode_utf8_acceptRanges), ("diaeresis/glyph.table", laid_diaeresis_glyph_table), ("unicode/utf8.first", laid_unicode_utf8_first)] }
def LexWholeSaid : Prop := lexWholeRow.holds Tryd.pinned (OpenSpec.ofChange lexWholeSpec)

/-- ITS FALSE NEIGHBOUR: 'it returns false'. Refute it at one input. -/
def lexWholeWrong : ChangeSpec := { name := "lexWhole", fn := fun _ => fun
  | [d] => { results := [.lit (.bool false)], args := [d] }
  | _ => none }
def LexWholeWrongFalsely : Prop := lexWholeRow.holds Tryd.pinned (OpenSpec.ofChange lexWholeWrong)

/-- 'diaeresislaw04.LexRest': WHATEVER THE INPUT: true; the input reads as it did. -/
def lexRestSpec : ChangeSpec := { name := "lexRest", fn := fun _ => fun
  | [d] => { results := [.lit (.bool true)], args := [d] }
  | _ => none }
def lexRestRow : OpenClaim := { program := "ythnnjogkomhmfaadoor", sum := "17f9f4aa7d91fc5709adf3973bcb301b9d3a89c3108a3b545eca14bcf0171f37", func := "diaeresis/diaeresislaw04.LexRest", spec := "lexRest", inPlace := ["internal/bytealg.IndexByteString", "internal/bytealg.IndexString"], unfollowed := true, recurses := true, named := ["diaeresis/glyph.table", "internal/bytealg.MaxLen", "unicode/utf8.first", "unicode/utf8.acceptRanges"], apart := false, laid := [("unicode/utf8.acceptRanges", laid_unicode_utf8_acceptRanges), ("diaeresis/glyph.table", laid_diaeresis_glyph_table), ("unicode/utf8.first", laid_unicode_utf8_first)] }
def LexRestSaid : Prop := lexRestRow.holds Tryd.pinned (OpenSpec.ofChange lexRestSpec)

/-- ITS FALSE NEIGHBOUR: 'it returns false'. Refute it at one input. -/
def lexRestWrong : ChangeSpec := { name := "lexRest", fn := fun _ => fun
  | [d] => { results := [.lit (.bool false)], args := [d] }
  | _ => none }
def LexRestWrongFalsely : Prop := lexRestRow.holds Tryd.pinned (OpenSpec.ofChange lexRestWrong)

/-- 'diaeresislaw04.LexAgain': WHATEVER THE INPUT: true; the input reads as it did. -/
def lexAgainSpec : ChangeSpec := { name := "lexAgain", fn := fun _ => fun
  | [d] => { results := [.lit (.bool true)], args := [d] }
  | _ => none }
def lexAgainRow : OpenClaim := { program := "ythnnjogkomhmfaadoor", sum := "17f9f4aa7d91fc5709adf3973bcb301b9d3a89c3108a3b545eca14bcf0171f37", func := "diaeresis/diaeresislaw04.LexAgain", spec := "lexAgain", inPlace := ["internal/bytealg.IndexByteString", "internal/bytealg.IndexString"], unfollowed := true, recurses := true, named := ["diaeresis/glyph.table", "internal/bytealg.MaxLen", "unicode/utf8.first", "unicode/utf8.acceptRanges"], apart := false, laid := [("unicode/utf8.acceptRanges", laid_unicode_utf8_acceptRanges), ("diaeresis/glyph.table", laid_diaeresis_glyph_table), ("unicode/utf8.first", laid_unicode_utf8_first)] }
def LexAgainSaid : Prop := lexAgainRow.holds Tryd.pinned (OpenSpec.ofChange lexAgainSpec)

/-- ITS FALSE NEIGHBOUR: 'it returns false'. Refute it at one input. -/
def lexAgainWrong : ChangeSpec := { name := "lexAgain", fn := fun _ => fun
  | [d] => { results := [.lit (.bool false)], args := [d] }
  | _ => none }
def LexAgainWrongFalsely : Prop := lexAgainRow.holds Tryd.pinned (OpenSpec.ofChange lexAgainWrong)

/-- 'diaeresislaw04.LexNames': WHATEVER THE INPUT: true; the input reads as it did. -/
def lexNamesSpec : ChangeSpec := { name := "lexNames", fn := fun _ => fun
  | [d] => { results := [.lit (.bool true)], args := [d] }
  | _ => none }
def lexNamesRow : OpenClaim := { program := "ythnnjogkomhmfaadoor", sum := "17f9f4aa7d91fc5709adf3973bcb301b9d3a89c3108a3b545eca14bcf0171f37", func := "diaeresis/diaeresislaw04.LexNames", spec := "lexNames", inPlace := ["internal/bytealg.IndexByteString", "internal/bytealg.IndexString"], unfollowed := true, recurses := true, named := ["diaeresis/glyph.table", "internal/bytealg.MaxLen", "unicode/utf8.first", "unicode/utf8.acceptRanges"], apart := false, laid := [("unicode/utf8.acceptRanges", laid_unicode_utf8_acceptRanges), ("diaeresis/glyph.table", laid_diaeresis_glyph_table), ("unicode/utf8.first", laid_unicode_utf8_first)] }
def LexNamesSaid : Prop := lexNamesRow.holds Tryd.pinned (OpenSpec.ofChange lexNamesSpec)

/-- ITS FALSE NEIGHBOUR: 'it returns false'. Refute it at one input. -/
def lexNamesWrong : ChangeSpec := { name := "lexNames", fn := fun _ => fun
  | [d] => { results := [.lit (.bool false)], args := [d] }
  | _ => none }
def LexNamesWrongFalsely : Prop := lexNamesRow.holds Tryd.pinned (OpenSpec.ofChange lexNamesWrong)

/-- 'diaeresislaw04.LexPlains': WHATEVER THE INPUT: true; the input reads as it did. -/
def lexPlainsSpec : ChangeSpec := { name := "lexPlains", fn := fun _ => fun
  | [d] => { results := [.lit (.bool true)], args := [d] }
  | _ => none }
def lexPlainsRow : OpenClaim := { program := "ythnnjogkomhmfaadoor", sum := "17f9f4aa7d91fc5709adf3973bcb301b9d3a89c3108a3b545eca14bcf0171f37", func := "diaeresis/diaeresislaw04.LexPlains", spec := "lexPlains", inPlace := ["internal/bytealg.IndexByteString", "internal/bytealg.IndexString"], unfollowed := true, recurses := true, named := ["diaeresis/glyph.table", "internal/bytealg.MaxLen", "unicode/utf8.first", "unicode/utf8.acceptRanges"], apart := false, laid := [("unicode/utf8.acceptRanges", laid_unicode_utf8_acceptRanges), ("diaeresis/glyph.table", laid_diaeresis_glyph_table), ("unicode/utf8.first", laid_unicode_utf8_first)] }
def LexPlainsSaid : Prop := lexPlainsRow.holds Tryd.pinned (OpenSpec.ofChange lexPlainsSpec)

/-- ITS FALSE NEIGHBOUR: 'it returns false'. Refute it at one input. -/
def lexPlainsWrong : ChangeSpec := { name := "lexPlains", fn := fun _ => fun
  | [d] => { results := [.lit (.bool false)], args := [d] }
  | _ => none }
def LexPlainsWrongFalsely : Prop := lexPlainsRow.holds Tryd.pinned (OpenSpec.ofChange lexPlainsWrong)

/- THE SECOND FORM. 'bulk': how many values and letters a reading holds, each counted each time it is reached (what is shared counts as often as it is met; a slice's spare places count too). A statement '..UptoSaid' is the law's where the arguments, and the package variables that the reading takes, are together of bulk at most 1048576: NARROWER than '..Said'. Prove '..Said' where nothing that the law and all that it calls make is longer than what came in: it says more and counts as full. Else prove '..UptoSaid'. A law counts once. -/
mutual
def uptoBulk {H : Type} : DataW H → Nat
  | .lit (.string bytes) => bytes.length + 1
  | .lit _ => 1
  | .nil => 1
  | .ptr d => uptoBulk d + 1
  | .slice elems spare => uptoBulkAll elems + uptoBulkAll spare + 1
  | .agg parts => uptoBulkAll parts + 1
  | .iface _ d => uptoBulk d + 1
  | .map entries => uptoBulkEntries entries + 1
  | .held _ => 1
def uptoBulkAll {H : Type} : List (DataW H) → Nat
  | [] => 0
  | d :: r => uptoBulk d + uptoBulkAll r
def uptoBulkEntries {H : Type} : List (Lit × DataW H) → Nat
  | [] => 0
  | x :: r => uptoBulkEntry x + uptoBulkEntries r
def uptoBulkEntry {H : Type} : Lit × DataW H → Nat
  | (.string bytes, d) => bytes.length + uptoBulk d + 1
  | (_, d) => uptoBulk d + 1
 end
def uptoSmall : (H : Type) → List (DataW H) → Bool := fun _ ds => decide (uptoBulkAll ds ≤ 1048576)
def OpenSpec.upto (s : _root_.Go.ChangeSpec) : _root_.Go.OpenSpec := { _root_.Go.OpenSpec.ofChange s with cond := some uptoSmall }

/-- 'diaeresislaw04.LexTexts', WHERE WHAT IT READS IS OF BULK AT MOST 1048576: true; the input reads as it did. -/
def lexTextsUptoRow : OpenClaim := { program := "ythnnjogkomhmfaadoor", sum := "17f9f4aa7d91fc5709adf3973bcb301b9d3a89c3108a3b545eca14bcf0171f37", func := "diaeresis/diaeresislaw04.LexTexts", spec := "lexTexts", inPlace := ["internal/bytealg.IndexByteString", "internal/bytealg.IndexString", "internal/abi.NoEscape"], unfollowed := true, recurses := true, named := ["diaeresis/glyph.table", "internal/bytealg.MaxLen", "unicode/utf8.first", "unicode/utf8.acceptRanges"], apart := false, laid := [("unicode/utf8.acceptRanges", laid_unicode_utf8_acceptRanges), ("diaeresis/glyph.table", laid_diaeresis_glyph_table), ("unicode/utf8.first", laid_unicode_utf8_first)], narrowed := true }
def LexTextsUptoSaid : Prop := lexTextsUptoRow.holds Tryd.pinned (OpenSpec.upto lexTextsSpec)

/-- 'diaeresislaw04.LexWhole', WHERE WHAT IT READS IS OF BULK AT MOST 1048576: true; the input reads as it did. -/
def lexWholeUptoRow : OpenClaim := { program := "ythnnjogkomhmfaadoor", sum := "17f9f4aa7d91fc5709adf3973bcb301b9d3a89c3108a3b545eca14bcf0171f37", func := "diaeresis/diaeresislaw04.LexWhole", spec := "lexWhole", inPlace := ["internal/bytealg.IndexByteString", "internal/bytealg.IndexString", "internal/abi.NoEscape"], unfollowed := true, recurses := true, named := ["diaeresis/glyph.table", "internal/bytealg.MaxLen", "unicode/utf8.first", "unicode/utf8.acceptRanges"], apart := false, laid := [("unicode/utf8.acceptRanges", laid_unicode_utf8_acceptRanges), ("diaeresis/glyph.table", laid_diaeresis_glyph_table), ("unicode/utf8.first", laid_unicode_utf8_first)], narrowed := true }
def LexWholeUptoSaid : Prop := lexWholeUptoRow.holds Tryd.pinned (OpenSpec.upto lexWholeSpec)

/-- 'diaeresislaw04.LexRest', WHERE WHAT IT READS IS OF BULK AT MOST 1048576: true; the input reads as it did. -/
def lexRestUptoRow : OpenClaim := { program := "ythnnjogkomhmfaadoor", sum := "17f9f4aa7d91fc5709adf3973bcb301b9d3a89c3108a3b545eca14bcf0171f37", func := "diaeresis/diaeresislaw04.LexRest", spec := "lexRest", inPlace := ["internal/bytealg.IndexByteString", "internal/bytealg.IndexString"], unfollowed := true, recurses := true, named := ["diaeresis/glyph.table", "internal/bytealg.MaxLen", "unicode/utf8.first", "unicode/utf8.acceptRanges"], apart := false, laid := [("unicode/utf8.acceptRanges", laid_unicode_utf8_acceptRanges), ("diaeresis/glyph.table", laid_diaeresis_glyph_table), ("unicode/utf8.first", laid_unicode_utf8_first)], narrowed := true }
def LexRestUptoSaid : Prop := lexRestUptoRow.holds Tryd.pinned (OpenSpec.upto lexRestSpec)

/-- 'diaeresislaw04.LexAgain', WHERE WHAT IT READS IS OF BULK AT MOST 1048576: true; the input reads as it did. -/
def lexAgainUptoRow : OpenClaim := { program := "ythnnjogkomhmfaadoor", sum := "17f9f4aa7d91fc5709adf3973bcb301b9d3a89c3108a3b545eca14bcf0171f37", func := "diaeresis/diaeresislaw04.LexAgain", spec := "lexAgain", inPlace := ["internal/bytealg.IndexByteString", "internal/bytealg.IndexString"], unfollowed := true, recurses := true, named := ["diaeresis/glyph.table", "internal/bytealg.MaxLen", "unicode/utf8.first", "unicode/utf8.acceptRanges"], apart := false, laid := [("unicode/utf8.acceptRanges", laid_unicode_utf8_acceptRanges), ("diaeresis/glyph.table", laid_diaeresis_glyph_table), ("unicode/utf8.first", laid_unicode_utf8_first)], narrowed := true }
def LexAgainUptoSaid : Prop := lexAgainUptoRow.holds Tryd.pinned (OpenSpec.upto lexAgainSpec)

/-- 'diaeresislaw04.LexNames', WHERE WHAT IT READS IS OF BULK AT MOST 1048576: true; the input reads as it did. -/
def lexNamesUptoRow : OpenClaim := { program := "ythnnjogkomhmfaadoor", sum := "17f9f4aa7d91fc5709adf3973bcb301b9d3a89c3108a3b545eca14bcf0171f37", func := "diaeresis/diaeresislaw04.LexNames", spec := "lexNames", inPlace := ["internal/bytealg.IndexByteString", "internal/bytealg.IndexString"], unfollowed := true, recurses := true, named := ["diaeresis/glyph.table", "internal/bytealg.MaxLen", "unicode/utf8.first", "unicode/utf8.acceptRanges"], apart := false, laid := [("unicode/utf8.acceptRanges", laid_unicode_utf8_acceptRanges), ("diaeresis/glyph.table", laid_diaeresis_glyph_table), ("unicode/utf8.first", laid_unicode_utf8_first)], narrowed := true }
def LexNamesUptoSaid : Prop := lexNamesUptoRow.holds Tryd.pinned (OpenSpec.upto lexNamesSpec)

/-- 'diaeresislaw04.LexPlains', WHERE WHAT IT READS IS OF BULK AT MOST 1048576: true; the input reads as it did. -/
def lexPlainsUptoRow : OpenClaim := { program := "ythnnjogkomhmfaadoor", sum := "17f9f4aa7d91fc5709adf3973bcb301b9d3a89c3108a3b545eca14bcf0171f37", func := "diaeresis/diaeresislaw04.LexPlains", spec := "lexPlains", inPlace := ["internal/bytealg.IndexByteString", "internal/bytealg.IndexString"], unfollowed := true, recurses := true, named := ["diaeresis/glyph.table", "internal/bytealg.MaxLen", "unicode/utf8.first", "unicode/utf8.acceptRanges"], apart := false, laid := [("unicode/utf8.acceptRanges", laid_unicode_utf8_acceptRanges), ("diaeresis/glyph.table", laid_diaeresis_glyph_table), ("unicode/utf8.first", laid_unicode_utf8_first)], narrowed := true }
def LexPlainsUptoSaid : Prop := lexPlainsUptoRow.holds Tryd.pinned (OpenSpec.upto lexPlainsSpec)

end Rows
end Go.Proofs.YthnnjogkomhmfaaDoor
