/-
  NARROWER THAN 'FOR EVERY INPUT', by the rows' own cells (each row's printed sentence says how): RelexSplices: laid · RelexWhole: laid · RelexKeeps: laid · RelexFew: laid · RelexNone: laid · RelexJoins: laid.
  DERIVED. THE GIVEN ROWS OF THIS SEAT. 6 by the template 'for every input the law returns true; each argument reads behind the call as it read before'; 0 by the template 'total and deterministic' (their statements: YtdgffpcbpilkcaaGreatDoorTotals.lean).
  GIVEN WITH THE SEED: the statements are not yours to turn. If you find one false, say at which input.
  Laid BY PROGRAM, IN A SANDBOX (cutbox-rows.mjs): the forced cells as the released guide's own fill.sh prints them over the translation f3574dda332d619f… (all of the seat's roots in one cut). By AI agents, Wed Nov 11 2026. No macro, syntax, notation, axiom, sorry.
-/
import Derived.Test.YtdgffpcbpilkcaaGreatDoorChecked
import GoSem.PinnedTables
import GoSem.Claim
import GoSem.ClaimJoined
import GoSem.ClaimMapViews
import Derived.JoinedTies
import Derived.KernelRfl
namespace Go.Proofs.YtdgffpcbpilkcaaGreatDoor
/- THE CELL 'sum', in the pinned program and in every row, IS THE sha256 OF THE DUMP (.gsa) THAT YtdgffpcbpilkcaaGreatDoorProg.lean LOADS. Nothing in Lean hashes anything: it is a label: what it is worth is what the hold of that sum in a sandbox is worth. -/
noncomputable def Tryz.pinned : Pinned := { name := "ytdgffpcbpilkcaagreatdoor", sum := "f3574dda332d619f4d0c18ab64394d66d30ed098502fd64a6aac3099798aeae9", checked := Tryz.checked }
namespace Rows
def none {H : Type} : Left H := { results := [], args := [] }

/- WHAT THE LISTED PACKAGE-LEVEL VARIABLES READ AS WHEN THE CALL BEGINS. Each datum BY PROGRAM (the guide's laid-datum.mjs) off the statement by which the dump's own 'gosem.cut.vars' lays the variable. In a bare row this is a premise. The card (YtdgffpcbpilkcaaGreatDoorCards.lean) ties it to the program's text. -/
def laid_unicode_utf8_acceptRanges {H : Type} : DataW H := .agg [.agg [.lit (.int .u8 128), .lit (.int .u8 191)], .agg [.lit (.int .u8 160), .lit (.int .u8 191)], .agg [.lit (.int .u8 128), .lit (.int .u8 159)], .agg [.lit (.int .u8 144), .lit (.int .u8 191)], .agg [.lit (.int .u8 128), .lit (.int .u8 143)], .agg [.lit (.int .u8 0), .lit (.int .u8 0)], .agg [.lit (.int .u8 0), .lit (.int .u8 0)], .agg [.lit (.int .u8 0), .lit (.int .u8 0)], .agg [.lit (.int .u8 0), .lit (.int .u8 0)], .agg [.lit (.int .u8 0), .lit (.int .u8 0)], .agg [.lit (.int .u8 0), .lit (.int .u8 0)], .agg [.lit (.int .u8 0), .lit (.int .u8 0)], .agg [.lit (.int .u8 0), .lit (.int .u8 0)], .agg [.lit (.int .u8 0), .lit (.int .u8 0)], .agg [.lit (.int .u8 0), .lit (.int .u8 0)], .agg [.lit (.int .u8 0), .lit (.int .u8 0)]]
def laid_diaeresis_glyph_table {H : Type} : DataW H := .agg [.agg [.lit (.string [43]), .lit (.string []), .lit (.int .i64 1)], .agg [.lit (.string [45]), .lit (.string []), .lit (.int .i64 1)], .agg [.lit (.string [195, 151]), .lit (.string [96, 120]), .lit (.int .i64 1)], .agg [.lit (.string [195, 183]), .lit (.string [96, 100]), .lit (.int .i64 1)], .agg [.lit (.string [226, 140, 136]), .lit (.string [96, 117]), .lit (.int .i64 1)], .agg [.lit (.string [226, 140, 138]), .lit (.string [96, 110]), .lit (.int .i64 1)], .agg [.lit (.string [124]), .lit (.string []), .lit (.int .i64 1)], .agg [.lit (.string [61]), .lit (.string []), .lit (.int .i64 1)], .agg [.lit (.string [226, 137, 160]), .lit (.string [96, 113]), .lit (.int .i64 1)], .agg [.lit (.string [60]), .lit (.string []), .lit (.int .i64 1)], .agg [.lit (.string [62]), .lit (.string []), .lit (.int .i64 1)], .agg [.lit (.string [226, 137, 164]), .lit (.string [96, 108]), .lit (.int .i64 1)], .agg [.lit (.string [226, 137, 165]), .lit (.string [96, 103]), .lit (.int .i64 1)], .agg [.lit (.string [226, 136, 167]), .lit (.string [96, 97]), .lit (.int .i64 1)], .agg [.lit (.string [226, 136, 168]), .lit (.string [96, 111]), .lit (.int .i64 1)], .agg [.lit (.string [126]), .lit (.string []), .lit (.int .i64 1)], .agg [.lit (.string [226, 141, 180]), .lit (.string [96, 114]), .lit (.int .i64 1)], .agg [.lit (.string [226, 141, 179]), .lit (.string [96, 105]), .lit (.int .i64 1)], .agg [.lit (.string [44]), .lit (.string []), .lit (.int .i64 1)], .agg [.lit (.string [226, 140, 189]), .lit (.string [96, 116]), .lit (.int .i64 1)], .agg [.lit (.string [226, 134, 145]), .lit (.string [96, 107]), .lit (.int .i64 1)], .agg [.lit (.string [226, 134, 147]), .lit (.string [96, 106]), .lit (.int .i64 1)], .agg [.lit (.string [226, 137, 162]), .lit (.string [96, 109]), .lit (.int .i64 1)], .agg [.lit (.string [47]), .lit (.string []), .lit (.int .i64 2)], .agg [.lit (.string [92]), .lit (.string []), .lit (.int .i64 2)], .agg [.lit (.string [194, 168]), .lit (.string [96, 101]), .lit (.int .i64 2)], .agg [.lit (.string [226, 141, 168]), .lit (.string [96, 99]), .lit (.int .i64 2)], .agg [.lit (.string [226, 134, 144]), .lit (.string [96, 115]), .lit (.int .i64 3)], .agg [.lit (.string [226, 139, 132]), .lit (.string [96, 122]), .lit (.int .i64 3)], .agg [.lit (.string [58]), .lit (.string []), .lit (.int .i64 3)], .agg [.lit (.string [123]), .lit (.string []), .lit (.int .i64 3)], .agg [.lit (.string [125]), .lit (.string []), .lit (.int .i64 3)], .agg [.lit (.string [40]), .lit (.string []), .lit (.int .i64 3)], .agg [.lit (.string [41]), .lit (.string []), .lit (.int .i64 3)], .agg [.lit (.string [226, 141, 186]), .lit (.string [96, 112]), .lit (.int .i64 4)], .agg [.lit (.string [226, 141, 181]), .lit (.string [96, 119]), .lit (.int .i64 4)], .agg [.lit (.string [194, 175]), .lit (.string [96, 104]), .lit (.int .i64 5)], .agg [.lit (.string [226, 141, 157]), .lit (.string [96, 98]), .lit (.int .i64 6)]]
def laid_diaeresis_relex_errRange {H : Type} : DataW H := .iface "*errors.errorString" (.ptr (.agg [.lit (.string [114, 101, 108, 101, 120, 58, 32, 116, 104, 101, 32, 116, 101, 120, 116, 32, 104, 97, 115, 32, 110, 111, 32, 115, 117, 99, 104, 32, 98, 121, 116, 101, 115])]))
def laid_diaeresis_relex_errFull {H : Type} : DataW H := .iface "*errors.errorString" (.ptr (.agg [.lit (.string [114, 101, 108, 101, 120, 58, 32, 116, 104, 101, 32, 116, 101, 120, 116, 32, 119, 111, 117, 108, 100, 32, 98, 101, 32, 116, 111, 111, 32, 108, 111, 110, 103])]))
/-- One of Go's own tables, pinned by name: the form's constant. -/
def laid_unicode_utf8_first : DataW Unit := Go.Pinned.utf8First

/-- 'diaeresislaw05.RelexSplices': WHATEVER THE INPUT: true; the input reads as it did. -/
def relexSplicesSpec : ChangeSpec := { name := "relexSplices", fn := fun _ => fun
  | [d1, d2, d3] => { results := [.lit (.bool true)], args := [d1, d2, d3] }
  | _ => none }
def relexSplicesRow : OpenClaim := { program := "ytdgffpcbpilkcaagreatdoor", sum := "f3574dda332d619f4d0c18ab64394d66d30ed098502fd64a6aac3099798aeae9", func := "diaeresis/diaeresislaw05.RelexSplices", spec := "relexSplices", inPlace := ["internal/reflectlite.TypeOf", "internal/bytealg.CountString", "internal/bytealg.IndexByteString", "internal/bytealg.IndexString", "sync/atomic.AddInt64", "sync/atomic.LoadInt64", "internal/abi.NoEscape"], unfollowed := true, recurses := true, named := ["diaeresis/relex.errRange", "diaeresis/relex.errFull", "internal/bytealg.MaxLen", "unicode/utf8.first", "unicode/utf8.acceptRanges", "diaeresis/glyph.table"], apart := false, laid := [("unicode/utf8.acceptRanges", laid_unicode_utf8_acceptRanges), ("diaeresis/glyph.table", laid_diaeresis_glyph_table), ("diaeresis/relex.errRange", laid_diaeresis_relex_errRange), ("diaeresis/relex.errFull", laid_diaeresis_relex_errFull), ("unicode/utf8.first", laid_unicode_utf8_first)] }
def RelexSplicesSaid : Prop := relexSplicesRow.holds Tryz.pinned (OpenSpec.ofChange relexSplicesSpec)

/-- ITS FALSE NEIGHBOUR: 'it returns false'. Refute it at one input. -/
def relexSplicesWrong : ChangeSpec := { name := "relexSplices", fn := fun _ => fun
  | [d1, d2, d3] => { results := [.lit (.bool false)], args := [d1, d2, d3] }
  | _ => none }
def RelexSplicesWrongFalsely : Prop := relexSplicesRow.holds Tryz.pinned (OpenSpec.ofChange relexSplicesWrong)

/-- 'diaeresislaw05.RelexWhole': WHATEVER THE INPUT: true; the input reads as it did. -/
def relexWholeSpec : ChangeSpec := { name := "relexWhole", fn := fun _ => fun
  | [d1, d2] => { results := [.lit (.bool true)], args := [d1, d2] }
  | _ => none }
def relexWholeRow : OpenClaim := { program := "ytdgffpcbpilkcaagreatdoor", sum := "f3574dda332d619f4d0c18ab64394d66d30ed098502fd64a6aac3099798aeae9", func := "diaeresis/diaeresislaw05.RelexWhole", spec := "relexWhole", inPlace := ["internal/reflectlite.TypeOf", "internal/bytealg.CountString", "internal/bytealg.IndexByteString", "internal/bytealg.IndexString", "sync/atomic.AddInt64", "sync/atomic.LoadInt64", "internal/abi.NoEscape"], unfollowed := true, recurses := true, named := ["diaeresis/relex.errRange", "diaeresis/relex.errFull", "internal/bytealg.MaxLen", "unicode/utf8.first", "unicode/utf8.acceptRanges", "diaeresis/glyph.table"], apart := false, laid := [("unicode/utf8.acceptRanges", laid_unicode_utf8_acceptRanges), ("diaeresis/glyph.table", laid_diaeresis_glyph_table), ("diaeresis/relex.errRange", laid_diaeresis_relex_errRange), ("diaeresis/relex.errFull", laid_diaeresis_relex_errFull), ("unicode/utf8.first", laid_unicode_utf8_first)] }
def RelexWholeSaid : Prop := relexWholeRow.holds Tryz.pinned (OpenSpec.ofChange relexWholeSpec)

/-- ITS FALSE NEIGHBOUR: 'it returns false'. Refute it at one input. -/
def relexWholeWrong : ChangeSpec := { name := "relexWhole", fn := fun _ => fun
  | [d1, d2] => { results := [.lit (.bool false)], args := [d1, d2] }
  | _ => none }
def RelexWholeWrongFalsely : Prop := relexWholeRow.holds Tryz.pinned (OpenSpec.ofChange relexWholeWrong)

/-- 'diaeresislaw05.RelexKeeps': WHATEVER THE INPUT: true; the input reads as it did. -/
def relexKeepsSpec : ChangeSpec := { name := "relexKeeps", fn := fun _ => fun
  | [d1, d2, d3, d4] => { results := [.lit (.bool true)], args := [d1, d2, d3, d4] }
  | _ => none }
def relexKeepsRow : OpenClaim := { program := "ytdgffpcbpilkcaagreatdoor", sum := "f3574dda332d619f4d0c18ab64394d66d30ed098502fd64a6aac3099798aeae9", func := "diaeresis/diaeresislaw05.RelexKeeps", spec := "relexKeeps", inPlace := ["internal/reflectlite.TypeOf", "internal/bytealg.CountString", "internal/bytealg.IndexByteString", "internal/bytealg.IndexString", "sync/atomic.AddInt64", "sync/atomic.LoadInt64", "internal/abi.NoEscape"], unfollowed := true, recurses := true, named := ["diaeresis/relex.errRange", "diaeresis/relex.errFull", "internal/bytealg.MaxLen", "unicode/utf8.first", "unicode/utf8.acceptRanges", "diaeresis/glyph.table"], apart := false, laid := [("unicode/utf8.acceptRanges", laid_unicode_utf8_acceptRanges), ("diaeresis/glyph.table", laid_diaeresis_glyph_table), ("diaeresis/relex.errRange", laid_diaeresis_relex_errRange), ("diaeresis/relex.errFull", laid_diaeresis_relex_errFull), ("unicode/utf8.first", laid_unicode_utf8_first)] }
def RelexKeepsSaid : Prop := relexKeepsRow.holds Tryz.pinned (OpenSpec.ofChange relexKeepsSpec)

/-- ITS FALSE NEIGHBOUR: 'it returns false'. Refute it at one input. -/
def relexKeepsWrong : ChangeSpec := { name := "relexKeeps", fn := fun _ => fun
  | [d1, d2, d3, d4] => { results := [.lit (.bool false)], args := [d1, d2, d3, d4] }
  | _ => none }
def RelexKeepsWrongFalsely : Prop := relexKeepsRow.holds Tryz.pinned (OpenSpec.ofChange relexKeepsWrong)

/-- 'diaeresislaw05.RelexFew': WHATEVER THE INPUT: true; the input reads as it did. -/
def relexFewSpec : ChangeSpec := { name := "relexFew", fn := fun _ => fun
  | [d1, d2] => { results := [.lit (.bool true)], args := [d1, d2] }
  | _ => none }
def relexFewRow : OpenClaim := { program := "ytdgffpcbpilkcaagreatdoor", sum := "f3574dda332d619f4d0c18ab64394d66d30ed098502fd64a6aac3099798aeae9", func := "diaeresis/diaeresislaw05.RelexFew", spec := "relexFew", inPlace := ["internal/reflectlite.TypeOf", "internal/bytealg.CountString", "internal/bytealg.IndexByteString", "internal/bytealg.IndexString", "sync/atomic.AddInt64", "sync/atomic.LoadInt64", "internal/abi.NoEscape"], unfollowed := true, recurses := true, named := ["diaeresis/relex.errRange", "diaeresis/relex.errFull", "internal/bytealg.MaxLen", "unicode/utf8.first", "unicode/utf8.acceptRanges", "diaeresis/glyph.table"], apart := false, laid := [("unicode/utf8.acceptRanges", laid_unicode_utf8_acceptRanges), ("diaeresis/glyph.table", laid_diaeresis_glyph_table), ("diaeresis/relex.errRange", laid_diaeresis_relex_errRange), ("diaeresis/relex.errFull", laid_diaeresis_relex_errFull), ("unicode/utf8.first", laid_unicode_utf8_first)] }
def RelexFewSaid : Prop := relexFewRow.holds Tryz.pinned (OpenSpec.ofChange relexFewSpec)

/-- ITS FALSE NEIGHBOUR: 'it returns false'. Refute it at one input. -/
def relexFewWrong : ChangeSpec := { name := "relexFew", fn := fun _ => fun
  | [d1, d2] => { results := [.lit (.bool false)], args := [d1, d2] }
  | _ => none }
def RelexFewWrongFalsely : Prop := relexFewRow.holds Tryz.pinned (OpenSpec.ofChange relexFewWrong)

/-- 'diaeresislaw05.RelexNone': WHATEVER THE INPUT: true; the input reads as it did. -/
def relexNoneSpec : ChangeSpec := { name := "relexNone", fn := fun _ => fun
  | [d1, d2, d3, d4] => { results := [.lit (.bool true)], args := [d1, d2, d3, d4] }
  | _ => none }
def relexNoneRow : OpenClaim := { program := "ytdgffpcbpilkcaagreatdoor", sum := "f3574dda332d619f4d0c18ab64394d66d30ed098502fd64a6aac3099798aeae9", func := "diaeresis/diaeresislaw05.RelexNone", spec := "relexNone", inPlace := ["internal/reflectlite.TypeOf", "internal/bytealg.CountString", "internal/bytealg.IndexByteString", "internal/bytealg.IndexString", "sync/atomic.AddInt64", "sync/atomic.LoadInt64", "internal/abi.NoEscape"], unfollowed := true, recurses := true, named := ["diaeresis/relex.errRange", "diaeresis/relex.errFull", "internal/bytealg.MaxLen", "unicode/utf8.first", "unicode/utf8.acceptRanges", "diaeresis/glyph.table"], apart := false, laid := [("unicode/utf8.acceptRanges", laid_unicode_utf8_acceptRanges), ("diaeresis/glyph.table", laid_diaeresis_glyph_table), ("diaeresis/relex.errRange", laid_diaeresis_relex_errRange), ("diaeresis/relex.errFull", laid_diaeresis_relex_errFull), ("unicode/utf8.first", laid_unicode_utf8_first)] }
def RelexNoneSaid : Prop := relexNoneRow.holds Tryz.pinned (OpenSpec.ofChange relexNoneSpec)

/-- ITS FALSE NEIGHBOUR: 'it returns false'. Refute it at one input. -/
def relexNoneWrong : ChangeSpec := { name := "relexNone", fn := fun _ => fun
  | [d1, d2, d3, d4] => { results := [.lit (.bool false)], args := [d1, d2, d3, d4] }
  | _ => none }
def RelexNoneWrongFalsely : Prop := relexNoneRow.holds Tryz.pinned (OpenSpec.ofChange relexNoneWrong)

/-- 'diaeresislaw05.RelexJoins': WHATEVER THE INPUT: true; the input reads as it did. -/
def relexJoinsSpec : ChangeSpec := { name := "relexJoins", fn := fun _ => fun
  | [d1, d2] => { results := [.lit (.bool true)], args := [d1, d2] }
  | _ => none }
def relexJoinsRow : OpenClaim := { program := "ytdgffpcbpilkcaagreatdoor", sum := "f3574dda332d619f4d0c18ab64394d66d30ed098502fd64a6aac3099798aeae9", func := "diaeresis/diaeresislaw05.RelexJoins", spec := "relexJoins", inPlace := ["internal/reflectlite.TypeOf", "internal/bytealg.CountString", "internal/bytealg.IndexByteString", "internal/bytealg.IndexString", "sync/atomic.AddInt64", "sync/atomic.LoadInt64", "internal/abi.NoEscape"], unfollowed := true, recurses := true, named := ["diaeresis/relex.errRange", "diaeresis/relex.errFull", "internal/bytealg.MaxLen", "unicode/utf8.first", "unicode/utf8.acceptRanges", "diaeresis/glyph.table"], apart := false, laid := [("unicode/utf8.acceptRanges", laid_unicode_utf8_acceptRanges), ("diaeresis/glyph.table", laid_diaeresis_glyph_table), ("diaeresis/relex.errRange", laid_diaeresis_relex_errRange), ("diaeresis/relex.errFull", laid_diaeresis_relex_errFull), ("unicode/utf8.first", laid_unicode_utf8_first)] }
def RelexJoinsSaid : Prop := relexJoinsRow.holds Tryz.pinned (OpenSpec.ofChange relexJoinsSpec)

/-- ITS FALSE NEIGHBOUR: 'it returns false'. Refute it at one input. -/
def relexJoinsWrong : ChangeSpec := { name := "relexJoins", fn := fun _ => fun
  | [d1, d2] => { results := [.lit (.bool false)], args := [d1, d2] }
  | _ => none }
def RelexJoinsWrongFalsely : Prop := relexJoinsRow.holds Tryz.pinned (OpenSpec.ofChange relexJoinsWrong)

/- THE SECOND FORM. 'bulk': how many values and letters a reading holds, each counted each time it is reached (what is shared counts as often as it is met; a slice's spare places count too). A statement '..UptoSaid' is the law's where the arguments, and the package variables that the reading takes, are together of bulk at most 1048576: NARROWER than '..Said'. Prove '..Said' where nothing that the law and all that it calls make is longer than what came in: it says more and counts as full. Else prove '..UptoSaid'. A law counts once. -/
mutual
def uptoBulk {H : Type} : DataW H → Nat
  | .lit (.string bytes) => bytes.length + 1
  | .lit _ => 1
  | .nil => 1
  | .ptr d => uptoBulk d + 1
  | .slice elems spare => uptoBulkAll elems + uptoBulkAll spare + 1
  | .agg parts => uptoBulkAll parts + 1
  | .iface _ d => uptoBulk d + 1
  | .map entries => uptoBulkEntries entries + 1
  | .held _ => 1
def uptoBulkAll {H : Type} : List (DataW H) → Nat
  | [] => 0
  | d :: r => uptoBulk d + uptoBulkAll r
def uptoBulkEntries {H : Type} : List (Lit × DataW H) → Nat
  | [] => 0
  | x :: r => uptoBulkEntry x + uptoBulkEntries r
def uptoBulkEntry {H : Type} : Lit × DataW H → Nat
  | (.string bytes, d) => bytes.length + uptoBulk d + 1
  | (_, d) => uptoBulk d + 1
 end
def uptoSmall : (H : Type) → List (DataW H) → Bool := fun _ ds => decide (uptoBulkAll ds ≤ 1048576)
def OpenSpec.upto (s : _root_.Go.ChangeSpec) : _root_.Go.OpenSpec := { _root_.Go.OpenSpec.ofChange s with cond := some uptoSmall }

/-- 'diaeresislaw05.RelexSplices', WHERE WHAT IT READS IS OF BULK AT MOST 1048576: true; the input reads as it did. -/
def relexSplicesUptoRow : OpenClaim := { program := "ytdgffpcbpilkcaagreatdoor", sum := "f3574dda332d619f4d0c18ab64394d66d30ed098502fd64a6aac3099798aeae9", func := "diaeresis/diaeresislaw05.RelexSplices", spec := "relexSplices", inPlace := ["internal/reflectlite.TypeOf", "internal/bytealg.CountString", "internal/bytealg.IndexByteString", "internal/bytealg.IndexString", "sync/atomic.AddInt64", "sync/atomic.LoadInt64", "internal/abi.NoEscape"], unfollowed := true, recurses := true, named := ["diaeresis/relex.errRange", "diaeresis/relex.errFull", "internal/bytealg.MaxLen", "unicode/utf8.first", "unicode/utf8.acceptRanges", "diaeresis/glyph.table"], apart := false, laid := [("unicode/utf8.acceptRanges", laid_unicode_utf8_acceptRanges), ("diaeresis/glyph.table", laid_diaeresis_glyph_table), ("diaeresis/relex.errRange", laid_diaeresis_relex_errRange), ("diaeresis/relex.errFull", laid_diaeresis_relex_errFull), ("unicode/utf8.first", laid_unicode_utf8_first)], narrowed := true }
def RelexSplicesUptoSaid : Prop := relexSplicesUptoRow.holds Tryz.pinned (OpenSpec.upto relexSplicesSpec)

/-- 'diaeresislaw05.RelexWhole', WHERE WHAT IT READS IS OF BULK AT MOST 1048576: true; the input reads as it did. -/
def relexWholeUptoRow : OpenClaim := { program := "ytdgffpcbpilkcaagreatdoor", sum := "f3574dda332d619f4d0c18ab64394d66d30ed098502fd64a6aac3099798aeae9", func := "diaeresis/diaeresislaw05.RelexWhole", spec := "relexWhole", inPlace := ["internal/reflectlite.TypeOf", "internal/bytealg.CountString", "internal/bytealg.IndexByteString", "internal/bytealg.IndexString", "sync/atomic.AddInt64", "sync/atomic.LoadInt64", "internal/abi.NoEscape"], unfollowed := true, recurses := true, named := ["diaeresis/relex.errRange", "diaeresis/relex.errFull", "internal/bytealg.MaxLen", "unicode/utf8.first", "unicode/utf8.acceptRanges", "diaeresis/glyph.table"], apart := false, laid := [("unicode/utf8.acceptRanges", laid_unicode_utf8_acceptRanges), ("diaeresis/glyph.table", laid_diaeresis_glyph_table), ("diaeresis/relex.errRange", laid_diaeresis_relex_errRange), ("diaeresis/relex.errFull", laid_diaeresis_relex_errFull), ("unicode/utf8.first", laid_unicode_utf8_first)], narrowed := true }
def RelexWholeUptoSaid : Prop := relexWholeUptoRow.holds Tryz.pinned (OpenSpec.upto relexWholeSpec)

/-- 'diaeresislaw05.RelexKeeps', WHERE WHAT IT READS IS OF BULK AT MOST 1048576: true; the input reads as it did. -/
def relexKeepsUptoRow : OpenClaim := { program := "ytdgffpcbpilkcaagreatdoor", sum := "f3574dda332d619f4d0c18ab64394d66d30ed098502fd64a6aac3099798aeae9", func := "diaeresis/diaeresislaw05.RelexKeeps", spec := "relexKeeps", inPlace := ["internal/reflectlite.TypeOf", "internal/bytealg.CountString", "internal/bytealg.IndexByteString", "internal/bytealg.IndexString", "sync/atomic.AddInt64", "sync/atomic.LoadInt64", "internal/abi.NoEscape"], unfollowed := true, recurses := true, named := ["diaeresis/relex.errRange", "diaeresis/relex.errFull", "internal/bytealg.MaxLen", "unicode/utf8.first", "unicode/utf8.acceptRanges", "diaeresis/glyph.table"], apart := false, laid := [("unicode/utf8.acceptRanges", laid_unicode_utf8_acceptRanges), ("diaeresis/glyph.table", laid_diaeresis_glyph_table), ("diaeresis/relex.errRange", laid_diaeresis_relex_errRange), ("diaeresis/relex.errFull", laid_diaeresis_relex_errFull), ("unicode/utf8.first", laid_unicode_utf8_first)], narrowed := true }
def RelexKeepsUptoSaid : Prop := relexKeepsUptoRow.holds Tryz.pinned (OpenSpec.upto relexKeepsSpec)

/-- 'diaeresislaw05.RelexFew', WHERE WHAT IT READS IS OF BULK AT MOST 1048576: true; the input reads as it did. -/
def relexFewUptoRow : OpenClaim := { program := "ytdgffpcbpilkcaagreatdoor", sum := "f3574dda332d619f4d0c18ab64394d66d30ed098502fd64a6aac3099798aeae9", func := "diaeresis/diaeresislaw05.RelexFew", spec := "relexFew", inPlace := ["internal/reflectlite.TypeOf", "internal/bytealg.CountString", "internal/bytealg.IndexByteString", "internal/bytealg.IndexString", "sync/atomic.AddInt64", "sync/atomic.LoadInt64", "internal/abi.NoEscape"], unfollowed := true, recurses := true, named := ["diaeresis/relex.errRange", "diaeresis/relex.errFull", "internal/bytealg.MaxLen", "unicode/utf8.first", "unicode/utf8.acceptRanges", "diaeresis/glyph.table"], apart := false, laid := [("unicode/utf8.acceptRanges", laid_unicode_utf8_acceptRanges), ("diaeresis/glyph.table", laid_diaeresis_glyph_table), ("diaeresis/relex.errRange", laid_diaeresis_relex_errRange), ("diaeresis/relex.errFull", laid_diaeresis_relex_errFull), ("unicode/utf8.first", laid_unicode_utf8_first)], narrowed := true }
def RelexFewUptoSaid : Prop := relexFewUptoRow.holds Tryz.pinned (OpenSpec.upto relexFewSpec)

/-- 'diaeresislaw05.RelexNone', WHERE WHAT IT READS IS OF BULK AT MOST 1048576: true; the input reads as it did. -/
def relexNoneUptoRow : OpenClaim := { program := "ytdgffpcbpilkcaagreatdoor", sum := "f3574dda332d619f4d0c18ab64394d66d30ed098502fd64a6aac3099798aeae9", func := "diaeresis/diaeresislaw05.RelexNone", spec := "relexNone", inPlace := ["internal/reflectlite.TypeOf", "internal/bytealg.CountString", "internal/bytealg.IndexByteString", "internal/bytealg.IndexString", "sync/atomic.AddInt64", "sync/atomic.LoadInt64", "internal/abi.NoEscape"], unfollowed := true, recurses := true, named := ["diaeresis/relex.errRange", "diaeresis/relex.errFull", "internal/bytealg.MaxLen", "unicode/utf8.first", "unicode/utf8.acceptRanges", "diaeresis/glyph.table"], apart := false, laid := [("unicode/utf8.acceptRanges", laid_unicode_utf8_acceptRanges), ("diaeresis/glyph.table", laid_diaeresis_glyph_table), ("diaeresis/relex.errRange", laid_diaeresis_relex_errRange), ("diaeresis/relex.errFull", laid_diaeresis_relex_errFull), ("unicode/utf8.first", laid_unicode_utf8_first)], narrowed := true }
def RelexNoneUptoSaid : Prop := relexNoneUptoRow.holds Tryz.pinned (OpenSpec.upto relexNoneSpec)

/-- 'diaeresislaw05.RelexJoins', WHERE WHAT IT READS IS OF BULK AT MOST 1048576: true; the input reads as it did. -/
def relexJoinsUptoRow : OpenClaim := { program := "ytdgffpcbpilkcaagreatdoor", sum := "f3574dda332d619f4d0c18ab64394d66d30ed098502fd64a6aac3099798aeae9", func := "diaeresis/diaeresislaw05.RelexJoins", spec := "relexJoins", inPlace := ["internal/reflectlite.TypeOf", "internal/bytealg.CountString", "internal/bytealg.IndexByteString", "internal/bytealg.IndexString", "sync/atomic.AddInt64", "sync/atomic.LoadInt64", "internal/abi.NoEscape"], unfollowed := true, recurses := true, named := ["diaeresis/relex.errRange", "diaeresis/relex.errFull", "internal/bytealg.MaxLen", "unicode/utf8.first", "unicode/utf8.acceptRanges", "diaeresis/glyph.table"], apart := false, laid := [("unicode/utf8.acceptRanges", laid_unicode_utf8_acceptRanges), ("diaeresis/glyph.table", laid_diaeresis_glyph_table), ("diaeresis/relex.errRange", laid_diaeresis_relex_errRange), ("diaeresis/relex.errFull", laid_diaeresis_relex_errFull), ("unicode/utf8.first", laid_unicode_utf8_first)], narrowed := true }
def RelexJoinsUptoSaid : Prop := relexJoinsUptoRow.holds Tryz.pinned (OpenSpec.upto relexJoinsSpec)

end Rows
end Go.Proofs.YtdgffpcbpilkcaaGreatDoor
