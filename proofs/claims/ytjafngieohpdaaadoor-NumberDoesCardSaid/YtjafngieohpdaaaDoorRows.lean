/-
  NARROWER THAN 'FOR EVERY INPUT', by the rows' own cells (each row's printed sentence says how): NumberDoes: laid · NumberBack: laid · NumberResidues: laid · NumberOrders: laid · NumberTurns: laid · NumberSigns: laid · NumberLogic: laid.
  DERIVED. THE GIVEN ROWS OF THIS SEAT. 7 by the template 'for every input the law returns true; each argument reads behind the call as it read before'; 0 by the template 'total and deterministic' (their statements: YtjafngieohpdaaaDoorTotals.lean).
  GIVEN WITH THE SEED: the statements are not yours to turn. If you find one false, say at which input.
  Laid BY PROGRAM, IN A SANDBOX (cutbox-rows.mjs): the forced cells as the released guide's own fill.sh prints them over the translation 39163a5c255cc6e2… (all of the seat's roots in one cut). By AI agents, Wed Nov 11 2026. No macro, syntax, notation, axiom, sorry.
-/
import Derived.Test.YtjafngieohpdaaaDoorChecked
import GoSem.Claim
import GoSem.ClaimJoined
import GoSem.ClaimMapViews
import Derived.JoinedTies
import Derived.KernelRfl
namespace Go.Proofs.YtjafngieohpdaaaDoor
/- THE CELL 'sum', in the pinned program and in every row, IS THE sha256 OF THE DUMP (.gsa) THAT YtjafngieohpdaaaDoorProg.lean LOADS. Nothing in Lean hashes anything: it is a label: what it is worth is what the hold of that sum in a sandbox is worth. -/
noncomputable def Tryd.pinned : Pinned := { name := "ytjafngieohpdaaadoor", sum := "39163a5c255cc6e2d83c416e8583e5718204e2529e760d952201d429286ade2f", checked := Tryd.checked }
namespace Rows
def none {H : Type} : Left H := { results := [], args := [] }

/- WHAT THE LISTED PACKAGE-LEVEL VARIABLES READ AS WHEN THE CALL BEGINS. Each datum BY PROGRAM (the guide's laid-datum.mjs) off the statement by which the dump's own 'gosem.cut.vars' lays the variable. In a bare row this is a premise. The card (YtjafngieohpdaaaDoorCards.lean) ties it to the program's text. -/
def laid_errors_errorType {H : Type} : DataW H := .iface "internal/reflectlite.rtype" (.agg [.ptr (.lit (.string [101, 114, 114, 111, 114]))])
def laid_diaeresis_number_errDomain {H : Type} : DataW H := .iface "*errors.errorString" (.ptr (.agg [.lit (.string [116, 104, 101, 114, 101, 32, 105, 115, 32, 110, 111, 32, 115, 117, 99, 104, 32, 102, 117, 110, 99, 116, 105, 111, 110, 32, 111, 102, 32, 115, 117, 99, 104, 32, 110, 117, 109, 98, 101, 114, 115])]))

/-- 'diaeresislaw10.NumberDoes': WHATEVER THE INPUT: true; the input reads as it did. -/
def numberDoesSpec : ChangeSpec := { name := "numberDoes", fn := fun _ => fun
  | [d1, d2, d3] => { results := [.lit (.bool true)], args := [d1, d2, d3] }
  | _ => none }
def numberDoesRow : OpenClaim := { program := "ytjafngieohpdaaadoor", sum := "39163a5c255cc6e2d83c416e8583e5718204e2529e760d952201d429286ade2f", func := "diaeresis/diaeresislaw10.NumberDoes", spec := "numberDoes", inPlace := ["internal/reflectlite.TypeOf", "internal/reflectlite.ValueOf", "(internal/reflectlite.Value).Type", "(internal/reflectlite.Value).IsNil", "(internal/reflectlite.Value).Elem", "(internal/reflectlite.Value).Set"], unfollowed := true, recurses := true, named := ["diaeresis/number.errDomain", "errors.errorType"], apart := false, laid := [("errors.errorType", laid_errors_errorType), ("diaeresis/number.errDomain", laid_diaeresis_number_errDomain)] }
def NumberDoesSaid : Prop := numberDoesRow.holds Tryd.pinned (OpenSpec.ofChange numberDoesSpec)

/-- ITS FALSE NEIGHBOUR: 'it returns false'. Refute it at one input. -/
def numberDoesWrong : ChangeSpec := { name := "numberDoes", fn := fun _ => fun
  | [d1, d2, d3] => { results := [.lit (.bool false)], args := [d1, d2, d3] }
  | _ => none }
def NumberDoesWrongFalsely : Prop := numberDoesRow.holds Tryd.pinned (OpenSpec.ofChange numberDoesWrong)

/-- 'diaeresislaw10.NumberBack': WHATEVER THE INPUT: true; the input reads as it did. -/
def numberBackSpec : ChangeSpec := { name := "numberBack", fn := fun _ => fun
  | [d1, d2] => { results := [.lit (.bool true)], args := [d1, d2] }
  | _ => none }
def numberBackRow : OpenClaim := { program := "ytjafngieohpdaaadoor", sum := "39163a5c255cc6e2d83c416e8583e5718204e2529e760d952201d429286ade2f", func := "diaeresis/diaeresislaw10.NumberBack", spec := "numberBack", inPlace := ["internal/reflectlite.TypeOf", "internal/reflectlite.ValueOf", "(internal/reflectlite.Value).Type", "(internal/reflectlite.Value).IsNil", "(internal/reflectlite.Value).Elem", "(internal/reflectlite.Value).Set"], unfollowed := true, recurses := true, named := ["diaeresis/number.errDomain", "errors.errorType"], apart := false, laid := [("errors.errorType", laid_errors_errorType), ("diaeresis/number.errDomain", laid_diaeresis_number_errDomain)] }
def NumberBackSaid : Prop := numberBackRow.holds Tryd.pinned (OpenSpec.ofChange numberBackSpec)

/-- ITS FALSE NEIGHBOUR: 'it returns false'. Refute it at one input. -/
def numberBackWrong : ChangeSpec := { name := "numberBack", fn := fun _ => fun
  | [d1, d2] => { results := [.lit (.bool false)], args := [d1, d2] }
  | _ => none }
def NumberBackWrongFalsely : Prop := numberBackRow.holds Tryd.pinned (OpenSpec.ofChange numberBackWrong)

/-- 'diaeresislaw10.NumberResidues': WHATEVER THE INPUT: true; the input reads as it did. -/
def numberResiduesSpec : ChangeSpec := { name := "numberResidues", fn := fun _ => fun
  | [d1, d2] => { results := [.lit (.bool true)], args := [d1, d2] }
  | _ => none }
def numberResiduesRow : OpenClaim := { program := "ytjafngieohpdaaadoor", sum := "39163a5c255cc6e2d83c416e8583e5718204e2529e760d952201d429286ade2f", func := "diaeresis/diaeresislaw10.NumberResidues", spec := "numberResidues", inPlace := ["internal/reflectlite.TypeOf", "internal/reflectlite.ValueOf", "(internal/reflectlite.Value).Type", "(internal/reflectlite.Value).IsNil", "(internal/reflectlite.Value).Elem", "(internal/reflectlite.Value).Set"], unfollowed := true, recurses := true, named := ["diaeresis/number.errDomain", "errors.errorType"], apart := false, laid := [("errors.errorType", laid_errors_errorType), ("diaeresis/number.errDomain", laid_diaeresis_number_errDomain)] }
def NumberResiduesSaid : Prop := numberResiduesRow.holds Tryd.pinned (OpenSpec.ofChange numberResiduesSpec)

/-- ITS FALSE NEIGHBOUR: 'it returns false'. Refute it at one input. -/
def numberResiduesWrong : ChangeSpec := { name := "numberResidues", fn := fun _ => fun
  | [d1, d2] => { results := [.lit (.bool false)], args := [d1, d2] }
  | _ => none }
def NumberResiduesWrongFalsely : Prop := numberResiduesRow.holds Tryd.pinned (OpenSpec.ofChange numberResiduesWrong)

/-- 'diaeresislaw10.NumberOrders': WHATEVER THE INPUT: true; the input reads as it did. -/
def numberOrdersSpec : ChangeSpec := { name := "numberOrders", fn := fun _ => fun
  | [d1, d2] => { results := [.lit (.bool true)], args := [d1, d2] }
  | _ => none }
def numberOrdersRow : OpenClaim := { program := "ytjafngieohpdaaadoor", sum := "39163a5c255cc6e2d83c416e8583e5718204e2529e760d952201d429286ade2f", func := "diaeresis/diaeresislaw10.NumberOrders", spec := "numberOrders", inPlace := ["internal/reflectlite.TypeOf", "internal/reflectlite.ValueOf", "(internal/reflectlite.Value).Type", "(internal/reflectlite.Value).IsNil", "(internal/reflectlite.Value).Elem", "(internal/reflectlite.Value).Set"], unfollowed := true, recurses := true, named := ["diaeresis/number.errDomain", "errors.errorType"], apart := false, laid := [("errors.errorType", laid_errors_errorType), ("diaeresis/number.errDomain", laid_diaeresis_number_errDomain)] }
def NumberOrdersSaid : Prop := numberOrdersRow.holds Tryd.pinned (OpenSpec.ofChange numberOrdersSpec)

/-- ITS FALSE NEIGHBOUR: 'it returns false'. Refute it at one input. -/
def numberOrdersWrong : ChangeSpec := { name := "numberOrders", fn := fun _ => fun
  | [d1, d2] => { results := [.lit (.bool false)], args := [d1, d2] }
  | _ => none }
def NumberOrdersWrongFalsely : Prop := numberOrdersRow.holds Tryd.pinned (OpenSpec.ofChange numberOrdersWrong)

/-- 'diaeresislaw10.NumberTurns': WHATEVER THE INPUT: true; the input reads as it did. -/
def numberTurnsSpec : ChangeSpec := { name := "numberTurns", fn := fun _ => fun
  | [d1, d2, d3] => { results := [.lit (.bool true)], args := [d1, d2, d3] }
  | _ => none }
def numberTurnsRow : OpenClaim := { program := "ytjafngieohpdaaadoor", sum := "39163a5c255cc6e2d83c416e8583e5718204e2529e760d952201d429286ade2f", func := "diaeresis/diaeresislaw10.NumberTurns", spec := "numberTurns", inPlace := ["internal/reflectlite.TypeOf", "internal/reflectlite.ValueOf", "(internal/reflectlite.Value).Type", "(internal/reflectlite.Value).IsNil", "(internal/reflectlite.Value).Elem", "(internal/reflectlite.Value).Set"], unfollowed := true, recurses := true, named := ["diaeresis/number.errDomain", "errors.errorType"], apart := false, laid := [("errors.errorType", laid_errors_errorType), ("diaeresis/number.errDomain", laid_diaeresis_number_errDomain)] }
def NumberTurnsSaid : Prop := numberTurnsRow.holds Tryd.pinned (OpenSpec.ofChange numberTurnsSpec)

/-- ITS FALSE NEIGHBOUR: 'it returns false'. Refute it at one input. -/
def numberTurnsWrong : ChangeSpec := { name := "numberTurns", fn := fun _ => fun
  | [d1, d2, d3] => { results := [.lit (.bool false)], args := [d1, d2, d3] }
  | _ => none }
def NumberTurnsWrongFalsely : Prop := numberTurnsRow.holds Tryd.pinned (OpenSpec.ofChange numberTurnsWrong)

/-- 'diaeresislaw10.NumberSigns': WHATEVER THE INPUT: true; the input reads as it did. -/
def numberSignsSpec : ChangeSpec := { name := "numberSigns", fn := fun _ => fun
  | [d] => { results := [.lit (.bool true)], args := [d] }
  | _ => none }
def numberSignsRow : OpenClaim := { program := "ytjafngieohpdaaadoor", sum := "39163a5c255cc6e2d83c416e8583e5718204e2529e760d952201d429286ade2f", func := "diaeresis/diaeresislaw10.NumberSigns", spec := "numberSigns", inPlace := ["internal/reflectlite.TypeOf", "internal/reflectlite.ValueOf", "(internal/reflectlite.Value).Type", "(internal/reflectlite.Value).IsNil", "(internal/reflectlite.Value).Elem", "(internal/reflectlite.Value).Set"], unfollowed := true, recurses := true, named := ["diaeresis/number.errDomain", "errors.errorType"], apart := false, laid := [("errors.errorType", laid_errors_errorType), ("diaeresis/number.errDomain", laid_diaeresis_number_errDomain)] }
def NumberSignsSaid : Prop := numberSignsRow.holds Tryd.pinned (OpenSpec.ofChange numberSignsSpec)

/-- ITS FALSE NEIGHBOUR: 'it returns false'. Refute it at one input. -/
def numberSignsWrong : ChangeSpec := { name := "numberSigns", fn := fun _ => fun
  | [d] => { results := [.lit (.bool false)], args := [d] }
  | _ => none }
def NumberSignsWrongFalsely : Prop := numberSignsRow.holds Tryd.pinned (OpenSpec.ofChange numberSignsWrong)

/-- 'diaeresislaw10.NumberLogic': WHATEVER THE INPUT: true; the input reads as it did. -/
def numberLogicSpec : ChangeSpec := { name := "numberLogic", fn := fun _ => fun
  | [d1, d2] => { results := [.lit (.bool true)], args := [d1, d2] }
  | _ => none }
def numberLogicRow : OpenClaim := { program := "ytjafngieohpdaaadoor", sum := "39163a5c255cc6e2d83c416e8583e5718204e2529e760d952201d429286ade2f", func := "diaeresis/diaeresislaw10.NumberLogic", spec := "numberLogic", inPlace := ["internal/reflectlite.TypeOf", "internal/reflectlite.ValueOf", "(internal/reflectlite.Value).Type", "(internal/reflectlite.Value).IsNil", "(internal/reflectlite.Value).Elem", "(internal/reflectlite.Value).Set"], unfollowed := true, recurses := true, named := ["diaeresis/number.errDomain", "errors.errorType"], apart := false, laid := [("errors.errorType", laid_errors_errorType), ("diaeresis/number.errDomain", laid_diaeresis_number_errDomain)] }
def NumberLogicSaid : Prop := numberLogicRow.holds Tryd.pinned (OpenSpec.ofChange numberLogicSpec)

/-- ITS FALSE NEIGHBOUR: 'it returns false'. Refute it at one input. -/
def numberLogicWrong : ChangeSpec := { name := "numberLogic", fn := fun _ => fun
  | [d1, d2] => { results := [.lit (.bool false)], args := [d1, d2] }
  | _ => none }
def NumberLogicWrongFalsely : Prop := numberLogicRow.holds Tryd.pinned (OpenSpec.ofChange numberLogicWrong)

/- THE SECOND FORM. 'bulk': how many values and letters a reading holds, each counted each time it is reached (what is shared counts as often as it is met; a slice's spare places count too). A statement '..UptoSaid' is the law's where the arguments, and the package variables that the reading takes, are together of bulk at most 1048576: NARROWER than '..Said'. Prove '..Said' where nothing that the law and all that it calls make is longer than what came in: it says more and counts as full. Else prove '..UptoSaid'. A law counts once. -/
mutual
def uptoBulk {H : Type} : DataW H → Nat
  | .lit (.string bytes) => bytes.length + 1
  | .lit _ => 1
  | .nil => 1
  | .ptr d => uptoBulk d + 1
  | .slice elems spare => uptoBulkAll elems + uptoBulkAll spare + 1
  | .agg parts => uptoBulkAll parts + 1
  | .iface _ d => uptoBulk d + 1
  | .map entries => uptoBulkEntries entries + 1
  | .held _ => 1
def uptoBulkAll {H : Type} : List (DataW H) → Nat
  | [] => 0
  | d :: r => uptoBulk d + uptoBulkAll r
def uptoBulkEntries {H : Type} : List (Lit × DataW H) → Nat
  | [] => 0
  | x :: r => uptoBulkEntry x + uptoBulkEntries r
def uptoBulkEntry {H : Type} : Lit × DataW H → Nat
  | (.string bytes, d) => bytes.length + uptoBulk d + 1
  | (_, d) => uptoBulk d + 1
 end
def uptoSmall : (H : Type) → List (DataW H) → Bool := fun _ ds => decide (uptoBulkAll ds ≤ 1048576)
def OpenSpec.upto (s : _root_.Go.ChangeSpec) : _root_.Go.OpenSpec := { _root_.Go.OpenSpec.ofChange s with cond := some uptoSmall }

/-- 'diaeresislaw10.NumberDoes', WHERE WHAT IT READS IS OF BULK AT MOST 1048576: true; the input reads as it did. -/
def numberDoesUptoRow : OpenClaim := { program := "ytjafngieohpdaaadoor", sum := "39163a5c255cc6e2d83c416e8583e5718204e2529e760d952201d429286ade2f", func := "diaeresis/diaeresislaw10.NumberDoes", spec := "numberDoes", inPlace := ["internal/reflectlite.TypeOf", "internal/reflectlite.ValueOf", "(internal/reflectlite.Value).Type", "(internal/reflectlite.Value).IsNil", "(internal/reflectlite.Value).Elem", "(internal/reflectlite.Value).Set"], unfollowed := true, recurses := true, named := ["diaeresis/number.errDomain", "errors.errorType"], apart := false, laid := [("errors.errorType", laid_errors_errorType), ("diaeresis/number.errDomain", laid_diaeresis_number_errDomain)], narrowed := true }
def NumberDoesUptoSaid : Prop := numberDoesUptoRow.holds Tryd.pinned (OpenSpec.upto numberDoesSpec)

/-- 'diaeresislaw10.NumberBack', WHERE WHAT IT READS IS OF BULK AT MOST 1048576: true; the input reads as it did. -/
def numberBackUptoRow : OpenClaim := { program := "ytjafngieohpdaaadoor", sum := "39163a5c255cc6e2d83c416e8583e5718204e2529e760d952201d429286ade2f", func := "diaeresis/diaeresislaw10.NumberBack", spec := "numberBack", inPlace := ["internal/reflectlite.TypeOf", "internal/reflectlite.ValueOf", "(internal/reflectlite.Value).Type", "(internal/reflectlite.Value).IsNil", "(internal/reflectlite.Value).Elem", "(internal/reflectlite.Value).Set"], unfollowed := true, recurses := true, named := ["diaeresis/number.errDomain", "errors.errorType"], apart := false, laid := [("errors.errorType", laid_errors_errorType), ("diaeresis/number.errDomain", laid_diaeresis_number_errDomain)], narrowed := true }
def NumberBackUptoSaid : Prop := numberBackUptoRow.holds Tryd.pinned (OpenSpec.upto numberBackSpec)

/-- 'diaeresislaw10.NumberResidues', WHERE WHAT IT READS IS OF BULK AT MOST 1048576: true; the input reads as it did. -/
def numberResiduesUptoRow : OpenClaim := { program := "ytjafngieohpdaaadoor", sum := "39163a5c255cc6e2d83c416e8583e5718204e2529e760d952201d429286ade2f", func := "diaeresis/diaeresislaw10.NumberResidues", spec := "numberResidues", inPlace := ["internal/reflectlite.TypeOf", "internal/reflectlite.ValueOf", "(internal/reflectlite.Value).Type", "(internal/reflectlite.Value).IsNil", "(internal/reflectlite.Value).Elem", "(internal/reflectlite.Value).Set"], unfollowed := true, recurses := true, named := ["diaeresis/number.errDomain", "errors.errorType"], apart := false, laid := [("errors.errorType", laid_errors_errorType), ("diaeresis/number.errDomain", laid_diaeresis_number_errDomain)], narrowed := true }
def NumberResiduesUptoSaid : Prop := numberResiduesUptoRow.holds Tryd.pinned (OpenSpec.upto numberResiduesSpec)

/-- 'diaeresislaw10.NumberOrders', WHERE WHAT IT READS IS OF BULK AT MOST 1048576: true; the input reads as it did. -/
def numberOrdersUptoRow : OpenClaim := { program := "ytjafngieohpdaaadoor", sum := "39163a5c255cc6e2d83c416e8583e5718204e2529e760d952201d429286ade2f", func := "diaeresis/diaeresislaw10.NumberOrders", spec := "numberOrders", inPlace := ["internal/reflectlite.TypeOf", "internal/reflectlite.ValueOf", "(internal/reflectlite.Value).Type", "(internal/reflectlite.Value).IsNil", "(internal/reflectlite.Value).Elem", "(internal/reflectlite.Value).Set"], unfollowed := true, recurses := true, named := ["diaeresis/number.errDomain", "errors.errorType"], apart := false, laid := [("errors.errorType", laid_errors_errorType), ("diaeresis/number.errDomain", laid_diaeresis_number_errDomain)], narrowed := true }
def NumberOrdersUptoSaid : Prop := numberOrdersUptoRow.holds Tryd.pinned (OpenSpec.upto numberOrdersSpec)

/-- 'diaeresislaw10.NumberTurns', WHERE WHAT IT READS IS OF BULK AT MOST 1048576: true; the input reads as it did. -/
def numberTurnsUptoRow : OpenClaim := { program := "ytjafngieohpdaaadoor", sum := "39163a5c255cc6e2d83c416e8583e5718204e2529e760d952201d429286ade2f", func := "diaeresis/diaeresislaw10.NumberTurns", spec := "numberTurns", inPlace := ["internal/reflectlite.TypeOf", "internal/reflectlite.ValueOf", "(internal/reflectlite.Value).Type", "(internal/reflectlite.Value).IsNil", "(internal/reflectlite.Value).Elem", "(internal/reflectlite.Value).Set"], unfollowed := true, recurses := true, named := ["diaeresis/number.errDomain", "errors.errorType"], apart := false, laid := [("errors.errorType", laid_errors_errorType), ("diaeresis/number.errDomain", laid_diaeresis_number_errDomain)], narrowed := true }
def NumberTurnsUptoSaid : Prop := numberTurnsUptoRow.holds Tryd.pinned (OpenSpec.upto numberTurnsSpec)

/-- 'diaeresislaw10.NumberSigns', WHERE WHAT IT READS IS OF BULK AT MOST 1048576: true; the input reads as it did. -/
def numberSignsUptoRow : OpenClaim := { program := "ytjafngieohpdaaadoor", sum := "39163a5c255cc6e2d83c416e8583e5718204e2529e760d952201d429286ade2f", func := "diaeresis/diaeresislaw10.NumberSigns", spec := "numberSigns", inPlace := ["internal/reflectlite.TypeOf", "internal/reflectlite.ValueOf", "(internal/reflectlite.Value).Type", "(internal/reflectlite.Value).IsNil", "(internal/reflectlite.Value).Elem", "(internal/reflectlite.Value).Set"], unfollowed := true, recurses := true, named := ["diaeresis/number.errDomain", "errors.errorType"], apart := false, laid := [("errors.errorType", laid_errors_errorType), ("diaeresis/number.errDomain", laid_diaeresis_number_errDomain)], narrowed := true }
def NumberSignsUptoSaid : Prop := numberSignsUptoRow.holds Tryd.pinned (OpenSpec.upto numberSignsSpec)

/-- 'diaeresislaw10.NumberLogic', WHERE WHAT IT READS IS OF BULK AT MOST 1048576: true; the input reads as it did. -/
def numberLogicUptoRow : OpenClaim := { program := "ytjafngieohpdaaadoor", sum := "39163a5c255cc6e2d83c416e8583e5718204e2529e760d952201d429286ade2f", func := "diaeresis/diaeresislaw10.NumberLogic", spec := "numberLogic", inPlace := ["internal/reflectlite.TypeOf", "internal/reflectlite.ValueOf", "(internal/reflectlite.Value).Type", "(internal/reflectlite.Value).IsNil", "(internal/reflectlite.Value).Elem", "(internal/reflectlite.Value).Set"], unfollowed := true, recurses := true, named := ["diaeresis/number.errDomain", "errors.errorType"], apart := false, laid := [("errors.errorType", laid_errors_errorType), ("diaeresis/number.errDomain", laid_diaeresis_number_errDomain)], narrowed := true }
def NumberLogicUptoSaid : Prop := numberLogicUptoRow.holds Tryd.pinned (OpenSpec.upto numberLogicSpec)

end Rows
end Go.Proofs.YtjafngieohpdaaaDoor
