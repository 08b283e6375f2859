/- What the rows' list gives: the type of errors, the table of powers; a world that holds them. -/
import Derived.Test.YteclpoooggcdoaaGreatDoorArFew
import Derived.Test.YteclpoooggcdoaaGreatDoorShA
import Derived.Test.YteclpoooggcdoaaGreatDoorRows
import Derived.Test.YteclpoooggcdoaaGreatDoorCards
import Derived.Test.YteclpoooggcdoaaGreatDoorTie
import Derived.ProofKit
import Derived.OpenShut
import Derived.LaidSub
import Derived.LaidHandle
import Derived.LaidLaws
import Derived.RowKitTokens
import Derived.PinnedBridge
import Derived.Stop.LaidErr
import Derived.Stop.LaidTwo
import Derived.Deep.DeepHandedRow
import Derived.Deep.DeepWitnessRowRef
import Derived.Lib.LaidTab
import Derived.Lib.LaidIn
import Derived.Lib.LaidU8
namespace Go.Proofs.YteclpoooggcdoaaGreatDoor
open Go Go.ChangeShapes Go.WideShapes Go.ChangeAt Go.RowKit

theorem own : ownKnob Tryz.prog.godebug = none := by kernel_rfl
theorem etName : Tryz.prog.globalNamed "errors.errorType" = some 0 := by kernel_rfl
theorem rtName : (Tryz.prog.cutTypes.find? (·.1 == "internal/reflectlite.rtype")).map (·.2) = some 113 := by kernel_rfl
theorem oneRow : ((List.range Tryz.prog.types.size).filter fun t => Tryz.prog.rowNamed t [101, 114, 114, 111, 114]) = [44] := by kernel_rfl
theorem int_bounds {n : Int} (h : (Lit.int .i64 n).wf = true) : -9223372036854775808 ≤ n ∧ n ≤ 9223372036854775807 := by
  simp only [Lit.wf, Bool.and_eq_true, decide_eq_true_eq] at h
  exact h
theorem pow_eq : Rows.laid_internal_strconv_uint64pow10 (H := Unit) = Lib.tabData .u64 Lib.pow10Tab := by kernel_rfl
theorem powType : (Tryz.prog.globals[4]?).map (·.type) = some 155 := by kernel_rfl

theorem ground_of_laid {W : World} (h : laidMetH Tryz.prog Rows.shapeDoesRow.laid W) (hsh : W.ShapedOpen Tryz.prog) : Ar.AG W := by
  have hmx : ∃ m : Int, W.cell? ⟨1, 0, none⟩ = some (.int .i64 m) := Go.Proofs.cell_of_shapedOpen_int (zero := #[.int .i64 0]) (t := 3) hsh (of_decide_eq_true (by kernel_rfl)) (by kernel_rfl) rfl (by kernel_rfl) (by kernel_rfl) Tryz.underlying3
  have h0 := laidMetH_iff.1 h
  have hall : laidMet Tryz.prog [("math/bits.deBruijn32tab", Rows.laid_math_bits_deBruijn32tab), ("math/bits.deBruijn64tab", Rows.laid_math_bits_deBruijn64tab), ("internal/strconv.uint64pow10", Rows.laid_internal_strconv_uint64pow10), ("unicode/utf8.acceptRanges", Rows.laid_unicode_utf8_acceptRanges), ("unicode/utf8.first", Rows.laid_unicode_utf8_first)] W := h0.1
  have h2 : handlesMet Tryz.prog [("errors.errorType", Rows.laid_errors_errorType)] W := h0.2
  have hp : laidMet Tryz.prog [("internal/strconv.uint64pow10", Rows.laid_internal_strconv_uint64pow10)] W := hall.filter (fun x => x.1 == "internal/strconv.uint64pow10")
  rw [pow_eq] at hp
  have htab : Lib.TabIs Tryz.prog W "internal/strconv.uint64pow10" .u64 Lib.pow10Tab := Lib.tabIs_of_head (g := 4) (t := 155) (e := 139) (n := 20) Ar.pow_at powType Tryz.underlying155 Tryz.underlying139 (by kernel_rfl) (by kernel_rfl) hp
  have he : W.cell? ⟨0, 0, none⟩ = some (.iface 113 (.agg #[.pointer (some ⟨7, 44, none⟩)])) := by
    obtain ⟨name, u, ty, e1, e2, e3, e4, e5⟩ := h2 _ (List.mem_singleton.2 rfl)
    have en : name = [101, 114, 114, 111, 114] := (Option.some.inj e1).symm
    subst en
    obtain rfl := Option.some.inj (rtName.symm.trans e2)
    have hm : ty ∈ (List.range Tryz.prog.types.size).filter fun t => Tryz.prog.rowNamed t [101, 114, 114, 111, 114] := List.mem_filter.2 ⟨List.mem_range.2 e3, e4⟩
    rw [oneRow] at hm
    obtain rfl := List.mem_singleton.1 hm
    have hh : typeHandle Tryz.prog 44 = .pointer (some ⟨7, 44, none⟩) := by kernel_rfl
    rw [hh] at e5
    simpa using World.var?_cell etName e5 0
  have l0 := World.block_lt_of_cell? W _ he
  dsimp only at l0
  have l2 := World.block_lt_of_cell? W _ (htab.cell Ar.pow_at 0 (by rw [Lib.pow10Tab_length]; omega))
  dsimp only at l2
  exact ⟨⟨trivial, he, l0⟩, hmx, htab, l2⟩

/-- A list of numbers as cells. -/
def litsOf : DataW Unit → Array Value
  | .agg l => (l.map fun d => match d with | .lit (.int k n) => Value.int k n | _ => undef).toArray
  | _ => #[]
theorem accept_eq : Rows.laid_unicode_utf8_acceptRanges (H := Unit) = Lib.acceptData := by kernel_rfl
/-- A WORLD FOR THE WITNESS. -/
noncomputable def laidWorld (os : Os) : World :=
  let w0 := World.holding Tryz.prog os ⟨#[], #[], []⟩
  let put (h : Array Obj) (g : Nat) (cs : Array Value) : Array Obj := h.modify g fun
    | .cells _ t frozen => .cells cs t frozen
    | o => o
  let h1 := put w0.heap 0 #[.iface 113 (.agg #[.pointer (some ⟨7, 44, none⟩)])]
  let h3 := put h1 5 (litsOf Rows.laid_math_bits_deBruijn32tab)
  let h4 := put h3 6 (litsOf Rows.laid_math_bits_deBruijn64tab)
  let h5 := put h4 4 (litsOf Rows.laid_internal_strconv_uint64pow10)
  let h6 := put h5 2 (Lib.firstTab.map fun z => Value.int .u8 z).toArray
  let h7 := put h6 3 ((List.range 16).flatMap fun i => [Value.int .u8 (Lib.accLo i), Value.int .u8 (Lib.accHi i)]).toArray
  { w0 with heap := h7 }
set_option maxRecDepth 100000 in
theorem laid_met (os : Os) (args : Array Value) : laidMet Tryz.prog [("math/bits.deBruijn32tab", Rows.laid_math_bits_deBruijn32tab), ("math/bits.deBruijn64tab", Rows.laid_math_bits_deBruijn64tab), ("internal/strconv.uint64pow10", Rows.laid_internal_strconv_uint64pow10), ("unicode/utf8.acceptRanges", Rows.laid_unicode_utf8_acceptRanges), ("unicode/utf8.first", Rows.laid_unicode_utf8_first)] ((laidWorld os).forCall (fun _ _ => 0) ⟨#[], args, []⟩).memory := by
  have h := (LaidIn.of_run (P := Tryz.prog) (l := [("math/bits.deBruijn32tab", Rows.laid_math_bits_deBruijn32tab), ("math/bits.deBruijn64tab", Rows.laid_math_bits_deBruijn64tab), ("internal/strconv.uint64pow10", Rows.laid_internal_strconv_uint64pow10), ("unicode/utf8.acceptRanges", Lib.acceptData), ("unicode/utf8.first", Lib.firstData)]) (w := ((laidWorld os).forCall (fun _ _ => 0) ⟨#[], args, []⟩).memory) [5, 6, 4, 3, 2] 8 (by kernel_rfl) (by kernel_rfl) (by kernel_rfl) (by kernel_rfl)).met
  rw [← accept_eq, ← Pinned.utf8First_eq] at h
  exact h
theorem laid_metH (os : Os) (args : Array Value) : laidMetH Tryz.prog Rows.shapeDoesRow.laid ((laidWorld os).forCall (fun _ _ => 0) ⟨#[], args, []⟩).memory := laidMetH_of_parts (laid_met os args) (by kernel_rfl)
end Go.Proofs.YteclpoooggcdoaaGreatDoor
