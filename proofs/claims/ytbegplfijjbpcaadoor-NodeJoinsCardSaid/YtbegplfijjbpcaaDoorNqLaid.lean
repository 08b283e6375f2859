/- What the rows' list gives: the sentinel; a world that holds it, and the library's tables. -/
import Derived.Test.YtbegplfijjbpcaaDoorNqLeaves
import Derived.Test.YtbegplfijjbpcaaDoorRows
import Derived.Test.YtbegplfijjbpcaaDoorCards
import Derived.Test.YtbegplfijjbpcaaDoorTie
import Derived.ProofKit
import Derived.OpenShut
import Derived.LaidSub
import Derived.LaidHandle
import Derived.LaidLaws
import Derived.RowKitTokens
import Derived.Stop.LaidErr
import Derived.Deep.DeepHandedRow
import Derived.Deep.DeepWitnessRowRef
import Derived.Lib.LaidTab
namespace Go.Proofs.YtbegplfijjbpcaaDoor
open Go Go.ChangeShapes Go.WideShapes Go.ChangeAt Go.RowKit

theorem own : ownKnob Tryd.prog.godebug = none := by kernel_rfl
theorem gNd : Tryd.prog.globalNamed "diaeresis/node.errNode" = some 0 := by kernel_rfl
theorem gNdType : (Tryd.prog.globals[0]?).map (·.type) = some 45 := by kernel_rfl
theorem cellsErr : Tryd.prog.cellsOf 159 = 1 := by kernel_rfl
theorem cellsStr : Tryd.prog.cellsOf 9 = 1 := by kernel_rfl
theorem star : "*" ++ "errors.errorString" = "*errors.errorString" := by decide
theorem rowErr (u : TypeId) (h : Tryd.prog.typeName? 3 u = some "*errors.errorString") : u = 136 :=
  typeName_ptr_named (nm := "errors.errorString") (by rw [star]; kernel_rfl) (by kernel_rfl) (by decide) u (by rw [star]; exact h)
theorem int_bounds {n : Int} (h : (Lit.int .i64 n).wf = true) : -9223372036854775808 ≤ n ∧ n ≤ 9223372036854775807 := by
  simp only [Lit.wf, Bool.and_eq_true, decide_eq_true_eq] at h
  exact h

theorem ground_of_laid {W : World} (h : laidMetH Tryd.prog Rows.nodeLeavesRow.laid W) : No.NG W := by
  have h0 := (laidMetH_iff.1 h).1
  have h1 : laidMet Tryd.prog [("math/bits.deBruijn32tab", Rows.laid_math_bits_deBruijn32tab), ("math/bits.deBruijn64tab", Rows.laid_math_bits_deBruijn64tab), ("internal/strconv.uint64pow10", Rows.laid_internal_strconv_uint64pow10), ("diaeresis/node.errNode", Rows.laid_diaeresis_node_errNode)] W := h0
  obtain ⟨a, s, hv, _, _, _⟩ := laid_sentinel (h1.tail.tail.tail) gNd gNdType Tryd.underlying45 rowErr Tryd.underlying136 Tryd.underlying159 rfl rfl Tryd.underlying9 cellsErr cellsStr
  have c := World.var?_cell gNd hv 0
  have c' : W.cell? ⟨0, 0, none⟩ = some (.iface 136 (.pointer (some a))) := by simpa using c
  have l0 := World.block_lt_of_cell? W _ c'
  dsimp only at l0
  exact ⟨a, c', l0⟩

/-- A list of numbers as cells. -/
def litsOf : DataW Unit → Array Value
  | .agg l => (l.map fun d => match d with | .lit (.int k n) => Value.int k n | _ => undef).toArray
  | _ => #[]
def sNd : ByteArray := ⟨#[110, 111, 100, 101, 58, 32, 116, 104, 101, 114, 101, 32, 105, 115, 32, 110, 111, 32, 115, 117, 99, 104, 32, 116, 114, 101, 101]⟩
noncomputable def low : Nat := (World.holding Tryd.prog default ⟨#[], #[], []⟩).heap.size
/-- A WORLD FOR THE WITNESS. -/
noncomputable def laidWorld (os : Os) : World :=
  let w0 := World.holding Tryd.prog os ⟨#[.cells #[.string sNd] 159], #[], []⟩
  let put (h : Array Obj) (g : Nat) (cs : Array Value) : Array Obj := h.modify g fun
    | .cells _ t frozen => .cells cs t frozen
    | o => o
  let h1 := put w0.heap 2 (litsOf Rows.laid_math_bits_deBruijn32tab)
  let h2 := put h1 3 (litsOf Rows.laid_math_bits_deBruijn64tab)
  let h3 := put h2 1 (litsOf Rows.laid_internal_strconv_uint64pow10)
  let h4 := put h3 0 #[.iface 136 (.pointer (some ⟨low, 0, none⟩))]
  { w0 with heap := h4 }
set_option maxRecDepth 100000 in
theorem laid_met (os : Os) (args : Array Value) : laidMet Tryd.prog Rows.nodeLeavesRow.laid ((laidWorld os).forCall (fun _ _ => 0) ⟨#[], args, []⟩).memory :=
  laidMet_of_run' 8 (by kernel_rfl) (by kernel_rfl)
theorem laid_metH (os : Os) (args : Array Value) : laidMetH Tryd.prog Rows.nodeLeavesRow.laid ((laidWorld os).forCall (fun _ _ => 0) ⟨#[], args, []⟩).memory := laidMetH_of_parts (laid_met os args) (by kernel_rfl)
end Go.Proofs.YtbegplfijjbpcaaDoor
