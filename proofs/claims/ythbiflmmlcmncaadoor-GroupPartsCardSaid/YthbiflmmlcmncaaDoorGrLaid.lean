/- What the rows' list gives: the type of errors; a world that holds it. -/
import Derived.Test.YthbiflmmlcmncaaDoorGrErr
import Derived.Test.YthbiflmmlcmncaaDoorRows
import Derived.Test.YthbiflmmlcmncaaDoorCards
import Derived.Test.YthbiflmmlcmncaaDoorTie
import Derived.ProofKit
import Derived.OpenShut
import Derived.LaidSub
import Derived.LaidHandle
import Derived.LaidLaws
import Derived.RowKitTokens
import Derived.PinnedBridge
import Derived.Stop.LaidTwo
import Derived.Deep.DeepHandedRow
import Derived.Deep.DeepWitnessRowRef
import Derived.Lib.LaidTab
import Derived.Lib.LaidIn
namespace Go.Proofs.YthbiflmmlcmncaaDoor
open Go Go.ChangeShapes Go.WideShapes Go.ChangeAt Go.RowKit

theorem own : ownKnob Tryd.prog.godebug = none := by kernel_rfl
theorem etName : Tryd.prog.globalNamed "errors.errorType" = some 0 := by kernel_rfl
theorem rtName : (Tryd.prog.cutTypes.find? (·.1 == "internal/reflectlite.rtype")).map (·.2) = some 121 := by kernel_rfl
theorem oneRow : ((List.range Tryd.prog.types.size).filter fun t => Tryd.prog.rowNamed t [101, 114, 114, 111, 114]) = [47] := by kernel_rfl
theorem int_bounds {n : Int} (h : (Lit.int .i64 n).wf = true) : -9223372036854775808 ≤ n ∧ n ≤ 9223372036854775807 := by
  simp only [Lit.wf, Bool.and_eq_true, decide_eq_true_eq] at h
  exact h

theorem ground_of_laid {W : World} (h : laidMetH Tryd.prog Rows.groupMatchesRow.laid W) : ErrT W := by
  have h0 := laidMetH_iff.1 h
  have h2 : handlesMet Tryd.prog [("errors.errorType", Rows.laid_errors_errorType)] W := h0.2
  have he : W.cell? ⟨0, 0, none⟩ = some (.iface 121 (.agg #[.pointer (some ⟨1, 47, none⟩)])) := by
    obtain ⟨name, u, ty, e1, e2, e3, e4, e5⟩ := h2 _ (List.mem_singleton.2 rfl)
    have en : name = [101, 114, 114, 111, 114] := (Option.some.inj e1).symm
    subst en
    obtain rfl := Option.some.inj (rtName.symm.trans e2)
    have hm : ty ∈ (List.range Tryd.prog.types.size).filter fun t => Tryd.prog.rowNamed t [101, 114, 114, 111, 114] := List.mem_filter.2 ⟨List.mem_range.2 e3, e4⟩
    rw [oneRow] at hm
    obtain rfl := List.mem_singleton.1 hm
    have hh : typeHandle Tryd.prog 47 = .pointer (some ⟨1, 47, none⟩) := by kernel_rfl
    rw [hh] at e5
    simpa using World.var?_cell etName e5 0
  have l0 := World.block_lt_of_cell? W _ he
  dsimp only at l0
  exact ⟨he, l0⟩

/-- A WORLD FOR THE WITNESS. -/
noncomputable def laidWorld (os : Os) : World :=
  let w0 := World.holding Tryd.prog os ⟨#[], #[], []⟩
  let put (h : Array Obj) (g : Nat) (cs : Array Value) : Array Obj := h.modify g fun
    | .cells _ t frozen => .cells cs t frozen
    | o => o
  { w0 with heap := put w0.heap 0 #[.iface 121 (.agg #[.pointer (some ⟨1, 47, none⟩)])] }
theorem laid_metH (os : Os) (args : Array Value) : laidMetH Tryd.prog Rows.groupMatchesRow.laid ((laidWorld os).forCall (fun _ _ => 0) ⟨#[], args, []⟩).memory :=
  laidMetH_of_parts (laidMet_nil _ _) (by kernel_rfl)
end Go.Proofs.YthbiflmmlcmncaaDoor
