/- What the rows' list gives: the sentinel, the type of errors; a world that holds them. -/
import Derived.Test.YtjafngieohpdaaaDoorNuDy
import Derived.Test.YtjafngieohpdaaaDoorRows
import Derived.Test.YtjafngieohpdaaaDoorCards
import Derived.Test.YtjafngieohpdaaaDoorTie
import Derived.ProofKit
import Derived.OpenShut
import Derived.LaidSub
import Derived.LaidHandle
import Derived.LaidLaws
import Derived.RowKitTokens
import Derived.PinnedBridge
import Derived.Stop.LaidErr
import Derived.Stop.LaidTwo
import Derived.Deep.DeepHandedRow
import Derived.Deep.DeepWitnessRowRef
import Derived.Lib.LaidTab
import Derived.Lib.LaidIn
namespace Go.Proofs.YtjafngieohpdaaaDoor
open Go Go.ChangeShapes Go.WideShapes Go.ChangeAt Go.RowKit

theorem own : ownKnob Tryd.prog.godebug = none := by kernel_rfl
theorem etName : Tryd.prog.globalNamed "errors.errorType" = some 1 := by kernel_rfl
theorem rtName : (Tryd.prog.cutTypes.find? (·.1 == "internal/reflectlite.rtype")).map (·.2) = some 86 := by kernel_rfl
theorem oneRow : ((List.range Tryd.prog.types.size).filter fun t => Tryd.prog.rowNamed t [101, 114, 114, 111, 114]) = [36] := by kernel_rfl
theorem gEd : Tryd.prog.globalNamed "diaeresis/number.errDomain" = some 0 := by kernel_rfl
theorem gEdType : (Tryd.prog.globals[0]?).map (·.type) = some 36 := by kernel_rfl
theorem cellsErr : Tryd.prog.cellsOf 125 = 1 := by kernel_rfl
theorem cellsStr : Tryd.prog.cellsOf 9 = 1 := by kernel_rfl
theorem star : "*" ++ "errors.errorString" = "*errors.errorString" := by decide
theorem rowErr (u : TypeId) (h : Tryd.prog.typeName? 3 u = some "*errors.errorString") : u = 103 :=
  typeName_ptr_named (nm := "errors.errorString") (by rw [star]; kernel_rfl) (by kernel_rfl) (by decide) u (by rw [star]; exact h)
theorem int_bounds {n : Int} (h : (Lit.int .i64 n).wf = true) : -9223372036854775808 ≤ n ∧ n ≤ 9223372036854775807 := by
  simp only [Lit.wf, Bool.and_eq_true, decide_eq_true_eq] at h
  exact h

theorem ground_of_laid {W : World} (h : laidMetH Tryd.prog Rows.numberBackRow.laid W) : Nu.NG W := by
  have h0 := laidMetH_iff.1 h
  have h1 : laidMet Tryd.prog [("diaeresis/number.errDomain", Rows.laid_diaeresis_number_errDomain)] W := h0.1
  have h2 : handlesMet Tryd.prog [("errors.errorType", Rows.laid_errors_errorType)] W := h0.2
  obtain ⟨a, s, hv, _, _, _⟩ := laid_sentinel h1 gEd gEdType Tryd.underlying36 rowErr Tryd.underlying103 Tryd.underlying125 rfl rfl Tryd.underlying9 cellsErr cellsStr
  have c := World.var?_cell gEd hv 0
  have c' : W.cell? ⟨0, 0, none⟩ = some (.iface 103 (.pointer (some a))) := by simpa using c
  have l1 := World.block_lt_of_cell? W _ c'
  dsimp only at l1
  have he : W.cell? ⟨1, 0, none⟩ = some (.iface 86 (.agg #[.pointer (some ⟨2, 36, none⟩)])) := by
    obtain ⟨name, u, ty, e1, e2, e3, e4, e5⟩ := h2 _ (List.mem_singleton.2 rfl)
    have en : name = [101, 114, 114, 111, 114] := (Option.some.inj e1).symm
    subst en
    obtain rfl := Option.some.inj (rtName.symm.trans e2)
    have hm : ty ∈ (List.range Tryd.prog.types.size).filter fun t => Tryd.prog.rowNamed t [101, 114, 114, 111, 114] := List.mem_filter.2 ⟨List.mem_range.2 e3, e4⟩
    rw [oneRow] at hm
    obtain rfl := List.mem_singleton.1 hm
    have hh : typeHandle Tryd.prog 36 = .pointer (some ⟨2, 36, none⟩) := by kernel_rfl
    rw [hh] at e5
    simpa using World.var?_cell etName e5 0
  have l0 := World.block_lt_of_cell? W _ he
  dsimp only at l0
  exact ⟨⟨a, c', l1⟩, he, l0⟩

def sEd : ByteArray := ⟨#[116, 104, 101, 114, 101, 32, 105, 115, 32, 110, 111, 32, 115, 117, 99, 104, 32, 102, 117, 110, 99, 116, 105, 111, 110, 32, 111, 102, 32, 115, 117, 99, 104, 32, 110, 117, 109, 98, 101, 114, 115]⟩
noncomputable def low : Nat := (World.holding Tryd.prog default ⟨#[], #[], []⟩).heap.size
/-- A WORLD FOR THE WITNESS. -/
noncomputable def laidWorld (os : Os) : World :=
  let w0 := World.holding Tryd.prog os ⟨#[.cells #[.string sEd] 125], #[], []⟩
  let put (h : Array Obj) (g : Nat) (cs : Array Value) : Array Obj := h.modify g fun
    | .cells _ t frozen => .cells cs t frozen
    | o => o
  let h1 := put w0.heap 1 #[.iface 86 (.agg #[.pointer (some ⟨2, 36, none⟩)])]
  let h2 := put h1 0 #[.iface 103 (.pointer (some ⟨low, 0, none⟩))]
  { w0 with heap := h2 }
set_option maxRecDepth 100000 in
theorem laid_met (os : Os) (args : Array Value) : laidMet Tryd.prog [("diaeresis/number.errDomain", Rows.laid_diaeresis_number_errDomain)] ((laidWorld os).forCall (fun _ _ => 0) ⟨#[], args, []⟩).memory :=
  laidMet_of_run' 8 (by kernel_rfl) (by kernel_rfl)
theorem laid_metH (os : Os) (args : Array Value) : laidMetH Tryd.prog Rows.numberBackRow.laid ((laidWorld os).forCall (fun _ _ => 0) ⟨#[], args, []⟩).memory := laidMetH_of_parts (laid_met os args) (by kernel_rfl)
end Go.Proofs.YtjafngieohpdaaaDoor
