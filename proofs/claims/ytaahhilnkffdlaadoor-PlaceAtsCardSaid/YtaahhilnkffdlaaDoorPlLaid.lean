/- What the rows' list gives: the library's tables, the type of errors; a world that holds them. -/
import Derived.Test.YtaahhilnkffdlaaDoorPgOrd
import Derived.Test.YtaahhilnkffdlaaDoorRows
import Derived.Test.YtaahhilnkffdlaaDoorCards
import Derived.Test.YtaahhilnkffdlaaDoorTie
import Derived.ProofKit
import Derived.OpenShut
import Derived.LaidSub
import Derived.LaidHandle
import Derived.LaidLaws
import Derived.RowKitTokens
import Derived.PinnedBridge
import Derived.Lib.LaidU8
import Derived.Stop.LaidTwo
import Derived.Deep.DeepHandedRow
import Derived.Deep.DeepWitnessRowRef
import Derived.Lib.LaidTab
namespace Go.Proofs.YtaahhilnkffdlaaDoor
open Go Go.ChangeShapes Go.WideShapes Go.ChangeAt Go.RowKit

theorem own : ownKnob Tryd.prog.godebug = none := by kernel_rfl
theorem etName : Tryd.prog.globalNamed "errors.errorType" = some 0 := by kernel_rfl
theorem rtName : (Tryd.prog.cutTypes.find? (·.1 == "internal/reflectlite.rtype")).map (·.2) = some 104 := by kernel_rfl
theorem oneRow : ((List.range Tryd.prog.types.size).filter fun t => Tryd.prog.rowNamed t [101, 114, 114, 111, 114]) = [43] := by kernel_rfl

theorem accept_eq : Rows.laid_unicode_utf8_acceptRanges (H := Unit) = Lib.acceptData := by kernel_rfl

theorem ground_of_laid {W : World} (h : laidMetH Tryd.prog Rows.placeLinesRow.laid W) : Ground W := by
  have h0 := laidMetH_iff.1 h
  have h1 : laidMet Tryd.prog [("unicode/utf8.acceptRanges", Rows.laid_unicode_utf8_acceptRanges), ("unicode/utf8.first", Rows.laid_unicode_utf8_first)] W := h0.1
  have h2 : handlesMet Tryd.prog [("errors.errorType", Rows.laid_errors_errorType)] W := h0.2
  have ht : Tabs W := utf8Tabs_of_reads (ρ := Tryd.lays260_ren) Tryd.lays260 ⟨by kernel_rfl, by kernel_rfl, by kernel_rfl, by kernel_rfl, by kernel_rfl, by kernel_rfl, by kernel_rfl⟩
    (Pinned.utf8First_eq ▸ Lib.laidMet.reads h1 (.tail _ (.head _))) (accept_eq ▸ Lib.laidMet.reads h1 (.head _))
  have he : W.cell? ⟨0, 0, none⟩ = some (.iface 104 (.agg #[.pointer (some ⟨4, 43, none⟩)])) := by
    obtain ⟨name, u, ty, e1, e2, e3, e4, e5⟩ := h2 _ (List.mem_singleton.2 rfl)
    have en : name = [101, 114, 114, 111, 114] := (Option.some.inj e1).symm
    subst en
    obtain rfl := Option.some.inj (rtName.symm.trans e2)
    have hm : ty ∈ (List.range Tryd.prog.types.size).filter fun t => Tryd.prog.rowNamed t [101, 114, 114, 111, 114] := List.mem_filter.2 ⟨List.mem_range.2 e3, e4⟩
    rw [oneRow] at hm
    obtain rfl := List.mem_singleton.1 hm
    have hh : typeHandle Tryd.prog 43 = .pointer (some ⟨4, 43, none⟩) := by kernel_rfl
    rw [hh] at e5
    simpa using World.var?_cell etName e5 0
  have hg3 := ht.2 0 (by omega)
  have l3 := World.block_lt_of_cell? W _ hg3.1
  have l0 := World.block_lt_of_cell? W _ he
  dsimp only at l0 l3
  exact ⟨ht, ⟨he, l0⟩, by omega⟩

/-- A WORLD FOR THE WITNESS. -/
noncomputable def laidWorld (os : Os) : World :=
  let w0 := World.holding Tryd.prog os ⟨#[], #[], []⟩
  let put (h : Array Obj) (g : Nat) (cs : Array Value) : Array Obj := h.modify g fun
    | .cells _ t frozen => .cells cs t frozen
    | o => o
  let h1 := put w0.heap 2 (Lib.firstTab.map fun z => Value.int .u8 z).toArray
  let h2 := put h1 3 ((List.range 16).flatMap fun i => [Value.int .u8 (Lib.accLo i), Value.int .u8 (Lib.accHi i)]).toArray
  let h3 := put h2 0 #[.iface 104 (.agg #[.pointer (some ⟨4, 43, none⟩)])]
  { w0 with heap := h3 }
theorem laid_metH (os : Os) (args : Array Value) : laidMetH Tryd.prog Rows.placeLinesRow.laid ((laidWorld os).forCall (fun _ _ => 0) ⟨#[], args, []⟩).memory := by
  refine laidMetH_of_parts ?_ (by kernel_rfl)
  have h := (LaidIn.of_run (P := Tryd.prog) (l := [("unicode/utf8.acceptRanges", Lib.acceptData), ("unicode/utf8.first", Lib.firstData)]) (w := ((laidWorld os).forCall (fun _ _ => 0) ⟨#[], args, []⟩).memory) [3, 2] 8 (by kernel_rfl) (by kernel_rfl) (by kernel_rfl) (by kernel_rfl)).met
  rw [← accept_eq, ← Pinned.utf8First_eq] at h
  exact h
end Go.Proofs.YtaahhilnkffdlaaDoor
