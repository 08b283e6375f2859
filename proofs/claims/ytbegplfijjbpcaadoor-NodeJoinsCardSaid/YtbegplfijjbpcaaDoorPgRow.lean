/- A block of cells, whole: what keeps it, what turns it. Nothing of the program stands here. -/
import Derived.Test.YtbegplfijjbpcaaDoorPure
import Derived.RangeFuncNested
import Derived.RangeFuncBound
import Derived.Laws.Rows
import Derived.Laws.Tables
namespace Go.Proofs.YtbegplfijjbpcaaDoor
open Go Go.RowKit

/-- BLOCK k HOLDS the cells cs; nothing of it is frozen. -/
def Row (W : World) (k : Nat) (t : TypeId) (cs : Array Value) : Prop := W.heap[k]? = some (.cells cs t (0, 0))
theorem Row.new (w : World) (t : TypeId) (cs : Array Value) : Row (w.alloc (.cells cs t)) w.heap.size t cs := World.alloc_heap_new w _
theorem Row.at (w : World) (t : TypeId) (cs : Array Value) (k : Nat) (h : w.heap.size = k) : Row (w.alloc (.cells cs t)) k t cs := by subst h; exact Row.new w t cs
theorem Row.lt {W : World} {k : Nat} {t : TypeId} {cs : Array Value} (h : Row W k t cs) : k < W.heap.size := (Array.getElem?_eq_some_iff.1 h).1
theorem Row.alloc {W : World} {k : Nat} {t : TypeId} {cs : Array Value} (h : Row W k t cs) (o : Obj) : Row (W.alloc o) k t cs := (Below.heap_alloc W o k h.lt).trans h
theorem Row.drew {W : World} {k : Nat} {t : TypeId} {cs : Array Value} (h : Row W k t cs) : Row W.drew k t cs := h
theorem Row.below {n : Nat} {W W' : World} {k : Nat} {t : TypeId} {cs : Array Value} (h : Row W k t cs) (hb : Below n W W') (hn : k < n) : Row W' k t cs := (hb.block k hn).trans h
theorem Row.kept {X Y : World} {row : Option Nat} {k : Nat} {cs : Array Value} {t : TypeId} (h : Row X k t cs) (hg : X.grownBy Y row) (hr : ∀ r, row = some r → ∃ o, X.heap[r]? = some o ∧ o.isCells = false) : Row Y k t cs :=
  (hg.block k h.lt (fun e => by
    obtain ⟨o, ho, hc⟩ := hr k e.symm
    rw [show X.heap[k]? = _ from h] at ho; cases ho; cases hc)).trans h
theorem Row.cell {X : World} {k : Nat} {cs : Array Value} {t : TypeId} (h : Row X k t cs) (i : Nat) : X.cell? ⟨k, i, none⟩ = cs[i]? := cell_of_row X k i cs t (0, 0) h
theorem Row.frozen {X : World} {k : Nat} {cs : Array Value} {t : TypeId} (h : Row X k t cs) (i : Nat) : X.frozen? ⟨k, i, none⟩ = false := by
  unfold Row at h
  simp [World.frozen?, h]
theorem Row.other {X : World} {k j i : Nat} {cs : Array Value} {t : TypeId} (h : Row X k t cs) (hne : k ≠ j) (v : Value) : Row (X.setCell ⟨j, i, none⟩ v) k t cs := (Below.heap_setCell X ⟨j, i, none⟩ v k hne).trans h
theorem Row.set {X : World} {k : Nat} {cs : Array Value} {t : TypeId} (h : Row X k t cs) (i : Nat) (v : Value) : Row (X.setCell ⟨k, i, none⟩ v) k t (cs.setIfInBounds i v) := by
  rw [setCell_eq_setRow X k i cs t (0, 0) v h]
  exact setRow_heap X k cs _ t (0, 0) h
theorem Row.keeps {n₀ n₁ : Nat} {W W' : World} (h : Keeps n₀ n₁ W W') {k : Nat} {t : TypeId} {cs : Array Value} (hk : n₁ ≤ k) (hb : Row W k t cs) : Row W' k t cs := h.cells k _ _ _ hk hb
end Go.Proofs.YtbegplfijjbpcaaDoor
