/- The plain answers: their table; does a text begin with another one. -/
import Derived.Test.YtldffmnmofmkaaaDoorGlCalls
import Derived.Test.YtldffmnmofmkaaaDoorGlClass
import Derived.Test.YtldffmnmofmkaaaDoorGlTurn
namespace Go.Proofs.YtldffmnmofmkaaaDoor
open Go Go.RowKit

/-- A digraph's letter. -/
def le (k : Nat) : List UInt8 := (di k).drop 1
theorem le_empty : ∀ k, k < 38 → (le k).isEmpty = (di k).isEmpty := by decide +kernel
theorem le_di : ∀ k, k < 38 → di k ≠ [] → 96 :: le k = di k := by decide +kernel
/-- The table's cells. -/
def tabCells : Array Value := ((List.range 38).flatMap fun k => [Value.string (bs (gl k)), Value.string (bs (le k)), Value.int .i64 ((cl k : Nat) : Int)]).toArray
/-- THE TABLE LIES in block b. -/
def RTab (W : World) (b : Nat) : Prop := Row W b 41 tabCells
theorem cells_len : ∀ n : Nat, ((List.range n).flatMap fun k => [Value.string (bs (gl k)), Value.string (bs (le k)), Value.int .i64 ((cl k : Nat) : Int)]).length = n * 3
  | 0 => rfl
  | n + 1 => by
    rw [List.range_succ, List.flatMap_append, List.length_append, cells_len n]
    simp
    omega
theorem tabCells_at : ∀ k, k < 38 → tabCells[k * 3]? = some (.string (bs (gl k))) ∧ tabCells[k * 3 + 1]? = some (.string (bs (le k))) ∧ tabCells[k * 3 + 2]? = some (.int .i64 ((cl k : Nat) : Int)) := by
  intro k hk
  have h : ∀ (n k : Nat), k < n → ((List.range n).flatMap fun k => [Value.string (bs (gl k)), Value.string (bs (le k)), Value.int .i64 ((cl k : Nat) : Int)])[k * 3]? = some (.string (bs (gl k))) ∧ ((List.range n).flatMap fun k => [Value.string (bs (gl k)), Value.string (bs (le k)), Value.int .i64 ((cl k : Nat) : Int)])[k * 3 + 1]? = some (.string (bs (le k))) ∧ ((List.range n).flatMap fun k => [Value.string (bs (gl k)), Value.string (bs (le k)), Value.int .i64 ((cl k : Nat) : Int)])[k * 3 + 2]? = some (.int .i64 ((cl k : Nat) : Int)) ∧ ((List.range n).flatMap fun k => [Value.string (bs (gl k)), Value.string (bs (le k)), Value.int .i64 ((cl k : Nat) : Int)]).length = n * 3 := by
    intro n
    induction n with
    | zero => intro k hk; omega
    | succ n ih =>
      intro k hk
      have hl := cells_len n
      rw [List.range_succ, List.flatMap_append, List.length_append, hl]
      rcases Nat.lt_or_ge k n with h1 | h1
      · obtain ⟨a1, a2, a3, _⟩ := ih k h1
        rw [List.getElem?_append_left (by omega), List.getElem?_append_left (by omega), List.getElem?_append_left (by omega)]
        exact ⟨a1, a2, a3, by simp; omega⟩
      · obtain rfl : k = n := by omega
        rw [List.getElem?_append_right (by omega), List.getElem?_append_right (by omega), List.getElem?_append_right (by omega), hl]
        refine ⟨by simp, by simp, by simp, by simp; omega⟩
  obtain ⟨a1, a2, a3, _⟩ := h 38 k hk
  unfold tabCells
  simp only [List.getElem?_toArray]
  exact ⟨a1, a2, a3⟩
theorem RTab.at {W : World} {b : Nat} (h : RTab W b) (k : Nat) (hk : k < 38) : W.cell? ⟨b, k * 3, none⟩ = some (.string (bs (gl k))) ∧ W.cell? ⟨b, k * 3 + 1, none⟩ = some (.string (bs (le k))) ∧ W.cell? ⟨b, k * 3 + 2, none⟩ = some (.int .i64 ((cl k : Nat) : Int)) := by
  obtain ⟨a1, a2, a3⟩ := tabCells_at k hk
  have h' : Row W b 41 tabCells := h
  exact ⟨(h'.cell _).trans a1, (h'.cell _).trans a2, (h'.cell _).trans a3⟩

set_option maxRecDepth 100000 in
set_option maxHeartbeats 4000000 in
theorem table_c (w : World) :
    Calls Tryd.prog 25 #[] w fun e W' => e = .returned (.slice (some ⟨w.heap.size, 0, none⟩) 38 38) ∧ W' = w.alloc (.cells tabCells 41) := by
  go_enter Tryd.func25, Tryd.ntmps25
  go_wp2
  go_ret
  exact ⟨rfl, by kernel_rfl⟩

end Go.Proofs.YtldffmnmofmkaaaDoor
