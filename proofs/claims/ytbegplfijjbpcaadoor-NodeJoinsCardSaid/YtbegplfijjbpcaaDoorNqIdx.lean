/- The program: slices.Index of a truth; a tree's root. -/
import Derived.Test.YtbegplfijjbpcaaDoorNqTake
namespace Go.Proofs.YtbegplfijjbpcaaDoor.No
open Go Go.RowKit Go.Shelf
attribute [local go_sem] Oper.semAt_some

/-- The first one that is true, or none is. -/
def FirstT (L : List Bool) (r : Int) : Prop := (∃ i : Nat, r = (i : Int) ∧ L[i]? = some true ∧ ∀ j, j < i → L[j]? = some false) ∨ (r = -1 ∧ ∀ j, j < L.length → L[j]? = some false)

set_option maxRecDepth 100000 in
set_option maxHeartbeats 4000000 in
/-- slices.Index(free, true). -/
theorem index_c (w : World) (g cap n : Nat) (L : List Bool) (hR : Row w g 4 (bools L)) (hn : L.length = n) (hl : n ≤ 1000) :
    Calls Tryd.prog 49 #[.slice (some ⟨g, 0, none⟩) n cap, .bool true] w fun e W' => (∃ r, e = .returned (.int .i64 r) ∧ FirstT L r) ∧ W' = w := by
  have HR := Lib.hid hR
  have HN := Lib.hid hn
  clear hR hn
  go_enter Tryd.func49, Tryd.ntmps49
  go_wp2
  go_loopw [8] (fun i wr => ∃ k : Nat, k ≤ n ∧ i = .int .i64 k ∧ wr = w ∧ ∀ j, j < k → L[j]? = some false) (fun i _ => n - (intOf i).toNat)
  case atStart => exact ⟨0, Nat.zero_le _, rfl, rfl, fun j hj => by omega⟩
  case round =>
    obtain ⟨k, hk, rfl, rfl, hall⟩ := hrel
    have HALL := Lib.hid hall
    clear hall
    by_cases hlt : k < n
    · obtain ⟨b, hb⟩ : ∃ b, L[k]? = some b := ⟨_, List.getElem?_eq_getElem (by rw [HN.out]; exact hlt)⟩
      have e1 : wr.cell? ⟨g, k, none⟩ = some (.bool b) := (HR.out.cell k).trans (bools_at hb)
      have HB := Lib.hid hb
      clear hb
      cases b with
      | false =>
        go_wp2
        go_roundw
        case rel =>
          refine ⟨k + 1, by omega, by go_num, trivial, fun j hj => ?_⟩
          rcases Nat.lt_or_ge j k with h1 | h1
          · exact HALL.out j h1
          · obtain rfl : j = k := by omega
            exact HB.out
        case measure => simp [intOf]; omega
      | true =>
        go_wp2
        go_ret
        exact ⟨⟨_, rfl, .inl ⟨k, rfl, HB.out, HALL.out⟩⟩, rfl⟩
    · obtain rfl : k = n := by omega
      go_wp2
      go_ret
      exact ⟨⟨_, rfl, .inr ⟨rfl, fun j hj => HALL.out j (by rw [HN.out] at hj; exact hj)⟩⟩, rfl⟩

set_option maxRecDepth 100000 in
/-- root(). -/
theorem root_c (w : World) (a : Option Addr) (n c : Nat) (hn : n ≤ 9223372036854775807) :
    Calls Tryd.prog 31 #[.agg #[.slice a n c]] w fun e W' => e = .returned (.int .i64 ((n : Int) - 1)) ∧ W' = w.alloc (.cells #[.slice a n c] 47) := by
  go_enter Tryd.func31, Tryd.ntmps31
  go_wp2
  go_ret
  exact ⟨rfl, rfl⟩
end Go.Proofs.YtbegplfijjbpcaaDoor.No
