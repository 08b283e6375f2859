/- The plain answer of place: what a rune counts; is it a unit; are two lists the same. -/
import Derived.Test.YtaahhilnkffdlaaDoorPlLine
import Derived.Deep.RegionHeld
namespace Go.Proofs.YtaahhilnkffdlaaDoor
open Go Go.RowKit

/-- What a rune of n bytes counts. -/
def sizeOfU (n : Nat) (unit : Int) : Nat := if unit = 1 then n else if unit = 3 ∧ n = 4 then 2 else 1
/-- Is it a unit? -/
def isUnit (unit : Int) : Bool := decide (1 ≤ unit ∧ unit ≤ 3)

set_option maxRecDepth 100000 in
theorem rsize (w : World) (n : Nat) (unit : Int) :
    Calls Tryd.prog 44 #[.int .i64 (n : Int), .int .i64 unit] w fun e W' => e = .returned (.int .i64 (sizeOfU n unit : Int)) ∧ w = W' := by
  by_cases c1 : unit = 1
  · have t1 : (unit == 1) = true := by rw [c1]; rfl
    have hx : sizeOfU n unit = n := by unfold sizeOfU; rw [if_pos c1]
    rw [hx]
    clear hx c1
    go_enter Tryd.func44, Tryd.ntmps44
    go_wp2
    go_ret
    exact ⟨rfl, rfl⟩
  · have t1 : (unit == 1) = false := beq_eq_false_iff_ne.2 c1
    by_cases c2 : unit = 3
    · have t2 : (unit == 3) = true := by rw [c2]; rfl
      by_cases c3 : n = 4
      · have t3 : ((n : Int) == 4) = true := by rw [c3]; rfl
        have hx : sizeOfU n unit = 2 := by unfold sizeOfU; rw [if_neg c1, if_pos ⟨c2, c3⟩]
        rw [hx]
        clear hx c1 c2 c3
        go_enter Tryd.func44, Tryd.ntmps44
        go_wp2
        go_ret
        exact ⟨rfl, rfl⟩
      · have t3 : ((n : Int) == 4) = false := beq_eq_false_iff_ne.2 (by omega)
        have hx : sizeOfU n unit = 1 := by unfold sizeOfU; rw [if_neg c1, if_neg (fun h => c3 h.2)]
        rw [hx]
        clear hx c1 c2 c3
        go_enter Tryd.func44, Tryd.ntmps44
        go_wp2
        go_ret
        exact ⟨rfl, rfl⟩
    · have t2 : (unit == 3) = false := beq_eq_false_iff_ne.2 c2
      have hx : sizeOfU n unit = 1 := by unfold sizeOfU; rw [if_neg c1, if_neg (fun h => c2 h.1)]
      rw [hx]
      clear hx c1 c2
      go_enter Tryd.func44, Tryd.ntmps44
      go_wp2
      go_ret
      exact ⟨rfl, rfl⟩

set_option maxRecDepth 100000 in
theorem ris (w : World) (unit : Int) :
    Calls Tryd.prog 30 #[.int .i64 unit] w fun e W' => e = .returned (.bool (isUnit unit)) ∧ w = W' := by
  by_cases c1 : 1 ≤ unit
  · by_cases c2 : unit ≤ 3
    · rw [show isUnit unit = true from decide_eq_true ⟨c1, c2⟩]
      go_enter Tryd.func30, Tryd.ntmps30
      go_wp2
      go_ret
      exact ⟨rfl, rfl⟩
    · rw [show isUnit unit = false from decide_eq_false (fun h => c2 h.2)]
      go_enter Tryd.func30, Tryd.ntmps30
      go_wp2
      go_ret
      exact ⟨rfl, rfl⟩
  · rw [show isUnit unit = false from decide_eq_false (fun h => c1 h.1)]
    go_enter Tryd.func30, Tryd.ntmps30
    go_wp2
    go_ret
    exact ⟨rfl, rfl⟩

set_option maxHeartbeats 1000000 in
set_option maxRecDepth 100000 in
/-- Ints(a, b), of one list twice. -/
theorem rints_same (w : World) (ba bb : Nat) (va vb : Value) (L : List Nat) (h0 : 0 < L.length) (hL : L.length ≤ 601) (ha : Own w ba va L) (hb : Own w bb vb L) :
    Calls Tryd.prog 16 #[va, vb] w fun e W' => e = .returned (.bool true) ∧ Below w.heap.size w W' := by
  obtain ⟨ga, ca, rfl, _, hga, hca⟩ := own_form ha h0
  obtain ⟨gb, cb, rfl, _, hgb, hcb⟩ := own_form hb h0
  have HCA := Lib.hid hca
  have HCB := Lib.hid hcb
  have HD := Lib.hid (Below.refl w.heap.size w)
  clear hca hcb ha hb
  go_enter Tryd.func16, Tryd.ntmps16
  go_wp2
  go_loopw [5] (fun i wr => ∃ k : Nat, k ≤ L.length ∧ i = .int .i64 k ∧ Below w.heap.size w wr) (fun i _ => L.length - (intOf i).toNat)
  case atStart => exact ⟨0, Nat.zero_le _, rfl, HD.out⟩
  case round =>
    obtain ⟨k, hk, rfl, hB⟩ := hrel
    have HB := Lib.hid hB
    by_cases hlt : k < L.length
    · have e1 : wr.cell? ⟨ga, k, none⟩ = some (.int .i64 ((L.getD k 0 : Nat) : Int)) := by rw [hB.cell (p := ⟨ga, k, none⟩) hga]; exact HCA.out k hlt
      have e2 : wr.cell? ⟨gb, k, none⟩ = some (.int .i64 ((L.getD k 0 : Nat) : Int)) := by rw [hB.cell (p := ⟨gb, k, none⟩) hgb]; exact HCB.out k hlt
      have HN := Lib.hid hB.drew
      clear hB
      go_wp2_with fail
      go_region_held (fun w' => w'.cell? ⟨ga, k, none⟩ = some (.int .i64 ((L.getD k 0 : Nat) : Int)) ∧ w'.cell? ⟨gb, k, none⟩ = some (.int .i64 ((L.getD k 0 : Nat) : Int))) (go_keep) (fail)
      all_goals
        clear e1 e2 HB
        go_wp2
        go_roundw
        case rel => exact ⟨k + 1, by omega, by go_num, HN.out⟩
        case measure => simp [intOf]; omega
    · obtain rfl : k = L.length := by omega
      clear hB
      go_wp2
      go_ret
      exact ⟨rfl, HB.out⟩
end Go.Proofs.YtaahhilnkffdlaaDoor
