/- number's checks and reckonings, where there is more to them. -/
import Derived.Test.YtjafngieohpdaaaDoorNuChk
namespace Go.Proofs.YtjafngieohpdaaaDoor.Nu
open Go Go.RowKit
attribute [local go_sem] Oper.semAt_some

set_option maxRecDepth 100000 in
set_option maxHeartbeats 2000000 in
theorem holds_7 (x y : Int) (w : World) : Calls Tryd.prog 76 #[pairV x y, .string ⟨#[61]⟩] w fun e w' => e = .returned (.bool (decide (x = y))) ∧ Below w.heap.size w w' := by
  have HB := Lib.hid ((Below.refl w.heap.size w).alloc (Nat.le_refl _) (.cells #[.int .i64 x, .int .i64 y] 41))
  rcases Int.lt_trichotomy x y with h | h | h
  · have t1 : (x == y) = false := by simp; omega
    have t2 : (x != y) = true := by simp; omega
    have t3 : decide (x < y) = true := by simp [h]
    have t4 : decide (y < x) = false := by simp; omega
    have he : decide (x = y) = false := by simp; omega
    rw [he]
    clear he h
    go_enter Tryd.func76, Tryd.ntmps76
    go_wp2
    go_ret
    exact ⟨rfl, HB.out⟩
  · have t1 : (x == y) = true := by simp [h]
    have t2 : (x != y) = false := by simp [h]
    have t3 : decide (x < y) = false := by simp; omega
    have t4 : decide (y < x) = false := by simp; omega
    have he : decide (x = y) = true := by simp; omega
    rw [he]
    clear he h
    go_enter Tryd.func76, Tryd.ntmps76
    go_wp2
    go_ret
    exact ⟨rfl, HB.out⟩
  · have t1 : (x == y) = false := by simp; omega
    have t2 : (x != y) = true := by simp; omega
    have t3 : decide (x < y) = false := by simp; omega
    have t4 : decide (y < x) = true := by simp [h]
    have he : decide (x = y) = false := by simp; omega
    rw [he]
    clear he h
    go_enter Tryd.func76, Tryd.ntmps76
    go_wp2
    go_ret
    exact ⟨rfl, HB.out⟩
set_option maxRecDepth 100000 in
set_option maxHeartbeats 2000000 in
theorem holds_8 (x y : Int) (w : World) : Calls Tryd.prog 76 #[pairV x y, .string ⟨#[226, 137, 160]⟩] w fun e w' => e = .returned (.bool (decide (x ≠ y))) ∧ Below w.heap.size w w' := by
  have HB := Lib.hid ((Below.refl w.heap.size w).alloc (Nat.le_refl _) (.cells #[.int .i64 x, .int .i64 y] 41))
  rcases Int.lt_trichotomy x y with h | h | h
  · have t1 : (x == y) = false := by simp; omega
    have t2 : (x != y) = true := by simp; omega
    have t3 : decide (x < y) = true := by simp [h]
    have t4 : decide (y < x) = false := by simp; omega
    have he : decide (x ≠ y) = true := by simp; omega
    rw [he]
    clear he h
    go_enter Tryd.func76, Tryd.ntmps76
    go_wp2
    go_ret
    exact ⟨rfl, HB.out⟩
  · have t1 : (x == y) = true := by simp [h]
    have t2 : (x != y) = false := by simp [h]
    have t3 : decide (x < y) = false := by simp; omega
    have t4 : decide (y < x) = false := by simp; omega
    have he : decide (x ≠ y) = false := by simp; omega
    rw [he]
    clear he h
    go_enter Tryd.func76, Tryd.ntmps76
    go_wp2
    go_ret
    exact ⟨rfl, HB.out⟩
  · have t1 : (x == y) = false := by simp; omega
    have t2 : (x != y) = true := by simp; omega
    have t3 : decide (x < y) = false := by simp; omega
    have t4 : decide (y < x) = true := by simp [h]
    have he : decide (x ≠ y) = true := by simp; omega
    rw [he]
    clear he h
    go_enter Tryd.func76, Tryd.ntmps76
    go_wp2
    go_ret
    exact ⟨rfl, HB.out⟩
set_option maxRecDepth 100000 in
set_option maxHeartbeats 2000000 in
theorem holds_9 (x y : Int) (w : World) : Calls Tryd.prog 76 #[pairV x y, .string ⟨#[60]⟩] w fun e w' => e = .returned (.bool (decide (x < y))) ∧ Below w.heap.size w w' := by
  have HB := Lib.hid ((Below.refl w.heap.size w).alloc (Nat.le_refl _) (.cells #[.int .i64 x, .int .i64 y] 41))
  rcases Int.lt_trichotomy x y with h | h | h
  · have t1 : (x == y) = false := by simp; omega
    have t2 : (x != y) = true := by simp; omega
    have t3 : decide (x < y) = true := by simp [h]
    have t4 : decide (y < x) = false := by simp; omega
    have he : decide (x < y) = true := by simp; omega
    rw [he]
    clear he h
    go_enter Tryd.func76, Tryd.ntmps76
    go_wp2
    go_ret
    exact ⟨rfl, HB.out⟩
  · have t1 : (x == y) = true := by simp [h]
    have t2 : (x != y) = false := by simp [h]
    have t3 : decide (x < y) = false := by simp; omega
    have t4 : decide (y < x) = false := by simp; omega
    have he : decide (x < y) = false := by simp; omega
    rw [he]
    clear he h
    go_enter Tryd.func76, Tryd.ntmps76
    go_wp2
    go_ret
    exact ⟨rfl, HB.out⟩
  · have t1 : (x == y) = false := by simp; omega
    have t2 : (x != y) = true := by simp; omega
    have t3 : decide (x < y) = false := by simp; omega
    have t4 : decide (y < x) = true := by simp [h]
    have he : decide (x < y) = false := by simp; omega
    rw [he]
    clear he h
    go_enter Tryd.func76, Tryd.ntmps76
    go_wp2
    go_ret
    exact ⟨rfl, HB.out⟩
set_option maxRecDepth 100000 in
set_option maxHeartbeats 2000000 in
theorem holds_10 (x y : Int) (w : World) : Calls Tryd.prog 76 #[pairV x y, .string ⟨#[62]⟩] w fun e w' => e = .returned (.bool (decide (y < x))) ∧ Below w.heap.size w w' := by
  have HB := Lib.hid ((Below.refl w.heap.size w).alloc (Nat.le_refl _) (.cells #[.int .i64 x, .int .i64 y] 41))
  rcases Int.lt_trichotomy x y with h | h | h
  · have t1 : (x == y) = false := by simp; omega
    have t2 : (x != y) = true := by simp; omega
    have t3 : decide (x < y) = true := by simp [h]
    have t4 : decide (y < x) = false := by simp; omega
    have he : decide (y < x) = false := by simp; omega
    rw [he]
    clear he h
    go_enter Tryd.func76, Tryd.ntmps76
    go_wp2
    go_ret
    exact ⟨rfl, HB.out⟩
  · have t1 : (x == y) = true := by simp [h]
    have t2 : (x != y) = false := by simp [h]
    have t3 : decide (x < y) = false := by simp; omega
    have t4 : decide (y < x) = false := by simp; omega
    have he : decide (y < x) = false := by simp; omega
    rw [he]
    clear he h
    go_enter Tryd.func76, Tryd.ntmps76
    go_wp2
    go_ret
    exact ⟨rfl, HB.out⟩
  · have t1 : (x == y) = false := by simp; omega
    have t2 : (x != y) = true := by simp; omega
    have t3 : decide (x < y) = false := by simp; omega
    have t4 : decide (y < x) = true := by simp [h]
    have he : decide (y < x) = true := by simp; omega
    rw [he]
    clear he h
    go_enter Tryd.func76, Tryd.ntmps76
    go_wp2
    go_ret
    exact ⟨rfl, HB.out⟩
set_option maxRecDepth 100000 in
set_option maxHeartbeats 2000000 in
theorem holds_11 (x y : Int) (w : World) : Calls Tryd.prog 76 #[pairV x y, .string ⟨#[226, 137, 164]⟩] w fun e w' => e = .returned (.bool (decide (x ≤ y))) ∧ Below w.heap.size w w' := by
  have HB := Lib.hid ((Below.refl w.heap.size w).alloc (Nat.le_refl _) (.cells #[.int .i64 x, .int .i64 y] 41))
  rcases Int.lt_trichotomy x y with h | h | h
  · have t1 : (x == y) = false := by simp; omega
    have t2 : (x != y) = true := by simp; omega
    have t3 : decide (x < y) = true := by simp [h]
    have t4 : decide (y < x) = false := by simp; omega
    have he : decide (x ≤ y) = true := by simp; omega
    rw [he]
    clear he h
    go_enter Tryd.func76, Tryd.ntmps76
    go_wp2
    go_ret
    exact ⟨rfl, HB.out⟩
  · have t1 : (x == y) = true := by simp [h]
    have t2 : (x != y) = false := by simp [h]
    have t3 : decide (x < y) = false := by simp; omega
    have t4 : decide (y < x) = false := by simp; omega
    have he : decide (x ≤ y) = true := by simp; omega
    rw [he]
    clear he h
    go_enter Tryd.func76, Tryd.ntmps76
    go_wp2
    go_ret
    exact ⟨rfl, HB.out⟩
  · have t1 : (x == y) = false := by simp; omega
    have t2 : (x != y) = true := by simp; omega
    have t3 : decide (x < y) = false := by simp; omega
    have t4 : decide (y < x) = true := by simp [h]
    have he : decide (x ≤ y) = false := by simp; omega
    rw [he]
    clear he h
    go_enter Tryd.func76, Tryd.ntmps76
    go_wp2
    go_ret
    exact ⟨rfl, HB.out⟩
set_option maxRecDepth 100000 in
set_option maxHeartbeats 2000000 in
theorem holds_12 (x y : Int) (w : World) : Calls Tryd.prog 76 #[pairV x y, .string ⟨#[226, 137, 165]⟩] w fun e w' => e = .returned (.bool (decide (y ≤ x))) ∧ Below w.heap.size w w' := by
  have HB := Lib.hid ((Below.refl w.heap.size w).alloc (Nat.le_refl _) (.cells #[.int .i64 x, .int .i64 y] 41))
  rcases Int.lt_trichotomy x y with h | h | h
  · have t1 : (x == y) = false := by simp; omega
    have t2 : (x != y) = true := by simp; omega
    have t3 : decide (x < y) = true := by simp [h]
    have t4 : decide (y < x) = false := by simp; omega
    have he : decide (y ≤ x) = false := by simp; omega
    rw [he]
    clear he h
    go_enter Tryd.func76, Tryd.ntmps76
    go_wp2
    go_ret
    exact ⟨rfl, HB.out⟩
  · have t1 : (x == y) = true := by simp [h]
    have t2 : (x != y) = false := by simp [h]
    have t3 : decide (x < y) = false := by simp; omega
    have t4 : decide (y < x) = false := by simp; omega
    have he : decide (y ≤ x) = true := by simp; omega
    rw [he]
    clear he h
    go_enter Tryd.func76, Tryd.ntmps76
    go_wp2
    go_ret
    exact ⟨rfl, HB.out⟩
  · have t1 : (x == y) = false := by simp; omega
    have t2 : (x != y) = true := by simp; omega
    have t3 : decide (x < y) = false := by simp; omega
    have t4 : decide (y < x) = true := by simp [h]
    have he : decide (y ≤ x) = true := by simp; omega
    rw [he]
    clear he h
    go_enter Tryd.func76, Tryd.ntmps76
    go_wp2
    go_ret
    exact ⟨rfl, HB.out⟩
end Go.Proofs.YtjafngieohpdaaaDoor.Nu
