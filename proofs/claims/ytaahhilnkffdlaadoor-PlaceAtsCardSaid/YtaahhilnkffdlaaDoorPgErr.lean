/- What is wrong, in place: its two faults, and their numbers. -/
import Derived.Test.YtaahhilnkffdlaaDoorPgAs
namespace Go.Proofs.YtaahhilnkffdlaaDoor
open Go Go.RowKit

/-- The words of the two faults. -/
def wordsP : ByteArray := ⟨#[116, 104, 101, 114, 101, 32, 105, 115, 32, 110, 111, 32, 115, 117, 99, 104, 32, 112, 108, 97, 99, 101]⟩
def wordsU : ByteArray := ⟨#[116, 104, 101, 114, 101, 32, 105, 115, 32, 110, 111, 32, 115, 117, 99, 104, 32, 117, 110, 105, 116]⟩
/-- A fault as an error. -/
abbrev faultV (n : Int) (s : ByteArray) : Value := .iface 76 (.agg #[.int .i64 n, .string s])

set_option maxRecDepth 100000 in
theorem noPlace_c (w : World) : Calls Tryd.prog 38 #[] w fun e w' => e = .returned (faultV 20 wordsP) ∧ w = w' := by
  go_enter Tryd.func38, Tryd.ntmps38
  go_wp2
  go_ret
  exact ⟨rfl, rfl⟩
set_option maxRecDepth 100000 in
theorem noUnit_c (w : World) : Calls Tryd.prog 48 #[] w fun e w' => e = .returned (faultV 2 wordsU) ∧ w = w' := by
  go_enter Tryd.func48, Tryd.ntmps48
  go_wp2
  go_ret
  exact ⟨rfl, rfl⟩

set_option maxRecDepth 100000 in
theorem number_nil (w : World) : Calls Tryd.prog 24 #[.nilIface] w fun e w' => e = .returned (.int .i64 0) ∧ Below w.heap.size w w' := by
  go_enter Tryd.func24, Tryd.ntmps24
  go_wp2_with (go_at_call 39; refine (as_nil _ _).mono ?_; rintro e w' ⟨rfl, rfl⟩)
  go_ret
  exact ⟨rfl, (Below.refl _ _).alloc (Nat.le_refl _) _⟩
set_option maxRecDepth 100000 in
theorem number_fault (n : Int) (s : ByteArray) (w : World) (hg : ErrT w) : Calls Tryd.prog 24 #[faultV n s] w fun e w' => e = .returned (.int .i64 n) ∧ Below w.heap.size w w' := by
  have hc := as_hit w.heap.size n 0 s ⟨#[]⟩ (w.alloc (.cells #[.int .i64 0, .string ⟨#[]⟩] 76)) (hg.below ((Below.refl (0 + 1) w).alloc hg.2 _) (by omega)) (World.alloc_heap_new w _)
  have HC := Lib.hid hc
  clear hc
  go_enter Tryd.func24, Tryd.ntmps24
  go_wp2_with (go_at_call 39; refine HC.out.mono ?_; rintro e w1 ⟨rfl, hc1, hb1⟩)
  have HB := Lib.hid hb1
  clear hb1
  go_ret
  exact ⟨rfl, ((Below.refl _ w).alloc (Nat.le_refl _) _).trans HB.out⟩
end Go.Proofs.YtaahhilnkffdlaaDoor
