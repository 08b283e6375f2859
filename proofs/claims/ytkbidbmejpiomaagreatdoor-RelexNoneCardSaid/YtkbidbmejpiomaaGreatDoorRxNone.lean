/- The statement RelexNone, as a call. -/
import Derived.Test.YtkbidbmejpiomaaGreatDoorRyE
import Derived.Test.YtkbidbmejpiomaaGreatDoorRyF
namespace Go.Proofs.YtkbidbmejpiomaaGreatDoor
open Go Go.RowKit Go.Shelf
attribute [local go_sem] Oper.semAt_some

set_option maxRecDepth 100000 in
set_option maxHeartbeats 4000000 in
theorem none_true (w : World) (hG : RG w.heap.size w) (x0 x1 : Int) (x2 : ByteArray) (_ : x2.size ≤ maxLen) (x3 : Int) :
    Calls Tryz.prog 7 #[.int .i64 x0, .int .i64 x1, .string x2, .int .i64 x3] w fun e W' => e = .returned (.bool true) ∧ Below w.heap.size w W' := by
  have HSH := Lib.hid (shown_c w hG)
  obtain ⟨s, hs⟩ : ∃ s, s = cut x2 := ⟨_, rfl⟩
  have hcut := fun W => cut_any W x2
  rw [← hs] at hcut
  have HCUT := Lib.hid hcut
  clear hG hs hcut
  go_enter Tryz.func7, Tryz.ntmps7
  go_wp2_with fail
  refine HSH.out.mono ?_
  rintro e w1 ⟨rfl, hb1⟩
  have B1 := Lib.hid hb1
  clear hb1
  go_wp2_with fail
  refine (HCUT.out _).mono ?_
  rintro e w2 ⟨rfl, rfl⟩
  go_wp2_with fail
  refine (splice_nil _ _ _ _).mono ?_
  rintro e w2 ⟨rfl, hb2⟩
  have B2 := Lib.hid (B1.out.trans (hb2.mono B1.out.size))
  clear hb2
  have hal : ∀ o, Below w.heap.size w (w2.alloc o) := fun o => B2.out.alloc B2.out.size o
  have HAL := Lib.hid hal
  clear hal
  go_wp2_with fail
  refine (xtokens_nil _).mono ?_
  rintro e w3 ⟨rfl, hb3⟩
  have B3 := Lib.hid ((HAL.out _).trans (hb3.mono (HAL.out _).size))
  clear hb3
  go_wp2_with fail
  refine (xline_nil _ _).mono ?_
  rintro e w4 ⟨rfl, hb4⟩
  have B4 := Lib.hid (B3.out.trans (hb4.mono B3.out.size))
  clear hb4
  go_wp2_with fail
  refine (xlines_nil _).mono ?_
  rintro e w5 ⟨rfl, hb5⟩
  have B5 := Lib.hid (B4.out.trans (hb5.mono B4.out.size))
  clear hb5
  go_wp2_with fail
  refine (xtext_nil _).mono ?_
  rintro e w6 ⟨rfl, hb6⟩
  have B6 := Lib.hid (B5.out.trans (hb6.mono B5.out.size))
  clear hb6
  go_wp2_with fail
  refine (lexed_nil _).mono ?_
  rintro e w7 ⟨rfl, hb7⟩
  have B7 := Lib.hid (B6.out.trans (hb7.mono B6.out.size))
  clear hb7
  go_wp2_with fail
  go_ret
  exact ⟨rfl, B7.out⟩
end Go.Proofs.YtkbidbmejpiomaaGreatDoor
