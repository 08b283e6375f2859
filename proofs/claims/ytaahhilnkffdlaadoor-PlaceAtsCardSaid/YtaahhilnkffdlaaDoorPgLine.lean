/- place.Line: a line's bytes. -/
import Derived.Test.YtaahhilnkffdlaaDoorPgText
namespace Go.Proofs.YtaahhilnkffdlaaDoor
open Go Go.RowKit

set_option maxRecDepth 100000 in
theorem clone_c (s : ByteArray) (hs : s.size ≤ 600) (w : World) : Calls Tryd.prog 25 #[.string s] w fun e w' => e = .returned (.string s) ∧ Below w.heap.size w w' := by
  have hc := Tryd.stringslite_Clone s w (by omega)
  have HC := Lib.hid hc
  clear hc
  go_enter Tryd.func25, Tryd.ntmps25
  go_wp2_with (go_at_call 40; refine HC.out.mono ?_; rintro e w' ⟨rfl, hb⟩)
  have HB := Lib.hid hb
  clear hb
  go_ret
  exact ⟨rfl, HB.out⟩

theorem line_at (s : ByteArray) (hs : s.size ≤ 600) (k a b : Nat) (hk : k < nlines s.data.toList) (ha : a = lineAt s.data.toList k) (hb : b = lineEnd s.data.toList k) (w : World) :
    Calls Tryd.prog 23 #[.agg #[.string s], .int .i64 (k : Int)] w fun e W' => e = .returned (.tuple #[.agg #[.int .i64 (a : Int), .int .i64 (b : Int)], .nilIface]) ∧ Below w.heap.size w W' := by
  have := line_c s hs (k : Int) w
  rw [lineOut_ok rfl hk, ← ha, ← hb] at this
  exact this
theorem line_none (s : ByteArray) (hs : s.size ≤ 600) (n : Int) (hn : n < 0 ∨ (nlines s.data.toList : Int) ≤ n) (w : World) :
    Calls Tryd.prog 23 #[.agg #[.string s], .int .i64 n] w fun e W' => e = .returned (.tuple #[.agg #[.int .i64 0, .int .i64 0], faultV 20 wordsP]) ∧ Below w.heap.size w W' := by
  have := line_c s hs n w
  rw [lineOut_no (fun k hk => by omega)] at this
  exact this

set_option maxHeartbeats 1000000 in
set_option maxRecDepth 100000 in
/-- Line, where there is such a line. -/
theorem pline_ok (s : ByteArray) (hs : s.size ≤ 600) (k : Nat) (hk : k < nlines s.data.toList) (w : World) :
    Calls Tryd.prog 12 #[.string s, .int .i64 (k : Int)] w fun e W' => e = .returned (.tuple #[.string (s.extract (lineAt s.data.toList k) (lineEnd s.data.toList k)), .int .i64 0]) ∧ Below w.heap.size w W' := by
  obtain ⟨a, ha⟩ : ∃ a, a = lineAt s.data.toList k := ⟨_, rfl⟩
  obtain ⟨b, hb⟩ : ∃ b, b = lineEnd s.data.toList k := ⟨_, rfl⟩
  have hab : a ≤ b := by rw [ha, hb]; exact lineAt_lineEnd _ _ hk
  have hbs : b ≤ s.size := by rw [hb, Lib.size_eq]; exact lineEnd_le _ _
  have HL := fun w => Lib.hid (line_at s hs k a b hk ha hb w)
  rw [← ha, ← hb]
  have hcl : ∀ w, Hid (Calls Tryd.prog 25 #[.string (s.extract a b)] w fun e w' => e = .returned (.string (s.extract a b)) ∧ Below w.heap.size w w') := fun w => Lib.hid (clone_c (s.extract a b) (by rw [ByteArray.size_extract]; omega) w)
  clear ha hb
  go_enter Tryd.func12, Tryd.ntmps12
  go_wp2_with (go_at_call 23; refine (HL _).out.mono ?_; rintro e w1 ⟨rfl, hb1⟩; have HB1 := Lib.hid hb1; clear hb1)
  refine (hcl _).out.mono ?_
  rintro e w2 ⟨rfl, hb2⟩
  have HB2 := Lib.hid (hb2.mono (show w.heap.size ≤ _ by rw [World.size_alloc]; exact Nat.le_succ_of_le HB1.out.size))
  clear hb2
  go_wp2
  go_ret2
  exact ⟨rfl, (HB1.out.alloc HB1.out.size _).trans HB2.out⟩

set_option maxHeartbeats 1000000 in
set_option maxRecDepth 100000 in
/-- Line, where there is none. -/
theorem pline_no (s : ByteArray) (hs : s.size ≤ 600) (n : Int) (hn : n < 0 ∨ (nlines s.data.toList : Int) ≤ n) (w : World) (hT : ErrT w) :
    Calls Tryd.prog 12 #[.string s, .int .i64 n] w fun e W' => e = .returned (.tuple #[.string ⟨#[]⟩, .int .i64 20]) ∧ Below w.heap.size w W' := by
  have HL := fun w => Lib.hid (line_none s hs n hn w)
  have HT := Lib.hid hT
  clear hn hT
  go_enter Tryd.func12, Tryd.ntmps12
  go_wp2_with (go_at_call 23; refine (HL _).out.mono ?_; rintro e w1 ⟨rfl, hb1⟩; have HB1 := Lib.hid hb1; clear hb1)
  have HB2 := Lib.hid (HB1.out.alloc (o := .cells #[.int .i64 0, .int .i64 0] 41) HB1.out.size)
  refine (number_fault 20 wordsP _ (HT.out.below HB2.out HT.out.2)).mono ?_
  rintro e w2 ⟨rfl, hb2⟩
  have HB3 := Lib.hid (hb2.mono HB2.out.size)
  clear hb2
  go_wp2
  go_ret2
  exact ⟨rfl, HB2.out.trans HB3.out⟩
end Go.Proofs.YtaahhilnkffdlaaDoor
