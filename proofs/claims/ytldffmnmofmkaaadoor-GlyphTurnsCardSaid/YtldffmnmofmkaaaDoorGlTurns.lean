/- The statement GlyphTurns, walked. -/
import Derived.Test.YtldffmnmofmkaaaDoorGlPlainU
import Derived.Test.YtldffmnmofmkaaaDoorGlUse
namespace Go.Proofs.YtldffmnmofmkaaaDoor
open Go Go.RowKit

set_option maxHeartbeats 4000000 in
set_option maxRecDepth 100000 in
theorem turns_true (w : World) (hG : Ground w) (s : ByteArray) (hs : s.size ≤ maxLen) :
    Calls Tryd.prog 4 #[.string s] w fun e W' => e = .returned (.bool true) ∧ Below w.heap.size w W' := by
  have HC := fun w => Lib.hid (cut_c s hs w)
  have hxs := cut3_size s
  rw [← cutl_bs] at HC hxs
  obtain ⟨X, hX⟩ : ∃ X, X = cutl s := ⟨_, rfl⟩
  have hX3 : X.length ≤ 300 := by rw [hX]; exact cutl_len s
  rw [← hX] at HC hxs
  clear hX
  have HS := fun w h => Lib.hid (shown_c w h)
  have g1 := fun w h => glyphs_c X (by omega) w h
  have g2 := fun w => rglyphs_c X hX3 w
  have a1 := fun w h => ascii_c X (by omega) w h
  have a2 := fun w => rascii_c X hX3 w
  obtain ⟨x, hx⟩ : ∃ x, x = bs X := ⟨_, rfl⟩
  obtain ⟨gx, hgx⟩ : ∃ x, x = bs (turn gl X 0) := ⟨_, rfl⟩
  obtain ⟨ax, hax⟩ : ∃ x, x = bs (turn ty X 0) := ⟨_, rfl⟩
  rw [← hx] at HC g1 g2 a1 a2 hxs
  rw [← hgx] at g1 g2
  rw [← hax] at a1 a2
  have G1 := fun w h => Lib.hid (g1 w h)
  have G2 := fun w => Lib.hid (g2 w)
  have A1 := fun w h => Lib.hid (a1 w h)
  have A2 := fun w => Lib.hid (a2 w)
  have HG0 := Lib.hid hG
  have HB0 := Lib.hid (Below.refl w.heap.size w)
  clear hG hx hgx hax g1 g2 a1 a2 hX3
  go_enter Tryd.func4, Tryd.ntmps4
  go_wp2_with fail
  refine ((HS _ HG0.out).out).mono ?_
  rintro e w1 ⟨rfl, hb1⟩
  have HG1 := Lib.hid (HG0.out.below hb1)
  have HB1 := Lib.hid (HB0.out.trans (hb1.mono HB0.out.size))
  clear hb1
  go_wp2_with fail
  refine (HC _).out.mono ?_
  rintro e w' ⟨rfl, rfl⟩
  go_wp2_with fail
  refine ((G1 _ HG1.out).out).mono ?_
  rintro e w2 ⟨rfl, hb2⟩
  have HG2 := Lib.hid (HG1.out.below hb2)
  have HB2 := Lib.hid (HB1.out.trans (hb2.mono HB1.out.size))
  clear hb2
  go_wp2_with fail
  refine ((G2 _).out).mono ?_
  rintro e w3 ⟨rfl, hb3⟩
  have HG3 := Lib.hid (HG2.out.below hb3)
  have HB3 := Lib.hid (HB2.out.trans (hb3.mono HB2.out.size))
  clear hb3
  go_wp2_with fail
  refine ((A1 _ HG3.out).out).mono ?_
  rintro e w4 ⟨rfl, hb4⟩
  have HG4 := Lib.hid (HG3.out.below hb4)
  have HB4 := Lib.hid (HB3.out.trans (hb4.mono HB3.out.size))
  clear hb4
  go_wp2_with fail
  refine ((A2 _).out).mono ?_
  rintro e w5 ⟨rfl, hb5⟩
  have HB5 := Lib.hid (HB4.out.trans (hb5.mono HB4.out.size))
  clear hb5
  go_wp2
  go_ret
  exact ⟨rfl, HB5.out⟩
end Go.Proofs.YtldffmnmofmkaaaDoor
