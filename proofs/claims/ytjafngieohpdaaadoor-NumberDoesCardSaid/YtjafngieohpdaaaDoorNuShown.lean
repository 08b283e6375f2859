/- What the laws begin with: shown; calls at given numbers (by wip/gen/mknulaws.py). -/
import Derived.Test.YtjafngieohpdaaaDoorNuDy
namespace Go.Proofs.YtjafngieohpdaaaDoor.Nu
open Go Go.RowKit Go.Shelf
attribute [local go_sem] Oper.semAt_some

theorem dy_at (k : Nat) (g : ByteArray) (hg : whichD g = k) (x y : Int) (hx : In x) (hy : In y) (s e : Int) (hN : dyN k x y = (s, e)) (w : World) (h : NG w) : Calls Tryd.prog 11 #[.string g, .int .i64 x, .int .i64 y] w fun v w' => v = .returned (.tuple #[.int .i64 s, .int .i64 e]) ∧ Below w.heap.size w w' := by
  have hc := dy_c g x y hx hy w h
  rw [hg, hN] at hc
  exact hc
theorem mon_at (k : Nat) (g : ByteArray) (hg : whichM g = k) (y : Int) (hy : In y) (s e : Int) (hN : monN k y = (s, e)) (w : World) (h : NG w) : Calls Tryd.prog 13 #[.string g, .int .i64 y] w fun v w' => v = .returned (.tuple #[.int .i64 s, .int .i64 e]) ∧ Below w.heap.size w w' := by
  have hc := mon_c g y hy w h
  rw [hg, hN] at hc
  exact hc
theorem ovr_in (n : Int) : In (ovr n).1 := by unfold ovr; split <;> omega
theorem divR_in (x y : Int) : In (divR x y).1 := by
  unfold divR
  split
  · split <;> decide
  · split
    · exact ovr_in _
    · decide
theorem bitsR_in (x y n : Int) (hn : In n) : In (bitsR x y n).1 := by
  unfold bitsR
  split
  · exact hn
  · decide
theorem bit_in (b : Bool) : In (bit b) := by cases b <;> decide
theorem fmod_in (x y : Int) (hx : x ≠ 0) (h : In x) : In (y.fmod x) := by
  rcases Int.lt_or_lt_of_ne hx with hn | hp
  · have h1 := Int.fmod_nonneg_of_pos (-y) (show 0 < -x by omega)
    have h2 := Int.fmod_lt_of_pos (-y) (show 0 < -x by omega)
    rw [Int.neg_fmod_neg] at h1 h2
    omega
  · have h1 := Int.fmod_nonneg_of_pos y hp
    have h2 := Int.fmod_lt_of_pos y hp
    omega
theorem resR_in (x y : Int) (hx : In x) (hy : In y) : In (resR x y) := by
  unfold resR
  split
  · exact hy
  · rename_i h
    exact fmod_in x y h hx
theorem dyN_in (k : Nat) (x y : Int) (hx : In x) (hy : In y) : In (dyN k x y).1 := by
  match k with
  | 0 => exact ovr_in _
  | 1 => exact ovr_in _
  | 2 => exact ovr_in _
  | 3 => exact divR_in x y
  | 4 => show In (max x y); omega
  | 5 => show In (min x y); omega
  | 6 => exact resR_in x y hx hy
  | 7 | 8 | 9 | 10 | 11 | 12 => exact bit_in _
  | 13 => exact bitsR_in x y _ (by omega)
  | 14 => exact bitsR_in x y _ (by omega)
  | n + 15 => show In 0; decide
theorem monN_in (k : Nat) (y : Int) (hy : In y) : In (monN k y).1 := by
  match k with
  | 0 | 4 | 5 => exact hy
  | 1 | 6 => exact ovr_in _
  | 2 =>
    show In y.sign
    rcases Int.lt_trichotomy y 0 with h | h | h
    · rw [Int.sign_eq_neg_one_of_neg h]; decide
    · rw [h]; decide
    · rw [Int.sign_eq_one_of_pos h]; decide
  | 3 => exact divR_in 1 y
  | 7 =>
    show In (notR y).1
    unfold notR
    split
    · rename_i h
      rcases isB_cases h with rfl | rfl <;> decide
    · decide
  | n + 8 => show In 0; decide
set_option maxRecDepth 100000 in
set_option maxHeartbeats 4000000 in
theorem shown_c (w : World) (hG : NG w) : Calls Tryd.prog 10 #[] w fun e w' => e = .returned (.bool true) ∧ Below w.heap.size w w' := by
  have HG := Lib.hid hG
  have H1 := Lib.hid (fun w h => dy_at 3 ⟨#[195, 183]⟩ rfl 7 2 (by decide) (by decide) 0 101 (by decide) w h)
  have H2 := Lib.hid (fun w h => dy_at 6 ⟨#[124]⟩ rfl 3 (-1) (by decide) (by decide) 2 0 (by decide) w h)
  have H3 := Lib.hid (fun w h => dy_at 6 ⟨#[124]⟩ rfl (-3) 1 (by decide) (by decide) (-2) 0 (by decide) w h)
  have H4 := Lib.hid (fun w h => dy_at 0 ⟨#[43]⟩ rfl 9223372036854775807 1 (by decide) (by decide) 0 100 (by decide) w h)
  have H5 := Lib.hid (fun w h => mon_at 7 ⟨#[126]⟩ rfl 0 (by decide) 1 0 (by decide) w h)
  have H6 : Hid (∀ w, Calls Tryd.prog 17 #[.string ⟨#[226, 136, 167]⟩] w fun e w' => e = .returned (.bool true) ∧ Below w.heap.size w w') := Lib.hid (fun w => isDy_c ⟨#[226, 136, 167]⟩ w)
  have H7 : Hid (∀ w, Calls Tryd.prog 19 #[.string ⟨#[61]⟩] w fun e w' => e = .returned (.bool false) ∧ Below w.heap.size w w') := Lib.hid (fun w => isMon_c ⟨#[61]⟩ w)
  clear hG
  go_enter Tryd.func10, Tryd.ntmps10
  go_wp2_with fail
  refine (H1.out _ HG.out).mono ?_
  rintro e w1 ⟨rfl, hb⟩
  have HG1 := Lib.hid (HG.out.below hb)
  have HB1 := Lib.hid hb
  clear hb
  go_wp2_with fail
  refine (H2.out _ HG1.out).mono ?_
  rintro e w2 ⟨rfl, hb⟩
  have HG2 := Lib.hid (HG1.out.below hb)
  have HB2 := Lib.hid (HB1.out.trans (hb.mono HB1.out.size))
  clear hb
  go_wp2_with fail
  refine (H3.out _ HG2.out).mono ?_
  rintro e w3 ⟨rfl, hb⟩
  have HG3 := Lib.hid (HG2.out.below hb)
  have HB3 := Lib.hid (HB2.out.trans (hb.mono HB2.out.size))
  clear hb
  go_wp2_with fail
  refine (H4.out _ HG3.out).mono ?_
  rintro e w4 ⟨rfl, hb⟩
  have HG4 := Lib.hid (HG3.out.below hb)
  have HB4 := Lib.hid (HB3.out.trans (hb.mono HB3.out.size))
  clear hb
  go_wp2_with fail
  refine (H5.out _ HG4.out).mono ?_
  rintro e w5 ⟨rfl, hb⟩
  have HG5 := Lib.hid (HG4.out.below hb)
  have HB5 := Lib.hid (HB4.out.trans (hb.mono HB4.out.size))
  clear hb
  go_wp2_with fail
  refine (H6.out _).mono ?_
  rintro e w6 ⟨rfl, hb⟩
  have HB6 := Lib.hid (HB5.out.trans (hb.mono HB5.out.size))
  clear hb
  go_wp2_with fail
  refine (H7.out _).mono ?_
  rintro e w7 ⟨rfl, hb⟩
  have HB7 := Lib.hid (HB6.out.trans (hb.mono HB6.out.size))
  clear hb
  go_wp2
  go_ret
  exact ⟨rfl, HB7.out⟩
end Go.Proofs.YtjafngieohpdaaaDoor.Nu
