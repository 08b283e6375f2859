/- The statement NumberBack, walked (by wip/gen/mknulaws.py). -/
import Derived.Test.YtjafngieohpdaaaDoorNuShown
namespace Go.Proofs.YtjafngieohpdaaaDoor.Nu
open Go Go.RowKit Go.Shelf
attribute [local go_sem] Oper.semAt_some

theorem ovr_cases {n s e : Int} (h : ovr n = (s, e)) : (In n ∧ s = n ∧ e = 0) ∨ (¬ In n ∧ s = 0 ∧ e = 100) := by
  unfold ovr at h
  split at h
  · injection h with h1 h2
    exact .inl ⟨by assumption, h1.symm, h2.symm⟩
  · injection h with h1 h2
    exact .inr ⟨by assumption, h1.symm, h2.symm⟩
set_option maxRecDepth 100000 in
set_option maxHeartbeats 4000000 in
theorem back_true (w : World) (hG : NG w) (x y : Int) (hx : In x) (hy : In y) : Calls Tryd.prog 4 #[.int .i64 x, .int .i64 y] w fun e w' => e = .returned (.bool true) ∧ Below w.heap.size w w' := by
  have HG := Lib.hid hG
  have HS := Lib.hid (fun w h => shown_c w h)
  clear hG
  obtain ⟨⟨s, e⟩, h1⟩ : ∃ N : Int × Int, dyN 0 x y = N := ⟨_, rfl⟩
  have hs : In s := by have := dyN_in 0 x y hx hy; rw [h1] at this; exact this
  obtain ⟨⟨t, f⟩, h2⟩ : ∃ N : Int × Int, dyN 1 s y = N := ⟨_, rfl⟩
  obtain ⟨⟨p, g⟩, h3⟩ : ∃ N : Int × Int, dyN 2 x y = N := ⟨_, rfl⟩
  have hp : In p := by have := dyN_in 2 x y hx hy; rw [h3] at this; exact this
  obtain ⟨⟨q, i⟩, h4⟩ : ∃ N : Int × Int, dyN 3 p y = N := ⟨_, rfl⟩
  have H1 := Lib.hid (fun w h => dy_at 0 ⟨#[43]⟩ rfl x y hx hy s e h1 w h)
  have H2 := Lib.hid (fun w h => dy_at 1 ⟨#[45]⟩ rfl s y hs hy t f h2 w h)
  have H3 := Lib.hid (fun w h => dy_at 2 ⟨#[195, 151]⟩ rfl x y hx hy p g h3 w h)
  have H4 := Lib.hid (fun w h => dy_at 3 ⟨#[195, 183]⟩ rfl p y hp hy q i h4 w h)
  have A : (e != 0) = true ∨ ((e != 0) = false ∧ (f == 0) = true ∧ (t == x) = true) := by
    rcases ovr_cases h1 with ⟨_, rfl, rfl⟩ | ⟨_, rfl, rfl⟩
    · refine .inr ⟨rfl, ?_⟩
      have h : ovr (x + y - y) = (t, f) := h2
      rw [show x + y - y = x by omega] at h
      unfold ovr at h
      rw [if_pos hx] at h
      injection h with h1 h2
      simp [← h1, ← h2]
    · exact .inl rfl
  have B : (g != 0) = true ∨ ((g != 0) = false ∧ (y == 0) = true) ∨ ((g != 0) = false ∧ (y == 0) = false ∧ (i == 0) = true ∧ (q == x) = true) := by
    rcases ovr_cases h3 with ⟨_, rfl, rfl⟩ | ⟨_, rfl, rfl⟩
    · by_cases h0 : y = 0
      · exact .inr (.inl ⟨rfl, by simp [h0]⟩)
      · refine .inr (.inr ⟨rfl, by simp [h0], ?_⟩)
        have h : divR (x * y) y = (q, i) := h4
        unfold divR at h
        rw [if_neg h0, if_pos (Int.mul_tmod_left x y), Int.mul_tdiv_cancel x h0] at h
        unfold ovr at h
        rw [if_pos hx] at h
        injection h with h1 h2
        simp [← h1, ← h2]
    · exact .inl rfl
  clear h1 h2 h3 h4 hs hp
  rcases A with a1 | ⟨a1, a2, a3⟩
  · rcases B with b1 | ⟨b1, b2⟩ | ⟨b1, b2, b3, b4⟩
    · go_enter Tryd.func4, Tryd.ntmps4
      go_wp2_with fail
      refine (HS.out _ HG.out).mono ?_
      rintro e w1 ⟨rfl, hb⟩
      have HG1 := Lib.hid (HG.out.below hb)
      have HB1 := Lib.hid hb
      clear hb
      go_wp2_with fail
      refine (H1.out _ HG1.out).mono ?_
      rintro e w2 ⟨rfl, hb⟩
      have HG2 := Lib.hid (HG1.out.below hb)
      have HB2 := Lib.hid (HB1.out.trans (hb.mono HB1.out.size))
      clear hb
      go_wp2_with fail
      refine (H2.out _ HG2.out).mono ?_
      rintro e w3 ⟨rfl, hb⟩
      have HG3 := Lib.hid (HG2.out.below hb)
      have HB3 := Lib.hid (HB2.out.trans (hb.mono HB2.out.size))
      clear hb
      go_wp2_with fail
      refine (H3.out _ HG3.out).mono ?_
      rintro e w4 ⟨rfl, hb⟩
      have HG4 := Lib.hid (HG3.out.below hb)
      have HB4 := Lib.hid (HB3.out.trans (hb.mono HB3.out.size))
      clear hb
      go_wp2_with fail
      refine (H4.out _ HG4.out).mono ?_
      rintro e w5 ⟨rfl, hb⟩
      have HG5 := Lib.hid (HG4.out.below hb)
      have HB5 := Lib.hid (HB4.out.trans (hb.mono HB4.out.size))
      clear hb
      go_wp2
      go_ret
      exact ⟨rfl, HB5.out⟩
    · go_enter Tryd.func4, Tryd.ntmps4
      go_wp2_with fail
      refine (HS.out _ HG.out).mono ?_
      rintro e w1 ⟨rfl, hb⟩
      have HG1 := Lib.hid (HG.out.below hb)
      have HB1 := Lib.hid hb
      clear hb
      go_wp2_with fail
      refine (H1.out _ HG1.out).mono ?_
      rintro e w2 ⟨rfl, hb⟩
      have HG2 := Lib.hid (HG1.out.below hb)
      have HB2 := Lib.hid (HB1.out.trans (hb.mono HB1.out.size))
      clear hb
      go_wp2_with fail
      refine (H2.out _ HG2.out).mono ?_
      rintro e w3 ⟨rfl, hb⟩
      have HG3 := Lib.hid (HG2.out.below hb)
      have HB3 := Lib.hid (HB2.out.trans (hb.mono HB2.out.size))
      clear hb
      go_wp2_with fail
      refine (H3.out _ HG3.out).mono ?_
      rintro e w4 ⟨rfl, hb⟩
      have HG4 := Lib.hid (HG3.out.below hb)
      have HB4 := Lib.hid (HB3.out.trans (hb.mono HB3.out.size))
      clear hb
      go_wp2_with fail
      refine (H4.out _ HG4.out).mono ?_
      rintro e w5 ⟨rfl, hb⟩
      have HG5 := Lib.hid (HG4.out.below hb)
      have HB5 := Lib.hid (HB4.out.trans (hb.mono HB4.out.size))
      clear hb
      go_wp2
      go_ret
      exact ⟨rfl, HB5.out⟩
    · go_enter Tryd.func4, Tryd.ntmps4
      go_wp2_with fail
      refine (HS.out _ HG.out).mono ?_
      rintro e w1 ⟨rfl, hb⟩
      have HG1 := Lib.hid (HG.out.below hb)
      have HB1 := Lib.hid hb
      clear hb
      go_wp2_with fail
      refine (H1.out _ HG1.out).mono ?_
      rintro e w2 ⟨rfl, hb⟩
      have HG2 := Lib.hid (HG1.out.below hb)
      have HB2 := Lib.hid (HB1.out.trans (hb.mono HB1.out.size))
      clear hb
      go_wp2_with fail
      refine (H2.out _ HG2.out).mono ?_
      rintro e w3 ⟨rfl, hb⟩
      have HG3 := Lib.hid (HG2.out.below hb)
      have HB3 := Lib.hid (HB2.out.trans (hb.mono HB2.out.size))
      clear hb
      go_wp2_with fail
      refine (H3.out _ HG3.out).mono ?_
      rintro e w4 ⟨rfl, hb⟩
      have HG4 := Lib.hid (HG3.out.below hb)
      have HB4 := Lib.hid (HB3.out.trans (hb.mono HB3.out.size))
      clear hb
      go_wp2_with fail
      refine (H4.out _ HG4.out).mono ?_
      rintro e w5 ⟨rfl, hb⟩
      have HG5 := Lib.hid (HG4.out.below hb)
      have HB5 := Lib.hid (HB4.out.trans (hb.mono HB4.out.size))
      clear hb
      go_wp2
      go_ret
      exact ⟨rfl, HB5.out⟩
  · rcases B with b1 | ⟨b1, b2⟩ | ⟨b1, b2, b3, b4⟩
    · go_enter Tryd.func4, Tryd.ntmps4
      go_wp2_with fail
      refine (HS.out _ HG.out).mono ?_
      rintro e w1 ⟨rfl, hb⟩
      have HG1 := Lib.hid (HG.out.below hb)
      have HB1 := Lib.hid hb
      clear hb
      go_wp2_with fail
      refine (H1.out _ HG1.out).mono ?_
      rintro e w2 ⟨rfl, hb⟩
      have HG2 := Lib.hid (HG1.out.below hb)
      have HB2 := Lib.hid (HB1.out.trans (hb.mono HB1.out.size))
      clear hb
      go_wp2_with fail
      refine (H2.out _ HG2.out).mono ?_
      rintro e w3 ⟨rfl, hb⟩
      have HG3 := Lib.hid (HG2.out.below hb)
      have HB3 := Lib.hid (HB2.out.trans (hb.mono HB2.out.size))
      clear hb
      go_wp2_with fail
      refine (H3.out _ HG3.out).mono ?_
      rintro e w4 ⟨rfl, hb⟩
      have HG4 := Lib.hid (HG3.out.below hb)
      have HB4 := Lib.hid (HB3.out.trans (hb.mono HB3.out.size))
      clear hb
      go_wp2_with fail
      refine (H4.out _ HG4.out).mono ?_
      rintro e w5 ⟨rfl, hb⟩
      have HG5 := Lib.hid (HG4.out.below hb)
      have HB5 := Lib.hid (HB4.out.trans (hb.mono HB4.out.size))
      clear hb
      go_wp2
      go_ret
      exact ⟨rfl, HB5.out⟩
    · go_enter Tryd.func4, Tryd.ntmps4
      go_wp2_with fail
      refine (HS.out _ HG.out).mono ?_
      rintro e w1 ⟨rfl, hb⟩
      have HG1 := Lib.hid (HG.out.below hb)
      have HB1 := Lib.hid hb
      clear hb
      go_wp2_with fail
      refine (H1.out _ HG1.out).mono ?_
      rintro e w2 ⟨rfl, hb⟩
      have HG2 := Lib.hid (HG1.out.below hb)
      have HB2 := Lib.hid (HB1.out.trans (hb.mono HB1.out.size))
      clear hb
      go_wp2_with fail
      refine (H2.out _ HG2.out).mono ?_
      rintro e w3 ⟨rfl, hb⟩
      have HG3 := Lib.hid (HG2.out.below hb)
      have HB3 := Lib.hid (HB2.out.trans (hb.mono HB2.out.size))
      clear hb
      go_wp2_with fail
      refine (H3.out _ HG3.out).mono ?_
      rintro e w4 ⟨rfl, hb⟩
      have HG4 := Lib.hid (HG3.out.below hb)
      have HB4 := Lib.hid (HB3.out.trans (hb.mono HB3.out.size))
      clear hb
      go_wp2_with fail
      refine (H4.out _ HG4.out).mono ?_
      rintro e w5 ⟨rfl, hb⟩
      have HG5 := Lib.hid (HG4.out.below hb)
      have HB5 := Lib.hid (HB4.out.trans (hb.mono HB4.out.size))
      clear hb
      go_wp2
      go_ret
      exact ⟨rfl, HB5.out⟩
    · go_enter Tryd.func4, Tryd.ntmps4
      go_wp2_with fail
      refine (HS.out _ HG.out).mono ?_
      rintro e w1 ⟨rfl, hb⟩
      have HG1 := Lib.hid (HG.out.below hb)
      have HB1 := Lib.hid hb
      clear hb
      go_wp2_with fail
      refine (H1.out _ HG1.out).mono ?_
      rintro e w2 ⟨rfl, hb⟩
      have HG2 := Lib.hid (HG1.out.below hb)
      have HB2 := Lib.hid (HB1.out.trans (hb.mono HB1.out.size))
      clear hb
      go_wp2_with fail
      refine (H2.out _ HG2.out).mono ?_
      rintro e w3 ⟨rfl, hb⟩
      have HG3 := Lib.hid (HG2.out.below hb)
      have HB3 := Lib.hid (HB2.out.trans (hb.mono HB2.out.size))
      clear hb
      go_wp2_with fail
      refine (H3.out _ HG3.out).mono ?_
      rintro e w4 ⟨rfl, hb⟩
      have HG4 := Lib.hid (HG3.out.below hb)
      have HB4 := Lib.hid (HB3.out.trans (hb.mono HB3.out.size))
      clear hb
      go_wp2_with fail
      refine (H4.out _ HG4.out).mono ?_
      rintro e w5 ⟨rfl, hb⟩
      have HG5 := Lib.hid (HG4.out.below hb)
      have HB5 := Lib.hid (HB4.out.trans (hb.mono HB4.out.size))
      clear hb
      go_wp2
      go_ret
      exact ⟨rfl, HB5.out⟩
end Go.Proofs.YtjafngieohpdaaaDoor.Nu
