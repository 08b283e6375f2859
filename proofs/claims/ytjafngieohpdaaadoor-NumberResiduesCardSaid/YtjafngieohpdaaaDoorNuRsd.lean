/- The statement NumberResidues, walked (by wip/gen/mknulaws.py). -/
import Derived.Test.YtjafngieohpdaaaDoorNuBack
namespace Go.Proofs.YtjafngieohpdaaaDoor.Nu
open Go Go.RowKit Go.Shelf
attribute [local go_sem] Oper.semAt_some

set_option maxRecDepth 100000 in
set_option maxHeartbeats 4000000 in
theorem residues_true (w : World) (hG : NG w) (x y : Int) (hx : In x) (hy : In y) : Calls Tryd.prog 5 #[.int .i64 x, .int .i64 y] w fun e w' => e = .returned (.bool true) ∧ Below w.heap.size w w' := by
  have HG := Lib.hid hG
  have HS := Lib.hid (fun w h => shown_c w h)
  clear hG
  obtain ⟨r, hr⟩ : ∃ r, r = resR x y := ⟨_, rfl⟩
  have h1 : dyN 6 x y = (r, 0) := by rw [hr]; rfl
  have hri : In r := by rw [hr]; exact resR_in x y hx hy
  have H1 := Lib.hid (fun w h => dy_at 6 ⟨#[124]⟩ rfl x y hx hy r 0 h1 w h)
  by_cases h0 : x = 0
  · have t0 : (x == 0) = true := by simp [h0]
    have t1 : (r == y) = true := by simp [hr, resR, h0]
    clear h0 hr h1
    go_enter Tryd.func5, Tryd.ntmps5
    go_wp2_with fail
    refine (HS.out _ HG.out).mono ?_
    rintro e w1 ⟨rfl, hb⟩
    have HG1 := Lib.hid (HG.out.below hb)
    have HB1 := Lib.hid hb
    clear hb
    go_wp2_with fail
    refine (H1.out _ HG1.out).mono ?_
    rintro e w2 ⟨rfl, hb⟩
    have HG2 := Lib.hid (HG1.out.below hb)
    have HB2 := Lib.hid (HB1.out.trans (hb.mono HB1.out.size))
    clear hb
    go_wp2
    go_ret
    exact ⟨rfl, HB2.out⟩
  · have t0 : (x == 0) = false := by simp [h0]
    have hf : r = y.fmod x := by rw [hr]; simp [resR, h0]
    obtain ⟨⟨d, f⟩, h2⟩ : ∃ N : Int × Int, dyN 1 y r = N := ⟨_, rfl⟩
    have hd : In d := by have := dyN_in 1 y r hy hri; rw [h2] at this; exact this
    obtain ⟨⟨q, i⟩, h3⟩ : ∃ N : Int × Int, dyN 3 d x = N := ⟨_, rfl⟩
    have H2 := Lib.hid (fun w h => dy_at 1 ⟨#[45]⟩ rfl y r hy hri d f h2 w h)
    have H3 := Lib.hid (fun w h => dy_at 3 ⟨#[195, 183]⟩ rfl d x hd hx q i h3 w h)
    have C : (f != 0) = true ∨ ((f != 0) = false ∧ (i == 0) = true) ∨ ((f != 0) = false ∧ (i == 0) = false ∧ (i == 100) = true) := by
      rcases ovr_cases h2 with ⟨_, rfl, rfl⟩ | ⟨_, rfl, rfl⟩
      · refine .inr ?_
        have e := Int.mul_fdiv_add_fmod y x
        have h : divR (y - r) x = (q, i) := h3
        have ht : (y - r).tmod x = 0 := by
          rw [show y - r = x * y.fdiv x by rw [hf]; omega]
          exact Int.mul_tmod_right x _
        unfold divR at h
        rw [if_neg h0, if_pos ht] at h
        rcases ovr_cases h with ⟨_, _, rfl⟩ | ⟨_, _, rfl⟩
        · exact .inl ⟨rfl, rfl⟩
        · exact .inr ⟨rfl, rfl, rfl⟩
      · exact .inl rfl
    have D : (0 < x ∧ 0 ≤ r ∧ r < x) ∨ (¬ 0 < x ∧ x < 0 ∧ r ≤ 0 ∧ x < r) := by
      rw [hf]
      rcases Int.lt_or_lt_of_ne h0 with hn | hp
      · have h1 := Int.fmod_nonneg_of_pos (-y) (show 0 < -x by omega)
        have h2 := Int.fmod_lt_of_pos (-y) (show 0 < -x by omega)
        rw [Int.neg_fmod_neg] at h1 h2
        exact .inr (by omega)
      · exact .inl ⟨hp, Int.fmod_nonneg_of_pos y hp, Int.fmod_lt_of_pos y hp⟩
    clear h1 h2 h3 hd hri hf hr
    rcases D with ⟨d1, d2, d3⟩ | ⟨d1, d2, d3, d4⟩
    · rcases C with c1 | ⟨c1, c2⟩ | ⟨c1, c2, c3⟩
      · go_enter Tryd.func5, Tryd.ntmps5
        go_wp2_with fail
        refine (HS.out _ HG.out).mono ?_
        rintro e w1 ⟨rfl, hb⟩
        have HG1 := Lib.hid (HG.out.below hb)
        have HB1 := Lib.hid hb
        clear hb
        go_wp2_with fail
        refine (H1.out _ HG1.out).mono ?_
        rintro e w2 ⟨rfl, hb⟩
        have HG2 := Lib.hid (HG1.out.below hb)
        have HB2 := Lib.hid (HB1.out.trans (hb.mono HB1.out.size))
        clear hb
        go_wp2_with fail
        refine (H2.out _ HG2.out).mono ?_
        rintro e w3 ⟨rfl, hb⟩
        have HG3 := Lib.hid (HG2.out.below hb)
        have HB3 := Lib.hid (HB2.out.trans (hb.mono HB2.out.size))
        clear hb
        go_wp2_with fail
        refine (H3.out _ HG3.out).mono ?_
        rintro e w4 ⟨rfl, hb⟩
        have HG4 := Lib.hid (HG3.out.below hb)
        have HB4 := Lib.hid (HB3.out.trans (hb.mono HB3.out.size))
        clear hb
        go_wp2
        go_ret
        exact ⟨rfl, HB4.out⟩
      · go_enter Tryd.func5, Tryd.ntmps5
        go_wp2_with fail
        refine (HS.out _ HG.out).mono ?_
        rintro e w1 ⟨rfl, hb⟩
        have HG1 := Lib.hid (HG.out.below hb)
        have HB1 := Lib.hid hb
        clear hb
        go_wp2_with fail
        refine (H1.out _ HG1.out).mono ?_
        rintro e w2 ⟨rfl, hb⟩
        have HG2 := Lib.hid (HG1.out.below hb)
        have HB2 := Lib.hid (HB1.out.trans (hb.mono HB1.out.size))
        clear hb
        go_wp2_with fail
        refine (H2.out _ HG2.out).mono ?_
        rintro e w3 ⟨rfl, hb⟩
        have HG3 := Lib.hid (HG2.out.below hb)
        have HB3 := Lib.hid (HB2.out.trans (hb.mono HB2.out.size))
        clear hb
        go_wp2_with fail
        refine (H3.out _ HG3.out).mono ?_
        rintro e w4 ⟨rfl, hb⟩
        have HG4 := Lib.hid (HG3.out.below hb)
        have HB4 := Lib.hid (HB3.out.trans (hb.mono HB3.out.size))
        clear hb
        go_wp2
        go_ret
        exact ⟨rfl, HB4.out⟩
      · go_enter Tryd.func5, Tryd.ntmps5
        go_wp2_with fail
        refine (HS.out _ HG.out).mono ?_
        rintro e w1 ⟨rfl, hb⟩
        have HG1 := Lib.hid (HG.out.below hb)
        have HB1 := Lib.hid hb
        clear hb
        go_wp2_with fail
        refine (H1.out _ HG1.out).mono ?_
        rintro e w2 ⟨rfl, hb⟩
        have HG2 := Lib.hid (HG1.out.below hb)
        have HB2 := Lib.hid (HB1.out.trans (hb.mono HB1.out.size))
        clear hb
        go_wp2_with fail
        refine (H2.out _ HG2.out).mono ?_
        rintro e w3 ⟨rfl, hb⟩
        have HG3 := Lib.hid (HG2.out.below hb)
        have HB3 := Lib.hid (HB2.out.trans (hb.mono HB2.out.size))
        clear hb
        go_wp2_with fail
        refine (H3.out _ HG3.out).mono ?_
        rintro e w4 ⟨rfl, hb⟩
        have HG4 := Lib.hid (HG3.out.below hb)
        have HB4 := Lib.hid (HB3.out.trans (hb.mono HB3.out.size))
        clear hb
        go_wp2
        go_ret
        exact ⟨rfl, HB4.out⟩
    · rcases C with c1 | ⟨c1, c2⟩ | ⟨c1, c2, c3⟩
      · go_enter Tryd.func5, Tryd.ntmps5
        go_wp2_with fail
        refine (HS.out _ HG.out).mono ?_
        rintro e w1 ⟨rfl, hb⟩
        have HG1 := Lib.hid (HG.out.below hb)
        have HB1 := Lib.hid hb
        clear hb
        go_wp2_with fail
        refine (H1.out _ HG1.out).mono ?_
        rintro e w2 ⟨rfl, hb⟩
        have HG2 := Lib.hid (HG1.out.below hb)
        have HB2 := Lib.hid (HB1.out.trans (hb.mono HB1.out.size))
        clear hb
        go_wp2_with fail
        refine (H2.out _ HG2.out).mono ?_
        rintro e w3 ⟨rfl, hb⟩
        have HG3 := Lib.hid (HG2.out.below hb)
        have HB3 := Lib.hid (HB2.out.trans (hb.mono HB2.out.size))
        clear hb
        go_wp2_with fail
        refine (H3.out _ HG3.out).mono ?_
        rintro e w4 ⟨rfl, hb⟩
        have HG4 := Lib.hid (HG3.out.below hb)
        have HB4 := Lib.hid (HB3.out.trans (hb.mono HB3.out.size))
        clear hb
        go_wp2
        go_ret
        exact ⟨rfl, HB4.out⟩
      · go_enter Tryd.func5, Tryd.ntmps5
        go_wp2_with fail
        refine (HS.out _ HG.out).mono ?_
        rintro e w1 ⟨rfl, hb⟩
        have HG1 := Lib.hid (HG.out.below hb)
        have HB1 := Lib.hid hb
        clear hb
        go_wp2_with fail
        refine (H1.out _ HG1.out).mono ?_
        rintro e w2 ⟨rfl, hb⟩
        have HG2 := Lib.hid (HG1.out.below hb)
        have HB2 := Lib.hid (HB1.out.trans (hb.mono HB1.out.size))
        clear hb
        go_wp2_with fail
        refine (H2.out _ HG2.out).mono ?_
        rintro e w3 ⟨rfl, hb⟩
        have HG3 := Lib.hid (HG2.out.below hb)
        have HB3 := Lib.hid (HB2.out.trans (hb.mono HB2.out.size))
        clear hb
        go_wp2_with fail
        refine (H3.out _ HG3.out).mono ?_
        rintro e w4 ⟨rfl, hb⟩
        have HG4 := Lib.hid (HG3.out.below hb)
        have HB4 := Lib.hid (HB3.out.trans (hb.mono HB3.out.size))
        clear hb
        go_wp2
        go_ret
        exact ⟨rfl, HB4.out⟩
      · go_enter Tryd.func5, Tryd.ntmps5
        go_wp2_with fail
        refine (HS.out _ HG.out).mono ?_
        rintro e w1 ⟨rfl, hb⟩
        have HG1 := Lib.hid (HG.out.below hb)
        have HB1 := Lib.hid hb
        clear hb
        go_wp2_with fail
        refine (H1.out _ HG1.out).mono ?_
        rintro e w2 ⟨rfl, hb⟩
        have HG2 := Lib.hid (HG1.out.below hb)
        have HB2 := Lib.hid (HB1.out.trans (hb.mono HB1.out.size))
        clear hb
        go_wp2_with fail
        refine (H2.out _ HG2.out).mono ?_
        rintro e w3 ⟨rfl, hb⟩
        have HG3 := Lib.hid (HG2.out.below hb)
        have HB3 := Lib.hid (HB2.out.trans (hb.mono HB2.out.size))
        clear hb
        go_wp2_with fail
        refine (H3.out _ HG3.out).mono ?_
        rintro e w4 ⟨rfl, hb⟩
        have HG4 := Lib.hid (HG3.out.below hb)
        have HB4 := Lib.hid (HB3.out.trans (hb.mono HB3.out.size))
        clear hb
        go_wp2
        go_ret
        exact ⟨rfl, HB4.out⟩
end Go.Proofs.YtjafngieohpdaaaDoor.Nu
