/- The statement NumberLogic, walked (by wip/gen/mknulaws.py). -/
import Derived.Test.YtjafngieohpdaaaDoorNuShown
namespace Go.Proofs.YtjafngieohpdaaaDoor.Nu
open Go Go.RowKit Go.Shelf
attribute [local go_sem] Oper.semAt_some

set_option maxRecDepth 100000 in
set_option maxHeartbeats 4000000 in
theorem logic_true (w : World) (hG : NG w) (x y : Int) (hx : In x) (hy : In y) : Calls Tryd.prog 9 #[.int .i64 x, .int .i64 y] w fun e w' => e = .returned (.bool true) ∧ Below w.heap.size w w' := by
  have HG := Lib.hid hG
  have HS := Lib.hid (fun w h => shown_c w h)
  clear hG
  cases hbx : isB x
  · have e1 : dyN 13 x y = (0, 102) := by show bitsR x y _ = _; unfold bitsR; rw [hbx]; rfl
    obtain ⟨⟨c, g⟩, h3⟩ : ∃ N : Int × Int, monN 7 x = N := ⟨_, rfl⟩
    have hc : In c := by have := monN_in 7 x hx; rw [h3] at this; exact this
    obtain ⟨⟨d, i⟩, h4⟩ : ∃ N : Int × Int, monN 7 y = N := ⟨_, rfl⟩
    have hd : In d := by have := monN_in 7 y hy; rw [h4] at this; exact this
    obtain ⟨⟨q, j⟩, h5⟩ : ∃ N : Int × Int, dyN 14 c d = N := ⟨_, rfl⟩
    have H1 := Lib.hid (fun w h => dy_at 13 ⟨#[226, 136, 167]⟩ rfl x y hx hy 0 102 e1 w h)
    have H2 := Lib.hid (fun w h => mon_at 7 ⟨#[126]⟩ rfl 0 (by decide) 1 0 (by decide) w h)
    have H3 := Lib.hid (fun w h => mon_at 7 ⟨#[126]⟩ rfl x hx c g h3 w h)
    have H4 := Lib.hid (fun w h => mon_at 7 ⟨#[126]⟩ rfl y hy d i h4 w h)
    have H5 := Lib.hid (fun w h => dy_at 14 ⟨#[226, 136, 168]⟩ rfl c d hc hd q j h5 w h)
    have t1 : (g != 0) = true := by
      have h : notR x = (c, g) := h3
      unfold notR at h
      rw [hbx] at h
      injection h with _ h
      rw [← h]
      rfl
    clear e1 h3 h4 h5 hc hd hbx
    go_enter Tryd.func9, Tryd.ntmps9
    go_wp2_with fail
    refine (HS.out _ HG.out).mono ?_
    rintro e w1 ⟨rfl, hb⟩
    have HG1 := Lib.hid (HG.out.below hb)
    have HB1 := Lib.hid hb
    clear hb
    go_wp2_with fail
    refine (H1.out _ HG1.out).mono ?_
    rintro e w2 ⟨rfl, hb⟩
    have HG2 := Lib.hid (HG1.out.below hb)
    have HB2 := Lib.hid (HB1.out.trans (hb.mono HB1.out.size))
    clear hb
    go_wp2_with fail
    refine (H2.out _ HG2.out).mono ?_
    rintro e w3 ⟨rfl, hb⟩
    have HG3 := Lib.hid (HG2.out.below hb)
    have HB3 := Lib.hid (HB2.out.trans (hb.mono HB2.out.size))
    clear hb
    go_wp2_with fail
    refine (H3.out _ HG3.out).mono ?_
    rintro e w4 ⟨rfl, hb⟩
    have HG4 := Lib.hid (HG3.out.below hb)
    have HB4 := Lib.hid (HB3.out.trans (hb.mono HB3.out.size))
    clear hb
    go_wp2_with fail
    refine (H4.out _ HG4.out).mono ?_
    rintro e w5 ⟨rfl, hb⟩
    have HG5 := Lib.hid (HG4.out.below hb)
    have HB5 := Lib.hid (HB4.out.trans (hb.mono HB4.out.size))
    clear hb
    go_wp2_with fail
    refine (H5.out _ HG5.out).mono ?_
    rintro e w6 ⟨rfl, hb⟩
    have HG6 := Lib.hid (HG5.out.below hb)
    have HB6 := Lib.hid (HB5.out.trans (hb.mono HB5.out.size))
    clear hb
    go_wp2
    go_ret
    exact ⟨rfl, HB6.out⟩
  · cases hby : isB y
    · have e1 : dyN 13 x y = (0, 102) := by show bitsR x y _ = _; unfold bitsR; rw [hbx, hby]; rfl
      obtain ⟨⟨c, g⟩, h3⟩ : ∃ N : Int × Int, monN 7 x = N := ⟨_, rfl⟩
      have hc : In c := by have := monN_in 7 x hx; rw [h3] at this; exact this
      obtain ⟨⟨d, i⟩, h4⟩ : ∃ N : Int × Int, monN 7 y = N := ⟨_, rfl⟩
      have hd : In d := by have := monN_in 7 y hy; rw [h4] at this; exact this
      obtain ⟨⟨q, j⟩, h5⟩ : ∃ N : Int × Int, dyN 14 c d = N := ⟨_, rfl⟩
      have H1 := Lib.hid (fun w h => dy_at 13 ⟨#[226, 136, 167]⟩ rfl x y hx hy 0 102 e1 w h)
      have H2 := Lib.hid (fun w h => mon_at 7 ⟨#[126]⟩ rfl 0 (by decide) 1 0 (by decide) w h)
      have H3 := Lib.hid (fun w h => mon_at 7 ⟨#[126]⟩ rfl x hx c g h3 w h)
      have H4 := Lib.hid (fun w h => mon_at 7 ⟨#[126]⟩ rfl y hy d i h4 w h)
      have H5 := Lib.hid (fun w h => dy_at 14 ⟨#[226, 136, 168]⟩ rfl c d hc hd q j h5 w h)
      have t1 : (g != 0) = false := by
        have h : notR x = (c, g) := h3
        unfold notR at h
        rw [hbx] at h
        injection h with _ h
        rw [← h]
        rfl
      have t2 : (i != 0) = true := by
        have h : notR y = (d, i) := h4
        unfold notR at h
        rw [hby] at h
        injection h with _ h
        rw [← h]
        rfl
      clear e1 h3 h4 h5 hc hd hbx hby
      go_enter Tryd.func9, Tryd.ntmps9
      go_wp2_with fail
      refine (HS.out _ HG.out).mono ?_
      rintro e w1 ⟨rfl, hb⟩
      have HG1 := Lib.hid (HG.out.below hb)
      have HB1 := Lib.hid hb
      clear hb
      go_wp2_with fail
      refine (H1.out _ HG1.out).mono ?_
      rintro e w2 ⟨rfl, hb⟩
      have HG2 := Lib.hid (HG1.out.below hb)
      have HB2 := Lib.hid (HB1.out.trans (hb.mono HB1.out.size))
      clear hb
      go_wp2_with fail
      refine (H2.out _ HG2.out).mono ?_
      rintro e w3 ⟨rfl, hb⟩
      have HG3 := Lib.hid (HG2.out.below hb)
      have HB3 := Lib.hid (HB2.out.trans (hb.mono HB2.out.size))
      clear hb
      go_wp2_with fail
      refine (H3.out _ HG3.out).mono ?_
      rintro e w4 ⟨rfl, hb⟩
      have HG4 := Lib.hid (HG3.out.below hb)
      have HB4 := Lib.hid (HB3.out.trans (hb.mono HB3.out.size))
      clear hb
      go_wp2_with fail
      refine (H4.out _ HG4.out).mono ?_
      rintro e w5 ⟨rfl, hb⟩
      have HG5 := Lib.hid (HG4.out.below hb)
      have HB5 := Lib.hid (HB4.out.trans (hb.mono HB4.out.size))
      clear hb
      go_wp2_with fail
      refine (H5.out _ HG5.out).mono ?_
      rintro e w6 ⟨rfl, hb⟩
      have HG6 := Lib.hid (HG5.out.below hb)
      have HB6 := Lib.hid (HB5.out.trans (hb.mono HB5.out.size))
      clear hb
      go_wp2
      go_ret
      exact ⟨rfl, HB6.out⟩
    · rcases isB_cases hbx with rfl | rfl
      · rcases isB_cases hby with rfl | rfl
        · have H1 := Lib.hid (fun w h => dy_at 13 ⟨#[226, 136, 167]⟩ rfl 0 0 hx hy 0 0 (by decide) w h)
          have H2 := Lib.hid (fun w h => mon_at 7 ⟨#[126]⟩ rfl 0 (by decide) 1 0 (by decide) w h)
          have H3 := Lib.hid (fun w h => mon_at 7 ⟨#[126]⟩ rfl 0 hx 1 0 (by decide) w h)
          have H4 := Lib.hid (fun w h => mon_at 7 ⟨#[126]⟩ rfl 0 hy 1 0 (by decide) w h)
          have H5 := Lib.hid (fun w h => dy_at 14 ⟨#[226, 136, 168]⟩ rfl 1 1 (by decide) (by decide) 1 0 (by decide) w h)
          go_enter Tryd.func9, Tryd.ntmps9
          go_wp2_with fail
          refine (HS.out _ HG.out).mono ?_
          rintro e w1 ⟨rfl, hb⟩
          have HG1 := Lib.hid (HG.out.below hb)
          have HB1 := Lib.hid hb
          clear hb
          go_wp2_with fail
          refine (H1.out _ HG1.out).mono ?_
          rintro e w2 ⟨rfl, hb⟩
          have HG2 := Lib.hid (HG1.out.below hb)
          have HB2 := Lib.hid (HB1.out.trans (hb.mono HB1.out.size))
          clear hb
          go_wp2_with fail
          refine (H2.out _ HG2.out).mono ?_
          rintro e w3 ⟨rfl, hb⟩
          have HG3 := Lib.hid (HG2.out.below hb)
          have HB3 := Lib.hid (HB2.out.trans (hb.mono HB2.out.size))
          clear hb
          go_wp2_with fail
          refine (H3.out _ HG3.out).mono ?_
          rintro e w4 ⟨rfl, hb⟩
          have HG4 := Lib.hid (HG3.out.below hb)
          have HB4 := Lib.hid (HB3.out.trans (hb.mono HB3.out.size))
          clear hb
          go_wp2_with fail
          refine (H4.out _ HG4.out).mono ?_
          rintro e w5 ⟨rfl, hb⟩
          have HG5 := Lib.hid (HG4.out.below hb)
          have HB5 := Lib.hid (HB4.out.trans (hb.mono HB4.out.size))
          clear hb
          go_wp2_with fail
          refine (H5.out _ HG5.out).mono ?_
          rintro e w6 ⟨rfl, hb⟩
          have HG6 := Lib.hid (HG5.out.below hb)
          have HB6 := Lib.hid (HB5.out.trans (hb.mono HB5.out.size))
          clear hb
          go_wp2
          go_ret
          exact ⟨rfl, HB6.out⟩
        · have H1 := Lib.hid (fun w h => dy_at 13 ⟨#[226, 136, 167]⟩ rfl 0 1 hx hy 0 0 (by decide) w h)
          have H2 := Lib.hid (fun w h => mon_at 7 ⟨#[126]⟩ rfl 0 (by decide) 1 0 (by decide) w h)
          have H3 := Lib.hid (fun w h => mon_at 7 ⟨#[126]⟩ rfl 0 hx 1 0 (by decide) w h)
          have H4 := Lib.hid (fun w h => mon_at 7 ⟨#[126]⟩ rfl 1 hy 0 0 (by decide) w h)
          have H5 := Lib.hid (fun w h => dy_at 14 ⟨#[226, 136, 168]⟩ rfl 1 0 (by decide) (by decide) 1 0 (by decide) w h)
          go_enter Tryd.func9, Tryd.ntmps9
          go_wp2_with fail
          refine (HS.out _ HG.out).mono ?_
          rintro e w1 ⟨rfl, hb⟩
          have HG1 := Lib.hid (HG.out.below hb)
          have HB1 := Lib.hid hb
          clear hb
          go_wp2_with fail
          refine (H1.out _ HG1.out).mono ?_
          rintro e w2 ⟨rfl, hb⟩
          have HG2 := Lib.hid (HG1.out.below hb)
          have HB2 := Lib.hid (HB1.out.trans (hb.mono HB1.out.size))
          clear hb
          go_wp2_with fail
          refine (H2.out _ HG2.out).mono ?_
          rintro e w3 ⟨rfl, hb⟩
          have HG3 := Lib.hid (HG2.out.below hb)
          have HB3 := Lib.hid (HB2.out.trans (hb.mono HB2.out.size))
          clear hb
          go_wp2_with fail
          refine (H3.out _ HG3.out).mono ?_
          rintro e w4 ⟨rfl, hb⟩
          have HG4 := Lib.hid (HG3.out.below hb)
          have HB4 := Lib.hid (HB3.out.trans (hb.mono HB3.out.size))
          clear hb
          go_wp2_with fail
          refine (H4.out _ HG4.out).mono ?_
          rintro e w5 ⟨rfl, hb⟩
          have HG5 := Lib.hid (HG4.out.below hb)
          have HB5 := Lib.hid (HB4.out.trans (hb.mono HB4.out.size))
          clear hb
          go_wp2_with fail
          refine (H5.out _ HG5.out).mono ?_
          rintro e w6 ⟨rfl, hb⟩
          have HG6 := Lib.hid (HG5.out.below hb)
          have HB6 := Lib.hid (HB5.out.trans (hb.mono HB5.out.size))
          clear hb
          go_wp2
          go_ret
          exact ⟨rfl, HB6.out⟩
      · rcases isB_cases hby with rfl | rfl
        · have H1 := Lib.hid (fun w h => dy_at 13 ⟨#[226, 136, 167]⟩ rfl 1 0 hx hy 0 0 (by decide) w h)
          have H2 := Lib.hid (fun w h => mon_at 7 ⟨#[126]⟩ rfl 0 (by decide) 1 0 (by decide) w h)
          have H3 := Lib.hid (fun w h => mon_at 7 ⟨#[126]⟩ rfl 1 hx 0 0 (by decide) w h)
          have H4 := Lib.hid (fun w h => mon_at 7 ⟨#[126]⟩ rfl 0 hy 1 0 (by decide) w h)
          have H5 := Lib.hid (fun w h => dy_at 14 ⟨#[226, 136, 168]⟩ rfl 0 1 (by decide) (by decide) 1 0 (by decide) w h)
          go_enter Tryd.func9, Tryd.ntmps9
          go_wp2_with fail
          refine (HS.out _ HG.out).mono ?_
          rintro e w1 ⟨rfl, hb⟩
          have HG1 := Lib.hid (HG.out.below hb)
          have HB1 := Lib.hid hb
          clear hb
          go_wp2_with fail
          refine (H1.out _ HG1.out).mono ?_
          rintro e w2 ⟨rfl, hb⟩
          have HG2 := Lib.hid (HG1.out.below hb)
          have HB2 := Lib.hid (HB1.out.trans (hb.mono HB1.out.size))
          clear hb
          go_wp2_with fail
          refine (H2.out _ HG2.out).mono ?_
          rintro e w3 ⟨rfl, hb⟩
          have HG3 := Lib.hid (HG2.out.below hb)
          have HB3 := Lib.hid (HB2.out.trans (hb.mono HB2.out.size))
          clear hb
          go_wp2_with fail
          refine (H3.out _ HG3.out).mono ?_
          rintro e w4 ⟨rfl, hb⟩
          have HG4 := Lib.hid (HG3.out.below hb)
          have HB4 := Lib.hid (HB3.out.trans (hb.mono HB3.out.size))
          clear hb
          go_wp2_with fail
          refine (H4.out _ HG4.out).mono ?_
          rintro e w5 ⟨rfl, hb⟩
          have HG5 := Lib.hid (HG4.out.below hb)
          have HB5 := Lib.hid (HB4.out.trans (hb.mono HB4.out.size))
          clear hb
          go_wp2_with fail
          refine (H5.out _ HG5.out).mono ?_
          rintro e w6 ⟨rfl, hb⟩
          have HG6 := Lib.hid (HG5.out.below hb)
          have HB6 := Lib.hid (HB5.out.trans (hb.mono HB5.out.size))
          clear hb
          go_wp2
          go_ret
          exact ⟨rfl, HB6.out⟩
        · have H1 := Lib.hid (fun w h => dy_at 13 ⟨#[226, 136, 167]⟩ rfl 1 1 hx hy 1 0 (by decide) w h)
          have H2 := Lib.hid (fun w h => mon_at 7 ⟨#[126]⟩ rfl 1 (by decide) 0 0 (by decide) w h)
          have H3 := Lib.hid (fun w h => mon_at 7 ⟨#[126]⟩ rfl 1 hx 0 0 (by decide) w h)
          have H4 := Lib.hid (fun w h => mon_at 7 ⟨#[126]⟩ rfl 1 hy 0 0 (by decide) w h)
          have H5 := Lib.hid (fun w h => dy_at 14 ⟨#[226, 136, 168]⟩ rfl 0 0 (by decide) (by decide) 0 0 (by decide) w h)
          go_enter Tryd.func9, Tryd.ntmps9
          go_wp2_with fail
          refine (HS.out _ HG.out).mono ?_
          rintro e w1 ⟨rfl, hb⟩
          have HG1 := Lib.hid (HG.out.below hb)
          have HB1 := Lib.hid hb
          clear hb
          go_wp2_with fail
          refine (H1.out _ HG1.out).mono ?_
          rintro e w2 ⟨rfl, hb⟩
          have HG2 := Lib.hid (HG1.out.below hb)
          have HB2 := Lib.hid (HB1.out.trans (hb.mono HB1.out.size))
          clear hb
          go_wp2_with fail
          refine (H2.out _ HG2.out).mono ?_
          rintro e w3 ⟨rfl, hb⟩
          have HG3 := Lib.hid (HG2.out.below hb)
          have HB3 := Lib.hid (HB2.out.trans (hb.mono HB2.out.size))
          clear hb
          go_wp2_with fail
          refine (H3.out _ HG3.out).mono ?_
          rintro e w4 ⟨rfl, hb⟩
          have HG4 := Lib.hid (HG3.out.below hb)
          have HB4 := Lib.hid (HB3.out.trans (hb.mono HB3.out.size))
          clear hb
          go_wp2_with fail
          refine (H4.out _ HG4.out).mono ?_
          rintro e w5 ⟨rfl, hb⟩
          have HG5 := Lib.hid (HG4.out.below hb)
          have HB5 := Lib.hid (HB4.out.trans (hb.mono HB4.out.size))
          clear hb
          go_wp2_with fail
          refine (H5.out _ HG5.out).mono ?_
          rintro e w6 ⟨rfl, hb⟩
          have HG6 := Lib.hid (HG5.out.below hb)
          have HB6 := Lib.hid (HB5.out.trans (hb.mono HB5.out.size))
          clear hb
          go_wp2
          go_ret
          exact ⟨rfl, HB6.out⟩
end Go.Proofs.YtjafngieohpdaaaDoor.Nu
