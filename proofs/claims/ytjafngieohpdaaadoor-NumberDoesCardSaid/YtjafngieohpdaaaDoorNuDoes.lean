/- The statement NumberDoes, walked (by wip/gen/mknuref.py). -/
import Derived.Test.YtjafngieohpdaaaDoorNuRefF
import Derived.Test.YtjafngieohpdaaaDoorNuRefG
namespace Go.Proofs.YtjafngieohpdaaaDoor.Nu
open Go Go.RowKit Go.Shelf
attribute [local go_sem] Oper.semAt_some

set_option maxRecDepth 100000 in
set_option maxHeartbeats 4000000 in
theorem does_true (w : World) (hG : NG w) (g : ByteArray) (hg : g.size ≤ maxLen) (x y : Int) (hx : In x) (hy : In y) : Calls Tryd.prog 3 #[.string g, .int .i64 x, .int .i64 y] w fun e w' => e = .returned (.bool true) ∧ Below w.heap.size w w' := by
  have HG := Lib.hid hG
  have HS := Lib.hid (fun w h => shown_c w h)
  unfold maxLen at hg
  obtain ⟨s, hs⟩ : ∃ s, s = if 20 < g.size then g.extract 0 20 else g := ⟨_, rfl⟩
  have HD := Lib.hid (fun w h => dy_c s x y hx hy w h)
  have HDR := Lib.hid (fun w => rdy_c s x y hx hy w)
  have HM := Lib.hid (fun w h => mon_c s y hy w h)
  have HMR := Lib.hid (fun w => rmon_c s y hy w)
  have HU := Lib.hid (fun w => unit_c s w)
  have HUR := Lib.hid (fun w => rUnit_c s w)
  have HI := Lib.hid (fun w => isDy_c s w)
  have HIR := Lib.hid (fun w => rIsDy_c s w)
  have HJ := Lib.hid (fun w => isMon_c s w)
  have HJR := Lib.hid (fun w => rIsMon_c s w)
  obtain ⟨⟨a, e⟩, h1⟩ : ∃ N, N = dyN (whichD s) x y := ⟨_, rfl⟩
  obtain ⟨⟨b, f⟩, h2⟩ : ∃ N, N = monN (whichM s) y := ⟨_, rfl⟩
  obtain ⟨⟨u, ok⟩, h3⟩ : ∃ N, N = unitN (whichD s) := ⟨_, rfl⟩
  obtain ⟨p, h4⟩ : ∃ p, p = decide (whichD s < 15) := ⟨_, rfl⟩
  obtain ⟨q, h5⟩ : ∃ q, q = decide (whichM s < 8) := ⟨_, rfl⟩
  rw [← h1] at HD HDR
  rw [← h2] at HM HMR
  rw [← h3] at HU HUR
  rw [← h4] at HI HIR
  rw [← h5] at HJ HJR
  clear hG h1 h2 h3 h4 h5
  by_cases h20 : 20 < g.size
  · rw [if_pos h20] at hs
    have HSS := Lib.hid hs
    clear hs
    go_enter Tryd.func3, Tryd.ntmps3
    go_wp2_with fail
    refine (HS.out _ HG.out).mono ?_
    rintro e0 w1 ⟨rfl, hb⟩
    have HG1 := Lib.hid (HG.out.below hb)
    have HB1 := Lib.hid hb
    clear hb
    go_wp2_with fail
    rw [← HSS.out]
    refine (HD.out _ HG1.out).mono ?_
    rintro e0 w2 ⟨rfl, hb⟩
    have HG2 := Lib.hid (HG1.out.below hb)
    have HB2 := Lib.hid (HB1.out.trans (hb.mono HB1.out.size))
    clear hb
    go_wp2_with fail
    refine (HDR.out _).mono ?_
    rintro e0 w3 ⟨rfl, hb⟩
    have HG3 := Lib.hid (HG2.out.below hb)
    have HB3 := Lib.hid (HB2.out.trans (hb.mono HB2.out.size))
    clear hb
    go_wp2_with fail
    refine (HM.out _ HG3.out).mono ?_
    rintro e0 w4 ⟨rfl, hb⟩
    have HG4 := Lib.hid (HG3.out.below hb)
    have HB4 := Lib.hid (HB3.out.trans (hb.mono HB3.out.size))
    clear hb
    go_wp2_with fail
    refine (HMR.out _).mono ?_
    rintro e0 w5 ⟨rfl, hb⟩
    have HG5 := Lib.hid (HG4.out.below hb)
    have HB5 := Lib.hid (HB4.out.trans (hb.mono HB4.out.size))
    clear hb
    go_wp2_with fail
    refine (HU.out _).mono ?_
    rintro e0 w' ⟨rfl, rfl⟩
    go_wp2_with fail
    refine (HUR.out _).mono ?_
    rintro e0 w' ⟨rfl, rfl⟩
    go_wp2_with fail
    refine (HI.out _).mono ?_
    rintro e0 w6 ⟨rfl, hb⟩
    have HG6 := Lib.hid (HG5.out.below hb)
    have HB6 := Lib.hid (HB5.out.trans (hb.mono HB5.out.size))
    clear hb
    go_wp2_with fail
    refine (HIR.out _).mono ?_
    rintro e0 w7 ⟨rfl, hb⟩
    have HG7 := Lib.hid (HG6.out.below hb)
    have HB7 := Lib.hid (HB6.out.trans (hb.mono HB6.out.size))
    clear hb
    go_wp2_with fail
    refine (HJ.out _).mono ?_
    rintro e0 w8 ⟨rfl, hb⟩
    have HG8 := Lib.hid (HG7.out.below hb)
    have HB8 := Lib.hid (HB7.out.trans (hb.mono HB7.out.size))
    clear hb
    go_wp2_with fail
    refine (HJR.out _).mono ?_
    rintro e0 w9 ⟨rfl, hb⟩
    have HG9 := Lib.hid (HG8.out.below hb)
    have HB9 := Lib.hid (HB8.out.trans (hb.mono HB8.out.size))
    clear hb
    go_wp2
    all_goals go_ret
    all_goals exact ⟨rfl, HB9.out⟩
  · rw [if_neg h20] at hs
    subst hs
    go_enter Tryd.func3, Tryd.ntmps3
    go_wp2_with fail
    refine (HS.out _ HG.out).mono ?_
    rintro e0 w1 ⟨rfl, hb⟩
    have HG1 := Lib.hid (HG.out.below hb)
    have HB1 := Lib.hid hb
    clear hb
    go_wp2_with fail
    refine (HD.out _ HG1.out).mono ?_
    rintro e0 w2 ⟨rfl, hb⟩
    have HG2 := Lib.hid (HG1.out.below hb)
    have HB2 := Lib.hid (HB1.out.trans (hb.mono HB1.out.size))
    clear hb
    go_wp2_with fail
    refine (HDR.out _).mono ?_
    rintro e0 w3 ⟨rfl, hb⟩
    have HG3 := Lib.hid (HG2.out.below hb)
    have HB3 := Lib.hid (HB2.out.trans (hb.mono HB2.out.size))
    clear hb
    go_wp2_with fail
    refine (HM.out _ HG3.out).mono ?_
    rintro e0 w4 ⟨rfl, hb⟩
    have HG4 := Lib.hid (HG3.out.below hb)
    have HB4 := Lib.hid (HB3.out.trans (hb.mono HB3.out.size))
    clear hb
    go_wp2_with fail
    refine (HMR.out _).mono ?_
    rintro e0 w5 ⟨rfl, hb⟩
    have HG5 := Lib.hid (HG4.out.below hb)
    have HB5 := Lib.hid (HB4.out.trans (hb.mono HB4.out.size))
    clear hb
    go_wp2_with fail
    refine (HU.out _).mono ?_
    rintro e0 w' ⟨rfl, rfl⟩
    go_wp2_with fail
    refine (HUR.out _).mono ?_
    rintro e0 w' ⟨rfl, rfl⟩
    go_wp2_with fail
    refine (HI.out _).mono ?_
    rintro e0 w6 ⟨rfl, hb⟩
    have HG6 := Lib.hid (HG5.out.below hb)
    have HB6 := Lib.hid (HB5.out.trans (hb.mono HB5.out.size))
    clear hb
    go_wp2_with fail
    refine (HIR.out _).mono ?_
    rintro e0 w7 ⟨rfl, hb⟩
    have HG7 := Lib.hid (HG6.out.below hb)
    have HB7 := Lib.hid (HB6.out.trans (hb.mono HB6.out.size))
    clear hb
    go_wp2_with fail
    refine (HJ.out _).mono ?_
    rintro e0 w8 ⟨rfl, hb⟩
    have HG8 := Lib.hid (HG7.out.below hb)
    have HB8 := Lib.hid (HB7.out.trans (hb.mono HB7.out.size))
    clear hb
    go_wp2_with fail
    refine (HJR.out _).mono ?_
    rintro e0 w9 ⟨rfl, hb⟩
    have HG9 := Lib.hid (HG8.out.below hb)
    have HB9 := Lib.hid (HB8.out.trans (hb.mono HB8.out.size))
    clear hb
    go_wp2
    all_goals go_ret
    all_goals exact ⟨rfl, HB9.out⟩
end Go.Proofs.YtjafngieohpdaaaDoor.Nu
