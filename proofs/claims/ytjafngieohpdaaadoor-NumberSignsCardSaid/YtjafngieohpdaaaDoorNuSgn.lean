/- The statement NumberSigns, walked (by wip/gen/mknulaws.py). -/
import Derived.Test.YtjafngieohpdaaaDoorNuShown
namespace Go.Proofs.YtjafngieohpdaaaDoor.Nu
open Go Go.RowKit Go.Shelf
attribute [local go_sem] Oper.semAt_some

set_option maxRecDepth 100000 in
set_option maxHeartbeats 4000000 in
theorem signs_true (w : World) (hG : NG w) (y : Int) (hy : In y) : Calls Tryd.prog 8 #[.int .i64 y] w fun e w' => e = .returned (.bool true) ∧ Below w.heap.size w w' := by
  have HG := Lib.hid hG
  have HS := Lib.hid (fun w h => shown_c w h)
  clear hG
  by_cases h : y = -9223372036854775808
  · subst h
    have H1 := Lib.hid (fun w h => mon_at 2 ⟨#[195, 151]⟩ rfl (-9223372036854775808) hy (-1) 0 (by decide) w h)
    have H2 := Lib.hid (fun w h => mon_at 6 ⟨#[124]⟩ rfl (-9223372036854775808) hy 0 100 (by decide) w h)
    have H3 := Lib.hid (fun w h => dy_at 2 ⟨#[195, 151]⟩ rfl (-1) 0 (by decide) (by decide) 0 0 (by decide) w h)
    have H4 := Lib.hid (fun w h => mon_at 1 ⟨#[45]⟩ rfl (-9223372036854775808) hy 0 100 (by decide) w h)
    have H5 := Lib.hid (fun w h => mon_at 1 ⟨#[45]⟩ rfl 0 (by decide) 0 0 (by decide) w h)
    go_enter Tryd.func8, Tryd.ntmps8
    go_wp2_with fail
    refine (HS.out _ HG.out).mono ?_
    rintro e w1 ⟨rfl, hb⟩
    have HG1 := Lib.hid (HG.out.below hb)
    have HB1 := Lib.hid hb
    clear hb
    go_wp2_with fail
    refine (H1.out _ HG1.out).mono ?_
    rintro e w2 ⟨rfl, hb⟩
    have HG2 := Lib.hid (HG1.out.below hb)
    have HB2 := Lib.hid (HB1.out.trans (hb.mono HB1.out.size))
    clear hb
    go_wp2_with fail
    refine (H2.out _ HG2.out).mono ?_
    rintro e w3 ⟨rfl, hb⟩
    have HG3 := Lib.hid (HG2.out.below hb)
    have HB3 := Lib.hid (HB2.out.trans (hb.mono HB2.out.size))
    clear hb
    go_wp2_with fail
    refine (H3.out _ HG3.out).mono ?_
    rintro e w4 ⟨rfl, hb⟩
    have HG4 := Lib.hid (HG3.out.below hb)
    have HB4 := Lib.hid (HB3.out.trans (hb.mono HB3.out.size))
    clear hb
    go_wp2_with fail
    refine (H4.out _ HG4.out).mono ?_
    rintro e w5 ⟨rfl, hb⟩
    have HG5 := Lib.hid (HG4.out.below hb)
    have HB5 := Lib.hid (HB4.out.trans (hb.mono HB4.out.size))
    clear hb
    go_wp2_with fail
    refine (H5.out _ HG5.out).mono ?_
    rintro e w6 ⟨rfl, hb⟩
    have HG6 := Lib.hid (HG5.out.below hb)
    have HB6 := Lib.hid (HB5.out.trans (hb.mono HB5.out.size))
    clear hb
    go_wp2
    go_ret
    exact ⟨rfl, HB6.out⟩
  · obtain ⟨m, hm⟩ : ∃ m, m = max y (-y) := ⟨_, rfl⟩
    obtain ⟨s, hs⟩ : ∃ s, s = y.sign := ⟨_, rfl⟩
    obtain ⟨n, hn⟩ : ∃ n, n = -y := ⟨_, rfl⟩
    have hmi : In m := by omega
    have hni : In n := by omega
    have hsi : In s := by rw [hs]; exact monN_in 2 y hy
    have e1 : monN 2 y = (s, 0) := by rw [hs]; rfl
    have e2 : monN 6 y = (m, 0) := by show ovr (max y (-y)) = _; rw [← hm]; exact if_pos hmi
    have e3 : dyN 2 s m = (y, 0) := by
      show ovr (s * m) = _
      have e : s * m = y := by
        rw [hs]
        rcases Int.lt_trichotomy y 0 with h | h | h
        · rw [Int.sign_eq_neg_one_of_neg h]; omega
        · rw [h]; exact Int.zero_mul _
        · rw [Int.sign_eq_one_of_pos h]; omega
      rw [e]
      exact if_pos hy
    have e4 : monN 1 y = (n, 0) := by show ovr (-y) = _; rw [← hn]; exact if_pos hni
    have e5 : monN 1 n = (y, 0) := by show ovr (-n) = _; rw [show -n = y by omega]; exact if_pos hy
    have t1 : 0 ≤ m := by omega
    have H1 := Lib.hid (fun w h => mon_at 2 ⟨#[195, 151]⟩ rfl y hy s 0 e1 w h)
    have H2 := Lib.hid (fun w h => mon_at 6 ⟨#[124]⟩ rfl y hy m 0 e2 w h)
    have H3 := Lib.hid (fun w h => dy_at 2 ⟨#[195, 151]⟩ rfl s m hsi hmi y 0 e3 w h)
    have H4 := Lib.hid (fun w h => mon_at 1 ⟨#[45]⟩ rfl y hy n 0 e4 w h)
    have H5 := Lib.hid (fun w h => mon_at 1 ⟨#[45]⟩ rfl n hni y 0 e5 w h)
    clear e1 e2 e3 e4 e5 hs hn hm hmi hni hsi h
    go_enter Tryd.func8, Tryd.ntmps8
    go_wp2_with fail
    refine (HS.out _ HG.out).mono ?_
    rintro e w1 ⟨rfl, hb⟩
    have HG1 := Lib.hid (HG.out.below hb)
    have HB1 := Lib.hid hb
    clear hb
    go_wp2_with fail
    refine (H1.out _ HG1.out).mono ?_
    rintro e w2 ⟨rfl, hb⟩
    have HG2 := Lib.hid (HG1.out.below hb)
    have HB2 := Lib.hid (HB1.out.trans (hb.mono HB1.out.size))
    clear hb
    go_wp2_with fail
    refine (H2.out _ HG2.out).mono ?_
    rintro e w3 ⟨rfl, hb⟩
    have HG3 := Lib.hid (HG2.out.below hb)
    have HB3 := Lib.hid (HB2.out.trans (hb.mono HB2.out.size))
    clear hb
    go_wp2_with fail
    refine (H3.out _ HG3.out).mono ?_
    rintro e w4 ⟨rfl, hb⟩
    have HG4 := Lib.hid (HG3.out.below hb)
    have HB4 := Lib.hid (HB3.out.trans (hb.mono HB3.out.size))
    clear hb
    go_wp2_with fail
    refine (H4.out _ HG4.out).mono ?_
    rintro e w5 ⟨rfl, hb⟩
    have HG5 := Lib.hid (HG4.out.below hb)
    have HB5 := Lib.hid (HB4.out.trans (hb.mono HB4.out.size))
    clear hb
    go_wp2_with fail
    refine (H5.out _ HG5.out).mono ?_
    rintro e w6 ⟨rfl, hb⟩
    have HG6 := Lib.hid (HG5.out.below hb)
    have HB6 := Lib.hid (HB5.out.trans (hb.mono HB5.out.size))
    clear hb
    go_wp2
    go_ret
    exact ⟨rfl, HB6.out⟩
end Go.Proofs.YtjafngieohpdaaaDoor.Nu
