/- The statement GlyphTells, walked. -/
import Derived.Test.YtldffmnmofmkaaaDoorGlPlainU
import Derived.Test.YtldffmnmofmkaaaDoorGlUse
namespace Go.Proofs.YtldffmnmofmkaaaDoor
open Go Go.RowKit

set_option maxHeartbeats 4000000 in
set_option maxRecDepth 100000 in
theorem tells_true (w : World) (hG : Ground w) (p : ByteArray) (hp : p.size ≤ maxLen) (s : ByteArray) (hs : s.size ≤ maxLen) :
    Calls Tryd.prog 3 #[.string p, .string s] w fun e W' => e = .returned (.bool true) ∧ Below w.heap.size w W' := by
  have HC := fun w => Lib.hid (cut_c p hp w)
  have HD := fun w => Lib.hid (cut_c s hs w)
  rw [← cutl_bs] at HC HD
  obtain ⟨Y, hY⟩ : ∃ Y, Y = cutl p := ⟨_, rfl⟩
  obtain ⟨X, hX⟩ : ∃ X, X = cutl s := ⟨_, rfl⟩
  have hX3 : X.length ≤ 300 := by rw [hX]; exact cutl_len s
  rw [← hY] at HC
  rw [← hX] at HD
  clear hX hY
  have HS := fun w h => Lib.hid (shown_c w h)
  have d1 := fun w h => digraph_c Y w h
  have d2 := fun w => rdig_c Y w
  have f1 := fun w h => First_c X w h
  have f2 := fun w => rfirst_c X (by omega) w
  have k1 := fun w h => class_c Y w h
  have k2 := fun w => rclass_c Y w
  have hcl : cls Y ≤ 6 := by unfold cls; split; exact cl_le _; omega
  have hfz := fsz_le3 X
  obtain ⟨y, hy⟩ : ∃ x, x = bs Y := ⟨_, rfl⟩
  obtain ⟨x, hx⟩ : ∃ x, x = bs X := ⟨_, rfl⟩
  obtain ⟨d, hd⟩ : ∃ x, x = bs (dig Y) := ⟨_, rfl⟩
  obtain ⟨o, ho⟩ : ∃ x, x = !(dig Y).isEmpty := ⟨_, rfl⟩
  obtain ⟨g, hg⟩ : ∃ x, x = bs (optG (firstK X)) := ⟨_, rfl⟩
  obtain ⟨z, hz⟩ : ∃ x, x = fsz X := ⟨_, rfl⟩
  obtain ⟨c, hc⟩ : ∃ x, x = cls Y := ⟨_, rfl⟩
  have e1 : dig' Y = dig Y := rfl
  rw [e1] at d2
  rw [← hy] at HC d1 d2 k1 k2
  rw [← hx] at HD f1 f2
  rw [← hd, ← ho] at d1 d2
  rw [← hg, ← hz] at f1 f2
  rw [← hc] at k1 k2 hcl
  rw [← hz] at hfz
  have D1 := fun w h => Lib.hid (d1 w h)
  have D2 := fun w => Lib.hid (d2 w)
  have F1 := fun w h => Lib.hid (f1 w h)
  have F2 := fun w => Lib.hid (f2 w)
  have K1 := fun w h => Lib.hid (k1 w h)
  have K2 := fun w => Lib.hid (k2 w)
  have HG0 := Lib.hid hG
  have HB0 := Lib.hid (Below.refl w.heap.size w)
  clear hG hy hx hd ho hg hz hc d1 d2 f1 f2 k1 k2 e1 hX3
  go_enter Tryd.func3, Tryd.ntmps3
  go_wp2_with fail
  refine ((HS _ HG0.out).out).mono ?_
  rintro e w1 ⟨rfl, hb1⟩
  have HG1 := Lib.hid (HG0.out.below hb1)
  have HB1 := Lib.hid (HB0.out.trans (hb1.mono HB0.out.size))
  clear hb1
  go_wp2_with fail
  refine (HC _).out.mono ?_
  rintro e w' ⟨rfl, rfl⟩
  go_wp2_with fail
  refine (HD _).out.mono ?_
  rintro e w' ⟨rfl, rfl⟩
  go_wp2_with fail
  refine ((D1 _ HG1.out).out).mono ?_
  rintro e w2 ⟨rfl, hb2⟩
  have HG2 := Lib.hid (HG1.out.below hb2)
  have HB2 := Lib.hid (HB1.out.trans (hb2.mono HB1.out.size))
  clear hb2
  go_wp2_with fail
  refine ((D2 _).out).mono ?_
  rintro e w3 ⟨rfl, hb3⟩
  have HG3 := Lib.hid (HG2.out.below hb3)
  have HB3 := Lib.hid (HB2.out.trans (hb3.mono HB2.out.size))
  clear hb3
  go_wp2_with fail
  refine ((F1 _ HG3.out).out).mono ?_
  rintro e w4 ⟨rfl, hb4⟩
  have HG4 := Lib.hid (HG3.out.below hb4)
  have HB4 := Lib.hid (HB3.out.trans (hb4.mono HB3.out.size))
  clear hb4
  go_wp2_with fail
  refine ((F2 _).out).mono ?_
  rintro e w5 ⟨rfl, hb5⟩
  have HG5 := Lib.hid (HG4.out.below hb5)
  have HB5 := Lib.hid (HB4.out.trans (hb5.mono HB4.out.size))
  clear hb5
  go_wp2_with fail
  refine (all_c _ HG5.out).mono ?_
  rintro e w6 ⟨rfl, hc6, hl6, hb6⟩
  have HG6 := Lib.hid (HG5.out.below hb6)
  have HB6 := Lib.hid (HB5.out.trans (hb6.mono HB5.out.size))
  obtain ⟨b, hb⟩ : ∃ b, b = w5.heap.size := ⟨_, rfl⟩
  rw [← hb] at hc6 hl6 ⊢
  have HC6 := Lib.hid hc6
  clear hb6 hc6 hb
  go_wp2_with fail
  refine (rall_c _).mono ?_
  rintro e w7 ⟨g7, cap, rfl, hc7, _, _, hcap1, hcap2, hb7⟩
  have HG7 := Lib.hid (HG6.out.below hb7)
  have HB7 := Lib.hid (HB6.out.trans (hb7.mono HB6.out.size))
  have HTX := Lib.hid (texts_c b g7 38 cap w7 (fun k hk => (hb7.cell (p := ⟨b, k, none⟩) hl6).trans (HC6.out k hk)) hc7)
  unfold maxLen at hcap2
  clear hb7 hc7
  go_wp2_with fail
  refine (HTX.out).mono ?_
  rintro e w8 ⟨rfl, hb8⟩
  have HG8 := Lib.hid (HG7.out.below hb8)
  have HB8 := Lib.hid (HB7.out.trans (hb8.mono HB7.out.size))
  clear hb8
  go_wp2_with fail
  refine ((K1 _ HG8.out).out).mono ?_
  rintro e w9 ⟨rfl, hb9⟩
  have HG9 := Lib.hid (HG8.out.below hb9)
  have HB9 := Lib.hid (HB8.out.trans (hb9.mono HB8.out.size))
  clear hb9
  go_wp2_with fail
  refine ((K2 _).out).mono ?_
  rintro e w10 ⟨rfl, hb10⟩
  have HB10 := Lib.hid (HB9.out.trans (hb10.mono HB9.out.size))
  clear hb10
  have hdd : (d.toList == d.toList) = true := beq_self_eq_true _
  have hgg : (g.toList == g.toList) = true := beq_self_eq_true _
  cases o
  all_goals
    go_wp2
    go_ret
    exact ⟨rfl, HB10.out⟩
end Go.Proofs.YtldffmnmofmkaaaDoor
