/- The statement PlaceBack, walked. -/
import Derived.Test.YtaahhilnkffdlaaDoorPlVals
namespace Go.Proofs.YtaahhilnkffdlaaDoor
open Go Go.RowKit

set_option maxHeartbeats 4000000 in
set_option maxRecDepth 100000 in
theorem back_true (w : World) (hG : Ground w) (s : ByteArray) (hs : s.size ≤ maxLen) (p n col u : Int) :
    Calls Tryd.prog 5 #[.string s, .int .i64 p, .int .i64 n, .int .i64 col, .int .i64 u] w fun e W' => e = .returned (.bool true) ∧ Below w.heap.size w W' := by
  have HC := fun w => Lib.hid (cut_c s hs w)
  obtain ⟨t, ht⟩ : ∃ t, t = cut6 s := ⟨_, rfl⟩
  have ht6 : t.size ≤ 600 := by rw [ht]; exact cut6_size s
  rw [← ht] at HC
  have HS := fun w h => Lib.hid (shown_c w h)
  have HG := Lib.hid hG
  clear ht hG
  obtain ⟨a, b, e1, hA, hA'⟩ := at_val t.data.toList p u
  obtain ⟨c, f1, hO, hO'⟩ := off_val t.data.toList a b u
  obtain ⟨d, g1, hQ, hQ'⟩ := off_val t.data.toList n col u
  obtain ⟨i, j, h1, hR, hR'⟩ := at_val t.data.toList d u
  have HA := fun w h => Lib.hid (at_as t ht6 p u _ hA w h)
  have HO := fun w h => Lib.hid (off_as t ht6 a b u _ hO w h)
  have HQ := fun w h => Lib.hid (off_as t ht6 n col u _ hQ w h)
  have HR := fun w h => Lib.hid (at_as t ht6 d u _ hR w h)
  have l1 : e1 ≠ 0 ∨ (e1 = 0 ∧ f1 = 0 ∧ c = p) := by
    rcases hA' with ⟨h0, hu, k, r, hk, hr, hp, rfl, rfl⟩ | ⟨h0, _⟩
    · right
      have hv := offOut_one hO (.inr ⟨hu, .inl ⟨k, r, rfl, hk, hr, rfl, rfl⟩⟩)
      simp at hv
      exact ⟨h0, hv.2, by rw [hv.1]; exact_mod_cast hp⟩
    · exact .inl h0
  have l2 : g1 ≠ 0 ∨ (g1 = 0 ∧ h1 = 0 ∧ i = n ∧ j = col) := by
    rcases hQ' with ⟨h0, hu, k, r, hkn, hk, hr, hc, rfl⟩ | ⟨h0, _⟩
    · right
      have hv := atOut_one hR (.inr ⟨hu, .inl ⟨k, r, hk, hr, rfl, rfl⟩⟩)
      simp at hv
      exact ⟨h0, hv.2.2, by rw [hv.1]; exact hkn, by rw [hv.2.1]; exact hc⟩
    · exact .inl h0
  clear hA hA' hO hO' hQ hQ' hR hR'
  rcases l1 with q1 | ⟨rfl, rfl, rfl⟩ <;> rcases l2 with q2 | ⟨rfl, rfl, rfl, hj⟩
  all_goals
    first
      | have z1 : (e1 == 0) = false := beq_eq_false_iff_ne.2 q1
      | skip
    first
      | have z2 : (g1 != 0) = true := bne_iff_ne.2 q2
      | skip
    first
      | have z3 : (j == col) = true := beq_iff_eq.2 hj
      | skip
    try clear hj
    try clear q1
    try clear q2
    go_enter Tryd.func5, Tryd.ntmps5
    go_wp2_with fail
    refine (HS _ HG.out).out.mono ?_
    rintro e w1 ⟨rfl, hb1⟩
    have HG1 := Lib.hid (HG.out.below hb1 HG.out.2.2)
    have HB1 := Lib.hid hb1
    clear hb1
    go_wp2_with (go_at_call 11; refine (HC _).out.mono ?_; rintro e w' ⟨rfl, rfl⟩)
    refine (HA _ HG1.out).out.mono ?_
    rintro e w2 ⟨rfl, hb2⟩
    have HG2 := Lib.hid (HG1.out.below hb2 HG1.out.2.2)
    have HB2 := Lib.hid (HB1.out.trans (hb2.mono HB1.out.size))
    clear hb2
    go_wp2_with fail
    refine (HO _ HG2.out).out.mono ?_
    rintro e w3 ⟨rfl, hb3⟩
    have HG3 := Lib.hid (HG2.out.below hb3 HG2.out.2.2)
    have HB3 := Lib.hid (HB2.out.trans (hb3.mono HB2.out.size))
    clear hb3
    go_wp2_with fail
    refine (HQ _ HG3.out).out.mono ?_
    rintro e w4 ⟨rfl, hb4⟩
    have HG4 := Lib.hid (HG3.out.below hb4 HG3.out.2.2)
    have HB4 := Lib.hid (HB3.out.trans (hb4.mono HB3.out.size))
    clear hb4
    go_wp2_with fail
    refine (HR _ HG4.out).out.mono ?_
    rintro e w5 ⟨rfl, hb5⟩
    have HB5 := Lib.hid (HB4.out.trans (hb5.mono HB4.out.size))
    clear hb5
    go_wp2
    go_ret
    exact ⟨rfl, HB5.out⟩
end Go.Proofs.YtaahhilnkffdlaaDoor
