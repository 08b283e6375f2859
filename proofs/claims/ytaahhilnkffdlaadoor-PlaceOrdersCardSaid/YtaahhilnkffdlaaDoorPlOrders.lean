/- The statement PlaceOrders, walked. -/
import Derived.Test.YtaahhilnkffdlaaDoorPlVals
namespace Go.Proofs.YtaahhilnkffdlaaDoor
open Go Go.RowKit

theorem ret_true {x : Bool} (h : x = true) : Ending.returned (.bool x) = Ending.returned (.bool true) := by rw [h]

set_option maxHeartbeats 4000000 in
set_option maxRecDepth 100000 in
theorem orders_true (w : World) (hG : Ground w) (s : ByteArray) (hs : s.size ≤ maxLen) (p q u : Int) :
    Calls Tryd.prog 8 #[.string s, .int .i64 p, .int .i64 q, .int .i64 u] w fun e W' => e = .returned (.bool true) ∧ Below w.heap.size w W' := by
  have HC := fun w => Lib.hid (cut_c s hs w)
  obtain ⟨t, ht⟩ : ∃ t, t = cut6 s := ⟨_, rfl⟩
  have ht6 : t.size ≤ 600 := by rw [ht]; exact cut6_size s
  rw [← ht] at HC
  have HS := fun w h => Lib.hid (shown_c w h)
  have HG := Lib.hid hG
  clear ht hG
  obtain ⟨a, b, e1, hA, hA'⟩ := at_val t.data.toList p u
  obtain ⟨c, d, e2, hB, hB'⟩ := at_val t.data.toList q u
  have HA := fun w h => Lib.hid (at_as t ht6 p u _ hA w h)
  have HB := fun w h => Lib.hid (at_as t ht6 q u _ hB w h)
  have hlog : e1 ≠ 0 ∨ e2 ≠ 0 ∨ (e1 = 0 ∧ e2 = 0 ∧ (p < q ↔ (a < c ∨ (a = c ∧ b < d)))) := by
    rcases hA' with ⟨h0, hu, k, r, hk, hr, hp, ra, rb⟩ | ⟨h0, _⟩
    · rcases hB' with ⟨h0', hu', k', r', hk', hr', hp', ra', rb'⟩ | ⟨h0', _⟩
      · refine .inr (.inr ⟨h0, h0', ?_⟩)
        have i1 := place_in hk hr
        have i2 := place_in hk' hr'
        rcases Nat.lt_trichotomy k k' with h1 | h1 | h1
        · have := lineAt_up t.data.toList h1 hk'; omega
        · subst h1
          rcases Nat.lt_trichotomy r r' with h2 | h2 | h2
          · have := posK_up (rnds_lt (lineT t.data.toList k) u) h2 hr'
            have := colK_up (rnds_lt (lineT t.data.toList k) u) h2 hr'
            omega
          · subst h2; omega
          · have := posK_up (rnds_lt (lineT t.data.toList k) u) h2 hr
            have := colK_up (rnds_lt (lineT t.data.toList k) u) h2 hr
            omega
        · have := lineAt_up t.data.toList h1 hk; omega
      · exact .inr (.inl h0')
    · exact .inl h0
  clear hA hA' hB hB'
  by_cases q1 : e1 = 0
  · have z1 : (e1 == 0) = true := by rw [q1]; rfl
    by_cases q2 : e2 = 0
    · have z2 : (e2 == 0) = true := by rw [q2]; rfl
      have hl : p < q ↔ (a < c ∨ (a = c ∧ b < d)) := by
        rcases hlog with h | h | h
        · exact absurd q1 h
        · exact absurd q2 h
        · exact h.2.2
      subst q1
      subst q2
      clear hlog z1 z2
      by_cases p1 : p < q <;> by_cases p2 : a < c <;> by_cases p3 : a = c <;> by_cases p4 : b < d <;> first
        | (exfalso; omega)
        | (have t3 : (a == c) = decide (a = c) := by (cases h : (a == c) <;> simp_all)
           first | rw [decide_eq_true p3] at t3 | rw [decide_eq_false p3] at t3
           have P3 := Lib.hid p3
           clear hl p3
           go_enter Tryd.func8, Tryd.ntmps8
           go_wp2_with fail
           refine (HS _ HG.out).out.mono ?_
           rintro e w1 ⟨rfl, hb1⟩
           have HG1 := Lib.hid (HG.out.below hb1 HG.out.2.2)
           have HB1 := Lib.hid hb1
           clear hb1
           go_wp2_with (go_at_call 11; refine (HC _).out.mono ?_; rintro e w' ⟨rfl, rfl⟩)
           refine (HA _ HG1.out).out.mono ?_
           rintro e w2 ⟨rfl, hb2⟩
           have HG2 := Lib.hid (HG1.out.below hb2 HG1.out.2.2)
           have HB2 := Lib.hid (HB1.out.trans (hb2.mono HB1.out.size))
           clear hb2
           go_wp2_with fail
           refine (HB _ HG2.out).out.mono ?_
           rintro e w3 ⟨rfl, hb3⟩
           have HB3 := Lib.hid (HB2.out.trans (hb3.mono HB2.out.size))
           clear hb3
           go_wp2
           go_ret
           first
             | exact ⟨rfl, HB3.out⟩
             | exact ⟨ret_true (by have := P3.out; rw [beq_iff_eq, decide_eq_decide]; omega), HB3.out⟩
             | exact ⟨ret_true (by rw [beq_iff_eq, decide_eq_false (show ¬ p < q by omega), decide_eq_false (show ¬ a < c by omega), decide_eq_false (show ¬ b < d by omega)]; rfl), HB3.out⟩)
    · have z2 : (e2 == 0) = false := beq_eq_false_iff_ne.2 q2
      subst q1
      clear hlog q2 z1
      go_enter Tryd.func8, Tryd.ntmps8
      go_wp2_with fail
      refine (HS _ HG.out).out.mono ?_
      rintro e w1 ⟨rfl, hb1⟩
      have HG1 := Lib.hid (HG.out.below hb1 HG.out.2.2)
      have HB1 := Lib.hid hb1
      clear hb1
      go_wp2_with (go_at_call 11; refine (HC _).out.mono ?_; rintro e w' ⟨rfl, rfl⟩)
      refine (HA _ HG1.out).out.mono ?_
      rintro e w2 ⟨rfl, hb2⟩
      have HG2 := Lib.hid (HG1.out.below hb2 HG1.out.2.2)
      have HB2 := Lib.hid (HB1.out.trans (hb2.mono HB1.out.size))
      clear hb2
      go_wp2_with fail
      refine (HB _ HG2.out).out.mono ?_
      rintro e w3 ⟨rfl, hb3⟩
      have HB3 := Lib.hid (HB2.out.trans (hb3.mono HB2.out.size))
      clear hb3
      go_wp2
      go_ret
      exact ⟨rfl, HB3.out⟩
  · have z1 : (e1 == 0) = false := beq_eq_false_iff_ne.2 q1
    clear hlog q1
    go_enter Tryd.func8, Tryd.ntmps8
    go_wp2_with fail
    refine (HS _ HG.out).out.mono ?_
    rintro e w1 ⟨rfl, hb1⟩
    have HG1 := Lib.hid (HG.out.below hb1 HG.out.2.2)
    have HB1 := Lib.hid hb1
    clear hb1
    go_wp2_with (go_at_call 11; refine (HC _).out.mono ?_; rintro e w' ⟨rfl, rfl⟩)
    refine (HA _ HG1.out).out.mono ?_
    rintro e w2 ⟨rfl, hb2⟩
    have HG2 := Lib.hid (HG1.out.below hb2 HG1.out.2.2)
    have HB2 := Lib.hid (HB1.out.trans (hb2.mono HB1.out.size))
    clear hb2
    go_wp2_with fail
    refine (HB _ HG2.out).out.mono ?_
    rintro e w3 ⟨rfl, hb3⟩
    have HB3 := Lib.hid (HB2.out.trans (hb3.mono HB2.out.size))
    clear hb3
    go_wp2
    go_ret
    exact ⟨rfl, HB3.out⟩
end Go.Proofs.YtaahhilnkffdlaaDoor
