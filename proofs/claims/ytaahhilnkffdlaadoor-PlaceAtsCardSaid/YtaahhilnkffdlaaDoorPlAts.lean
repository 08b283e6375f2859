/- The statement PlaceAts, walked. -/
import Derived.Test.YtaahhilnkffdlaaDoorPlRefAt
namespace Go.Proofs.YtaahhilnkffdlaaDoor
open Go Go.RowKit

set_option maxHeartbeats 4000000 in
set_option maxRecDepth 100000 in
theorem ats_true (w : World) (hG : Ground w) (s : ByteArray) (hs : s.size ≤ maxLen) (p n col u : Int) :
    Calls Tryd.prog 4 #[.string s, .int .i64 p, .int .i64 n, .int .i64 col, .int .i64 u] w fun e W' => e = .returned (.bool true) ∧ Below w.heap.size w W' := by
  have HC := fun w => Lib.hid (cut_c s hs w)
  obtain ⟨t, ht⟩ : ∃ t, t = cut6 s := ⟨_, rfl⟩
  have ht6 : t.size ≤ 600 := by rw [ht]; exact cut6_size s
  rw [← ht] at HC
  have HS := fun w h => Lib.hid (shown_c w h)
  have HG := Lib.hid hG
  clear ht hG
  obtain ⟨a, b, e1, hA, _⟩ := at_val t.data.toList p u
  obtain ⟨c, f1, hO, _⟩ := off_val t.data.toList n col u
  have HA := fun w h => Lib.hid (at_as t ht6 p u _ hA w h)
  have HO := fun w h => Lib.hid (off_as t ht6 n col u _ hO w h)
  have HA' := fun w => Lib.hid ((rat_c t ht6 p u w).mono (R' := fun e W' => e = .returned (.tuple #[.int .i64 a, .int .i64 b, .int .i64 e1]) ∧ Below w.heap.size w W') (by rintro e w' ⟨⟨v, rfl, hv⟩, hb⟩; exact ⟨by rw [atOut_one hv hA], hb⟩))
  have HO' := fun w => Lib.hid ((roff_c t ht6 n col u w).mono (R' := fun e W' => e = .returned (.tuple #[.int .i64 c, .int .i64 f1]) ∧ Below w.heap.size w W') (by rintro e w' ⟨⟨v, rfl, hv⟩, hb⟩; exact ⟨by rw [offOut_one hv hO], hb⟩))
  clear hA hO
  go_enter Tryd.func4, Tryd.ntmps4
  go_wp2_with fail
  refine (HS _ HG.out).out.mono ?_
  rintro e w1 ⟨rfl, hb1⟩
  have HG1 := Lib.hid (HG.out.below hb1 HG.out.2.2)
  have HB1 := Lib.hid hb1
  clear hb1
  go_wp2_with (go_at_call 11; refine (HC _).out.mono ?_; rintro e w' ⟨rfl, rfl⟩)
  refine (HA _ HG1.out).out.mono ?_
  rintro e w2 ⟨rfl, hb2⟩
  have HG2 := Lib.hid (HG1.out.below hb2 HG1.out.2.2)
  have HB2 := Lib.hid (HB1.out.trans (hb2.mono HB1.out.size))
  clear hb2
  go_wp2_with fail
  refine (HA' _).out.mono ?_
  rintro e w3 ⟨rfl, hb3⟩
  have HG3 := Lib.hid (HG2.out.below hb3 HG2.out.2.2)
  have HB3 := Lib.hid (HB2.out.trans (hb3.mono HB2.out.size))
  clear hb3
  go_wp2_with fail
  refine (HO _ HG3.out).out.mono ?_
  rintro e w4 ⟨rfl, hb4⟩
  have HB4 := Lib.hid (HB3.out.trans (hb4.mono HB3.out.size))
  clear hb4
  go_wp2_with fail
  refine (HO' _).out.mono ?_
  rintro e w5 ⟨rfl, hb5⟩
  have HB5 := Lib.hid (HB4.out.trans (hb5.mono HB4.out.size))
  clear hb5
  go_wp2
  go_ret
  exact ⟨rfl, HB5.out⟩
end Go.Proofs.YtaahhilnkffdlaaDoor
