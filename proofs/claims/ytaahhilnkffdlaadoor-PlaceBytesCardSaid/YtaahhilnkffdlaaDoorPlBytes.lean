/- The statement PlaceBytes, walked. -/
import Derived.Test.YtaahhilnkffdlaaDoorPlVals
import Derived.Test.YtaahhilnkffdlaaDoorPlUnits
namespace Go.Proofs.YtaahhilnkffdlaaDoor
open Go Go.RowKit

set_option maxHeartbeats 4000000 in
set_option maxRecDepth 100000 in
theorem bytes_true (w : World) (hG : Ground w) (s : ByteArray) (hs : s.size ≤ maxLen) (p : Int) :
    Calls Tryd.prog 9 #[.string s, .int .i64 p] w fun e W' => e = .returned (.bool true) ∧ Below w.heap.size w W' := by
  have HC := fun w => Lib.hid (cut_c s hs w)
  obtain ⟨t, ht⟩ : ∃ t, t = cut6 s := ⟨_, rfl⟩
  have ht6 : t.size ≤ 600 := by rw [ht]; exact cut6_size s
  rw [← ht] at HC
  have HS := fun w h => Lib.hid (shown_c w h)
  have HG := Lib.hid hG
  clear ht hG
  by_cases hp : 0 ≤ p ∧ p ≤ (t.size : Int)
  · obtain ⟨n, rfl⟩ : ∃ n : Nat, p = (n : Int) := ⟨p.toNat, by omega⟩
    have hns : n ≤ t.size := by omega
    have hN1 := nlines_pos t.data.toList
    have hlast : lineEnd t.data.toList (nlines t.data.toList - 1) = t.size := by rw [lineEnd_last _ _ (by omega), Lib.size_eq]
    obtain ⟨k, hkm, hk1, hk2⟩ := hold_ex t.data.toList n (nlines t.data.toList - 1) (by omega) (by rw [hlast]; exact hns)
    have hk : k < nlines t.data.toList := by omega
    obtain ⟨a, ha⟩ : ∃ a, a = lineAt t.data.toList k := ⟨_, rfl⟩
    obtain ⟨c, hc⟩ : ∃ c : Nat, (c : Int) = (n : Int) - (a : Int) := ⟨n - a, by omega⟩
    have hA : AtOut t.data.toList (n : Int) 1 (.tuple #[.int .i64 (k : Int), .int .i64 (c : Int), .int .i64 0]) := by
      have h1 := posK_one (lineT t.data.toList k) c
      have h2 := posK_one (lineT t.data.toList k) (rnds (lineT t.data.toList k) 1)
      have h3 := rnds_end (lineT t.data.toList k) 1
      rw [lineT_len] at h3
      refine .inr ⟨rfl, .inl ⟨k, c, hk, by omega, by rw [h1.1]; omega, by rw [h1.2]⟩⟩
    have HA := fun w h => Lib.hid (at_as t ht6 (n : Int) 1 _ hA w h)
    obtain ⟨N, hN⟩ : ∃ N, N = nlines t.data.toList := ⟨_, rfl⟩
    have hN2 : N ≤ 601 := by rw [hN]; have := nlines_le t.data.toList; rw [← Lib.size_eq] at this; omega
    have hkN : k < N := by omega
    have HL : ∀ w, Hid (Calls Tryd.prog 17 #[.string t] w fun e W' => ∃ g, e = .returned (.slice (some ⟨g, 0, none⟩) N N) ∧ g < W'.heap.size ∧ W'.cell? ⟨g, k, none⟩ = some (.int .i64 (a : Int)) ∧ Below w.heap.size w W') := fun w => Lib.hid (by
      refine (plines_c t ht6 w).mono ?_
      rintro e w' ⟨g, rfl, h1, h2, h3, hb⟩
      rw [← hN] at h3 ⊢
      refine ⟨g, rfl, h2, ?_, hb⟩
      rw [h3 k (by rw [lat_len]; exact hkN), ha]
      simp [lat, hkN])
    have ha6 : a ≤ n ∧ n ≤ 600 := by omega
    obtain ⟨ha6, hn6⟩ := ha6
    have hc6 : c ≤ 600 := by omega
    have t1 : ¬ (n : Int) < 0 := by omega
    have t2 : ¬ (t.size : Int) < (n : Int) := by omega
    have t3 : (n : Int) - (a : Int) = (c : Int) := hc.symm
    clear hp hlast hkm hk1 hk2 ha hc hA hN hN1 hk
    go_enter Tryd.func9, Tryd.ntmps9
    go_wp2_with fail
    refine (HS _ HG.out).out.mono ?_
    rintro e w1 ⟨rfl, hb1⟩
    have HG1 := Lib.hid (HG.out.below hb1 HG.out.2.2)
    have HB1 := Lib.hid hb1
    clear hb1
    go_wp2_with (go_at_call 11; refine (HC _).out.mono ?_; rintro e w' ⟨rfl, rfl⟩)
    refine (HA _ HG1.out).out.mono ?_
    rintro e w2 ⟨rfl, hb2⟩
    have HB2 := Lib.hid (HB1.out.trans (hb2.mono HB1.out.size))
    clear hb2
    go_wp2_with fail
    refine (HL _).out.mono ?_
    rintro e w3 ⟨g, rfl, hg, hcell, hb3⟩
    have HB3 := Lib.hid (HB2.out.trans (hb3.mono HB2.out.size))
    clear hb3
    go_wp2
    go_ret
    exact ⟨rfl, HB3.out⟩
  · have hA : AtOut t.data.toList p 1 (.tuple #[.int .i64 0, .int .i64 0, .int .i64 20]) := by
      refine .inr ⟨rfl, .inr ⟨fun k r hk hr h => hp ?_, rfl⟩⟩
      have h1 := place_in hk hr
      have h2 := lineEnd_le t.data.toList k
      rw [← Lib.size_eq] at h2
      omega
    have HA := fun w h => Lib.hid (at_as t ht6 p 1 _ hA w h)
    clear hA
    by_cases h1 : p < 0
    · clear hp
      go_enter Tryd.func9, Tryd.ntmps9
      go_wp2_with fail
      refine (HS _ HG.out).out.mono ?_
      rintro e w1 ⟨rfl, hb1⟩
      have HG1 := Lib.hid (HG.out.below hb1 HG.out.2.2)
      have HB1 := Lib.hid hb1
      clear hb1
      go_wp2_with (go_at_call 11; refine (HC _).out.mono ?_; rintro e w' ⟨rfl, rfl⟩)
      refine (HA _ HG1.out).out.mono ?_
      rintro e w2 ⟨rfl, hb2⟩
      have HB2 := Lib.hid (HB1.out.trans (hb2.mono HB1.out.size))
      clear hb2
      go_wp2
      go_ret
      exact ⟨rfl, HB2.out⟩
    · have h2 : (t.size : Int) < p := by omega
      clear hp
      go_enter Tryd.func9, Tryd.ntmps9
      go_wp2_with fail
      refine (HS _ HG.out).out.mono ?_
      rintro e w1 ⟨rfl, hb1⟩
      have HG1 := Lib.hid (HG.out.below hb1 HG.out.2.2)
      have HB1 := Lib.hid hb1
      clear hb1
      go_wp2_with (go_at_call 11; refine (HC _).out.mono ?_; rintro e w' ⟨rfl, rfl⟩)
      refine (HA _ HG1.out).out.mono ?_
      rintro e w2 ⟨rfl, hb2⟩
      have HB2 := Lib.hid (HB1.out.trans (hb2.mono HB1.out.size))
      clear hb2
      go_wp2
      go_ret
      exact ⟨rfl, HB2.out⟩
end Go.Proofs.YtaahhilnkffdlaaDoor
