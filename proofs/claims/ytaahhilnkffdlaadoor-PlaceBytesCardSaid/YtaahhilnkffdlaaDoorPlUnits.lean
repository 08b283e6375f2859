/- The statement PlaceUnits, walked. -/
import Derived.Test.YtaahhilnkffdlaaDoorPgUse
namespace Go.Proofs.YtaahhilnkffdlaaDoor
open Go Go.RowKit

theorem posK_one (T : List UInt8) : ∀ r, posK T 1 r = r ∧ colK T 1 r = r
  | 0 => ⟨rfl, rfl⟩
  | r + 1 => by
    have h := posK_one T r
    have h1 : posK T 1 (r + 1) = posK T 1 r + stepU T 1 (posK T 1 r) := rfl
    have h2 : colK T 1 (r + 1) = colK T 1 r + sizeOfU (stepU T 1 (posK T 1 r)) 1 := rfl
    have h3 : stepU T 1 (posK T 1 r) = 1 := by unfold stepU; rw [if_pos rfl]
    have h4 : sizeOfU 1 1 = 1 := rfl
    rw [h3] at h1 h2
    rw [h4] at h2
    omega
theorem posK_23 (T : List UInt8) : ∀ r, posK T 2 r = posK T 3 r ∧ colK T 2 r = r ∧ r ≤ colK T 3 r ∧ colK T 3 r ≤ 2 * r ∧ ((∀ q, q < r → posK T 3 q < T.length) → colK T 3 r ≤ posK T 3 r)
  | 0 => ⟨rfl, rfl, Nat.le_refl _, Nat.le_refl _, fun _ => Nat.le_refl _⟩
  | r + 1 => by
    obtain ⟨h1, h2, h3, h4, h5⟩ := posK_23 T r
    have a1 : posK T 2 (r + 1) = posK T 2 r + stepU T 2 (posK T 2 r) := rfl
    have a2 : posK T 3 (r + 1) = posK T 3 r + stepU T 3 (posK T 3 r) := rfl
    have a3 : stepU T 2 (posK T 2 r) = stepU T 3 (posK T 3 r) := by rw [h1]; rfl
    have b1 : colK T 2 (r + 1) = colK T 2 r + sizeOfU (stepU T 2 (posK T 2 r)) 2 := rfl
    have b2 : colK T 3 (r + 1) = colK T 3 r + sizeOfU (stepU T 3 (posK T 3 r)) 3 := rfl
    have b3 : sizeOfU (stepU T 2 (posK T 2 r)) 2 = 1 := by unfold sizeOfU; rw [if_neg (by decide), if_neg (fun h => absurd h.1 (by decide))]
    have b4 : 1 ≤ sizeOfU (stepU T 3 (posK T 3 r)) 3 ∧ sizeOfU (stepU T 3 (posK T 3 r)) 3 ≤ 2 ∧ (1 ≤ stepU T 3 (posK T 3 r) → sizeOfU (stepU T 3 (posK T 3 r)) 3 ≤ stepU T 3 (posK T 3 r)) := by
      unfold sizeOfU
      rw [if_neg (by decide)]
      split <;> omega
    refine ⟨by omega, by omega, by omega, by omega, fun hq => ?_⟩
    have c1 := h5 (fun q hqr => hq q (by omega))
    have c2 := (stepU_le (unit := 3) (hq r (by omega))).1
    have := b4.2.2 c2
    omega

set_option maxHeartbeats 4000000 in
set_option maxRecDepth 100000 in
theorem units_true (w : World) (hG : Ground w) (s : ByteArray) (hs : s.size ≤ maxLen) (n : Int) :
    Calls Tryd.prog 7 #[.string s, .int .i64 n] w fun e W' => e = .returned (.bool true) ∧ Below w.heap.size w W' := by
  have HC := fun w => Lib.hid (cut_c s hs w)
  obtain ⟨t, ht⟩ : ∃ t, t = cut6 s := ⟨_, rfl⟩
  have ht6 : t.size ≤ 600 := by rw [ht]; exact cut6_size s
  rw [← ht] at HC
  have HS := fun w h => Lib.hid (shown_c w h)
  have HG := Lib.hid hG
  clear ht hG
  by_cases hn : 0 ≤ n ∧ n < (nlines t.data.toList : Int)
  · obtain ⟨k, rfl⟩ : ∃ k : Nat, n = (k : Int) := ⟨n.toNat, by omega⟩
    have hk : k < nlines t.data.toList := by omega
    have HL := fun w => Lib.hid (pline_ok t ht6 k hk w)
    obtain ⟨T, hT⟩ : ∃ T, T = lineT t.data.toList k := ⟨_, rfl⟩
    obtain ⟨x, hx⟩ : ∃ x, x = t.extract (lineAt t.data.toList k) (lineEnd t.data.toList k) := ⟨_, rfl⟩
    rw [← hx] at HL
    have hxl : T.length = x.size := by rw [hT, hx, lineT_ext t k _ _ rfl rfl, Lib.size_eq]
    have HW : ∀ u, isUnit u = true → ∀ w, Ground w → Hid (Calls Tryd.prog 14 #[.string t, .int .i64 (k : Int), .int .i64 u] w fun e W' => e = .returned (.tuple #[.int .i64 ((colK T u (rnds T u) : Nat) : Int), .int .i64 0]) ∧ Below w.heap.size w W') := fun u hu w h => Lib.hid ((wid_c t ht6 (k : Int) u w h).mono (by
      rintro e w' ⟨⟨v, rfl, hv⟩, hb⟩
      refine ⟨?_, hb⟩
      rw [widOut_one hv (.inr ⟨hu, .inl ⟨k, rfl, hk, rfl⟩⟩), hT]))
    have e1 : colK T 1 (rnds T 1) = T.length := by
      have h1 := posK_one T (rnds T 1)
      have h2 := rnds_end T 1
      omega
    have e23 : rnds T 2 = rnds T 3 := by
      refine rnds_of ?_ (fun q hq => ?_)
      · rw [← (posK_23 T _).1]; exact rnds_end T 2
      · rw [← (posK_23 T _).1]; exact rnds_lt T 2 q hq
    have h23 := posK_23 T (rnds T 3)
    obtain ⟨a, ha⟩ : ∃ a, a = colK T 1 (rnds T 1) := ⟨_, rfl⟩
    obtain ⟨b, hb⟩ : ∃ b, b = colK T 2 (rnds T 2) := ⟨_, rfl⟩
    obtain ⟨c, hc⟩ : ∃ c, c = colK T 3 (rnds T 3) := ⟨_, rfl⟩
    have W1 := HW 1 rfl
    have W2 := HW 2 rfl
    have W3 := HW 3 rfl
    rw [← ha] at W1
    rw [← hb] at W2
    rw [← hc] at W3
    have hax : a = x.size := by rw [ha, e1, hxl]
    have hbc : b ≤ c ∧ c ≤ a ∧ c ≤ 2 * b := by
      have h5 := h23.2.2.2.2 (rnds_lt T 3)
      have h6 := rnds_end T 3
      rw [e23, h23.2.1] at hb
      rw [ha, e1, ← h6]
      omega
    have ha6 : a ≤ 600 := by rw [hax, hx, ByteArray.size_extract]; omega
    obtain ⟨hbc1, hbc2, hbc3⟩ := hbc
    have t1 : ((a : Int) == (x.size : Int)) = true := by rw [hax]; exact beq_self_eq_true _
    have t2 : (b : Int) ≤ (c : Int) := by omega
    have t3 : (c : Int) ≤ (a : Int) := by omega
    have t4 : (c : Int) ≤ 2 * (b : Int) := by omega
    have HX := Lib.hid hax
    clear hn HW hT hx hxl e1 e23 h23 ha hb hc hax
    go_enter Tryd.func7, Tryd.ntmps7
    go_wp2_with fail
    refine (HS _ HG.out).out.mono ?_
    rintro e w1 ⟨rfl, hb1⟩
    have HG1 := Lib.hid (HG.out.below hb1 HG.out.2.2)
    have HB1 := Lib.hid hb1
    clear hb1
    go_wp2_with (go_at_call 11; refine (HC _).out.mono ?_; rintro e w' ⟨rfl, rfl⟩)
    refine (HL _).out.mono ?_
    rintro e w2 ⟨rfl, hb2⟩
    have HG2 := Lib.hid (HG1.out.below hb2 HG1.out.2.2)
    have HB2 := Lib.hid (HB1.out.trans (hb2.mono HB1.out.size))
    clear hb2
    go_wp2_with fail
    refine (W1 _ HG2.out).out.mono ?_
    rintro e w3 ⟨rfl, hb3⟩
    have HG3 := Lib.hid (HG2.out.below hb3 HG2.out.2.2)
    have HB3 := Lib.hid (HB2.out.trans (hb3.mono HB2.out.size))
    clear hb3
    go_wp2_with fail
    refine (W2 _ HG3.out).out.mono ?_
    rintro e w4 ⟨rfl, hb4⟩
    have HG4 := Lib.hid (HG3.out.below hb4 HG3.out.2.2)
    have HB4 := Lib.hid (HB3.out.trans (hb4.mono HB3.out.size))
    clear hb4
    go_wp2_with fail
    refine (W3 _ HG4.out).out.mono ?_
    rintro e w5 ⟨rfl, hb5⟩
    have HB5 := Lib.hid (HB4.out.trans (hb5.mono HB4.out.size))
    clear hb5
    go_wp2
    go_ret
    exact ⟨rfl, HB5.out⟩
  · have HL := fun w h => Lib.hid (pline_no t ht6 n (by omega) w h)
    have HW : ∀ u, isUnit u = true → ∀ w, Ground w → Hid (Calls Tryd.prog 14 #[.string t, .int .i64 n, .int .i64 u] w fun e W' => e = .returned (.tuple #[.int .i64 0, .int .i64 20]) ∧ Below w.heap.size w W') := fun u hu w h => Lib.hid ((wid_c t ht6 n u w h).mono (by
      rintro e w' ⟨⟨v, rfl, hv⟩, hb⟩
      exact ⟨by rw [widOut_one hv (.inr ⟨hu, .inr ⟨fun k e hlt => hn (by omega), rfl⟩⟩)], hb⟩))
    have W1 := HW 1 rfl
    have W2 := HW 2 rfl
    have W3 := HW 3 rfl
    clear hn HW
    go_enter Tryd.func7, Tryd.ntmps7
    go_wp2_with fail
    refine (HS _ HG.out).out.mono ?_
    rintro e w1 ⟨rfl, hb1⟩
    have HG1 := Lib.hid (HG.out.below hb1 HG.out.2.2)
    have HB1 := Lib.hid hb1
    clear hb1
    go_wp2_with (go_at_call 11; refine (HC _).out.mono ?_; rintro e w' ⟨rfl, rfl⟩)
    refine (HL _ HG1.out.2.1).out.mono ?_
    rintro e w2 ⟨rfl, hb2⟩
    have HG2 := Lib.hid (HG1.out.below hb2 HG1.out.2.2)
    have HB2 := Lib.hid (HB1.out.trans (hb2.mono HB1.out.size))
    clear hb2
    go_wp2_with fail
    refine (W1 _ HG2.out).out.mono ?_
    rintro e w3 ⟨rfl, hb3⟩
    have HG3 := Lib.hid (HG2.out.below hb3 HG2.out.2.2)
    have HB3 := Lib.hid (HB2.out.trans (hb3.mono HB2.out.size))
    clear hb3
    go_wp2_with fail
    refine (W2 _ HG3.out).out.mono ?_
    rintro e w4 ⟨rfl, hb4⟩
    have HG4 := Lib.hid (HG3.out.below hb4 HG3.out.2.2)
    have HB4 := Lib.hid (HB3.out.trans (hb4.mono HB3.out.size))
    clear hb4
    go_wp2_with fail
    refine (W3 _ HG4.out).out.mono ?_
    rintro e w5 ⟨rfl, hb5⟩
    have HB5 := Lib.hid (HB4.out.trans (hb5.mono HB4.out.size))
    clear hb5
    go_wp2
    go_ret
    exact ⟨rfl, HB5.out⟩
end Go.Proofs.YtaahhilnkffdlaaDoor
