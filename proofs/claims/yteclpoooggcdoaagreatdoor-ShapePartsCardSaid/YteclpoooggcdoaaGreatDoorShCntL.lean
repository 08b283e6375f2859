/- The statement ShapeCounts (by wip/gen/mkshcounts.py). -/
import Derived.Test.YteclpoooggcdoaaGreatDoorShS
import Derived.Test.YteclpoooggcdoaaGreatDoorShArgs
namespace Go.Proofs.YteclpoooggcdoaaGreatDoor.Ar
open Go Go.RowKit Go.Shelf
attribute [local go_sem] Oper.semAt_some

theorem w_iota : whichS ⟨#[226, 141, 179]⟩ = 1 := by kernel_rfl
theorem w_rho : whichS ⟨#[226, 141, 180]⟩ = 0 := by kernel_rfl
theorem right_one (x : Int) : rightA ⟨false, false, [x]⟩ = true := rfl
theorem right_list {L : List Int} (h : L.length ≤ 200) : rightA ⟨true, false, L⟩ = true := by simp [rightA, cntA, h]
theorem iota_lo {x : Int} (h : x < 0) : smE ⟨#[226, 141, 179]⟩ ⟨false, false, [x]⟩ = 102 ∧ smA ⟨#[226, 141, 179]⟩ ⟨false, false, [x]⟩ = ⟨false, false, []⟩ := by
  have e : smE ⟨#[226, 141, 179]⟩ ⟨false, false, [x]⟩ = 102 := by rw [smE, right_one, if_pos rfl, w_iota]; simp [mkE1, cntE, numE, numV, h]
  exact ⟨e, by rw [smA, e]; rfl⟩
theorem iota_hi {x : Int} (h : 200 < x) : smE ⟨#[226, 141, 179]⟩ ⟨false, false, [x]⟩ = 113 ∧ smA ⟨#[226, 141, 179]⟩ ⟨false, false, [x]⟩ = ⟨false, false, []⟩ := by
  have h2 : ¬ x < 0 := by omega
  have e : smE ⟨#[226, 141, 179]⟩ ⟨false, false, [x]⟩ = 113 := by rw [smE, right_one, if_pos rfl, w_iota]; simp [mkE1, cntE, numE, numV, h, h2]
  exact ⟨e, by rw [smA, e]; rfl⟩
theorem iota_ok {m : Nat} (h : m ≤ 200) : smE ⟨#[226, 141, 179]⟩ ⟨false, false, [(m : Int)]⟩ = 0 ∧ smA ⟨#[226, 141, 179]⟩ ⟨false, false, [(m : Int)]⟩ = ⟨true, false, upL m⟩ := by
  have h1 : ¬ (m : Int) < 0 := by omega
  have h2 : ¬ (200 : Int) < (m : Int) := by omega
  have e : smE ⟨#[226, 141, 179]⟩ ⟨false, false, [(m : Int)]⟩ = 0 := by rw [smE, right_one, if_pos rfl, w_iota]; simp [mkE1, cntE, numE, numV, h1, h2]
  exact ⟨e, by rw [smA, e, if_pos rfl, w_iota]; simp [mkA1, numV]⟩
theorem rho_list {L : List Int} (h : L.length ≤ 200) : smE ⟨#[226, 141, 180]⟩ ⟨true, false, L⟩ = 0 ∧ smA ⟨#[226, 141, 180]⟩ ⟨true, false, L⟩ = ⟨true, false, [(L.length : Int)]⟩ := by
  have e : smE ⟨#[226, 141, 180]⟩ ⟨true, false, L⟩ = 0 := by rw [smE, right_list h, if_pos rfl, w_rho]; rfl
  exact ⟨e, by rw [smA, e, if_pos rfl, w_rho]; rfl⟩
theorem rho_of {m : Nat} (h : m ≤ 200) : sdE ⟨#[226, 141, 180]⟩ ⟨false, false, [(m : Int)]⟩ ⟨false, false, [7]⟩ = 0 ∧ sdA ⟨#[226, 141, 180]⟩ ⟨false, false, [(m : Int)]⟩ ⟨false, false, [7]⟩ = ⟨true, false, cycL [7] m⟩ := by
  have h1 : ¬ (m : Int) < 0 := by omega
  have h2 : ¬ (200 : Int) < (m : Int) := by omega
  have e : sdE ⟨#[226, 141, 180]⟩ ⟨false, false, [(m : Int)]⟩ ⟨false, false, [7]⟩ = 0 := by rw [sdE, right_one, right_one, w_rho]; simp [mkE2, cntE, numE, numV, h1, h2]
  exact ⟨e, by rw [sdA, e, if_pos rfl, w_rho]; simp [mkA2, numV]⟩
theorem in_up {m : Nat} (h : m ≤ 200) : InL (upL m) := fun x hx => by
  obtain ⟨i, hi, rfl⟩ := List.mem_map.1 hx
  have := List.mem_range.1 hi
  constructor <;> omega
theorem in_int {x : Int} (h : Nu.In x) : InL [x] := fun y hy => by
  obtain rfl : y = x := by simpa using hy
  exact h
theorem kl_len {W : World} {a : Option Addr} {n c : Nat} {L : List Int} (h : KL W (.slice a n c) L) : n = L.length := by
  obtain ⟨_, _, e, _, _⟩ := h.form
  injection e
set_option maxRecDepth 100000 in
set_option maxHeartbeats 8000000 in
theorem counts_true (w : World) (hG : AG w) (n : Int) (hn : -9223372036854775808 ≤ n ∧ n ≤ 9223372036854775807) : Calls Tryz.prog 8 #[.int .i64 n] w fun e w' => e = .returned (.bool true) ∧ Below w.heap.size w w' := by
  have HS0 := Lib.hid (shown12_c w hG)
  have HET : Hid (∀ W, Below w.heap.size w W → Nu.ErrT W) := Lib.hid (fun W h => (hG.below h).ng.2)
  have HB0 := Lib.hid (Below.refl w.heap.size w)
  have HIN : Hid (Nu.In n) := Lib.hid hn
  clear hG
  by_cases h1 : n < 0
  · have HIX := HIN
    have hio := iota_lo h1
    have HIO := Lib.hid hio
    clear hio
    go_enter Tryz.func8, Tryz.ntmps8
    have hc := HS0.out
    have HC := Lib.hid hc
    clear hc
    go_wp2_with fail
    refine HC.out.mono ?_
    rintro e w1 ⟨rfl, hb⟩
    clear HC
    have HB_1 := Lib.hid (HB0.out.trans (hb.mono HB0.out.size))
    clear hb
    have hc := lone_c n w1
    have HC := Lib.hid hc
    clear hc
    go_wp2_with fail
    refine HC.out.mono ?_
    rintro e w2 ⟨va2, vn2, vc2, rfl, hk, hb⟩
    clear HC
    have HB_2 := Lib.hid (HB_1.out.trans (hb.mono HB_1.out.size))
    have HKN2 := Lib.hid hk
    clear hb hk
    have hc := smon_c ⟨#[226, 141, 179]⟩ ⟨false, false, [n]⟩ (.slice va2 vn2 vc2) w2 HKN2.out (in_int HIX.out) (HET.out _ HB_2.out)
    rw [HIO.out.1, HIO.out.2] at hc
    have HC := Lib.hid hc
    clear hc
    go_wp2_with fail
    refine HC.out.mono ?_
    rintro e w3 ⟨va3, vn3, vc3, rfl, hk, hb⟩
    clear HC
    have HK0_3 := Lib.hid (HKN2.out.below hb)
    have HB_3 := Lib.hid (HB_2.out.trans (hb.mono HB_2.out.size))
    have HKN3 := Lib.hid hk
    clear hb hk
    go_wp2_with fail
    go_ret
    exact ⟨rfl, HB_3.out.alloc HB_3.out.size _⟩
  · by_cases h2 : 200 < n
    · have HIX := HIN
      have HIO := Lib.hid (iota_hi h2)
      go_enter Tryz.func8, Tryz.ntmps8
      have hc := HS0.out
      have HC := Lib.hid hc
      clear hc
      go_wp2_with fail
      refine HC.out.mono ?_
      rintro e w1 ⟨rfl, hb⟩
      clear HC
      have HB_1 := Lib.hid (HB0.out.trans (hb.mono HB0.out.size))
      clear hb
      have hc := lone_c n w1
      have HC := Lib.hid hc
      clear hc
      go_wp2_with fail
      refine HC.out.mono ?_
      rintro e w2 ⟨va2, vn2, vc2, rfl, hk, hb⟩
      clear HC
      have HB_2 := Lib.hid (HB_1.out.trans (hb.mono HB_1.out.size))
      have HKN2 := Lib.hid hk
      clear hb hk
      have hc := smon_c ⟨#[226, 141, 179]⟩ ⟨false, false, [n]⟩ (.slice va2 vn2 vc2) w2 HKN2.out (in_int HIX.out) (HET.out _ HB_2.out)
      rw [HIO.out.1, HIO.out.2] at hc
      have HC := Lib.hid hc
      clear hc
      go_wp2_with fail
      refine HC.out.mono ?_
      rintro e w3 ⟨va3, vn3, vc3, rfl, hk, hb⟩
      clear HC
      have HK0_3 := Lib.hid (HKN2.out.below hb)
      have HB_3 := Lib.hid (HB_2.out.trans (hb.mono HB_2.out.size))
      have HKN3 := Lib.hid hk
      clear hb hk
      go_wp2_with fail
      go_ret
      exact ⟨rfl, HB_3.out.alloc HB_3.out.size _⟩
    · obtain ⟨m, rfl⟩ : ∃ m : Nat, n = (m : Int) := ⟨n.toNat, by omega⟩
      have hm : m ≤ 200 := by omega
      have HIX := HIN
      have HIO := Lib.hid (iota_ok hm)
      have HRL := Lib.hid (rho_list (L := upL m) (by rw [upL_len]; exact hm))
      have HRO := Lib.hid (rho_of hm)
      by_cases h0 : m = 0
      · subst h0
        have HIX : Hid (Nu.In 0) := Lib.hid (by decide)
        have HIO : Hid (smE ⟨#[226, 141, 179]⟩ ⟨false, false, [0]⟩ = 0 ∧ smA ⟨#[226, 141, 179]⟩ ⟨false, false, [0]⟩ = ⟨true, false, upL 0⟩) := Lib.hid (iota_ok (m := 0) (by decide))
        have HRL := Lib.hid (rho_list (L := upL 0) (by decide))
        have HRO : Hid (sdE ⟨#[226, 141, 180]⟩ ⟨false, false, [0]⟩ ⟨false, false, [7]⟩ = 0 ∧ sdA ⟨#[226, 141, 180]⟩ ⟨false, false, [0]⟩ ⟨false, false, [7]⟩ = ⟨true, false, cycL [7] 0⟩) := Lib.hid (rho_of (m := 0) (by decide))
        show Calls Tryz.prog 8 #[.int .i64 0] w fun e w' => e = .returned (.bool true) ∧ Below w.heap.size w w'
        go_enter Tryz.func8, Tryz.ntmps8
        have hc := HS0.out
        have HC := Lib.hid hc
        clear hc
        go_wp2_with fail
        refine HC.out.mono ?_
        rintro e w1 ⟨rfl, hb⟩
        clear HC
        have HB_1 := Lib.hid (HB0.out.trans (hb.mono HB0.out.size))
        clear hb
        have hc := lone_c 0 w1
        have HC := Lib.hid hc
        clear hc
        go_wp2_with fail
        refine HC.out.mono ?_
        rintro e w2 ⟨va2, vn2, vc2, rfl, hk, hb⟩
        clear HC
        have HB_2 := Lib.hid (HB_1.out.trans (hb.mono HB_1.out.size))
        have HKN2 := Lib.hid hk
        clear hb hk
        have hc := smon_c ⟨#[226, 141, 179]⟩ ⟨false, false, [0]⟩ (.slice va2 vn2 vc2) w2 HKN2.out (in_int HIX.out) (HET.out _ HB_2.out)
        rw [HIO.out.1, HIO.out.2] at hc
        have HC := Lib.hid hc
        clear hc
        go_wp2_with fail
        refine HC.out.mono ?_
        rintro e w3 ⟨va3, vn3, vc3, rfl, hk, hb⟩
        clear HC
        have HK0_3 := Lib.hid (HKN2.out.below hb)
        have HB_3 := Lib.hid (HB_2.out.trans (hb.mono HB_2.out.size))
        have HKN3 := Lib.hid hk
        clear hb hk
        have HV3 := Lib.hid (kl_len HKN3.out)
        obtain ⟨u4, hu4⟩ : ∃ u, u = w3.alloc (.cells #[.bool true, .bool false, .slice va3 vn3 vc3] 24) := ⟨_, rfl⟩
        have hbu : Below w3.heap.size w3 u4 := by rw [hu4]; exact (Below.refl _ _).alloc (Nat.le_refl _) _
        have HRN4 : Hid (Row u4 w3.heap.size 24 #[.bool true, .bool false, .slice va3 vn3 vc3]) := Lib.hid (by rw [hu4]; exact Row.new _ _ _)
        have HK0_4 := Lib.hid (HKN3.out.below hbu)
        have HB_4 := Lib.hid (HB_3.out.trans (hbu.mono HB_3.out.size))
        have HU4 := Lib.hid hu4
        clear hbu hu4
        have hc := smon_c ⟨#[226, 141, 180]⟩ ⟨true, false, upL 0⟩ (.slice va3 vn3 vc3) u4 HK0_4.out (in_up hm) (HET.out _ HB_4.out)
        rw [HRL.out.1, HRL.out.2] at hc
        rw [HU4.out] at hc
        have HC := Lib.hid hc
        clear hc
        obtain ⟨p0a, p0b, p0c, -, -, -⟩ := srow3 HRN4.out
        rw [HU4.out] at p0a p0b p0c
        go_wp2_with fail
        refine HC.out.mono ?_
        rintro e w5 ⟨va5, vn5, vc5, rfl, hk, hb⟩
        clear HC
        clear p0a p0b p0c
        rw [← HU4.out] at hb
        have HR0_5 := Lib.hid (Row.below HRN4.out hb (Row.lt HRN4.out))
        have HK0_5 := Lib.hid (HK0_4.out.below hb)
        have HB_5 := Lib.hid (HB_4.out.trans (hb.mono HB_4.out.size))
        have HKN5 := Lib.hid hk
        clear hb hk
        have HV5 := Lib.hid (kl_len HKN5.out)
        obtain ⟨u6, hu6⟩ : ∃ u, u = w5.alloc (.cells #[.bool true, .bool false, .slice va5 vn5 vc5] 24) := ⟨_, rfl⟩
        have hbu : Below w5.heap.size w5 u6 := by rw [hu6]; exact (Below.refl _ _).alloc (Nat.le_refl _) _
        have HRN6 : Hid (Row u6 w5.heap.size 24 #[.bool true, .bool false, .slice va5 vn5 vc5]) := Lib.hid (by rw [hu6]; exact Row.new _ _ _)
        have HR0_6 := Lib.hid (Row.below HR0_5.out hbu (Row.lt HR0_5.out))
        have HK0_6 := Lib.hid (HK0_5.out.below hbu)
        have HK1_6 := Lib.hid (HKN5.out.below hbu)
        have HB_6 := Lib.hid (HB_5.out.trans (hbu.mono HB_5.out.size))
        have HU6 := Lib.hid hu6
        clear hbu hu6
        have hc := lone_c 0 u6
        rw [HU6.out] at hc
        have HC := Lib.hid hc
        clear hc
        obtain ⟨p0a, p0b, p0c, -, -, -⟩ := srow3 HR0_6.out
        obtain ⟨p1a, p1b, p1c, -, -, -⟩ := srow3 HRN6.out
        rw [HU6.out] at p0a p0b p0c p1a p1b p1c
        go_wp2_with fail
        refine HC.out.mono ?_
        rintro e w7 ⟨va7, vn7, vc7, rfl, hk, hb⟩
        clear HC
        clear p0a p0b p0c p1a p1b p1c
        rw [← HU6.out] at hb
        have HR0_7 := Lib.hid (Row.below HR0_6.out hb (Row.lt HR0_6.out))
        have HR1_7 := Lib.hid (Row.below HRN6.out hb (Row.lt HRN6.out))
        have HK0_7 := Lib.hid (HK0_6.out.below hb)
        have HK1_7 := Lib.hid (HK1_6.out.below hb)
        have HB_7 := Lib.hid (HB_6.out.trans (hb.mono HB_6.out.size))
        have HKN7 := Lib.hid hk
        clear hb hk
        have hc := lone_c 7 w7
        have HC := Lib.hid hc
        clear hc
        obtain ⟨p0a, p0b, p0c, -, -, -⟩ := srow3 HR0_7.out
        obtain ⟨p1a, p1b, p1c, -, -, -⟩ := srow3 HR1_7.out
        go_wp2_with fail
        refine HC.out.mono ?_
        rintro e w8 ⟨va8, vn8, vc8, rfl, hk, hb⟩
        clear HC
        clear p0a p0b p0c p1a p1b p1c
        have HR0_8 := Lib.hid (Row.below HR0_7.out hb (Row.lt HR0_7.out))
        have HR1_8 := Lib.hid (Row.below HR1_7.out hb (Row.lt HR1_7.out))
        have HK0_8 := Lib.hid (HK0_7.out.below hb)
        have HK1_8 := Lib.hid (HK1_7.out.below hb)
        have HK2_8 := Lib.hid (HKN7.out.below hb)
        have HB_8 := Lib.hid (HB_7.out.trans (hb.mono HB_7.out.size))
        have HKN8 := Lib.hid hk
        clear hb hk
        have hc := sdy_c ⟨#[226, 141, 180]⟩ ⟨false, false, [0]⟩ ⟨false, false, [7]⟩ (.slice va7 vn7 vc7) (.slice va8 vn8 vc8) w8 HK2_8.out HKN8.out (in_int HIX.out) (in_int (by decide)) (HET.out _ HB_8.out)
        rw [HRO.out.1, HRO.out.2] at hc
        have HC := Lib.hid hc
        clear hc
        go_wp2_with fail
        refine HC.out.mono ?_
        rintro e w9 ⟨va9, vn9, vc9, rfl, hk, hb⟩
        clear HC
        have HR0_9 := Lib.hid (Row.below HR0_8.out hb (Row.lt HR0_8.out))
        have HR1_9 := Lib.hid (Row.below HR1_8.out hb (Row.lt HR1_8.out))
        have HK0_9 := Lib.hid (HK0_8.out.below hb)
        have HK1_9 := Lib.hid (HK1_8.out.below hb)
        have HK2_9 := Lib.hid (HK2_8.out.below hb)
        have HK3_9 := Lib.hid (HKN8.out.below hb)
        have HB_9 := Lib.hid (HB_8.out.trans (hb.mono HB_8.out.size))
        have HKN9 := Lib.hid hk
        clear hb hk
        have HV9 := Lib.hid (kl_len HKN9.out)
        obtain ⟨u10, hu10⟩ : ∃ u, u = w9.alloc (.cells #[.bool true, .bool false, .slice va9 vn9 vc9] 24) := ⟨_, rfl⟩
        have hbu : Below w9.heap.size w9 u10 := by rw [hu10]; exact (Below.refl _ _).alloc (Nat.le_refl _) _
        have HRN10 : Hid (Row u10 w9.heap.size 24 #[.bool true, .bool false, .slice va9 vn9 vc9]) := Lib.hid (by rw [hu10]; exact Row.new _ _ _)
        have HR0_10 := Lib.hid (Row.below HR0_9.out hbu (Row.lt HR0_9.out))
        have HR1_10 := Lib.hid (Row.below HR1_9.out hbu (Row.lt HR1_9.out))
        have HK0_10 := Lib.hid (HK0_9.out.below hbu)
        have HK1_10 := Lib.hid (HK1_9.out.below hbu)
        have HK2_10 := Lib.hid (HKN9.out.below hbu)
        have HB_10 := Lib.hid (HB_9.out.trans (hbu.mono HB_9.out.size))
        have HU10 := Lib.hid hu10
        clear hbu hu10
        obtain rfl : vn3 = 0 := by rw [HV3.out, upL_len]
        obtain rfl : vn5 = 1 := HV5.out
        obtain rfl : vn9 = 0 := by rw [HV9.out, cycL_len]
        obtain ⟨g2, o2, c2, hv2, -, hc2⟩ := HK1_10.out.cells (by rw [List.length_singleton]; exact Nat.one_pos)
        obtain rfl : va5 = some ⟨g2, o2, none⟩ := by injection hv2
        have x2 := hc2 0 _ rfl
        rw [Nat.add_zero, upL_len] at x2
        rw [HU10.out] at x2
        change _ = some (Value.int .i64 0) at x2
        clear hc2 hv2
        obtain ⟨p0a, p0b, p0c, -, -, -⟩ := srow3 HR0_10.out
        obtain ⟨p1a, p1b, p1c, -, -, -⟩ := srow3 HR1_10.out
        obtain ⟨p2a, p2b, p2c, -, -, -⟩ := srow3 HRN10.out
        rw [HU10.out] at p0a p0b p0c p1a p1b p1c p2a p2b p2c
        go_wp2_with fail
        all_goals first
          | (go_ret; exact ⟨rfl, by rw [← HU10.out]; exact HB_10.out⟩)
          | (rename_i x b h1 h2 K a; exact absurd h1 (by unfold undef; simp))
      · obtain ⟨j, hj⟩ : ∃ j : Nat, m = j + 1 := ⟨m - 1, by omega⟩
        have hj1 : (j : Int) + 1 = (m : Int) := by omega
        have hj2 : (m : Int) - 1 = (j : Int) := by omega
        have hm0 : ¬ (m : Int) = 0 := by omega
        have hj3 : j < m := by omega
        have hj4 : (j : Int) < (m : Int) := by omega
        have HJ := Lib.hid hj
        clear hj h0
        go_enter Tryz.func8, Tryz.ntmps8
        have hc := HS0.out
        have HC := Lib.hid hc
        clear hc
        go_wp2_with fail
        refine HC.out.mono ?_
        rintro e w1 ⟨rfl, hb⟩
        clear HC
        have HB_1 := Lib.hid (HB0.out.trans (hb.mono HB0.out.size))
        clear hb
        have hc := lone_c (m : Int) w1
        have HC := Lib.hid hc
        clear hc
        go_wp2_with fail
        refine HC.out.mono ?_
        rintro e w2 ⟨va2, vn2, vc2, rfl, hk, hb⟩
        clear HC
        have HB_2 := Lib.hid (HB_1.out.trans (hb.mono HB_1.out.size))
        have HKN2 := Lib.hid hk
        clear hb hk
        have hc := smon_c ⟨#[226, 141, 179]⟩ ⟨false, false, [(m : Int)]⟩ (.slice va2 vn2 vc2) w2 HKN2.out (in_int HIX.out) (HET.out _ HB_2.out)
        rw [HIO.out.1, HIO.out.2] at hc
        have HC := Lib.hid hc
        clear hc
        go_wp2_with fail
        refine HC.out.mono ?_
        rintro e w3 ⟨va3, vn3, vc3, rfl, hk, hb⟩
        clear HC
        have HK0_3 := Lib.hid (HKN2.out.below hb)
        have HB_3 := Lib.hid (HB_2.out.trans (hb.mono HB_2.out.size))
        have HKN3 := Lib.hid hk
        clear hb hk
        have HV3 := Lib.hid (kl_len HKN3.out)
        obtain ⟨u4, hu4⟩ : ∃ u, u = w3.alloc (.cells #[.bool true, .bool false, .slice va3 vn3 vc3] 24) := ⟨_, rfl⟩
        have hbu : Below w3.heap.size w3 u4 := by rw [hu4]; exact (Below.refl _ _).alloc (Nat.le_refl _) _
        have HRN4 : Hid (Row u4 w3.heap.size 24 #[.bool true, .bool false, .slice va3 vn3 vc3]) := Lib.hid (by rw [hu4]; exact Row.new _ _ _)
        have HK0_4 := Lib.hid (HKN3.out.below hbu)
        have HB_4 := Lib.hid (HB_3.out.trans (hbu.mono HB_3.out.size))
        have HU4 := Lib.hid hu4
        clear hbu hu4
        have hc := smon_c ⟨#[226, 141, 180]⟩ ⟨true, false, upL m⟩ (.slice va3 vn3 vc3) u4 HK0_4.out (in_up hm) (HET.out _ HB_4.out)
        rw [HRL.out.1, HRL.out.2] at hc
        rw [HU4.out] at hc
        have HC := Lib.hid hc
        clear hc
        obtain ⟨p0a, p0b, p0c, -, -, -⟩ := srow3 HRN4.out
        rw [HU4.out] at p0a p0b p0c
        go_wp2_with fail
        refine HC.out.mono ?_
        rintro e w5 ⟨va5, vn5, vc5, rfl, hk, hb⟩
        clear HC
        clear p0a p0b p0c
        rw [← HU4.out] at hb
        have HR0_5 := Lib.hid (Row.below HRN4.out hb (Row.lt HRN4.out))
        have HK0_5 := Lib.hid (HK0_4.out.below hb)
        have HB_5 := Lib.hid (HB_4.out.trans (hb.mono HB_4.out.size))
        have HKN5 := Lib.hid hk
        clear hb hk
        have HV5 := Lib.hid (kl_len HKN5.out)
        obtain ⟨u6, hu6⟩ : ∃ u, u = w5.alloc (.cells #[.bool true, .bool false, .slice va5 vn5 vc5] 24) := ⟨_, rfl⟩
        have hbu : Below w5.heap.size w5 u6 := by rw [hu6]; exact (Below.refl _ _).alloc (Nat.le_refl _) _
        have HRN6 : Hid (Row u6 w5.heap.size 24 #[.bool true, .bool false, .slice va5 vn5 vc5]) := Lib.hid (by rw [hu6]; exact Row.new _ _ _)
        have HR0_6 := Lib.hid (Row.below HR0_5.out hbu (Row.lt HR0_5.out))
        have HK0_6 := Lib.hid (HK0_5.out.below hbu)
        have HK1_6 := Lib.hid (HKN5.out.below hbu)
        have HB_6 := Lib.hid (HB_5.out.trans (hbu.mono HB_5.out.size))
        have HU6 := Lib.hid hu6
        clear hbu hu6
        have hc := lone_c (m : Int) u6
        rw [HU6.out] at hc
        have HC := Lib.hid hc
        clear hc
        obtain ⟨p0a, p0b, p0c, -, -, -⟩ := srow3 HR0_6.out
        obtain ⟨p1a, p1b, p1c, -, -, -⟩ := srow3 HRN6.out
        rw [HU6.out] at p0a p0b p0c p1a p1b p1c
        go_wp2_with fail
        refine HC.out.mono ?_
        rintro e w7 ⟨va7, vn7, vc7, rfl, hk, hb⟩
        clear HC
        clear p0a p0b p0c p1a p1b p1c
        rw [← HU6.out] at hb
        have HR0_7 := Lib.hid (Row.below HR0_6.out hb (Row.lt HR0_6.out))
        have HR1_7 := Lib.hid (Row.below HRN6.out hb (Row.lt HRN6.out))
        have HK0_7 := Lib.hid (HK0_6.out.below hb)
        have HK1_7 := Lib.hid (HK1_6.out.below hb)
        have HB_7 := Lib.hid (HB_6.out.trans (hb.mono HB_6.out.size))
        have HKN7 := Lib.hid hk
        clear hb hk
        have hc := lone_c 7 w7
        have HC := Lib.hid hc
        clear hc
        obtain ⟨p0a, p0b, p0c, -, -, -⟩ := srow3 HR0_7.out
        obtain ⟨p1a, p1b, p1c, -, -, -⟩ := srow3 HR1_7.out
        go_wp2_with fail
        refine HC.out.mono ?_
        rintro e w8 ⟨va8, vn8, vc8, rfl, hk, hb⟩
        clear HC
        clear p0a p0b p0c p1a p1b p1c
        have HR0_8 := Lib.hid (Row.below HR0_7.out hb (Row.lt HR0_7.out))
        have HR1_8 := Lib.hid (Row.below HR1_7.out hb (Row.lt HR1_7.out))
        have HK0_8 := Lib.hid (HK0_7.out.below hb)
        have HK1_8 := Lib.hid (HK1_7.out.below hb)
        have HK2_8 := Lib.hid (HKN7.out.below hb)
        have HB_8 := Lib.hid (HB_7.out.trans (hb.mono HB_7.out.size))
        have HKN8 := Lib.hid hk
        clear hb hk
        have hc := sdy_c ⟨#[226, 141, 180]⟩ ⟨false, false, [(m : Int)]⟩ ⟨false, false, [7]⟩ (.slice va7 vn7 vc7) (.slice va8 vn8 vc8) w8 HK2_8.out HKN8.out (in_int HIX.out) (in_int (by decide)) (HET.out _ HB_8.out)
        rw [HRO.out.1, HRO.out.2] at hc
        have HC := Lib.hid hc
        clear hc
        go_wp2_with fail
        refine HC.out.mono ?_
        rintro e w9 ⟨va9, vn9, vc9, rfl, hk, hb⟩
        clear HC
        have HR0_9 := Lib.hid (Row.below HR0_8.out hb (Row.lt HR0_8.out))
        have HR1_9 := Lib.hid (Row.below HR1_8.out hb (Row.lt HR1_8.out))
        have HK0_9 := Lib.hid (HK0_8.out.below hb)
        have HK1_9 := Lib.hid (HK1_8.out.below hb)
        have HK2_9 := Lib.hid (HK2_8.out.below hb)
        have HK3_9 := Lib.hid (HKN8.out.below hb)
        have HB_9 := Lib.hid (HB_8.out.trans (hb.mono HB_8.out.size))
        have HKN9 := Lib.hid hk
        clear hb hk
        have HV9 := Lib.hid (kl_len HKN9.out)
        obtain ⟨u10, hu10⟩ : ∃ u, u = w9.alloc (.cells #[.bool true, .bool false, .slice va9 vn9 vc9] 24) := ⟨_, rfl⟩
        have hbu : Below w9.heap.size w9 u10 := by rw [hu10]; exact (Below.refl _ _).alloc (Nat.le_refl _) _
        have HRN10 : Hid (Row u10 w9.heap.size 24 #[.bool true, .bool false, .slice va9 vn9 vc9]) := Lib.hid (by rw [hu10]; exact Row.new _ _ _)
        have HR0_10 := Lib.hid (Row.below HR0_9.out hbu (Row.lt HR0_9.out))
        have HR1_10 := Lib.hid (Row.below HR1_9.out hbu (Row.lt HR1_9.out))
        have HK0_10 := Lib.hid (HK0_9.out.below hbu)
        have HK1_10 := Lib.hid (HK1_9.out.below hbu)
        have HK2_10 := Lib.hid (HKN9.out.below hbu)
        have HB_10 := Lib.hid (HB_9.out.trans (hbu.mono HB_9.out.size))
        have HU10 := Lib.hid hu10
        clear hbu hu10
        obtain rfl : vn3 = m := by rw [HV3.out, upL_len]
        obtain rfl : vn5 = 1 := HV5.out
        obtain rfl : vn9 = vn3 := by rw [HV9.out, cycL_len]
        obtain ⟨g2, o2, c2, hv2, -, hc2⟩ := HK1_10.out.cells (by rw [List.length_singleton]; exact Nat.one_pos)
        obtain rfl : va5 = some ⟨g2, o2, none⟩ := by injection hv2
        have x2 := hc2 0 _ rfl
        rw [Nat.add_zero, upL_len] at x2
        rw [HU10.out] at x2
        obtain ⟨g1, o1, c1, hv1, -, hc1⟩ := HK0_10.out.cells (by rw [upL_len]; omega)
        obtain rfl : va3 = some ⟨g1, o1, none⟩ := by injection hv1
        have x1 := hc1 j _ (upL_at (by omega))
        rw [hj1, HU10.out] at x1
        obtain ⟨g3, o3, c3, hv3, -, hc3⟩ := HK2_10.out.cells (by rw [cycL_len]; omega)
        obtain rfl : va9 = some ⟨g3, o3, none⟩ := by injection hv3
        have x3 := hc3 j _ (cycL_at [7] (by omega))
        rw [show j % ([7] : List Int).length = 0 from Nat.mod_one _, HU10.out] at x3
        change _ = some (Value.int .i64 7) at x3
        clear hc1 hc3 hv1 hv3
        clear hc2 hv2
        obtain ⟨p0a, p0b, p0c, -, -, -⟩ := srow3 HR0_10.out
        obtain ⟨p1a, p1b, p1c, -, -, -⟩ := srow3 HR1_10.out
        obtain ⟨p2a, p2b, p2c, -, -, -⟩ := srow3 HRN10.out
        rw [HU10.out] at p0a p0b p0c p1a p1b p1c p2a p2b p2c
        go_wp2_with fail
        go_ret
        exact ⟨rfl, by rw [← HU10.out]; exact HB_10.out⟩
end Go.Proofs.YteclpoooggcdoaaGreatDoor.Ar
