/- number's checks and reckonings, where there is more to them. -/
import Derived.Test.YthlkgfplffdiaaaGreatDoorNuB
namespace Go.Proofs.YthlkgfplffdiaaaGreatDoor.Nu
open Go Go.RowKit
attribute [local go_sem] Oper.semAt_some

set_option maxRecDepth 100000 in
set_option maxHeartbeats 2000000 in
theorem areBits_c (a : Addr) (x y : Int)  (w : World) (hE : ES w a) : Calls Tryz.prog 100 #[pairV x y] w fun e w' => e = .returned (if isB x && isB y then .nilIface else errV a) ∧ Below w.heap.size w w' := by
  have HB := Lib.hid ((Below.refl w.heap.size w).alloc (Nat.le_refl _) (.cells #[.int .i64 x, .int .i64 y] 95))
  have HI := Lib.hid (fun n w => isBit_c n w)
  have hE1 := hE.below HB.out
  have e1 := hE1.1
  have e2 := hE1.2
  clear hE hE1
  cases t1 : isB x
  · simp only [Bool.false_and]
    go_enter Tryz.func100, Tryz.ntmps100
    go_wp2_with (go_at_call 122; refine (HI.out _ _).mono ?_; rintro e w' ⟨rfl, rfl⟩; simp only [t1])
    go_ret
    exact ⟨rfl, HB.out⟩
  · simp only [Bool.true_and]
    cases t2 : isB y
    · simp only [Bool.false_eq_true, if_false]
      go_enter Tryz.func100, Tryz.ntmps100
      go_wp2_with (go_at_call 122; refine (HI.out _ _).mono ?_; rintro e w' ⟨rfl, rfl⟩; simp only [t1, t2])
      go_ret
      exact ⟨rfl, HB.out⟩
    · simp only [if_true]
      go_enter Tryz.func100, Tryz.ntmps100
      go_wp2_with (go_at_call 122; refine (HI.out _ _).mono ?_; rintro e w' ⟨rfl, rfl⟩; simp only [t1, t2])
      go_ret
      exact ⟨rfl, HB.out⟩
set_option maxRecDepth 100000 in
set_option maxHeartbeats 2000000 in
theorem prodFits_c (x y : Int) (hx : In x) (hy : In y) (w : World) : Calls Tryz.prog 129 #[pairV x y] w fun e w' => e = .returned (failV (decide (In (x * y)))) ∧ Below w.heap.size w w' := by
  have hb0 := (Below.refl w.heap.size w).alloc (Nat.le_refl _) (.cells #[.int .i64 x, .int .i64 y] 95)
  have HB := Lib.hid hb0
  have HF := Lib.hid (fun b w => fits_c b w)
  have HS := Lib.hid (fun v hv w => size_c v hv w)
  obtain ⟨a, ha⟩ : ∃ a, a = x.natAbs := ⟨_, rfl⟩
  obtain ⟨b, hb⟩ : ∃ b, b = y.natAbs := ⟨_, rfl⟩
  have HA := Lib.hid ha.symm
  have HB2 := Lib.hid hb.symm
  have HT := Lib.hid (fun w => times_c a b (by omega) (by omega) w)
  have c1 : (w.alloc (.cells #[.int .i64 x, .int .i64 y] 95)).cell? ⟨w.heap.size, 0, none⟩ = some (.int .i64 x) := by simp
  have c2 : (w.alloc (.cells #[.int .i64 x, .int .i64 y] 95)).cell? ⟨w.heap.size, 1, none⟩ = some (.int .i64 y) := by simp
  have hN : (x * y).natAbs = a * b := by rw [ha, hb, Int.natAbs_mul]
  obtain ⟨N, hNN⟩ : ∃ N, N = a * b := ⟨_, rfl⟩
  rw [← hNN] at hN
  obtain ⟨z, hz⟩ : ∃ z, z = x * y := ⟨_, rfl⟩
  rw [← hz] at hN ⊢
  clear hb0
  by_cases hsx : x < 0
  · have tx : decide (x < 0) = true := by simp [hsx]
    by_cases hsy : y < 0
    · have ty : decide (y < 0) = true := by simp [hsy]
      have hs : 0 ≤ z := by rw [hz]; exact Int.le_of_lt (Int.mul_pos_of_neg_of_neg hsx hsy)
      by_cases hroom : N < 18446744073709551616
      · have HV : Hid (timesV a b = .tuple #[.int .u64 (N : Int), .bool true]) := Lib.hid (by unfold timesV; rw [← hNN, if_pos hroom])
        have he : decide ((N : Int) ≤ 9223372036854775807) = decide (In z) := by rw [Bool.eq_iff_iff]; simp only [decide_eq_true_eq]; omega
        have HE := Lib.hid he
        clear hN hNN he ha hb hz hs
        go_enter Tryz.func129, Tryz.ntmps129
        go_wp2_with fail
        go_region_held_law (fun w' => w'.cell? ⟨w.heap.size, 0, none⟩ = some (.int .i64 x) ∧ w'.cell? ⟨w.heap.size, 1, none⟩ = some (.int .i64 y)) (first | exact ⟨c1, c2⟩ | go_keep) (first | (go_at_call 153; refine (HS.out _ (by first | exact hx | exact hy) _).mono ?_; rintro e w' ⟨rfl, rfl⟩; first | rw [HA.out] | rw [HB2.out]) | (go_at_call 152; refine (HT.out _).mono ?_; rintro e w' ⟨rfl, rfl⟩; rw [HV.out]))
        go_wp2_with (go_at_call 121; refine (HF.out _ _).mono ?_; rintro e w' ⟨rfl, rfl⟩)
        go_ret
        exact ⟨by rw [← HE.out]; rfl, HB.out.drew⟩
      · have HV : Hid (timesV a b = .tuple #[.int .u64 0, .bool false]) := Lib.hid (by unfold timesV; rw [← hNN, if_neg hroom])
        have he : false = decide (In z) := by symm; rw [decide_eq_false_iff_not]; omega
        have HE := Lib.hid he
        clear hN hNN he ha hb hz hs
        go_enter Tryz.func129, Tryz.ntmps129
        go_wp2_with fail
        go_region_held_law (fun w' => w'.cell? ⟨w.heap.size, 0, none⟩ = some (.int .i64 x) ∧ w'.cell? ⟨w.heap.size, 1, none⟩ = some (.int .i64 y)) (first | exact ⟨c1, c2⟩ | go_keep) (first | (go_at_call 153; refine (HS.out _ (by first | exact hx | exact hy) _).mono ?_; rintro e w' ⟨rfl, rfl⟩; first | rw [HA.out] | rw [HB2.out]) | (go_at_call 152; refine (HT.out _).mono ?_; rintro e w' ⟨rfl, rfl⟩; rw [HV.out]))
        go_wp2_with (go_at_call 121; refine (HF.out _ _).mono ?_; rintro e w' ⟨rfl, rfl⟩)
        go_ret
        exact ⟨by rw [← HE.out]; rfl, HB.out.drew⟩
    · have ty : decide (y < 0) = false := by simp; omega
      have hs : z ≤ 0 := by rw [hz]; exact Int.mul_nonpos_of_nonpos_of_nonneg (Int.le_of_lt hsx) (Int.not_lt.1 hsy)
      by_cases hroom : N < 18446744073709551616
      · have HV : Hid (timesV a b = .tuple #[.int .u64 (N : Int), .bool true]) := Lib.hid (by unfold timesV; rw [← hNN, if_pos hroom])
        have he : decide ((N : Int) ≤ 9223372036854775808) = decide (In z) := by rw [Bool.eq_iff_iff]; simp only [decide_eq_true_eq]; omega
        have HE := Lib.hid he
        clear hN hNN he ha hb hz hs
        go_enter Tryz.func129, Tryz.ntmps129
        go_wp2_with fail
        go_region_held_law (fun w' => w'.cell? ⟨w.heap.size, 0, none⟩ = some (.int .i64 x) ∧ w'.cell? ⟨w.heap.size, 1, none⟩ = some (.int .i64 y)) (first | exact ⟨c1, c2⟩ | go_keep) (first | (go_at_call 153; refine (HS.out _ (by first | exact hx | exact hy) _).mono ?_; rintro e w' ⟨rfl, rfl⟩; first | rw [HA.out] | rw [HB2.out]) | (go_at_call 152; refine (HT.out _).mono ?_; rintro e w' ⟨rfl, rfl⟩; rw [HV.out]))
        go_wp2_with (go_at_call 121; refine (HF.out _ _).mono ?_; rintro e w' ⟨rfl, rfl⟩)
        go_ret
        exact ⟨by rw [← HE.out]; rfl, HB.out.drew⟩
      · have HV : Hid (timesV a b = .tuple #[.int .u64 0, .bool false]) := Lib.hid (by unfold timesV; rw [← hNN, if_neg hroom])
        have he : false = decide (In z) := by symm; rw [decide_eq_false_iff_not]; omega
        have HE := Lib.hid he
        clear hN hNN he ha hb hz hs
        go_enter Tryz.func129, Tryz.ntmps129
        go_wp2_with fail
        go_region_held_law (fun w' => w'.cell? ⟨w.heap.size, 0, none⟩ = some (.int .i64 x) ∧ w'.cell? ⟨w.heap.size, 1, none⟩ = some (.int .i64 y)) (first | exact ⟨c1, c2⟩ | go_keep) (first | (go_at_call 153; refine (HS.out _ (by first | exact hx | exact hy) _).mono ?_; rintro e w' ⟨rfl, rfl⟩; first | rw [HA.out] | rw [HB2.out]) | (go_at_call 152; refine (HT.out _).mono ?_; rintro e w' ⟨rfl, rfl⟩; rw [HV.out]))
        go_wp2_with (go_at_call 121; refine (HF.out _ _).mono ?_; rintro e w' ⟨rfl, rfl⟩)
        go_ret
        exact ⟨by rw [← HE.out]; rfl, HB.out.drew⟩
  · have tx : decide (x < 0) = false := by simp; omega
    by_cases hsy : y < 0
    · have ty : decide (y < 0) = true := by simp [hsy]
      have hs : z ≤ 0 := by rw [hz]; exact Int.mul_nonpos_of_nonneg_of_nonpos (Int.not_lt.1 hsx) (Int.le_of_lt hsy)
      by_cases hroom : N < 18446744073709551616
      · have HV : Hid (timesV a b = .tuple #[.int .u64 (N : Int), .bool true]) := Lib.hid (by unfold timesV; rw [← hNN, if_pos hroom])
        have he : decide ((N : Int) ≤ 9223372036854775808) = decide (In z) := by rw [Bool.eq_iff_iff]; simp only [decide_eq_true_eq]; omega
        have HE := Lib.hid he
        clear hN hNN he ha hb hz hs
        go_enter Tryz.func129, Tryz.ntmps129
        go_wp2_with fail
        go_region_held_law (fun w' => w'.cell? ⟨w.heap.size, 0, none⟩ = some (.int .i64 x) ∧ w'.cell? ⟨w.heap.size, 1, none⟩ = some (.int .i64 y)) (first | exact ⟨c1, c2⟩ | go_keep) (first | (go_at_call 153; refine (HS.out _ (by first | exact hx | exact hy) _).mono ?_; rintro e w' ⟨rfl, rfl⟩; first | rw [HA.out] | rw [HB2.out]) | (go_at_call 152; refine (HT.out _).mono ?_; rintro e w' ⟨rfl, rfl⟩; rw [HV.out]))
        go_wp2_with (go_at_call 121; refine (HF.out _ _).mono ?_; rintro e w' ⟨rfl, rfl⟩)
        go_ret
        exact ⟨by rw [← HE.out]; rfl, HB.out.drew⟩
      · have HV : Hid (timesV a b = .tuple #[.int .u64 0, .bool false]) := Lib.hid (by unfold timesV; rw [← hNN, if_neg hroom])
        have he : false = decide (In z) := by symm; rw [decide_eq_false_iff_not]; omega
        have HE := Lib.hid he
        clear hN hNN he ha hb hz hs
        go_enter Tryz.func129, Tryz.ntmps129
        go_wp2_with fail
        go_region_held_law (fun w' => w'.cell? ⟨w.heap.size, 0, none⟩ = some (.int .i64 x) ∧ w'.cell? ⟨w.heap.size, 1, none⟩ = some (.int .i64 y)) (first | exact ⟨c1, c2⟩ | go_keep) (first | (go_at_call 153; refine (HS.out _ (by first | exact hx | exact hy) _).mono ?_; rintro e w' ⟨rfl, rfl⟩; first | rw [HA.out] | rw [HB2.out]) | (go_at_call 152; refine (HT.out _).mono ?_; rintro e w' ⟨rfl, rfl⟩; rw [HV.out]))
        go_wp2_with (go_at_call 121; refine (HF.out _ _).mono ?_; rintro e w' ⟨rfl, rfl⟩)
        go_ret
        exact ⟨by rw [← HE.out]; rfl, HB.out.drew⟩
    · have ty : decide (y < 0) = false := by simp; omega
      have hs : 0 ≤ z := by rw [hz]; exact Int.mul_nonneg (Int.not_lt.1 hsx) (Int.not_lt.1 hsy)
      by_cases hroom : N < 18446744073709551616
      · have HV : Hid (timesV a b = .tuple #[.int .u64 (N : Int), .bool true]) := Lib.hid (by unfold timesV; rw [← hNN, if_pos hroom])
        have he : decide ((N : Int) ≤ 9223372036854775807) = decide (In z) := by rw [Bool.eq_iff_iff]; simp only [decide_eq_true_eq]; omega
        have HE := Lib.hid he
        clear hN hNN he ha hb hz hs
        go_enter Tryz.func129, Tryz.ntmps129
        go_wp2_with fail
        go_region_held_law (fun w' => w'.cell? ⟨w.heap.size, 0, none⟩ = some (.int .i64 x) ∧ w'.cell? ⟨w.heap.size, 1, none⟩ = some (.int .i64 y)) (first | exact ⟨c1, c2⟩ | go_keep) (first | (go_at_call 153; refine (HS.out _ (by first | exact hx | exact hy) _).mono ?_; rintro e w' ⟨rfl, rfl⟩; first | rw [HA.out] | rw [HB2.out]) | (go_at_call 152; refine (HT.out _).mono ?_; rintro e w' ⟨rfl, rfl⟩; rw [HV.out]))
        go_wp2_with (go_at_call 121; refine (HF.out _ _).mono ?_; rintro e w' ⟨rfl, rfl⟩)
        go_ret
        exact ⟨by rw [← HE.out]; rfl, HB.out.drew⟩
      · have HV : Hid (timesV a b = .tuple #[.int .u64 0, .bool false]) := Lib.hid (by unfold timesV; rw [← hNN, if_neg hroom])
        have he : false = decide (In z) := by symm; rw [decide_eq_false_iff_not]; omega
        have HE := Lib.hid he
        clear hN hNN he ha hb hz hs
        go_enter Tryz.func129, Tryz.ntmps129
        go_wp2_with fail
        go_region_held_law (fun w' => w'.cell? ⟨w.heap.size, 0, none⟩ = some (.int .i64 x) ∧ w'.cell? ⟨w.heap.size, 1, none⟩ = some (.int .i64 y)) (first | exact ⟨c1, c2⟩ | go_keep) (first | (go_at_call 153; refine (HS.out _ (by first | exact hx | exact hy) _).mono ?_; rintro e w' ⟨rfl, rfl⟩; first | rw [HA.out] | rw [HB2.out]) | (go_at_call 152; refine (HT.out _).mono ?_; rintro e w' ⟨rfl, rfl⟩; rw [HV.out]))
        go_wp2_with (go_at_call 121; refine (HF.out _ _).mono ?_; rintro e w' ⟨rfl, rfl⟩)
        go_ret
        exact ⟨by rw [← HE.out]; rfl, HB.out.drew⟩
end Go.Proofs.YthlkgfplffdiaaaGreatDoor.Nu
