/- The plain answers' sums, products, quotients (by wip/gen/mknuref.py). -/
import Derived.Test.YtjafngieohpdaaaDoorNuShown
namespace Go.Proofs.YtjafngieohpdaaaDoor.Nu
open Go Go.RowKit Go.Shelf
attribute [local go_sem] Oper.semAt_some

set_option maxRecDepth 100000 in
set_option maxHeartbeats 1000000 in
theorem radd_c (x y : Int) (hx : In x) (hy : In y) (w : World) : Calls Tryd.prog 24 #[.int .i64 x, .int .i64 y] w fun e w' => e = .returned (numV (ovr (x + y))) ∧ w = w' := by
  rcases (by omega : (0 < x ∧ 0 < y) ∨ (x < 0 ∧ y < 0) ∨ (x = 0 ∧ In (x + y)) ∨ (0 < x ∧ y ≤ 0) ∨ (x < 0 ∧ 0 ≤ y)) with h | h | h | h | h
  · by_cases hI : In (x + y)
    · have HE : Hid (ovr (x + y) = (wrap64 (x + y), 0)) := Lib.hid (by rw [wrap_in hI]; exact if_pos hI)
      have t0 : decide (0 < x) = true := by simp; omega
      have t1 : decide (0 < y) = true := by simp; omega
      have t2 : decide (x < 0) = false := by simp; omega
      have tw : decide (wrap64 (x + y) < 0) = false := by rw [wrap_in hI]; simp; omega
      clear h hI
      go_enter Tryd.func24, Tryd.ntmps24
      go_wp2
      go_ret2
      exact ⟨by rw [HE.out]; rfl, rfl⟩
    · have HE : Hid (ovr (x + y) = (0, 100)) := Lib.hid (if_neg hI)
      have t0 : decide (0 < x) = true := by simp; omega
      have t1 : decide (0 < y) = true := by simp; omega
      have t2 : decide (x < 0) = false := by simp; omega
      have tw : decide (wrap64 (x + y) < 0) = true := by unfold wrap64; simp; omega
      clear h hI
      go_enter Tryd.func24, Tryd.ntmps24
      go_wp2
      go_ret2
      exact ⟨by rw [HE.out]; rfl, rfl⟩
  · by_cases hI : In (x + y)
    · have HE : Hid (ovr (x + y) = (wrap64 (x + y), 0)) := Lib.hid (by rw [wrap_in hI]; exact if_pos hI)
      have t0 : decide (0 < x) = false := by simp; omega
      have t1 : decide (x < 0) = true := by simp; omega
      have t2 : decide (y < 0) = true := by simp; omega
      have tw : decide (0 ≤ wrap64 (x + y)) = false := by rw [wrap_in hI]; simp; omega
      clear h hI
      go_enter Tryd.func24, Tryd.ntmps24
      go_wp2
      go_ret2
      exact ⟨by rw [HE.out]; rfl, rfl⟩
    · have HE : Hid (ovr (x + y) = (0, 100)) := Lib.hid (if_neg hI)
      have t0 : decide (0 < x) = false := by simp; omega
      have t1 : decide (x < 0) = true := by simp; omega
      have t2 : decide (y < 0) = true := by simp; omega
      have tw : decide (0 ≤ wrap64 (x + y)) = true := by unfold wrap64; simp; omega
      clear h hI
      go_enter Tryd.func24, Tryd.ntmps24
      go_wp2
      go_ret2
      exact ⟨by rw [HE.out]; rfl, rfl⟩
  · have HE : Hid (ovr (x + y) = (wrap64 (x + y), 0)) := Lib.hid (by rw [wrap_in (by omega : In (x + y))]; exact if_pos (by omega))
    have t0 : decide (0 < x) = false := by simp; omega
    have t1 : decide (x < 0) = false := by simp; omega
    clear h
    go_enter Tryd.func24, Tryd.ntmps24
    go_wp2
    go_ret2
    exact ⟨by rw [HE.out]; rfl, rfl⟩
  · have HE : Hid (ovr (x + y) = (wrap64 (x + y), 0)) := Lib.hid (by rw [wrap_in (by omega : In (x + y))]; exact if_pos (by omega))
    have t0 : decide (0 < x) = true := by simp; omega
    have t1 : decide (0 < y) = false := by simp; omega
    have t2 : decide (x < 0) = false := by simp; omega
    clear h
    go_enter Tryd.func24, Tryd.ntmps24
    go_wp2
    go_ret2
    exact ⟨by rw [HE.out]; rfl, rfl⟩
  · have HE : Hid (ovr (x + y) = (wrap64 (x + y), 0)) := Lib.hid (by rw [wrap_in (by omega : In (x + y))]; exact if_pos (by omega))
    have t0 : decide (0 < x) = false := by simp; omega
    have t1 : decide (x < 0) = true := by simp; omega
    have t2 : decide (y < 0) = false := by simp; omega
    clear h
    go_enter Tryd.func24, Tryd.ntmps24
    go_wp2
    go_ret2
    exact ⟨by rw [HE.out]; rfl, rfl⟩
set_option maxRecDepth 100000 in
set_option maxHeartbeats 1000000 in
theorem rtake_c (x y : Int) (hx : In x) (hy : In y) (w : World) : Calls Tryd.prog 25 #[.int .i64 x, .int .i64 y] w fun e w' => e = .returned (numV (ovr (x - y))) ∧ w = w' := by
  rcases (by omega : (0 ≤ x ∧ y < 0) ∨ (x < 0 ∧ 0 < y) ∨ (0 ≤ x ∧ 0 ≤ y) ∨ (x < 0 ∧ y ≤ 0)) with h | h | h | h
  · by_cases hI : In (x - y)
    · have HE : Hid (ovr (x - y) = (wrap64 (x - y), 0)) := Lib.hid (by rw [wrap_in hI]; exact if_pos hI)
      have t0 : decide (0 ≤ x) = true := by simp; omega
      have t1 : decide (y < 0) = true := by simp; omega
      have t2 : decide (x < 0) = false := by simp; omega
      have tw : decide (wrap64 (x - y) < 0) = false := by rw [wrap_in hI]; simp; omega
      clear h hI
      go_enter Tryd.func25, Tryd.ntmps25
      go_wp2
      go_ret2
      exact ⟨by rw [HE.out]; rfl, rfl⟩
    · have HE : Hid (ovr (x - y) = (0, 100)) := Lib.hid (if_neg hI)
      have t0 : decide (0 ≤ x) = true := by simp; omega
      have t1 : decide (y < 0) = true := by simp; omega
      have t2 : decide (x < 0) = false := by simp; omega
      have tw : decide (wrap64 (x - y) < 0) = true := by unfold wrap64; simp; omega
      clear h hI
      go_enter Tryd.func25, Tryd.ntmps25
      go_wp2
      go_ret2
      exact ⟨by rw [HE.out]; rfl, rfl⟩
  · by_cases hI : In (x - y)
    · have HE : Hid (ovr (x - y) = (wrap64 (x - y), 0)) := Lib.hid (by rw [wrap_in hI]; exact if_pos hI)
      have t0 : decide (0 ≤ x) = false := by simp; omega
      have t1 : decide (x < 0) = true := by simp; omega
      have t2 : decide (0 < y) = true := by simp; omega
      have tw : decide (0 ≤ wrap64 (x - y)) = false := by rw [wrap_in hI]; simp; omega
      clear h hI
      go_enter Tryd.func25, Tryd.ntmps25
      go_wp2
      go_ret2
      exact ⟨by rw [HE.out]; rfl, rfl⟩
    · have HE : Hid (ovr (x - y) = (0, 100)) := Lib.hid (if_neg hI)
      have t0 : decide (0 ≤ x) = false := by simp; omega
      have t1 : decide (x < 0) = true := by simp; omega
      have t2 : decide (0 < y) = true := by simp; omega
      have tw : decide (0 ≤ wrap64 (x - y)) = true := by unfold wrap64; simp; omega
      clear h hI
      go_enter Tryd.func25, Tryd.ntmps25
      go_wp2
      go_ret2
      exact ⟨by rw [HE.out]; rfl, rfl⟩
  · have HE : Hid (ovr (x - y) = (wrap64 (x - y), 0)) := Lib.hid (by rw [wrap_in (by omega : In (x - y))]; exact if_pos (by omega))
    have t0 : decide (0 ≤ x) = true := by simp; omega
    have t1 : decide (y < 0) = false := by simp; omega
    have t2 : decide (x < 0) = false := by simp; omega
    clear h
    go_enter Tryd.func25, Tryd.ntmps25
    go_wp2
    go_ret2
    exact ⟨by rw [HE.out]; rfl, rfl⟩
  · have HE : Hid (ovr (x - y) = (wrap64 (x - y), 0)) := Lib.hid (by rw [wrap_in (by omega : In (x - y))]; exact if_pos (by omega))
    have t0 : decide (0 ≤ x) = false := by simp; omega
    have t1 : decide (x < 0) = true := by simp; omega
    have t2 : decide (0 < y) = false := by simp; omega
    clear h
    go_enter Tryd.func25, Tryd.ntmps25
    go_wp2
    go_ret2
    exact ⟨by rw [HE.out]; rfl, rfl⟩
set_option maxRecDepth 100000 in
set_option maxHeartbeats 1000000 in
theorem least_c  (w : World) : Calls Tryd.prog 37 #[] w fun e w' => e = .returned (.int .i64 (-9223372036854775808)) ∧ w = w' := by
  go_enter Tryd.func37, Tryd.ntmps37
  go_wp2
  go_ret
  exact ⟨rfl, rfl⟩
set_option maxRecDepth 100000 in
set_option maxHeartbeats 1000000 in
theorem bit_c (b : Bool) (w : World) : Calls Tryd.prog 31 #[.bool b] w fun e w' => e = .returned (.int .i64 (bit b)) ∧ w = w' := by
  cases b
  · go_enter Tryd.func31, Tryd.ntmps31
    go_wp2
    go_ret
    exact ⟨rfl, rfl⟩
  · go_enter Tryd.func31, Tryd.ntmps31
    go_wp2
    go_ret
    exact ⟨rfl, rfl⟩
theorem tdiv_in (p y : Int) (hp : In p) (h : ¬ (p = -9223372036854775808 ∧ y = -1)) : In (p.tdiv y) := by
  have h3 : (p.tdiv y).natAbs = p.natAbs / y.natAbs := Int.natAbs_tdiv p y
  have h4 : p.natAbs / y.natAbs ≤ p.natAbs := Nat.div_le_self _ _
  by_cases hm : p = -9223372036854775808
  · by_cases hy1 : y = 1
    · subst hy1
      rw [Int.tdiv_one]
      exact hp
    · by_cases hy0 : y = 0
      · subst hy0
        rw [Int.tdiv_zero]
        decide
      · have h5 : p.natAbs / y.natAbs ≤ p.natAbs / 2 := Nat.div_le_div_left (by omega) (by omega)
        omega
  · omega
theorem mul_test (x y : Int) (hx : In x) (hy : In y) (h0 : y ≠ 0) (hs : ¬ (x = -9223372036854775808 ∧ y = -1)) : (wrap64 ((wrap64 (x * y)).tdiv y) != x) = !decide (In (x * y)) := by
  have hq : In ((wrap64 (x * y)).tdiv y) := by
    refine tdiv_in _ _ (by unfold wrap64; omega) (fun h => ?_)
    obtain ⟨ha, hb⟩ := h
    subst hb
    rw [Int.mul_neg_one] at ha
    unfold wrap64 at ha
    omega
  rw [wrap_in hq]
  clear hq
  obtain ⟨z, hz⟩ : ∃ z, z = x * y := ⟨_, rfl⟩
  rw [← hz]
  by_cases hI : In z
  · rw [wrap_in hI, decide_eq_true hI, hz, Int.mul_tdiv_cancel x h0]
    simp
  · rw [decide_eq_false hI]
    have h1 := Int.mul_tdiv_add_tmod (wrap64 z) y
    have h2 : ((wrap64 z).tmod y).natAbs < y.natAbs := by rw [Int.natAbs_tmod]; exact Nat.mod_lt _ (by omega)
    simp only [Bool.not_false, bne_iff_ne]
    intro e
    rw [e, Int.mul_comm, ← hz] at h1
    generalize (wrap64 z).tmod y = r at *
    unfold wrap64 at h1
    omega
set_option maxRecDepth 100000 in
set_option maxHeartbeats 1000000 in
theorem rtimes_c (x y : Int) (hx : In x) (hy : In y) (w : World) : Calls Tryd.prog 26 #[.int .i64 x, .int .i64 y] w fun e w' => e = .returned (numV (ovr (x * y))) ∧ w = w' := by
  have z0 : ovr 0 = (0, 0) := rfl
  by_cases h0 : x = 0
  · have t0 : (x == 0) = true := by simp [h0]
    have HE : Hid (ovr (x * y) = (0, 0)) := Lib.hid (by rw [h0, Int.zero_mul]; rfl)
    clear h0 z0
    go_enter Tryd.func26, Tryd.ntmps26
    go_wp2_with (go_at_call 37; refine (least_c _).mono ?_; rintro e w' ⟨rfl, rfl⟩)
    go_ret2
    exact ⟨by rw [HE.out]; rfl, rfl⟩
  · have t0 : (x == 0) = false := by simp [h0]
    by_cases h1 : y = 0
    · have t1 : (y == 0) = true := by simp [h1]
      have HE : Hid (ovr (x * y) = (0, 0)) := Lib.hid (by rw [h1, Int.mul_zero]; rfl)
      clear h0 h1 z0
      go_enter Tryd.func26, Tryd.ntmps26
      go_wp2_with (go_at_call 37; refine (least_c _).mono ?_; rintro e w' ⟨rfl, rfl⟩)
      go_ret2
      exact ⟨by rw [HE.out]; rfl, rfl⟩
    · have t1 : (y == 0) = false := by simp [h1]
      have ht := mul_test x y hx hy h1
      by_cases h2 : x = -9223372036854775808 ∧ y = -1
      · have t2 : (x == -9223372036854775808) = true := by simp [h2.1]
        have t3 : (y == -1) = true := by simp [h2.2]
        have HE : Hid (ovr (x * y) = (0, 100)) := Lib.hid (by rw [h2.1, h2.2]; rfl)
        clear h0 h1 z0 h2 ht
        go_enter Tryd.func26, Tryd.ntmps26
        go_wp2_with (go_at_call 37; refine (least_c _).mono ?_; rintro e w' ⟨rfl, rfl⟩)
        go_ret2
        exact ⟨by rw [HE.out]; rfl, rfl⟩
      · by_cases h3 : y = -9223372036854775808 ∧ x = -1
        · have t2 : (x == -9223372036854775808) = false := by simp [h3.2]
          have t3 : (y == -9223372036854775808) = true := by simp [h3.1]
          have t4 : (x == -1) = true := by simp [h3.2]
          have HE : Hid (ovr (x * y) = (0, 100)) := Lib.hid (by rw [h3.1, h3.2]; rfl)
          clear h0 h1 z0 h2 h3 ht
          go_enter Tryd.func26, Tryd.ntmps26
          go_wp2_with (go_at_call 37; refine (least_c _).mono ?_; rintro e w' ⟨rfl, rfl⟩)
          go_ret2
          exact ⟨by rw [HE.out]; rfl, rfl⟩
        · have A : ((x == -9223372036854775808) = false ∧ (y == -9223372036854775808) = false) ∨ ((x == -9223372036854775808) = false ∧ (y == -9223372036854775808) = true ∧ (x == -1) = false) ∨ ((x == -9223372036854775808) = true ∧ (y == -1) = false ∧ (y == -9223372036854775808) = false) ∨ ((x == -9223372036854775808) = true ∧ (y == -1) = false ∧ (y == -9223372036854775808) = true ∧ (x == -1) = false) := by
            simp only [beq_eq_false_iff_ne, beq_iff_eq]
            omega
          by_cases hI : In (x * y)
          · have HE : Hid (ovr (x * y) = (wrap64 (x * y), 0)) := Lib.hid (by rw [wrap_in hI]; exact if_pos hI)
            have ht2 : (wrap64 ((wrap64 (x * y)).tdiv y) != x) = false := by rw [ht h2, decide_eq_true hI]; rfl
            clear h0 z0 h2 h3 hI ht
            rcases A with ⟨a1, a2⟩ | ⟨a1, a2, a3⟩ | ⟨a1, a2, a3⟩ | ⟨a1, a2, a3, a4⟩
            · go_enter Tryd.func26, Tryd.ntmps26
              go_wp2_with (go_at_call 37; refine (least_c _).mono ?_; rintro e w' ⟨rfl, rfl⟩)
              go_ret2
              exact ⟨by rw [HE.out]; rfl, rfl⟩
            · go_enter Tryd.func26, Tryd.ntmps26
              go_wp2_with (go_at_call 37; refine (least_c _).mono ?_; rintro e w' ⟨rfl, rfl⟩)
              go_ret2
              exact ⟨by rw [HE.out]; rfl, rfl⟩
            · go_enter Tryd.func26, Tryd.ntmps26
              go_wp2_with (go_at_call 37; refine (least_c _).mono ?_; rintro e w' ⟨rfl, rfl⟩)
              go_ret2
              exact ⟨by rw [HE.out]; rfl, rfl⟩
            · go_enter Tryd.func26, Tryd.ntmps26
              go_wp2_with (go_at_call 37; refine (least_c _).mono ?_; rintro e w' ⟨rfl, rfl⟩)
              go_ret2
              exact ⟨by rw [HE.out]; rfl, rfl⟩
          · have HE : Hid (ovr (x * y) = (0, 100)) := Lib.hid (if_neg hI)
            have ht2 : (wrap64 ((wrap64 (x * y)).tdiv y) != x) = true := by rw [ht h2, decide_eq_false hI]; rfl
            clear h0 z0 h2 h3 hI ht
            rcases A with ⟨a1, a2⟩ | ⟨a1, a2, a3⟩ | ⟨a1, a2, a3⟩ | ⟨a1, a2, a3, a4⟩
            · go_enter Tryd.func26, Tryd.ntmps26
              go_wp2_with (go_at_call 37; refine (least_c _).mono ?_; rintro e w' ⟨rfl, rfl⟩)
              go_ret2
              exact ⟨by rw [HE.out]; rfl, rfl⟩
            · go_enter Tryd.func26, Tryd.ntmps26
              go_wp2_with (go_at_call 37; refine (least_c _).mono ?_; rintro e w' ⟨rfl, rfl⟩)
              go_ret2
              exact ⟨by rw [HE.out]; rfl, rfl⟩
            · go_enter Tryd.func26, Tryd.ntmps26
              go_wp2_with (go_at_call 37; refine (least_c _).mono ?_; rintro e w' ⟨rfl, rfl⟩)
              go_ret2
              exact ⟨by rw [HE.out]; rfl, rfl⟩
            · go_enter Tryd.func26, Tryd.ntmps26
              go_wp2_with (go_at_call 37; refine (least_c _).mono ?_; rintro e w' ⟨rfl, rfl⟩)
              go_ret2
              exact ⟨by rw [HE.out]; rfl, rfl⟩
set_option maxRecDepth 100000 in
set_option maxHeartbeats 1000000 in
theorem rdivide_c (x y : Int) (hx : In x) (w : World) : Calls Tryd.prog 27 #[.int .i64 x, .int .i64 y] w fun e w' => e = .returned (numV (divR x y)) ∧ w = w' := by
  by_cases h0 : y = 0
  · have t0 : (y == 0) = true := by simp [h0]
    by_cases h1 : x = 0
    · have t1 : (x == 0) = true := by simp [h1]
      have HE : Hid (divR x y = (1, 0)) := Lib.hid (by simp [divR, h0, h1])
      clear h0 h1
      go_enter Tryd.func27, Tryd.ntmps27
      go_wp2_with (go_at_call 37; refine (least_c _).mono ?_; rintro e w' ⟨rfl, rfl⟩)
      go_ret2
      exact ⟨by rw [HE.out]; rfl, rfl⟩
    · have t1 : (x == 0) = false := by simp [h1]
      have HE : Hid (divR x y = (0, 101)) := Lib.hid (by simp [divR, h0, h1])
      clear h0 h1
      go_enter Tryd.func27, Tryd.ntmps27
      go_wp2_with (go_at_call 37; refine (least_c _).mono ?_; rintro e w' ⟨rfl, rfl⟩)
      go_ret2
      exact ⟨by rw [HE.out]; rfl, rfl⟩
  · have t0 : (y == 0) = false := by simp [h0]
    by_cases h2 : x = -9223372036854775808 ∧ y = -1
    · have t2 : (x == -9223372036854775808) = true := by simp [h2.1]
      have t3 : (y == -1) = true := by simp [h2.2]
      have HE : Hid (divR x y = (0, 100)) := Lib.hid (by rw [h2.1, h2.2]; decide)
      clear h2
      go_enter Tryd.func27, Tryd.ntmps27
      go_wp2_with (go_at_call 37; refine (least_c _).mono ?_; rintro e w' ⟨rfl, rfl⟩)
      go_ret2
      exact ⟨by rw [HE.out]; rfl, rfl⟩
    · have A : (x == -9223372036854775808) = false ∨ ((x == -9223372036854775808) = true ∧ (y == -1) = false) := by
        simp only [beq_eq_false_iff_ne, beq_iff_eq]
        omega
      by_cases h1 : x.tmod y = 0
      · have t1 : (x.tmod y != 0) = false := by simp [h1]
        have hI : In (x.tdiv y) := tdiv_in x y hx h2
        have HE : Hid (divR x y = (wrap64 (x.tdiv y), 0)) := Lib.hid (by rw [wrap_in hI]; simp only [divR, if_neg h0, if_pos h1]; exact if_pos hI)
        have HW := Lib.hid (wrap_in hI)
        clear h1 h2 hI
        rcases A with a1 | ⟨a1, a2⟩
        · go_enter Tryd.func27, Tryd.ntmps27
          go_wp2_with (go_at_call 37; refine (least_c _).mono ?_; rintro e w' ⟨rfl, rfl⟩)
          go_ret2
          exact ⟨by rw [HE.out]; first | rfl | (rw [HW.out]; rfl), rfl⟩
        · go_enter Tryd.func27, Tryd.ntmps27
          go_wp2_with (go_at_call 37; refine (least_c _).mono ?_; rintro e w' ⟨rfl, rfl⟩)
          go_ret2
          exact ⟨by rw [HE.out]; first | rfl | (rw [HW.out]; rfl), rfl⟩
      · have t1 : (x.tmod y != 0) = true := by simp [h1]
        have HE : Hid (divR x y = (0, 101)) := Lib.hid (by simp [divR, h0, h1])
        clear h1 h2
        rcases A with a1 | ⟨a1, a2⟩
        · go_enter Tryd.func27, Tryd.ntmps27
          go_wp2_with (go_at_call 37; refine (least_c _).mono ?_; rintro e w' ⟨rfl, rfl⟩)
          go_ret2
          exact ⟨by rw [HE.out]; rfl, rfl⟩
        · go_enter Tryd.func27, Tryd.ntmps27
          go_wp2_with (go_at_call 37; refine (least_c _).mono ?_; rintro e w' ⟨rfl, rfl⟩)
          go_ret2
          exact ⟨by rw [HE.out]; rfl, rfl⟩
set_option maxRecDepth 100000 in
set_option maxHeartbeats 1000000 in
theorem rresidue_c (x y : Int) (hx : In x) (hy : In y) (w : World) : Calls Tryd.prog 28 #[.int .i64 x, .int .i64 y] w fun e w' => e = .returned (.int .i64 (resR x y)) ∧ w = w' := by
  by_cases h0 : x = 0
  · have he : resR x y = y := by simp [resR, h0]
    rw [he]
    subst h0
    clear he
    go_enter Tryd.func28, Tryd.ntmps28
    go_wp2
    go_ret
    exact ⟨rfl, rfl⟩
  · have t0 : (x == 0) = false := by simp [h0]
    by_cases hm : x = -1
    · have tm : (x == -1) = true := by simp [hm]
      have HE : Hid (resR x y = 0) := Lib.hid (by rw [hm, show y = -(-y) by omega]; simp only [resR]; rw [if_neg (by decide), Int.neg_fmod_neg, Int.fmod_one]; rfl)
      clear hm
      go_enter Tryd.func28, Tryd.ntmps28
      go_wp2
      go_ret
      exact ⟨by rw [HE.out]; rfl, rfl⟩
    · have tm : (x == -1) = false := by simp [hm]
      have hf : resR x y = y.fmod x := by simp [resR, h0]
      obtain ⟨r, hr⟩ : ∃ r, r = y.tmod x := ⟨_, rfl⟩
      have hres := res_eq x y h0
      rw [← hr] at hres
      have hrl := tmod_in x y hy
      rw [← hr] at hrl
      by_cases h1 : r = 0
      · have t1 : (y.tmod x != 0) = false := by rw [← hr]; simp [h1]
        have HE : Hid (resR x y = y.tmod x) := Lib.hid (by rw [hf, hres.1 h1, ← hr, h1])
        clear hres hrl hr h1 hm hf
        go_enter Tryd.func28, Tryd.ntmps28
        go_wp2
        go_ret
        exact ⟨by rw [HE.out]; rfl, rfl⟩
      · have t1 : (y.tmod x != 0) = true := by rw [← hr]; simp [h1]
        by_cases h2 : decide (r < 0) = decide (x < 0)
        · have t2 : (!(decide (y.tmod x < 0) == decide (x < 0))) = false := by rw [← hr]; simp [h2]
          have HE : Hid (resR x y = y.tmod x) := Lib.hid (by rw [hf, hres.2.1 h1 h2, ← hr])
          clear hres hrl hr h1 h2 hm hf
          go_enter Tryd.func28, Tryd.ntmps28
          go_wp2
          go_ret
          exact ⟨by rw [HE.out]; rfl, rfl⟩
        · have t2 : (!(decide (y.tmod x < 0) == decide (x < 0))) = true := by rw [← hr]; simp [h2]
          have hw : wrap64 (y.tmod x + x) = y.tmod x + x := by rw [← hr]; exact wrap_in (by simp only [decide_eq_decide] at h2; omega)
          have HE : Hid (resR x y = y.tmod x + x) := Lib.hid (by rw [hf, hres.2.2 h1 h2, ← hr])
          have HW := Lib.hid hw
          clear hres hrl hr h1 h2 hw hm hf
          go_enter Tryd.func28, Tryd.ntmps28
          go_wp2
          go_ret
          exact ⟨by rw [HE.out]; exact congrArg (fun n => Ending.returned (.int .i64 n)) HW.out, rfl⟩
end Go.Proofs.YtjafngieohpdaaaDoor.Nu
