/- Merged by gen/ar_merge.py: NuRef, NuRefD, NuRefE, NuRefF, NuRefG. -/
import Derived.Test.YthlkgfplffdiaaaGreatDoorNuD
/- The plain answers' sums, products, quotients (by wip/gen/mknuref.py). -/
namespace Go.Proofs.YthlkgfplffdiaaaGreatDoor.Nu
open Go Go.RowKit Go.Shelf
attribute [local go_sem] Oper.semAt_some

set_option maxRecDepth 100000 in
set_option maxHeartbeats 1000000 in
theorem radd_c (x y : Int) (hx : In x) (hy : In y) (w : World) : Calls Tryz.prog 75 #[.int .i64 x, .int .i64 y] w fun e w' => e = .returned (numV (ovr (x + y))) ∧ w = w' := by
  rcases (by omega : (0 < x ∧ 0 < y) ∨ (x < 0 ∧ y < 0) ∨ (x = 0 ∧ In (x + y)) ∨ (0 < x ∧ y ≤ 0) ∨ (x < 0 ∧ 0 ≤ y)) with h | h | h | h | h
  · by_cases hI : In (x + y)
    · have HE : Hid (ovr (x + y) = (wrap64 (x + y), 0)) := Lib.hid (by rw [wrap_in hI]; exact if_pos hI)
      have t0 : decide (0 < x) = true := by simp; omega
      have t1 : decide (0 < y) = true := by simp; omega
      have t2 : decide (x < 0) = false := by simp; omega
      have tw : decide (wrap64 (x + y) < 0) = false := by rw [wrap_in hI]; simp; omega
      clear h hI
      go_enter Tryz.func75, Tryz.ntmps75
      go_wp2
      go_ret2
      exact ⟨by rw [HE.out]; rfl, rfl⟩
    · have HE : Hid (ovr (x + y) = (0, 100)) := Lib.hid (if_neg hI)
      have t0 : decide (0 < x) = true := by simp; omega
      have t1 : decide (0 < y) = true := by simp; omega
      have t2 : decide (x < 0) = false := by simp; omega
      have tw : decide (wrap64 (x + y) < 0) = true := by unfold wrap64; simp; omega
      clear h hI
      go_enter Tryz.func75, Tryz.ntmps75
      go_wp2
      go_ret2
      exact ⟨by rw [HE.out]; rfl, rfl⟩
  · by_cases hI : In (x + y)
    · have HE : Hid (ovr (x + y) = (wrap64 (x + y), 0)) := Lib.hid (by rw [wrap_in hI]; exact if_pos hI)
      have t0 : decide (0 < x) = false := by simp; omega
      have t1 : decide (x < 0) = true := by simp; omega
      have t2 : decide (y < 0) = true := by simp; omega
      have tw : decide (0 ≤ wrap64 (x + y)) = false := by rw [wrap_in hI]; simp; omega
      clear h hI
      go_enter Tryz.func75, Tryz.ntmps75
      go_wp2
      go_ret2
      exact ⟨by rw [HE.out]; rfl, rfl⟩
    · have HE : Hid (ovr (x + y) = (0, 100)) := Lib.hid (if_neg hI)
      have t0 : decide (0 < x) = false := by simp; omega
      have t1 : decide (x < 0) = true := by simp; omega
      have t2 : decide (y < 0) = true := by simp; omega
      have tw : decide (0 ≤ wrap64 (x + y)) = true := by unfold wrap64; simp; omega
      clear h hI
      go_enter Tryz.func75, Tryz.ntmps75
      go_wp2
      go_ret2
      exact ⟨by rw [HE.out]; rfl, rfl⟩
  · have HE : Hid (ovr (x + y) = (wrap64 (x + y), 0)) := Lib.hid (by rw [wrap_in (by omega : In (x + y))]; exact if_pos (by omega))
    have t0 : decide (0 < x) = false := by simp; omega
    have t1 : decide (x < 0) = false := by simp; omega
    clear h
    go_enter Tryz.func75, Tryz.ntmps75
    go_wp2
    go_ret2
    exact ⟨by rw [HE.out]; rfl, rfl⟩
  · have HE : Hid (ovr (x + y) = (wrap64 (x + y), 0)) := Lib.hid (by rw [wrap_in (by omega : In (x + y))]; exact if_pos (by omega))
    have t0 : decide (0 < x) = true := by simp; omega
    have t1 : decide (0 < y) = false := by simp; omega
    have t2 : decide (x < 0) = false := by simp; omega
    clear h
    go_enter Tryz.func75, Tryz.ntmps75
    go_wp2
    go_ret2
    exact ⟨by rw [HE.out]; rfl, rfl⟩
  · have HE : Hid (ovr (x + y) = (wrap64 (x + y), 0)) := Lib.hid (by rw [wrap_in (by omega : In (x + y))]; exact if_pos (by omega))
    have t0 : decide (0 < x) = false := by simp; omega
    have t1 : decide (x < 0) = true := by simp; omega
    have t2 : decide (y < 0) = false := by simp; omega
    clear h
    go_enter Tryz.func75, Tryz.ntmps75
    go_wp2
    go_ret2
    exact ⟨by rw [HE.out]; rfl, rfl⟩
set_option maxRecDepth 100000 in
set_option maxHeartbeats 1000000 in
theorem rtake_c (x y : Int) (hx : In x) (hy : In y) (w : World) : Calls Tryz.prog 44 #[.int .i64 x, .int .i64 y] w fun e w' => e = .returned (numV (ovr (x - y))) ∧ w = w' := by
  rcases (by omega : (0 ≤ x ∧ y < 0) ∨ (x < 0 ∧ 0 < y) ∨ (0 ≤ x ∧ 0 ≤ y) ∨ (x < 0 ∧ y ≤ 0)) with h | h | h | h
  · by_cases hI : In (x - y)
    · have HE : Hid (ovr (x - y) = (wrap64 (x - y), 0)) := Lib.hid (by rw [wrap_in hI]; exact if_pos hI)
      have t0 : decide (0 ≤ x) = true := by simp; omega
      have t1 : decide (y < 0) = true := by simp; omega
      have t2 : decide (x < 0) = false := by simp; omega
      have tw : decide (wrap64 (x - y) < 0) = false := by rw [wrap_in hI]; simp; omega
      clear h hI
      go_enter Tryz.func44, Tryz.ntmps44
      go_wp2
      go_ret2
      exact ⟨by rw [HE.out]; rfl, rfl⟩
    · have HE : Hid (ovr (x - y) = (0, 100)) := Lib.hid (if_neg hI)
      have t0 : decide (0 ≤ x) = true := by simp; omega
      have t1 : decide (y < 0) = true := by simp; omega
      have t2 : decide (x < 0) = false := by simp; omega
      have tw : decide (wrap64 (x - y) < 0) = true := by unfold wrap64; simp; omega
      clear h hI
      go_enter Tryz.func44, Tryz.ntmps44
      go_wp2
      go_ret2
      exact ⟨by rw [HE.out]; rfl, rfl⟩
  · by_cases hI : In (x - y)
    · have HE : Hid (ovr (x - y) = (wrap64 (x - y), 0)) := Lib.hid (by rw [wrap_in hI]; exact if_pos hI)
      have t0 : decide (0 ≤ x) = false := by simp; omega
      have t1 : decide (x < 0) = true := by simp; omega
      have t2 : decide (0 < y) = true := by simp; omega
      have tw : decide (0 ≤ wrap64 (x - y)) = false := by rw [wrap_in hI]; simp; omega
      clear h hI
      go_enter Tryz.func44, Tryz.ntmps44
      go_wp2
      go_ret2
      exact ⟨by rw [HE.out]; rfl, rfl⟩
    · have HE : Hid (ovr (x - y) = (0, 100)) := Lib.hid (if_neg hI)
      have t0 : decide (0 ≤ x) = false := by simp; omega
      have t1 : decide (x < 0) = true := by simp; omega
      have t2 : decide (0 < y) = true := by simp; omega
      have tw : decide (0 ≤ wrap64 (x - y)) = true := by unfold wrap64; simp; omega
      clear h hI
      go_enter Tryz.func44, Tryz.ntmps44
      go_wp2
      go_ret2
      exact ⟨by rw [HE.out]; rfl, rfl⟩
  · have HE : Hid (ovr (x - y) = (wrap64 (x - y), 0)) := Lib.hid (by rw [wrap_in (by omega : In (x - y))]; exact if_pos (by omega))
    have t0 : decide (0 ≤ x) = true := by simp; omega
    have t1 : decide (y < 0) = false := by simp; omega
    have t2 : decide (x < 0) = false := by simp; omega
    clear h
    go_enter Tryz.func44, Tryz.ntmps44
    go_wp2
    go_ret2
    exact ⟨by rw [HE.out]; rfl, rfl⟩
  · have HE : Hid (ovr (x - y) = (wrap64 (x - y), 0)) := Lib.hid (by rw [wrap_in (by omega : In (x - y))]; exact if_pos (by omega))
    have t0 : decide (0 ≤ x) = false := by simp; omega
    have t1 : decide (x < 0) = true := by simp; omega
    have t2 : decide (0 < y) = false := by simp; omega
    clear h
    go_enter Tryz.func44, Tryz.ntmps44
    go_wp2
    go_ret2
    exact ⟨by rw [HE.out]; rfl, rfl⟩
set_option maxRecDepth 100000 in
set_option maxHeartbeats 1000000 in
theorem least_c  (w : World) : Calls Tryz.prog 70 #[] w fun e w' => e = .returned (.int .i64 (-9223372036854775808)) ∧ w = w' := by
  go_enter Tryz.func70, Tryz.ntmps70
  go_wp2
  go_ret
  exact ⟨rfl, rfl⟩
set_option maxRecDepth 100000 in
set_option maxHeartbeats 1000000 in
theorem bit_c (b : Bool) (w : World) : Calls Tryz.prog 45 #[.bool b] w fun e w' => e = .returned (.int .i64 (bit b)) ∧ w = w' := by
  cases b
  · go_enter Tryz.func45, Tryz.ntmps45
    go_wp2
    go_ret
    exact ⟨rfl, rfl⟩
  · go_enter Tryz.func45, Tryz.ntmps45
    go_wp2
    go_ret
    exact ⟨rfl, rfl⟩
theorem tdiv_in (p y : Int) (hp : In p) (h : ¬ (p = -9223372036854775808 ∧ y = -1)) : In (p.tdiv y) := by
  have h3 : (p.tdiv y).natAbs = p.natAbs / y.natAbs := Int.natAbs_tdiv p y
  have h4 : p.natAbs / y.natAbs ≤ p.natAbs := Nat.div_le_self _ _
  by_cases hm : p = -9223372036854775808
  · by_cases hy1 : y = 1
    · subst hy1
      rw [Int.tdiv_one]
      exact hp
    · by_cases hy0 : y = 0
      · subst hy0
        rw [Int.tdiv_zero]
        decide
      · have h5 : p.natAbs / y.natAbs ≤ p.natAbs / 2 := Nat.div_le_div_left (by omega) (by omega)
        omega
  · omega
theorem mul_test (x y : Int) (hx : In x) (hy : In y) (h0 : y ≠ 0) (hs : ¬ (x = -9223372036854775808 ∧ y = -1)) : (wrap64 ((wrap64 (x * y)).tdiv y) != x) = !decide (In (x * y)) := by
  have hq : In ((wrap64 (x * y)).tdiv y) := by
    refine tdiv_in _ _ (by unfold wrap64; omega) (fun h => ?_)
    obtain ⟨ha, hb⟩ := h
    subst hb
    rw [Int.mul_neg_one] at ha
    unfold wrap64 at ha
    omega
  rw [wrap_in hq]
  clear hq
  obtain ⟨z, hz⟩ : ∃ z, z = x * y := ⟨_, rfl⟩
  rw [← hz]
  by_cases hI : In z
  · rw [wrap_in hI, decide_eq_true hI, hz, Int.mul_tdiv_cancel x h0]
    simp
  · rw [decide_eq_false hI]
    have h1 := Int.mul_tdiv_add_tmod (wrap64 z) y
    have h2 : ((wrap64 z).tmod y).natAbs < y.natAbs := by rw [Int.natAbs_tmod]; exact Nat.mod_lt _ (by omega)
    simp only [Bool.not_false, bne_iff_ne]
    intro e
    rw [e, Int.mul_comm, ← hz] at h1
    generalize (wrap64 z).tmod y = r at *
    unfold wrap64 at h1
    omega
set_option maxRecDepth 100000 in
set_option maxHeartbeats 1000000 in
theorem rtimes_c (x y : Int) (hx : In x) (hy : In y) (w : World) : Calls Tryz.prog 76 #[.int .i64 x, .int .i64 y] w fun e w' => e = .returned (numV (ovr (x * y))) ∧ w = w' := by
  have z0 : ovr 0 = (0, 0) := rfl
  by_cases h0 : x = 0
  · have t0 : (x == 0) = true := by simp [h0]
    have HE : Hid (ovr (x * y) = (0, 0)) := Lib.hid (by rw [h0, Int.zero_mul]; rfl)
    clear h0 z0
    go_enter Tryz.func76, Tryz.ntmps76
    go_wp2_with (go_at_call 70; refine (least_c _).mono ?_; rintro e w' ⟨rfl, rfl⟩)
    go_ret2
    exact ⟨by rw [HE.out]; rfl, rfl⟩
  · have t0 : (x == 0) = false := by simp [h0]
    by_cases h1 : y = 0
    · have t1 : (y == 0) = true := by simp [h1]
      have HE : Hid (ovr (x * y) = (0, 0)) := Lib.hid (by rw [h1, Int.mul_zero]; rfl)
      clear h0 h1 z0
      go_enter Tryz.func76, Tryz.ntmps76
      go_wp2_with (go_at_call 70; refine (least_c _).mono ?_; rintro e w' ⟨rfl, rfl⟩)
      go_ret2
      exact ⟨by rw [HE.out]; rfl, rfl⟩
    · have t1 : (y == 0) = false := by simp [h1]
      have ht := mul_test x y hx hy h1
      by_cases h2 : x = -9223372036854775808 ∧ y = -1
      · have t2 : (x == -9223372036854775808) = true := by simp [h2.1]
        have t3 : (y == -1) = true := by simp [h2.2]
        have HE : Hid (ovr (x * y) = (0, 100)) := Lib.hid (by rw [h2.1, h2.2]; rfl)
        clear h0 h1 z0 h2 ht
        go_enter Tryz.func76, Tryz.ntmps76
        go_wp2_with (go_at_call 70; refine (least_c _).mono ?_; rintro e w' ⟨rfl, rfl⟩)
        go_ret2
        exact ⟨by rw [HE.out]; rfl, rfl⟩
      · by_cases h3 : y = -9223372036854775808 ∧ x = -1
        · have t2 : (x == -9223372036854775808) = false := by simp [h3.2]
          have t3 : (y == -9223372036854775808) = true := by simp [h3.1]
          have t4 : (x == -1) = true := by simp [h3.2]
          have HE : Hid (ovr (x * y) = (0, 100)) := Lib.hid (by rw [h3.1, h3.2]; rfl)
          clear h0 h1 z0 h2 h3 ht
          go_enter Tryz.func76, Tryz.ntmps76
          go_wp2_with (go_at_call 70; refine (least_c _).mono ?_; rintro e w' ⟨rfl, rfl⟩)
          go_ret2
          exact ⟨by rw [HE.out]; rfl, rfl⟩
        · have A : ((x == -9223372036854775808) = false ∧ (y == -9223372036854775808) = false) ∨ ((x == -9223372036854775808) = false ∧ (y == -9223372036854775808) = true ∧ (x == -1) = false) ∨ ((x == -9223372036854775808) = true ∧ (y == -1) = false ∧ (y == -9223372036854775808) = false) ∨ ((x == -9223372036854775808) = true ∧ (y == -1) = false ∧ (y == -9223372036854775808) = true ∧ (x == -1) = false) := by
            simp only [beq_eq_false_iff_ne, beq_iff_eq]
            omega
          by_cases hI : In (x * y)
          · have HE : Hid (ovr (x * y) = (wrap64 (x * y), 0)) := Lib.hid (by rw [wrap_in hI]; exact if_pos hI)
            have ht2 : (wrap64 ((wrap64 (x * y)).tdiv y) != x) = false := by rw [ht h2, decide_eq_true hI]; rfl
            clear h0 z0 h2 h3 hI ht
            rcases A with ⟨a1, a2⟩ | ⟨a1, a2, a3⟩ | ⟨a1, a2, a3⟩ | ⟨a1, a2, a3, a4⟩
            · go_enter Tryz.func76, Tryz.ntmps76
              go_wp2_with (go_at_call 70; refine (least_c _).mono ?_; rintro e w' ⟨rfl, rfl⟩)
              go_ret2
              exact ⟨by rw [HE.out]; rfl, rfl⟩
            · go_enter Tryz.func76, Tryz.ntmps76
              go_wp2_with (go_at_call 70; refine (least_c _).mono ?_; rintro e w' ⟨rfl, rfl⟩)
              go_ret2
              exact ⟨by rw [HE.out]; rfl, rfl⟩
            · go_enter Tryz.func76, Tryz.ntmps76
              go_wp2_with (go_at_call 70; refine (least_c _).mono ?_; rintro e w' ⟨rfl, rfl⟩)
              go_ret2
              exact ⟨by rw [HE.out]; rfl, rfl⟩
            · go_enter Tryz.func76, Tryz.ntmps76
              go_wp2_with (go_at_call 70; refine (least_c _).mono ?_; rintro e w' ⟨rfl, rfl⟩)
              go_ret2
              exact ⟨by rw [HE.out]; rfl, rfl⟩
          · have HE : Hid (ovr (x * y) = (0, 100)) := Lib.hid (if_neg hI)
            have ht2 : (wrap64 ((wrap64 (x * y)).tdiv y) != x) = true := by rw [ht h2, decide_eq_false hI]; rfl
            clear h0 z0 h2 h3 hI ht
            rcases A with ⟨a1, a2⟩ | ⟨a1, a2, a3⟩ | ⟨a1, a2, a3⟩ | ⟨a1, a2, a3, a4⟩
            · go_enter Tryz.func76, Tryz.ntmps76
              go_wp2_with (go_at_call 70; refine (least_c _).mono ?_; rintro e w' ⟨rfl, rfl⟩)
              go_ret2
              exact ⟨by rw [HE.out]; rfl, rfl⟩
            · go_enter Tryz.func76, Tryz.ntmps76
              go_wp2_with (go_at_call 70; refine (least_c _).mono ?_; rintro e w' ⟨rfl, rfl⟩)
              go_ret2
              exact ⟨by rw [HE.out]; rfl, rfl⟩
            · go_enter Tryz.func76, Tryz.ntmps76
              go_wp2_with (go_at_call 70; refine (least_c _).mono ?_; rintro e w' ⟨rfl, rfl⟩)
              go_ret2
              exact ⟨by rw [HE.out]; rfl, rfl⟩
            · go_enter Tryz.func76, Tryz.ntmps76
              go_wp2_with (go_at_call 70; refine (least_c _).mono ?_; rintro e w' ⟨rfl, rfl⟩)
              go_ret2
              exact ⟨by rw [HE.out]; rfl, rfl⟩
set_option maxRecDepth 100000 in
set_option maxHeartbeats 1000000 in
theorem rdivide_c (x y : Int) (hx : In x) (w : World) : Calls Tryz.prog 46 #[.int .i64 x, .int .i64 y] w fun e w' => e = .returned (numV (divR x y)) ∧ w = w' := by
  by_cases h0 : y = 0
  · have t0 : (y == 0) = true := by simp [h0]
    by_cases h1 : x = 0
    · have t1 : (x == 0) = true := by simp [h1]
      have HE : Hid (divR x y = (1, 0)) := Lib.hid (by simp [divR, h0, h1])
      clear h0 h1
      go_enter Tryz.func46, Tryz.ntmps46
      go_wp2_with (go_at_call 70; refine (least_c _).mono ?_; rintro e w' ⟨rfl, rfl⟩)
      go_ret2
      exact ⟨by rw [HE.out]; rfl, rfl⟩
    · have t1 : (x == 0) = false := by simp [h1]
      have HE : Hid (divR x y = (0, 101)) := Lib.hid (by simp [divR, h0, h1])
      clear h0 h1
      go_enter Tryz.func46, Tryz.ntmps46
      go_wp2_with (go_at_call 70; refine (least_c _).mono ?_; rintro e w' ⟨rfl, rfl⟩)
      go_ret2
      exact ⟨by rw [HE.out]; rfl, rfl⟩
  · have t0 : (y == 0) = false := by simp [h0]
    by_cases h2 : x = -9223372036854775808 ∧ y = -1
    · have t2 : (x == -9223372036854775808) = true := by simp [h2.1]
      have t3 : (y == -1) = true := by simp [h2.2]
      have HE : Hid (divR x y = (0, 100)) := Lib.hid (by rw [h2.1, h2.2]; decide)
      clear h2
      go_enter Tryz.func46, Tryz.ntmps46
      go_wp2_with (go_at_call 70; refine (least_c _).mono ?_; rintro e w' ⟨rfl, rfl⟩)
      go_ret2
      exact ⟨by rw [HE.out]; rfl, rfl⟩
    · have A : (x == -9223372036854775808) = false ∨ ((x == -9223372036854775808) = true ∧ (y == -1) = false) := by
        simp only [beq_eq_false_iff_ne, beq_iff_eq]
        omega
      by_cases h1 : x.tmod y = 0
      · have t1 : (x.tmod y != 0) = false := by simp [h1]
        have hI : In (x.tdiv y) := tdiv_in x y hx h2
        have HE : Hid (divR x y = (wrap64 (x.tdiv y), 0)) := Lib.hid (by rw [wrap_in hI]; simp only [divR, if_neg h0, if_pos h1]; exact if_pos hI)
        have HW := Lib.hid (wrap_in hI)
        clear h1 h2 hI
        rcases A with a1 | ⟨a1, a2⟩
        · go_enter Tryz.func46, Tryz.ntmps46
          go_wp2_with (go_at_call 70; refine (least_c _).mono ?_; rintro e w' ⟨rfl, rfl⟩)
          go_ret2
          exact ⟨by rw [HE.out]; first | rfl | (rw [HW.out]; rfl), rfl⟩
        · go_enter Tryz.func46, Tryz.ntmps46
          go_wp2_with (go_at_call 70; refine (least_c _).mono ?_; rintro e w' ⟨rfl, rfl⟩)
          go_ret2
          exact ⟨by rw [HE.out]; first | rfl | (rw [HW.out]; rfl), rfl⟩
      · have t1 : (x.tmod y != 0) = true := by simp [h1]
        have HE : Hid (divR x y = (0, 101)) := Lib.hid (by simp [divR, h0, h1])
        clear h1 h2
        rcases A with a1 | ⟨a1, a2⟩
        · go_enter Tryz.func46, Tryz.ntmps46
          go_wp2_with (go_at_call 70; refine (least_c _).mono ?_; rintro e w' ⟨rfl, rfl⟩)
          go_ret2
          exact ⟨by rw [HE.out]; rfl, rfl⟩
        · go_enter Tryz.func46, Tryz.ntmps46
          go_wp2_with (go_at_call 70; refine (least_c _).mono ?_; rintro e w' ⟨rfl, rfl⟩)
          go_ret2
          exact ⟨by rw [HE.out]; rfl, rfl⟩
set_option maxRecDepth 100000 in
set_option maxHeartbeats 1000000 in
theorem rresidue_c (x y : Int) (hx : In x) (hy : In y) (w : World) : Calls Tryz.prog 77 #[.int .i64 x, .int .i64 y] w fun e w' => e = .returned (.int .i64 (resR x y)) ∧ w = w' := by
  by_cases h0 : x = 0
  · have he : resR x y = y := by simp [resR, h0]
    rw [he]
    subst h0
    clear he
    go_enter Tryz.func77, Tryz.ntmps77
    go_wp2
    go_ret
    exact ⟨rfl, rfl⟩
  · have t0 : (x == 0) = false := by simp [h0]
    by_cases hm : x = -1
    · have tm : (x == -1) = true := by simp [hm]
      have HE : Hid (resR x y = 0) := Lib.hid (by rw [hm, show y = -(-y) by omega]; simp only [resR]; rw [if_neg (by decide), Int.neg_fmod_neg, Int.fmod_one]; rfl)
      clear hm
      go_enter Tryz.func77, Tryz.ntmps77
      go_wp2
      go_ret
      exact ⟨by rw [HE.out]; rfl, rfl⟩
    · have tm : (x == -1) = false := by simp [hm]
      have hf : resR x y = y.fmod x := by simp [resR, h0]
      obtain ⟨r, hr⟩ : ∃ r, r = y.tmod x := ⟨_, rfl⟩
      have hres := res_eq x y h0
      rw [← hr] at hres
      have hrl := tmod_in x y hy
      rw [← hr] at hrl
      by_cases h1 : r = 0
      · have t1 : (y.tmod x != 0) = false := by rw [← hr]; simp [h1]
        have HE : Hid (resR x y = y.tmod x) := Lib.hid (by rw [hf, hres.1 h1, ← hr, h1])
        clear hres hrl hr h1 hm hf
        go_enter Tryz.func77, Tryz.ntmps77
        go_wp2
        go_ret
        exact ⟨by rw [HE.out]; rfl, rfl⟩
      · have t1 : (y.tmod x != 0) = true := by rw [← hr]; simp [h1]
        by_cases h2 : decide (r < 0) = decide (x < 0)
        · have t2 : (!(decide (y.tmod x < 0) == decide (x < 0))) = false := by rw [← hr]; simp [h2]
          have HE : Hid (resR x y = y.tmod x) := Lib.hid (by rw [hf, hres.2.1 h1 h2, ← hr])
          clear hres hrl hr h1 h2 hm hf
          go_enter Tryz.func77, Tryz.ntmps77
          go_wp2
          go_ret
          exact ⟨by rw [HE.out]; rfl, rfl⟩
        · have t2 : (!(decide (y.tmod x < 0) == decide (x < 0))) = true := by rw [← hr]; simp [h2]
          have hw : wrap64 (y.tmod x + x) = y.tmod x + x := by rw [← hr]; exact wrap_in (by simp only [decide_eq_decide] at h2; omega)
          have HE : Hid (resR x y = y.tmod x + x) := Lib.hid (by rw [hf, hres.2.2 h1 h2, ← hr])
          have HW := Lib.hid hw
          clear hres hrl hr h1 h2 hw hm hf
          go_enter Tryz.func77, Tryz.ntmps77
          go_wp2
          go_ret
          exact ⟨by rw [HE.out]; exact congrArg (fun n => Ending.returned (.int .i64 n)) HW.out, rfl⟩
end Go.Proofs.YthlkgfplffdiaaaGreatDoor.Nu
/- The plain answers of number (by wip/gen/mknuref.py). -/
namespace Go.Proofs.YthlkgfplffdiaaaGreatDoor.Nu
open Go Go.RowKit Go.Shelf
attribute [local go_sem] Oper.semAt_some

theorem eqs {x s : ByteArray} (h : x = s) : (x.toList == s.toList) = true := by subst h; exact beq_self_eq_true _
theorem nes {x s : ByteArray} (h : x ≠ s) : (x.toList == s.toList) = false := by
  rw [ByteArray.toList_eq, ByteArray.toList_eq, Bool.eq_false_iff]
  intro e
  have e := eq_of_beq e
  exact h (by cases x; cases s; simp at e; simp [e])
/-- Is a text in a list? -/
def inB (s : ByteArray) (L : List ByteArray) : Bool := L.any fun t => decide (t = s)
theorem inB_iff (s : ByteArray) (L : List ByteArray) : inB s L = true ↔ s ∈ L := by
  unfold inB
  rw [List.any_eq_true]
  constructor
  · rintro ⟨t, ht, e⟩
    rw [← of_decide_eq_true e]
    exact ht
  · exact fun h => ⟨s, h, decide_eq_true rfl⟩
theorem inB_no {s : ByteArray} {L : List ByteArray} (h : s ∉ L) : inB s L = false := by
  cases e : inB s L
  · rfl
  · exact absurd ((inB_iff s L).1 e) h
/-- A list of texts in memory, from block b on. -/
def Texts (w : World) (b : Nat) (L : List ByteArray) : Prop := ∀ i t, L[i]? = some t → w.cell? ⟨b, i, none⟩ = some (.string t)
set_option maxRecDepth 100000 in
theorem in_c (w : World) (b : Nat) (L : List ByteArray) (hL : Texts w b L) (hn : L.length ≤ 100) (s : ByteArray) : Calls Tryz.prog 43 #[.slice (some ⟨b, 0, none⟩) L.length L.length, .string s] w fun e w' => e = .returned (.bool (inB s L)) ∧ w = w' := by
  obtain ⟨n, hnn⟩ : ∃ n, n = L.length := ⟨_, rfl⟩
  have HN := Lib.hid hnn
  have HL := Lib.hid hL
  rw [← hnn] at hn ⊢
  clear hL hnn
  go_enter Tryz.func43, Tryz.ntmps43
  go_wp2
  go_loop [5] (fun i => ∃ k : Nat, k ≤ n ∧ i = .int .i64 (k : Int) ∧ s ∉ L.take k) (fun i => n - (intOf i).toNat)
  case atStart => exact ⟨0, Nat.zero_le _, rfl, by simp⟩
  case round =>
    obtain ⟨k, hk, rfl, hno⟩ := hrel
    have HNO := Lib.hid hno
    clear hno
    by_cases hlt : k < n
    · obtain ⟨t, ht⟩ : ∃ t, L[k]? = some t := ⟨_, List.getElem?_eq_getElem (by rw [← HN.out]; exact hlt)⟩
      have hc := HL.out k t ht
      have HT := Lib.hid ht
      clear ht
      by_cases hts : t = s
      · have t1 := eqs hts
        have HE : Hid (inB s L = true) := Lib.hid ((inB_iff s L).2 (by rw [← hts]; exact List.mem_of_getElem? HT.out))
        clear hts
        go_wp2
        go_ret
        exact ⟨by rw [HE.out]; rfl, rfl⟩
      · have t1 := nes hts
        have HE : Hid (s ∉ L.take (k + 1)) := Lib.hid (by rw [List.take_add_one, HT.out, List.mem_append]; simp; exact ⟨HNO.out, fun e => hts e.symm⟩)
        clear hts
        go_wp2
        go_round
        case rel => exact ⟨k + 1, by omega, by go_num, HE.out⟩
        case measure => simp [intOf]; omega
    · have hkn : k = n := by omega
      have HE : Hid (inB s L = false) := Lib.hid (inB_no (by have := HNO.out; rw [hkn, HN.out, List.take_length] at this; exact this))
      subst hkn
      go_wp2
      go_ret
      exact ⟨by rw [HE.out]; rfl, rfl⟩
def dyL : List ByteArray := [⟨#[43]⟩, ⟨#[45]⟩, ⟨#[195, 151]⟩, ⟨#[195, 183]⟩, ⟨#[226, 140, 136]⟩, ⟨#[226, 140, 138]⟩, ⟨#[124]⟩, ⟨#[61]⟩, ⟨#[226, 137, 160]⟩, ⟨#[60]⟩, ⟨#[62]⟩, ⟨#[226, 137, 164]⟩, ⟨#[226, 137, 165]⟩, ⟨#[226, 136, 167]⟩, ⟨#[226, 136, 168]⟩]
def monL : List ByteArray := [⟨#[43]⟩, ⟨#[45]⟩, ⟨#[195, 151]⟩, ⟨#[195, 183]⟩, ⟨#[226, 140, 136]⟩, ⟨#[226, 140, 138]⟩, ⟨#[124]⟩, ⟨#[126]⟩]
theorem dyL_mem (g : ByteArray) : inB g dyL = decide (whichD g < 15) := by
  by_cases h : ∃ k, k < 15 ∧ g = dyG k
  · obtain ⟨k, hk, rfl⟩ := h
    rw [whichD_at hk, decide_eq_true hk, inB_iff]
    rcases (by omega : k = 0 ∨ k = 1 ∨ k = 2 ∨ k = 3 ∨ k = 4 ∨ k = 5 ∨ k = 6 ∨ k = 7 ∨ k = 8 ∨ k = 9 ∨ k = 10 ∨ k = 11 ∨ k = 12 ∨ k = 13 ∨ k = 14) with rfl | rfl | rfl | rfl | rfl | rfl | rfl | rfl | rfl | rfl | rfl | rfl | rfl | rfl | rfl <;> simp [dyL, dyG]
  · have hn : ∀ k, k < 15 → g ≠ dyG k := fun k hk e => h ⟨k, hk, e⟩
    rw [whichD_no hn, decide_eq_false_iff_not.2 (by decide : ¬ 15 < 15)]
    refine inB_no (fun hm => ?_)
    simp only [dyL, List.mem_cons, List.not_mem_nil, or_false] at hm
    rcases hm with e | e | e | e | e | e | e | e | e | e | e | e | e | e | e
    · exact hn 0 (by decide) e
    · exact hn 1 (by decide) e
    · exact hn 2 (by decide) e
    · exact hn 3 (by decide) e
    · exact hn 4 (by decide) e
    · exact hn 5 (by decide) e
    · exact hn 6 (by decide) e
    · exact hn 7 (by decide) e
    · exact hn 8 (by decide) e
    · exact hn 9 (by decide) e
    · exact hn 10 (by decide) e
    · exact hn 11 (by decide) e
    · exact hn 12 (by decide) e
    · exact hn 13 (by decide) e
    · exact hn 14 (by decide) e
theorem monL_mem (g : ByteArray) : inB g monL = decide (whichM g < 8) := by
  by_cases h : ∃ k, k < 8 ∧ g = monG k
  · obtain ⟨k, hk, rfl⟩ := h
    rw [whichM_at hk, decide_eq_true hk, inB_iff]
    rcases (by omega : k = 0 ∨ k = 1 ∨ k = 2 ∨ k = 3 ∨ k = 4 ∨ k = 5 ∨ k = 6 ∨ k = 7) with rfl | rfl | rfl | rfl | rfl | rfl | rfl | rfl <;> simp [monL, monG]
  · have hn : ∀ k, k < 8 → g ≠ monG k := fun k hk e => h ⟨k, hk, e⟩
    rw [whichM_no hn, decide_eq_false_iff_not.2 (by decide : ¬ 8 < 8)]
    refine inB_no (fun hm => ?_)
    simp only [monL, List.mem_cons, List.not_mem_nil, or_false] at hm
    rcases hm with e | e | e | e | e | e | e | e
    · exact hn 0 (by decide) e
    · exact hn 1 (by decide) e
    · exact hn 2 (by decide) e
    · exact hn 3 (by decide) e
    · exact hn 4 (by decide) e
    · exact hn 5 (by decide) e
    · exact hn 6 (by decide) e
    · exact hn 7 (by decide) e
set_option maxRecDepth 100000 in
theorem rIsDy_c (g : ByteArray) (w : World) : Calls Tryz.prog 27 #[.string g] w fun e w' => e = .returned (.bool (decide (whichD g < 15))) ∧ Below w.heap.size w w' := by
  have HB := Lib.hid ((Below.refl w.heap.size w).alloc (Nat.le_refl _) (.cells #[.string ⟨#[43]⟩, .string ⟨#[45]⟩, .string ⟨#[195, 151]⟩, .string ⟨#[195, 183]⟩, .string ⟨#[226, 140, 136]⟩, .string ⟨#[226, 140, 138]⟩, .string ⟨#[124]⟩, .string ⟨#[61]⟩, .string ⟨#[226, 137, 160]⟩, .string ⟨#[60]⟩, .string ⟨#[62]⟩, .string ⟨#[226, 137, 164]⟩, .string ⟨#[226, 137, 165]⟩, .string ⟨#[226, 136, 167]⟩, .string ⟨#[226, 136, 168]⟩] 9))
  have hT : Texts (w.alloc (.cells #[.string ⟨#[43]⟩, .string ⟨#[45]⟩, .string ⟨#[195, 151]⟩, .string ⟨#[195, 183]⟩, .string ⟨#[226, 140, 136]⟩, .string ⟨#[226, 140, 138]⟩, .string ⟨#[124]⟩, .string ⟨#[61]⟩, .string ⟨#[226, 137, 160]⟩, .string ⟨#[60]⟩, .string ⟨#[62]⟩, .string ⟨#[226, 137, 164]⟩, .string ⟨#[226, 137, 165]⟩, .string ⟨#[226, 136, 167]⟩, .string ⟨#[226, 136, 168]⟩] 9)) w.heap.size dyL := by
    intro i t hi
    have hl := (List.getElem?_eq_some_iff.1 hi).1
    simp only [dyL, List.length_cons, List.length_nil] at hl
    rcases (by omega : i = 0 ∨ i = 1 ∨ i = 2 ∨ i = 3 ∨ i = 4 ∨ i = 5 ∨ i = 6 ∨ i = 7 ∨ i = 8 ∨ i = 9 ∨ i = 10 ∨ i = 11 ∨ i = 12 ∨ i = 13 ∨ i = 14) with rfl | rfl | rfl | rfl | rfl | rfl | rfl | rfl | rfl | rfl | rfl | rfl | rfl | rfl | rfl <;> (injection hi with hi; subst hi; simp)
  have hc := in_c _ _ dyL hT (by decide) g
  rw [dyL_mem] at hc
  have HC := Lib.hid hc
  clear hc
  go_enter Tryz.func27, Tryz.ntmps27
  go_wp2_with (go_at_call 43; refine HC.out.mono ?_; rintro e w' ⟨rfl, rfl⟩)
  go_ret
  exact ⟨rfl, HB.out⟩
set_option maxRecDepth 100000 in
theorem rIsMon_c (g : ByteArray) (w : World) : Calls Tryz.prog 24 #[.string g] w fun e w' => e = .returned (.bool (decide (whichM g < 8))) ∧ Below w.heap.size w w' := by
  have HB := Lib.hid ((Below.refl w.heap.size w).alloc (Nat.le_refl _) (.cells #[.string ⟨#[43]⟩, .string ⟨#[45]⟩, .string ⟨#[195, 151]⟩, .string ⟨#[195, 183]⟩, .string ⟨#[226, 140, 136]⟩, .string ⟨#[226, 140, 138]⟩, .string ⟨#[124]⟩, .string ⟨#[126]⟩] 9))
  have hT : Texts (w.alloc (.cells #[.string ⟨#[43]⟩, .string ⟨#[45]⟩, .string ⟨#[195, 151]⟩, .string ⟨#[195, 183]⟩, .string ⟨#[226, 140, 136]⟩, .string ⟨#[226, 140, 138]⟩, .string ⟨#[124]⟩, .string ⟨#[126]⟩] 9)) w.heap.size monL := by
    intro i t hi
    have hl := (List.getElem?_eq_some_iff.1 hi).1
    simp only [monL, List.length_cons, List.length_nil] at hl
    rcases (by omega : i = 0 ∨ i = 1 ∨ i = 2 ∨ i = 3 ∨ i = 4 ∨ i = 5 ∨ i = 6 ∨ i = 7) with rfl | rfl | rfl | rfl | rfl | rfl | rfl | rfl <;> (injection hi with hi; subst hi; simp)
  have hc := in_c _ _ monL hT (by decide) g
  rw [monL_mem] at hc
  have HC := Lib.hid hc
  clear hc
  go_enter Tryz.func24, Tryz.ntmps24
  go_wp2_with (go_at_call 43; refine HC.out.mono ?_; rintro e w' ⟨rfl, rfl⟩)
  go_ret
  exact ⟨rfl, HB.out⟩
theorem which15 (g : ByteArray) : (∃ k, k < 15 ∧ g = dyG k ∧ whichD g = k) ∨ ((∀ k, k < 15 → g ≠ dyG k) ∧ whichD g = 15) := by
  by_cases h : ∃ k, k < 15 ∧ g = dyG k
  · obtain ⟨k, hk, e⟩ := h
    exact .inl ⟨k, hk, e, by rw [e]; exact whichD_at hk⟩
  · have hn : ∀ k, k < 15 → g ≠ dyG k := fun k hk e => h ⟨k, hk, e⟩
    exact .inr ⟨hn, whichD_no hn⟩
theorem which8 (g : ByteArray) : (∃ k, k < 8 ∧ g = monG k ∧ whichM g = k) ∨ ((∀ k, k < 8 → g ≠ monG k) ∧ whichM g = 8) := by
  by_cases h : ∃ k, k < 8 ∧ g = monG k
  · obtain ⟨k, hk, e⟩ := h
    exact .inl ⟨k, hk, e, by rw [e]; exact whichM_at hk⟩
  · have hn : ∀ k, k < 8 → g ≠ monG k := fun k hk e => h ⟨k, hk, e⟩
    exact .inr ⟨hn, whichM_no hn⟩
theorem unitN_no {k : Nat} (h0 : k ≠ 0) (h2 : k ≠ 2) (h13 : k ≠ 13) (h14 : k ≠ 14) : unitN k = (0, false) := by
  unfold unitN
  split <;> first | rfl | (exfalso; omega)
end Go.Proofs.YthlkgfplffdiaaaGreatDoor.Nu
/- The plain functions of two and of one (by wip/gen/mknuref.py). -/
namespace Go.Proofs.YthlkgfplffdiaaaGreatDoor.Nu
open Go Go.RowKit Go.Shelf
attribute [local go_sem] Oper.semAt_some

set_option maxRecDepth 100000 in
theorem rcmp_7 (g : ByteArray) (hg : g = dyG 7) (x y : Int) (w : World) : Calls Tryz.prog 78 #[.string g, .int .i64 x, .int .i64 y] w fun e w' => e = .returned (.int .i64 (bit (decide (x = y)))) ∧ w = w' := by
  have g7 : (g.toList == [61]) = true := str_eq (l := [61]) hg
  have HE : Hid ((x == y) = decide (x = y)) := Lib.hid (by rw [Bool.eq_iff_iff]; simp)
  clear hg
  go_enter Tryz.func78, Tryz.ntmps78
  go_wp2_with (go_at_call 45; refine (bit_c _ _).mono ?_; rintro e w' ⟨rfl, rfl⟩)
  go_ret
  exact ⟨by rw [← HE.out]; rfl, rfl⟩
set_option maxRecDepth 100000 in
theorem rcmp_8 (g : ByteArray) (hg : g = dyG 8) (x y : Int) (w : World) : Calls Tryz.prog 78 #[.string g, .int .i64 x, .int .i64 y] w fun e w' => e = .returned (.int .i64 (bit (decide (x ≠ y)))) ∧ w = w' := by
  have g7 : (g.toList == [61]) = false := str_ne (l := [61]) (by rw [hg]; decide)
  have g8 : (g.toList == [226, 137, 160]) = true := str_eq (l := [226, 137, 160]) hg
  have HE : Hid ((x != y) = decide (x ≠ y)) := Lib.hid (by rw [Bool.eq_iff_iff]; simp)
  clear hg
  go_enter Tryz.func78, Tryz.ntmps78
  go_wp2_with (go_at_call 45; refine (bit_c _ _).mono ?_; rintro e w' ⟨rfl, rfl⟩)
  go_ret
  exact ⟨by rw [← HE.out]; rfl, rfl⟩
set_option maxRecDepth 100000 in
theorem rcmp_9 (g : ByteArray) (hg : g = dyG 9) (x y : Int) (w : World) : Calls Tryz.prog 78 #[.string g, .int .i64 x, .int .i64 y] w fun e w' => e = .returned (.int .i64 (bit (decide (x < y)))) ∧ w = w' := by
  have g7 : (g.toList == [61]) = false := str_ne (l := [61]) (by rw [hg]; decide)
  have g8 : (g.toList == [226, 137, 160]) = false := str_ne (l := [226, 137, 160]) (by rw [hg]; decide)
  have g9 : (g.toList == [60]) = true := str_eq (l := [60]) hg
  clear hg
  go_enter Tryz.func78, Tryz.ntmps78
  go_wp2_with (go_at_call 45; refine (bit_c _ _).mono ?_; rintro e w' ⟨rfl, rfl⟩)
  go_ret
  exact ⟨rfl, rfl⟩
set_option maxRecDepth 100000 in
theorem rcmp_10 (g : ByteArray) (hg : g = dyG 10) (x y : Int) (w : World) : Calls Tryz.prog 78 #[.string g, .int .i64 x, .int .i64 y] w fun e w' => e = .returned (.int .i64 (bit (decide (y < x)))) ∧ w = w' := by
  have g7 : (g.toList == [61]) = false := str_ne (l := [61]) (by rw [hg]; decide)
  have g8 : (g.toList == [226, 137, 160]) = false := str_ne (l := [226, 137, 160]) (by rw [hg]; decide)
  have g9 : (g.toList == [60]) = false := str_ne (l := [60]) (by rw [hg]; decide)
  have g10 : (g.toList == [62]) = true := str_eq (l := [62]) hg
  clear hg
  go_enter Tryz.func78, Tryz.ntmps78
  go_wp2_with (go_at_call 45; refine (bit_c _ _).mono ?_; rintro e w' ⟨rfl, rfl⟩)
  go_ret
  exact ⟨rfl, rfl⟩
set_option maxRecDepth 100000 in
theorem rcmp_11 (g : ByteArray) (hg : g = dyG 11) (x y : Int) (w : World) : Calls Tryz.prog 78 #[.string g, .int .i64 x, .int .i64 y] w fun e w' => e = .returned (.int .i64 (bit (decide (x ≤ y)))) ∧ w = w' := by
  have g7 : (g.toList == [61]) = false := str_ne (l := [61]) (by rw [hg]; decide)
  have g8 : (g.toList == [226, 137, 160]) = false := str_ne (l := [226, 137, 160]) (by rw [hg]; decide)
  have g9 : (g.toList == [60]) = false := str_ne (l := [60]) (by rw [hg]; decide)
  have g10 : (g.toList == [62]) = false := str_ne (l := [62]) (by rw [hg]; decide)
  have g11 : (g.toList == [226, 137, 164]) = true := str_eq (l := [226, 137, 164]) hg
  clear hg
  go_enter Tryz.func78, Tryz.ntmps78
  go_wp2_with (go_at_call 45; refine (bit_c _ _).mono ?_; rintro e w' ⟨rfl, rfl⟩)
  go_ret
  exact ⟨rfl, rfl⟩
set_option maxRecDepth 100000 in
theorem rcmp_12 (g : ByteArray) (hg : g = dyG 12) (x y : Int) (w : World) : Calls Tryz.prog 78 #[.string g, .int .i64 x, .int .i64 y] w fun e w' => e = .returned (.int .i64 (bit (decide (y ≤ x)))) ∧ w = w' := by
  have g7 : (g.toList == [61]) = false := str_ne (l := [61]) (by rw [hg]; decide)
  have g8 : (g.toList == [226, 137, 160]) = false := str_ne (l := [226, 137, 160]) (by rw [hg]; decide)
  have g9 : (g.toList == [60]) = false := str_ne (l := [60]) (by rw [hg]; decide)
  have g10 : (g.toList == [62]) = false := str_ne (l := [62]) (by rw [hg]; decide)
  have g11 : (g.toList == [226, 137, 164]) = false := str_ne (l := [226, 137, 164]) (by rw [hg]; decide)
  clear hg
  go_enter Tryz.func78, Tryz.ntmps78
  go_wp2_with (go_at_call 45; refine (bit_c _ _).mono ?_; rintro e w' ⟨rfl, rfl⟩)
  go_ret
  exact ⟨rfl, rfl⟩
end Go.Proofs.YthlkgfplffdiaaaGreatDoor.Nu
/- The plain functions of two (by wip/gen/mknuref.py). -/
namespace Go.Proofs.YthlkgfplffdiaaaGreatDoor.Nu
open Go Go.RowKit Go.Shelf
attribute [local go_sem] Oper.semAt_some

theorem bits5 (x y : Int) : (decide (0 ≤ x) = false ∧ (isB x && isB y) = false) ∨ (decide (0 ≤ x) = true ∧ decide (x ≤ 1) = false ∧ (isB x && isB y) = false) ∨ (decide (0 ≤ x) = true ∧ decide (x ≤ 1) = true ∧ decide (0 ≤ y) = false ∧ (isB x && isB y) = false) ∨ (decide (0 ≤ x) = true ∧ decide (x ≤ 1) = true ∧ decide (0 ≤ y) = true ∧ decide (y ≤ 1) = false ∧ (isB x && isB y) = false) ∨ (decide (0 ≤ x) = true ∧ decide (x ≤ 1) = true ∧ decide (0 ≤ y) = true ∧ decide (y ≤ 1) = true ∧ (isB x && isB y) = true) := by
  simp only [isB, decide_eq_true_eq, decide_eq_false_iff_not, ← Bool.decide_and]
  omega
set_option maxRecDepth 100000 in
set_option maxHeartbeats 2000000 in
theorem rdy_0 (g : ByteArray) (hg : g = dyG 0) (x y : Int) (hx : In x) (hy : In y) (w : World) : Calls Tryz.prog 51 #[.string g, .int .i64 x, .int .i64 y] w fun e w' => e = .returned (numV (dyN 0 x y)) ∧ Below w.heap.size w w' := by
  have hi := rIsDy_c g w
  rw [hg, whichD_at (by decide), ← hg] at hi
  have HI : Hid (Calls Tryz.prog 27 #[.string g] w fun e w' => e = .returned (.bool true) ∧ Below w.heap.size w w') := Lib.hid hi
  have g0 : (g.toList == [43]) = true := str_eq (l := [43]) hg
  have HX := Lib.hid (fun w => radd_c x y hx hy w)
  clear hg hi
  rcases bits5 x y with ⟨b1, hb⟩ | ⟨b1, b2, hb⟩ | ⟨b1, b2, b3, hb⟩ | ⟨b1, b2, b3, b4, hb⟩ | ⟨b1, b2, b3, b4, hb⟩
  all_goals have HBB := Lib.hid hb
  all_goals clear hb
  all_goals go_enter Tryz.func51, Tryz.ntmps51
  all_goals go_wp2_with (first | (go_at_call 27; refine HI.out.mono ?_; rintro e w1 ⟨rfl, hb1⟩; have HB1 := Lib.hid hb1; clear hb1) | (go_at_call 75; refine (HX.out _).mono ?_; rintro e w2 ⟨rfl, rfl⟩))
  all_goals go_ret2
  all_goals exact ⟨rfl, HB1.out⟩
set_option maxRecDepth 100000 in
set_option maxHeartbeats 2000000 in
theorem rdy_1 (g : ByteArray) (hg : g = dyG 1) (x y : Int) (hx : In x) (hy : In y) (w : World) : Calls Tryz.prog 51 #[.string g, .int .i64 x, .int .i64 y] w fun e w' => e = .returned (numV (dyN 1 x y)) ∧ Below w.heap.size w w' := by
  have hi := rIsDy_c g w
  rw [hg, whichD_at (by decide), ← hg] at hi
  have HI : Hid (Calls Tryz.prog 27 #[.string g] w fun e w' => e = .returned (.bool true) ∧ Below w.heap.size w w') := Lib.hid hi
  have g0 : (g.toList == [43]) = false := str_ne (l := [43]) (by rw [hg]; decide)
  have g1 : (g.toList == [45]) = true := str_eq (l := [45]) hg
  have HX := Lib.hid (fun w => rtake_c x y hx hy w)
  clear hg hi
  rcases bits5 x y with ⟨b1, hb⟩ | ⟨b1, b2, hb⟩ | ⟨b1, b2, b3, hb⟩ | ⟨b1, b2, b3, b4, hb⟩ | ⟨b1, b2, b3, b4, hb⟩
  all_goals have HBB := Lib.hid hb
  all_goals clear hb
  all_goals go_enter Tryz.func51, Tryz.ntmps51
  all_goals go_wp2_with (first | (go_at_call 27; refine HI.out.mono ?_; rintro e w1 ⟨rfl, hb1⟩; have HB1 := Lib.hid hb1; clear hb1) | (go_at_call 44; refine (HX.out _).mono ?_; rintro e w2 ⟨rfl, rfl⟩))
  all_goals go_ret2
  all_goals exact ⟨rfl, HB1.out⟩
set_option maxRecDepth 100000 in
set_option maxHeartbeats 2000000 in
theorem rdy_2 (g : ByteArray) (hg : g = dyG 2) (x y : Int) (hx : In x) (hy : In y) (w : World) : Calls Tryz.prog 51 #[.string g, .int .i64 x, .int .i64 y] w fun e w' => e = .returned (numV (dyN 2 x y)) ∧ Below w.heap.size w w' := by
  have hi := rIsDy_c g w
  rw [hg, whichD_at (by decide), ← hg] at hi
  have HI : Hid (Calls Tryz.prog 27 #[.string g] w fun e w' => e = .returned (.bool true) ∧ Below w.heap.size w w') := Lib.hid hi
  have g0 : (g.toList == [43]) = false := str_ne (l := [43]) (by rw [hg]; decide)
  have g1 : (g.toList == [45]) = false := str_ne (l := [45]) (by rw [hg]; decide)
  have g2 : (g.toList == [195, 151]) = true := str_eq (l := [195, 151]) hg
  have HX := Lib.hid (fun w => rtimes_c x y hx hy w)
  clear hg hi
  rcases bits5 x y with ⟨b1, hb⟩ | ⟨b1, b2, hb⟩ | ⟨b1, b2, b3, hb⟩ | ⟨b1, b2, b3, b4, hb⟩ | ⟨b1, b2, b3, b4, hb⟩
  all_goals have HBB := Lib.hid hb
  all_goals clear hb
  all_goals go_enter Tryz.func51, Tryz.ntmps51
  all_goals go_wp2_with (first | (go_at_call 27; refine HI.out.mono ?_; rintro e w1 ⟨rfl, hb1⟩; have HB1 := Lib.hid hb1; clear hb1) | (go_at_call 76; refine (HX.out _).mono ?_; rintro e w2 ⟨rfl, rfl⟩))
  all_goals go_ret2
  all_goals exact ⟨rfl, HB1.out⟩
set_option maxRecDepth 100000 in
set_option maxHeartbeats 2000000 in
theorem rdy_3 (g : ByteArray) (hg : g = dyG 3) (x y : Int) (hx : In x) (w : World) : Calls Tryz.prog 51 #[.string g, .int .i64 x, .int .i64 y] w fun e w' => e = .returned (numV (dyN 3 x y)) ∧ Below w.heap.size w w' := by
  have hi := rIsDy_c g w
  rw [hg, whichD_at (by decide), ← hg] at hi
  have HI : Hid (Calls Tryz.prog 27 #[.string g] w fun e w' => e = .returned (.bool true) ∧ Below w.heap.size w w') := Lib.hid hi
  have g0 : (g.toList == [43]) = false := str_ne (l := [43]) (by rw [hg]; decide)
  have g1 : (g.toList == [45]) = false := str_ne (l := [45]) (by rw [hg]; decide)
  have g2 : (g.toList == [195, 151]) = false := str_ne (l := [195, 151]) (by rw [hg]; decide)
  have g3 : (g.toList == [195, 183]) = true := str_eq (l := [195, 183]) hg
  have HX := Lib.hid (fun w => rdivide_c x y hx w)
  clear hg hi
  rcases bits5 x y with ⟨b1, hb⟩ | ⟨b1, b2, hb⟩ | ⟨b1, b2, b3, hb⟩ | ⟨b1, b2, b3, b4, hb⟩ | ⟨b1, b2, b3, b4, hb⟩
  all_goals have HBB := Lib.hid hb
  all_goals clear hb
  all_goals go_enter Tryz.func51, Tryz.ntmps51
  all_goals go_wp2_with (first | (go_at_call 27; refine HI.out.mono ?_; rintro e w1 ⟨rfl, hb1⟩; have HB1 := Lib.hid hb1; clear hb1) | (go_at_call 46; refine (HX.out _).mono ?_; rintro e w2 ⟨rfl, rfl⟩))
  all_goals go_ret2
  all_goals exact ⟨rfl, HB1.out⟩
set_option maxRecDepth 100000 in
set_option maxHeartbeats 2000000 in
theorem rdy_4 (g : ByteArray) (hg : g = dyG 4) (x y : Int) (w : World) : Calls Tryz.prog 51 #[.string g, .int .i64 x, .int .i64 y] w fun e w' => e = .returned (numV (dyN 4 x y)) ∧ Below w.heap.size w w' := by
  have hi := rIsDy_c g w
  rw [hg, whichD_at (by decide), ← hg] at hi
  have HI : Hid (Calls Tryz.prog 27 #[.string g] w fun e w' => e = .returned (.bool true) ∧ Below w.heap.size w w') := Lib.hid hi
  have g0 : (g.toList == [43]) = false := str_ne (l := [43]) (by rw [hg]; decide)
  have g1 : (g.toList == [45]) = false := str_ne (l := [45]) (by rw [hg]; decide)
  have g2 : (g.toList == [195, 151]) = false := str_ne (l := [195, 151]) (by rw [hg]; decide)
  have g3 : (g.toList == [195, 183]) = false := str_ne (l := [195, 183]) (by rw [hg]; decide)
  have g4 : (g.toList == [226, 140, 136]) = true := str_eq (l := [226, 140, 136]) hg
  clear hg hi
  rcases bits5 x y with ⟨b1, hb⟩ | ⟨b1, b2, hb⟩ | ⟨b1, b2, b3, hb⟩ | ⟨b1, b2, b3, b4, hb⟩ | ⟨b1, b2, b3, b4, hb⟩
  all_goals have HBB := Lib.hid hb
  all_goals clear hb
  all_goals go_enter Tryz.func51, Tryz.ntmps51
  all_goals go_wp2_with (first | (go_at_call 27; refine HI.out.mono ?_; rintro e w1 ⟨rfl, hb1⟩; have HB1 := Lib.hid hb1; clear hb1))
  all_goals go_ret2
  all_goals exact ⟨by show _ = Ending.returned (.tuple #[.int .i64 (max x y), .int .i64 0]); first | (rw [show max x y = x by omega]; rfl) | (rw [show max x y = y by omega]; rfl), HB1.out⟩
set_option maxRecDepth 100000 in
set_option maxHeartbeats 2000000 in
theorem rdy_5 (g : ByteArray) (hg : g = dyG 5) (x y : Int) (w : World) : Calls Tryz.prog 51 #[.string g, .int .i64 x, .int .i64 y] w fun e w' => e = .returned (numV (dyN 5 x y)) ∧ Below w.heap.size w w' := by
  have hi := rIsDy_c g w
  rw [hg, whichD_at (by decide), ← hg] at hi
  have HI : Hid (Calls Tryz.prog 27 #[.string g] w fun e w' => e = .returned (.bool true) ∧ Below w.heap.size w w') := Lib.hid hi
  have g0 : (g.toList == [43]) = false := str_ne (l := [43]) (by rw [hg]; decide)
  have g1 : (g.toList == [45]) = false := str_ne (l := [45]) (by rw [hg]; decide)
  have g2 : (g.toList == [195, 151]) = false := str_ne (l := [195, 151]) (by rw [hg]; decide)
  have g3 : (g.toList == [195, 183]) = false := str_ne (l := [195, 183]) (by rw [hg]; decide)
  have g4 : (g.toList == [226, 140, 136]) = false := str_ne (l := [226, 140, 136]) (by rw [hg]; decide)
  have g5 : (g.toList == [226, 140, 138]) = true := str_eq (l := [226, 140, 138]) hg
  clear hg hi
  rcases bits5 x y with ⟨b1, hb⟩ | ⟨b1, b2, hb⟩ | ⟨b1, b2, b3, hb⟩ | ⟨b1, b2, b3, b4, hb⟩ | ⟨b1, b2, b3, b4, hb⟩
  all_goals have HBB := Lib.hid hb
  all_goals clear hb
  all_goals go_enter Tryz.func51, Tryz.ntmps51
  all_goals go_wp2_with (first | (go_at_call 27; refine HI.out.mono ?_; rintro e w1 ⟨rfl, hb1⟩; have HB1 := Lib.hid hb1; clear hb1))
  all_goals go_ret2
  all_goals exact ⟨by show _ = Ending.returned (.tuple #[.int .i64 (min x y), .int .i64 0]); first | (rw [show min x y = x by omega]; rfl) | (rw [show min x y = y by omega]; rfl), HB1.out⟩
set_option maxRecDepth 100000 in
set_option maxHeartbeats 2000000 in
theorem rdy_6 (g : ByteArray) (hg : g = dyG 6) (x y : Int) (hx : In x) (hy : In y) (w : World) : Calls Tryz.prog 51 #[.string g, .int .i64 x, .int .i64 y] w fun e w' => e = .returned (numV (dyN 6 x y)) ∧ Below w.heap.size w w' := by
  have hi := rIsDy_c g w
  rw [hg, whichD_at (by decide), ← hg] at hi
  have HI : Hid (Calls Tryz.prog 27 #[.string g] w fun e w' => e = .returned (.bool true) ∧ Below w.heap.size w w') := Lib.hid hi
  have g0 : (g.toList == [43]) = false := str_ne (l := [43]) (by rw [hg]; decide)
  have g1 : (g.toList == [45]) = false := str_ne (l := [45]) (by rw [hg]; decide)
  have g2 : (g.toList == [195, 151]) = false := str_ne (l := [195, 151]) (by rw [hg]; decide)
  have g3 : (g.toList == [195, 183]) = false := str_ne (l := [195, 183]) (by rw [hg]; decide)
  have g4 : (g.toList == [226, 140, 136]) = false := str_ne (l := [226, 140, 136]) (by rw [hg]; decide)
  have g5 : (g.toList == [226, 140, 138]) = false := str_ne (l := [226, 140, 138]) (by rw [hg]; decide)
  have g6 : (g.toList == [124]) = true := str_eq (l := [124]) hg
  have HX := Lib.hid (fun w => rresidue_c x y hx hy w)
  clear hg hi
  rcases bits5 x y with ⟨b1, hb⟩ | ⟨b1, b2, hb⟩ | ⟨b1, b2, b3, hb⟩ | ⟨b1, b2, b3, b4, hb⟩ | ⟨b1, b2, b3, b4, hb⟩
  all_goals have HBB := Lib.hid hb
  all_goals clear hb
  all_goals go_enter Tryz.func51, Tryz.ntmps51
  all_goals go_wp2_with (first | (go_at_call 27; refine HI.out.mono ?_; rintro e w1 ⟨rfl, hb1⟩; have HB1 := Lib.hid hb1; clear hb1) | (go_at_call 77; refine (HX.out _).mono ?_; rintro e w2 ⟨rfl, rfl⟩))
  all_goals go_ret2
  all_goals exact ⟨rfl, HB1.out⟩
set_option maxRecDepth 100000 in
set_option maxHeartbeats 2000000 in
theorem rdy_7 (g : ByteArray) (hg : g = dyG 7) (x y : Int) (w : World) : Calls Tryz.prog 51 #[.string g, .int .i64 x, .int .i64 y] w fun e w' => e = .returned (numV (dyN 7 x y)) ∧ Below w.heap.size w w' := by
  have hi := rIsDy_c g w
  rw [hg, whichD_at (by decide), ← hg] at hi
  have HI : Hid (Calls Tryz.prog 27 #[.string g] w fun e w' => e = .returned (.bool true) ∧ Below w.heap.size w w') := Lib.hid hi
  have g0 : (g.toList == [43]) = false := str_ne (l := [43]) (by rw [hg]; decide)
  have g1 : (g.toList == [45]) = false := str_ne (l := [45]) (by rw [hg]; decide)
  have g2 : (g.toList == [195, 151]) = false := str_ne (l := [195, 151]) (by rw [hg]; decide)
  have g3 : (g.toList == [195, 183]) = false := str_ne (l := [195, 183]) (by rw [hg]; decide)
  have g4 : (g.toList == [226, 140, 136]) = false := str_ne (l := [226, 140, 136]) (by rw [hg]; decide)
  have g5 : (g.toList == [226, 140, 138]) = false := str_ne (l := [226, 140, 138]) (by rw [hg]; decide)
  have g6 : (g.toList == [124]) = false := str_ne (l := [124]) (by rw [hg]; decide)
  have g13 : (g.toList == [226, 136, 167]) = false := str_ne (l := [226, 136, 167]) (by rw [hg]; decide)
  have g14 : (g.toList == [226, 136, 168]) = false := str_ne (l := [226, 136, 168]) (by rw [hg]; decide)
  have HX := Lib.hid (fun w => rcmp_7 g hg x y w)
  clear hg hi
  rcases bits5 x y with ⟨b1, hb⟩ | ⟨b1, b2, hb⟩ | ⟨b1, b2, b3, hb⟩ | ⟨b1, b2, b3, b4, hb⟩ | ⟨b1, b2, b3, b4, hb⟩
  all_goals have HBB := Lib.hid hb
  all_goals clear hb
  all_goals go_enter Tryz.func51, Tryz.ntmps51
  all_goals go_wp2_with (first | (go_at_call 27; refine HI.out.mono ?_; rintro e w1 ⟨rfl, hb1⟩; have HB1 := Lib.hid hb1; clear hb1) | (go_at_call 78; refine (HX.out _).mono ?_; rintro e w2 ⟨rfl, rfl⟩))
  all_goals go_ret2
  all_goals exact ⟨rfl, HB1.out⟩
set_option maxRecDepth 100000 in
set_option maxHeartbeats 2000000 in
theorem rdy_8 (g : ByteArray) (hg : g = dyG 8) (x y : Int) (w : World) : Calls Tryz.prog 51 #[.string g, .int .i64 x, .int .i64 y] w fun e w' => e = .returned (numV (dyN 8 x y)) ∧ Below w.heap.size w w' := by
  have hi := rIsDy_c g w
  rw [hg, whichD_at (by decide), ← hg] at hi
  have HI : Hid (Calls Tryz.prog 27 #[.string g] w fun e w' => e = .returned (.bool true) ∧ Below w.heap.size w w') := Lib.hid hi
  have g0 : (g.toList == [43]) = false := str_ne (l := [43]) (by rw [hg]; decide)
  have g1 : (g.toList == [45]) = false := str_ne (l := [45]) (by rw [hg]; decide)
  have g2 : (g.toList == [195, 151]) = false := str_ne (l := [195, 151]) (by rw [hg]; decide)
  have g3 : (g.toList == [195, 183]) = false := str_ne (l := [195, 183]) (by rw [hg]; decide)
  have g4 : (g.toList == [226, 140, 136]) = false := str_ne (l := [226, 140, 136]) (by rw [hg]; decide)
  have g5 : (g.toList == [226, 140, 138]) = false := str_ne (l := [226, 140, 138]) (by rw [hg]; decide)
  have g6 : (g.toList == [124]) = false := str_ne (l := [124]) (by rw [hg]; decide)
  have g13 : (g.toList == [226, 136, 167]) = false := str_ne (l := [226, 136, 167]) (by rw [hg]; decide)
  have g14 : (g.toList == [226, 136, 168]) = false := str_ne (l := [226, 136, 168]) (by rw [hg]; decide)
  have HX := Lib.hid (fun w => rcmp_8 g hg x y w)
  clear hg hi
  rcases bits5 x y with ⟨b1, hb⟩ | ⟨b1, b2, hb⟩ | ⟨b1, b2, b3, hb⟩ | ⟨b1, b2, b3, b4, hb⟩ | ⟨b1, b2, b3, b4, hb⟩
  all_goals have HBB := Lib.hid hb
  all_goals clear hb
  all_goals go_enter Tryz.func51, Tryz.ntmps51
  all_goals go_wp2_with (first | (go_at_call 27; refine HI.out.mono ?_; rintro e w1 ⟨rfl, hb1⟩; have HB1 := Lib.hid hb1; clear hb1) | (go_at_call 78; refine (HX.out _).mono ?_; rintro e w2 ⟨rfl, rfl⟩))
  all_goals go_ret2
  all_goals exact ⟨by show Ending.returned (.tuple #[.int .i64 (bit (!decide (x = y))), .int .i64 0]) = _; rw [show (!decide (x = y)) = decide (x ≠ y) by simp]; rfl, HB1.out⟩
set_option maxRecDepth 100000 in
set_option maxHeartbeats 2000000 in
theorem rdy_9 (g : ByteArray) (hg : g = dyG 9) (x y : Int) (w : World) : Calls Tryz.prog 51 #[.string g, .int .i64 x, .int .i64 y] w fun e w' => e = .returned (numV (dyN 9 x y)) ∧ Below w.heap.size w w' := by
  have hi := rIsDy_c g w
  rw [hg, whichD_at (by decide), ← hg] at hi
  have HI : Hid (Calls Tryz.prog 27 #[.string g] w fun e w' => e = .returned (.bool true) ∧ Below w.heap.size w w') := Lib.hid hi
  have g0 : (g.toList == [43]) = false := str_ne (l := [43]) (by rw [hg]; decide)
  have g1 : (g.toList == [45]) = false := str_ne (l := [45]) (by rw [hg]; decide)
  have g2 : (g.toList == [195, 151]) = false := str_ne (l := [195, 151]) (by rw [hg]; decide)
  have g3 : (g.toList == [195, 183]) = false := str_ne (l := [195, 183]) (by rw [hg]; decide)
  have g4 : (g.toList == [226, 140, 136]) = false := str_ne (l := [226, 140, 136]) (by rw [hg]; decide)
  have g5 : (g.toList == [226, 140, 138]) = false := str_ne (l := [226, 140, 138]) (by rw [hg]; decide)
  have g6 : (g.toList == [124]) = false := str_ne (l := [124]) (by rw [hg]; decide)
  have g13 : (g.toList == [226, 136, 167]) = false := str_ne (l := [226, 136, 167]) (by rw [hg]; decide)
  have g14 : (g.toList == [226, 136, 168]) = false := str_ne (l := [226, 136, 168]) (by rw [hg]; decide)
  have HX := Lib.hid (fun w => rcmp_9 g hg x y w)
  clear hg hi
  rcases bits5 x y with ⟨b1, hb⟩ | ⟨b1, b2, hb⟩ | ⟨b1, b2, b3, hb⟩ | ⟨b1, b2, b3, b4, hb⟩ | ⟨b1, b2, b3, b4, hb⟩
  all_goals have HBB := Lib.hid hb
  all_goals clear hb
  all_goals go_enter Tryz.func51, Tryz.ntmps51
  all_goals go_wp2_with (first | (go_at_call 27; refine HI.out.mono ?_; rintro e w1 ⟨rfl, hb1⟩; have HB1 := Lib.hid hb1; clear hb1) | (go_at_call 78; refine (HX.out _).mono ?_; rintro e w2 ⟨rfl, rfl⟩))
  all_goals go_ret2
  all_goals exact ⟨rfl, HB1.out⟩
set_option maxRecDepth 100000 in
set_option maxHeartbeats 2000000 in
theorem rdy_10 (g : ByteArray) (hg : g = dyG 10) (x y : Int) (w : World) : Calls Tryz.prog 51 #[.string g, .int .i64 x, .int .i64 y] w fun e w' => e = .returned (numV (dyN 10 x y)) ∧ Below w.heap.size w w' := by
  have hi := rIsDy_c g w
  rw [hg, whichD_at (by decide), ← hg] at hi
  have HI : Hid (Calls Tryz.prog 27 #[.string g] w fun e w' => e = .returned (.bool true) ∧ Below w.heap.size w w') := Lib.hid hi
  have g0 : (g.toList == [43]) = false := str_ne (l := [43]) (by rw [hg]; decide)
  have g1 : (g.toList == [45]) = false := str_ne (l := [45]) (by rw [hg]; decide)
  have g2 : (g.toList == [195, 151]) = false := str_ne (l := [195, 151]) (by rw [hg]; decide)
  have g3 : (g.toList == [195, 183]) = false := str_ne (l := [195, 183]) (by rw [hg]; decide)
  have g4 : (g.toList == [226, 140, 136]) = false := str_ne (l := [226, 140, 136]) (by rw [hg]; decide)
  have g5 : (g.toList == [226, 140, 138]) = false := str_ne (l := [226, 140, 138]) (by rw [hg]; decide)
  have g6 : (g.toList == [124]) = false := str_ne (l := [124]) (by rw [hg]; decide)
  have g13 : (g.toList == [226, 136, 167]) = false := str_ne (l := [226, 136, 167]) (by rw [hg]; decide)
  have g14 : (g.toList == [226, 136, 168]) = false := str_ne (l := [226, 136, 168]) (by rw [hg]; decide)
  have HX := Lib.hid (fun w => rcmp_10 g hg x y w)
  clear hg hi
  rcases bits5 x y with ⟨b1, hb⟩ | ⟨b1, b2, hb⟩ | ⟨b1, b2, b3, hb⟩ | ⟨b1, b2, b3, b4, hb⟩ | ⟨b1, b2, b3, b4, hb⟩
  all_goals have HBB := Lib.hid hb
  all_goals clear hb
  all_goals go_enter Tryz.func51, Tryz.ntmps51
  all_goals go_wp2_with (first | (go_at_call 27; refine HI.out.mono ?_; rintro e w1 ⟨rfl, hb1⟩; have HB1 := Lib.hid hb1; clear hb1) | (go_at_call 78; refine (HX.out _).mono ?_; rintro e w2 ⟨rfl, rfl⟩))
  all_goals go_ret2
  all_goals exact ⟨rfl, HB1.out⟩
set_option maxRecDepth 100000 in
set_option maxHeartbeats 2000000 in
theorem rdy_11 (g : ByteArray) (hg : g = dyG 11) (x y : Int) (w : World) : Calls Tryz.prog 51 #[.string g, .int .i64 x, .int .i64 y] w fun e w' => e = .returned (numV (dyN 11 x y)) ∧ Below w.heap.size w w' := by
  have hi := rIsDy_c g w
  rw [hg, whichD_at (by decide), ← hg] at hi
  have HI : Hid (Calls Tryz.prog 27 #[.string g] w fun e w' => e = .returned (.bool true) ∧ Below w.heap.size w w') := Lib.hid hi
  have g0 : (g.toList == [43]) = false := str_ne (l := [43]) (by rw [hg]; decide)
  have g1 : (g.toList == [45]) = false := str_ne (l := [45]) (by rw [hg]; decide)
  have g2 : (g.toList == [195, 151]) = false := str_ne (l := [195, 151]) (by rw [hg]; decide)
  have g3 : (g.toList == [195, 183]) = false := str_ne (l := [195, 183]) (by rw [hg]; decide)
  have g4 : (g.toList == [226, 140, 136]) = false := str_ne (l := [226, 140, 136]) (by rw [hg]; decide)
  have g5 : (g.toList == [226, 140, 138]) = false := str_ne (l := [226, 140, 138]) (by rw [hg]; decide)
  have g6 : (g.toList == [124]) = false := str_ne (l := [124]) (by rw [hg]; decide)
  have g13 : (g.toList == [226, 136, 167]) = false := str_ne (l := [226, 136, 167]) (by rw [hg]; decide)
  have g14 : (g.toList == [226, 136, 168]) = false := str_ne (l := [226, 136, 168]) (by rw [hg]; decide)
  have HX := Lib.hid (fun w => rcmp_11 g hg x y w)
  clear hg hi
  rcases bits5 x y with ⟨b1, hb⟩ | ⟨b1, b2, hb⟩ | ⟨b1, b2, b3, hb⟩ | ⟨b1, b2, b3, b4, hb⟩ | ⟨b1, b2, b3, b4, hb⟩
  all_goals have HBB := Lib.hid hb
  all_goals clear hb
  all_goals go_enter Tryz.func51, Tryz.ntmps51
  all_goals go_wp2_with (first | (go_at_call 27; refine HI.out.mono ?_; rintro e w1 ⟨rfl, hb1⟩; have HB1 := Lib.hid hb1; clear hb1) | (go_at_call 78; refine (HX.out _).mono ?_; rintro e w2 ⟨rfl, rfl⟩))
  all_goals go_ret2
  all_goals exact ⟨rfl, HB1.out⟩
set_option maxRecDepth 100000 in
set_option maxHeartbeats 2000000 in
theorem rdy_12 (g : ByteArray) (hg : g = dyG 12) (x y : Int) (w : World) : Calls Tryz.prog 51 #[.string g, .int .i64 x, .int .i64 y] w fun e w' => e = .returned (numV (dyN 12 x y)) ∧ Below w.heap.size w w' := by
  have hi := rIsDy_c g w
  rw [hg, whichD_at (by decide), ← hg] at hi
  have HI : Hid (Calls Tryz.prog 27 #[.string g] w fun e w' => e = .returned (.bool true) ∧ Below w.heap.size w w') := Lib.hid hi
  have g0 : (g.toList == [43]) = false := str_ne (l := [43]) (by rw [hg]; decide)
  have g1 : (g.toList == [45]) = false := str_ne (l := [45]) (by rw [hg]; decide)
  have g2 : (g.toList == [195, 151]) = false := str_ne (l := [195, 151]) (by rw [hg]; decide)
  have g3 : (g.toList == [195, 183]) = false := str_ne (l := [195, 183]) (by rw [hg]; decide)
  have g4 : (g.toList == [226, 140, 136]) = false := str_ne (l := [226, 140, 136]) (by rw [hg]; decide)
  have g5 : (g.toList == [226, 140, 138]) = false := str_ne (l := [226, 140, 138]) (by rw [hg]; decide)
  have g6 : (g.toList == [124]) = false := str_ne (l := [124]) (by rw [hg]; decide)
  have g13 : (g.toList == [226, 136, 167]) = false := str_ne (l := [226, 136, 167]) (by rw [hg]; decide)
  have g14 : (g.toList == [226, 136, 168]) = false := str_ne (l := [226, 136, 168]) (by rw [hg]; decide)
  have HX := Lib.hid (fun w => rcmp_12 g hg x y w)
  clear hg hi
  rcases bits5 x y with ⟨b1, hb⟩ | ⟨b1, b2, hb⟩ | ⟨b1, b2, b3, hb⟩ | ⟨b1, b2, b3, b4, hb⟩ | ⟨b1, b2, b3, b4, hb⟩
  all_goals have HBB := Lib.hid hb
  all_goals clear hb
  all_goals go_enter Tryz.func51, Tryz.ntmps51
  all_goals go_wp2_with (first | (go_at_call 27; refine HI.out.mono ?_; rintro e w1 ⟨rfl, hb1⟩; have HB1 := Lib.hid hb1; clear hb1) | (go_at_call 78; refine (HX.out _).mono ?_; rintro e w2 ⟨rfl, rfl⟩))
  all_goals go_ret2
  all_goals exact ⟨rfl, HB1.out⟩
set_option maxRecDepth 100000 in
set_option maxHeartbeats 2000000 in
theorem rdy_13 (g : ByteArray) (hg : g = dyG 13) (x y : Int) (w : World) : Calls Tryz.prog 51 #[.string g, .int .i64 x, .int .i64 y] w fun e w' => e = .returned (numV (dyN 13 x y)) ∧ Below w.heap.size w w' := by
  have hi := rIsDy_c g w
  rw [hg, whichD_at (by decide), ← hg] at hi
  have HI : Hid (Calls Tryz.prog 27 #[.string g] w fun e w' => e = .returned (.bool true) ∧ Below w.heap.size w w') := Lib.hid hi
  have g0 : (g.toList == [43]) = false := str_ne (l := [43]) (by rw [hg]; decide)
  have g1 : (g.toList == [45]) = false := str_ne (l := [45]) (by rw [hg]; decide)
  have g2 : (g.toList == [195, 151]) = false := str_ne (l := [195, 151]) (by rw [hg]; decide)
  have g3 : (g.toList == [195, 183]) = false := str_ne (l := [195, 183]) (by rw [hg]; decide)
  have g4 : (g.toList == [226, 140, 136]) = false := str_ne (l := [226, 140, 136]) (by rw [hg]; decide)
  have g5 : (g.toList == [226, 140, 138]) = false := str_ne (l := [226, 140, 138]) (by rw [hg]; decide)
  have g6 : (g.toList == [124]) = false := str_ne (l := [124]) (by rw [hg]; decide)
  have g13 : (g.toList == [226, 136, 167]) = true := str_eq (l := [226, 136, 167]) hg
  clear hg hi
  rcases bits5 x y with ⟨b1, hb⟩ | ⟨b1, b2, hb⟩ | ⟨b1, b2, b3, hb⟩ | ⟨b1, b2, b3, b4, hb⟩ | ⟨b1, b2, b3, b4, hb⟩
  all_goals have HBB := Lib.hid hb
  all_goals clear hb
  all_goals go_enter Tryz.func51, Tryz.ntmps51
  all_goals go_wp2_with (first | (go_at_call 27; refine HI.out.mono ?_; rintro e w1 ⟨rfl, hb1⟩; have HB1 := Lib.hid hb1; clear hb1))
  all_goals go_ret2
  all_goals exact ⟨by show _ = Ending.returned (numV (bitsR x y (min x y))); unfold bitsR; rw [HBB.out]; first | rfl | (rw [show min x y = x by omega]; rfl) | (rw [show min x y = y by omega]; rfl), HB1.out⟩
set_option maxRecDepth 100000 in
set_option maxHeartbeats 2000000 in
theorem rdy_14 (g : ByteArray) (hg : g = dyG 14) (x y : Int) (w : World) : Calls Tryz.prog 51 #[.string g, .int .i64 x, .int .i64 y] w fun e w' => e = .returned (numV (dyN 14 x y)) ∧ Below w.heap.size w w' := by
  have hi := rIsDy_c g w
  rw [hg, whichD_at (by decide), ← hg] at hi
  have HI : Hid (Calls Tryz.prog 27 #[.string g] w fun e w' => e = .returned (.bool true) ∧ Below w.heap.size w w') := Lib.hid hi
  have g0 : (g.toList == [43]) = false := str_ne (l := [43]) (by rw [hg]; decide)
  have g1 : (g.toList == [45]) = false := str_ne (l := [45]) (by rw [hg]; decide)
  have g2 : (g.toList == [195, 151]) = false := str_ne (l := [195, 151]) (by rw [hg]; decide)
  have g3 : (g.toList == [195, 183]) = false := str_ne (l := [195, 183]) (by rw [hg]; decide)
  have g4 : (g.toList == [226, 140, 136]) = false := str_ne (l := [226, 140, 136]) (by rw [hg]; decide)
  have g5 : (g.toList == [226, 140, 138]) = false := str_ne (l := [226, 140, 138]) (by rw [hg]; decide)
  have g6 : (g.toList == [124]) = false := str_ne (l := [124]) (by rw [hg]; decide)
  have g13 : (g.toList == [226, 136, 167]) = false := str_ne (l := [226, 136, 167]) (by rw [hg]; decide)
  have g14 : (g.toList == [226, 136, 168]) = true := str_eq (l := [226, 136, 168]) hg
  clear hg hi
  rcases bits5 x y with ⟨b1, hb⟩ | ⟨b1, b2, hb⟩ | ⟨b1, b2, b3, hb⟩ | ⟨b1, b2, b3, b4, hb⟩ | ⟨b1, b2, b3, b4, hb⟩
  all_goals have HBB := Lib.hid hb
  all_goals clear hb
  all_goals go_enter Tryz.func51, Tryz.ntmps51
  all_goals go_wp2_with (first | (go_at_call 27; refine HI.out.mono ?_; rintro e w1 ⟨rfl, hb1⟩; have HB1 := Lib.hid hb1; clear hb1))
  all_goals go_ret2
  all_goals exact ⟨by show _ = Ending.returned (numV (bitsR x y (max x y))); unfold bitsR; rw [HBB.out]; first | rfl | (rw [show max x y = x by omega]; rfl) | (rw [show max x y = y by omega]; rfl), HB1.out⟩
set_option maxRecDepth 100000 in
theorem rdy_none (g : ByteArray) (hg : whichD g = 15) (x y : Int) (w : World) : Calls Tryz.prog 51 #[.string g, .int .i64 x, .int .i64 y] w fun e w' => e = .returned (numV (0, 102)) ∧ Below w.heap.size w w' := by
  have hi := rIsDy_c g w
  rw [hg] at hi
  have HI : Hid (Calls Tryz.prog 27 #[.string g] w fun e w' => e = .returned (.bool false) ∧ Below w.heap.size w w') := Lib.hid hi
  clear hi hg
  go_enter Tryz.func51, Tryz.ntmps51
  go_wp2_with (go_at_call 27; refine HI.out.mono ?_; rintro e w1 ⟨rfl, hb1⟩; have HB1 := Lib.hid hb1; clear hb1)
  go_ret2
  exact ⟨rfl, HB1.out⟩
theorem rdy_c (g : ByteArray) (x y : Int) (hx : In x) (hy : In y) (w : World) : Calls Tryz.prog 51 #[.string g, .int .i64 x, .int .i64 y] w fun e w' => e = .returned (numV (dyN (whichD g) x y)) ∧ Below w.heap.size w w' := by
  rcases which15 g with ⟨k, hk, hg, hw⟩ | ⟨_, hw⟩
  · rw [hw]
    rcases (by omega : k = 0 ∨ k = 1 ∨ k = 2 ∨ k = 3 ∨ k = 4 ∨ k = 5 ∨ k = 6 ∨ k = 7 ∨ k = 8 ∨ k = 9 ∨ k = 10 ∨ k = 11 ∨ k = 12 ∨ k = 13 ∨ k = 14) with rfl | rfl | rfl | rfl | rfl | rfl | rfl | rfl | rfl | rfl | rfl | rfl | rfl | rfl | rfl
    · exact rdy_0 g hg x y hx hy w
    · exact rdy_1 g hg x y hx hy w
    · exact rdy_2 g hg x y hx hy w
    · exact rdy_3 g hg x y hx w
    · exact rdy_4 g hg x y w
    · exact rdy_5 g hg x y w
    · exact rdy_6 g hg x y hx hy w
    · exact rdy_7 g hg x y w
    · exact rdy_8 g hg x y w
    · exact rdy_9 g hg x y w
    · exact rdy_10 g hg x y w
    · exact rdy_11 g hg x y w
    · exact rdy_12 g hg x y w
    · exact rdy_13 g hg x y w
    · exact rdy_14 g hg x y w
  · rw [hw]
    exact rdy_none g hw x y w
end Go.Proofs.YthlkgfplffdiaaaGreatDoor.Nu
/- The plain functions of one (by wip/gen/mknuref.py). -/
namespace Go.Proofs.YthlkgfplffdiaaaGreatDoor.Nu
open Go Go.RowKit Go.Shelf
attribute [local go_sem] Oper.semAt_some

set_option maxRecDepth 100000 in
set_option maxHeartbeats 2000000 in
theorem rmon_0 (g : ByteArray) (hg : g = monG 0) (y : Int) (w : World) : Calls Tryz.prog 25 #[.string g, .int .i64 y] w fun e w' => e = .returned (numV (monN 0 y)) ∧ Below w.heap.size w w' := by
  have hi := rIsMon_c g w
  rw [hg, whichM_at (by decide), ← hg] at hi
  have HI : Hid (Calls Tryz.prog 24 #[.string g] w fun e w' => e = .returned (.bool true) ∧ Below w.heap.size w w') := Lib.hid hi
  have g1 : (g.toList == [45]) = false := str_ne (l := [45]) (by rw [hg]; decide)
  have g2 : (g.toList == [195, 151]) = false := str_ne (l := [195, 151]) (by rw [hg]; decide)
  have g3 : (g.toList == [195, 183]) = false := str_ne (l := [195, 183]) (by rw [hg]; decide)
  have g6 : (g.toList == [124]) = false := str_ne (l := [124]) (by rw [hg]; decide)
  have g7 : (g.toList == [126]) = false := str_ne (l := [126]) (by rw [hg]; decide)
  clear hg hi
  go_enter Tryz.func25, Tryz.ntmps25
  go_wp2_with (first | (go_at_call 24; refine HI.out.mono ?_; rintro e w1 ⟨rfl, hb1⟩; have HB1 := Lib.hid hb1; clear hb1))
  go_ret2
  exact ⟨rfl, HB1.out⟩
set_option maxRecDepth 100000 in
set_option maxHeartbeats 2000000 in
theorem rmon_1 (g : ByteArray) (hg : g = monG 1) (y : Int) (hy : In y) (w : World) : Calls Tryz.prog 25 #[.string g, .int .i64 y] w fun e w' => e = .returned (numV (monN 1 y)) ∧ Below w.heap.size w w' := by
  have hi := rIsMon_c g w
  rw [hg, whichM_at (by decide), ← hg] at hi
  have HI : Hid (Calls Tryz.prog 24 #[.string g] w fun e w' => e = .returned (.bool true) ∧ Below w.heap.size w w') := Lib.hid hi
  have g1 : (g.toList == [45]) = true := str_eq (l := [45]) hg
  have g7 : (g.toList == [126]) = false := str_ne (l := [126]) (by rw [hg]; decide)
  have HX := Lib.hid (fun w => rtake_c 0 y (by decide) hy w)
  clear hg hi
  go_enter Tryz.func25, Tryz.ntmps25
  go_wp2_with (first | (go_at_call 24; refine HI.out.mono ?_; rintro e w1 ⟨rfl, hb1⟩; have HB1 := Lib.hid hb1; clear hb1) | (go_at_call 44; refine (HX.out _).mono ?_; rintro e w2 ⟨rfl, rfl⟩))
  go_ret2
  exact ⟨by show _ = Ending.returned (numV (ovr (-y))); rw [← Int.zero_sub]; rfl, HB1.out⟩
set_option maxRecDepth 100000 in
set_option maxHeartbeats 2000000 in
theorem rmon_2 (g : ByteArray) (hg : g = monG 2) (y : Int) (w : World) : Calls Tryz.prog 25 #[.string g, .int .i64 y] w fun e w' => e = .returned (numV (monN 2 y)) ∧ Below w.heap.size w w' := by
  have hi := rIsMon_c g w
  rw [hg, whichM_at (by decide), ← hg] at hi
  have HI : Hid (Calls Tryz.prog 24 #[.string g] w fun e w' => e = .returned (.bool true) ∧ Below w.heap.size w w') := Lib.hid hi
  have g1 : (g.toList == [45]) = false := str_ne (l := [45]) (by rw [hg]; decide)
  have g2 : (g.toList == [195, 151]) = true := str_eq (l := [195, 151]) hg
  have g7 : (g.toList == [126]) = false := str_ne (l := [126]) (by rw [hg]; decide)
  clear hg hi
  rcases Int.lt_trichotomy y 0 with h | h | h
  · have t1 : decide (0 < y) = false := by simp; omega
    have t2 : decide (y < 0) = true := by simp [h]
    have HE : Hid (y.sign = -1) := Lib.hid (Int.sign_eq_neg_one_of_neg h)
    clear h
    go_enter Tryz.func25, Tryz.ntmps25
    go_wp2_with (first | (go_at_call 24; refine HI.out.mono ?_; rintro e w1 ⟨rfl, hb1⟩; have HB1 := Lib.hid hb1; clear hb1) | (go_at_call 45; refine (bit_c _ _).mono ?_; rintro e w2 ⟨rfl, rfl⟩))
    go_ret2
    exact ⟨by show Ending.returned (.tuple #[.int .i64 (wrap64 (bit false - bit true)), .int .i64 0]) = Ending.returned (.tuple #[.int .i64 y.sign, .int .i64 0]); rw [show bit false - bit true = -1 from rfl, wrap_in (by decide : In (-1)), HE.out], HB1.out⟩
  · subst h
    go_enter Tryz.func25, Tryz.ntmps25
    go_wp2_with (first | (go_at_call 24; refine HI.out.mono ?_; rintro e w1 ⟨rfl, hb1⟩; have HB1 := Lib.hid hb1; clear hb1) | (go_at_call 45; refine (bit_c _ _).mono ?_; rintro e w2 ⟨rfl, rfl⟩))
    go_ret2
    exact ⟨rfl, HB1.out⟩
  · have t1 : decide (0 < y) = true := by simp [h]
    have t2 : decide (y < 0) = false := by simp; omega
    have HE : Hid (y.sign = 1) := Lib.hid (Int.sign_eq_one_of_pos h)
    clear h
    go_enter Tryz.func25, Tryz.ntmps25
    go_wp2_with (first | (go_at_call 24; refine HI.out.mono ?_; rintro e w1 ⟨rfl, hb1⟩; have HB1 := Lib.hid hb1; clear hb1) | (go_at_call 45; refine (bit_c _ _).mono ?_; rintro e w2 ⟨rfl, rfl⟩))
    go_ret2
    exact ⟨by show Ending.returned (.tuple #[.int .i64 (wrap64 (bit true - bit false)), .int .i64 0]) = Ending.returned (.tuple #[.int .i64 y.sign, .int .i64 0]); rw [show bit true - bit false = 1 from rfl, wrap_in (by decide : In 1), HE.out], HB1.out⟩
set_option maxRecDepth 100000 in
set_option maxHeartbeats 2000000 in
theorem rmon_3 (g : ByteArray) (hg : g = monG 3) (y : Int) (w : World) : Calls Tryz.prog 25 #[.string g, .int .i64 y] w fun e w' => e = .returned (numV (monN 3 y)) ∧ Below w.heap.size w w' := by
  have hi := rIsMon_c g w
  rw [hg, whichM_at (by decide), ← hg] at hi
  have HI : Hid (Calls Tryz.prog 24 #[.string g] w fun e w' => e = .returned (.bool true) ∧ Below w.heap.size w w') := Lib.hid hi
  have g1 : (g.toList == [45]) = false := str_ne (l := [45]) (by rw [hg]; decide)
  have g2 : (g.toList == [195, 151]) = false := str_ne (l := [195, 151]) (by rw [hg]; decide)
  have g3 : (g.toList == [195, 183]) = true := str_eq (l := [195, 183]) hg
  have g7 : (g.toList == [126]) = false := str_ne (l := [126]) (by rw [hg]; decide)
  have HX := Lib.hid (fun w => rdivide_c 1 y (by decide) w)
  clear hg hi
  go_enter Tryz.func25, Tryz.ntmps25
  go_wp2_with (first | (go_at_call 24; refine HI.out.mono ?_; rintro e w1 ⟨rfl, hb1⟩; have HB1 := Lib.hid hb1; clear hb1) | (go_at_call 46; refine (HX.out _).mono ?_; rintro e w2 ⟨rfl, rfl⟩))
  go_ret2
  exact ⟨rfl, HB1.out⟩
set_option maxRecDepth 100000 in
set_option maxHeartbeats 2000000 in
theorem rmon_4 (g : ByteArray) (hg : g = monG 4) (y : Int) (w : World) : Calls Tryz.prog 25 #[.string g, .int .i64 y] w fun e w' => e = .returned (numV (monN 4 y)) ∧ Below w.heap.size w w' := by
  have hi := rIsMon_c g w
  rw [hg, whichM_at (by decide), ← hg] at hi
  have HI : Hid (Calls Tryz.prog 24 #[.string g] w fun e w' => e = .returned (.bool true) ∧ Below w.heap.size w w') := Lib.hid hi
  have g1 : (g.toList == [45]) = false := str_ne (l := [45]) (by rw [hg]; decide)
  have g2 : (g.toList == [195, 151]) = false := str_ne (l := [195, 151]) (by rw [hg]; decide)
  have g3 : (g.toList == [195, 183]) = false := str_ne (l := [195, 183]) (by rw [hg]; decide)
  have g6 : (g.toList == [124]) = false := str_ne (l := [124]) (by rw [hg]; decide)
  have g7 : (g.toList == [126]) = false := str_ne (l := [126]) (by rw [hg]; decide)
  clear hg hi
  go_enter Tryz.func25, Tryz.ntmps25
  go_wp2_with (first | (go_at_call 24; refine HI.out.mono ?_; rintro e w1 ⟨rfl, hb1⟩; have HB1 := Lib.hid hb1; clear hb1))
  go_ret2
  exact ⟨rfl, HB1.out⟩
set_option maxRecDepth 100000 in
set_option maxHeartbeats 2000000 in
theorem rmon_5 (g : ByteArray) (hg : g = monG 5) (y : Int) (w : World) : Calls Tryz.prog 25 #[.string g, .int .i64 y] w fun e w' => e = .returned (numV (monN 5 y)) ∧ Below w.heap.size w w' := by
  have hi := rIsMon_c g w
  rw [hg, whichM_at (by decide), ← hg] at hi
  have HI : Hid (Calls Tryz.prog 24 #[.string g] w fun e w' => e = .returned (.bool true) ∧ Below w.heap.size w w') := Lib.hid hi
  have g1 : (g.toList == [45]) = false := str_ne (l := [45]) (by rw [hg]; decide)
  have g2 : (g.toList == [195, 151]) = false := str_ne (l := [195, 151]) (by rw [hg]; decide)
  have g3 : (g.toList == [195, 183]) = false := str_ne (l := [195, 183]) (by rw [hg]; decide)
  have g6 : (g.toList == [124]) = false := str_ne (l := [124]) (by rw [hg]; decide)
  have g7 : (g.toList == [126]) = false := str_ne (l := [126]) (by rw [hg]; decide)
  clear hg hi
  go_enter Tryz.func25, Tryz.ntmps25
  go_wp2_with (first | (go_at_call 24; refine HI.out.mono ?_; rintro e w1 ⟨rfl, hb1⟩; have HB1 := Lib.hid hb1; clear hb1))
  go_ret2
  exact ⟨rfl, HB1.out⟩
set_option maxRecDepth 100000 in
set_option maxHeartbeats 2000000 in
theorem rmon_6 (g : ByteArray) (hg : g = monG 6) (y : Int) (hy : In y) (w : World) : Calls Tryz.prog 25 #[.string g, .int .i64 y] w fun e w' => e = .returned (numV (monN 6 y)) ∧ Below w.heap.size w w' := by
  have hi := rIsMon_c g w
  rw [hg, whichM_at (by decide), ← hg] at hi
  have HI : Hid (Calls Tryz.prog 24 #[.string g] w fun e w' => e = .returned (.bool true) ∧ Below w.heap.size w w') := Lib.hid hi
  have g1 : (g.toList == [45]) = false := str_ne (l := [45]) (by rw [hg]; decide)
  have g2 : (g.toList == [195, 151]) = false := str_ne (l := [195, 151]) (by rw [hg]; decide)
  have g3 : (g.toList == [195, 183]) = false := str_ne (l := [195, 183]) (by rw [hg]; decide)
  have g6 : (g.toList == [124]) = true := str_eq (l := [124]) hg
  have g7 : (g.toList == [126]) = false := str_ne (l := [126]) (by rw [hg]; decide)
  have HX := Lib.hid (fun w => rtake_c 0 y (by decide) hy w)
  clear hg hi
  by_cases h : y < 0
  · have t1 : decide (y < 0) = true := by simp [h]
    have HE : Hid (ovr (max y (-y)) = ovr (-y)) := Lib.hid (by rw [show max y (-y) = -y by omega])
    clear h
    go_enter Tryz.func25, Tryz.ntmps25
    go_wp2_with (first | (go_at_call 24; refine HI.out.mono ?_; rintro e w1 ⟨rfl, hb1⟩; have HB1 := Lib.hid hb1; clear hb1) | (go_at_call 44; refine (HX.out _).mono ?_; rintro e w2 ⟨rfl, rfl⟩))
    go_ret2
    exact ⟨by show _ = Ending.returned (numV (ovr (max y (-y)))); rw [HE.out]; rfl, HB1.out⟩
  · have t1 : decide (y < 0) = false := by simp; omega
    have HE : Hid (ovr (max y (-y)) = (y, 0)) := Lib.hid (by rw [show max y (-y) = y by omega]; exact if_pos hy)
    clear h
    go_enter Tryz.func25, Tryz.ntmps25
    go_wp2_with (first | (go_at_call 24; refine HI.out.mono ?_; rintro e w1 ⟨rfl, hb1⟩; have HB1 := Lib.hid hb1; clear hb1) | (go_at_call 44; refine (HX.out _).mono ?_; rintro e w2 ⟨rfl, rfl⟩))
    go_ret2
    exact ⟨by show _ = Ending.returned (numV (ovr (max y (-y)))); rw [HE.out]; rfl, HB1.out⟩
set_option maxRecDepth 100000 in
set_option maxHeartbeats 2000000 in
theorem rmon_7 (g : ByteArray) (hg : g = monG 7) (y : Int) (w : World) : Calls Tryz.prog 25 #[.string g, .int .i64 y] w fun e w' => e = .returned (numV (monN 7 y)) ∧ Below w.heap.size w w' := by
  have hi := rIsMon_c g w
  rw [hg, whichM_at (by decide), ← hg] at hi
  have HI : Hid (Calls Tryz.prog 24 #[.string g] w fun e w' => e = .returned (.bool true) ∧ Below w.heap.size w w') := Lib.hid hi
  have g1 : (g.toList == [45]) = false := str_ne (l := [45]) (by rw [hg]; decide)
  have g2 : (g.toList == [195, 151]) = false := str_ne (l := [195, 151]) (by rw [hg]; decide)
  have g3 : (g.toList == [195, 183]) = false := str_ne (l := [195, 183]) (by rw [hg]; decide)
  have g6 : (g.toList == [124]) = false := str_ne (l := [124]) (by rw [hg]; decide)
  have g7 : (g.toList == [126]) = true := str_eq (l := [126]) hg
  clear hg hi
  by_cases h0 : y = 0
  · subst h0
    go_enter Tryz.func25, Tryz.ntmps25
    go_wp2_with (first | (go_at_call 24; refine HI.out.mono ?_; rintro e w1 ⟨rfl, hb1⟩; have HB1 := Lib.hid hb1; clear hb1))
    go_ret2
    exact ⟨rfl, HB1.out⟩
  · by_cases h1 : y = 1
    · subst h1
      go_enter Tryz.func25, Tryz.ntmps25
      go_wp2_with (first | (go_at_call 24; refine HI.out.mono ?_; rintro e w1 ⟨rfl, hb1⟩; have HB1 := Lib.hid hb1; clear hb1))
      go_ret2
      exact ⟨rfl, HB1.out⟩
    · have t0 : (y != 0) = true := by simp [h0]
      have t1 : (y != 1) = true := by simp [h1]
      have HE : Hid (notR y = (0, 102)) := Lib.hid (by simp [notR, isB, h0, h1])
      clear h0 h1
      go_enter Tryz.func25, Tryz.ntmps25
      go_wp2_with (first | (go_at_call 24; refine HI.out.mono ?_; rintro e w1 ⟨rfl, hb1⟩; have HB1 := Lib.hid hb1; clear hb1))
      go_ret2
      exact ⟨by show _ = Ending.returned (numV (notR y)); rw [HE.out]; rfl, HB1.out⟩
set_option maxRecDepth 100000 in
theorem rmon_none (g : ByteArray) (hg : whichM g = 8) (y : Int) (w : World) : Calls Tryz.prog 25 #[.string g, .int .i64 y] w fun e w' => e = .returned (numV (0, 102)) ∧ Below w.heap.size w w' := by
  have hi := rIsMon_c g w
  rw [hg] at hi
  have HI : Hid (Calls Tryz.prog 24 #[.string g] w fun e w' => e = .returned (.bool false) ∧ Below w.heap.size w w') := Lib.hid hi
  clear hi hg
  go_enter Tryz.func25, Tryz.ntmps25
  go_wp2_with (go_at_call 24; refine HI.out.mono ?_; rintro e w1 ⟨rfl, hb1⟩; have HB1 := Lib.hid hb1; clear hb1)
  go_ret2
  exact ⟨rfl, HB1.out⟩
theorem rmon_c (g : ByteArray) (y : Int) (hy : In y) (w : World) : Calls Tryz.prog 25 #[.string g, .int .i64 y] w fun e w' => e = .returned (numV (monN (whichM g) y)) ∧ Below w.heap.size w w' := by
  rcases which8 g with ⟨k, hk, hg, hw⟩ | ⟨_, hw⟩
  · rw [hw]
    rcases (by omega : k = 0 ∨ k = 1 ∨ k = 2 ∨ k = 3 ∨ k = 4 ∨ k = 5 ∨ k = 6 ∨ k = 7) with rfl | rfl | rfl | rfl | rfl | rfl | rfl | rfl
    · exact rmon_0 g hg y w
    · exact rmon_1 g hg y hy w
    · exact rmon_2 g hg y w
    · exact rmon_3 g hg y w
    · exact rmon_4 g hg y w
    · exact rmon_5 g hg y w
    · exact rmon_6 g hg y hy w
    · exact rmon_7 g hg y w
  · rw [hw]
    exact rmon_none g hw y w
end Go.Proofs.YthlkgfplffdiaaaGreatDoor.Nu
