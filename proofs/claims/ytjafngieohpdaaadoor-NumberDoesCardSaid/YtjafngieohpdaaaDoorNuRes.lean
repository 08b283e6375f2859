/- number's checks and reckonings, where there is more to them. -/
import Derived.Test.YtjafngieohpdaaaDoorNuChk
namespace Go.Proofs.YtjafngieohpdaaaDoor.Nu
open Go Go.RowKit
attribute [local go_sem] Oper.semAt_some

theorem tmod_in (x y : Int) (hy : In y) : In (y.tmod x) := by
  have h1 : (y.tmod x).natAbs = y.natAbs % x.natAbs := Int.natAbs_tmod y x
  have h2 : y.natAbs % x.natAbs ≤ y.natAbs := Nat.mod_le _ _
  rcases Int.le_total 0 y with h | h
  · have := Int.tmod_nonneg x h
    omega
  · have : (y.tmod x) ≤ 0 := by
      have h3 := Int.tmod_nonneg x (show 0 ≤ -y by omega)
      rw [Int.neg_tmod] at h3
      omega
    omega
theorem res_eq (x y : Int) (hx : x ≠ 0) : (y.tmod x = 0 → y.fmod x = 0) ∧ (y.tmod x ≠ 0 → decide (y.tmod x < 0) = decide (x < 0) → y.fmod x = y.tmod x) ∧ (y.tmod x ≠ 0 → ¬ decide (y.tmod x < 0) = decide (x < 0) → y.fmod x = y.tmod x + x) := by
  have h1 := Int.mul_tdiv_add_tmod y x
  have h2 := Int.mul_fdiv_add_fmod y x
  have h3 : (y.tmod x).natAbs < x.natAbs := by rw [Int.natAbs_tmod]; exact Nat.mod_lt _ (by omega)
  generalize y.tmod x = r at *
  have key : ∀ q r : Int, x * q + r = y → (0 < x → 0 ≤ r ∧ r < x) → (x < 0 → x < r ∧ r ≤ 0) → y.fmod x = r := by
    intro q r h ha hb
    rw [← h, Int.add_comm, Int.add_mul_fmod_self_left]
    rcases Int.lt_or_lt_of_ne hx with hn | hp
    · have := hb hn
      rcases Int.le_iff_lt_or_eq.1 this.2 with hr | rfl
      · have e := Int.fmod_eq_of_lt (a := -r) (b := -x) (by omega) (by omega)
        rw [Int.neg_fmod_neg] at e
        omega
      · simp
    · exact Int.fmod_eq_of_lt (ha hp).1 (ha hp).2
  simp only [decide_eq_decide]
  refine ⟨fun h => ?_, fun h0 h => ?_, fun h0 h => ?_⟩
  · subst h
    exact key _ _ h1 (fun h => ⟨Int.le_refl _, h⟩) (fun h => ⟨h, Int.le_refl _⟩)
  · exact key _ _ h1 (fun h => by omega) (fun h => by omega)
  · refine key (y.tdiv x - 1) (r + x) ?_ (fun h => by omega) (fun h => by omega)
    rw [Int.mul_sub, Int.mul_one]
    omega
set_option maxRecDepth 100000 in
set_option maxHeartbeats 2000000 in
theorem residue_c (x y : Int) (hx : In x) (hy : In y) (w : World) : Calls Tryd.prog 61 #[pairV x y] w fun e w' => e = .returned (.int .i64 (resR x y)) ∧ Below w.heap.size w w' := by
  have HB := Lib.hid ((Below.refl w.heap.size w).alloc (Nat.le_refl _) (.cells #[.int .i64 x, .int .i64 y] 41))
  by_cases h0 : x = 0
  · have he : resR x y = y := by simp [resR, h0]
    rw [he]
    subst h0
    clear he
    go_enter Tryd.func61, Tryd.ntmps61
    go_wp2
    go_ret
    exact ⟨rfl, HB.out⟩
  · have t0 : (x == 0) = false := by simp [h0]
    have he : resR x y = y.fmod x := by simp [resR, h0]
    rw [he]
    clear he
    obtain ⟨r, hr⟩ : ∃ r, r = y.tmod x := ⟨_, rfl⟩
    have hres := res_eq x y h0
    rw [← hr] at hres
    have hrl := tmod_in x y hy
    rw [← hr] at hrl
    by_cases h1 : r = 0
    · have t1 : (y.tmod x != 0) = false := by rw [← hr]; simp [h1]
      have HE : Hid (y.fmod x = y.tmod x) := Lib.hid (by rw [hres.1 h1, ← hr, h1])
      clear hres hrl hr h1
      go_enter Tryd.func61, Tryd.ntmps61
      go_wp2
      go_ret
      exact ⟨by rw [HE.out]; rfl, HB.out⟩
    · have t1 : (y.tmod x != 0) = true := by rw [← hr]; simp [h1]
      by_cases h2 : decide (r < 0) = decide (x < 0)
      · have t2 : (!(decide (y.tmod x < 0) == decide (x < 0))) = false := by rw [← hr]; simp [h2]
        have HE : Hid (y.fmod x = y.tmod x) := Lib.hid (by rw [hres.2.1 h1 h2, ← hr])
        clear hres hrl hr h1 h2
        go_enter Tryd.func61, Tryd.ntmps61
        go_wp2
        go_ret
        exact ⟨by rw [HE.out]; rfl, HB.out⟩
      · have t2 : (!(decide (y.tmod x < 0) == decide (x < 0))) = true := by rw [← hr]; simp [h2]
        have hw : wrap64 (y.tmod x + x) = y.tmod x + x := by rw [← hr]; exact wrap_in (by simp only [decide_eq_decide] at h2; omega)
        have HE : Hid (y.fmod x = y.tmod x + x) := Lib.hid (by rw [hres.2.2 h1 h2, ← hr])
        have HW := Lib.hid hw
        clear hres hrl hr h1 h2 hw
        go_enter Tryd.func61, Tryd.ntmps61
        go_wp2
        go_ret
        exact ⟨by rw [HE.out]; exact congrArg (fun n => Ending.returned (.int .i64 n)) HW.out, HB.out⟩
end Go.Proofs.YtjafngieohpdaaaDoor.Nu
