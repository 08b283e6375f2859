/- number's checks. -/
import Derived.Test.YtjafngieohpdaaaDoorNuPass
import Derived.Deep.RegionHeldLaw
import Derived.BigQuiet
import Derived.Deep.QuietTactic
namespace Go.Proofs.YtjafngieohpdaaaDoor.Nu
open Go Go.RowKit



abbrev failV (b : Bool) : Value := if b then .nilIface else faultV 100
set_option maxRecDepth 100000 in
theorem fits_c (b : Bool) (w : World) : Calls Tryd.prog 71 #[.bool b] w fun e w' => e = .returned (failV b) ∧ w = w' := by
  cases b
  · go_enter Tryd.func71, Tryd.ntmps71
    go_wp2
    go_ret
    exact ⟨rfl, rfl⟩
  · go_enter Tryd.func71, Tryd.ntmps71
    go_wp2
    go_ret
    exact ⟨rfl, rfl⟩
set_option maxRecDepth 100000 in
theorem isBit_c (n : Int) (w : World) : Calls Tryd.prog 72 #[.int .i64 n] w fun e w' => e = .returned (.bool (isB n)) ∧ w = w' := by
  by_cases h0 : n = 0
  · subst h0
    go_enter Tryd.func72, Tryd.ntmps72
    go_wp2
    go_ret
    exact ⟨rfl, rfl⟩
  · have t0 : (n == 0) = false := by simp [h0]
    have h1 : isB n = (n == 1) := by simp [isB, h0, Bool.beq_eq_decide_eq]
    rw [h1]
    go_enter Tryd.func72, Tryd.ntmps72
    go_wp2
    go_ret
    exact ⟨rfl, rfl⟩
set_option maxRecDepth 100000 in
theorem sumFits_c (x y : Int) (hx : In x) (hy : In y) (w : World) : Calls Tryd.prog 51 #[pairV x y] w fun e w' => e = .returned (failV (decide (In (x + y)))) ∧ Below w.heap.size w w' := by
  have HB := Lib.hid ((Below.refl w.heap.size w).alloc (Nat.le_refl _) (.cells #[.int .i64 x, .int .i64 y] 41))
  have HF := Lib.hid (fun b w => fits_c b w)
  go_enter Tryd.func51, Tryd.ntmps51
  go_wp2_with (go_at_call 71; refine (HF.out _ _).mono ?_; rintro e w' ⟨rfl, rfl⟩)
  go_ret
  exact ⟨congrArg (fun b => Ending.returned (failV b)) (sum_fits hx hy), HB.out⟩
set_option maxRecDepth 100000 in
theorem difFits_c (x y : Int) (hx : In x) (hy : In y) (w : World) : Calls Tryd.prog 53 #[pairV x y] w fun e w' => e = .returned (failV (decide (In (x - y)))) ∧ Below w.heap.size w w' := by
  have HB := Lib.hid ((Below.refl w.heap.size w).alloc (Nat.le_refl _) (.cells #[.int .i64 x, .int .i64 y] 41))
  have HF := Lib.hid (fun b w => fits_c b w)
  go_enter Tryd.func53, Tryd.ntmps53
  go_wp2_with (go_at_call 71; refine (HF.out _ _).mono ?_; rintro e w' ⟨rfl, rfl⟩)
  go_ret
  exact ⟨congrArg (fun b => Ending.returned (failV b)) (dif_fits hx hy), HB.out⟩
set_option maxRecDepth 100000 in
theorem oppFits_c (x y : Int) (hy : In y) (w : World) : Calls Tryd.prog 41 #[pairV x y] w fun e w' => e = .returned (failV (decide (In (-y)))) ∧ Below w.heap.size w w' := by
  have HB := Lib.hid ((Below.refl w.heap.size w).alloc (Nat.le_refl _) (.cells #[.int .i64 x, .int .i64 y] 41))
  have HF := Lib.hid (fun b w => fits_c b w)
  go_enter Tryd.func41, Tryd.ntmps41
  go_wp2_with (go_at_call 71; refine (HF.out _ _).mono ?_; rintro e w' ⟨rfl, rfl⟩)
  go_ret
  exact ⟨congrArg (fun b => Ending.returned (failV b)) (opp_fits hy), HB.out⟩
set_option maxRecDepth 100000 in
theorem quoFits_c (x y : Int) (w : World) : Calls Tryd.prog 57 #[pairV x y] w fun e w' => e = .returned (failV (x != -9223372036854775808 || y != -1)) ∧ Below w.heap.size w w' := by
  have HB := Lib.hid ((Below.refl w.heap.size w).alloc (Nat.le_refl _) (.cells #[.int .i64 x, .int .i64 y] 41))
  have HF := Lib.hid (fun b w => fits_c b w)
  cases t1 : (x != -9223372036854775808)
  · simp only [Bool.false_or]
    go_enter Tryd.func57, Tryd.ntmps57
    go_wp2_with (go_at_call 71; refine (HF.out _ _).mono ?_; rintro e w' ⟨rfl, rfl⟩)
    go_ret
    exact ⟨rfl, HB.out⟩
  · simp only [Bool.true_or]
    go_enter Tryd.func57, Tryd.ntmps57
    go_wp2_with (go_at_call 71; refine (HF.out _ _).mono ?_; rintro e w' ⟨rfl, rfl⟩)
    go_ret
    exact ⟨rfl, HB.out⟩
set_option maxRecDepth 100000 in
theorem divides_c (x y : Int) (w : World) : Calls Tryd.prog 46 #[pairV x y] w fun e w' => e = .returned (if (divR x y).2 = 101 then faultV 101 else .nilIface) ∧ Below w.heap.size w w' := by
  have HB := Lib.hid ((Below.refl w.heap.size w).alloc (Nat.le_refl _) (.cells #[.int .i64 x, .int .i64 y] 41))
  by_cases h0 : y = 0
  · have t0 : (y == 0) = true := by simp [h0]
    have t2 : (y != 0) = false := by simp [h0]
    by_cases h1 : x = 0
    · have t1 : (x != 0) = false := by simp [h1]
      have he : ¬ (divR x y).2 = 101 := by simp [divR, h0, h1]
      rw [if_neg he]
      clear h0 h1 he
      go_enter Tryd.func46, Tryd.ntmps46
      go_wp2
      go_ret
      exact ⟨rfl, HB.out⟩
    · have t1 : (x != 0) = true := by simp [h1]
      have he : (divR x y).2 = 101 := by simp [divR, h0, h1]
      rw [if_pos he]
      clear h0 h1 he
      go_enter Tryd.func46, Tryd.ntmps46
      go_wp2
      go_ret
      exact ⟨rfl, HB.out⟩
  · have t0 : (y == 0) = false := by simp [h0]
    have t2 : (y != 0) = true := by simp [h0]
    by_cases h1 : x.tmod y = 0
    · have t1 : (x.tmod y != 0) = false := by simp [h1]
      have he : ¬ (divR x y).2 = 101 := by
        simp only [divR, if_neg h0, if_pos h1, ovr]
        split <;> simp
      rw [if_neg he]
      clear h1 he
      go_enter Tryd.func46, Tryd.ntmps46
      go_wp2
      go_ret
      exact ⟨rfl, HB.out⟩
    · have t1 : (x.tmod y != 0) = true := by simp [h1]
      have he : (divR x y).2 = 101 := by simp [divR, h0, h1]
      rw [if_pos he]
      clear h1 he
      go_enter Tryd.func46, Tryd.ntmps46
      go_wp2
      go_ret
      exact ⟨rfl, HB.out⟩
set_option maxRecDepth 100000 in
theorem size_c (x : Int) (hx : In x) (w : World) : Calls Tryd.prog 74 #[.int .i64 x] w fun e w' => e = .returned (.int .u64 ((x.natAbs : Nat) : Int)) ∧ w = w' := by
  by_cases h0 : x < 0
  · have he : IntKind.u64.wrap (-IntKind.u64.wrap x) = ((x.natAbs : Nat) : Int) := by rw [IntKind.wrap_u64, IntKind.wrap_u64]; omega
    go_enter Tryd.func74, Tryd.ntmps74
    go_wp2
    go_ret
    exact ⟨rfl, rfl⟩
  · have he : x = ((x.natAbs : Nat) : Int) := by omega
    have HE := Lib.hid he
    clear he
    go_enter Tryd.func74, Tryd.ntmps74
    go_wp2
    go_ret
    exact ⟨congrArg (fun b => Ending.returned (.int .u64 b)) HE.out, rfl⟩
set_option maxRecDepth 100000 in
theorem sign_c (x y : Int) (w : World) : Calls Tryd.prog 43 #[pairV x y] w fun e w' => e = .returned (.int .i64 y.sign) ∧ Below w.heap.size w w' := by
  have HB := Lib.hid ((Below.refl w.heap.size w).alloc (Nat.le_refl _) (.cells #[.int .i64 x, .int .i64 y] 41))
  rcases Int.lt_trichotomy y 0 with h | h | h
  · have he : y.sign = -1 := Int.sign_eq_neg_one_of_neg h
    have t1 : ¬ 0 < y := by omega
    rw [he]
    go_enter Tryd.func43, Tryd.ntmps43
    go_wp2
    go_ret
    exact ⟨rfl, HB.out⟩
  · subst h
    have he : (0 : Int).sign = 0 := rfl
    rw [he]
    go_enter Tryd.func43, Tryd.ntmps43
    go_wp2
    go_ret
    exact ⟨rfl, HB.out⟩
  · have he : y.sign = 1 := Int.sign_eq_one_of_pos h
    rw [he]
    go_enter Tryd.func43, Tryd.ntmps43
    go_wp2
    go_ret
    exact ⟨rfl, HB.out⟩
def quoR (x y : Int) : Int := if y = 0 then 1 else wrap64 (x.tdiv y)
set_option maxRecDepth 100000 in
theorem quotient_c (x y : Int) (w : World) : Calls Tryd.prog 45 #[pairV x y] w fun e w' => e = .returned (.int .i64 (quoR x y)) ∧ Below w.heap.size w w' := by
  have HB := Lib.hid ((Below.refl w.heap.size w).alloc (Nat.le_refl _) (.cells #[.int .i64 x, .int .i64 y] 41))
  by_cases h0 : y = 0
  · have t0 : (y == 0) = true := by simp [h0]
    have he : quoR x y = 1 := by simp [quoR, h0]
    rw [he]
    clear h0 he
    go_enter Tryd.func45, Tryd.ntmps45
    go_wp2
    go_ret
    exact ⟨rfl, HB.out⟩
  · have t0 : (y == 0) = false := by simp [h0]
    have he : quoR x y = wrap64 (x.tdiv y) := by simp [quoR, h0]
    rw [he]
    clear he
    go_enter Tryd.func45, Tryd.ntmps45
    go_wp2
    go_ret
    exact ⟨rfl, HB.out⟩
set_option maxRecDepth 100000 in
theorem digit_c (n k : Nat) (hn : n < 18446744073709551616) (hk : k < 8) (w : World) : Calls Tryd.prog 79 #[.int .u64 (n : Int), .int .i64 (k : Int)] w fun e w' => e = .returned (.int .u64 ((dg n k : Nat) : Int)) ∧ w = w' := by
  rcases (by omega : k = 0 ∨ k = 1 ∨ k = 2 ∨ k = 3 ∨ k = 4 ∨ k = 5 ∨ k = 6 ∨ k = 7) with rfl | rfl | rfl | rfl | rfl | rfl | rfl | rfl
  · have he : bits .and .u64 (n : Int) 65535 = ((dg n 0 : Nat) : Int) := by simpa [dg] using mask_u64 n hn
    have HE := Lib.hid he
    clear he
    go_enter Tryd.func79, Tryd.ntmps79
    go_wp2
    go_ret
    exact ⟨congrArg (fun b => Ending.returned (.int .u64 b)) HE.out, rfl⟩
  · have he : bits .and .u64 ((n : Int) / 65536) 65535 = ((dg n 1 : Nat) : Int) := dig_div n 65536 hn
    have HE := Lib.hid he
    clear he
    go_enter Tryd.func79, Tryd.ntmps79
    go_wp2
    go_ret
    exact ⟨congrArg (fun b => Ending.returned (.int .u64 b)) HE.out, rfl⟩
  · have he : bits .and .u64 ((n : Int) / 4294967296) 65535 = ((dg n 2 : Nat) : Int) := dig_div n 4294967296 hn
    have HE := Lib.hid he
    clear he
    go_enter Tryd.func79, Tryd.ntmps79
    go_wp2
    go_ret
    exact ⟨congrArg (fun b => Ending.returned (.int .u64 b)) HE.out, rfl⟩
  · have he : bits .and .u64 ((n : Int) / 281474976710656) 65535 = ((dg n 3 : Nat) : Int) := dig_div n 281474976710656 hn
    have HE := Lib.hid he
    clear he
    go_enter Tryd.func79, Tryd.ntmps79
    go_wp2
    go_ret
    exact ⟨congrArg (fun b => Ending.returned (.int .u64 b)) HE.out, rfl⟩
  · have he : bits .and .u64 ((n : Int) / 18446744073709551616) 65535 = ((dg n 4 : Nat) : Int) := by rw [big_div n 4 hn (by omega), show ((n : Int) / 18446744073709551616) = 0 by omega]; decide
    have HE := Lib.hid he
    clear he
    go_enter Tryd.func79, Tryd.ntmps79
    go_wp2
    go_ret
    exact ⟨congrArg (fun b => Ending.returned (.int .u64 b)) HE.out, rfl⟩
  · have he : bits .and .u64 ((n : Int) / 18446744073709551616) 65535 = ((dg n 5 : Nat) : Int) := by rw [big_div n 5 hn (by omega), show ((n : Int) / 18446744073709551616) = 0 by omega]; decide
    have HE := Lib.hid he
    clear he
    go_enter Tryd.func79, Tryd.ntmps79
    go_wp2
    go_ret
    exact ⟨congrArg (fun b => Ending.returned (.int .u64 b)) HE.out, rfl⟩
  · have he : bits .and .u64 ((n : Int) / 18446744073709551616) 65535 = ((dg n 6 : Nat) : Int) := by rw [big_div n 6 hn (by omega), show ((n : Int) / 18446744073709551616) = 0 by omega]; decide
    have HE := Lib.hid he
    clear he
    go_enter Tryd.func79, Tryd.ntmps79
    go_wp2
    go_ret
    exact ⟨congrArg (fun b => Ending.returned (.int .u64 b)) HE.out, rfl⟩
  · have he : bits .and .u64 ((n : Int) / 18446744073709551616) 65535 = ((dg n 7 : Nat) : Int) := by rw [big_div n 7 hn (by omega), show ((n : Int) / 18446744073709551616) = 0 by omega]; decide
    have HE := Lib.hid he
    clear he
    go_enter Tryd.func79, Tryd.ntmps79
    go_wp2
    go_ret
    exact ⟨congrArg (fun b => Ending.returned (.int .u64 b)) HE.out, rfl⟩
end Go.Proofs.YtjafngieohpdaaaDoor.Nu
