/- The product of two numbers of four digits of 16 bits, column by column. -/
import Derived.Test.YtjafngieohpdaaaDoorNuMath
namespace Go.Proofs.YtjafngieohpdaaaDoor.Nu
open Go

/-- What is added up in a column: its first n products. -/
def colS (a b at_ : Nat) : Nat → Nat
  | 0 => 0
  | n + 1 => colS a b at_ n + dg a n * dg b (at_ - n)
/-- What is carried into column k. -/
def carr (a b : Nat) : Nat → Nat
  | 0 => 0
  | k + 1 => (carr a b k + colS a b k (k + 1)) / 65536
def dgt (a b k : Nat) : Nat := (carr a b k + colS a b k (k + 1)) % 65536
/-- The first k digits of the product. -/
def prodS (a b : Nat) : Nat → Nat
  | 0 => 0
  | k + 1 => prodS a b k + dgt a b k * 65536 ^ k
def sumS (a b : Nat) : Nat → Nat
  | 0 => 0
  | k + 1 => sumS a b k + colS a b k (k + 1) * 65536 ^ k
theorem dg_lt (n k : Nat) : dg n k ≤ 65535 := by unfold dg; omega
theorem colS_le (a b at_ : Nat) : ∀ n, colS a b at_ n ≤ n * 4294836225
  | 0 => by simp [colS]
  | n + 1 => by
    have h := colS_le a b at_ n
    have h1 : dg a n * dg b (at_ - n) ≤ 65535 * 65535 := Nat.mul_le_mul (dg_lt _ _) (dg_lt _ _)
    simp only [colS]
    omega
theorem carr_le (a b : Nat) : ∀ k, k ≤ 8 → carr a b k ≤ 1000000
  | 0, _ => by simp [carr]
  | k + 1, hk => by
    have h := carr_le a b k (by omega)
    have h1 := colS_le a b k (k + 1)
    simp only [carr]
    omega
theorem col_bound (a b k n : Nat) (hk : k ≤ 8) (hn : n ≤ 8) : carr a b k + colS a b k n ≤ 34400000000 := by
  have h := carr_le a b k hk
  have h1 := colS_le a b k n
  omega
theorem sumS_eq (a b : Nat) : ∀ k, sumS a b k = prodS a b k + carr a b k * 65536 ^ k
  | 0 => by simp [sumS, prodS, carr]
  | k + 1 => by
    have h := sumS_eq a b k
    have h2 : carr a b k + colS a b k (k + 1) = dgt a b k + 65536 * carr a b (k + 1) := by simp only [dgt, carr]; omega
    simp only [sumS, prodS]
    rw [h, Nat.pow_succ]
    have h3 : (carr a b k + colS a b k (k + 1)) * 65536 ^ k = (dgt a b k + 65536 * carr a b (k + 1)) * 65536 ^ k := by rw [h2]
    rw [Nat.add_mul, Nat.add_mul] at h3
    have h4 : carr a b (k + 1) * (65536 ^ k * 65536) = 65536 * carr a b (k + 1) * 65536 ^ k := by
      rw [← Nat.mul_assoc, Nat.mul_comm (carr a b (k + 1) * 65536 ^ k), ← Nat.mul_assoc]
    omega
theorem prodS_lt (a b : Nat) : ∀ k, prodS a b k < 65536 ^ k
  | 0 => by simp [prodS]
  | k + 1 => by
    have h := prodS_lt a b k
    have h2 : dgt a b k ≤ 65535 := by unfold dgt; omega
    have h3 : dgt a b k * 65536 ^ k ≤ 65535 * 65536 ^ k := Nat.mul_le_mul_right _ h2
    simp only [prodS]
    rw [Nat.pow_succ]
    omega
theorem digits (n : Nat) (h : n < 18446744073709551616) : n = dg n 0 + dg n 1 * 65536 + dg n 2 * 65536 ^ 2 + dg n 3 * 65536 ^ 3 := by
  unfold dg
  simp only [Nat.pow_zero, Nat.pow_one, Nat.div_one]
  omega
theorem sumS_eight (a b : Nat) (ha : a < 18446744073709551616) (hb : b < 18446744073709551616) : sumS a b 8 = a * b := by
  have a4 := big_div a 4 ha (by omega)
  have a5 := big_div a 5 ha (by omega)
  have a6 := big_div a 6 ha (by omega)
  have a7 := big_div a 7 ha (by omega)
  have b4 := big_div b 4 hb (by omega)
  have b5 := big_div b 5 hb (by omega)
  have b6 := big_div b 6 hb (by omega)
  have b7 := big_div b 7 hb (by omega)
  have hA := digits a ha
  have hB := digits b hb
  simp only [sumS, colS, Nat.reduceSub, a4, a5, a6, a7, b4, b5, b6, b7]
  generalize dg a 0 = x0 at *
  generalize dg a 1 = x1 at *
  generalize dg a 2 = x2 at *
  generalize dg a 3 = x3 at *
  generalize dg b 0 = y0 at *
  generalize dg b 1 = y1 at *
  generalize dg b 2 = y2 at *
  generalize dg b 3 = y3 at *
  clear a4 a5 a6 a7 b4 b5 b6 b7 ha hb
  subst hA hB
  grind
theorem prodS_tail (a b : Nat) (h : ∀ j, 4 ≤ j → j < 8 → dgt a b j = 0) : prodS a b 8 = prodS a b 4 := by
  have e : ∀ k, 4 ≤ k → k < 8 → prodS a b (k + 1) = prodS a b k := fun k h0 h1 => by
    show prodS a b k + dgt a b k * 65536 ^ k = _
    rw [h k h0 h1, Nat.zero_mul, Nat.add_zero]
  exact (e 7 (by omega) (by omega)).trans ((e 6 (by omega) (by omega)).trans ((e 5 (by omega) (by omega)).trans (e 4 (by omega) (by omega))))
theorem prod_lin (p c N B M : Nat) (h1 : p + c * B = N) (h2 : N ≤ M) (h3 : M < B) : p = N := by
  rcases Nat.eq_zero_or_pos c with h | h
  · rw [h, Nat.zero_mul] at h1
    exact h1
  · have : 1 * B ≤ c * B := Nat.mul_le_mul_right _ h
    omega
/-- All digits past the fourth are 0: the product has room. -/
theorem prod_fits (a b : Nat) (ha : a < 18446744073709551616) (hb : b < 18446744073709551616) (h : ∀ j, 4 ≤ j → j < 8 → dgt a b j = 0) : prodS a b 4 = a * b := by
  have h1 := sumS_eight a b ha hb
  rw [sumS_eq, prodS_tail a b h] at h1
  exact prod_lin _ _ _ (65536 ^ 8) (18446744073709551615 * 18446744073709551615) h1 (Nat.mul_le_mul (Nat.le_of_lt_succ ha) (Nat.le_of_lt_succ hb)) (by decide)
/-- Some digit past the fourth is not 0: it has none. -/
theorem prod_over (a b : Nat) (ha : a < 18446744073709551616) (hb : b < 18446744073709551616) (j : Nat) (h4 : 4 ≤ j) (h8 : j < 8) (h : dgt a b j ≠ 0) : 18446744073709551616 ≤ a * b := by
  have h1 := sumS_eight a b ha hb
  rw [sumS_eq] at h1
  have hm : ∀ k, prodS a b k ≤ prodS a b (k + 1) := fun k => Nat.le_add_right _ _
  have h5 : prodS a b (j + 1) ≤ prodS a b 8 := by
    rcases (by omega : j = 4 ∨ j = 5 ∨ j = 6 ∨ j = 7) with rfl | rfl | rfl | rfl
    · exact Nat.le_trans (hm 5) (Nat.le_trans (hm 6) (hm 7))
    · exact Nat.le_trans (hm 6) (hm 7)
    · exact hm 7
    · exact Nat.le_refl _
  have h6 : 65536 ^ 4 ≤ 65536 ^ j := Nat.pow_le_pow_right (by decide) h4
  have h7 : 1 * 65536 ^ j ≤ dgt a b j * 65536 ^ j := Nat.mul_le_mul_right _ (by omega)
  have h9 : prodS a b (j + 1) = prodS a b j + dgt a b j * 65536 ^ j := rfl
  have h10 : prodS a b 8 ≤ a * b := h1 ▸ Nat.le_add_right _ _
  rw [h9] at h5
  rw [Nat.one_mul] at h7
  exact Nat.le_trans (Nat.le_trans h6 h7) (Nat.le_trans (Nat.le_add_left _ _) (Nat.le_trans h5 h10))
theorem or_add (p d k : Nat) (hp : p < 65536 ^ k) : p ||| d * 65536 ^ k = p + d * 65536 ^ k := by
  have e : 65536 ^ k = 2 ^ (16 * k) := by rw [Nat.pow_mul]
  rw [e] at hp ⊢
  rw [Nat.or_comm, Nat.mul_comm d, ← Nat.two_pow_add_eq_or_of_lt hp]
  omega
end Go.Proofs.YtjafngieohpdaaaDoor.Nu
