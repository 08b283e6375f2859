/- What At and Offset tell, as numbers. -/
import Derived.Test.YtaahhilnkffdlaaDoorPgUse
namespace Go.Proofs.YtaahhilnkffdlaaDoor
open Go Go.RowKit

theorem at_val (T : List UInt8) (p u : Int) : ∃ a b e : Int, AtOut T p u (.tuple #[.int .i64 a, .int .i64 b, .int .i64 e]) ∧
    ((e = 0 ∧ isUnit u = true ∧ ∃ k r : Nat, k < nlines T ∧ r ≤ rnds (lineT T k) u ∧ ((lineAt T k + posK (lineT T k) u r : Nat) : Int) = p ∧ a = (k : Int) ∧ b = ((colK (lineT T k) u r : Nat) : Int)) ∨ (e ≠ 0 ∧ a = 0 ∧ b = 0)) := by
  cases hu : isUnit u with
  | false => exact ⟨0, 0, 2, .inl ⟨hu, rfl⟩, .inr ⟨by decide, rfl, rfl⟩⟩
  | true =>
    by_cases h : ∃ k r : Nat, k < nlines T ∧ r ≤ rnds (lineT T k) u ∧ ((lineAt T k + posK (lineT T k) u r : Nat) : Int) = p
    · obtain ⟨k, r, h1, h2, h3⟩ := h
      exact ⟨_, _, _, .inr ⟨hu, .inl ⟨k, r, h1, h2, h3, rfl⟩⟩, .inl ⟨rfl, rfl, k, r, h1, h2, h3, rfl, rfl⟩⟩
    · exact ⟨0, 0, 20, .inr ⟨hu, .inr ⟨fun k r h1 h2 h3 => h ⟨k, r, h1, h2, h3⟩, rfl⟩⟩, .inr ⟨by decide, rfl, rfl⟩⟩
theorem off_val (T : List UInt8) (n c u : Int) : ∃ p e : Int, OffOut T n c u (.tuple #[.int .i64 p, .int .i64 e]) ∧
    ((e = 0 ∧ isUnit u = true ∧ ∃ k r : Nat, (k : Int) = n ∧ k < nlines T ∧ r ≤ rnds (lineT T k) u ∧ ((colK (lineT T k) u r : Nat) : Int) = c ∧ p = ((lineAt T k + posK (lineT T k) u r : Nat) : Int)) ∨ (e ≠ 0 ∧ p = 0)) := by
  cases hu : isUnit u with
  | false => exact ⟨0, 2, .inl ⟨hu, rfl⟩, .inr ⟨by decide, rfl⟩⟩
  | true =>
    by_cases h : ∃ k r : Nat, (k : Int) = n ∧ k < nlines T ∧ r ≤ rnds (lineT T k) u ∧ ((colK (lineT T k) u r : Nat) : Int) = c
    · obtain ⟨k, r, h0, h1, h2, h3⟩ := h
      exact ⟨_, _, .inr ⟨hu, .inl ⟨k, r, h0, h1, h2, h3, rfl⟩⟩, .inl ⟨rfl, rfl, k, r, h0, h1, h2, h3, rfl⟩⟩
    · exact ⟨0, 20, .inr ⟨hu, .inr ⟨fun k r h0 h1 h2 h3 => h ⟨k, r, h0, h1, h2, h3⟩, rfl⟩⟩, .inr ⟨by decide, rfl⟩⟩
theorem at_as (s : ByteArray) (hs : s.size ≤ 600) (p u : Int) (v : Value) (hv : AtOut s.data.toList p u v) (w : World) (hG : Ground w) :
    Calls Tryd.prog 19 #[.string s, .int .i64 p, .int .i64 u] w fun e W' => e = .returned v ∧ Below w.heap.size w W' :=
  (at_c s hs p u w hG).mono (by
    rintro e w' ⟨⟨v', rfl, h⟩, hb⟩
    exact ⟨by rw [atOut_one h hv], hb⟩)
theorem off_as (s : ByteArray) (hs : s.size ≤ 600) (n c u : Int) (v : Value) (hv : OffOut s.data.toList n c u v) (w : World) (hG : Ground w) :
    Calls Tryd.prog 21 #[.string s, .int .i64 n, .int .i64 c, .int .i64 u] w fun e W' => e = .returned v ∧ Below w.heap.size w W' :=
  (off_c s hs n c u w hG).mono (by
    rintro e w' ⟨⟨v', rfl, h⟩, hb⟩
    exact ⟨by rw [offOut_one h hv], hb⟩)
/-- A line holds each place. -/
theorem hold_ex (T : List UInt8) (n : Nat) : ∀ m, m < nlines T → n ≤ lineEnd T m → ∃ k, k ≤ m ∧ lineAt T k ≤ n ∧ n ≤ lineEnd T k
  | 0, _, h => ⟨0, Nat.le_refl _, by rw [lineAt_zero]; omega, h⟩
  | m + 1, hm, h => by
    by_cases h1 : lineAt T (m + 1) ≤ n
    · exact ⟨m + 1, Nat.le_refl _, h1, h⟩
    · have := lineAt_succ T m hm
      obtain ⟨k, h2, h3, h4⟩ := hold_ex T n m (by omega) (by omega)
      exact ⟨k, by omega, h3, h4⟩
end Go.Proofs.YtaahhilnkffdlaaDoor
