/- What the laws show first. -/
import Derived.Test.YteclpoooggcdoaaGreatDoorArLitr
import Derived.Test.YteclpoooggcdoaaGreatDoorArQuo
import Derived.Test.YteclpoooggcdoaaGreatDoorArDy
namespace Go.Proofs.YteclpoooggcdoaaGreatDoor.Ar
open Go Go.RowKit Go.Shelf
attribute [local go_sem] Oper.semAt_some

theorem dig_small {u : Nat} (h : u < 10) : Lib.decDigits u = [UInt8.ofNat (48 + u)] := by rw [Lib.decDigits, dif_pos h]
theorem dig_two {u : Nat} (h : ¬ u < 10) : Lib.decDigits u = Lib.decDigits (u / 10) ++ [UInt8.ofNat (48 + u % 10)] := by rw [Lib.decDigits, dif_neg h]
theorem i11 : Lib.itoa 11 = [49, 49] := by rw [Lib.itoa, if_neg (by decide), dig_two (by decide), dig_small (by decide)]; decide
theorem i12 : Lib.itoa 12 = [49, 50] := by rw [Lib.itoa, if_neg (by decide), dig_two (by decide), dig_small (by decide)]; decide
theorem i13 : Lib.itoa 13 = [49, 51] := by rw [Lib.itoa, if_neg (by decide), dig_two (by decide), dig_small (by decide)]; decide
theorem i5 : Lib.itoa (-5) = [45, 53] := by rw [Lib.itoa, if_pos (by decide), dig_small (by decide)]; decide
theorem d11 : decT 11 = [49, 49] := by rw [decT, i11]; decide
theorem d12 : decT 12 = [49, 50] := by rw [decT, i12]; decide
theorem d13 : decT 13 = [49, 51] := by rw [decT, i13]; decide
theorem d5 : decT (-5) = [194, 175, 53] := by rw [decT, i5]; decide
theorem k1113 : decK [11, 12, 13] 3 = [49, 49, 32, 49, 50, 32, 49, 51] := by
  show (([] ++ (if 0 < 0 then [32] else []) ++ decT 11) ++ (if 0 < 1 then [32] else []) ++ decT 12) ++ (if 0 < 2 then [32] else []) ++ decT 13 = _
  rw [d11, d12, d13]
  decide
theorem k5 : decK [-5] 1 = [194, 175, 53] := by
  show [] ++ (if 0 < 0 then [32] else []) ++ decT (-5) = _
  rw [d5]
  decide
theorem dyE_a : dyE ⟨#[43]⟩ ⟨true, false, [1, 2, 3]⟩ ⟨false, false, [10]⟩ = 0 := by kernel_rfl
theorem dyL_a : dyL ⟨#[43]⟩ ⟨true, false, [1, 2, 3]⟩ ⟨false, false, [10]⟩ = [11, 12, 13] := by kernel_rfl
theorem dyE_b : dyE ⟨#[43]⟩ ⟨true, false, [1, 2, 3]⟩ ⟨true, false, [1, 2]⟩ = 110 := by kernel_rfl
set_option maxRecDepth 100000 in
theorem print_a (s : Value) (w : World) (hs : KL w s [11, 12, 13]) (hG : AG w) : Calls Tryz.prog 29 #[.agg #[.bool true, .bool false, s]] w fun e w' => e = .returned (.string ⟨#[49, 49, 32, 49, 50, 32, 49, 51]⟩) ∧ Below w.heap.size w w' := by
  have hi : InL [11, 12, 13] := by intro x hx; simp at hx; rcases hx with rfl | rfl | rfl <;> decide
  refine print_c ⟨true, false, [11, 12, 13]⟩ s ⟨#[49, 49, 32, 49, 50, 32, 49, 51]⟩ w hs hi (by decide) (.inr (by decide)) (fun h => by cases h) (fun _ W h => ?_)
  have := decimals_c ⟨true, false, [11, 12, 13]⟩ s W (hs.below h) hi (hG.below h) (by decide) (fun k hk => by
    have hk' : k < 3 := hk
    obtain rfl | rfl | rfl : k = 0 ∨ k = 1 ∨ k = 2 := by omega
    · show (decK [11, 12, 13] 0).length ≤ 1000 ∧ (Lib.itoa 11).length ≤ 100 ∧ Lib.countB ⟨(Lib.itoa 11).toArray⟩ ⟨#[45]⟩ ≤ 100 ∧ (decT 11).length ≤ 1000
      rw [i11, d11]
      decide
    · show (decT 11).length ≤ 1000 ∧ (Lib.itoa 12).length ≤ 100 ∧ Lib.countB ⟨(Lib.itoa 12).toArray⟩ ⟨#[45]⟩ ≤ 100 ∧ (decT 12).length ≤ 1000
      rw [d11, i12, d12]
      decide
    · show (decT 11 ++ [32] ++ decT 12).length ≤ 1000 ∧ (Lib.itoa 13).length ≤ 100 ∧ Lib.countB ⟨(Lib.itoa 13).toArray⟩ ⟨#[45]⟩ ≤ 100 ∧ (decT 13).length ≤ 1000
      rw [d11, d12, i13, d13]
      decide)
  rw [show decK (⟨true, false, [11, 12, 13]⟩ : Ary).n (⟨true, false, [11, 12, 13]⟩ : Ary).n.length = [49, 49, 32, 49, 50, 32, 49, 51] from k1113] at this
  exact this
set_option maxRecDepth 100000 in
theorem print_b (s : Value) (w : World) (hs : KL w s [-5]) (hG : AG w) : Calls Tryz.prog 29 #[.agg #[.bool false, .bool false, s]] w fun e w' => e = .returned (.string ⟨#[194, 175, 53]⟩) ∧ Below w.heap.size w w' := by
  have hi : InL [-5] := by intro x hx; simp at hx; rw [hx]; decide
  refine print_c ⟨false, false, [-5]⟩ s ⟨#[194, 175, 53]⟩ w hs hi (by decide) (.inl rfl) (fun h => by cases h) (fun _ W h => ?_)
  have := decimals_c ⟨false, false, [-5]⟩ s W (hs.below h) hi (hG.below h) (by decide) (fun k hk => by
    have hk' : k < 1 := hk
    obtain rfl : k = 0 := by omega
    show (decK [-5] 0).length ≤ 1000 ∧ (Lib.itoa (-5)).length ≤ 100 ∧ Lib.countB ⟨(Lib.itoa (-5)).toArray⟩ ⟨#[45]⟩ ≤ 100 ∧ (decT (-5)).length ≤ 1000
    rw [i5, d5]
    decide)
  rw [show decK (⟨false, false, [-5]⟩ : Ary).n (⟨false, false, [-5]⟩ : Ary).n.length = [194, 175, 53] from k5] at this
  exact this
set_option maxRecDepth 100000 in
theorem print_q (s : Value) (w : World) (hs : KL w s [97, 39]) : Calls Tryz.prog 29 #[.agg #[.bool true, .bool true, s]] w fun e w' => e = .returned (.string ⟨#[39, 97, 39, 39, 39]⟩) ∧ Below w.heap.size w w' := by
  have hi : InL [97, 39] := by intro x hx; simp at hx; rcases hx with rfl | rfl <;> decide
  refine print_c ⟨true, true, [97, 39]⟩ s ⟨#[39, 97, 39, 39, 39]⟩ w hs hi (by decide) (.inr (by decide)) (fun _ W h => ?_) (fun h => by cases h)
  have := quoted_c ⟨true, true, [97, 39]⟩ s W (hs.below h) (by intro x hx; simp at hx; rcases hx with rfl | rfl <;> decide) (by decide)
  rw [show quoK (⟨true, true, [97, 39]⟩ : Ary).n (⟨true, true, [97, 39]⟩ : Ary).n.length ++ [39] = [39, 97, 39, 39, 39] from by decide] at this
  exact this
end Go.Proofs.YteclpoooggcdoaaGreatDoor.Ar
