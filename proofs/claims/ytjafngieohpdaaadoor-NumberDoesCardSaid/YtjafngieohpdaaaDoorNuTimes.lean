/- The program's product of two numbers, digit by digit. -/
import Derived.Test.YtjafngieohpdaaaDoorNuChk
import Derived.Test.YtjafngieohpdaaaDoorNuProd
import Derived.Scope
namespace Go.Proofs.YtjafngieohpdaaaDoor.Nu
open Go Go.RowKit

theorem u64_small (n : Nat) (h : n < 18446744073709551616) : IntKind.u64.wrap (n : Int) = (n : Int) := by rw [IntKind.wrap_u64]; omega
def timesV (a b : Nat) : Value := if a * b < 18446744073709551616 then .tuple #[.int .u64 ((a * b : Nat) : Int), .bool true] else .tuple #[.int .u64 0, .bool false]
set_option maxRecDepth 100000 in
set_option maxHeartbeats 4000000 in
theorem times_c (a b : Nat) (ha : a < 18446744073709551616) (hb : b < 18446744073709551616) (w : World) : Calls Tryd.prog 73 #[.int .u64 (a : Int), .int .u64 (b : Int)] w fun e w' => e = .returned (timesV a b) ∧ w = w' := by
  have HD := Lib.hid (fun (n k : Nat) (hn : n < 18446744073709551616) (hk : k < 8) (w : World) => digit_c n k hn hk w)
  go_enter Tryd.func73, Tryd.ntmps73
  go_wp2
  refine wp_scope_straight ?_
  go_wp2
  refine wp_label ?_
  go_wp2
  go_loop [6, 7, 8, 12] (fun p c o i => ∃ k : Nat, k ≤ 8 ∧ i = .int .i64 (k : Int) ∧ c = .int .u64 ((carr a b k : Nat) : Int) ∧ o = .bool true ∧ p = .int .u64 ((prodS a b (min k 4) : Nat) : Int) ∧ (∀ j, 4 ≤ j → j < k → dgt a b j = 0)) (fun _ _ _ i => 8 - (intOf i).toNat)
  case atStart => exact ⟨0, Nat.zero_le _, rfl, rfl, rfl, rfl, fun j _ h => absurd h (Nat.not_lt_zero _)⟩
  case round =>
    obtain ⟨k, hk, rfl, rfl, rfl, rfl, hz⟩ := hrel
    have HZ := Lib.hid hz
    clear hz
    by_cases hlt : k < 8
    · obtain ⟨p, hp⟩ : ∃ p, p = prodS a b (min k 4) := ⟨_, rfl⟩
      rw [← hp]
      have HP := Lib.hid hp
      clear hp
      go_wp2
      go_loop [7, 17] (fun c i => ∃ n : Nat, n ≤ k + 1 ∧ i = .int .i64 (n : Int) ∧ c = .int .u64 ((carr a b k + colS a b k n : Nat) : Int)) (fun _ i => k + 1 - (intOf i).toNat)
      case atStart => exact ⟨0, Nat.zero_le _, rfl, rfl⟩
      case round =>
        obtain ⟨n, hn, rfl, rfl⟩ := hrel
        by_cases hnk : n < k + 1
        · have hx0 : ∀ w, Calls Tryd.prog 79 #[.int .u64 (a : Int), .int .i64 (n : Int)] w fun e w' => e = .returned (.int .u64 ((dg a n : Nat) : Int)) ∧ w = w' := fun w => HD.out a n ha (by omega) w
          have hy0 : ∀ w, Calls Tryd.prog 79 #[.int .u64 (b : Int), .int .i64 ((k : Int) - (n : Int))] w fun e w' => e = .returned (.int .u64 ((dg b (k - n) : Nat) : Int)) ∧ w = w' := fun w => by
            rw [show ((k : Int) - (n : Int)) = ((k - n : Nat) : Int) by omega]
            exact HD.out b (k - n) hb (by omega) w
          have hcb := col_bound a b k (n + 1) (by omega) (by omega)
          have hst : colS a b k (n + 1) = colS a b k n + dg a n * dg b (k - n) := rfl
          obtain ⟨x, hx⟩ : ∃ x, x = dg a n := ⟨_, rfl⟩
          obtain ⟨y, hy⟩ : ∃ y, y = dg b (k - n) := ⟨_, rfl⟩
          rw [← hx] at hx0 hst
          rw [← hy] at hy0 hst
          obtain ⟨m, hm⟩ : ∃ m, m = x * y := ⟨_, rfl⟩
          rw [← hm] at hst
          obtain ⟨c, hc⟩ : ∃ c, c = carr a b k + colS a b k n := ⟨_, rfl⟩
          obtain ⟨c', hc'⟩ : ∃ c', c' = carr a b k + colS a b k (n + 1) := ⟨_, rfl⟩
          have e1 : IntKind.u64.wrap ((x : Int) * (y : Int)) = (m : Int) := by
            rw [show ((x : Int) * (y : Int)) = ((x * y : Nat) : Int) from rfl, ← hm]
            exact u64_small m (by omega)
          have e2 : IntKind.u64.wrap ((c : Int) + (m : Int)) = (c' : Int) := by
            rw [show ((c : Int) + (m : Int)) = (c' : Int) by omega]
            exact u64_small c' (by omega)
          rw [← hc]
          have HC := Lib.hid hc'
          have HX := Lib.hid hx0
          have HY := Lib.hid hy0
          clear hx0 hy0 hx hy hm hc hc' hst hcb
          go_wp2_with fail
          refine (HX.out _).mono ?_
          rintro e w' ⟨rfl, rfl⟩
          go_wp2_with fail
          refine (HY.out _).mono ?_
          rintro e w' ⟨rfl, rfl⟩
          go_wp2_with fail
          go_round
          case rel => exact ⟨n + 1, by omega, by go_num, by rw [← HC.out]⟩
          case measure => simp [intOf]; omega
        · have hnk' : n = k + 1 := by omega
          subst hnk'
          have hcb := col_bound a b k (k + 1) (by omega) (by omega)
          obtain ⟨c, hc⟩ : ∃ c, c = carr a b k + colS a b k (k + 1) := ⟨_, rfl⟩
          rw [← hc] at hcb ⊢
          obtain ⟨d, hd⟩ : ∃ d, d = dgt a b k := ⟨_, rfl⟩
          have hd' : d = c % 65536 := by rw [hd, hc]; rfl
          have hcs : carr a b (k + 1) = c / 65536 := by rw [hc]; rfl
          have e1 : bits .and .u64 (c : Int) 65535 = (d : Int) := by rw [hd']; exact mask_u64 c (by omega)
          have e2 : (c : Int) / 65536 = ((carr a b (k + 1) : Nat) : Int) := by rw [hcs]; omega
          have hpl := prodS_lt a b (min k 4)
          rw [← HP.out] at hpl
          have HDD := Lib.hid hd
          have hdl : d < 65536 := by omega
          have HC := Lib.hid hcs
          have HC2 := Lib.hid e2
          clear hc hd hcs e2 hd'
          by_cases hk4 : k < 4
          · have hps : prodS a b (min (k + 1) 4) = p + d * 65536 ^ k := by
              rw [HP.out, HDD.out, show min (k + 1) 4 = k + 1 by omega, show min k 4 = k by omega]
              rfl
            have HPS := Lib.hid hps
            rw [show min k 4 = k by omega] at hpl
            have e3 := or_add p d k hpl
            clear hps
            rcases (by omega : k = 0 ∨ k = 1 ∨ k = 2 ∨ k = 3) with rfl | rfl | rfl | rfl
            · have e4 : bits .or .u64 (p : Int) (d : Int) = ((p + d * 65536 ^ 0 : Nat) : Int) := by
                rw [show (d : Int) = ((d * 65536 ^ 0 : Nat) : Int) by omega, or_u64 p (d * 65536 ^ 0) (by omega) (by omega), e3]
              have E4 := Lib.hid e4
              clear e4 e3 hpl
              go_wp2
              go_round
              case rel => exact ⟨1, by omega, rfl, by rw [← HC2.out], rfl, by rw [HPS.out, E4.out], fun j h4 hj => absurd hj (by omega)⟩
              case measure => simp [intOf]
            · have e4 : bits .or .u64 (p : Int) ((d : Int) * 65536) = ((p + d * 65536 ^ 1 : Nat) : Int) := by
                rw [show ((d : Int) * 65536) = ((d * 65536 ^ 1 : Nat) : Int) by omega, or_u64 p (d * 65536 ^ 1) (by omega) (by omega), e3]
              have E4 := Lib.hid e4
              clear e4 e3 hpl
              go_wp2
              go_round
              case rel => exact ⟨2, by omega, rfl, by rw [← HC2.out], rfl, by rw [HPS.out, E4.out], fun j h4 hj => absurd hj (by omega)⟩
              case measure => simp [intOf]
            · have e4 : bits .or .u64 (p : Int) ((d : Int) * 4294967296) = ((p + d * 65536 ^ 2 : Nat) : Int) := by
                rw [show ((d : Int) * 4294967296) = ((d * 65536 ^ 2 : Nat) : Int) by omega, or_u64 p (d * 65536 ^ 2) (by omega) (by omega), e3]
              have E4 := Lib.hid e4
              clear e4 e3 hpl
              go_wp2
              go_round
              case rel => exact ⟨3, by omega, rfl, by rw [← HC2.out], rfl, by rw [HPS.out, E4.out], fun j h4 hj => absurd hj (by omega)⟩
              case measure => simp [intOf]
            · have e4 : bits .or .u64 (p : Int) ((d : Int) * 281474976710656) = ((p + d * 65536 ^ 3 : Nat) : Int) := by
                rw [show ((d : Int) * 281474976710656) = ((d * 65536 ^ 3 : Nat) : Int) by omega, or_u64 p (d * 65536 ^ 3) (by omega) (by omega), e3]
              have E4 := Lib.hid e4
              clear e4 e3 hpl
              go_wp2
              go_round
              case rel => exact ⟨4, by omega, rfl, by rw [← HC2.out], rfl, by rw [HPS.out, E4.out], fun j h4 hj => absurd hj (by omega)⟩
              case measure => simp [intOf]
          · by_cases hd0 : d = 0
            · subst hd0
              have hps : prodS a b (min (k + 1) 4) = p := by rw [HP.out, show min (k + 1) 4 = 4 by omega, show min k 4 = 4 by omega]
              have HPS := Lib.hid hps
              clear hps hpl
              go_wp2
              go_round
              case rel => exact ⟨k + 1, by omega, by go_num, by rw [← HC2.out], rfl, by rw [HPS.out], fun j h4 hj => by
                rcases (by omega : j < k ∨ j = k) with h | rfl
                · exact HZ.out j h4 h
                · exact HDD.out.symm⟩
              case measure => simp [intOf]; omega
            · have hov := prod_over a b ha hb k (by omega) hlt (by rw [← HDD.out]; exact hd0)
              have hv : timesV a b = .tuple #[.int .u64 0, .bool false] := if_neg (by omega)
              have HV := Lib.hid hv
              have t0 : ((d : Int) != 0) = true := by simp; omega
              clear hov hv hd0
              go_wp2
              go_ret2
              exact ⟨by rw [HV.out]; rfl, rfl⟩
    · have hk8 : k = 8 := by omega
      subst hk8
      have hpf := prod_fits a b ha hb HZ.out
      have hpl := prodS_lt a b 4
      have hv : timesV a b = .tuple #[.int .u64 ((prodS a b 4 : Nat) : Int), .bool true] := by
        unfold timesV
        rw [if_pos (by rw [← hpf]; exact hpl), hpf]
      have HV := Lib.hid hv
      clear hpf hv
      go_wp2
      go_ret2
      exact ⟨by rw [HV.out]; rfl, rfl⟩
end Go.Proofs.YtjafngieohpdaaaDoor.Nu
