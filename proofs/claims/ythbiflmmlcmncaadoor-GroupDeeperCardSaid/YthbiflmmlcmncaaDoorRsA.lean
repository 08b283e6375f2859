/- The plain lexer: how many digits, how many blanks a text begins with. The plain lexer: letters, words, kinds. The plain lexer: a quoted text. The plain lexer: a number. The plain lexer: which rule tells a text's first token. Nothing of the program stands here. -/
import Derived.Test.YthbiflmmlcmncaaDoorRsBase
/- The plain lexer: how many digits, how many blanks a text begins with. -/
namespace Go.Proofs.YthbiflmmlcmncaaDoor
namespace Rs
open Go Go.RowKit Go.Shelf
attribute [local go_sem] Oper.semAt_some

theorem isD_nat (b : UInt8) : isD b = (decide (48 ≤ b.toNat) && decide (b.toNat ≤ 57)) := by
  unfold isD
  simp [UInt8.le_iff_toNat_le]
set_option maxRecDepth 100000 in
theorem isDigit_c (b : UInt8) (w : World) :
    Calls Tryd.prog 51 #[.int .u8 (b.toNat : Int)] w fun e W' => e = .returned (.bool (isD b)) ∧ W' = w := by
  have hD := isD_nat b
  obtain ⟨x, hx⟩ : ∃ x, x = b.toNat := ⟨_, rfl⟩
  rw [← hx] at hD ⊢
  rw [hD]
  clear hD hx
  by_cases c1 : 48 ≤ x
  · have t1 : decide ((48 : Int) ≤ (x : Int)) = true := by simp; omega
    by_cases c2 : x ≤ 57
    · have t2 : decide ((x : Int) ≤ 57) = true := by simp; omega
      go_enter Tryd.func51, Tryd.ntmps51
      go_wp2
      go_ret
      exact ⟨by simp [c1, c2], rfl⟩
    · have t2 : decide ((x : Int) ≤ 57) = false := by simp; omega
      go_enter Tryd.func51, Tryd.ntmps51
      go_wp2
      go_ret
      exact ⟨by simp [c2], rfl⟩
  · have t1 : decide ((48 : Int) ≤ (x : Int)) = false := by simp; omega
    go_enter Tryd.func51, Tryd.ntmps51
    go_wp2
    go_ret
    exact ⟨by simp [c1], rfl⟩

set_option maxRecDepth 100000 in
set_option maxHeartbeats 2000000 in
theorem digits_c (s : ByteArray) (hs : s.size ≤ 10000) (w : World) :
    Calls Tryd.prog 67 #[.string s] w fun e W' => e = .returned (.int .i64 ((nOf isD s.data.toList : Nat) : Int)) ∧ W' = w := by
  have hgt := byte_at s
  have HGT := Lib.hid hgt
  clear hgt
  go_enter Tryd.func67, Tryd.ntmps67
  go_wp2
  go_loopw [3] (fun i wr => ∃ k : Nat, k ≤ s.size ∧ i = .int .i64 k ∧ w = wr ∧ ∀ (j : Nat) b, j < k → s.data.toList[j]? = some b → isD b = true)
    (fun i _ => s.size - (intOf i).toNat)
  case atStart => exact ⟨0, Nat.zero_le _, rfl, rfl, fun j b h => by omega⟩
  case round =>
    obtain ⟨k, hk, rfl, hw, hall⟩ := hrel
    obtain rfl := hw
    have HA := Lib.hid hall
    clear hall
    by_cases hlt : k < s.size
    · have hg := HGT.out k hlt
      have hcall := isDigit_c (s[k]'hlt) w
      cases hd : isD (s[k]'hlt) with
      | true =>
        rw [hd] at hcall
        have HC := Lib.hid hcall
        have HN : Hid (∀ (j : Nat) b, j < k + 1 → s.data.toList[j]? = some b → isD b = true) := Lib.hid (fun j b hj e => by
          rcases Nat.lt_or_ge j k with h | h
          · exact HA.out j b h e
          · obtain rfl : j = k := by omega
            rw [hg] at e; cases e; exact hd)
        clear hcall hg hd
        go_wp2_with fail
        refine HC.out.mono ?_
        rintro e w1 ⟨rfl, hw⟩
        obtain rfl := hw.symm
        clear hw
        go_wp2_with fail
        go_roundw
        case rel => exact ⟨k + 1, by omega, by simp, trivial, HN.out⟩
        case measure => simp [intOf]; omega
      | false =>
        rw [hd] at hcall
        have HC := Lib.hid hcall
        have HE : Hid (nOf isD s.data.toList = k) := Lib.hid (takeWhile_len (by rw [← Lib.size_eq]; exact hk) HA.out (fun b e => by rw [hg] at e; cases e; exact hd))
        clear hcall hg hd
        go_wp2_with fail
        refine HC.out.mono ?_
        rintro e w1 ⟨rfl, hw⟩
        obtain rfl := hw.symm
        clear hw
        go_wp2_with fail
        go_ret
        exact ⟨by rw [HE.out]; rfl, rfl⟩
    · obtain rfl : k = s.size := by omega
      have HE : Hid (nOf isD s.data.toList = s.size) := Lib.hid (takeWhile_len (by rw [← Lib.size_eq]; exact hk) HA.out (fun b e => by
        rw [List.getElem?_eq_none (by rw [← Lib.size_eq]; exact Nat.le_refl _)] at e; cases e))
      go_wp2_with fail
      go_ret
      exact ⟨by rw [HE.out]; rfl, rfl⟩

set_option maxRecDepth 100000 in
set_option maxHeartbeats 2000000 in
theorem blanks_c (s : ByteArray) (hs : s.size ≤ 10000) (w : World) :
    Calls Tryd.prog 48 #[.string s] w fun e W' => e = .returned (.int .i64 ((nOf isB s.data.toList : Nat) : Int)) ∧ W' = w := by
  have hgt := byte_at s
  have HGT := Lib.hid hgt
  clear hgt
  go_enter Tryd.func48, Tryd.ntmps48
  go_wp2
  go_loopw [3] (fun i wr => ∃ k : Nat, k ≤ s.size ∧ i = .int .i64 k ∧ w = wr ∧ ∀ (j : Nat) b, j < k → s.data.toList[j]? = some b → isB b = true)
    (fun i _ => s.size - (intOf i).toNat)
  case atStart => exact ⟨0, Nat.zero_le _, rfl, rfl, fun j b h => by omega⟩
  case round =>
    obtain ⟨k, hk, rfl, hw, hall⟩ := hrel
    obtain rfl := hw
    have HA := Lib.hid hall
    clear hall
    by_cases hlt : k < s.size
    · have hg := HGT.out k hlt
      have hnum : ∀ n : UInt8, s[k]'hlt ≠ n → (((s[k]'hlt).toNat : Int) == ((n.toNat : Nat) : Int)) = false := fun n h => by
        simp only [beq_eq_false_iff_ne, ne_eq]
        intro h1
        exact h (UInt8.toNat_inj.1 (by omega))
      have step : isB (s[k]'hlt) = true → ∀ (j : Nat) b, j < k + 1 → s.data.toList[j]? = some b → isB b = true := fun hd j b hj e => by
        rcases Nat.lt_or_ge j k with h | h
        · exact HA.out j b h e
        · obtain rfl : j = k := by omega
          rw [hg] at e; cases e; exact hd
      by_cases h1 : s[k]'hlt = 32
      · have t1 : (((s[k]'hlt).toNat : Int) == 32) = true := by rw [h1]; rfl
        have HN := Lib.hid (step (by rw [h1]; rfl))
        clear hnum step hg h1
        go_wp2_with fail
        go_roundw
        case rel => exact ⟨k + 1, by omega, by simp, trivial, HN.out⟩
        case measure => simp [intOf]; omega
      · have t1 : (((s[k]'hlt).toNat : Int) == 32) = false := hnum 32 h1
        by_cases h2 : s[k]'hlt = 9
        · have t2 : (((s[k]'hlt).toNat : Int) == 9) = true := by rw [h2]; rfl
          have HN := Lib.hid (step (by rw [h2]; rfl))
          clear hnum step hg h1 h2
          go_wp2_with fail
          go_roundw
          case rel => exact ⟨k + 1, by omega, by simp, trivial, HN.out⟩
          case measure => simp [intOf]; omega
        · have t2 : (((s[k]'hlt).toNat : Int) == 9) = false := hnum 9 h2
          have HE : Hid (nOf isB s.data.toList = k) := Lib.hid (takeWhile_len (by rw [← Lib.size_eq]; exact hk) HA.out (fun b e => by rw [hg] at e; cases e; simp [isB, h1, h2]))
          clear hnum step hg h1 h2
          go_wp2_with fail
          go_ret
          exact ⟨by rw [HE.out]; rfl, rfl⟩
    · obtain rfl : k = s.size := by omega
      have HE : Hid (nOf isB s.data.toList = s.size) := Lib.hid (takeWhile_len (by rw [← Lib.size_eq]; exact hk) HA.out (fun b e => by
        rw [List.getElem?_eq_none (by rw [← Lib.size_eq]; exact Nat.le_refl _)] at e; cases e))
      go_wp2_with fail
      go_ret
      exact ⟨by rw [HE.out]; rfl, rfl⟩
end Rs
end Go.Proofs.YthbiflmmlcmncaaDoor

/- The plain lexer: letters, words, kinds. -/
namespace Go.Proofs.YthbiflmmlcmncaaDoor
namespace Rs
open Go Go.RowKit Go.Shelf
attribute [local go_sem] Oper.semAt_some

theorem isL_nat (b : UInt8) : isL b = ((decide (97 ≤ b.toNat) && decide (b.toNat ≤ 122)) || (decide (65 ≤ b.toNat) && decide (b.toNat ≤ 90)) || decide (b.toNat = 95)) := by
  have h : (b == 95) = decide (b.toNat = 95) := by
    by_cases h : b = 95
    · subst h; rfl
    · have h2 : ¬ b.toNat = 95 := fun e => h (UInt8.toNat_inj.1 (by rw [e]; rfl))
      rw [decide_eq_false h2]
      simpa using h
  unfold isL
  rw [h]
  simp [UInt8.le_iff_toNat_le]
set_option maxRecDepth 100000 in
theorem isLetter_c (b : UInt8) (w : World) :
    Calls Tryd.prog 68 #[.int .u8 (b.toNat : Int)] w fun e W' => e = .returned (.bool (isL b)) ∧ W' = w := by
  have hD := isL_nat b
  obtain ⟨x, hx⟩ : ∃ x, x = b.toNat := ⟨_, rfl⟩
  rw [← hx] at hD ⊢
  rw [hD]
  clear hD hx
  rcases (show (97 ≤ x ∧ x ≤ 122) ∨ (97 ≤ x ∧ 122 < x) ∨ (x < 97 ∧ 65 ≤ x ∧ x ≤ 90) ∨ (x = 95) ∨ (x < 97 ∧ 90 < x ∧ ¬ x = 95) ∨ (x < 65) by omega) with c | c | c | c | c | c
  · have hr : ((decide (97 ≤ x) && decide (x ≤ 122)) || (decide (65 ≤ x) && decide (x ≤ 90)) || decide (x = 95)) = true := by
      simp only [Bool.or_eq_true, Bool.and_eq_true, decide_eq_true_eq]; omega
    rw [hr]
    clear hr
    have t0 : decide ((97 : Int) ≤ (x : Int)) = true := by simp; omega
    have t1 : decide ((x : Int) ≤ 122) = true := by simp; omega
    clear c
    go_enter Tryd.func68, Tryd.ntmps68
    go_wp2
    go_ret
    exact ⟨rfl, rfl⟩
  · have hr : ((decide (97 ≤ x) && decide (x ≤ 122)) || (decide (65 ≤ x) && decide (x ≤ 90)) || decide (x = 95)) = false := by
      simp only [Bool.or_eq_false_iff, Bool.and_eq_false_iff, decide_eq_false_iff_not]; omega
    rw [hr]
    clear hr
    have t0 : decide ((97 : Int) ≤ (x : Int)) = true := by simp; omega
    have t1 : decide ((x : Int) ≤ 122) = false := by simp; omega
    have t2 : decide ((65 : Int) ≤ (x : Int)) = true := by simp; omega
    have t3 : decide ((x : Int) ≤ 90) = false := by simp; omega
    have t4 : ((x : Int) == 95) = false := by simp; omega
    clear c
    go_enter Tryd.func68, Tryd.ntmps68
    go_wp2
    go_ret
    exact ⟨rfl, rfl⟩
  · have hr : ((decide (97 ≤ x) && decide (x ≤ 122)) || (decide (65 ≤ x) && decide (x ≤ 90)) || decide (x = 95)) = true := by
      simp only [Bool.or_eq_true, Bool.and_eq_true, decide_eq_true_eq]; omega
    rw [hr]
    clear hr
    have t0 : decide ((97 : Int) ≤ (x : Int)) = false := by simp; omega
    have t2 : decide ((65 : Int) ≤ (x : Int)) = true := by simp; omega
    have t3 : decide ((x : Int) ≤ 90) = true := by simp; omega
    clear c
    go_enter Tryd.func68, Tryd.ntmps68
    go_wp2
    go_ret
    exact ⟨rfl, rfl⟩
  · have hr : ((decide (97 ≤ x) && decide (x ≤ 122)) || (decide (65 ≤ x) && decide (x ≤ 90)) || decide (x = 95)) = true := by
      simp only [Bool.or_eq_true, Bool.and_eq_true, decide_eq_true_eq]; omega
    rw [hr]
    clear hr
    have t0 : decide ((97 : Int) ≤ (x : Int)) = false := by simp; omega
    have t2 : decide ((65 : Int) ≤ (x : Int)) = true := by simp; omega
    have t3 : decide ((x : Int) ≤ 90) = false := by simp; omega
    have t4 : ((x : Int) == 95) = true := by simp; omega
    clear c
    go_enter Tryd.func68, Tryd.ntmps68
    go_wp2
    go_ret
    exact ⟨rfl, rfl⟩
  · have hr : ((decide (97 ≤ x) && decide (x ≤ 122)) || (decide (65 ≤ x) && decide (x ≤ 90)) || decide (x = 95)) = false := by
      simp only [Bool.or_eq_false_iff, Bool.and_eq_false_iff, decide_eq_false_iff_not]; omega
    rw [hr]
    clear hr
    have t0 : decide ((97 : Int) ≤ (x : Int)) = false := by simp; omega
    have t2 : decide ((65 : Int) ≤ (x : Int)) = true := by simp; omega
    have t3 : decide ((x : Int) ≤ 90) = false := by simp; omega
    have t4 : ((x : Int) == 95) = false := by simp; omega
    clear c
    go_enter Tryd.func68, Tryd.ntmps68
    go_wp2
    go_ret
    exact ⟨rfl, rfl⟩
  · have hr : ((decide (97 ≤ x) && decide (x ≤ 122)) || (decide (65 ≤ x) && decide (x ≤ 90)) || decide (x = 95)) = false := by
      simp only [Bool.or_eq_false_iff, Bool.and_eq_false_iff, decide_eq_false_iff_not]; omega
    rw [hr]
    clear hr
    have t0 : decide ((97 : Int) ≤ (x : Int)) = false := by simp; omega
    have t2 : decide ((65 : Int) ≤ (x : Int)) = false := by simp; omega
    have t4 : ((x : Int) == 95) = false := by simp; omega
    clear c
    go_enter Tryd.func68, Tryd.ntmps68
    go_wp2
    go_ret
    exact ⟨rfl, rfl⟩

set_option maxRecDepth 100000 in
theorem kind_c (k : Nat) (hk : k ≤ 4) (h0 : ¬ k = 0) (w : World) :
    Calls Tryd.prog 53 #[.int .i64 (k : Int)] w fun e W' => e = .returned (.int .i64 ((kindC k : Nat) : Int)) ∧ W' = w := by
  rcases (show k = 1 ∨ k = 2 ∨ k = 3 ∨ k = 4 by omega) with rfl | rfl | rfl | rfl
  all_goals
    go_enter Tryd.func53, Tryd.ntmps53
    go_wp2
    go_ret
    exact ⟨rfl, rfl⟩

/-- How many bytes of a word a text begins with. -/
def wordN (T : List UInt8) : Nat := if nOf isL T = 0 then 0 else nOf isW T
theorem wordN_at {T : List UInt8} {k : Nat} (hk : k ≤ T.length) (h1 : ∀ j b, j < k → T[j]? = some b → isW b = true) (h2 : 0 < k → ∀ b, T[0]? = some b → isL b = true) (h3 : ∀ b, T[k]? = some b → isL b = false ∧ (0 < k → isD b = false)) : wordN T = k := by
  unfold wordN
  by_cases h0 : k = 0
  · subst h0
    rw [if_pos (nOf_zero.2 (fun b e => (h3 b (by rw [← List.head?_eq_getElem?]; exact e)).1))]
  · rw [if_neg]
    · refine takeWhile_len hk h1 (fun b e => ?_)
      obtain ⟨p, q⟩ := h3 b e
      unfold isW
      rw [p, q (by omega)]
      rfl
    · intro e
      obtain ⟨b, hb⟩ : ∃ b, T[0]? = some b := ⟨_, List.getElem?_eq_getElem (by omega)⟩
      have := nOf_zero.1 e b (by rw [List.head?_eq_getElem?]; exact hb)
      rw [h2 (by omega) b hb] at this
      cases this

set_option maxRecDepth 100000 in
set_option maxHeartbeats 2000000 in
theorem word_c (s : ByteArray) (hs : s.size ≤ 10000) (w : World) :
    Calls Tryd.prog 52 #[.string s] w fun e W' => e = .returned (.int .i64 ((wordN s.data.toList : Nat) : Int)) ∧ W' = w := by
  have hgt := byte_at s
  have HGT := Lib.hid hgt
  clear hgt
  go_enter Tryd.func52, Tryd.ntmps52
  go_wp2
  go_loopw [3] (fun i wr => ∃ k : Nat, k ≤ s.size ∧ i = .int .i64 k ∧ w = wr ∧ (∀ (j : Nat) b, j < k → s.data.toList[j]? = some b → isW b = true) ∧ (0 < k → ∀ b, s.data.toList[0]? = some b → isL b = true))
    (fun i _ => s.size - (intOf i).toNat)
  case atStart => exact ⟨0, Nat.zero_le _, rfl, rfl, fun j b h => by omega, fun h => by omega⟩
  case round =>
    obtain ⟨k, hk, rfl, hw, hall, hfst⟩ := hrel
    obtain rfl := hw
    have HA := Lib.hid hall
    have HF := Lib.hid hfst
    clear hall hfst
    by_cases hlt : k < s.size
    · have hg := HGT.out k hlt
      have hstep : isW (s[k]'hlt) = true → ∀ (j : Nat) b, j < k + 1 → s.data.toList[j]? = some b → isW b = true := fun hd j b hj e => by
        rcases Nat.lt_or_ge j k with h | h
        · exact HA.out j b h e
        · obtain rfl : j = k := by omega
          rw [hg] at e; cases e; exact hd
      have hcall := isLetter_c (s[k]'hlt) w
      cases hl : isL (s[k]'hlt) with
      | true =>
        rw [hl] at hcall
        have HC := Lib.hid hcall
        have HN := Lib.hid (hstep (by unfold isW; rw [hl]; rfl))
        have HF2 : Hid (0 < k + 1 → ∀ b, s.data.toList[0]? = some b → isL b = true) := Lib.hid (fun _ b e => by
          by_cases h0 : k = 0
          · subst h0; rw [hg] at e; cases e; exact hl
          · exact HF.out (by omega) b e)
        clear hcall hg hl hstep
        go_wp2_with fail
        refine HC.out.mono ?_
        rintro e w1 ⟨rfl, hw⟩
        obtain rfl := hw.symm
        clear hw
        go_wp2_with fail
        go_roundw
        case rel => exact ⟨k + 1, by omega, by simp, trivial, HN.out, HF2.out⟩
        case measure => simp [intOf]; omega
      | false =>
        rw [hl] at hcall
        have HC := Lib.hid hcall
        by_cases h0 : k = 0
        · subst h0
          have HE : Hid (wordN s.data.toList = 0) := Lib.hid (wordN_at (Nat.zero_le _) HA.out HF.out (fun b e => by rw [hg] at e; cases e; exact ⟨hl, fun h => by omega⟩))
          clear hcall hg hl hstep
          go_wp2_with fail
          refine HC.out.mono ?_
          rintro e w1 ⟨rfl, hw⟩
          obtain rfl := hw.symm
          clear hw
          go_wp2_with fail
          go_ret
          exact ⟨by rw [HE.out]; rfl, rfl⟩
        · have t0 : decide ((0 : Int) < (k : Int)) = true := by simp; omega
          have hcall2 := isDigit_c (s[k]'hlt) w
          cases hd : isD (s[k]'hlt) with
          | true =>
            rw [hd] at hcall2
            have HC2 := Lib.hid hcall2
            have HN := Lib.hid (hstep (by unfold isW; rw [hd, Bool.or_true]))
            have HF2 : Hid (0 < k + 1 → ∀ b, s.data.toList[0]? = some b → isL b = true) := Lib.hid (fun _ b e => HF.out (by omega) b e)
            clear hcall hcall2 hg hl hd hstep
            go_wp2_with fail
            refine HC.out.mono ?_
            rintro e w1 ⟨rfl, hw⟩
            obtain rfl := hw.symm
            clear hw
            go_wp2_with fail
            refine HC2.out.mono ?_
            rintro e w1 ⟨rfl, hw⟩
            obtain rfl := hw.symm
            clear hw
            go_wp2_with fail
            go_roundw
            case rel => exact ⟨k + 1, by omega, by simp, trivial, HN.out, HF2.out⟩
            case measure => simp [intOf]; omega
          | false =>
            rw [hd] at hcall2
            have HC2 := Lib.hid hcall2
            have HE : Hid (wordN s.data.toList = k) := Lib.hid (wordN_at (by rw [← Lib.size_eq]; exact hk) HA.out HF.out (fun b e => by rw [hg] at e; cases e; exact ⟨hl, fun _ => hd⟩))
            clear hcall hcall2 hg hl hd hstep
            go_wp2_with fail
            refine HC.out.mono ?_
            rintro e w1 ⟨rfl, hw⟩
            obtain rfl := hw.symm
            clear hw
            go_wp2_with fail
            refine HC2.out.mono ?_
            rintro e w1 ⟨rfl, hw⟩
            obtain rfl := hw.symm
            clear hw
            go_wp2_with fail
            go_ret
            exact ⟨by rw [HE.out]; rfl, rfl⟩
    · obtain rfl : k = s.size := by omega
      have HE : Hid (wordN s.data.toList = s.size) := Lib.hid (wordN_at (by rw [← Lib.size_eq]; exact hk) HA.out HF.out (fun b e => by
        rw [List.getElem?_eq_none (by rw [← Lib.size_eq]; exact Nat.le_refl _)] at e; cases e))
      go_wp2_with fail
      go_ret
      exact ⟨by rw [HE.out]; rfl, rfl⟩
end Rs
end Go.Proofs.YthbiflmmlcmncaaDoor

/- The plain lexer: a quoted text. -/
namespace Go.Proofs.YthbiflmmlcmncaaDoor
namespace Rs
open Go Go.RowKit Go.Shelf
attribute [local go_sem] Oper.semAt_some

def qN : Option Nat → Nat
  | none => 0
  | some n => n + 1
theorem qN_add (o : Option Nat) (k : Nat) (h : o ≠ none) : qN (o.map (· + k)) = qN o + k := by
  cases o with
  | none => exact (h rfl).elim
  | some n => simp [qN]; omega
/-- Behind k bytes that close nothing: what is told of the whole is what is told of the rest. -/
def QAt (T : List UInt8) (k : Nat) : Prop := qs (T.drop 1) = (qs (T.drop k)).map (· + (k - 1))
theorem QAt.zero (T : List UInt8) : QAt T 1 := by
  unfold QAt
  cases qs (T.drop 1) <;> simp
theorem QAt.one {T : List UInt8} {k : Nat} {b : UInt8} (h : QAt T k) (hk : 1 ≤ k) (hb : T[k]? = some b) (hn : ¬ b = 39) : QAt T (k + 1) := by
  have hd : T.drop k = b :: T.drop (k + 1) := by
    obtain ⟨hlt, he⟩ := List.getElem?_eq_some_iff.1 hb
    rw [List.drop_eq_getElem_cons hlt, he]
  unfold QAt at h ⊢
  rw [h, hd]
  cases hr : T.drop (k + 1) with
  | nil => simp [qs, hn]
  | cons c r =>
    have : qs (b :: c :: r) = (qs (c :: r)).map (· + 1) := by rw [qs, if_pos hn]
    rw [this, Option.map_map]
    congr 1
    funext x
    simp
    omega
theorem QAt.two {T : List UInt8} {k : Nat} (h : QAt T k) (hk : 1 ≤ k) (hb : T[k]? = some 39) (hc : T[k + 1]? = some 39) : QAt T (k + 2) := by
  have hd : T.drop k = 39 :: 39 :: T.drop (k + 2) := by
    obtain ⟨hlt, he⟩ := List.getElem?_eq_some_iff.1 hb
    obtain ⟨hlt2, he2⟩ := List.getElem?_eq_some_iff.1 hc
    rw [List.drop_eq_getElem_cons hlt, he, List.drop_eq_getElem_cons hlt2, he2]
  unfold QAt at h ⊢
  rw [h, hd]
  have : qs (39 :: 39 :: T.drop (k + 2)) = (qs (T.drop (k + 2))).map (· + 2) := by rw [qs, if_neg (by simp), if_pos rfl]
  rw [this, Option.map_map]
  congr 1
  funext x
  simp
  omega
theorem QAt.end_ {T : List UInt8} {k : Nat} (h : QAt T k) (hk : T.length ≤ k) : qN (qs (T.drop 1)) = 0 := by
  unfold QAt at h
  rw [h, List.drop_eq_nil_of_le hk]
  rfl
theorem QAt.last {T : List UInt8} {k : Nat} (h : QAt T k) (hk : 1 ≤ k) (hb : T[k]? = some 39) (hc : T.length = k + 1) : qN (qs (T.drop 1)) = k + 1 := by
  have hd : T.drop k = [39] := by
    obtain ⟨hlt, he⟩ := List.getElem?_eq_some_iff.1 hb
    rw [List.drop_eq_getElem_cons hlt, he, List.drop_eq_nil_of_le (by omega)]
  unfold QAt at h
  rw [h, hd]
  simp [qs, qN]
  omega
theorem QAt.stop {T : List UInt8} {k : Nat} {c : UInt8} (h : QAt T k) (hk : 1 ≤ k) (hb : T[k]? = some 39) (hc : T[k + 1]? = some c) (hn : ¬ c = 39) : qN (qs (T.drop 1)) = k + 1 := by
  have hd : T.drop k = 39 :: c :: T.drop (k + 2) := by
    obtain ⟨hlt, he⟩ := List.getElem?_eq_some_iff.1 hb
    obtain ⟨hlt2, he2⟩ := List.getElem?_eq_some_iff.1 hc
    rw [List.drop_eq_getElem_cons hlt, he, List.drop_eq_getElem_cons hlt2, he2]
  unfold QAt at h
  rw [h, hd]
  have : qs (39 :: c :: T.drop (k + 2)) = some 1 := by rw [qs, if_neg (by simp), if_neg hn]
  rw [this]
  simp [qN]
  omega

set_option maxRecDepth 100000 in
set_option maxHeartbeats 2000000 in
theorem quoted_c (s : ByteArray) (h1 : 1 ≤ s.size) (hs : s.size ≤ 10000) (w : World) :
    Calls Tryd.prog 49 #[.string s] w fun e W' => e = .returned (.int .i64 ((qN (qs (s.data.toList.drop 1)) : Nat) : Int)) ∧ W' = w := by
  have hgt := byte_at s
  have HGT := Lib.hid hgt
  have HSZ := Lib.hid (Lib.size_eq s)
  clear hgt
  go_enter Tryd.func49, Tryd.ntmps49
  go_wp2
  go_loopw [3] (fun i wr => ∃ k : Nat, 1 ≤ k ∧ k ≤ s.size ∧ i = .int .i64 k ∧ w = wr ∧ QAt s.data.toList k)
    (fun i _ => s.size - (intOf i).toNat)
  case atStart => exact ⟨1, Nat.le_refl _, h1, rfl, rfl, QAt.zero _⟩
  case round =>
    obtain ⟨k, hk1, hk, rfl, hw, hq⟩ := hrel
    obtain rfl := hw
    have HQ := Lib.hid hq
    clear hq
    have hnum : ∀ (j : Nat) (hj : j < s.size) (n : UInt8), s[j]'hj ≠ n → (((s[j]'hj).toNat : Int) == ((n.toNat : Nat) : Int)) = false := fun j hj n h => by
      simp only [beq_eq_false_iff_ne, ne_eq]
      intro h1
      exact h (UInt8.toNat_inj.1 (by omega))
    by_cases hlt : k < s.size
    · have hg := HGT.out k hlt
      by_cases c1 : s[k]'hlt = 39
      · have t1 : (((s[k]'hlt).toNat : Int) == 39) = true := by rw [c1]; rfl
        rw [c1] at hg
        by_cases hl : k + 1 = s.size
        · have t2 : ((k : Int) + 1 == (s.size : Int)) = true := by simp; omega
          have HE := Lib.hid (HQ.out.last hk1 hg (by rw [← Lib.size_eq]; omega))
          clear hnum hg c1
          go_wp2_with fail
          go_ret
          exact ⟨by rw [HE.out]; rfl, rfl⟩
        · have hlt2 : k + 1 < s.size := by omega
          have t2 : ((k : Int) + 1 == (s.size : Int)) = false := by simp; omega
          have hg2 := HGT.out (k + 1) hlt2
          by_cases c2 : s[k + 1]'hlt2 = 39
          · have t3 : (((s[k + 1]'hlt2).toNat : Int) == 39) = true := by rw [c2]; rfl
            rw [c2] at hg2
            have HN := Lib.hid (HQ.out.two hk1 hg hg2)
            clear hnum hg hg2 c1 c2
            go_wp2_with fail
            go_roundw
            case rel => exact ⟨k + 2, by omega, by omega, by simp; omega, trivial, HN.out⟩
            case measure => simp [intOf]; omega
          · have t3 : (((s[k + 1]'hlt2).toNat : Int) == 39) = false := hnum (k + 1) hlt2 39 c2
            have HE := Lib.hid (HQ.out.stop hk1 hg hg2 c2)
            clear hnum hg hg2 c1 c2
            go_wp2_with fail
            go_ret
            exact ⟨by rw [HE.out]; rfl, rfl⟩
      · have t1 : (((s[k]'hlt).toNat : Int) == 39) = false := hnum k hlt 39 c1
        have HN := Lib.hid (HQ.out.one hk1 hg c1)
        clear hnum hg c1
        go_wp2_with fail
        go_roundw
        case rel => exact ⟨k + 1, by omega, by omega, by simp, trivial, HN.out⟩
        case measure => simp [intOf]; omega
    · obtain rfl : k = s.size := by omega
      have HE := Lib.hid (HQ.out.end_ (by rw [← Lib.size_eq]; exact Nat.le_refl _))
      clear hnum
      go_wp2_with fail
      go_ret
      exact ⟨by rw [HE.out]; rfl, rfl⟩
end Rs
end Go.Proofs.YthbiflmmlcmncaaDoor

/- The plain lexer: a number. -/
namespace Go.Proofs.YthbiflmmlcmncaaDoor
namespace Rs
open Go Go.RowKit Go.Shelf
attribute [local go_sem] Oper.semAt_some

theorem dropWhile_zeros : ∀ (D : List UInt8) (j : Nat), (∀ i, i < j → D[i]? = some 48) → D.dropWhile (· == 48) = (D.drop j).dropWhile (· == 48)
  | _, 0, _ => rfl
  | [], j + 1, h => by have := h 0 (by omega); simp at this
  | b :: r, j + 1, h => by
    have hb : b = 48 := by simpa using h 0 (by omega)
    subst hb
    rw [List.dropWhile_cons, if_pos (by rfl), List.drop_succ_cons]
    exact dropWhile_zeros r j (fun i hi => by simpa using h (i + 1) (by omega))
theorem short_zero {m D : List UInt8} {j : Nat} (h : ∀ i, i < j → D[i]? = some 48) (hd : D.drop j = [48]) : short m D = [48] := by
  unfold short
  rw [dropWhile_zeros D j h, hd]
  rfl
theorem short_some {m D : List UInt8} {j : Nat} {b : UInt8} (h : ∀ i, i < j → D[i]? = some 48) (hb : D[j]? = some b) (hn : ¬ b = 48) : short m D = m ++ D.drop j := by
  have hd : D.drop j = b :: D.drop (j + 1) := by
    obtain ⟨hlt, he⟩ := List.getElem?_eq_some_iff.1 hb
    rw [List.drop_eq_getElem_cons hlt, he]
  have e : (D.drop j).dropWhile (· == 48) = D.drop j := by
    rw [hd, List.dropWhile_cons, if_neg (by simpa using hn)]
  unfold short
  rw [dropWhile_zeros D j h, e, if_neg (by rw [hd]; simp)]

/-- The token of a minus of n bytes, and digits. -/
def numT (T : List UInt8) (n : Nat) : Tk :=
  if 18 < nOf isD (T.drop n) ∨ nOf isD (T.drop n) = 0 then ⟨10, T.take (n + nOf isD (T.drop n)), []⟩
  else ⟨3, T.take (n + nOf isD (T.drop n)), short (if n = 0 then [] else [194, 175]) ((T.drop n).take (nOf isD (T.drop n)))⟩
def strLen : Value → Nat
  | .string s => s.size
  | _ => 0

set_option maxRecDepth 100000 in
set_option maxHeartbeats 4000000 in
theorem number_c (T : List UInt8) (n : Nat) (hT : T.length ≤ 10000) (hn : n ≤ T.length) (w : World) :
    Calls Tryd.prog 50 #[.string (bs T), .int .i64 (n : Int)] w fun e W' => e = .returned (tokV (numT T n)) ∧ Below w.heap.size w W' := by
  have hd := nOf_le isD (T.drop n)
  rw [List.length_drop] at hd
  have hR := digits_c (bs (T.drop n)) (by rw [bs_size, List.length_drop]; omega)
  rw [bs_list] at hR
  obtain ⟨k, hk⟩ : ∃ k, k = nOf isD (T.drop n) := ⟨_, rfl⟩
  rw [← hk] at hd hR
  have hN : numT T n = if 18 < k ∨ k = 0 then ⟨10, T.take (n + k), []⟩ else ⟨3, T.take (n + k), short (if n = 0 then [] else [194, 175]) ((T.drop n).take k)⟩ := by rw [hk]; rfl
  obtain ⟨b, hb⟩ : ∃ b, b = n + k := ⟨_, rfl⟩
  have es : (n : Int) + (k : Int) = (b : Int) := by rw [hb]; simp
  rw [← hb] at hN
  obtain ⟨D, hD⟩ : ∃ D, D = (T.drop n).take k := ⟨_, rfl⟩
  have hDl : D.length = k := by rw [hD, List.length_take, List.length_drop]; omega
  obtain ⟨U, hU⟩ : ∃ U, U = bs (T.take b) := ⟨_, rfl⟩
  obtain ⟨R, hRR⟩ : ∃ R, R = bs (T.drop n) := ⟨_, rfl⟩
  obtain ⟨s, hs⟩ : ∃ s, s = bs T := ⟨_, rfl⟩
  have hx1 : s.extract n s.size = R := by rw [hs, hRR, ext_drop]
  have hx2 : s.extract n b = bs D := by rw [hs, hD, ext_mid, hb, List.drop_take, Nat.add_sub_cancel_left]
  have hx3 : s.extract 0 b = U := by rw [hs, hU, ext_take]
  have hsz : s.size = T.length := by rw [hs, bs_size]
  rw [← hD] at hN
  obtain ⟨G, hG0⟩ : ∃ G, G = short (if n = 0 then [] else [194, 175]) D := ⟨_, rfl⟩
  rw [← hG0] at hN
  have HG0 := Lib.hid hG0
  clear hG0
  rw [← hRR] at hR
  rw [hN, ← hs]
  have hn1 : n ≤ s.size := by omega
  have hb1 : b ≤ s.size := by omega
  have hnb : n ≤ b := by omega
  have hs1 : s.size ≤ 10000 := by omega
  have hk1 : k ≤ 10000 := by omega
  have hkd : ¬ (s.size < n) := by omega
  obtain ⟨W0, hW0⟩ : ∃ W0, W0 = w.alloc (.cells #[.int .i64 0, .string ⟨#[]⟩, .string ⟨#[]⟩] 31) := ⟨_, rfl⟩
  have r0 : Row W0 w.heap.size 31 #[.int .i64 0, .string ⟨#[]⟩, .string ⟨#[]⟩] := by rw [hW0]; exact Row.new _ _ _
  have hB0 : Below w.heap.size w W0 := by rw [hW0]; exact (Below.refl _ w).alloc (Nat.le_refl _) _
  have hB3 : ∀ x y z, Below w.heap.size w (((W0.setCell ⟨w.heap.size, 0, none⟩ x).setCell ⟨w.heap.size, 1, none⟩ y).setCell ⟨w.heap.size, 2, none⟩ z) := fun x y z => below_set3 hB0 _ _ _ (Nat.le_refl _) (Nat.le_refl _) (Nat.le_refl _) x y z
  obtain ⟨c0, c1, c2, f0, f1, f2⟩ := tok_cells r0
  have HR := Lib.hid hR
  have HU := Lib.hid hU
  have HR0 := Lib.hid r0
  have HB3 := Lib.hid hB3
  have HDL := Lib.hid hDl
  clear hR hU r0 hB0 hB3 hN hk hD hRR hs hsz hT hn hd hDl hb
  by_cases h0 : 18 < k ∨ k = 0
  · rw [if_pos h0]
    by_cases h18 : 18 < k
    · have t1 : decide ((18 : Int) < (k : Int)) = true := by simp; omega
      clear h0 h18
      go_enter Tryd.func50, Tryd.ntmps50
      go_wp2_with fail
      rw [← hW0]
      clear hW0
      refine (HR.out _).mono ?_
      rintro e w1 ⟨rfl, rfl⟩
      go_wp2_with fail
      exact tok_ret (j := 4) rfl rfl rfl (tok_set HR0.out _ _ _) (by simp [tokC, bs_nil, HU.out]) ⟨rfl, HB3.out _ _ _⟩
    · have t1 : decide ((18 : Int) < (k : Int)) = false := by simp; omega
      have t2 : ((k : Int) == 0) = true := by simp; omega
      clear h0 h18
      go_enter Tryd.func50, Tryd.ntmps50
      go_wp2_with fail
      rw [← hW0]
      clear hW0
      refine (HR.out _).mono ?_
      rintro e w1 ⟨rfl, rfl⟩
      go_wp2_with fail
      exact tok_ret (j := 4) rfl rfl rfl (tok_set HR0.out _ _ _) (by simp [tokC, bs_nil, HU.out]) ⟨rfl, HB3.out _ _ _⟩
  · rw [if_neg h0]
    have t1 : decide ((18 : Int) < (k : Int)) = false := by simp; omega
    have t2 : ((k : Int) == 0) = false := by simp; omega
    have hk18 : k ≤ 18 := by omega
    have hkp : 0 < k := by omega
    clear h0
    go_enter Tryd.func50, Tryd.ntmps50
    go_wp2_with fail
    rw [← hW0]
    clear hW0
    refine (HR.out _).mono ?_
    rintro e w1 ⟨rfl, rfl⟩
    go_wp2_with fail
    go_loopw [6] (fun d wr => ∃ j : Nat, j < k ∧ d = .string (bs (D.drop j)) ∧ wr = w1 ∧ ∀ i, i < j → D[i]? = some 48)
      (fun d _ => strLen d)
    case atStart => exact ⟨0, hkp, rfl, rfl, fun i h => by omega⟩
    case round =>
      obtain ⟨j, hj, rfl, rfl, hz⟩ := hrel
      have HZ := Lib.hid hz
      obtain ⟨c, hc⟩ : ∃ c, D[j]? = some c := ⟨_, List.getElem?_eq_getElem (by rw [HDL.out]; exact hj)⟩
      have hdr : D.drop j = c :: D.drop (j + 1) := by
        obtain ⟨hlt, he⟩ := List.getElem?_eq_some_iff.1 hc
        rw [List.drop_eq_getElem_cons hlt, he]
      obtain ⟨x, hx⟩ : ∃ x, x = bs (D.drop j) := ⟨_, rfl⟩
      have hxs : x.size = k - j := by rw [hx, bs_size, List.length_drop, HDL.out]
      have hxl : x.data.toList = c :: D.drop (j + 1) := by rw [hx, bs_list, hdr]
      have hx0 : ∀ h : 0 < x.size, x[0]'h = c := fun h => by
        have e := byte_at x 0 h
        rw [hxl] at e
        simpa using e.symm
      have HX1 : Hid (x.extract 1 x.size = bs (D.drop (j + 1))) := Lib.hid (by rw [hx, ext_drop, List.drop_drop])
      rw [← hx]
      have HXX := Lib.hid hx
      have hxp : 0 < x.size := by omega
      have hxk : x.size ≤ 18 := by omega
      have HXS := Lib.hid hxs
      have hG := HG0.out
      clear hz hx hxs
      by_cases h48 : c = 48
      · subst h48
        by_cases hl : k - j = 1
        · have e : D.drop (j + 1) = [] := List.drop_eq_nil_of_le (by rw [HDL.out]; omega)
          have HE : Hid (x = bs G) := Lib.hid (by rw [hG, short_zero HZ.out (hdr.trans (by rw [e])), HXX.out, hdr, e])
          have v1 : decide ((1 : Int) < (x.size : Int)) = false := by have := HXS.out; simp; omega
          have v2 : (x.toList == [48]) = true := by rw [ByteArray.toList_eq, hxl, e]; rfl
          clear hx0 hdr hc hl hxl e hG
          by_cases hn0 : n = 0
          · have u1 : ¬ 0 < n := by omega
            clear hn0
            go_wp2_with fail
            exact tok_ret (j := 4) rfl rfl rfl (tok_set HR0.out _ _ _) (by rw [HE.out, HU.out]; rfl) ⟨rfl, HB3.out _ _ _⟩
          · have u1 : 0 < n := by omega
            clear hn0
            go_wp2_with fail
            exact tok_ret (j := 4) rfl rfl rfl (tok_set HR0.out _ _ _) (by rw [HE.out, HU.out]; rfl) ⟨rfl, HB3.out _ _ _⟩
        · have v1 : decide ((1 : Int) < (x.size : Int)) = true := by have := HXS.out; simp; omega
          have v2 : (((x[0]'hxp).toNat : Int) == 48) = true := by rw [hx0 hxp]; rfl
          have HN : Hid (∀ i, i < j + 1 → D[i]? = some 48) := Lib.hid (fun i hi => by
            rcases Nat.lt_or_ge i j with h | h
            · exact HZ.out i h
            · obtain rfl : i = j := by omega
              exact hc)
          clear hx0 hdr hc hxl hG
          go_wp2_with fail
          go_roundw
          case rel => exact ⟨j + 1, by omega, by rw [HX1.out], trivial, HN.out⟩
          case measure =>
            rw [HX1.out]
            have := HXS.out
            simp [strLen, bs_size, HDL.out]
            omega
      · have HE : Hid (⟨#[194, 175]⟩ ++ x = bs (short [194, 175] D) ∧ x = bs (short [] D)) := Lib.hid (by
          rw [short_some HZ.out hc h48, short_some HZ.out hc h48, HXX.out]
          exact ⟨bs_app [194, 175] _, rfl⟩)
        have v2 : (((x[0]'hxp).toNat : Int) == 48) = false := by
          rw [hx0 hxp]
          simp only [beq_eq_false_iff_ne, ne_eq]
          intro e
          exact h48 (UInt8.toNat_inj.1 (by show c.toNat = 48; omega))
        have v3 : (x.toList == [48]) = false := by
          rw [ByteArray.toList_eq, hxl]
          simp
          exact fun e => absurd e h48
        clear hx0 hdr hc h48 hxl
        by_cases hl : k - j = 1
        · have v1 : decide ((1 : Int) < (x.size : Int)) = false := by have := HXS.out; simp; omega
          by_cases hn0 : n = 0
          · have u1 : ¬ 0 < n := by omega
            rw [if_pos hn0] at hG
            have HG := Lib.hid hG
            clear hn0 hG hl
            go_wp2_with fail
            exact tok_ret (j := 4) rfl rfl rfl (tok_set HR0.out _ _ _) (by rw [HG.out, HE.out.2, HU.out]; rfl) ⟨rfl, HB3.out _ _ _⟩
          · have u1 : 0 < n := by omega
            rw [if_neg hn0] at hG
            have HG := Lib.hid hG
            clear hn0 hG hl
            go_wp2_with fail
            exact tok_ret (j := 4) rfl rfl rfl (tok_set HR0.out _ _ _) (by rw [HG.out, HE.out.1, HU.out]; rfl) ⟨rfl, HB3.out _ _ _⟩
        · have v1 : decide ((1 : Int) < (x.size : Int)) = true := by have := HXS.out; simp; omega
          by_cases hn0 : n = 0
          · have u1 : ¬ 0 < n := by omega
            rw [if_pos hn0] at hG
            have HG := Lib.hid hG
            clear hn0 hG hl
            go_wp2_with fail
            exact tok_ret (j := 4) rfl rfl rfl (tok_set HR0.out _ _ _) (by rw [HG.out, HE.out.2, HU.out]; rfl) ⟨rfl, HB3.out _ _ _⟩
          · have u1 : 0 < n := by omega
            rw [if_neg hn0] at hG
            have HG := Lib.hid hG
            clear hn0 hG hl
            go_wp2_with fail
            exact tok_ret (j := 4) rfl rfl rfl (tok_set HR0.out _ _ _) (by rw [HG.out, HE.out.1, HU.out]; rfl) ⟨rfl, HB3.out _ _ _⟩
end Rs
end Go.Proofs.YthbiflmmlcmncaaDoor

/- The plain lexer: which rule tells a text's first token. Nothing of the program stands here. -/
namespace Go.Proofs.YthbiflmmlcmncaaDoor
namespace Rs
open Go Go.RowKit

theorem skip_tk {t : Tk} {l : List Tk} (h : t = noTk) : firstTk (t :: l) = firstTk l := by
  conv => lhs; unfold firstTk
  rw [if_pos h]
theorem hit_tk {t : Tk} {l : List Tk} (h : t ≠ noTk) : firstTk (t :: l) = t := by
  conv => lhs; unfold firstTk
  rw [if_neg h]
theorem ne_tk {t : Tk} (h : t.kind ≠ 0) : t ≠ noTk := fun e => h (by rw [e]; rfl)
section
variable (st : List UInt8 → Nat) {T : List UInt8}
theorem first_B (h : ¬ nOf isB T = 0) : tk1 st T = ⟨1, T.take (nOf isB T), []⟩ := by
  have e : rB T = ⟨1, T.take (nOf isB T), []⟩ := by unfold rB; rw [if_neg h]
  unfold tk1
  rw [hit_tk (by rw [e]; exact ne_tk (by simp)), e]
theorem past_B (h : nOf isB T = 0) : tk1 st T = firstTk [rR T, rQ T, rN T, rW T, rS T, rO st T] := by
  unfold tk1
  exact skip_tk (by unfold rB; rw [if_pos h])
theorem first_R (h : nOf isB T = 0) (h6 : clsT T = 6) : tk1 st T = ⟨2, T, glT T⟩ := by
  have e : rR T = ⟨2, T, glT T⟩ := by unfold rR; rw [if_pos h6]
  rw [past_B st h, hit_tk (by rw [e]; exact ne_tk (by simp)), e]
theorem past_R (h : nOf isB T = 0) (h6 : ¬ clsT T = 6) : tk1 st T = firstTk [rQ T, rN T, rW T, rS T, rO st T] := by
  rw [past_B st h]
  exact skip_tk (by unfold rR; rw [if_neg h6])
theorem first_Q0 (h : nOf isB T = 0) (h6 : ¬ clsT T = 6) (hq : T.head? = some 39) (h0 : qN (qs (T.drop 1)) = 0) : tk1 st T = ⟨10, T, []⟩ := by
  have e : rQ T = ⟨10, T, []⟩ := by
    unfold rQ
    rw [if_pos hq, ← List.drop_one]
    cases hh : qs (T.drop 1) with
    | none => rfl
    | some n => rw [hh] at h0; simp [qN] at h0
  rw [past_R st h h6, hit_tk (by rw [e]; exact ne_tk (by simp)), e]
theorem first_Q (h : nOf isB T = 0) (h6 : ¬ clsT T = 6) (hq : T.head? = some 39) (h0 : ¬ qN (qs (T.drop 1)) = 0) : tk1 st T = ⟨4, T.take (qN (qs (T.drop 1))), []⟩ := by
  have e : rQ T = ⟨4, T.take (qN (qs (T.drop 1))), []⟩ := by
    unfold rQ
    rw [if_pos hq, ← List.drop_one]
    cases hh : qs (T.drop 1) with
    | none => rw [hh] at h0; exact absurd rfl h0
    | some n => rfl
  rw [past_R st h h6, hit_tk (by rw [e]; exact ne_tk (by simp)), e]
theorem past_Q (h : nOf isB T = 0) (h6 : ¬ clsT T = 6) (hq : ¬ T.head? = some 39) : tk1 st T = firstTk [rN T, rW T, rS T, rO st T] := by
  rw [past_R st h h6]
  exact skip_tk (by unfold rQ; rw [if_neg hq])
theorem gl_minus : ∀ k, k < 38 → cl k = 5 → gl k = [194, 175] := by decide +kernel
theorem rN_num {n : Nat} (hz : mz T = n) (hg : mg T = if n = 0 then [] else [194, 175]) (h0 : ¬ n + nOf isD (T.drop n) = 0) : rN T = numT T n := by
  unfold rN numT
  rw [hz, hg, if_neg h0]
  by_cases c : nOf isD (T.drop n) = 0 ∨ 18 < nOf isD (T.drop n)
  · rw [if_pos c, if_pos c.symm]
  · rw [if_neg c, if_neg (c := 18 < nOf isD (T.drop n) ∨ nOf isD (T.drop n) = 0) (fun e => c e.symm)]
theorem numT_ne (n : Nat) : numT T n ≠ noTk := by
  unfold numT
  split
  · exact ne_tk (by simp)
  · exact ne_tk (by simp)
theorem first_M (h : nOf isB T = 0) (h6 : ¬ clsT T = 6) (hq : ¬ T.head? = some 39) (h5 : clsT T = 5) : tk1 st T = numT T (fsz T) := by
  have hf : fsz T ≠ 0 := fsz_ne (by omega)
  have e : rN T = numT T (fsz T) := by
    refine rN_num (by unfold mz; rw [if_pos h5]) ?_ (by omega)
    unfold mg
    rw [if_pos h5, if_neg hf]
    unfold clsT at h5
    unfold glT
    cases hk : firstK T with
    | none => rw [hk] at h5; cases h5
    | some k => rw [hk] at h5; exact gl_minus k (firstK_some.1 hk).1 h5
  rw [past_Q st h h6 hq, hit_tk (by rw [e]; exact numT_ne _), e]
theorem first_D (h : nOf isB T = 0) (h6 : ¬ clsT T = 6) (hq : ¬ T.head? = some 39) (h5 : ¬ clsT T = 5) (hd : ¬ nOf isD T = 0) : tk1 st T = numT T 0 := by
  have e : rN T = numT T 0 := rN_num (by unfold mz; rw [if_neg h5]) (by unfold mg; rw [if_neg h5]; rfl) (by rw [List.drop_zero]; omega)
  rw [past_Q st h h6 hq, hit_tk (by rw [e]; exact numT_ne _), e]
theorem past_N (h : nOf isB T = 0) (h6 : ¬ clsT T = 6) (hq : ¬ T.head? = some 39) (h5 : ¬ clsT T = 5) (hd : nOf isD T = 0) : tk1 st T = firstTk [rW T, rS T, rO st T] := by
  rw [past_Q st h h6 hq]
  exact skip_tk (by unfold rN; rw [show mz T = 0 by unfold mz; rw [if_neg h5], if_pos (by rw [List.drop_zero]; omega)])
theorem first_W (h : nOf isB T = 0) (h6 : ¬ clsT T = 6) (hq : ¬ T.head? = some 39) (h5 : ¬ clsT T = 5) (hd : nOf isD T = 0) (hw : ¬ wordN T = 0) :
    tk1 st T = if 20 < wordN T then ⟨10, T.take (wordN T), []⟩ else ⟨5, T.take (wordN T), []⟩ := by
  have hl : ¬ nOf isL T = 0 := fun e => hw (by unfold wordN; rw [if_pos e])
  have e : rW T = if 20 < wordN T then ⟨10, T.take (wordN T), []⟩ else ⟨5, T.take (wordN T), []⟩ := by
    unfold rW wordN
    rw [if_neg hl, if_neg hl]
  rw [past_N st h h6 hq h5 hd, hit_tk (by rw [e]; split <;> exact ne_tk (by simp)), e]
theorem past_W (h : nOf isB T = 0) (h6 : ¬ clsT T = 6) (hq : ¬ T.head? = some 39) (h5 : ¬ clsT T = 5) (hd : nOf isD T = 0) (hw : wordN T = 0) : tk1 st T = firstTk [rS T, rO st T] := by
  have hl : nOf isL T = 0 := by
    unfold wordN at hw
    split at hw
    · assumption
    · rename_i hn
      refine Classical.byContradiction fun e => ?_
      refine e (nOf_zero.2 fun b hb => ?_)
      have := nOf_zero.1 hw b hb
      unfold isW at this
      exact (Bool.or_eq_false_iff.1 this).1
  rw [past_N st h h6 hq h5 hd]
  exact skip_tk (by unfold rW; rw [if_pos hl])
theorem cl_pos : ∀ k, k < 38 → cl k ≠ 0 := by decide +kernel
theorem first_S (h : nOf isB T = 0) (h6 : ¬ clsT T = 6) (hq : ¬ T.head? = some 39) (h5 : ¬ clsT T = 5) (hd : nOf isD T = 0) (hw : wordN T = 0) (hf : ¬ fsz T = 0) :
    tk1 st T = ⟨kindC (clsT T), T.take (fsz T), glT T⟩ ∧ ¬ clsT T = 0 ∧ clsT T ≤ 4 := by
  obtain ⟨k, hk⟩ : ∃ k, firstK T = some k := by
    cases hh : firstK T with
    | none => exact absurd (cls_none hh).2.2 hf
    | some k => exact ⟨k, rfl⟩
  have hc : clsT T = cl k := by unfold clsT; rw [hk]
  have h0 := cl_pos k (firstK_some.1 hk).1
  have hle := cl_le k
  have hc0 : ¬ clsT T = 0 := by omega
  have hc4 : clsT T ≤ 4 := by omega
  have hkd : ¬ kindC (clsT T) = 0 := by
    rcases (show clsT T = 1 ∨ clsT T = 2 ∨ clsT T = 3 ∨ clsT T = 4 by omega) with e | e | e | e <;> rw [e] <;> decide
  have e : rS T = ⟨kindC (clsT T), T.take (fsz T), glT T⟩ := by unfold rS; rw [if_neg hkd]
  refine ⟨?_, hc0, hc4⟩
  rw [past_W st h h6 hq h5 hd hw, hit_tk (by rw [e]; exact ne_tk hkd), e]
theorem first_O (h : nOf isB T = 0) (h6 : ¬ clsT T = 6) (hq : ¬ T.head? = some 39) (h5 : ¬ clsT T = 5) (hd : nOf isD T = 0) (hw : wordN T = 0) (hf : fsz T = 0) : tk1 st T = ⟨10, T.take (st T), []⟩ := by
  have e : rS T = noTk := by
    unfold rS
    rw [if_pos]
    by_cases hc : clsT T = 0
    · rw [hc]; rfl
    · exact absurd hf (fsz_ne hc)
  rw [past_W st h h6 hq h5 hd hw, skip_tk e, hit_tk (ne_tk (by simp [rO]))]
  rfl
end
end Rs
end Go.Proofs.YthbiflmmlcmncaaDoor
