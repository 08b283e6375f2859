/- The kinds of runes. -/
import Derived.Test.YtdgffpcbpilkcaaGreatDoorLxRun
import Derived.Test.YtdgffpcbpilkcaaGreatDoorLxMath
namespace Go.Proofs.YtdgffpcbpilkcaaGreatDoor
open Go Go.RowKit Go.Shelf
attribute [local go_sem] Oper.semAt_some

/-- A kind's word on a rune. -/
def kd (p : UInt8 → Bool) (c : Nat) : Bool := decide (c < 128) && p c.toUInt8
theorem kdB (c : Nat) : kd isB c = ((c : Int) == 32 || (c : Int) == 9) := by
  by_cases h : c < 128
  · exact (by decide +kernel : ∀ c, c < 128 → kd isB c = ((c : Int) == 32 || (c : Int) == 9)) c h
  · unfold kd; simp [h]; omega
theorem kdD (c : Nat) : kd isD c = (decide ((48 : Int) ≤ c) && decide ((c : Int) ≤ 57)) := by
  by_cases h : c < 128
  · exact (by decide +kernel : ∀ c, c < 128 → kd isD c = (decide ((48 : Int) ≤ c) && decide ((c : Int) ≤ 57))) c h
  · unfold kd; simp [h]; omega
theorem kdL (c : Nat) : kd isL c = (decide ((97 : Int) ≤ c) && decide ((c : Int) ≤ 122) || decide ((65 : Int) ≤ c) && decide ((c : Int) ≤ 90) || (c : Int) == 95) := by
  by_cases h : c < 128
  · exact (by decide +kernel : ∀ c, c < 128 → kd isL c = (decide ((97 : Int) ≤ c) && decide ((c : Int) ≤ 122) || decide ((65 : Int) ≤ c) && decide ((c : Int) ≤ 90) || (c : Int) == 95)) c h
  · unfold kd; simp [h]; omega
theorem kdW (c : Nat) : kd isW c = (kd isL c || kd isD c) := by
  unfold kd isW
  cases decide (c < 128) <;> rfl

set_option maxHeartbeats 1000000 in
theorem isBlank_c (c : Nat) (W : World) :
    Calls Tryz.prog 101 #[.int .i32 (c : Int)] W fun e W' => e = .returned (.bool (kd isB c)) ∧ W' = W := by
  have hk := Lib.hid (kdB c)
  go_enter Tryz.func101, Tryz.ntmps101
  go_wp2
  all_goals
    go_ret
    refine ⟨congrArg (fun b => Ending.returned (.bool b)) ?_, rfl⟩
    rw [hk.out]
    all_goals (rw [Bool.eq_iff_iff]; first | (simp; done) | (simp; omega))
set_option maxHeartbeats 1000000 in
theorem isDigit_c (c : Nat) (W : World) (hc : c ≤ 2147483647) :
    Calls Tryz.prog 107 #[.int .i32 (c : Int)] W fun e W' => e = .returned (.bool (kd isD c)) ∧ W' = W := by
  have hk := Lib.hid (kdD c)
  go_enter Tryz.func107, Tryz.ntmps107
  go_wp2
  all_goals
    go_ret
    refine ⟨congrArg (fun b => Ending.returned (.bool b)) ?_, rfl⟩
    rw [hk.out]
    all_goals (rw [Bool.eq_iff_iff]; first | (simp; done) | (simp; omega))
set_option maxHeartbeats 1000000 in
theorem isLetter_c (c : Nat) (W : World) (hc : c ≤ 2147483647) :
    Calls Tryz.prog 109 #[.int .i32 (c : Int)] W fun e W' => e = .returned (.bool (kd isL c)) ∧ W' = W := by
  have hk := Lib.hid (kdL c)
  go_enter Tryz.func109, Tryz.ntmps109
  go_wp2
  all_goals
    go_ret
    refine ⟨congrArg (fun b => Ending.returned (.bool b)) ?_, rfl⟩
    rw [hk.out]
    all_goals (rw [Bool.eq_iff_iff]; first | (simp; done) | (simp; omega))
set_option maxHeartbeats 1000000 in
theorem isNameRune_c (c : Nat) (W : World) (hc : c ≤ 2147483647) :
    Calls Tryz.prog 110 #[.int .i32 (c : Int)] W fun e W' => e = .returned (.bool (kd isW c)) ∧ W' = W := by
  have hL := Lib.hid (isLetter_c c W hc)
  have hD := Lib.hid (isDigit_c c W hc)
  have hk := Lib.hid (kdW c)
  obtain ⟨a, ha⟩ : ∃ a, a = kd isL c := ⟨_, rfl⟩
  obtain ⟨b, hb⟩ : ∃ b, b = kd isD c := ⟨_, rfl⟩
  rw [← ha] at hL hk
  rw [← hb] at hD hk
  clear ha hb
  cases a
  all_goals
    go_enter Tryz.func110, Tryz.ntmps110
    go_wp2_with (first
      | (go_at_call 109; refine hL.out.mono ?_; rintro e w1 ⟨rfl, rfl⟩)
      | (go_at_call 107; refine hD.out.mono ?_; rintro e w2 ⟨rfl, rfl⟩))
    go_ret
    refine ⟨?_, rfl⟩
    rw [hk.out]
    simp
theorem no_hi (p : UInt8 → Bool) (h : ∀ n, n < 256 → 128 ≤ n → p n.toUInt8 = false) (b : UInt8) (hb : 128 ≤ b.toNat) : p b = false := by
  have := h b.toNat b.toNat_lt hb
  simpa using this
theorem kind_B : Kind 101 isB := kind_of _ _ (enters_of Tryz.func101 (by kernel_rfl) rfl) (no_hi isB (by decide +kernel)) (fun c W _ => isBlank_c c W)
theorem kind_D : Kind 107 isD := kind_of _ _ (enters_of Tryz.func107 (by kernel_rfl) rfl) (no_hi isD (by decide +kernel)) (fun c W hc => isDigit_c c W hc)
theorem kind_L : Kind 109 isL := kind_of _ _ (enters_of Tryz.func109 (by kernel_rfl) rfl) (no_hi isL (by decide +kernel)) (fun c W hc => isLetter_c c W hc)
theorem kind_W : Kind 110 isW := kind_of _ _ (enters_of Tryz.func110 (by kernel_rfl) rfl) (no_hi isW (by decide +kernel)) (fun c W hc => isNameRune_c c W hc)
end Go.Proofs.YtdgffpcbpilkcaaGreatDoor
