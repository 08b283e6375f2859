/- The plain rune (by wip/gen/rs_base.py). -/
import Derived.Test.YtdgffpcbpilkcaaGreatDoorRsStep2
import Derived.Test.YtdgffpcbpilkcaaGreatDoorRsStep3
import Derived.Test.YtdgffpcbpilkcaaGreatDoorRsStep4
import Derived.Lib.Strings
namespace Go.Proofs.YtdgffpcbpilkcaaGreatDoor
namespace Rs.Rp
open Go Go.RowKit

/-- Step(s): HOW MANY BYTES THE RUNE HAS. -/
theorem rstep (w : World) (s : ByteArray) (hm : s.size ≤ 10000) :
    Calls Tryz.prog 57 #[.string s] w fun e W' => e = .returned (.int .i64 (stepOf s.data.toList : Int)) ∧ w = W' := by
  by_cases h0 : 0 < s.size
  · have hl : s.data.toList.length = s.size := (Lib.size_eq s).symm
    have hst : stepOf s.data.toList = if s.size < nOf s[0].toNat then 1 else match foldK s.data.toList (valOf s[0].toNat) (nOf s[0].toNat - 1) with
        | none => 1
        | some v => if 1 < nOf s[0].toNat ∧ badRune (leastOf s[0].toNat) v = true then 1 else nOf s[0].toNat := by
      unfold stepOf
      rw [byte_at s 0 h0, hl]
      rfl
    have hlt := s[0].toNat_lt
    by_cases c2 : 194 ≤ s[0].toNat ∧ s[0].toNat < 224
    · refine rstep_2 w s h0 hm c2.1 c2.2 _ ?_
      rw [hst]
      simp only [nOf, valOf, leastOf, if_pos c2]
      simp
      rfl
    by_cases c3 : 224 ≤ s[0].toNat ∧ s[0].toNat < 240
    · refine rstep_3 w s h0 hm c3.1 c3.2 _ ?_
      rw [hst]
      simp only [nOf, valOf, leastOf, if_neg c2, if_pos c3]
      simp
      rfl
    by_cases c4 : 240 ≤ s[0].toNat ∧ s[0].toNat < 245
    · refine rstep_4 w s h0 hm c4.1 c4.2 _ ?_
      rw [hst]
      simp only [nOf, valOf, leastOf, if_neg c2, if_neg c3, if_pos c4]
      simp
      rfl
    · have h1 : stepOf s.data.toList = 1 := by
        rw [hst]
        simp only [nOf, valOf, leastOf, if_neg c2, if_neg c3, if_neg c4]
        simp [foldK]
      rw [h1]
      by_cases hx : s[0].toNat < 194
      · exact rstep_low w s h0 hm hx
      · exact rstep_high w s h0 hm (by omega)
  · have e0 : s = ⟨#[]⟩ := by
      cases s with
      | mk d => exact congrArg ByteArray.mk (Array.size_eq_zero_iff.1 (by have : d.size = (ByteArray.mk d).size := rfl; omega))
    subst e0
    exact rstep_nil w
end Rs.Rp
end Go.Proofs.YtdgffpcbpilkcaaGreatDoor
