/- Literal, of two texts. -/
import Derived.Test.YteclpoooggcdoaaGreatDoorArG
import Derived.Test.YteclpoooggcdoaaGreatDoorArOne
namespace Go.Proofs.YteclpoooggcdoaaGreatDoor.Ar
open Go Go.RowKit Go.Shelf
attribute [local go_sem] Oper.semAt_some

set_option maxRecDepth 100000 in
set_option maxHeartbeats 1000000 in
/-- Right(a). -/
theorem eright_c (a : Ary) (s : Value) (w : World) (hs : KL w s a.n) (hi : InL a.n) : Calls Tryz.prog 25 #[aryV a s] w fun e w' => e = .returned (.bool (rightA a)) ∧ Below w.heap.size w w' := by
  obtain ⟨w1, hw1⟩ : ∃ w1, w1 = w.alloc (.cells #[.bool a.list, .bool a.runes, s] 24) := ⟨_, rfl⟩
  have hb1 : Below w.heap.size w w1 := by rw [hw1]; exact (Below.refl _ _).alloc (Nat.le_refl _) _
  have hs1 : w1.heap.size = w.heap.size + 1 := by rw [hw1]; simp
  have hrt := right_1 a s w1 (hs.below hb1) hi
  rw [hs1, hw1] at hrt
  have HRT := Lib.hid hrt
  obtain ⟨r, hr⟩ : ∃ r, r = rightA a := ⟨_, rfl⟩
  rw [← hr] at HRT ⊢
  obtain ⟨L, R, N⟩ := a
  dsimp only [aryV] at *
  obtain ⟨sa, sc, hsf, -, -⟩ := hs.form
  obtain ⟨n, hn⟩ : ∃ n, n = N.length := ⟨_, rfl⟩
  rw [← hn] at hsf
  subst hsf
  have HW1 := Lib.hid hw1
  have HB1 := Lib.hid hb1
  clear hs hn hw1 hb1 hs1 hrt hi hr
  go_enter Tryz.func25, Tryz.ntmps25
  go_wp2_with (go_at_call 41; refine HRT.out.mono ?_; rintro e w2 ⟨rfl, hb⟩; rw [← HW1.out] at hb; have HB2 := Lib.hid hb; clear hb)
  go_ret
  exact ⟨rfl, HB1.out.trans (HB2.out.mono (by omega))⟩
end Go.Proofs.YteclpoooggcdoaaGreatDoor.Ar
