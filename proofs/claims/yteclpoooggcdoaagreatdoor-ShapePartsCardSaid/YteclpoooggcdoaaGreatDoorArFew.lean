/- Few, short: the first items, the first bytes. -/
import Derived.Test.YteclpoooggcdoaaGreatDoorArSh
import Derived.StillTailTactics
namespace Go.Proofs.YteclpoooggcdoaaGreatDoor.Ar
open Go Go.RowKit Go.Shelf
attribute [local go_sem] Oper.semAt_some

theorem KL.take {W : World} {a : Option Addr} {n c : Nat} {A : List Int} (h : KL W (.slice a n c) A) (m : Nat) (hm : m ≤ n) : KL W (.slice a m c) (A.take m) := by
  obtain ⟨a0, c0, e, h1, h2⟩ := h.form
  injection e with e1 e2 e3
  subst e1
  subst e3
  have hl : (A.take m).length = m := by rw [List.length_take]; omega
  refine ⟨⟨a, c, by rw [hl], by rw [hl]; omega, h2⟩, fun h0 => ?_⟩
  rw [hl] at h0
  obtain ⟨g, o, c1, hv, hg, hc⟩ := h.cells (by omega)
  injection hv with e3 e4 e5
  refine ⟨g, o, c, by rw [e3, hl], hg, fun j x hj => ?_⟩
  have hjm : j < m := by
    have := (List.getElem?_eq_some_iff.1 hj).1
    rw [hl] at this
    exact this
  rw [List.getElem?_take, if_pos hjm] at hj
  exact hc j x hj
/-- The first two hundred and two items. -/
def fewA (a : Ary) : Ary := ⟨a.list, a.runes, a.n.take 202⟩
theorem fewA_len (a : Ary) : (fewA a).n.length ≤ 202 := by
  show (a.n.take 202).length ≤ 202
  rw [List.length_take]; omega
theorem fewA_in {a : Ary} (h : InL a.n) : InL (fewA a).n := fun x hx => h x (List.mem_of_mem_take hx)
set_option maxRecDepth 100000 in
set_option maxHeartbeats 4000000 in
theorem few_c (a : Ary) (s : Value) (w : World) (hs : KL w s a.n) : Calls Tryz.prog 12 #[aryV a s] w fun e w' => ∃ t, e = .returned (aryV (fewA a) t) ∧ KL w' t (fewA a).n ∧ Below w.heap.size w w' := by
  obtain ⟨w2, hw2⟩ : ∃ w2, w2 = (w.alloc (.cells #[.bool a.list, .bool a.runes, s] 24)).alloc (.cells #[.bool false, .bool false, .slice none 0 0] 24) := ⟨_, rfl⟩
  have hb2 : Below w.heap.size w w2 := by rw [hw2]; exact ((Below.refl _ w).alloc (Nat.le_refl _) _).alloc (by simp) _
  have hs2 : w2.heap.size = w.heap.size + 2 := by rw [hw2]; simp
  have r0 : Row w2 w.heap.size 24 #[.bool a.list, .bool a.runes, s] := by rw [hw2]; exact (Row.new _ _ _).alloc _
  have r1 : Row w2 (w.heap.size + 1) 24 #[.bool false, .bool false, .slice none 0 0] := by rw [hw2]; exact Row.at _ _ _ _ (by simp)
  obtain ⟨L, R, N⟩ := a
  obtain ⟨sa, sc, rfl, hc1, hc2⟩ := hs.form
  unfold maxLen at hc2
  have hk := (hs.take (min N.length 202) (Nat.min_le_left _ _)).below hb2
  have htk : N.take (min N.length 202) = N.take 202 := by rw [List.take_eq_take_iff]; omega
  dsimp only [] at hc1
  obtain ⟨n, hn⟩ : ∃ n, n = N.length := ⟨_, rfl⟩
  obtain ⟨m, hm⟩ : ∃ m, m = min n 202 := ⟨_, rfl⟩
  have hmin : min (n : Int) 202 = (m : Int) := by omega
  have hmn : m ≤ n := by omega
  have hmc : m ≤ sc := by omega
  rw [htk] at hk
  rw [← hn] at hk hc1 hw2 r0
  rw [← hm] at hk
  dsimp only [aryV, fewA] at *
  rw [← hn]
  have HK := Lib.hid hk
  have HB2 := Lib.hid hb2
  have HR1 := Lib.hid r1
  obtain ⟨c0, c1, c2, -, -, -⟩ := row3 r0
  have HM := Lib.hid hm
  have HS2 := Lib.hid hs2
  rw [hw2] at c0 c1 c2
  have HW2 := Lib.hid hw2
  have HN := Lib.hid hn
  clear hs hk hb2 hs2 r0 r1 hm htk hw2 hn
  go_enter Tryz.func12, Tryz.ntmps12
  go_wp2_with fail
  rw [← HW2.out] at c0 c1 c2 ⊢
  go_still_tail 12, (by kernel_rfl)
  change wpList _ _ _ _ _ w2.drew
  obtain ⟨wd, hwd⟩ : ∃ wd, wd = w2.drew := ⟨_, rfl⟩
  have HB3 : Hid (Below w.heap.size w wd) := Lib.hid (by rw [hwd]; exact HB2.out.drew)
  have HK3 : Hid (KL wd (.slice sa m sc) (List.take 202 N)) := Lib.hid (by rw [hwd]; exact HK.out.below (Below.refl _ _).drew)
  have HR3 : Hid (Row wd (w.heap.size + 1) 24 #[.bool false, .bool false, .slice none 0 0]) := Lib.hid (by rw [hwd]; exact HR1.out.drew)
  rw [← hwd]
  obtain ⟨m0, m1, m2, f0, f1, f2⟩ := row3 HR3.out
  clear hwd c0 c1 c2
  go_wp2
  obtain ⟨v0, v1, v2, -, -, -⟩ := row3 (row_set3 HR3.out (.bool L) (.bool R) (.slice sa m sc))
  exact bodyPost_ret (v := .agg #[.bool L, .bool R, .slice sa m sc]) (by simp [results, Tryz.f12, go_sem, v0, v1, v2]) rfl ⟨_, rfl, kl_set3 HK3.out HR3.out _ _ _, ((HB3.out.setCell (p := ⟨w.heap.size + 1, 0, none⟩) (Nat.le_succ _) _).setCell (p := ⟨w.heap.size + 1, 1, none⟩) (Nat.le_succ _) _).setCell (p := ⟨w.heap.size + 1, 2, none⟩) (Nat.le_succ _) _⟩
end Go.Proofs.YteclpoooggcdoaaGreatDoor.Ar
