/- The plain answers on nodes: is one another; is its form right. -/
import Derived.Test.YtbegplfijjbpcaaDoorNoMem
namespace Go.Proofs.YtbegplfijjbpcaaDoor.No
open Go Go.RowKit Go.Shelf
attribute [local go_sem] Oper.semAt_some

theorem nd_eq (a b : Nd) : decide (a = b) = (decide (a.kind = b.kind) && decide (a.text = b.text) && decide (a.kids = b.kids)) := by
  cases a; cases b
  simp only [Nd.mk.injEq, Bool.decide_and, Bool.and_assoc]

set_option maxHeartbeats 4000000 in
set_option maxRecDepth 100000 in
/-- One(a, b). -/
theorem one_c (a b : Nd) (ka kb : Value) (w : World) (hA : KL w ka a.kids) (hB : KL w kb b.kids) :
    Calls Tryd.prog 38 #[.agg #[.int .i64 a.kind, .string (bs a.text), ka], .agg #[.int .i64 b.kind, .string (bs b.text), kb]] w fun e W' => e = .returned (.bool (decide (a = b))) ∧ Below w.heap.size w W' := by
  obtain ⟨W0, hW0⟩ : ∃ W0, W0 = (w.alloc (.cells #[.int .i64 a.kind, .string (bs a.text), ka] 42)).alloc (.cells #[.int .i64 b.kind, .string (bs b.text), kb] 42) := ⟨_, rfl⟩
  have hb0 : Below w.heap.size w W0 := by rw [hW0]; exact ((Below.refl _ w).alloc (Nat.le_refl _) _).alloc (by simp) _
  have HI := Lib.hid (ints_c ka kb a.kids b.kids W0 (hA.below hb0) (hB.below hb0))
  have ht := bs_eq a.text b.text
  obtain ⟨a1, c1, rfl, _⟩ := hA.form
  obtain ⟨b1, d1, rfl, _⟩ := hB.form
  rw [nd_eq]
  obtain ⟨dt, hdt⟩ : ∃ d, d = decide (a.text = b.text) := ⟨_, rfl⟩
  obtain ⟨dk, hdk⟩ : ∃ d, d = decide (a.kids = b.kids) := ⟨_, rfl⟩
  rw [← hdt] at ht ⊢
  rw [← hdk] at HI ⊢
  obtain ⟨la, hla⟩ : ∃ n, n = a.kids.length := ⟨_, rfl⟩
  obtain ⟨lb, hlb⟩ : ∃ n, n = b.kids.length := ⟨_, rfl⟩
  rw [← hla] at HI hW0 ⊢
  rw [← hlb] at HI hW0 ⊢
  obtain ⟨s, hs⟩ : ∃ s, s = bs a.text := ⟨_, rfl⟩
  obtain ⟨u, hu⟩ : ∃ s, s = bs b.text := ⟨_, rfl⟩
  rw [← hs, ← hu] at ht hW0 ⊢
  obtain ⟨x, hx⟩ : ∃ k, k = a.kind := ⟨_, rfl⟩
  obtain ⟨y, hy⟩ : ∃ k, k = b.kind := ⟨_, rfl⟩
  rw [← hx, ← hy] at hW0 ⊢
  have HB0 := Lib.hid hb0
  have hBB : Below w.heap.size w ((w.alloc (.cells #[.int .i64 x, .string s, .slice a1 la c1] 42)).alloc (.cells #[.int .i64 y, .string u, .slice b1 lb d1] 42)) := ((Below.refl _ w).alloc (Nat.le_refl _) _).alloc (by simp) _
  have HBB := Lib.hid hBB
  clear hA hB hb0 hdt hdk hla hlb hs hu hx hy hBB
  by_cases hk : x = y
  · subst hk
    cases dt with
    | true =>
      go_enter Tryd.func38, Tryd.ntmps38
      go_wp2_with fail
      rw [← hW0]
      refine HI.out.mono ?_
      rintro e w1 ⟨rfl, hb1⟩
      have HB1 := Lib.hid (HB0.out.trans (hb1.mono HB0.out.size))
      clear hb1
      go_wp2_with fail
      go_ret
      exact ⟨by simp, HB1.out⟩
    | false =>
      go_enter Tryd.func38, Tryd.ntmps38
      go_wp2_with fail
      go_ret
      exact ⟨by simp, HBB.out⟩
  · have h1 : (x == y) = false := by simpa using hk
    go_enter Tryd.func38, Tryd.ntmps38
    go_wp2_with fail
    go_ret
    exact ⟨by simp [hk], HBB.out⟩

set_option maxHeartbeats 8000000 in
set_option maxRecDepth 100000 in
/-- form(x). -/
theorem form_c (a : Nd) (ka : Value) (w : World) (hA : KL w ka a.kids) :
    Calls Tryd.prog 29 #[.agg #[.int .i64 a.kind, .string (bs a.text), ka]] w fun e W' => e = .returned (.bool (formB a)) ∧ Below w.heap.size w W' := by
  have ht : (bs a.text).toList.isEmpty = decide (a.text = []) := by
    have := bs_eq a.text []
    rw [ByteArray.toList_eq, bs_list]
    cases a.text <;> simp
  have ht2 : ((bs a.text).toList == []) = decide (a.text = []) := by
    rw [ByteArray.toList_eq, bs_list]
    cases a.text <;> simp
  obtain ⟨a1, c1, rfl, hl1, hl2⟩ := hA.form
  unfold maxLen at hl2
  have hF : formB a = formB ⟨a.kind, a.text, a.kids⟩ := rfl
  unfold formB
  obtain ⟨n, hn⟩ : ∃ n, n = a.kids.length := ⟨_, rfl⟩
  rw [← hn] at hl1 ⊢
  obtain ⟨d, hd⟩ : ∃ d, d = decide (a.text = []) := ⟨_, rfl⟩
  rw [← hd] at ht ht2 ⊢
  obtain ⟨s, hs⟩ : ∃ s, s = bs a.text := ⟨_, rfl⟩
  rw [← hs] at ht ht2 ⊢
  obtain ⟨k, hk⟩ : ∃ k, k = a.kind := ⟨_, rfl⟩
  rw [← hk]
  have hB : Below w.heap.size w (w.alloc (.cells #[.int .i64 k, .string s, .slice a1 n c1] 42)) := (Below.refl _ w).alloc (Nat.le_refl _) _
  have HB := Lib.hid hB
  clear hA hF hn hd hs hk hB
  have hk14 : k = 1 ∨ k = 2 ∨ k = 3 ∨ k = 4 ∨ k = 5 ∨ k = 6 ∨ k = 7 ∨ k = 8 ∨ k = 9 ∨ k = 10 ∨ k = 11 ∨ k = 12 ∨ k = 13 ∨ k = 14 ∨ (¬ k = 1 ∧ ¬ k = 2 ∧ ¬ k = 3 ∧ ¬ k = 4 ∧ ¬ k = 5 ∧ ¬ k = 6 ∧ ¬ k = 7 ∧ ¬ k = 8 ∧ ¬ k = 9 ∧ ¬ k = 10 ∧ ¬ k = 11 ∧ ¬ k = 12 ∧ ¬ k = 13 ∧ ¬ k = 14) := by omega
  obtain rfl | rfl | rfl | rfl | rfl | rfl | rfl | rfl | rfl | rfl | rfl | rfl | rfl | rfl | hno := hk14
  · by_cases hn : n = 0
    · subst hn
      cases d
      all_goals
        go_enter Tryd.func29, Tryd.ntmps29
        go_wp2
        go_ret
        exact ⟨by simp, HB.out⟩
    · have h1 : ((n : Int) == 0) = false := by simp; omega
      go_enter Tryd.func29, Tryd.ntmps29
      go_wp2
      go_ret
      exact ⟨by simp, HB.out⟩
  · by_cases hn : n = 0
    · subst hn
      cases d
      all_goals
        go_enter Tryd.func29, Tryd.ntmps29
        go_wp2
        go_ret
        exact ⟨by simp, HB.out⟩
    · have h1 : ((n : Int) == 0) = false := by simp; omega
      go_enter Tryd.func29, Tryd.ntmps29
      go_wp2
      go_ret
      exact ⟨by simp, HB.out⟩
  · by_cases hn : n = 0
    · subst hn
      cases d
      all_goals
        go_enter Tryd.func29, Tryd.ntmps29
        go_wp2
        go_ret
        exact ⟨by simp, HB.out⟩
    · have h1 : ((n : Int) == 0) = false := by simp; omega
      go_enter Tryd.func29, Tryd.ntmps29
      go_wp2
      go_ret
      exact ⟨by simp, HB.out⟩
  · by_cases hn : n = 0
    · subst hn
      cases d
      all_goals
        go_enter Tryd.func29, Tryd.ntmps29
        go_wp2
        go_ret
        exact ⟨by simp, HB.out⟩
    · have h1 : ((n : Int) == 0) = false := by simp; omega
      go_enter Tryd.func29, Tryd.ntmps29
      go_wp2
      go_ret
      exact ⟨by simp, HB.out⟩
  · by_cases hn : n = 1
    · subst hn
      cases d
      all_goals
        go_enter Tryd.func29, Tryd.ntmps29
        go_wp2
        go_ret
        exact ⟨by simp, HB.out⟩
    · have h1 : ((n : Int) == 1) = false := by simp; omega
      go_enter Tryd.func29, Tryd.ntmps29
      go_wp2
      go_ret
      exact ⟨by simp, HB.out⟩
  · by_cases hn : n = 2
    · subst hn
      cases d
      all_goals
        go_enter Tryd.func29, Tryd.ntmps29
        go_wp2
        go_ret
        exact ⟨by simp, HB.out⟩
    · have h1 : ((n : Int) == 2) = false := by simp; omega
      go_enter Tryd.func29, Tryd.ntmps29
      go_wp2
      go_ret
      exact ⟨by simp, HB.out⟩
  · by_cases hn : n = 3
    · subst hn
      cases d
      all_goals
        go_enter Tryd.func29, Tryd.ntmps29
        go_wp2
        go_ret
        exact ⟨by simp, HB.out⟩
    · have h1 : ((n : Int) == 3) = false := by simp; omega
      go_enter Tryd.func29, Tryd.ntmps29
      go_wp2
      go_ret
      exact ⟨by simp, HB.out⟩
  · by_cases hn : n = 1
    · subst hn
      cases d
      all_goals
        go_enter Tryd.func29, Tryd.ntmps29
        go_wp2
        go_ret
        exact ⟨by simp, HB.out⟩
    · have h1 : ((n : Int) == 1) = false := by simp; omega
      go_enter Tryd.func29, Tryd.ntmps29
      go_wp2
      go_ret
      exact ⟨by simp, HB.out⟩
  · by_cases hn : n = 0
    · subst hn
      cases d
      all_goals
        go_enter Tryd.func29, Tryd.ntmps29
        go_wp2
        go_ret
        exact ⟨by simp, HB.out⟩
    · have h1 : ((n : Int) == 0) = false := by simp; omega
      go_enter Tryd.func29, Tryd.ntmps29
      go_wp2
      go_ret
      exact ⟨by simp, HB.out⟩
  · by_cases hn : n = 1
    · subst hn
      cases d
      all_goals
        go_enter Tryd.func29, Tryd.ntmps29
        go_wp2
        go_ret
        exact ⟨by simp, HB.out⟩
    · have h1 : ((n : Int) == 1) = false := by simp; omega
      go_enter Tryd.func29, Tryd.ntmps29
      go_wp2
      go_ret
      exact ⟨by simp, HB.out⟩
  · by_cases hn : 1 ≤ n
    · have h1 : (1 : Int) ≤ (n : Int) := by omega
      have h2 : decide ((1 : Int) ≤ (n : Int)) = true := by simp; omega
      cases d
      all_goals
        go_enter Tryd.func29, Tryd.ntmps29
        go_wp2
        go_ret
        exact ⟨by simp, HB.out⟩
    · obtain rfl : n = 0 := by omega
      go_enter Tryd.func29, Tryd.ntmps29
      go_wp2
      go_ret
      exact ⟨by simp, HB.out⟩
  · by_cases hn : n = 2
    · subst hn
      cases d
      all_goals
        go_enter Tryd.func29, Tryd.ntmps29
        go_wp2
        go_ret
        exact ⟨by simp, HB.out⟩
    · have h1 : ((n : Int) == 2) = false := by simp; omega
      go_enter Tryd.func29, Tryd.ntmps29
      go_wp2
      go_ret
      exact ⟨by simp, HB.out⟩
  · by_cases hn : n = 0
    · subst hn
      cases d
      all_goals
        go_enter Tryd.func29, Tryd.ntmps29
        go_wp2
        go_ret
        exact ⟨by simp, HB.out⟩
    · have h1 : ((n : Int) == 0) = false := by simp; omega
      go_enter Tryd.func29, Tryd.ntmps29
      go_wp2
      go_ret
      exact ⟨by simp, HB.out⟩
  · by_cases hn : n = 0
    · subst hn
      cases d
      all_goals
        go_enter Tryd.func29, Tryd.ntmps29
        go_wp2
        go_ret
        exact ⟨by simp, HB.out⟩
    · have h1 : ((n : Int) == 0) = false := by simp; omega
      go_enter Tryd.func29, Tryd.ntmps29
      go_wp2
      go_ret
      exact ⟨by simp, HB.out⟩
  · obtain ⟨n1, n2, n3, n4, n5, n6, n7, n8, n9, n10, n11, n12, n13, n14⟩ := hno
    have e1 : (k == 1) = false := by simpa using n1
    have e2 : (k == 2) = false := by simpa using n2
    have e3 : (k == 3) = false := by simpa using n3
    have e4 : (k == 4) = false := by simpa using n4
    have e5 : (k == 5) = false := by simpa using n5
    have e6 : (k == 6) = false := by simpa using n6
    have e7 : (k == 7) = false := by simpa using n7
    have e8 : (k == 8) = false := by simpa using n8
    have e9 : (k == 9) = false := by simpa using n9
    have e10 : (k == 10) = false := by simpa using n10
    have e11 : (k == 11) = false := by simpa using n11
    have e12 : (k == 12) = false := by simpa using n12
    have e13 : (k == 13) = false := by simpa using n13
    have e14 : (k == 14) = false := by simpa using n14
    go_enter Tryd.func29, Tryd.ntmps29
    go_wp2
    go_ret
    exact ⟨by simp, HB.out⟩
end Go.Proofs.YtbegplfijjbpcaaDoor.No
