/- The functions that stand in number's maps: by one check (by wip/gen/mknudo.py). -/
import Derived.Test.YtjafngieohpdaaaDoorNuDo
namespace Go.Proofs.YtjafngieohpdaaaDoor.Nu
open Go Go.RowKit Go.Shelf
attribute [local go_sem] Oper.semAt_some

theorem fail_abs (a : Addr) (y : Int) (hy : In y) : FailV a (failV (decide (In (-y)))) (ovr (max y (-y))).2 ∧ (y < wrap64 (-y) → okR (failV (decide (In (-y)))) (wrap64 (-y)) = (ovr (max y (-y))).1) ∧ (wrap64 (-y) ≤ y → okR (failV (decide (In (-y)))) y = (ovr (max y (-y))).1) := by
  have e : decide (In (-y)) = decide (In (max y (-y))) := by rw [Bool.eq_iff_iff]; simp only [decide_eq_true_eq]; omega
  rw [e]
  refine ⟨(fail_ovr a (max y (-y)) (max y (-y)) (fun _ => rfl)).1, fun h0 => (fail_ovr a (max y (-y)) _ (fun h => ?_)).2, fun h0 => (fail_ovr a (max y (-y)) _ (fun h => ?_)).2⟩
  · rw [wrap_in (by omega : In (-y))] at h0 ⊢
    omega
  · rw [wrap_in (by omega : In (-y))] at h0
    omega
theorem isB_cases {n : Int} (h : isB n = true) : n = 0 ∨ n = 1 := by simpa [isB] using h
theorem fail_not (a : Addr) (x y : Int) (hx : x = 0) : FailV a (if isB x && isB y then .nilIface else errV a) (notR y).2 ∧ okR (if isB x && isB y then .nilIface else errV a) (wrap64 (1 - y)) = (notR y).1 := by
  subst hx
  have e : isB 0 = true := rfl
  rw [e, Bool.true_and]
  unfold notR
  cases h : isB y
  · exact ⟨.inr (.inl ⟨rfl, rfl⟩), rfl⟩
  · refine ⟨.inl ⟨rfl, rfl⟩, ?_⟩
    show wrap64 (1 - y) = 1 - y
    exact wrap_in (by rcases isB_cases h with rfl | rfl <;> decide)
theorem fail_and (a : Addr) (x y : Int) : FailV a (if isB x && isB y then .nilIface else errV a) (bitsR x y (min x y)).2 ∧ okR (if isB x && isB y then .nilIface else errV a) (bits .and .i64 x y) = (bitsR x y (min x y)).1 := by
  unfold bitsR
  cases h : isB x && isB y
  · exact ⟨.inr (.inl ⟨rfl, rfl⟩), rfl⟩
  · refine ⟨.inl ⟨rfl, rfl⟩, ?_⟩
    show bits .and .i64 x y = min x y
    rw [Bool.and_eq_true] at h
    rcases isB_cases h.1 with rfl | rfl <;> rcases isB_cases h.2 with rfl | rfl <;> decide
theorem fail_or (a : Addr) (x y : Int) : FailV a (if isB x && isB y then .nilIface else errV a) (bitsR x y (max x y)).2 ∧ okR (if isB x && isB y then .nilIface else errV a) (bits .or .i64 x y) = (bitsR x y (max x y)).1 := by
  unfold bitsR
  cases h : isB x && isB y
  · exact ⟨.inr (.inl ⟨rfl, rfl⟩), rfl⟩
  · refine ⟨.inl ⟨rfl, rfl⟩, ?_⟩
    show bits .or .i64 x y = max x y
    rw [Bool.and_eq_true] at h
    rcases isB_cases h.1 with rfl | rfl <;> rcases isB_cases h.2 with rfl | rfl <;> decide
set_option maxRecDepth 100000 in
theorem do_add (a : Addr) (x y : Int) (hx : In x) (hy : In y) (w : World) : Calls Tryd.prog 50 #[chkV x y] w fun e w' => Out a (ovr (x + y)) w e w' := by
  obtain ⟨w1, hw1⟩ : ∃ w1, w1 = w.alloc (.cells #[.int .i64 x, .int .i64 y] 54) := ⟨_, rfl⟩
  have hb1 : Below w.heap.size w w1 := by rw [hw1]; exact (Below.refl _ w).alloc (Nat.le_refl _) _
  obtain ⟨w2, hw2⟩ : ∃ w2, w2 = w1.alloc (.cells #[fnV 51] 79) := ⟨_, rfl⟩
  have hb2 : Below w.heap.size w w2 := by rw [hw2]; exact hb1.alloc hb1.size _
  have hs1 : w1.heap.size = w.heap.size + 1 := by rw [hw1]; simp
  have hc := chk_sum w2 x y hx hy
  obtain ⟨v, hv⟩ : ∃ v, v = failV (decide (In (x + y))) := ⟨_, rfl⟩
  rw [← hv] at hc
  have hp := fun n => pass_1 x y n w2 w1.heap.size 51 v (by rw [hw2]; simp) (by rw [hw2]; simp) hc (by rw [hv]; exact failV_form _)
  rw [hw2, hs1, hw1] at hp
  have HP := Lib.hid hp
  have HB := Lib.hid hb2
  rw [hw2, hw1] at HB
  have HO := Lib.hid (show FailV a v (ovr (x + y)).2 ∧ okR v (wrap64 (x + y)) = (ovr (x + y)).1 from by rw [hv]; exact fail_ovr a (x + y) (wrap64 (x + y)) wrap_in)
  clear hp hc hv hb1 hb2 hs1 hw2 w2 hw1 w1
  go_enter Tryd.func50, Tryd.ntmps50
  go_wp2_with (go_at_call 40; refine (HP.out _).mono ?_; rintro e w3 ⟨rfl, hb3⟩; have HB3 := Lib.hid hb3; clear hb3)
  go_ret2
  exact Out.mk HO.out.2 HO.out.1 (HB.out.trans (HB3.out.mono HB.out.size))
set_option maxRecDepth 100000 in
theorem do_sub (a : Addr) (x y : Int) (hx : In x) (hy : In y) (w : World) : Calls Tryd.prog 52 #[chkV x y] w fun e w' => Out a (ovr (x - y)) w e w' := by
  obtain ⟨w1, hw1⟩ : ∃ w1, w1 = w.alloc (.cells #[.int .i64 x, .int .i64 y] 54) := ⟨_, rfl⟩
  have hb1 : Below w.heap.size w w1 := by rw [hw1]; exact (Below.refl _ w).alloc (Nat.le_refl _) _
  obtain ⟨w2, hw2⟩ : ∃ w2, w2 = w1.alloc (.cells #[fnV 53] 79) := ⟨_, rfl⟩
  have hb2 : Below w.heap.size w w2 := by rw [hw2]; exact hb1.alloc hb1.size _
  have hs1 : w1.heap.size = w.heap.size + 1 := by rw [hw1]; simp
  have hc := chk_dif w2 x y hx hy
  obtain ⟨v, hv⟩ : ∃ v, v = failV (decide (In (x - y))) := ⟨_, rfl⟩
  rw [← hv] at hc
  have hp := fun n => pass_1 x y n w2 w1.heap.size 53 v (by rw [hw2]; simp) (by rw [hw2]; simp) hc (by rw [hv]; exact failV_form _)
  rw [hw2, hs1, hw1] at hp
  have HP := Lib.hid hp
  have HB := Lib.hid hb2
  rw [hw2, hw1] at HB
  have HO := Lib.hid (show FailV a v (ovr (x - y)).2 ∧ okR v (wrap64 (x - y)) = (ovr (x - y)).1 from by rw [hv]; exact fail_ovr a (x - y) (wrap64 (x - y)) wrap_in)
  clear hp hc hv hb1 hb2 hs1 hw2 w2 hw1 w1
  go_enter Tryd.func52, Tryd.ntmps52
  go_wp2_with (go_at_call 40; refine (HP.out _).mono ?_; rintro e w3 ⟨rfl, hb3⟩; have HB3 := Lib.hid hb3; clear hb3)
  go_ret2
  exact Out.mk HO.out.2 HO.out.1 (HB.out.trans (HB3.out.mono HB.out.size))
set_option maxRecDepth 100000 in
theorem do_mul (a : Addr) (x y : Int) (hx : In x) (hy : In y) (w : World) : Calls Tryd.prog 54 #[chkV x y] w fun e w' => Out a (ovr (x * y)) w e w' := by
  obtain ⟨w1, hw1⟩ : ∃ w1, w1 = w.alloc (.cells #[.int .i64 x, .int .i64 y] 54) := ⟨_, rfl⟩
  have hb1 : Below w.heap.size w w1 := by rw [hw1]; exact (Below.refl _ w).alloc (Nat.le_refl _) _
  obtain ⟨w2, hw2⟩ : ∃ w2, w2 = w1.alloc (.cells #[fnV 55] 79) := ⟨_, rfl⟩
  have hb2 : Below w.heap.size w w2 := by rw [hw2]; exact hb1.alloc hb1.size _
  have hs1 : w1.heap.size = w.heap.size + 1 := by rw [hw1]; simp
  have hc := chk_prod w2 x y hx hy
  obtain ⟨v, hv⟩ : ∃ v, v = failV (decide (In (x * y))) := ⟨_, rfl⟩
  rw [← hv] at hc
  have hp := fun n => pass_1 x y n w2 w1.heap.size 55 v (by rw [hw2]; simp) (by rw [hw2]; simp) hc (by rw [hv]; exact failV_form _)
  rw [hw2, hs1, hw1] at hp
  have HP := Lib.hid hp
  have HB := Lib.hid hb2
  rw [hw2, hw1] at HB
  have HO := Lib.hid (show FailV a v (ovr (x * y)).2 ∧ okR v (wrap64 (x * y)) = (ovr (x * y)).1 from by rw [hv]; exact fail_ovr a (x * y) (wrap64 (x * y)) wrap_in)
  clear hp hc hv hb1 hb2 hs1 hw2 w2 hw1 w1
  go_enter Tryd.func54, Tryd.ntmps54
  go_wp2_with (go_at_call 40; refine (HP.out _).mono ?_; rintro e w3 ⟨rfl, hb3⟩; have HB3 := Lib.hid hb3; clear hb3)
  go_ret2
  exact Out.mk HO.out.2 HO.out.1 (HB.out.trans (HB3.out.mono HB.out.size))
set_option maxRecDepth 100000 in
theorem do_neg (a : Addr) (x y : Int) (hy : In y) (w : World) : Calls Tryd.prog 39 #[chkV x y] w fun e w' => Out a (ovr (-y)) w e w' := by
  obtain ⟨w1, hw1⟩ : ∃ w1, w1 = w.alloc (.cells #[.int .i64 x, .int .i64 y] 54) := ⟨_, rfl⟩
  have hb1 : Below w.heap.size w w1 := by rw [hw1]; exact (Below.refl _ w).alloc (Nat.le_refl _) _
  obtain ⟨w2, hw2⟩ : ∃ w2, w2 = w1.alloc (.cells #[fnV 41] 79) := ⟨_, rfl⟩
  have hb2 : Below w.heap.size w w2 := by rw [hw2]; exact hb1.alloc hb1.size _
  have hs1 : w1.heap.size = w.heap.size + 1 := by rw [hw1]; simp
  have hc := chk_opp w2 x y hy
  obtain ⟨v, hv⟩ : ∃ v, v = failV (decide (In (-y))) := ⟨_, rfl⟩
  rw [← hv] at hc
  have hp := fun n => pass_1 x y n w2 w1.heap.size 41 v (by rw [hw2]; simp) (by rw [hw2]; simp) hc (by rw [hv]; exact failV_form _)
  rw [hw2, hs1, hw1] at hp
  have HP := Lib.hid hp
  have HB := Lib.hid hb2
  rw [hw2, hw1] at HB
  have HO := Lib.hid (show FailV a v (ovr (-y)).2 ∧ okR v (wrap64 (-y)) = (ovr (-y)).1 from by rw [hv]; exact fail_ovr a (-y) (wrap64 (-y)) wrap_in)
  clear hp hc hv hb1 hb2 hs1 hw2 w2 hw1 w1
  go_enter Tryd.func39, Tryd.ntmps39
  go_wp2_with (go_at_call 40; refine (HP.out _).mono ?_; rintro e w3 ⟨rfl, hb3⟩; have HB3 := Lib.hid hb3; clear hb3)
  go_ret2
  exact Out.mk HO.out.2 HO.out.1 (HB.out.trans (HB3.out.mono HB.out.size))
set_option maxRecDepth 100000 in
theorem do_abs (a : Addr) (x y : Int) (hy : In y) (w : World) : Calls Tryd.prog 47 #[chkV x y] w fun e w' => Out a (ovr (max y (-y))) w e w' := by
  obtain ⟨w1, hw1⟩ : ∃ w1, w1 = w.alloc (.cells #[.int .i64 x, .int .i64 y] 54) := ⟨_, rfl⟩
  have hb1 : Below w.heap.size w w1 := by rw [hw1]; exact (Below.refl _ w).alloc (Nat.le_refl _) _
  obtain ⟨w2, hw2⟩ : ∃ w2, w2 = w1.alloc (.cells #[fnV 41] 79) := ⟨_, rfl⟩
  have hb2 : Below w.heap.size w w2 := by rw [hw2]; exact hb1.alloc hb1.size _
  have hs1 : w1.heap.size = w.heap.size + 1 := by rw [hw1]; simp
  have hc := chk_opp w2 x y hy
  obtain ⟨v, hv⟩ : ∃ v, v = failV (decide (In (-y))) := ⟨_, rfl⟩
  rw [← hv] at hc
  have hp := fun n => pass_1 x y n w2 w1.heap.size 41 v (by rw [hw2]; simp) (by rw [hw2]; simp) hc (by rw [hv]; exact failV_form _)
  rw [hw2, hs1, hw1] at hp
  have HP := Lib.hid hp
  have HB := Lib.hid hb2
  rw [hw2, hw1] at HB
  have HO := Lib.hid (show FailV a v (ovr (max y (-y))).2 ∧ (y < wrap64 (-y) → okR v (wrap64 (-y)) = (ovr (max y (-y))).1) ∧ (wrap64 (-y) ≤ y → okR v y = (ovr (max y (-y))).1) from by rw [hv]; exact fail_abs a y hy)
  clear hp hc hv hb1 hb2 hs1 hw2 w2 hw1 w1
  go_enter Tryd.func47, Tryd.ntmps47
  go_wp2_with (go_at_call 40; refine (HP.out _).mono ?_; rintro e w3 ⟨rfl, hb3⟩; have HB3 := Lib.hid hb3; clear hb3)
  all_goals go_ret2
  all_goals exact Out.mk (by first | exact HO.out.2.1 (by assumption) | exact HO.out.2.2 (by assumption)) HO.out.1 (HB.out.trans (HB3.out.mono HB.out.size))
set_option maxRecDepth 100000 in
theorem do_not (a : Addr) (y : Int) (w : World) (hE : ES w a) : Calls Tryd.prog 48 #[chkV 0 y] w fun e w' => Out a (notR y) w e w' := by
  obtain ⟨w1, hw1⟩ : ∃ w1, w1 = w.alloc (.cells #[.int .i64 0, .int .i64 y] 54) := ⟨_, rfl⟩
  have hb1 : Below w.heap.size w w1 := by rw [hw1]; exact (Below.refl _ w).alloc (Nat.le_refl _) _
  obtain ⟨w2, hw2⟩ : ∃ w2, w2 = w1.alloc (.cells #[fnV 49] 79) := ⟨_, rfl⟩
  have hb2 : Below w.heap.size w w2 := by rw [hw2]; exact hb1.alloc hb1.size _
  have hs1 : w1.heap.size = w.heap.size + 1 := by rw [hw1]; simp
  have hc := chk_bits w2 0 y a (hE.below hb2)
  obtain ⟨v, hv⟩ : ∃ v, v = if isB 0 && isB y then .nilIface else errV a := ⟨_, rfl⟩
  rw [← hv] at hc
  have hO := (show FailV a v (notR y).2 ∧ okR v (wrap64 (1 - y)) = (notR y).1 from by rw [hv]; exact fail_not a 0 y rfl)
  have hp := fun n => pass_1 0 y n w2 w1.heap.size 49 v (by rw [hw2]; simp) (by rw [hw2]; simp) hc (hO.1.form)
  rw [hw2, hs1, hw1] at hp
  have HP := Lib.hid hp
  have HB := Lib.hid hb2
  rw [hw2, hw1] at HB
  have HO := Lib.hid hO
  clear hp hc hv hO hE hb1 hb2 hs1 hw2 w2 hw1 w1
  go_enter Tryd.func48, Tryd.ntmps48
  go_wp2_with (go_at_call 40; refine (HP.out _).mono ?_; rintro e w3 ⟨rfl, hb3⟩; have HB3 := Lib.hid hb3; clear hb3)
  go_ret2
  exact Out.mk HO.out.2 HO.out.1 (HB.out.trans (HB3.out.mono HB.out.size))
set_option maxRecDepth 100000 in
theorem do_and (a : Addr) (x y : Int)  (w : World) (hE : ES w a) : Calls Tryd.prog 63 #[chkV x y] w fun e w' => Out a (bitsR x y (min x y)) w e w' := by
  obtain ⟨w1, hw1⟩ : ∃ w1, w1 = w.alloc (.cells #[.int .i64 x, .int .i64 y] 54) := ⟨_, rfl⟩
  have hb1 : Below w.heap.size w w1 := by rw [hw1]; exact (Below.refl _ w).alloc (Nat.le_refl _) _
  obtain ⟨w2, hw2⟩ : ∃ w2, w2 = w1.alloc (.cells #[fnV 49] 79) := ⟨_, rfl⟩
  have hb2 : Below w.heap.size w w2 := by rw [hw2]; exact hb1.alloc hb1.size _
  have hs1 : w1.heap.size = w.heap.size + 1 := by rw [hw1]; simp
  have hc := chk_bits w2 x y a (hE.below hb2)
  obtain ⟨v, hv⟩ : ∃ v, v = if isB x && isB y then .nilIface else errV a := ⟨_, rfl⟩
  rw [← hv] at hc
  have hO := (show FailV a v (bitsR x y (min x y)).2 ∧ okR v (bits .and .i64 x y) = (bitsR x y (min x y)).1 from by rw [hv]; exact fail_and a x y)
  have hp := fun n => pass_1 x y n w2 w1.heap.size 49 v (by rw [hw2]; simp) (by rw [hw2]; simp) hc (hO.1.form)
  rw [hw2, hs1, hw1] at hp
  have HP := Lib.hid hp
  have HB := Lib.hid hb2
  rw [hw2, hw1] at HB
  have HO := Lib.hid hO
  clear hp hc hv hO hE hb1 hb2 hs1 hw2 w2 hw1 w1
  go_enter Tryd.func63, Tryd.ntmps63
  go_wp2_with (go_at_call 40; refine (HP.out _).mono ?_; rintro e w3 ⟨rfl, hb3⟩; have HB3 := Lib.hid hb3; clear hb3)
  go_ret2
  exact Out.mk HO.out.2 HO.out.1 (HB.out.trans (HB3.out.mono HB.out.size))
set_option maxRecDepth 100000 in
theorem do_or (a : Addr) (x y : Int)  (w : World) (hE : ES w a) : Calls Tryd.prog 64 #[chkV x y] w fun e w' => Out a (bitsR x y (max x y)) w e w' := by
  obtain ⟨w1, hw1⟩ : ∃ w1, w1 = w.alloc (.cells #[.int .i64 x, .int .i64 y] 54) := ⟨_, rfl⟩
  have hb1 : Below w.heap.size w w1 := by rw [hw1]; exact (Below.refl _ w).alloc (Nat.le_refl _) _
  obtain ⟨w2, hw2⟩ : ∃ w2, w2 = w1.alloc (.cells #[fnV 49] 79) := ⟨_, rfl⟩
  have hb2 : Below w.heap.size w w2 := by rw [hw2]; exact hb1.alloc hb1.size _
  have hs1 : w1.heap.size = w.heap.size + 1 := by rw [hw1]; simp
  have hc := chk_bits w2 x y a (hE.below hb2)
  obtain ⟨v, hv⟩ : ∃ v, v = if isB x && isB y then .nilIface else errV a := ⟨_, rfl⟩
  rw [← hv] at hc
  have hO := (show FailV a v (bitsR x y (max x y)).2 ∧ okR v (bits .or .i64 x y) = (bitsR x y (max x y)).1 from by rw [hv]; exact fail_or a x y)
  have hp := fun n => pass_1 x y n w2 w1.heap.size 49 v (by rw [hw2]; simp) (by rw [hw2]; simp) hc (hO.1.form)
  rw [hw2, hs1, hw1] at hp
  have HP := Lib.hid hp
  have HB := Lib.hid hb2
  rw [hw2, hw1] at HB
  have HO := Lib.hid hO
  clear hp hc hv hO hE hb1 hb2 hs1 hw2 w2 hw1 w1
  go_enter Tryd.func64, Tryd.ntmps64
  go_wp2_with (go_at_call 40; refine (HP.out _).mono ?_; rintro e w3 ⟨rfl, hb3⟩; have HB3 := Lib.hid hb3; clear hb3)
  go_ret2
  exact Out.mk HO.out.2 HO.out.1 (HB.out.trans (HB3.out.mono HB.out.size))
end Go.Proofs.YtjafngieohpdaaaDoor.Nu
