/- Merged by gen/ar_merge.py: NuDo1, NuDo2, NuDo3, NuDo4. -/
import Derived.Test.YthlkgfplffdiaaaGreatDoorNuDo
import Derived.Test.YthlkgfplffdiaaaGreatDoorNuB
/- The functions that stand in number's maps: by one check (by wip/gen/mknudo.py). -/
namespace Go.Proofs.YthlkgfplffdiaaaGreatDoor.Nu
open Go Go.RowKit Go.Shelf
attribute [local go_sem] Oper.semAt_some

theorem fail_abs (a : Addr) (y : Int) (hy : In y) : FailV a (failV (decide (In (-y)))) (ovr (max y (-y))).2 ∧ (y < wrap64 (-y) → okR (failV (decide (In (-y)))) (wrap64 (-y)) = (ovr (max y (-y))).1) ∧ (wrap64 (-y) ≤ y → okR (failV (decide (In (-y)))) y = (ovr (max y (-y))).1) := by
  have e : decide (In (-y)) = decide (In (max y (-y))) := by rw [Bool.eq_iff_iff]; simp only [decide_eq_true_eq]; omega
  rw [e]
  refine ⟨(fail_ovr a (max y (-y)) (max y (-y)) (fun _ => rfl)).1, fun h0 => (fail_ovr a (max y (-y)) _ (fun h => ?_)).2, fun h0 => (fail_ovr a (max y (-y)) _ (fun h => ?_)).2⟩
  · rw [wrap_in (by omega : In (-y))] at h0 ⊢
    omega
  · rw [wrap_in (by omega : In (-y))] at h0
    omega
theorem isB_cases {n : Int} (h : isB n = true) : n = 0 ∨ n = 1 := by simpa [isB] using h
theorem fail_not (a : Addr) (x y : Int) (hx : x = 0) : FailV a (if isB x && isB y then .nilIface else errV a) (notR y).2 ∧ okR (if isB x && isB y then .nilIface else errV a) (wrap64 (1 - y)) = (notR y).1 := by
  subst hx
  have e : isB 0 = true := rfl
  rw [e, Bool.true_and]
  unfold notR
  cases h : isB y
  · exact ⟨.inr (.inl ⟨rfl, rfl⟩), rfl⟩
  · refine ⟨.inl ⟨rfl, rfl⟩, ?_⟩
    show wrap64 (1 - y) = 1 - y
    exact wrap_in (by rcases isB_cases h with rfl | rfl <;> decide)
theorem fail_and (a : Addr) (x y : Int) : FailV a (if isB x && isB y then .nilIface else errV a) (bitsR x y (min x y)).2 ∧ okR (if isB x && isB y then .nilIface else errV a) (bits .and .i64 x y) = (bitsR x y (min x y)).1 := by
  unfold bitsR
  cases h : isB x && isB y
  · exact ⟨.inr (.inl ⟨rfl, rfl⟩), rfl⟩
  · refine ⟨.inl ⟨rfl, rfl⟩, ?_⟩
    show bits .and .i64 x y = min x y
    rw [Bool.and_eq_true] at h
    rcases isB_cases h.1 with rfl | rfl <;> rcases isB_cases h.2 with rfl | rfl <;> decide
theorem fail_or (a : Addr) (x y : Int) : FailV a (if isB x && isB y then .nilIface else errV a) (bitsR x y (max x y)).2 ∧ okR (if isB x && isB y then .nilIface else errV a) (bits .or .i64 x y) = (bitsR x y (max x y)).1 := by
  unfold bitsR
  cases h : isB x && isB y
  · exact ⟨.inr (.inl ⟨rfl, rfl⟩), rfl⟩
  · refine ⟨.inl ⟨rfl, rfl⟩, ?_⟩
    show bits .or .i64 x y = max x y
    rw [Bool.and_eq_true] at h
    rcases isB_cases h.1 with rfl | rfl <;> rcases isB_cases h.2 with rfl | rfl <;> decide
set_option maxRecDepth 100000 in
theorem do_add (a : Addr) (x y : Int) (hx : In x) (hy : In y) (w : World) : Calls Tryz.prog 124 #[chkV x y] w fun e w' => Out a (ovr (x + y)) w e w' := by
  obtain ⟨w1, hw1⟩ : ∃ w1, w1 = w.alloc (.cells #[.int .i64 x, .int .i64 y] 119) := ⟨_, rfl⟩
  have hb1 : Below w.heap.size w w1 := by rw [hw1]; exact (Below.refl _ w).alloc (Nat.le_refl _) _
  obtain ⟨w2, hw2⟩ : ∃ w2, w2 = w1.alloc (.cells #[fnV 125] 161) := ⟨_, rfl⟩
  have hb2 : Below w.heap.size w w2 := by rw [hw2]; exact hb1.alloc hb1.size _
  have hs1 : w1.heap.size = w.heap.size + 1 := by rw [hw1]; simp
  have hc := chk_sum w2 x y hx hy
  obtain ⟨v, hv⟩ : ∃ v, v = failV (decide (In (x + y))) := ⟨_, rfl⟩
  rw [← hv] at hc
  have hp := fun n => pass_1 x y n w2 w1.heap.size 125 v (by rw [hw2]; simp) (by rw [hw2]; simp) hc (by rw [hv]; exact failV_form _)
  rw [hw2, hs1, hw1] at hp
  have HP := Lib.hid hp
  have HB := Lib.hid hb2
  rw [hw2, hw1] at HB
  have HO := Lib.hid (show FailV a v (ovr (x + y)).2 ∧ okR v (wrap64 (x + y)) = (ovr (x + y)).1 from by rw [hv]; exact fail_ovr a (x + y) (wrap64 (x + y)) wrap_in)
  clear hp hc hv hb1 hb2 hs1 hw2 w2 hw1 w1
  go_enter Tryz.func124, Tryz.ntmps124
  go_wp2_with (go_at_call 91; refine (HP.out _).mono ?_; rintro e w3 ⟨rfl, hb3⟩; have HB3 := Lib.hid hb3; clear hb3)
  go_ret2
  exact Out.mk HO.out.2 HO.out.1 (HB.out.trans (HB3.out.mono HB.out.size))
set_option maxRecDepth 100000 in
theorem do_sub (a : Addr) (x y : Int) (hx : In x) (hy : In y) (w : World) : Calls Tryz.prog 126 #[chkV x y] w fun e w' => Out a (ovr (x - y)) w e w' := by
  obtain ⟨w1, hw1⟩ : ∃ w1, w1 = w.alloc (.cells #[.int .i64 x, .int .i64 y] 119) := ⟨_, rfl⟩
  have hb1 : Below w.heap.size w w1 := by rw [hw1]; exact (Below.refl _ w).alloc (Nat.le_refl _) _
  obtain ⟨w2, hw2⟩ : ∃ w2, w2 = w1.alloc (.cells #[fnV 127] 161) := ⟨_, rfl⟩
  have hb2 : Below w.heap.size w w2 := by rw [hw2]; exact hb1.alloc hb1.size _
  have hs1 : w1.heap.size = w.heap.size + 1 := by rw [hw1]; simp
  have hc := chk_dif w2 x y hx hy
  obtain ⟨v, hv⟩ : ∃ v, v = failV (decide (In (x - y))) := ⟨_, rfl⟩
  rw [← hv] at hc
  have hp := fun n => pass_1 x y n w2 w1.heap.size 127 v (by rw [hw2]; simp) (by rw [hw2]; simp) hc (by rw [hv]; exact failV_form _)
  rw [hw2, hs1, hw1] at hp
  have HP := Lib.hid hp
  have HB := Lib.hid hb2
  rw [hw2, hw1] at HB
  have HO := Lib.hid (show FailV a v (ovr (x - y)).2 ∧ okR v (wrap64 (x - y)) = (ovr (x - y)).1 from by rw [hv]; exact fail_ovr a (x - y) (wrap64 (x - y)) wrap_in)
  clear hp hc hv hb1 hb2 hs1 hw2 w2 hw1 w1
  go_enter Tryz.func126, Tryz.ntmps126
  go_wp2_with (go_at_call 91; refine (HP.out _).mono ?_; rintro e w3 ⟨rfl, hb3⟩; have HB3 := Lib.hid hb3; clear hb3)
  go_ret2
  exact Out.mk HO.out.2 HO.out.1 (HB.out.trans (HB3.out.mono HB.out.size))
set_option maxRecDepth 100000 in
theorem do_mul (a : Addr) (x y : Int) (hx : In x) (hy : In y) (w : World) : Calls Tryz.prog 128 #[chkV x y] w fun e w' => Out a (ovr (x * y)) w e w' := by
  obtain ⟨w1, hw1⟩ : ∃ w1, w1 = w.alloc (.cells #[.int .i64 x, .int .i64 y] 119) := ⟨_, rfl⟩
  have hb1 : Below w.heap.size w w1 := by rw [hw1]; exact (Below.refl _ w).alloc (Nat.le_refl _) _
  obtain ⟨w2, hw2⟩ : ∃ w2, w2 = w1.alloc (.cells #[fnV 129] 161) := ⟨_, rfl⟩
  have hb2 : Below w.heap.size w w2 := by rw [hw2]; exact hb1.alloc hb1.size _
  have hs1 : w1.heap.size = w.heap.size + 1 := by rw [hw1]; simp
  have hc := chk_prod w2 x y hx hy
  obtain ⟨v, hv⟩ : ∃ v, v = failV (decide (In (x * y))) := ⟨_, rfl⟩
  rw [← hv] at hc
  have hp := fun n => pass_1 x y n w2 w1.heap.size 129 v (by rw [hw2]; simp) (by rw [hw2]; simp) hc (by rw [hv]; exact failV_form _)
  rw [hw2, hs1, hw1] at hp
  have HP := Lib.hid hp
  have HB := Lib.hid hb2
  rw [hw2, hw1] at HB
  have HO := Lib.hid (show FailV a v (ovr (x * y)).2 ∧ okR v (wrap64 (x * y)) = (ovr (x * y)).1 from by rw [hv]; exact fail_ovr a (x * y) (wrap64 (x * y)) wrap_in)
  clear hp hc hv hb1 hb2 hs1 hw2 w2 hw1 w1
  go_enter Tryz.func128, Tryz.ntmps128
  go_wp2_with (go_at_call 91; refine (HP.out _).mono ?_; rintro e w3 ⟨rfl, hb3⟩; have HB3 := Lib.hid hb3; clear hb3)
  go_ret2
  exact Out.mk HO.out.2 HO.out.1 (HB.out.trans (HB3.out.mono HB.out.size))
set_option maxRecDepth 100000 in
theorem do_neg (a : Addr) (x y : Int) (hy : In y) (w : World) : Calls Tryz.prog 90 #[chkV x y] w fun e w' => Out a (ovr (-y)) w e w' := by
  obtain ⟨w1, hw1⟩ : ∃ w1, w1 = w.alloc (.cells #[.int .i64 x, .int .i64 y] 119) := ⟨_, rfl⟩
  have hb1 : Below w.heap.size w w1 := by rw [hw1]; exact (Below.refl _ w).alloc (Nat.le_refl _) _
  obtain ⟨w2, hw2⟩ : ∃ w2, w2 = w1.alloc (.cells #[fnV 92] 161) := ⟨_, rfl⟩
  have hb2 : Below w.heap.size w w2 := by rw [hw2]; exact hb1.alloc hb1.size _
  have hs1 : w1.heap.size = w.heap.size + 1 := by rw [hw1]; simp
  have hc := chk_opp w2 x y hy
  obtain ⟨v, hv⟩ : ∃ v, v = failV (decide (In (-y))) := ⟨_, rfl⟩
  rw [← hv] at hc
  have hp := fun n => pass_1 x y n w2 w1.heap.size 92 v (by rw [hw2]; simp) (by rw [hw2]; simp) hc (by rw [hv]; exact failV_form _)
  rw [hw2, hs1, hw1] at hp
  have HP := Lib.hid hp
  have HB := Lib.hid hb2
  rw [hw2, hw1] at HB
  have HO := Lib.hid (show FailV a v (ovr (-y)).2 ∧ okR v (wrap64 (-y)) = (ovr (-y)).1 from by rw [hv]; exact fail_ovr a (-y) (wrap64 (-y)) wrap_in)
  clear hp hc hv hb1 hb2 hs1 hw2 w2 hw1 w1
  go_enter Tryz.func90, Tryz.ntmps90
  go_wp2_with (go_at_call 91; refine (HP.out _).mono ?_; rintro e w3 ⟨rfl, hb3⟩; have HB3 := Lib.hid hb3; clear hb3)
  go_ret2
  exact Out.mk HO.out.2 HO.out.1 (HB.out.trans (HB3.out.mono HB.out.size))
set_option maxRecDepth 100000 in
theorem do_abs (a : Addr) (x y : Int) (hy : In y) (w : World) : Calls Tryz.prog 98 #[chkV x y] w fun e w' => Out a (ovr (max y (-y))) w e w' := by
  obtain ⟨w1, hw1⟩ : ∃ w1, w1 = w.alloc (.cells #[.int .i64 x, .int .i64 y] 119) := ⟨_, rfl⟩
  have hb1 : Below w.heap.size w w1 := by rw [hw1]; exact (Below.refl _ w).alloc (Nat.le_refl _) _
  obtain ⟨w2, hw2⟩ : ∃ w2, w2 = w1.alloc (.cells #[fnV 92] 161) := ⟨_, rfl⟩
  have hb2 : Below w.heap.size w w2 := by rw [hw2]; exact hb1.alloc hb1.size _
  have hs1 : w1.heap.size = w.heap.size + 1 := by rw [hw1]; simp
  have hc := chk_opp w2 x y hy
  obtain ⟨v, hv⟩ : ∃ v, v = failV (decide (In (-y))) := ⟨_, rfl⟩
  rw [← hv] at hc
  have hp := fun n => pass_1 x y n w2 w1.heap.size 92 v (by rw [hw2]; simp) (by rw [hw2]; simp) hc (by rw [hv]; exact failV_form _)
  rw [hw2, hs1, hw1] at hp
  have HP := Lib.hid hp
  have HB := Lib.hid hb2
  rw [hw2, hw1] at HB
  have HO := Lib.hid (show FailV a v (ovr (max y (-y))).2 ∧ (y < wrap64 (-y) → okR v (wrap64 (-y)) = (ovr (max y (-y))).1) ∧ (wrap64 (-y) ≤ y → okR v y = (ovr (max y (-y))).1) from by rw [hv]; exact fail_abs a y hy)
  clear hp hc hv hb1 hb2 hs1 hw2 w2 hw1 w1
  go_enter Tryz.func98, Tryz.ntmps98
  go_wp2_with (go_at_call 91; refine (HP.out _).mono ?_; rintro e w3 ⟨rfl, hb3⟩; have HB3 := Lib.hid hb3; clear hb3)
  all_goals go_ret2
  all_goals exact Out.mk (by first | exact HO.out.2.1 (by assumption) | exact HO.out.2.2 (by assumption)) HO.out.1 (HB.out.trans (HB3.out.mono HB.out.size))
set_option maxRecDepth 100000 in
theorem do_not (a : Addr) (y : Int) (w : World) (hE : ES w a) : Calls Tryz.prog 99 #[chkV 0 y] w fun e w' => Out a (notR y) w e w' := by
  obtain ⟨w1, hw1⟩ : ∃ w1, w1 = w.alloc (.cells #[.int .i64 0, .int .i64 y] 119) := ⟨_, rfl⟩
  have hb1 : Below w.heap.size w w1 := by rw [hw1]; exact (Below.refl _ w).alloc (Nat.le_refl _) _
  obtain ⟨w2, hw2⟩ : ∃ w2, w2 = w1.alloc (.cells #[fnV 100] 161) := ⟨_, rfl⟩
  have hb2 : Below w.heap.size w w2 := by rw [hw2]; exact hb1.alloc hb1.size _
  have hs1 : w1.heap.size = w.heap.size + 1 := by rw [hw1]; simp
  have hc := chk_bits w2 0 y a (hE.below hb2)
  obtain ⟨v, hv⟩ : ∃ v, v = if isB 0 && isB y then .nilIface else errV a := ⟨_, rfl⟩
  rw [← hv] at hc
  have hO := (show FailV a v (notR y).2 ∧ okR v (wrap64 (1 - y)) = (notR y).1 from by rw [hv]; exact fail_not a 0 y rfl)
  have hp := fun n => pass_1 0 y n w2 w1.heap.size 100 v (by rw [hw2]; simp) (by rw [hw2]; simp) hc (hO.1.form)
  rw [hw2, hs1, hw1] at hp
  have HP := Lib.hid hp
  have HB := Lib.hid hb2
  rw [hw2, hw1] at HB
  have HO := Lib.hid hO
  clear hp hc hv hO hE hb1 hb2 hs1 hw2 w2 hw1 w1
  go_enter Tryz.func99, Tryz.ntmps99
  go_wp2_with (go_at_call 91; refine (HP.out _).mono ?_; rintro e w3 ⟨rfl, hb3⟩; have HB3 := Lib.hid hb3; clear hb3)
  go_ret2
  exact Out.mk HO.out.2 HO.out.1 (HB.out.trans (HB3.out.mono HB.out.size))
set_option maxRecDepth 100000 in
theorem do_and (a : Addr) (x y : Int)  (w : World) (hE : ES w a) : Calls Tryz.prog 137 #[chkV x y] w fun e w' => Out a (bitsR x y (min x y)) w e w' := by
  obtain ⟨w1, hw1⟩ : ∃ w1, w1 = w.alloc (.cells #[.int .i64 x, .int .i64 y] 119) := ⟨_, rfl⟩
  have hb1 : Below w.heap.size w w1 := by rw [hw1]; exact (Below.refl _ w).alloc (Nat.le_refl _) _
  obtain ⟨w2, hw2⟩ : ∃ w2, w2 = w1.alloc (.cells #[fnV 100] 161) := ⟨_, rfl⟩
  have hb2 : Below w.heap.size w w2 := by rw [hw2]; exact hb1.alloc hb1.size _
  have hs1 : w1.heap.size = w.heap.size + 1 := by rw [hw1]; simp
  have hc := chk_bits w2 x y a (hE.below hb2)
  obtain ⟨v, hv⟩ : ∃ v, v = if isB x && isB y then .nilIface else errV a := ⟨_, rfl⟩
  rw [← hv] at hc
  have hO := (show FailV a v (bitsR x y (min x y)).2 ∧ okR v (bits .and .i64 x y) = (bitsR x y (min x y)).1 from by rw [hv]; exact fail_and a x y)
  have hp := fun n => pass_1 x y n w2 w1.heap.size 100 v (by rw [hw2]; simp) (by rw [hw2]; simp) hc (hO.1.form)
  rw [hw2, hs1, hw1] at hp
  have HP := Lib.hid hp
  have HB := Lib.hid hb2
  rw [hw2, hw1] at HB
  have HO := Lib.hid hO
  clear hp hc hv hO hE hb1 hb2 hs1 hw2 w2 hw1 w1
  go_enter Tryz.func137, Tryz.ntmps137
  go_wp2_with (go_at_call 91; refine (HP.out _).mono ?_; rintro e w3 ⟨rfl, hb3⟩; have HB3 := Lib.hid hb3; clear hb3)
  go_ret2
  exact Out.mk HO.out.2 HO.out.1 (HB.out.trans (HB3.out.mono HB.out.size))
set_option maxRecDepth 100000 in
theorem do_or (a : Addr) (x y : Int)  (w : World) (hE : ES w a) : Calls Tryz.prog 138 #[chkV x y] w fun e w' => Out a (bitsR x y (max x y)) w e w' := by
  obtain ⟨w1, hw1⟩ : ∃ w1, w1 = w.alloc (.cells #[.int .i64 x, .int .i64 y] 119) := ⟨_, rfl⟩
  have hb1 : Below w.heap.size w w1 := by rw [hw1]; exact (Below.refl _ w).alloc (Nat.le_refl _) _
  obtain ⟨w2, hw2⟩ : ∃ w2, w2 = w1.alloc (.cells #[fnV 100] 161) := ⟨_, rfl⟩
  have hb2 : Below w.heap.size w w2 := by rw [hw2]; exact hb1.alloc hb1.size _
  have hs1 : w1.heap.size = w.heap.size + 1 := by rw [hw1]; simp
  have hc := chk_bits w2 x y a (hE.below hb2)
  obtain ⟨v, hv⟩ : ∃ v, v = if isB x && isB y then .nilIface else errV a := ⟨_, rfl⟩
  rw [← hv] at hc
  have hO := (show FailV a v (bitsR x y (max x y)).2 ∧ okR v (bits .or .i64 x y) = (bitsR x y (max x y)).1 from by rw [hv]; exact fail_or a x y)
  have hp := fun n => pass_1 x y n w2 w1.heap.size 100 v (by rw [hw2]; simp) (by rw [hw2]; simp) hc (hO.1.form)
  rw [hw2, hs1, hw1] at hp
  have HP := Lib.hid hp
  have HB := Lib.hid hb2
  rw [hw2, hw1] at HB
  have HO := Lib.hid hO
  clear hp hc hv hO hE hb1 hb2 hs1 hw2 w2 hw1 w1
  go_enter Tryz.func138, Tryz.ntmps138
  go_wp2_with (go_at_call 91; refine (HP.out _).mono ?_; rintro e w3 ⟨rfl, hb3⟩; have HB3 := Lib.hid hb3; clear hb3)
  go_ret2
  exact Out.mk HO.out.2 HO.out.1 (HB.out.trans (HB3.out.mono HB.out.size))
end Go.Proofs.YthlkgfplffdiaaaGreatDoor.Nu
/- The functions that stand in number's maps: by no check (by wip/gen/mknudo.py). -/
namespace Go.Proofs.YthlkgfplffdiaaaGreatDoor.Nu
open Go Go.RowKit Go.Shelf
attribute [local go_sem] Oper.semAt_some

set_option maxRecDepth 100000 in
theorem do_max (a : Addr) (x y : Int) (w : World) : Calls Tryz.prog 132 #[chkV x y] w fun e w' => Out a (max x y, 0) w e w' := by
  have HB := Lib.hid ((Below.refl w.heap.size w).alloc (Nat.le_refl _) (.cells #[.int .i64 x, .int .i64 y] 119))
  have HP := Lib.hid (fun n W => pass_0 x y n W)
  go_enter Tryz.func132, Tryz.ntmps132
  go_wp2_with (go_at_call 91; refine (HP.out _ _).mono ?_; rintro e w3 ⟨rfl, hb3⟩; have HB3 := Lib.hid hb3; clear hb3)
  all_goals go_ret2
  all_goals exact Out.mk (show _ = max x y by omega) (.inl ⟨rfl, rfl⟩) (HB.out.trans (HB3.out.mono HB.out.size))
set_option maxRecDepth 100000 in
theorem do_min (a : Addr) (x y : Int) (w : World) : Calls Tryz.prog 133 #[chkV x y] w fun e w' => Out a (min x y, 0) w e w' := by
  have HB := Lib.hid ((Below.refl w.heap.size w).alloc (Nat.le_refl _) (.cells #[.int .i64 x, .int .i64 y] 119))
  have HP := Lib.hid (fun n W => pass_0 x y n W)
  go_enter Tryz.func133, Tryz.ntmps133
  go_wp2_with (go_at_call 91; refine (HP.out _ _).mono ?_; rintro e w3 ⟨rfl, hb3⟩; have HB3 := Lib.hid hb3; clear hb3)
  all_goals go_ret2
  all_goals exact Out.mk (show _ = min x y by omega) (.inl ⟨rfl, rfl⟩) (HB.out.trans (HB3.out.mono HB.out.size))
set_option maxRecDepth 100000 in
theorem do_same (a : Addr) (x y : Int) (w : World) : Calls Tryz.prog 89 #[chkV x y] w fun e w' => Out a (y, 0) w e w' := by
  have HB := Lib.hid ((Below.refl w.heap.size w).alloc (Nat.le_refl _) (.cells #[.int .i64 x, .int .i64 y] 119))
  have HP := Lib.hid (fun n W => pass_0 x y n W)
  go_enter Tryz.func89, Tryz.ntmps89
  go_wp2_with (go_at_call 91; refine (HP.out _ _).mono ?_; rintro e w3 ⟨rfl, hb3⟩; have HB3 := Lib.hid hb3; clear hb3)
  all_goals go_ret2
  all_goals exact Out.mk (show _ = y by rfl) (.inl ⟨rfl, rfl⟩) (HB.out.trans (HB3.out.mono HB.out.size))
end Go.Proofs.YthlkgfplffdiaaaGreatDoor.Nu
/- The functions that stand in number's maps: those that call another one first. -/
namespace Go.Proofs.YthlkgfplffdiaaaGreatDoor.Nu
open Go Go.RowKit Go.Shelf
attribute [local go_sem] Oper.semAt_some

def okV2 (v v2 : Value) : Value := if okV v then v2 else v
def okR2 (v v2 : Value) (n : Int) : Int := if okV v then okR v2 n else 0
theorem fail_div (a : Addr) (x y : Int) (hx : In x) (hy : In y) : FailV a (okV2 (if (divR x y).2 = 101 then faultV 101 else .nilIface) (failV (x != -9223372036854775808 || y != -1))) (divR x y).2 ∧ okR2 (if (divR x y).2 = 101 then faultV 101 else .nilIface) (failV (x != -9223372036854775808 || y != -1)) (quoR x y) = (divR x y).1 := by
  by_cases h0 : y = 0
  · subst h0
    by_cases h1 : x = 0
    · subst h1
      exact ⟨.inl ⟨rfl, rfl⟩, rfl⟩
    · have e : divR x 0 = (0, 101) := by simp [divR, h1]
      rw [e]
      exact ⟨.inr (.inr ⟨by decide, by decide, rfl⟩), rfl⟩
  · by_cases h1 : x.tmod y = 0
    · have e : divR x y = ovr (x.tdiv y) := by simp [divR, h0, h1]
      have hq : quoR x y = wrap64 (x.tdiv y) := by simp [quoR, h0]
      have hn : ¬ (ovr (x.tdiv y)).2 = 101 := by unfold ovr; split <;> simp
      have hb : (x != -9223372036854775808 || y != -1) = decide (In (x.tdiv y)) := by
        have h2 : (x.tdiv y).natAbs = x.natAbs / y.natAbs := Int.natAbs_tdiv x y
        by_cases hm : y = -1
        · subst hm
          have : x.tdiv (-1) = -x := by rw [Int.tdiv_neg, Int.tdiv_one]
          rw [this, Bool.eq_iff_iff]
          simp
          omega
        · by_cases hm1 : y = 1
          · subst hm1
            rw [Int.tdiv_one, Bool.eq_iff_iff]
            simp
            omega
          · have h3 : x.natAbs / y.natAbs ≤ x.natAbs / 2 := Nat.div_le_div_left (by omega) (by omega)
            rw [Bool.eq_iff_iff]
            simp [hm]
            omega
      rw [e, hq, if_neg hn, hb]
      exact fail_ovr a _ _ wrap_in
    · have e : divR x y = (0, 101) := by simp [divR, h0, h1]
      rw [e]
      exact ⟨.inr (.inr ⟨by decide, by decide, rfl⟩), rfl⟩
set_option maxRecDepth 100000 in
set_option maxHeartbeats 2000000 in
theorem do_res (a : Addr) (x y : Int) (hx : In x) (hy : In y) (w : World) : Calls Tryz.prog 134 #[chkV x y] w fun e w' => Out a (resR x y, 0) w e w' := by
  have hb0 := (Below.refl w.heap.size w).alloc (Nat.le_refl _) (.cells #[.int .i64 x, .int .i64 y] 119)
  have HB := Lib.hid hb0.drew
  have c1 : (w.alloc (.cells #[.int .i64 x, .int .i64 y] 119)).cell? ⟨w.heap.size, 0, none⟩ = some (.int .i64 x) := by simp
  have c2 : (w.alloc (.cells #[.int .i64 x, .int .i64 y] 119)).cell? ⟨w.heap.size, 1, none⟩ = some (.int .i64 y) := by simp
  have HK : Hid (∀ W W2, W.heap.size ≥ w.heap.size + 1 → (W.cell? ⟨w.heap.size, 0, none⟩ = some (.int .i64 x) ∧ W.cell? ⟨w.heap.size, 1, none⟩ = some (.int .i64 y)) → Below W.heap.size W W2 → W2.cell? ⟨w.heap.size, 0, none⟩ = some (.int .i64 x) ∧ W2.cell? ⟨w.heap.size, 1, none⟩ = some (.int .i64 y)) := Lib.hid (fun W W2 hl hk h => ⟨(h.cell (p := ⟨w.heap.size, 0, none⟩) (by show w.heap.size < W.heap.size; omega)).trans hk.1, (h.cell (p := ⟨w.heap.size, 1, none⟩) (by show w.heap.size < W.heap.size; omega)).trans hk.2⟩)
  clear hb0
  have HP := Lib.hid (fun n W => pass_0 x y n W)
  have HQ := Lib.hid (fun W => residue_c x y hx hy W)
  go_enter Tryz.func134, Tryz.ntmps134
  go_wp2_with fail
  go_region_held_law (fun w' => w'.cell? ⟨w.heap.size, 0, none⟩ = some (.int .i64 x) ∧ w'.cell? ⟨w.heap.size, 1, none⟩ = some (.int .i64 y)) (first | exact ⟨c1, c2⟩ | exact ⟨k0, k1⟩ | exact ⟨k2, k3⟩ | go_keep) (first | (go_at_call 135; refine (HQ.out _).mono ?_; rintro e w2 ⟨rfl, hb2⟩; have HB2 := Lib.hid hb2; obtain ⟨k0, k1⟩ := HK.out _ _ (by simp) (by simp) hb2; clear hb2) | (go_at_call 91; refine (HP.out _ _).mono ?_; rintro e w3 ⟨rfl, hb3⟩; have HB3 := Lib.hid hb3; have hsz := HB2.out.size; simp at hsz; obtain ⟨k2, k3⟩ := HK.out _ _ hsz ⟨k0, k1⟩ hb3; clear hb3 hsz))
  all_goals go_wp2
  all_goals go_ret2
  all_goals exact Out.mk rfl (.inl ⟨rfl, rfl⟩) (HB.out.trans ((HB2.out.trans (HB3.out.mono HB2.out.size)).mono HB.out.size))
set_option maxRecDepth 100000 in
set_option maxHeartbeats 2000000 in
theorem do_sign (a : Addr) (x y : Int)  (w : World) : Calls Tryz.prog 93 #[chkV x y] w fun e w' => Out a (y.sign, 0) w e w' := by
  have hb0 := (Below.refl w.heap.size w).alloc (Nat.le_refl _) (.cells #[.int .i64 x, .int .i64 y] 119)
  have HB := Lib.hid hb0.drew
  have c1 : (w.alloc (.cells #[.int .i64 x, .int .i64 y] 119)).cell? ⟨w.heap.size, 0, none⟩ = some (.int .i64 x) := by simp
  have c2 : (w.alloc (.cells #[.int .i64 x, .int .i64 y] 119)).cell? ⟨w.heap.size, 1, none⟩ = some (.int .i64 y) := by simp
  have HK : Hid (∀ W W2, W.heap.size ≥ w.heap.size + 1 → (W.cell? ⟨w.heap.size, 0, none⟩ = some (.int .i64 x) ∧ W.cell? ⟨w.heap.size, 1, none⟩ = some (.int .i64 y)) → Below W.heap.size W W2 → W2.cell? ⟨w.heap.size, 0, none⟩ = some (.int .i64 x) ∧ W2.cell? ⟨w.heap.size, 1, none⟩ = some (.int .i64 y)) := Lib.hid (fun W W2 hl hk h => ⟨(h.cell (p := ⟨w.heap.size, 0, none⟩) (by show w.heap.size < W.heap.size; omega)).trans hk.1, (h.cell (p := ⟨w.heap.size, 1, none⟩) (by show w.heap.size < W.heap.size; omega)).trans hk.2⟩)
  clear hb0
  have HP := Lib.hid (fun n W => pass_0 x y n W)
  have HQ := Lib.hid (fun W => sign_c x y W)
  go_enter Tryz.func93, Tryz.ntmps93
  go_wp2_with fail
  go_region_held_law (fun w' => w'.cell? ⟨w.heap.size, 0, none⟩ = some (.int .i64 x) ∧ w'.cell? ⟨w.heap.size, 1, none⟩ = some (.int .i64 y)) (first | exact ⟨c1, c2⟩ | exact ⟨k0, k1⟩ | exact ⟨k2, k3⟩ | go_keep) (first | (go_at_call 94; refine (HQ.out _).mono ?_; rintro e w2 ⟨rfl, hb2⟩; have HB2 := Lib.hid hb2; obtain ⟨k0, k1⟩ := HK.out _ _ (by simp) (by simp) hb2; clear hb2) | (go_at_call 91; refine (HP.out _ _).mono ?_; rintro e w3 ⟨rfl, hb3⟩; have HB3 := Lib.hid hb3; have hsz := HB2.out.size; simp at hsz; obtain ⟨k2, k3⟩ := HK.out _ _ hsz ⟨k0, k1⟩ hb3; clear hb3 hsz))
  all_goals go_wp2
  all_goals go_ret2
  all_goals exact Out.mk rfl (.inl ⟨rfl, rfl⟩) (HB.out.trans ((HB2.out.trans (HB3.out.mono HB2.out.size)).mono HB.out.size))
theorem pass_div (x y n : Int) (W : World) (b : Nat) (h0 : W.cell? ⟨b, 0, none⟩ = some (fnV 97)) (h1 : W.cell? ⟨b, 1, none⟩ = some (fnV 131)) (hl : b < W.heap.size) : Calls Tryz.prog 91 #[chkV x y, .int .i64 n, .slice (some ⟨b, 0, none⟩) 2 2] W fun e W' => e = .returned (.tuple #[.int .i64 (okR2 (if (divR x y).2 = 101 then faultV 101 else .nilIface) (failV (x != -9223372036854775808 || y != -1)) n), okV2 (if (divR x y).2 = 101 then faultV 101 else .nilIface) (failV (x != -9223372036854775808 || y != -1))]) ∧ Below W.heap.size W W' := by
  refine (pass_2 x y n W b 97 131 _ _ h0 h1 hl (chk_div W x y) (chk_quo W x y) ?_ (failV_form _)).mono ?_
  · split
    · exact .inr ⟨_, _, rfl⟩
    · exact .inl rfl
  · rintro e W' ⟨rfl, hb⟩
    refine ⟨?_, hb⟩
    unfold okR2 okV2
    split <;> rfl
set_option maxRecDepth 100000 in
set_option maxHeartbeats 2000000 in
theorem do_div (a : Addr) (x y : Int) (hx : In x) (hy : In y) (w : World) : Calls Tryz.prog 130 #[chkV x y] w fun e w' => Out a (divR x y) w e w' := by
  have hb0 := (Below.refl w.heap.size w).alloc (Nat.le_refl _) (.cells #[.int .i64 x, .int .i64 y] 119)
  have HB := Lib.hid hb0.drew
  have c1 : (w.alloc (.cells #[.int .i64 x, .int .i64 y] 119)).cell? ⟨w.heap.size, 0, none⟩ = some (.int .i64 x) := by simp
  have c2 : (w.alloc (.cells #[.int .i64 x, .int .i64 y] 119)).cell? ⟨w.heap.size, 1, none⟩ = some (.int .i64 y) := by simp
  have HK : Hid (∀ W W2, W.heap.size ≥ w.heap.size + 1 → (W.cell? ⟨w.heap.size, 0, none⟩ = some (.int .i64 x) ∧ W.cell? ⟨w.heap.size, 1, none⟩ = some (.int .i64 y)) → Below W.heap.size W W2 → W2.cell? ⟨w.heap.size, 0, none⟩ = some (.int .i64 x) ∧ W2.cell? ⟨w.heap.size, 1, none⟩ = some (.int .i64 y)) := Lib.hid (fun W W2 hl hk h => ⟨(h.cell (p := ⟨w.heap.size, 0, none⟩) (by show w.heap.size < W.heap.size; omega)).trans hk.1, (h.cell (p := ⟨w.heap.size, 1, none⟩) (by show w.heap.size < W.heap.size; omega)).trans hk.2⟩)
  clear hb0
  have HP := Lib.hid (fun n W b h0 h1 hl => pass_div x y n W b h0 h1 hl)
  have HO := Lib.hid (fail_div a x y hx hy)
  obtain ⟨v, hv⟩ : ∃ v : Value, v = (if (divR x y).2 = 101 then faultV 101 else .nilIface) := ⟨_, rfl⟩
  obtain ⟨v2, hv2⟩ : ∃ v, v = failV (x != -9223372036854775808 || y != -1) := ⟨_, rfl⟩
  rw [← hv, ← hv2] at HP HO
  obtain ⟨D, hD⟩ : ∃ D, D = divR x y := ⟨_, rfl⟩
  rw [← hD] at HO ⊢
  have HQ := Lib.hid (fun W => quotient_c x y W)
  obtain ⟨q, hq⟩ : ∃ q, q = quoR x y := ⟨_, rfl⟩
  rw [← hq] at HQ HO
  clear hv hv2 hD hq
  go_enter Tryz.func130, Tryz.ntmps130
  go_wp2_with fail
  go_region_held_law (fun w' => w'.cell? ⟨w.heap.size, 0, none⟩ = some (.int .i64 x) ∧ w'.cell? ⟨w.heap.size, 1, none⟩ = some (.int .i64 y)) (first | exact ⟨c1, c2⟩ | exact ⟨k0, k1⟩ | exact ⟨k2, k3⟩ | (constructor <;> simp [*] <;> done) | go_keep) (first | (go_at_call 96; refine (HQ.out _).mono ?_; rintro e w2 ⟨rfl, hb2⟩; have HB2 := Lib.hid hb2; obtain ⟨k0, k1⟩ := HK.out _ _ (by simp) (by simp) hb2; clear hb2) | (go_at_call 91; refine (HP.out _ _ _ (by first | simp | exact (HB2.out.cell (p := ⟨w.heap.size + 1, 0, none⟩) (by simp)).trans (by simp)) (by first | simp | exact (HB2.out.cell (p := ⟨w.heap.size + 1, 1, none⟩) (by simp)).trans (by simp)) (by first | simp | (have h := HB2.out.size; simp at h; omega))).mono ?_; rintro e w3 ⟨rfl, hb3⟩; have HB3 := Lib.hid hb3; have hsz := HB2.out.size; simp at hsz; obtain ⟨k2, k3⟩ := HK.out _ _ (by first | exact hsz | (simp; omega) | omega) (by first | exact ⟨k0, k1⟩ | simp [*]) hb3; clear hb3 hsz))
  all_goals go_wp2
  all_goals go_ret2
  all_goals have hA : Below w.heap.size w w2 := by first | exact HB.out.trans (HB2.out.mono HB.out.size) | exact (HB.out.alloc HB.out.size _).trans (HB2.out.mono (HB.out.alloc HB.out.size _).size)
  all_goals have hC : Below w.heap.size w w3 := by first | exact hA.trans (HB3.out.mono hA.size) | exact (hA.alloc hA.size _).trans (HB3.out.mono (hA.alloc hA.size _).size)
  all_goals exact Out.mk HO.out.2 HO.out.1 hC
end Go.Proofs.YthlkgfplffdiaaaGreatDoor.Nu
/- The functions that stand in number's maps: what times y is 1; comparisons. -/
namespace Go.Proofs.YthlkgfplffdiaaaGreatDoor.Nu
open Go Go.RowKit Go.Shelf
attribute [local go_sem] Oper.semAt_some

theorem fail_inv (a : Addr) (y : Int) (hy : In y) : FailV a (if (divR 1 y).2 = 101 then faultV 101 else .nilIface) (divR 1 y).2 ∧ okR (if (divR 1 y).2 = 101 then faultV 101 else .nilIface) (quoR 1 y) = (divR 1 y).1 := by
  have h := fail_div a 1 y (by decide) hy
  have e : failV ((1 : Int) != -9223372036854775808 || y != -1) = .nilIface := rfl
  rw [e] at h
  unfold okV2 okR2 at h
  by_cases hd : (divR 1 y).2 = 101
  · rw [if_pos hd] at h ⊢
    exact h
  · rw [if_neg hd] at h ⊢
    exact h
theorem pass_inv (y n : Int) (W : World) (b : Nat) (h0 : W.cell? ⟨b, 0, none⟩ = some (fnV 97)) (hl : b < W.heap.size) : Calls Tryz.prog 91 #[chkV 1 y, .int .i64 n, .slice (some ⟨b, 0, none⟩) 1 1] W fun e W' => e = .returned (.tuple #[.int .i64 (okR (if (divR 1 y).2 = 101 then faultV 101 else .nilIface) n), if (divR 1 y).2 = 101 then faultV 101 else .nilIface]) ∧ Below W.heap.size W W' := by
  refine pass_1 1 y n W b 97 _ h0 hl (chk_div W 1 y) ?_
  split
  · exact .inr ⟨_, _, rfl⟩
  · exact .inl rfl
set_option maxRecDepth 100000 in
set_option maxHeartbeats 2000000 in
theorem do_inv (a : Addr) (y : Int) (hy : In y) (w : World) : Calls Tryz.prog 95 #[chkV 0 y] w fun e w' => Out a (divR 1 y) w e w' := by
  have hb0 := (Below.refl w.heap.size w).alloc (Nat.le_refl _) (.cells #[.int .i64 1, .int .i64 y] 119)
  have HB := Lib.hid hb0.drew
  have c1 : (w.alloc (.cells #[.int .i64 1, .int .i64 y] 119)).cell? ⟨w.heap.size, 0, none⟩ = some (.int .i64 1) := by simp
  have c2 : (w.alloc (.cells #[.int .i64 1, .int .i64 y] 119)).cell? ⟨w.heap.size, 1, none⟩ = some (.int .i64 y) := by simp
  have HK : Hid (∀ W W2, W.heap.size ≥ w.heap.size + 1 → (W.cell? ⟨w.heap.size, 0, none⟩ = some (.int .i64 1) ∧ W.cell? ⟨w.heap.size, 1, none⟩ = some (.int .i64 y)) → Below W.heap.size W W2 → W2.cell? ⟨w.heap.size, 0, none⟩ = some (.int .i64 1) ∧ W2.cell? ⟨w.heap.size, 1, none⟩ = some (.int .i64 y)) := Lib.hid (fun W W2 hl hk h => ⟨(h.cell (p := ⟨w.heap.size, 0, none⟩) (by show w.heap.size < W.heap.size; omega)).trans hk.1, (h.cell (p := ⟨w.heap.size, 1, none⟩) (by show w.heap.size < W.heap.size; omega)).trans hk.2⟩)
  clear hb0
  have HP := Lib.hid (fun n W b h0 hl => pass_inv y n W b h0 hl)
  have HO := Lib.hid (fail_inv a y hy)
  obtain ⟨v, hv⟩ : ∃ v : Value, v = (if (divR 1 y).2 = 101 then faultV 101 else .nilIface) := ⟨_, rfl⟩
  rw [← hv] at HP HO
  obtain ⟨D, hD⟩ : ∃ D, D = divR 1 y := ⟨_, rfl⟩
  rw [← hD] at HO ⊢
  have HQ := Lib.hid (fun W => quotient_c 1 y W)
  obtain ⟨q, hq⟩ : ∃ q, q = quoR 1 y := ⟨_, rfl⟩
  rw [← hq] at HQ HO
  clear hv hD hq
  go_enter Tryz.func95, Tryz.ntmps95
  go_wp2_with fail
  go_region_held_law (fun w' => w'.cell? ⟨w.heap.size, 0, none⟩ = some (.int .i64 1) ∧ w'.cell? ⟨w.heap.size, 1, none⟩ = some (.int .i64 y)) (first | exact ⟨c1, c2⟩ | exact ⟨k0, k1⟩ | exact ⟨k2, k3⟩ | (constructor <;> simp [*] <;> done) | go_keep) (first | (go_at_call 96; refine (HQ.out _).mono ?_; rintro e w2 ⟨rfl, hb2⟩; have HB2 := Lib.hid hb2; obtain ⟨k0, k1⟩ := HK.out _ _ (by simp) (by simp) hb2; clear hb2) | (go_at_call 91; refine (HP.out _ _ _ (by first | simp | exact (HB2.out.cell (p := ⟨w.heap.size + 1, 0, none⟩) (by simp)).trans (by simp)) (by first | simp | (have h := HB2.out.size; simp at h; omega))).mono ?_; rintro e w3 ⟨rfl, hb3⟩; have HB3 := Lib.hid hb3; have hsz := HB2.out.size; simp at hsz; obtain ⟨k2, k3⟩ := HK.out _ _ (by first | exact hsz | (simp; omega) | omega) (by first | exact ⟨k0, k1⟩ | simp [*]) hb3; clear hb3 hsz))
  all_goals go_wp2
  all_goals go_ret2
  all_goals have hA : Below w.heap.size w w2 := by first | exact HB.out.trans (HB2.out.mono HB.out.size) | exact (HB.out.alloc HB.out.size _).trans (HB2.out.mono (HB.out.alloc HB.out.size _).size)
  all_goals have hC : Below w.heap.size w w3 := by first | exact hA.trans (HB3.out.mono hA.size) | exact (hA.alloc hA.size _).trans (HB3.out.mono (hA.alloc hA.size _).size)
  all_goals exact Out.mk HO.out.2 HO.out.1 hC
/-- A comparison's closure: its glyph lies in block b. -/
abbrev cmpV (b : Nat) : Value := .func (.func 154) #[] #[.pointer (some ⟨b, 0, none⟩)]
theorem compared_c (g : ByteArray) (w : World) : Calls Tryz.prog 136 #[.string g] w fun e w' => e = .returned (cmpV w.heap.size) ∧ w' = w.alloc (.cells #[.string g] 9) := by
  go_enter Tryz.func136, Tryz.ntmps136
  go_wp2
  go_ret
  exact ⟨rfl, rfl⟩
set_option maxRecDepth 100000 in
theorem do_cmp (a : Addr) (x y : Int) (g : ByteArray) (c : Bool) (b : Nat) (w : World) (hb : w.cell? ⟨b, 0, none⟩ = some (.string g)) (hbl : b < w.heap.size) (hH : ∀ W, Calls Tryz.prog 155 #[pairV x y, .string g] W fun e w' => e = .returned (.bool c) ∧ Below W.heap.size W w') : Calls Tryz.prog 154 #[chkV x y, .pointer (some ⟨b, 0, none⟩)] w fun e w' => Out a (bit c, 0) w e w' := by
  have hb0 := (Below.refl w.heap.size w).alloc (Nat.le_refl _) (.cells #[.int .i64 x, .int .i64 y] 119)
  have HB := Lib.hid hb0
  have c0 := (hb0.cell (p := ⟨b, 0, none⟩) hbl).trans hb
  have HH := Lib.hid hH
  have HP := Lib.hid (fun n W => pass_0 x y n W)
  have HK : Hid (∀ W, Below (w.alloc (.cells #[.int .i64 x, .int .i64 y] 119)).heap.size (w.alloc (.cells #[.int .i64 x, .int .i64 y] 119)) W → W.cell? ⟨w.heap.size, 0, none⟩ = some (.int .i64 x) ∧ W.cell? ⟨w.heap.size, 1, none⟩ = some (.int .i64 y)) := Lib.hid (fun W h => ⟨(h.cell (p := ⟨w.heap.size, 0, none⟩) (by simp)).trans (by simp), (h.cell (p := ⟨w.heap.size, 1, none⟩) (by simp)).trans (by simp)⟩)
  clear hb0 hb hH
  cases c
  · go_enter Tryz.func154, Tryz.ntmps154
    go_wp2_with (first | (go_at_call 155; refine (HH.out _).mono ?_; rintro e w2 ⟨rfl, hb2⟩; have HB2 := Lib.hid (HB.out.trans (hb2.mono HB.out.size)); obtain ⟨k0, k1⟩ := HK.out _ hb2; clear hb2) | (go_at_call 91; refine (HP.out _ _).mono ?_; rintro e w3 ⟨rfl, hb3⟩; have HB3 := Lib.hid (HB2.out.trans (hb3.mono HB2.out.size)); clear hb3))
    go_ret2
    exact Out.mk rfl (.inl ⟨rfl, rfl⟩) HB3.out
  · go_enter Tryz.func154, Tryz.ntmps154
    go_wp2_with (first | (go_at_call 155; refine (HH.out _).mono ?_; rintro e w2 ⟨rfl, hb2⟩; have HB2 := Lib.hid (HB.out.trans (hb2.mono HB.out.size)); obtain ⟨k0, k1⟩ := HK.out _ hb2; clear hb2) | (go_at_call 91; refine (HP.out _ _).mono ?_; rintro e w3 ⟨rfl, hb3⟩; have HB3 := Lib.hid (HB2.out.trans (hb3.mono HB2.out.size)); clear hb3))
    go_ret2
    exact Out.mk rfl (.inl ⟨rfl, rfl⟩) HB3.out
end Go.Proofs.YthlkgfplffdiaaaGreatDoor.Nu
