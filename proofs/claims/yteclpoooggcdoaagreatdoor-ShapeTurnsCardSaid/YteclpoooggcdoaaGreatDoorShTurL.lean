/- The statement ShapeTurns (by wip/gen/mkshturns.py). -/
import Derived.Test.YteclpoooggcdoaaGreatDoorShCntL
import Derived.Test.YteclpoooggcdoaaGreatDoorShFact
import Derived.Test.YteclpoooggcdoaaGreatDoorShMk7
namespace Go.Proofs.YteclpoooggcdoaaGreatDoor.Ar
open Go Go.RowKit Go.Shelf
attribute [local go_sem] Oper.semAt_some

set_option maxRecDepth 100000 in
set_option maxHeartbeats 16000000 in
theorem turns_true (w : World) (hG : AG w) (x : Int) (hx : Nu.In x) (b : Ary) (t : Value) (hb : KL w t b.n) (hib : InL b.n) : Calls Tryz.prog 5 #[aryV b t, .int .i64 x] w fun e w' => e = .returned (.bool true) ∧ Below w.heap.size w w' := by
  obtain ⟨bL, bR, bN⟩ := b
  obtain ⟨ta, tc, rfl, -, -⟩ := hb.form
  dsimp only [aryV] at *
  obtain ⟨bn, hbn⟩ : ∃ n, n = bN.length := ⟨_, rfl⟩
  obtain ⟨Y, hY⟩ : ∃ X, X = bN.take 202 := ⟨_, rfl⟩
  have HFb : Hid (∀ W, Below w.heap.size w W → Calls Tryz.prog 12 #[.agg #[.bool bL, .bool bR, .slice ta bn tc]] W fun e w' => ∃ xa xn xc, e = .returned (.agg #[.bool bL, .bool bR, .slice xa xn xc]) ∧ KL w' (.slice xa xn xc) Y ∧ Below W.heap.size W w') := Lib.hid (fun W hW => by
    rw [hbn, hY]
    refine (few_c ⟨bL, bR, bN⟩ _ W (hb.below hW)).mono ?_
    rintro e w' ⟨x, rfl, hk, hb⟩
    obtain ⟨xa, xc, rfl, -, -⟩ := hk.form
    exact ⟨_, _, _, rfl, hk, hb⟩)
  have HIY : Hid (InL Y) := Lib.hid (by rw [hY]; exact fun x hx => hib x (List.mem_of_mem_take hx))
  have HLY : Hid (Y.length ≤ 202) := Lib.hid (by rw [hY, List.length_take]; omega)
  rw [← hbn]
  obtain ⟨u0, hu0⟩ : ∃ u0, u0 = (w.alloc (.cells #[.bool bL, .bool bR, .slice ta bn tc] 24)) := ⟨_, rfl⟩
  have hb0 : Below w.heap.size w u0 := by rw [hu0]; exact (Below.refl _ w).alloc (Nat.le_refl _) _
  have HRb0 : Hid (Row u0 w.heap.size 24 #[.bool bL, .bool bR, .slice ta bn tc]) := Lib.hid (by rw [hu0]; exact Row.new _ _ _)
  have HB0 := Lib.hid hb0
  have hsh := shown12_c u0 (hG.below hb0)
  have HET : Hid (∀ W, Below w.heap.size w W → Nu.ErrT W) := Lib.hid (fun W h => (hG.below h).ng.2)
  have HAG : Hid (∀ W, Below w.heap.size w W → AG W) := Lib.hid (fun W h => hG.below h)
  rw [hu0] at hsh
  have HSH := Lib.hid hsh
  have HU0 := Lib.hid hu0
  clear hb0 hsh hu0 hG hb hib hbn hY
  go_enter Tryz.func5, Tryz.ntmps5
  go_wp2_with fail
  refine HSH.out.mono ?_
  rintro e w1 ⟨rfl, hb⟩
  rw [← HU0.out] at hb
  have HR0_1 := Lib.hid (Row.below HRb0.out hb (Row.lt HRb0.out))
  have HB_1 := Lib.hid (HB0.out.trans (hb.mono HB0.out.size))
  clear hb HU0 HSH
  have hc := HFb.out w1 HB_1.out
  have HC := Lib.hid hc
  clear hc
  obtain ⟨p0a, p0b, p0c, -, -, -⟩ := srow3 HR0_1.out
  go_wp2_with fail
  refine HC.out.mono ?_
  rintro e w2 ⟨ya, yn, yc, rfl, hk, hb⟩
  clear HC
  clear p0a p0b p0c
  have HR0_2 := Lib.hid (Row.below HR0_1.out hb (Row.lt HR0_1.out))
  have HB_2 := Lib.hid (HB_1.out.trans (hb.mono HB_1.out.size))
  have HVY := Lib.hid (kl_len hk)
  have HKN2 := Lib.hid hk
  clear hb hk
  obtain ⟨u3, hu3⟩ : ∃ u, u = ((w2.setCell ⟨w.heap.size, 0, none⟩ (.bool bL)).setCell ⟨w.heap.size, 1, none⟩ (.bool bR)).setCell ⟨w.heap.size, 2, none⟩ (.slice ya yn yc) := ⟨_, rfl⟩
  have HR0_3 : Hid (Row u3 w.heap.size 24 #[.bool bL, .bool bR, .slice ya yn yc]) := Lib.hid (by rw [hu3]; exact srow_set3 HR0_2.out _ _ _)
  have HK0_3 : Hid (KL u3 _ _) := Lib.hid (by rw [hu3]; exact skl_set3 HKN2.out HR0_2.out _ _ _)
  have HB_3 : Hid (Below w.heap.size w u3) := Lib.hid (by rw [hu3]; exact ((HB_2.out.setCell (p := ⟨w.heap.size, 0, none⟩) (by show w.heap.size ≤ w.heap.size; omega) _).setCell (p := ⟨w.heap.size, 1, none⟩) (by show w.heap.size ≤ w.heap.size; omega) _).setCell (p := ⟨w.heap.size, 2, none⟩) (by show w.heap.size ≤ w.heap.size; omega) _)
  have HU3 := Lib.hid hu3
  clear hu3
  obtain ⟨s0, s1, s2, t0, t1, t2⟩ := srow3 HR0_2.out
  have HX := Lib.hid hx
  obtain ⟨rb, hrb⟩ : ∃ r, r = rightA ⟨bL, bR, Y⟩ := ⟨_, rfl⟩
  have HRB := Lib.hid hrb
  clear hrb
  cases rb
  · skip
    have HNO := Lib.hid (mon_no (g := ⟨#[226, 140, 189]⟩) HRB.out.symm)
    have hc := smon_c ⟨#[226, 140, 189]⟩ ⟨bL, bR, Y⟩ (.slice ya yn yc) u3 HK0_3.out HIY.out (HET.out _ HB_3.out)
    rw [HNO.out.1, HNO.out.2] at hc
    rw [HU3.out] at hc
    have HC := Lib.hid hc
    clear hc
    obtain ⟨p0a, p0b, p0c, -, -, -⟩ := srow3 HR0_3.out
    rw [HU3.out] at p0a p0b p0c
    go_wp2_with fail
    refine HC.out.mono ?_
    rintro e w4 ⟨ma4, mn4, mc4, rfl, hk, hb⟩
    clear HC
    clear s0 s1 s2 t0 t1 t2
    clear p0a p0b p0c
    rw [← HU3.out] at hb
    have HR0_4 := Lib.hid (Row.below HR0_3.out hb (Row.lt HR0_3.out))
    have HK0_4 := Lib.hid (HK0_3.out.below hb)
    have HB_4 := Lib.hid (HB_3.out.trans (hb.mono HB_3.out.size))
    have HKN4 := Lib.hid hk
    clear hb hk
    obtain ⟨u5, hu5⟩ : ∃ u, u = w4.alloc (.cells #[.bool false, .bool false, .slice ma4 mn4 mc4] 24) := ⟨_, rfl⟩
    have hbu : Below w4.heap.size w4 u5 := by rw [hu5]; exact (Below.refl _ _).alloc (Nat.le_refl _) _
    have HRN5 : Hid (Row u5 w4.heap.size 24 #[.bool false, .bool false, .slice ma4 mn4 mc4]) := Lib.hid (by rw [hu5]; exact Row.new _ _ _)
    have HR0_5 := Lib.hid (Row.below HR0_4.out hbu (Row.lt HR0_4.out))
    have HK0_5 := Lib.hid (HK0_4.out.below hbu)
    have HK1_5 := Lib.hid (HKN4.out.below hbu)
    have HB_5 := Lib.hid (HB_4.out.trans (hbu.mono HB_4.out.size))
    have HU5 := Lib.hid hu5
    clear hbu hu5
    have HNO2 := Lib.hid (mon_no (g := ⟨#[226, 140, 189]⟩) (b := ⟨false, false, []⟩) rfl)
    have hc := smon_c ⟨#[226, 140, 189]⟩ ⟨false, false, []⟩ (.slice ma4 mn4 mc4) u5 HK1_5.out (fun _ h => absurd h (by simp)) (HET.out _ HB_5.out)
    rw [HNO2.out.1, HNO2.out.2] at hc
    rw [HU5.out] at hc
    have HC := Lib.hid hc
    clear hc
    obtain ⟨p0a, p0b, p0c, -, -, -⟩ := srow3 HR0_5.out
    obtain ⟨p1a, p1b, p1c, -, -, -⟩ := srow3 HRN5.out
    rw [HU5.out] at p0a p0b p0c p1a p1b p1c
    go_wp2_with fail
    refine HC.out.mono ?_
    rintro e w6 ⟨ma6, mn6, mc6, rfl, hk, hb⟩
    clear HC
    clear p0a p0b p0c p1a p1b p1c
    rw [← HU5.out] at hb
    have HR0_6 := Lib.hid (Row.below HR0_5.out hb (Row.lt HR0_5.out))
    have HR1_6 := Lib.hid (Row.below HRN5.out hb (Row.lt HRN5.out))
    have HK0_6 := Lib.hid (HK0_5.out.below hb)
    have HK1_6 := Lib.hid (HK1_5.out.below hb)
    have HB_6 := Lib.hid (HB_5.out.trans (hb.mono HB_5.out.size))
    have HKN6 := Lib.hid hk
    clear hb hk
    obtain ⟨u7, hu7⟩ : ∃ u, u = w6.alloc (.cells #[.bool false, .bool false, .slice ma6 mn6 mc6] 24) := ⟨_, rfl⟩
    have hbu : Below w6.heap.size w6 u7 := by rw [hu7]; exact (Below.refl _ _).alloc (Nat.le_refl _) _
    have HRN7 : Hid (Row u7 w6.heap.size 24 #[.bool false, .bool false, .slice ma6 mn6 mc6]) := Lib.hid (by rw [hu7]; exact Row.new _ _ _)
    have HR0_7 := Lib.hid (Row.below HR0_6.out hbu (Row.lt HR0_6.out))
    have HR1_7 := Lib.hid (Row.below HR1_6.out hbu (Row.lt HR1_6.out))
    have HK0_7 := Lib.hid (HK0_6.out.below hbu)
    have HK1_7 := Lib.hid (HK1_6.out.below hbu)
    have HK2_7 := Lib.hid (HKN6.out.below hbu)
    have HB_7 := Lib.hid (HB_6.out.trans (hbu.mono HB_6.out.size))
    have HU7 := Lib.hid hu7
    clear hbu hu7
    have hdn := dy_no (g := ⟨#[226, 140, 189]⟩) (a := ⟨false, false, [x]⟩) (b := ⟨bL, bR, Y⟩) (by rw [← HRB.out]; rfl)
    have HDY : Hid (∀ W p q r, KL W (.slice p q r) [x] → KL W (.slice ya yn yc) Y → Below w.heap.size w W → Calls Tryz.prog 16 #[.string ⟨#[226, 140, 189]⟩, .agg #[.bool false, .bool false, .slice p q r], .agg #[.bool bL, .bool bR, .slice ya yn yc]] W fun e w' => ∃ va vn vc, e = .returned (.tuple #[.agg #[.bool false, .bool false, .slice va vn vc], .int .i64 114]) ∧ KL w' (.slice va vn vc) [] ∧ Below W.heap.size W w') := Lib.hid (fun W p q r h1 h2 hw => by
      have := sdy_c ⟨#[226, 140, 189]⟩ ⟨false, false, [x]⟩ ⟨bL, bR, Y⟩ (.slice p q r) (.slice ya yn yc) W h1 h2 (in_int HX.out) HIY.out (HET.out W hw)
      rw [hdn.1, hdn.2] at this
      exact this)
    clear hdn
    go_wp2_with fail
    rw [← HU7.out]
    have hlt8 := Row.lt HR0_7.out
    have HIKD : Hid (IK u7 [] [(w.heap.size, 24, #[.bool bL, .bool bR, .slice ya yn yc])] (.slice ya yn yc) (Y) u7) := Lib.hid ⟨⟨Below.refl _ _, (fun _ hk => absurd hk (by simp)), fun r hr => by
      obtain rfl : r = _ := by simpa using hr
      exact HR0_7.out⟩, HK0_7.out⟩
    refine (wpIn_wide (n := 9)).1 ?_
    refine wpIn_region_putO (by kernel_rfl) (by kernel_rfl) [8] (fun z => if z = 8 then 5 else 0) (fun z => if z = 8 then 7 else 0) (fun j => keepK ([.val (.int .i64 (x)), .sl ((fun s => .agg #[.bool false, .bool false, s])) ([x]), .val (.agg #[.bool bL, .bool bR, .slice ya yn yc]), .sl ((fun s => .tuple #[.agg #[.bool false, .bool false, s], .int .i64 114])) ([]), .sl ((fun s => .tuple #[.agg #[.bool false, .bool false, s], .int .i64 114])) ([]), .sl ((fun s => .agg #[.bool false, .bool false, s])) ([]), .val (.int .i64 114), .box (u7.heap.size), .any, .val (.int .i64 114)].getD j .any)) (by decide) (IK u7 [] [(w.heap.size, 24, #[.bool bL, .bool bR, .slice ya yn yc])] (.slice ya yn yc) (Y)) (fun i => PhS ([.val (.int .i64 (x)), .sl ((fun s => .agg #[.bool false, .bool false, s])) ([x]), .val (.agg #[.bool bL, .bool bR, .slice ya yn yc]), .sl ((fun s => .tuple #[.agg #[.bool false, .bool false, s], .int .i64 114])) ([]), .sl ((fun s => .tuple #[.agg #[.bool false, .bool false, s], .int .i64 114])) ([]), .sl ((fun s => .agg #[.bool false, .bool false, s])) ([]), .val (.int .i64 114), .box (u7.heap.size), .any, .val (.int .i64 114)].getD i .any)) (fun z u v => StO (u7.heap.size) u v) (fun W W' hb h => h.below hb) (fun i v W W' hb h => PhS.below hb h) (fun i u v W W' hb h => StO.below hb h) (HIKD.out.below (Below.refl _ _).drew) ?_ ?_ ?_
    · intro i oo listed a' W val ho hi hnz haf hS hIW hF
      have hi' : i < 10 := hi
      obtain rfl | rfl | rfl | rfl | rfl | rfl | rfl | rfl | rfl | rfl : i = 0 ∨ i = 1 ∨ i = 2 ∨ i = 3 ∨ i = 4 ∨ i = 5 ∨ i = 6 ∨ i = 7 ∨ i = 8 ∨ i = 9 := by omega
      · cases ho
        refine opG_plain rfl rfl ?_
        have q1 : a'.tmps[1]? = some (.int .i64 x) := (hS.tmpBase 1 (by kernel_rfl)).trans rfl
        refine op_valv (.int .i64 (x)) W (fun _ _ => trivial) ?_ ⟨Below.refl _ _, rfl⟩
        rw [Oper.semAt_plain _ _ _ (by intro c h; cases h)]
        simp [execOp, q1, go_sem]
      · cases ho
        refine opG_plain rfl rfl ?_
        have l0 : listed.getD 0 false = true := haf ⟨0, .data⟩ (Array.mem_of_getElem? (i := 0) rfl) rfl
        have q28 : a'.tmps[28]? = some (val 0) := hS.tmpSet 0 _ 28 rfl rfl (by simp) l0
        have h0 : PhS (.val (.int .i64 (x))) (val 0) W := hF 0 l0 rfl
        rw [show val 0 = .int .i64 (x) from h0] at q28
        refine op_callv 26 #[.int .i64 (x)] (fun _ _ => trivial) ?_ (by omega) ((callsIn_wide.2 (lone_c (x) W)).mono ?_)
        · rw [Oper.semAt_plain _ _ _ (by intro c h; cases h)]
          simp [execOp, q28, go_sem]
        · rintro e W2 ⟨va, vn, vc, rfl, hk, hb⟩
          exact ⟨_, rfl, hb, va, vn, vc, rfl, hk⟩
      · cases ho
        refine opG_plain rfl rfl ?_
        have q2 : a'.tmps[2]? = some (.pointer (some ⟨w.heap.size, 0, none⟩)) := (hS.tmpBase 2 (by kernel_rfl)).trans rfl
        have hr := hIW.1.2.2 _ (List.mem_of_getElem? (i := 0) rfl)
        obtain ⟨z0, z1, z2, -, -, -⟩ := srow3 hr
        refine op_valv (.agg #[.bool bL, .bool bR, .slice ya yn yc]) W (fun _ _ => trivial) ?_ ⟨Below.refl _ _, rfl⟩
        rw [Oper.semAt_plain _ _ _ (by intro c h; cases h)]
        simp [execOp, q2, z0, z1, z2, go_sem]
      · cases ho
        refine opG_plain rfl rfl ?_
        have l1 : listed.getD 1 false = true := haf ⟨1, .data⟩ (Array.mem_of_getElem? (i := 0) rfl) rfl
        have q29 : a'.tmps[29]? = some (val 1) := hS.tmpSet 1 _ 29 rfl rfl (by simp) l1
        have h1 : PhS (.sl ((fun s => .agg #[.bool false, .bool false, s])) ([x])) (val 1) W := hF 1 l1 rfl
        obtain ⟨va1, vn1, vc1, e1, hk1⟩ := h1
        rw [e1] at q29
        have l2 : listed.getD 2 false = true := haf ⟨2, .data⟩ (Array.mem_of_getElem? (i := 1) rfl) rfl
        have q30 : a'.tmps[30]? = some (val 2) := hS.tmpSet 2 _ 30 rfl rfl (by simp) l2
        have h2 : PhS (.val (.agg #[.bool bL, .bool bR, .slice ya yn yc])) (val 2) W := hF 2 l2 rfl
        rw [show val 2 = .agg #[.bool bL, .bool bR, .slice ya yn yc] from h2] at q30
        have hw := HB_7.out.trans (hIW.1.1.mono HB_7.out.size)
        refine op_callv 16 #[.string ⟨#[226, 140, 189]⟩, .agg #[.bool false, .bool false, .slice va1 vn1 vc1], .agg #[.bool bL, .bool bR, .slice ya yn yc]] (fun _ _ => trivial) ?_ (by omega) ((callsIn_wide.2 (HDY.out W va1 vn1 vc1 hk1 hIW.2 hw)).mono ?_)
        · rw [Oper.semAt_plain _ _ _ (by intro c h; cases h)]
          simp [execOp, q29, q30, go_sem]
        · rintro e W2 ⟨va, vn, vc, rfl, hk, hb⟩
          exact ⟨_, rfl, hb, va, vn, vc, rfl, hk⟩
      · cases ho
        refine opG_plain rfl rfl ?_
        have l3 : listed.getD 3 false = true := haf ⟨3, .data⟩ (Array.mem_of_getElem? (i := 0) rfl) rfl
        have q31 : a'.tmps[31]? = some (val 3) := hS.tmpSet 3 _ 31 rfl rfl (by simp) l3
        have h3 : PhS (.sl ((fun s => .tuple #[.agg #[.bool false, .bool false, s], .int .i64 114])) ([])) (val 3) W := hF 3 l3 rfl
        obtain ⟨va3, vn3, vc3, e3, hk3⟩ := h3
        rw [e3] at q31
        refine op_valv (((fun s => .tuple #[.agg #[.bool false, .bool false, s], .int .i64 114])) (.slice va3 vn3 vc3)) W (fun _ _ => trivial) ?_ ⟨Below.refl _ _, va3, vn3, vc3, rfl, hk3⟩
        rw [Oper.semAt_plain _ _ _ (by intro c h; cases h)]
        simp [execOp, q31, go_sem]
      · cases ho
        refine opG_plain rfl rfl ?_
        have l4 : listed.getD 4 false = true := haf ⟨4, .data⟩ (Array.mem_of_getElem? (i := 0) rfl) rfl
        have q27 : a'.tmps[27]? = some (val 4) := hS.tmpSet 4 _ 27 rfl rfl (by simp) l4
        have h4 : PhS (.sl ((fun s => .tuple #[.agg #[.bool false, .bool false, s], .int .i64 114])) ([])) (val 4) W := hF 4 l4 rfl
        obtain ⟨va4, vn4, vc4, e4, hk4⟩ := h4
        rw [e4] at q27
        refine op_valv (((fun s => .agg #[.bool false, .bool false, s])) (.slice va4 vn4 vc4)) W (fun _ _ => trivial) ?_ ⟨Below.refl _ _, va4, vn4, vc4, rfl, hk4⟩
        rw [Oper.semAt_plain _ _ _ (by intro c h; cases h)]
        simp [execOp, q27, go_sem]
      · cases ho
        refine opG_plain rfl rfl ?_
        have l4 : listed.getD 4 false = true := haf ⟨4, .data⟩ (Array.mem_of_getElem? (i := 0) rfl) rfl
        have q27 : a'.tmps[27]? = some (val 4) := hS.tmpSet 4 _ 27 rfl rfl (by simp) l4
        have h4 : PhS (.sl ((fun s => .tuple #[.agg #[.bool false, .bool false, s], .int .i64 114])) ([])) (val 4) W := hF 4 l4 rfl
        obtain ⟨va4, vn4, vc4, e4, hk4⟩ := h4
        rw [e4] at q27
        refine op_valv (.int .i64 114) W (fun _ _ => trivial) ?_ ⟨Below.refl _ _, rfl⟩
        rw [Oper.semAt_plain _ _ _ (by intro c h; cases h)]
        simp [execOp, q27, go_sem]
      · cases ho
        refine opG_plain rfl rfl ?_
        refine op_valv (.pointer (some ⟨W.heap.size, 0, none⟩)) (W.alloc (.cells #[.bool false, .bool false, .slice none 0 0] 24)) (fun _ _ => trivial) ?_ ⟨(Below.refl _ _).alloc (Nat.le_refl _) _, W.heap.size, rfl, hIW.1.1.size, _, _, _, _, _, Row.new _ _ _⟩
        rw [Oper.semAt_plain _ _ _ (by intro c h; cases h)]
        simp [execOp, go_sem]
      · exact absurd (by decide) hnz
      · cases ho
        refine opG_plain rfl rfl ?_
        have l6 : listed.getD 6 false = true := haf ⟨6, .data⟩ (Array.mem_of_getElem? (i := 0) rfl) rfl
        have q33 : a'.tmps[33]? = some (val 6) := hS.tmpSet 6 _ 33 rfl rfl (by simp) l6
        have h6 : PhS (.val (.int .i64 114)) (val 6) W := hF 6 l6 rfl
        rw [show val 6 = .int .i64 114 from h6] at q33
        refine op_valv (.int .i64 114) W (fun _ _ => trivial) ?_ ⟨Below.refl _ _, rfl⟩
        rw [Oper.semAt_plain _ _ _ (by intro c h; cases h)]
        simp [execOp, q33, go_sem]
    · intro z oo listed a' W val hz hu ho haf hS hIW hF hO
      have hz' : z = 8 := by simpa using hz
      obtain rfl := hz'
      · cases ho
        refine opG_plain rfl rfl ?_
        have l7 : listed.getD 7 false = true := haf ⟨7, .data⟩ (Array.mem_of_getElem? (i := 0) rfl) rfl
        have q10 : a'.tmps[10]? = some (val 7) := hS.tmpSet 7 _ 10 rfl rfl (by simp) l7
        have h7 : PhS (.box (u7.heap.size)) (val 7) W := hF 7 l7 (by show (_ || ((!listed.getD 8 false) && true)) = true; rw [hu]; rfl)
        obtain ⟨b7, e7, hb7, hx7⟩ := h7
        rw [e7] at q10
        have l5 : listed.getD 5 false = true := haf ⟨5, .data⟩ (Array.mem_of_getElem? (i := 1) rfl) rfl
        have q32 : a'.tmps[32]? = some (val 5) := hS.tmpSet 5 _ 32 rfl rfl (by simp) l5
        have h5 : PhS (.sl ((fun s => .agg #[.bool false, .bool false, s])) ([])) (val 5) W := hF 5 l5 rfl
        obtain ⟨va5, vn5, vc5, e5, hk5⟩ := h5
        rw [e5] at q32
        obtain ⟨hle, hbx⟩ := And.intro hb7 hx7
        have hbx' := hbx
        obtain ⟨x', y', a0', n', c', hr⟩ := hbx'
        obtain ⟨d0, d1, d2, f0, f1, f2⟩ := srow3 hr
        refine op_skipv (set3 W b7 (.bool false) (.bool false) (.slice va5 vn5 vc5)) (fun _ _ => trivial) ?_ ⟨IK.put hIW hle hbx (fun r hr => by simp only [List.mem_cons, List.not_mem_nil, or_false] at hr; rcases hr with rfl <;> (dsimp only; omega)) _ _ _ _ _, trivial, fun j hj hk => PhS.put hbx _ _ _ hk (hF j hj (by rw [hk]; rfl)), (show StO (u7.heap.size) (val 7) (val 5) _ from ⟨b7, e7, hb7, by rw [e5, e7]; exact StS.of hbx _ _ _⟩), fun y hy _ hne => absurd (by simpa using hy) hne⟩
        rw [Oper.semAt_plain _ _ _ (by intro c h; cases h)]
        simp [execOp, q10, q32, d0, d1, d2, f0, f1, f2, go_sem]
    · intro w8 val hIW hF hST
      have e0 : val 0 = .int .i64 (x) := hF 0 (by decide) rfl
      obtain ⟨va1, vn1, vc1, e1, hk1⟩ : PhS (.sl ((fun s => .agg #[.bool false, .bool false, s])) ([x])) (val 1) w8 := hF 1 (by decide) rfl
      have e2 : val 2 = .agg #[.bool bL, .bool bR, .slice ya yn yc] := hF 2 (by decide) rfl
      obtain ⟨va3, vn3, vc3, e3, hk3⟩ : PhS (.sl ((fun s => .tuple #[.agg #[.bool false, .bool false, s], .int .i64 114])) ([])) (val 3) w8 := hF 3 (by decide) rfl
      obtain ⟨va4, vn4, vc4, e4, hk4⟩ : PhS (.sl ((fun s => .tuple #[.agg #[.bool false, .bool false, s], .int .i64 114])) ([])) (val 4) w8 := hF 4 (by decide) rfl
      obtain ⟨va5, vn5, vc5, e5, hk5⟩ : PhS (.sl ((fun s => .agg #[.bool false, .bool false, s])) ([])) (val 5) w8 := hF 5 (by decide) rfl
      have e6 : val 6 = .int .i64 114 := hF 6 (by decide) rfl
      have e9 : val 9 = .int .i64 114 := hF 9 (by decide) rfl
      obtain ⟨bk8, ebk8, hbk8, hst8'⟩ : StO (u7.heap.size) (val 7) (val 5) w8 := hST 8 (by simp)
      have hst8 := hst8' _ _ _ _ ebk8 e5
      simp only [finAct, List.getElem?_toArray, List.getElem?_cons_zero, List.getElem?_cons_succ, Act.put, List.setIfInBounds_toArray, List.set_cons_zero, List.set_cons_succ, List.size_toArray, List.length_cons, List.length_nil, Nat.reduceAdd]
      simp only [e0, e1, e2, e3, e4, e5, e6, e9]
      have hb := hIW.1.1
      simp only [ebk8]
      obtain ⟨ra8, rfl⟩ : ∃ q, q = va5 := ⟨_, rfl⟩
      obtain ⟨rn8, rfl⟩ : ∃ q, q = vn5 := ⟨_, rfl⟩
      obtain ⟨rc8, rfl⟩ : ∃ q, q = vc5 := ⟨_, rfl⟩
      obtain ⟨rb8, rfl⟩ : ∃ q, q = bk8 := ⟨_, rfl⟩
      have HRN8 : Hid (Row w8 rb8 24 #[.bool false, .bool false, .slice ra8 rn8 rc8]) := Lib.hid hst8
      have HKN8 := Lib.hid hk5
      have HBK8 : Hid (u7.heap.size ≤ rb8) := Lib.hid hbk8
      clear hF hST hIW
      have HR0_8 := Lib.hid (Row.below HR0_7.out hb (Row.lt HR0_7.out))
      have HR1_8 := Lib.hid (Row.below HR1_7.out hb (Row.lt HR1_7.out))
      have HR2_8 := Lib.hid (Row.below HRN7.out hb (Row.lt HRN7.out))
      have HK0_8 := Lib.hid (HK0_7.out.below hb)
      have HK1_8 := Lib.hid (HK1_7.out.below hb)
      have HK2_8 := Lib.hid (HK2_7.out.below hb)
      have HB_8 := Lib.hid (HB_7.out.trans (hb.mono HB_7.out.size))
      clear hb
      go_wp2_with fail
      go_ret
      exact ⟨rfl, HB_8.out⟩
  · skip
    have HR1 := Lib.hid (rev_ok HRB.out.symm)
    have HR2 := Lib.hid (rev_ok (rt_rev HRB.out.symm))
    have HT1 := Lib.hid (turn_ok x HRB.out.symm)
    have hc := smon_c ⟨#[226, 140, 189]⟩ ⟨bL, bR, Y⟩ (.slice ya yn yc) u3 HK0_3.out HIY.out (HET.out _ HB_3.out)
    rw [HR1.out.1, HR1.out.2] at hc
    rw [HU3.out] at hc
    have HC := Lib.hid hc
    clear hc
    obtain ⟨p0a, p0b, p0c, -, -, -⟩ := srow3 HR0_3.out
    rw [HU3.out] at p0a p0b p0c
    go_wp2_with fail
    refine HC.out.mono ?_
    rintro e w4 ⟨ma4, mn4, mc4, rfl, hk, hb⟩
    clear HC
    clear s0 s1 s2 t0 t1 t2
    clear p0a p0b p0c
    rw [← HU3.out] at hb
    have HR0_4 := Lib.hid (Row.below HR0_3.out hb (Row.lt HR0_3.out))
    have HK0_4 := Lib.hid (HK0_3.out.below hb)
    have HB_4 := Lib.hid (HB_3.out.trans (hb.mono HB_3.out.size))
    have HKN4 := Lib.hid hk
    clear hb hk
    obtain ⟨u5, hu5⟩ : ∃ u, u = w4.alloc (.cells #[.bool bL, .bool bR, .slice ma4 mn4 mc4] 24) := ⟨_, rfl⟩
    have hbu : Below w4.heap.size w4 u5 := by rw [hu5]; exact (Below.refl _ _).alloc (Nat.le_refl _) _
    have HRN5 : Hid (Row u5 w4.heap.size 24 #[.bool bL, .bool bR, .slice ma4 mn4 mc4]) := Lib.hid (by rw [hu5]; exact Row.new _ _ _)
    have HR0_5 := Lib.hid (Row.below HR0_4.out hbu (Row.lt HR0_4.out))
    have HK0_5 := Lib.hid (HK0_4.out.below hbu)
    have HK1_5 := Lib.hid (HKN4.out.below hbu)
    have HB_5 := Lib.hid (HB_4.out.trans (hbu.mono HB_4.out.size))
    have HU5 := Lib.hid hu5
    clear hbu hu5
    have hrr := HR2.out.2
    rw [List.reverse_reverse] at hrr
    have HRR := Lib.hid (And.intro HR2.out.1 hrr)
    clear hrr
    have hc := smon_c ⟨#[226, 140, 189]⟩ ⟨bL, bR, Y.reverse⟩ (.slice ma4 mn4 mc4) u5 HK1_5.out (inL_sub HIY.out (fun _ h => List.mem_reverse.1 h)) (HET.out _ HB_5.out)
    rw [HRR.out.1, HRR.out.2] at hc
    rw [HU5.out] at hc
    have HC := Lib.hid hc
    clear hc
    obtain ⟨p0a, p0b, p0c, -, -, -⟩ := srow3 HR0_5.out
    obtain ⟨p1a, p1b, p1c, -, -, -⟩ := srow3 HRN5.out
    rw [HU5.out] at p0a p0b p0c p1a p1b p1c
    go_wp2_with fail
    refine HC.out.mono ?_
    rintro e w6 ⟨ma6, mn6, mc6, rfl, hk, hb⟩
    clear HC
    clear p0a p0b p0c p1a p1b p1c
    rw [← HU5.out] at hb
    have HR0_6 := Lib.hid (Row.below HR0_5.out hb (Row.lt HR0_5.out))
    have HR1_6 := Lib.hid (Row.below HRN5.out hb (Row.lt HRN5.out))
    have HK0_6 := Lib.hid (HK0_5.out.below hb)
    have HK1_6 := Lib.hid (HK1_5.out.below hb)
    have HB_6 := Lib.hid (HB_5.out.trans (hb.mono HB_5.out.size))
    have HKN6 := Lib.hid hk
    clear hb hk
    obtain ⟨u7, hu7⟩ : ∃ u, u = w6.alloc (.cells #[.bool bL, .bool bR, .slice ma6 mn6 mc6] 24) := ⟨_, rfl⟩
    have hbu : Below w6.heap.size w6 u7 := by rw [hu7]; exact (Below.refl _ _).alloc (Nat.le_refl _) _
    have HRN7 : Hid (Row u7 w6.heap.size 24 #[.bool bL, .bool bR, .slice ma6 mn6 mc6]) := Lib.hid (by rw [hu7]; exact Row.new _ _ _)
    have HR0_7 := Lib.hid (Row.below HR0_6.out hbu (Row.lt HR0_6.out))
    have HR1_7 := Lib.hid (Row.below HR1_6.out hbu (Row.lt HR1_6.out))
    have HK0_7 := Lib.hid (HK0_6.out.below hbu)
    have HK1_7 := Lib.hid (HK1_6.out.below hbu)
    have HK2_7 := Lib.hid (HKN6.out.below hbu)
    have HB_7 := Lib.hid (HB_6.out.trans (hbu.mono HB_6.out.size))
    have HU7 := Lib.hid hu7
    clear hbu hu7
    have HDY : Hid (∀ W p q r, KL W (.slice p q r) [x] → KL W (.slice ya yn yc) (Y) → Below w.heap.size w W → Calls Tryz.prog 16 #[.string ⟨#[226, 140, 189]⟩, .agg #[.bool false, .bool false, .slice p q r], .agg #[.bool bL, .bool bR, .slice ya yn yc]] W fun e w' => ∃ va vn vc, e = .returned (.tuple #[.agg #[.bool bL, .bool bR, .slice va vn vc], .int .i64 0]) ∧ KL w' (.slice va vn vc) (rotL x Y) ∧ Below W.heap.size W w') := Lib.hid (fun W p q r h1 h2 hw => by
      have := sdy_c ⟨#[226, 140, 189]⟩ ⟨false, false, [x]⟩ ⟨bL, bR, Y⟩ (.slice p q r) (.slice ya yn yc) W h1 h2 (in_int HX.out) HIY.out (HET.out W hw)
      rw [HT1.out.1, HT1.out.2] at this
      exact this)
    go_wp2_with fail
    rw [← HU7.out]
    have hlt8 := Row.lt HR0_7.out
    have HIKD : Hid (IK u7 [] [(w.heap.size, 24, #[.bool bL, .bool bR, .slice ya yn yc])] (.slice ya yn yc) (Y) u7) := Lib.hid ⟨⟨Below.refl _ _, (fun _ hk => absurd hk (by simp)), fun r hr => by
      obtain rfl : r = _ := by simpa using hr
      exact HR0_7.out⟩, HK0_7.out⟩
    refine (wpIn_wide (n := 9)).1 ?_
    refine wpIn_region_putO (by kernel_rfl) (by kernel_rfl) [8] (fun z => if z = 8 then 5 else 0) (fun z => if z = 8 then 7 else 0) (fun j => keepK ([.val (.int .i64 (x)), .sl ((fun s => .agg #[.bool false, .bool false, s])) ([x]), .val (.agg #[.bool bL, .bool bR, .slice ya yn yc]), .sl ((fun s => .tuple #[.agg #[.bool bL, .bool bR, s], .int .i64 0])) (rotL x Y), .sl ((fun s => .tuple #[.agg #[.bool bL, .bool bR, s], .int .i64 0])) (rotL x Y), .sl ((fun s => .agg #[.bool bL, .bool bR, s])) (rotL x Y), .val (.int .i64 0), .box (u7.heap.size), .any, .val (.int .i64 0)].getD j .any)) (by decide) (IK u7 [] [(w.heap.size, 24, #[.bool bL, .bool bR, .slice ya yn yc])] (.slice ya yn yc) (Y)) (fun i => PhS ([.val (.int .i64 (x)), .sl ((fun s => .agg #[.bool false, .bool false, s])) ([x]), .val (.agg #[.bool bL, .bool bR, .slice ya yn yc]), .sl ((fun s => .tuple #[.agg #[.bool bL, .bool bR, s], .int .i64 0])) (rotL x Y), .sl ((fun s => .tuple #[.agg #[.bool bL, .bool bR, s], .int .i64 0])) (rotL x Y), .sl ((fun s => .agg #[.bool bL, .bool bR, s])) (rotL x Y), .val (.int .i64 0), .box (u7.heap.size), .any, .val (.int .i64 0)].getD i .any)) (fun z u v => StO (u7.heap.size) u v) (fun W W' hb h => h.below hb) (fun i v W W' hb h => PhS.below hb h) (fun i u v W W' hb h => StO.below hb h) (HIKD.out.below (Below.refl _ _).drew) ?_ ?_ ?_
    · intro i oo listed a' W val ho hi hnz haf hS hIW hF
      have hi' : i < 10 := hi
      obtain rfl | rfl | rfl | rfl | rfl | rfl | rfl | rfl | rfl | rfl : i = 0 ∨ i = 1 ∨ i = 2 ∨ i = 3 ∨ i = 4 ∨ i = 5 ∨ i = 6 ∨ i = 7 ∨ i = 8 ∨ i = 9 := by omega
      · cases ho
        refine opG_plain rfl rfl ?_
        have q1 : a'.tmps[1]? = some (.int .i64 x) := (hS.tmpBase 1 (by kernel_rfl)).trans rfl
        refine op_valv (.int .i64 (x)) W (fun _ _ => trivial) ?_ ⟨Below.refl _ _, rfl⟩
        rw [Oper.semAt_plain _ _ _ (by intro c h; cases h)]
        simp [execOp, q1, go_sem]
      · cases ho
        refine opG_plain rfl rfl ?_
        have l0 : listed.getD 0 false = true := haf ⟨0, .data⟩ (Array.mem_of_getElem? (i := 0) rfl) rfl
        have q28 : a'.tmps[28]? = some (val 0) := hS.tmpSet 0 _ 28 rfl rfl (by simp) l0
        have h0 : PhS (.val (.int .i64 (x))) (val 0) W := hF 0 l0 rfl
        rw [show val 0 = .int .i64 (x) from h0] at q28
        refine op_callv 26 #[.int .i64 (x)] (fun _ _ => trivial) ?_ (by omega) ((callsIn_wide.2 (lone_c (x) W)).mono ?_)
        · rw [Oper.semAt_plain _ _ _ (by intro c h; cases h)]
          simp [execOp, q28, go_sem]
        · rintro e W2 ⟨va, vn, vc, rfl, hk, hb⟩
          exact ⟨_, rfl, hb, va, vn, vc, rfl, hk⟩
      · cases ho
        refine opG_plain rfl rfl ?_
        have q2 : a'.tmps[2]? = some (.pointer (some ⟨w.heap.size, 0, none⟩)) := (hS.tmpBase 2 (by kernel_rfl)).trans rfl
        have hr := hIW.1.2.2 _ (List.mem_of_getElem? (i := 0) rfl)
        obtain ⟨z0, z1, z2, -, -, -⟩ := srow3 hr
        refine op_valv (.agg #[.bool bL, .bool bR, .slice ya yn yc]) W (fun _ _ => trivial) ?_ ⟨Below.refl _ _, rfl⟩
        rw [Oper.semAt_plain _ _ _ (by intro c h; cases h)]
        simp [execOp, q2, z0, z1, z2, go_sem]
      · cases ho
        refine opG_plain rfl rfl ?_
        have l1 : listed.getD 1 false = true := haf ⟨1, .data⟩ (Array.mem_of_getElem? (i := 0) rfl) rfl
        have q29 : a'.tmps[29]? = some (val 1) := hS.tmpSet 1 _ 29 rfl rfl (by simp) l1
        have h1 : PhS (.sl ((fun s => .agg #[.bool false, .bool false, s])) ([x])) (val 1) W := hF 1 l1 rfl
        obtain ⟨va1, vn1, vc1, e1, hk1⟩ := h1
        rw [e1] at q29
        have l2 : listed.getD 2 false = true := haf ⟨2, .data⟩ (Array.mem_of_getElem? (i := 1) rfl) rfl
        have q30 : a'.tmps[30]? = some (val 2) := hS.tmpSet 2 _ 30 rfl rfl (by simp) l2
        have h2 : PhS (.val (.agg #[.bool bL, .bool bR, .slice ya yn yc])) (val 2) W := hF 2 l2 rfl
        rw [show val 2 = .agg #[.bool bL, .bool bR, .slice ya yn yc] from h2] at q30
        have hw := HB_7.out.trans (hIW.1.1.mono HB_7.out.size)
        refine op_callv 16 #[.string ⟨#[226, 140, 189]⟩, .agg #[.bool false, .bool false, .slice va1 vn1 vc1], .agg #[.bool bL, .bool bR, .slice ya yn yc]] (fun _ _ => trivial) ?_ (by omega) ((callsIn_wide.2 (HDY.out W va1 vn1 vc1 hk1 hIW.2 hw)).mono ?_)
        · rw [Oper.semAt_plain _ _ _ (by intro c h; cases h)]
          simp [execOp, q29, q30, go_sem]
        · rintro e W2 ⟨va, vn, vc, rfl, hk, hb⟩
          exact ⟨_, rfl, hb, va, vn, vc, rfl, hk⟩
      · cases ho
        refine opG_plain rfl rfl ?_
        have l3 : listed.getD 3 false = true := haf ⟨3, .data⟩ (Array.mem_of_getElem? (i := 0) rfl) rfl
        have q31 : a'.tmps[31]? = some (val 3) := hS.tmpSet 3 _ 31 rfl rfl (by simp) l3
        have h3 : PhS (.sl ((fun s => .tuple #[.agg #[.bool bL, .bool bR, s], .int .i64 0])) (rotL x Y)) (val 3) W := hF 3 l3 rfl
        obtain ⟨va3, vn3, vc3, e3, hk3⟩ := h3
        rw [e3] at q31
        refine op_valv (((fun s => .tuple #[.agg #[.bool bL, .bool bR, s], .int .i64 0])) (.slice va3 vn3 vc3)) W (fun _ _ => trivial) ?_ ⟨Below.refl _ _, va3, vn3, vc3, rfl, hk3⟩
        rw [Oper.semAt_plain _ _ _ (by intro c h; cases h)]
        simp [execOp, q31, go_sem]
      · cases ho
        refine opG_plain rfl rfl ?_
        have l4 : listed.getD 4 false = true := haf ⟨4, .data⟩ (Array.mem_of_getElem? (i := 0) rfl) rfl
        have q27 : a'.tmps[27]? = some (val 4) := hS.tmpSet 4 _ 27 rfl rfl (by simp) l4
        have h4 : PhS (.sl ((fun s => .tuple #[.agg #[.bool bL, .bool bR, s], .int .i64 0])) (rotL x Y)) (val 4) W := hF 4 l4 rfl
        obtain ⟨va4, vn4, vc4, e4, hk4⟩ := h4
        rw [e4] at q27
        refine op_valv (((fun s => .agg #[.bool bL, .bool bR, s])) (.slice va4 vn4 vc4)) W (fun _ _ => trivial) ?_ ⟨Below.refl _ _, va4, vn4, vc4, rfl, hk4⟩
        rw [Oper.semAt_plain _ _ _ (by intro c h; cases h)]
        simp [execOp, q27, go_sem]
      · cases ho
        refine opG_plain rfl rfl ?_
        have l4 : listed.getD 4 false = true := haf ⟨4, .data⟩ (Array.mem_of_getElem? (i := 0) rfl) rfl
        have q27 : a'.tmps[27]? = some (val 4) := hS.tmpSet 4 _ 27 rfl rfl (by simp) l4
        have h4 : PhS (.sl ((fun s => .tuple #[.agg #[.bool bL, .bool bR, s], .int .i64 0])) (rotL x Y)) (val 4) W := hF 4 l4 rfl
        obtain ⟨va4, vn4, vc4, e4, hk4⟩ := h4
        rw [e4] at q27
        refine op_valv (.int .i64 0) W (fun _ _ => trivial) ?_ ⟨Below.refl _ _, rfl⟩
        rw [Oper.semAt_plain _ _ _ (by intro c h; cases h)]
        simp [execOp, q27, go_sem]
      · cases ho
        refine opG_plain rfl rfl ?_
        refine op_valv (.pointer (some ⟨W.heap.size, 0, none⟩)) (W.alloc (.cells #[.bool false, .bool false, .slice none 0 0] 24)) (fun _ _ => trivial) ?_ ⟨(Below.refl _ _).alloc (Nat.le_refl _) _, W.heap.size, rfl, hIW.1.1.size, _, _, _, _, _, Row.new _ _ _⟩
        rw [Oper.semAt_plain _ _ _ (by intro c h; cases h)]
        simp [execOp, go_sem]
      · exact absurd (by decide) hnz
      · cases ho
        refine opG_plain rfl rfl ?_
        have l6 : listed.getD 6 false = true := haf ⟨6, .data⟩ (Array.mem_of_getElem? (i := 0) rfl) rfl
        have q33 : a'.tmps[33]? = some (val 6) := hS.tmpSet 6 _ 33 rfl rfl (by simp) l6
        have h6 : PhS (.val (.int .i64 0)) (val 6) W := hF 6 l6 rfl
        rw [show val 6 = .int .i64 0 from h6] at q33
        refine op_valv (.int .i64 0) W (fun _ _ => trivial) ?_ ⟨Below.refl _ _, rfl⟩
        rw [Oper.semAt_plain _ _ _ (by intro c h; cases h)]
        simp [execOp, q33, go_sem]
    · intro z oo listed a' W val hz hu ho haf hS hIW hF hO
      have hz' : z = 8 := by simpa using hz
      obtain rfl := hz'
      · cases ho
        refine opG_plain rfl rfl ?_
        have l7 : listed.getD 7 false = true := haf ⟨7, .data⟩ (Array.mem_of_getElem? (i := 0) rfl) rfl
        have q10 : a'.tmps[10]? = some (val 7) := hS.tmpSet 7 _ 10 rfl rfl (by simp) l7
        have h7 : PhS (.box (u7.heap.size)) (val 7) W := hF 7 l7 (by show (_ || ((!listed.getD 8 false) && true)) = true; rw [hu]; rfl)
        obtain ⟨b7, e7, hb7, hx7⟩ := h7
        rw [e7] at q10
        have l5 : listed.getD 5 false = true := haf ⟨5, .data⟩ (Array.mem_of_getElem? (i := 1) rfl) rfl
        have q32 : a'.tmps[32]? = some (val 5) := hS.tmpSet 5 _ 32 rfl rfl (by simp) l5
        have h5 : PhS (.sl ((fun s => .agg #[.bool bL, .bool bR, s])) (rotL x Y)) (val 5) W := hF 5 l5 rfl
        obtain ⟨va5, vn5, vc5, e5, hk5⟩ := h5
        rw [e5] at q32
        obtain ⟨hle, hbx⟩ := And.intro hb7 hx7
        have hbx' := hbx
        obtain ⟨x', y', a0', n', c', hr⟩ := hbx'
        obtain ⟨d0, d1, d2, f0, f1, f2⟩ := srow3 hr
        refine op_skipv (set3 W b7 (.bool bL) (.bool bR) (.slice va5 vn5 vc5)) (fun _ _ => trivial) ?_ ⟨IK.put hIW hle hbx (fun r hr => by simp only [List.mem_cons, List.not_mem_nil, or_false] at hr; rcases hr with rfl <;> (dsimp only; omega)) _ _ _ _ _, trivial, fun j hj hk => PhS.put hbx _ _ _ hk (hF j hj (by rw [hk]; rfl)), (show StO (u7.heap.size) (val 7) (val 5) _ from ⟨b7, e7, hb7, by rw [e5, e7]; exact StS.of hbx _ _ _⟩), fun y hy _ hne => absurd (by simpa using hy) hne⟩
        rw [Oper.semAt_plain _ _ _ (by intro c h; cases h)]
        simp [execOp, q10, q32, d0, d1, d2, f0, f1, f2, go_sem]
    · intro w8 val hIW hF hST
      have e0 : val 0 = .int .i64 (x) := hF 0 (by decide) rfl
      obtain ⟨va1, vn1, vc1, e1, hk1⟩ : PhS (.sl ((fun s => .agg #[.bool false, .bool false, s])) ([x])) (val 1) w8 := hF 1 (by decide) rfl
      have e2 : val 2 = .agg #[.bool bL, .bool bR, .slice ya yn yc] := hF 2 (by decide) rfl
      obtain ⟨va3, vn3, vc3, e3, hk3⟩ : PhS (.sl ((fun s => .tuple #[.agg #[.bool bL, .bool bR, s], .int .i64 0])) (rotL x Y)) (val 3) w8 := hF 3 (by decide) rfl
      obtain ⟨va4, vn4, vc4, e4, hk4⟩ : PhS (.sl ((fun s => .tuple #[.agg #[.bool bL, .bool bR, s], .int .i64 0])) (rotL x Y)) (val 4) w8 := hF 4 (by decide) rfl
      obtain ⟨va5, vn5, vc5, e5, hk5⟩ : PhS (.sl ((fun s => .agg #[.bool bL, .bool bR, s])) (rotL x Y)) (val 5) w8 := hF 5 (by decide) rfl
      have e6 : val 6 = .int .i64 0 := hF 6 (by decide) rfl
      have e9 : val 9 = .int .i64 0 := hF 9 (by decide) rfl
      obtain ⟨bk8, ebk8, hbk8, hst8'⟩ : StO (u7.heap.size) (val 7) (val 5) w8 := hST 8 (by simp)
      have hst8 := hst8' _ _ _ _ ebk8 e5
      simp only [finAct, List.getElem?_toArray, List.getElem?_cons_zero, List.getElem?_cons_succ, Act.put, List.setIfInBounds_toArray, List.set_cons_zero, List.set_cons_succ, List.size_toArray, List.length_cons, List.length_nil, Nat.reduceAdd]
      simp only [e0, e1, e2, e3, e4, e5, e6, e9]
      have hb := hIW.1.1
      simp only [ebk8]
      obtain ⟨ra8, rfl⟩ : ∃ q, q = va5 := ⟨_, rfl⟩
      obtain ⟨rn8, rfl⟩ : ∃ q, q = vn5 := ⟨_, rfl⟩
      obtain ⟨rc8, rfl⟩ : ∃ q, q = vc5 := ⟨_, rfl⟩
      obtain ⟨rb8, rfl⟩ : ∃ q, q = bk8 := ⟨_, rfl⟩
      have HRN8 : Hid (Row w8 rb8 24 #[.bool bL, .bool bR, .slice ra8 rn8 rc8]) := Lib.hid hst8
      have HKN8 := Lib.hid hk5
      have HBK8 : Hid (u7.heap.size ≤ rb8) := Lib.hid hbk8
      clear hF hST hIW
      have HR0_8 := Lib.hid (Row.below HR0_7.out hb (Row.lt HR0_7.out))
      have HR1_8 := Lib.hid (Row.below HR1_7.out hb (Row.lt HR1_7.out))
      have HR2_8 := Lib.hid (Row.below HRN7.out hb (Row.lt HRN7.out))
      have HK0_8 := Lib.hid (HK0_7.out.below hb)
      have HK1_8 := Lib.hid (HK1_7.out.below hb)
      have HK2_8 := Lib.hid (HK2_7.out.below hb)
      have HB_8 := Lib.hid (HB_7.out.trans (hb.mono HB_7.out.size))
      clear hb
      go_upto_region 8 with fail
      have hsame : sameA ⟨bL, bR, Y⟩ ⟨bL, bR, Y⟩ = true := by simp [sameA]
      have HSA := Lib.hid hsame
      clear hsame
      have hrn : rn8 = yn := by rw [kl_len HKN8.out, rotL_len, HVY.out]
      have HXB := Lib.hid HX.out
      by_cases h1 : x < -1000000
      · skip
        have hc := same_c ⟨bL, bR, Y⟩ ⟨bL, bR, Y⟩ (.slice ya yn yc) (.slice ma6 mn6 mc6) w8 HK0_8.out HK2_8.out
        rw [HSA.out] at hc
        have HC := Lib.hid hc
        clear hc
        obtain ⟨p0a, p0b, p0c, -, -, -⟩ := srow3 HR0_8.out
        obtain ⟨p1a, p1b, p1c, -, -, -⟩ := srow3 HR1_8.out
        obtain ⟨p2a, p2b, p2c, -, -, -⟩ := srow3 HR2_8.out
        obtain ⟨p3a, p3b, p3c, -, -, -⟩ := srow3 HRN8.out
        go_wp2_with fail
        refine HC.out.mono ?_
        rintro e w9 ⟨rfl, hb⟩
        clear HC
        clear p0a p0b p0c p1a p1b p1c p2a p2b p2c p3a p3b p3c
        have HR0_9 := Lib.hid (Row.below HR0_8.out hb (Row.lt HR0_8.out))
        have HR1_9 := Lib.hid (Row.below HR1_8.out hb (Row.lt HR1_8.out))
        have HR2_9 := Lib.hid (Row.below HR2_8.out hb (Row.lt HR2_8.out))
        have HR3_9 := Lib.hid (Row.below HRN8.out hb (Row.lt HRN8.out))
        have HK0_9 := Lib.hid (HK0_8.out.below hb)
        have HK1_9 := Lib.hid (HK1_8.out.below hb)
        have HK2_9 := Lib.hid (HK2_8.out.below hb)
        have HK3_9 := Lib.hid (HKN8.out.below hb)
        have HB_9 := Lib.hid (HB_8.out.trans (hb.mono HB_8.out.size))
        clear hb
        subst hrn
        obtain ⟨p0a, p0b, p0c, -, -, -⟩ := srow3 HR0_9.out
        obtain ⟨p1a, p1b, p1c, -, -, -⟩ := srow3 HR1_9.out
        obtain ⟨p2a, p2b, p2c, -, -, -⟩ := srow3 HR2_9.out
        obtain ⟨p3a, p3b, p3c, -, -, -⟩ := srow3 HR3_9.out
        go_wp2_with fail
        go_ret
        exact ⟨rfl, HB_9.out⟩
      · by_cases h2 : 1000000 < x
        · skip
          have hc := same_c ⟨bL, bR, Y⟩ ⟨bL, bR, Y⟩ (.slice ya yn yc) (.slice ma6 mn6 mc6) w8 HK0_8.out HK2_8.out
          rw [HSA.out] at hc
          have HC := Lib.hid hc
          clear hc
          obtain ⟨p0a, p0b, p0c, -, -, -⟩ := srow3 HR0_8.out
          obtain ⟨p1a, p1b, p1c, -, -, -⟩ := srow3 HR1_8.out
          obtain ⟨p2a, p2b, p2c, -, -, -⟩ := srow3 HR2_8.out
          obtain ⟨p3a, p3b, p3c, -, -, -⟩ := srow3 HRN8.out
          go_wp2_with fail
          refine HC.out.mono ?_
          rintro e w9 ⟨rfl, hb⟩
          clear HC
          clear p0a p0b p0c p1a p1b p1c p2a p2b p2c p3a p3b p3c
          have HR0_9 := Lib.hid (Row.below HR0_8.out hb (Row.lt HR0_8.out))
          have HR1_9 := Lib.hid (Row.below HR1_8.out hb (Row.lt HR1_8.out))
          have HR2_9 := Lib.hid (Row.below HR2_8.out hb (Row.lt HR2_8.out))
          have HR3_9 := Lib.hid (Row.below HRN8.out hb (Row.lt HRN8.out))
          have HK0_9 := Lib.hid (HK0_8.out.below hb)
          have HK1_9 := Lib.hid (HK1_8.out.below hb)
          have HK2_9 := Lib.hid (HK2_8.out.below hb)
          have HK3_9 := Lib.hid (HKN8.out.below hb)
          have HB_9 := Lib.hid (HB_8.out.trans (hb.mono HB_8.out.size))
          clear hb
          subst hrn
          obtain ⟨p0a, p0b, p0c, -, -, -⟩ := srow3 HR0_9.out
          obtain ⟨p1a, p1b, p1c, -, -, -⟩ := srow3 HR1_9.out
          obtain ⟨p2a, p2b, p2c, -, -, -⟩ := srow3 HR2_9.out
          obtain ⟨p3a, p3b, p3c, -, -, -⟩ := srow3 HR3_9.out
          go_wp2_with fail
          go_ret
          exact ⟨rfl, HB_9.out⟩
        · skip
          have hwn : IntKind.i64.wrap (-x) = -x := by rw [IntKind.wrap_i64]; omega
          have HXN : Hid (Nu.In (-x)) := Lib.hid (by constructor <;> omega)
          have ht2 := turn_ok (-x) (rt_rot x HRB.out.symm)
          rw [rot_back] at ht2
          have HT2 := Lib.hid ht2
          clear ht2
          have HDY2 : Hid (∀ W p q r, KL W (.slice p q r) [-x] → KL W (.slice ra8 rn8 rc8) (rotL x Y) → Below w.heap.size w W → Calls Tryz.prog 16 #[.string ⟨#[226, 140, 189]⟩, .agg #[.bool false, .bool false, .slice p q r], .agg #[.bool bL, .bool bR, .slice ra8 rn8 rc8]] W fun e w' => ∃ va vn vc, e = .returned (.tuple #[.agg #[.bool bL, .bool bR, .slice va vn vc], .int .i64 0]) ∧ KL w' (.slice va vn vc) (Y) ∧ Below W.heap.size W w') := Lib.hid (fun W p q r h1 h2 hw => by
            have := sdy_c ⟨#[226, 140, 189]⟩ ⟨false, false, [-x]⟩ ⟨bL, bR, rotL x Y⟩ (.slice p q r) (.slice ra8 rn8 rc8) W h1 h2 (in_int HXN.out) (inL_sub HIY.out (fun _ h => rotL_mem.1 h)) (HET.out W hw)
            rw [HT2.out.1, HT2.out.2] at this
            exact this)
          go_wp2_with fail
          have hlt9 := Row.lt HRN8.out
          have HIKD : Hid (IK w8 [] [(rb8, 24, #[.bool bL, .bool bR, .slice ra8 rn8 rc8])] (.slice ra8 rn8 rc8) (rotL x Y) w8) := Lib.hid ⟨⟨Below.refl _ _, (fun _ hk => absurd hk (by simp)), fun r hr => by
            obtain rfl : r = _ := by simpa using hr
            exact HRN8.out⟩, HKN8.out⟩
          refine (wpIn_wide (n := 9)).1 ?_
          refine wpIn_region_putO (by kernel_rfl) (by kernel_rfl) [9] (fun z => if z = 9 then 6 else 0) (fun z => if z = 9 then 8 else 0) (fun j => keepK ([.val (.int .i64 x), .val (.int .i64 (-x)), .sl ((fun s => .agg #[.bool false, .bool false, s])) ([-x]), .val (.agg #[.bool bL, .bool bR, .slice ra8 rn8 rc8]), .sl ((fun s => .tuple #[.agg #[.bool bL, .bool bR, s], .int .i64 0])) (Y), .sl ((fun s => .tuple #[.agg #[.bool bL, .bool bR, s], .int .i64 0])) (Y), .sl ((fun s => .agg #[.bool bL, .bool bR, s])) (Y), .val (.int .i64 0), .box (w8.heap.size), .any, .val (.int .i64 0)].getD j .any)) (by decide) (IK w8 [] [(rb8, 24, #[.bool bL, .bool bR, .slice ra8 rn8 rc8])] (.slice ra8 rn8 rc8) (rotL x Y)) (fun i => PhS ([.val (.int .i64 x), .val (.int .i64 (-x)), .sl ((fun s => .agg #[.bool false, .bool false, s])) ([-x]), .val (.agg #[.bool bL, .bool bR, .slice ra8 rn8 rc8]), .sl ((fun s => .tuple #[.agg #[.bool bL, .bool bR, s], .int .i64 0])) (Y), .sl ((fun s => .tuple #[.agg #[.bool bL, .bool bR, s], .int .i64 0])) (Y), .sl ((fun s => .agg #[.bool bL, .bool bR, s])) (Y), .val (.int .i64 0), .box (w8.heap.size), .any, .val (.int .i64 0)].getD i .any)) (fun z u v => StO (w8.heap.size) u v) (fun W W' hb h => h.below hb) (fun i v W W' hb h => PhS.below hb h) (fun i u v W W' hb h => StO.below hb h) (HIKD.out.below (Below.refl _ _).drew) ?_ ?_ ?_
          · intro i oo listed a' W val ho hi hnz haf hS hIW hF
            have hi' : i < 11 := hi
            obtain rfl | rfl | rfl | rfl | rfl | rfl | rfl | rfl | rfl | rfl | rfl : i = 0 ∨ i = 1 ∨ i = 2 ∨ i = 3 ∨ i = 4 ∨ i = 5 ∨ i = 6 ∨ i = 7 ∨ i = 8 ∨ i = 9 ∨ i = 10 := by omega
            · cases ho
              refine opG_plain rfl rfl ?_
              have q1 : a'.tmps[1]? = some (.int .i64 x) := (hS.tmpBase 1 (by kernel_rfl)).trans rfl
              refine op_valv (.int .i64 x) W (fun _ _ => trivial) ?_ ⟨Below.refl _ _, rfl⟩
              rw [Oper.semAt_plain _ _ _ (by intro c h; cases h)]
              simp [execOp, q1, go_sem]
            · cases ho
              refine opG_plain rfl rfl ?_
              have l0 : listed.getD 0 false = true := haf ⟨0, .data⟩ (Array.mem_of_getElem? (i := 0) rfl) rfl
              have q76 : a'.tmps[76]? = some (val 0) := hS.tmpSet 0 _ 76 rfl rfl (by simp) l0
              have h0 : PhS (.val (.int .i64 x)) (val 0) W := hF 0 l0 rfl
              rw [show val 0 = .int .i64 x from h0] at q76
              refine op_valv (.int .i64 (-x)) W (fun _ _ => trivial) ?_ ⟨Below.refl _ _, rfl⟩
              rw [Oper.semAt_plain _ _ _ (by intro c h; cases h)]
              simp [execOp, q76, hwn, go_sem]
            · cases ho
              refine opG_plain rfl rfl ?_
              have l1 : listed.getD 1 false = true := haf ⟨1, .data⟩ (Array.mem_of_getElem? (i := 0) rfl) rfl
              have q77 : a'.tmps[77]? = some (val 1) := hS.tmpSet 1 _ 77 rfl rfl (by simp) l1
              have h1 : PhS (.val (.int .i64 (-x))) (val 1) W := hF 1 l1 rfl
              rw [show val 1 = .int .i64 (-x) from h1] at q77
              refine op_callv 26 #[.int .i64 (-x)] (fun _ _ => trivial) ?_ (by omega) ((callsIn_wide.2 (lone_c (-x) W)).mono ?_)
              · rw [Oper.semAt_plain _ _ _ (by intro c h; cases h)]
                simp [execOp, q77, go_sem]
              · rintro e W2 ⟨va, vn, vc, rfl, hk, hb⟩
                exact ⟨_, rfl, hb, va, vn, vc, rfl, hk⟩
            · cases ho
              refine opG_plain rfl rfl ?_
              have q10 : a'.tmps[10]? = some (.pointer (some ⟨rb8, 0, none⟩)) := (hS.tmpBase 10 (by kernel_rfl)).trans rfl
              have hr := hIW.1.2.2 _ (List.mem_of_getElem? (i := 0) rfl)
              obtain ⟨z0, z1, z2, -, -, -⟩ := srow3 hr
              refine op_valv (.agg #[.bool bL, .bool bR, .slice ra8 rn8 rc8]) W (fun _ _ => trivial) ?_ ⟨Below.refl _ _, rfl⟩
              rw [Oper.semAt_plain _ _ _ (by intro c h; cases h)]
              simp [execOp, q10, z0, z1, z2, go_sem]
            · cases ho
              refine opG_plain rfl rfl ?_
              have l2 : listed.getD 2 false = true := haf ⟨2, .data⟩ (Array.mem_of_getElem? (i := 0) rfl) rfl
              have q78 : a'.tmps[78]? = some (val 2) := hS.tmpSet 2 _ 78 rfl rfl (by simp) l2
              have h2 : PhS (.sl ((fun s => .agg #[.bool false, .bool false, s])) ([-x])) (val 2) W := hF 2 l2 rfl
              obtain ⟨va2, vn2, vc2, e2, hk2⟩ := h2
              rw [e2] at q78
              have l3 : listed.getD 3 false = true := haf ⟨3, .data⟩ (Array.mem_of_getElem? (i := 1) rfl) rfl
              have q79 : a'.tmps[79]? = some (val 3) := hS.tmpSet 3 _ 79 rfl rfl (by simp) l3
              have h3 : PhS (.val (.agg #[.bool bL, .bool bR, .slice ra8 rn8 rc8])) (val 3) W := hF 3 l3 rfl
              rw [show val 3 = .agg #[.bool bL, .bool bR, .slice ra8 rn8 rc8] from h3] at q79
              have hw := HB_8.out.trans (hIW.1.1.mono HB_8.out.size)
              refine op_callv 16 #[.string ⟨#[226, 140, 189]⟩, .agg #[.bool false, .bool false, .slice va2 vn2 vc2], .agg #[.bool bL, .bool bR, .slice ra8 rn8 rc8]] (fun _ _ => trivial) ?_ (by omega) ((callsIn_wide.2 (HDY2.out W va2 vn2 vc2 hk2 hIW.2 hw)).mono ?_)
              · rw [Oper.semAt_plain _ _ _ (by intro c h; cases h)]
                simp [execOp, q78, q79, go_sem]
              · rintro e W2 ⟨va, vn, vc, rfl, hk, hb⟩
                exact ⟨_, rfl, hb, va, vn, vc, rfl, hk⟩
            · cases ho
              refine opG_plain rfl rfl ?_
              have l4 : listed.getD 4 false = true := haf ⟨4, .data⟩ (Array.mem_of_getElem? (i := 0) rfl) rfl
              have q80 : a'.tmps[80]? = some (val 4) := hS.tmpSet 4 _ 80 rfl rfl (by simp) l4
              have h4 : PhS (.sl ((fun s => .tuple #[.agg #[.bool bL, .bool bR, s], .int .i64 0])) (Y)) (val 4) W := hF 4 l4 rfl
              obtain ⟨va4, vn4, vc4, e4, hk4⟩ := h4
              rw [e4] at q80
              refine op_valv (((fun s => .tuple #[.agg #[.bool bL, .bool bR, s], .int .i64 0])) (.slice va4 vn4 vc4)) W (fun _ _ => trivial) ?_ ⟨Below.refl _ _, va4, vn4, vc4, rfl, hk4⟩
              rw [Oper.semAt_plain _ _ _ (by intro c h; cases h)]
              simp [execOp, q80, go_sem]
            · cases ho
              refine opG_plain rfl rfl ?_
              have l5 : listed.getD 5 false = true := haf ⟨5, .data⟩ (Array.mem_of_getElem? (i := 0) rfl) rfl
              have q75 : a'.tmps[75]? = some (val 5) := hS.tmpSet 5 _ 75 rfl rfl (by simp) l5
              have h5 : PhS (.sl ((fun s => .tuple #[.agg #[.bool bL, .bool bR, s], .int .i64 0])) (Y)) (val 5) W := hF 5 l5 rfl
              obtain ⟨va5, vn5, vc5, e5, hk5⟩ := h5
              rw [e5] at q75
              refine op_valv (((fun s => .agg #[.bool bL, .bool bR, s])) (.slice va5 vn5 vc5)) W (fun _ _ => trivial) ?_ ⟨Below.refl _ _, va5, vn5, vc5, rfl, hk5⟩
              rw [Oper.semAt_plain _ _ _ (by intro c h; cases h)]
              simp [execOp, q75, go_sem]
            · cases ho
              refine opG_plain rfl rfl ?_
              have l5 : listed.getD 5 false = true := haf ⟨5, .data⟩ (Array.mem_of_getElem? (i := 0) rfl) rfl
              have q75 : a'.tmps[75]? = some (val 5) := hS.tmpSet 5 _ 75 rfl rfl (by simp) l5
              have h5 : PhS (.sl ((fun s => .tuple #[.agg #[.bool bL, .bool bR, s], .int .i64 0])) (Y)) (val 5) W := hF 5 l5 rfl
              obtain ⟨va5, vn5, vc5, e5, hk5⟩ := h5
              rw [e5] at q75
              refine op_valv (.int .i64 0) W (fun _ _ => trivial) ?_ ⟨Below.refl _ _, rfl⟩
              rw [Oper.semAt_plain _ _ _ (by intro c h; cases h)]
              simp [execOp, q75, go_sem]
            · cases ho
              refine opG_plain rfl rfl ?_
              refine op_valv (.pointer (some ⟨W.heap.size, 0, none⟩)) (W.alloc (.cells #[.bool false, .bool false, .slice none 0 0] 24)) (fun _ _ => trivial) ?_ ⟨(Below.refl _ _).alloc (Nat.le_refl _) _, W.heap.size, rfl, hIW.1.1.size, _, _, _, _, _, Row.new _ _ _⟩
              rw [Oper.semAt_plain _ _ _ (by intro c h; cases h)]
              simp [execOp, go_sem]
            · exact absurd (by decide) hnz
            · cases ho
              refine opG_plain rfl rfl ?_
              have l7 : listed.getD 7 false = true := haf ⟨7, .data⟩ (Array.mem_of_getElem? (i := 0) rfl) rfl
              have q82 : a'.tmps[82]? = some (val 7) := hS.tmpSet 7 _ 82 rfl rfl (by simp) l7
              have h7 : PhS (.val (.int .i64 0)) (val 7) W := hF 7 l7 rfl
              rw [show val 7 = .int .i64 0 from h7] at q82
              refine op_valv (.int .i64 0) W (fun _ _ => trivial) ?_ ⟨Below.refl _ _, rfl⟩
              rw [Oper.semAt_plain _ _ _ (by intro c h; cases h)]
              simp [execOp, q82, go_sem]
          · intro z oo listed a' W val hz hu ho haf hS hIW hF hO
            have hz' : z = 9 := by simpa using hz
            obtain rfl := hz'
            · cases ho
              refine opG_plain rfl rfl ?_
              have l8 : listed.getD 8 false = true := haf ⟨8, .data⟩ (Array.mem_of_getElem? (i := 0) rfl) rfl
              have q12 : a'.tmps[12]? = some (val 8) := hS.tmpSet 8 _ 12 rfl rfl (by simp) l8
              have h8 : PhS (.box (w8.heap.size)) (val 8) W := hF 8 l8 (by show (_ || ((!listed.getD 9 false) && true)) = true; rw [hu]; rfl)
              obtain ⟨b8, e8, hb8, hx8⟩ := h8
              rw [e8] at q12
              have l6 : listed.getD 6 false = true := haf ⟨6, .data⟩ (Array.mem_of_getElem? (i := 1) rfl) rfl
              have q81 : a'.tmps[81]? = some (val 6) := hS.tmpSet 6 _ 81 rfl rfl (by simp) l6
              have h6 : PhS (.sl ((fun s => .agg #[.bool bL, .bool bR, s])) (Y)) (val 6) W := hF 6 l6 rfl
              obtain ⟨va6, vn6, vc6, e6, hk6⟩ := h6
              rw [e6] at q81
              obtain ⟨hle, hbx⟩ := And.intro hb8 hx8
              have hbx' := hbx
              obtain ⟨x', y', a0', n', c', hr⟩ := hbx'
              obtain ⟨d0, d1, d2, f0, f1, f2⟩ := srow3 hr
              refine op_skipv (set3 W b8 (.bool bL) (.bool bR) (.slice va6 vn6 vc6)) (fun _ _ => trivial) ?_ ⟨IK.put hIW hle hbx (fun r hr => by simp only [List.mem_cons, List.not_mem_nil, or_false] at hr; rcases hr with rfl <;> (dsimp only; omega)) _ _ _ _ _, trivial, fun j hj hk => PhS.put hbx _ _ _ hk (hF j hj (by rw [hk]; rfl)), (show StO (w8.heap.size) (val 8) (val 6) _ from ⟨b8, e8, hb8, by rw [e6, e8]; exact StS.of hbx _ _ _⟩), fun y hy _ hne => absurd (by simpa using hy) hne⟩
              rw [Oper.semAt_plain _ _ _ (by intro c h; cases h)]
              simp [execOp, q12, q81, d0, d1, d2, f0, f1, f2, go_sem]
          · intro w9 val hIW hF hST
            have e0 : val 0 = .int .i64 x := hF 0 (by decide) rfl
            have e1 : val 1 = .int .i64 (-x) := hF 1 (by decide) rfl
            obtain ⟨va2, vn2, vc2, e2, hk2⟩ : PhS (.sl ((fun s => .agg #[.bool false, .bool false, s])) ([-x])) (val 2) w9 := hF 2 (by decide) rfl
            have e3 : val 3 = .agg #[.bool bL, .bool bR, .slice ra8 rn8 rc8] := hF 3 (by decide) rfl
            obtain ⟨va4, vn4, vc4, e4, hk4⟩ : PhS (.sl ((fun s => .tuple #[.agg #[.bool bL, .bool bR, s], .int .i64 0])) (Y)) (val 4) w9 := hF 4 (by decide) rfl
            obtain ⟨va5, vn5, vc5, e5, hk5⟩ : PhS (.sl ((fun s => .tuple #[.agg #[.bool bL, .bool bR, s], .int .i64 0])) (Y)) (val 5) w9 := hF 5 (by decide) rfl
            obtain ⟨va6, vn6, vc6, e6, hk6⟩ : PhS (.sl ((fun s => .agg #[.bool bL, .bool bR, s])) (Y)) (val 6) w9 := hF 6 (by decide) rfl
            have e7 : val 7 = .int .i64 0 := hF 7 (by decide) rfl
            have e10 : val 10 = .int .i64 0 := hF 10 (by decide) rfl
            obtain ⟨bk9, ebk9, hbk9, hst9'⟩ : StO (w8.heap.size) (val 8) (val 6) w9 := hST 9 (by simp)
            have hst9 := hst9' _ _ _ _ ebk9 e6
            simp only [finAct, List.getElem?_toArray, List.getElem?_cons_zero, List.getElem?_cons_succ, Act.put, List.setIfInBounds_toArray, List.set_cons_zero, List.set_cons_succ, List.size_toArray, List.length_cons, List.length_nil, Nat.reduceAdd]
            simp only [e0, e1, e2, e3, e4, e5, e6, e7, e10]
            have hb := hIW.1.1
            simp only [ebk9]
            obtain ⟨ra9, rfl⟩ : ∃ q, q = va6 := ⟨_, rfl⟩
            obtain ⟨rn9, rfl⟩ : ∃ q, q = vn6 := ⟨_, rfl⟩
            obtain ⟨rc9, rfl⟩ : ∃ q, q = vc6 := ⟨_, rfl⟩
            obtain ⟨rb9, rfl⟩ : ∃ q, q = bk9 := ⟨_, rfl⟩
            have HRN9 : Hid (Row w9 rb9 24 #[.bool bL, .bool bR, .slice ra9 rn9 rc9]) := Lib.hid hst9
            have HKN9 := Lib.hid hk6
            have HBK9 : Hid (w8.heap.size ≤ rb9) := Lib.hid hbk9
            clear hF hST hIW
            have HR0_9 := Lib.hid (Row.below HR0_8.out hb (Row.lt HR0_8.out))
            have HR1_9 := Lib.hid (Row.below HR1_8.out hb (Row.lt HR1_8.out))
            have HR2_9 := Lib.hid (Row.below HR2_8.out hb (Row.lt HR2_8.out))
            have HR3_9 := Lib.hid (Row.below HRN8.out hb (Row.lt HRN8.out))
            have HK0_9 := Lib.hid (HK0_8.out.below hb)
            have HK1_9 := Lib.hid (HK1_8.out.below hb)
            have HK2_9 := Lib.hid (HK2_8.out.below hb)
            have HK3_9 := Lib.hid (HKN8.out.below hb)
            have HB_9 := Lib.hid (HB_8.out.trans (hb.mono HB_8.out.size))
            clear hb
            have hc := same_c ⟨bL, bR, Y⟩ ⟨bL, bR, Y⟩ (.slice ya yn yc) (.slice ma6 mn6 mc6) w9 HK0_9.out HK2_9.out
            rw [HSA.out] at hc
            have HC := Lib.hid hc
            clear hc
            obtain ⟨p0a, p0b, p0c, -, -, -⟩ := srow3 HR0_9.out
            obtain ⟨p1a, p1b, p1c, -, -, -⟩ := srow3 HR1_9.out
            obtain ⟨p2a, p2b, p2c, -, -, -⟩ := srow3 HR2_9.out
            obtain ⟨p3a, p3b, p3c, -, -, -⟩ := srow3 HR3_9.out
            obtain ⟨p4a, p4b, p4c, -, -, -⟩ := srow3 HRN9.out
            go_wp2_with fail
            refine HC.out.mono ?_
            rintro e w10 ⟨rfl, hb⟩
            clear HC
            clear p0a p0b p0c p1a p1b p1c p2a p2b p2c p3a p3b p3c p4a p4b p4c
            have HR0_10 := Lib.hid (Row.below HR0_9.out hb (Row.lt HR0_9.out))
            have HR1_10 := Lib.hid (Row.below HR1_9.out hb (Row.lt HR1_9.out))
            have HR2_10 := Lib.hid (Row.below HR2_9.out hb (Row.lt HR2_9.out))
            have HR3_10 := Lib.hid (Row.below HR3_9.out hb (Row.lt HR3_9.out))
            have HR4_10 := Lib.hid (Row.below HRN9.out hb (Row.lt HRN9.out))
            have HK0_10 := Lib.hid (HK0_9.out.below hb)
            have HK1_10 := Lib.hid (HK1_9.out.below hb)
            have HK2_10 := Lib.hid (HK2_9.out.below hb)
            have HK3_10 := Lib.hid (HK3_9.out.below hb)
            have HK4_10 := Lib.hid (HKN9.out.below hb)
            have HB_10 := Lib.hid (HB_9.out.trans (hb.mono HB_9.out.size))
            clear hb
            have hc := same_c ⟨bL, bR, Y⟩ ⟨bL, bR, Y⟩ (.slice ya yn yc) (.slice ra9 rn9 rc9) w10 HK0_10.out HK4_10.out
            rw [HSA.out] at hc
            have HC := Lib.hid hc
            clear hc
            obtain ⟨p0a, p0b, p0c, -, -, -⟩ := srow3 HR0_10.out
            obtain ⟨p1a, p1b, p1c, -, -, -⟩ := srow3 HR1_10.out
            obtain ⟨p2a, p2b, p2c, -, -, -⟩ := srow3 HR2_10.out
            obtain ⟨p3a, p3b, p3c, -, -, -⟩ := srow3 HR3_10.out
            obtain ⟨p4a, p4b, p4c, -, -, -⟩ := srow3 HR4_10.out
            go_wp2_with fail
            refine HC.out.mono ?_
            rintro e w11 ⟨rfl, hb⟩
            clear HC
            clear p0a p0b p0c p1a p1b p1c p2a p2b p2c p3a p3b p3c p4a p4b p4c
            have HR0_11 := Lib.hid (Row.below HR0_10.out hb (Row.lt HR0_10.out))
            have HR1_11 := Lib.hid (Row.below HR1_10.out hb (Row.lt HR1_10.out))
            have HR2_11 := Lib.hid (Row.below HR2_10.out hb (Row.lt HR2_10.out))
            have HR3_11 := Lib.hid (Row.below HR3_10.out hb (Row.lt HR3_10.out))
            have HR4_11 := Lib.hid (Row.below HR4_10.out hb (Row.lt HR4_10.out))
            have HK0_11 := Lib.hid (HK0_10.out.below hb)
            have HK1_11 := Lib.hid (HK1_10.out.below hb)
            have HK2_11 := Lib.hid (HK2_10.out.below hb)
            have HK3_11 := Lib.hid (HK3_10.out.below hb)
            have HK4_11 := Lib.hid (HK4_10.out.below hb)
            have HB_11 := Lib.hid (HB_10.out.trans (hb.mono HB_10.out.size))
            clear hb
            go_wp2_with fail
            go_ret
            exact ⟨rfl, HB_11.out⟩
end Go.Proofs.YteclpoooggcdoaaGreatDoor.Ar
