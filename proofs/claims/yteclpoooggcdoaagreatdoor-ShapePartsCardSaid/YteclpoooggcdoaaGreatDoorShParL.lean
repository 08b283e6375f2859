/- The statement ShapeParts (by wip/gen/mkshparts.py). -/
import Derived.Test.YteclpoooggcdoaaGreatDoorShCntL
import Derived.Test.YteclpoooggcdoaaGreatDoorShFact
import Derived.Test.YteclpoooggcdoaaGreatDoorShMk7
namespace Go.Proofs.YteclpoooggcdoaaGreatDoor.Ar
open Go Go.RowKit Go.Shelf
attribute [local go_sem] Oper.semAt_some

set_option maxRecDepth 100000 in
set_option maxHeartbeats 16000000 in
theorem parts_true (w : World) (hG : AG w) (n : Int) (hn : Nu.In n) (b : Ary) (t : Value) (hb : KL w t b.n) (hib : InL b.n) : Calls Tryz.prog 6 #[aryV b t, .int .i64 n] w fun e w' => e = .returned (.bool true) ∧ Below w.heap.size w w' := by
  obtain ⟨bL, bR, bN⟩ := b
  obtain ⟨ta, tc, rfl, -, -⟩ := hb.form
  dsimp only [aryV] at *
  obtain ⟨bn, hbn⟩ : ∃ n, n = bN.length := ⟨_, rfl⟩
  obtain ⟨Y, hY⟩ : ∃ X, X = bN.take 202 := ⟨_, rfl⟩
  have HFb : Hid (∀ W, Below w.heap.size w W → Calls Tryz.prog 12 #[.agg #[.bool bL, .bool bR, .slice ta bn tc]] W fun e w' => ∃ xa xn xc, e = .returned (.agg #[.bool bL, .bool bR, .slice xa xn xc]) ∧ KL w' (.slice xa xn xc) Y ∧ Below W.heap.size W w') := Lib.hid (fun W hW => by
    rw [hbn, hY]
    refine (few_c ⟨bL, bR, bN⟩ _ W (hb.below hW)).mono ?_
    rintro e w' ⟨x, rfl, hk, hb⟩
    obtain ⟨xa, xc, rfl, -, -⟩ := hk.form
    exact ⟨_, _, _, rfl, hk, hb⟩)
  have HIY : Hid (InL Y) := Lib.hid (by rw [hY]; exact fun x hx => hib x (List.mem_of_mem_take hx))
  have HLY : Hid (Y.length ≤ 202) := Lib.hid (by rw [hY, List.length_take]; omega)
  rw [← hbn]
  obtain ⟨u0, hu0⟩ : ∃ u0, u0 = (w.alloc (.cells #[.bool bL, .bool bR, .slice ta bn tc] 24)) := ⟨_, rfl⟩
  have hb0 : Below w.heap.size w u0 := by rw [hu0]; exact (Below.refl _ w).alloc (Nat.le_refl _) _
  have HRb0 : Hid (Row u0 w.heap.size 24 #[.bool bL, .bool bR, .slice ta bn tc]) := Lib.hid (by rw [hu0]; exact Row.new _ _ _)
  have HB0 := Lib.hid hb0
  have hsh := shown12_c u0 (hG.below hb0)
  have HET : Hid (∀ W, Below w.heap.size w W → Nu.ErrT W) := Lib.hid (fun W h => (hG.below h).ng.2)
  have HAG : Hid (∀ W, Below w.heap.size w W → AG W) := Lib.hid (fun W h => hG.below h)
  rw [hu0] at hsh
  have HSH := Lib.hid hsh
  have HU0 := Lib.hid hu0
  clear hb0 hsh hu0 hG hb hib hbn hY
  go_enter Tryz.func6, Tryz.ntmps6
  go_wp2_with fail
  refine HSH.out.mono ?_
  rintro e w1 ⟨rfl, hb⟩
  rw [← HU0.out] at hb
  have HR0_1 := Lib.hid (Row.below HRb0.out hb (Row.lt HRb0.out))
  have HB_1 := Lib.hid (HB0.out.trans (hb.mono HB0.out.size))
  clear hb HU0 HSH
  have hc := HFb.out w1 HB_1.out
  have HC := Lib.hid hc
  clear hc
  obtain ⟨p0a, p0b, p0c, -, -, -⟩ := srow3 HR0_1.out
  go_wp2_with fail
  refine HC.out.mono ?_
  rintro e w2 ⟨ya, yn, yc, rfl, hk, hb⟩
  clear HC
  clear p0a p0b p0c
  have HR0_2 := Lib.hid (Row.below HR0_1.out hb (Row.lt HR0_1.out))
  have HB_2 := Lib.hid (HB_1.out.trans (hb.mono HB_1.out.size))
  have HVY := Lib.hid (kl_len hk)
  have HKN2 := Lib.hid hk
  clear hb hk
  obtain ⟨u3, hu3⟩ : ∃ u, u = ((w2.setCell ⟨w.heap.size, 0, none⟩ (.bool bL)).setCell ⟨w.heap.size, 1, none⟩ (.bool bR)).setCell ⟨w.heap.size, 2, none⟩ (.slice ya yn yc) := ⟨_, rfl⟩
  have HR0_3 : Hid (Row u3 w.heap.size 24 #[.bool bL, .bool bR, .slice ya yn yc]) := Lib.hid (by rw [hu3]; exact srow_set3 HR0_2.out _ _ _)
  have HK0_3 : Hid (KL u3 _ _) := Lib.hid (by rw [hu3]; exact skl_set3 HKN2.out HR0_2.out _ _ _)
  have HB_3 : Hid (Below w.heap.size w u3) := Lib.hid (by rw [hu3]; exact ((HB_2.out.setCell (p := ⟨w.heap.size, 0, none⟩) (by show w.heap.size ≤ w.heap.size; omega) _).setCell (p := ⟨w.heap.size, 1, none⟩) (by show w.heap.size ≤ w.heap.size; omega) _).setCell (p := ⟨w.heap.size, 2, none⟩) (by show w.heap.size ≤ w.heap.size; omega) _)
  have HU3 := Lib.hid hu3
  clear hu3
  obtain ⟨s0, s1, s2, t0, t1, t2⟩ := srow3 HR0_2.out
  have HNI := Lib.hid hn
  obtain ⟨rb, hrb⟩ : ∃ r, r = rightA ⟨bL, bR, Y⟩ := ⟨_, rfl⟩
  have HRB := Lib.hid hrb
  clear hrb
  cases rb
  · skip
    have hc := eright_c ⟨bL, bR, Y⟩ (.slice ya yn yc) u3 HK0_3.out HIY.out
    rw [← HRB.out] at hc
    rw [HU3.out] at hc
    have HC := Lib.hid hc
    clear hc
    obtain ⟨p0a, p0b, p0c, -, -, -⟩ := srow3 HR0_3.out
    rw [HU3.out] at p0a p0b p0c
    go_wp2_with fail
    refine HC.out.mono ?_
    rintro e w4 ⟨rfl, hb⟩
    clear HC
    clear s0 s1 s2 t0 t1 t2
    clear p0a p0b p0c
    rw [← HU3.out] at hb
    have HR0_4 := Lib.hid (Row.below HR0_3.out hb (Row.lt HR0_3.out))
    have HK0_4 := Lib.hid (HK0_3.out.below hb)
    have HB_4 := Lib.hid (HB_3.out.trans (hb.mono HB_3.out.size))
    clear hb
    go_wp2_with fail
    go_ret
    exact ⟨rfl, HB_4.out⟩
  · skip
    have hc := eright_c ⟨bL, bR, Y⟩ (.slice ya yn yc) u3 HK0_3.out HIY.out
    rw [← HRB.out] at hc
    rw [HU3.out] at hc
    have HC := Lib.hid hc
    clear hc
    obtain ⟨p0a, p0b, p0c, -, -, -⟩ := srow3 HR0_3.out
    rw [HU3.out] at p0a p0b p0c
    go_wp2_with fail
    refine HC.out.mono ?_
    rintro e w4 ⟨rfl, hb⟩
    clear HC
    clear s0 s1 s2 t0 t1 t2
    clear p0a p0b p0c
    rw [← HU3.out] at hb
    have HR0_4 := Lib.hid (Row.below HR0_3.out hb (Row.lt HR0_3.out))
    have HK0_4 := Lib.hid (HK0_3.out.below hb)
    have HB_4 := Lib.hid (HB_3.out.trans (hb.mono HB_3.out.size))
    clear hb
    obtain ⟨p0a, p0b, p0c, -, -, -⟩ := srow3 HR0_4.out
    by_cases h1 : n < 0
    · go_wp2_with fail
      go_ret
      exact ⟨rfl, HB_4.out⟩
    · by_cases h2 : (yn : Int) < n
      · go_wp2_with fail
        go_ret
        exact ⟨rfl, HB_4.out⟩
      · obtain ⟨m, rfl⟩ : ∃ m : Nat, n = (m : Int) := ⟨n.toNat, by omega⟩
        have hm : m ≤ yn := by omega
        have hmY : m ≤ Y.length := by rw [← HVY.out]; exact hm
        have HTK := Lib.hid (take_ok hmY HRB.out.symm)
        have HDP := Lib.hid (drop_ok (m := m) HRB.out.symm)
        have hl2 := rt_len HRB.out.symm
        dsimp only at hl2
        have HJN := Lib.hid (join_ok (r := bR) (rt_sub (B := Y.take m) (by rw [List.length_take]; omega) (fun _ h => List.mem_of_mem_take h) HRB.out.symm) (rt_sub (B := Y.drop m) (by rw [List.length_drop]; omega) (fun _ h => List.mem_of_mem_drop h) HRB.out.symm) (by rw [List.length_take, List.length_drop]; omega))
        have hjn := HJN.out.2
        rw [List.take_append_drop] at hjn
        have HJ2 := Lib.hid (And.intro HJN.out.1 hjn)
        have HLS := Lib.hid (list_ok HRB.out.symm)
        have HSA : Hid (sameA ⟨true, bR, Y⟩ ⟨true, bR, Y⟩ = true) := Lib.hid (by simp [sameA])
        clear hjn hl2
        have HDT : Hid (∀ W p q r, KL W (.slice p q r) [(m : Int)] → KL W (.slice ya yn yc) Y → Below w.heap.size w W → Calls Tryz.prog 16 #[.string ⟨#[226, 134, 145]⟩, .agg #[.bool false, .bool false, .slice p q r], .agg #[.bool bL, .bool bR, .slice ya yn yc]] W fun e w' => ∃ va vn vc, e = .returned (.tuple #[.agg #[.bool true, .bool bR, .slice va vn vc], .int .i64 0]) ∧ KL w' (.slice va vn vc) (Y.take m) ∧ Below W.heap.size W w') := Lib.hid (fun W p q r h1 h2 hw => by
          have := sdy_c ⟨#[226, 134, 145]⟩ ⟨false, false, [(m : Int)]⟩ ⟨bL, bR, Y⟩ (.slice p q r) (.slice ya yn yc) W h1 h2 (in_int HNI.out) HIY.out (HET.out W hw)
          rw [HTK.out.1, HTK.out.2] at this
          exact this)
        have HDD : Hid (∀ W p q r, KL W (.slice p q r) [(m : Int)] → KL W (.slice ya yn yc) Y → Below w.heap.size w W → Calls Tryz.prog 16 #[.string ⟨#[226, 134, 147]⟩, .agg #[.bool false, .bool false, .slice p q r], .agg #[.bool bL, .bool bR, .slice ya yn yc]] W fun e w' => ∃ va vn vc, e = .returned (.tuple #[.agg #[.bool true, .bool bR, .slice va vn vc], .int .i64 0]) ∧ KL w' (.slice va vn vc) (Y.drop m) ∧ Below W.heap.size W w') := Lib.hid (fun W p q r h1 h2 hw => by
          have := sdy_c ⟨#[226, 134, 147]⟩ ⟨false, false, [(m : Int)]⟩ ⟨bL, bR, Y⟩ (.slice p q r) (.slice ya yn yc) W h1 h2 (in_int HNI.out) HIY.out (HET.out W hw)
          rw [HDP.out.1, HDP.out.2] at this
          exact this)
        go_wp2_with fail
        clear h1 h2
        clear p0a p0b p0c
        have hlt5 := Row.lt HR0_4.out
        have HIKD : Hid (IK w4 [] [(w.heap.size, 24, #[.bool bL, .bool bR, .slice ya yn yc])] (.slice ya yn yc) (Y) w4) := Lib.hid ⟨⟨Below.refl _ _, (fun _ hk => absurd hk (by simp)), fun r hr => by
          obtain rfl : r = _ := by simpa using hr
          exact HR0_4.out⟩, HK0_4.out⟩
        refine (wpIn_wide (n := 9)).1 ?_
        refine wpIn_region_putO (by kernel_rfl) (by kernel_rfl) [8] (fun z => if z = 8 then 5 else 0) (fun z => if z = 8 then 7 else 0) (fun j => keepK ([.val (.int .i64 ((m : Int))), .sl ((fun s => .agg #[.bool false, .bool false, s])) ([(m : Int)]), .val (.agg #[.bool bL, .bool bR, .slice ya yn yc]), .sl ((fun s => .tuple #[.agg #[.bool true, .bool bR, s], .int .i64 0])) (Y.take m), .sl ((fun s => .tuple #[.agg #[.bool true, .bool bR, s], .int .i64 0])) (Y.take m), .sl ((fun s => .agg #[.bool true, .bool bR, s])) (Y.take m), .val (.int .i64 0), .box (w4.heap.size), .any, .val (.int .i64 0)].getD j .any)) (by decide) (IK w4 [] [(w.heap.size, 24, #[.bool bL, .bool bR, .slice ya yn yc])] (.slice ya yn yc) (Y)) (fun i => PhS ([.val (.int .i64 ((m : Int))), .sl ((fun s => .agg #[.bool false, .bool false, s])) ([(m : Int)]), .val (.agg #[.bool bL, .bool bR, .slice ya yn yc]), .sl ((fun s => .tuple #[.agg #[.bool true, .bool bR, s], .int .i64 0])) (Y.take m), .sl ((fun s => .tuple #[.agg #[.bool true, .bool bR, s], .int .i64 0])) (Y.take m), .sl ((fun s => .agg #[.bool true, .bool bR, s])) (Y.take m), .val (.int .i64 0), .box (w4.heap.size), .any, .val (.int .i64 0)].getD i .any)) (fun z u v => StO (w4.heap.size) u v) (fun W W' hb h => h.below hb) (fun i v W W' hb h => PhS.below hb h) (fun i u v W W' hb h => StO.below hb h) (HIKD.out.below (Below.refl _ _).drew) ?_ ?_ ?_
        · intro i oo listed a' W val ho hi hnz haf hS hIW hF
          have hi' : i < 10 := hi
          obtain rfl | rfl | rfl | rfl | rfl | rfl | rfl | rfl | rfl | rfl : i = 0 ∨ i = 1 ∨ i = 2 ∨ i = 3 ∨ i = 4 ∨ i = 5 ∨ i = 6 ∨ i = 7 ∨ i = 8 ∨ i = 9 := by omega
          · cases ho
            refine opG_plain rfl rfl ?_
            have q1 : a'.tmps[1]? = some (.int .i64 (m : Int)) := (hS.tmpBase 1 (by kernel_rfl)).trans rfl
            refine op_valv (.int .i64 ((m : Int))) W (fun _ _ => trivial) ?_ ⟨Below.refl _ _, rfl⟩
            rw [Oper.semAt_plain _ _ _ (by intro c h; cases h)]
            simp [execOp, q1, go_sem]
          · cases ho
            refine opG_plain rfl rfl ?_
            have l0 : listed.getD 0 false = true := haf ⟨0, .data⟩ (Array.mem_of_getElem? (i := 0) rfl) rfl
            have q33 : a'.tmps[33]? = some (val 0) := hS.tmpSet 0 _ 33 rfl rfl (by simp) l0
            have h0 : PhS (.val (.int .i64 ((m : Int)))) (val 0) W := hF 0 l0 rfl
            rw [show val 0 = .int .i64 ((m : Int)) from h0] at q33
            refine op_callv 26 #[.int .i64 ((m : Int))] (fun _ _ => trivial) ?_ (by omega) ((callsIn_wide.2 (lone_c ((m : Int)) W)).mono ?_)
            · rw [Oper.semAt_plain _ _ _ (by intro c h; cases h)]
              simp [execOp, q33, go_sem]
            · rintro e W2 ⟨va, vn, vc, rfl, hk, hb⟩
              exact ⟨_, rfl, hb, va, vn, vc, rfl, hk⟩
          · cases ho
            refine opG_plain rfl rfl ?_
            have q2 : a'.tmps[2]? = some (.pointer (some ⟨w.heap.size, 0, none⟩)) := (hS.tmpBase 2 (by kernel_rfl)).trans rfl
            have hr := hIW.1.2.2 _ (List.mem_of_getElem? (i := 0) rfl)
            obtain ⟨z0, z1, z2, -, -, -⟩ := srow3 hr
            refine op_valv (.agg #[.bool bL, .bool bR, .slice ya yn yc]) W (fun _ _ => trivial) ?_ ⟨Below.refl _ _, rfl⟩
            rw [Oper.semAt_plain _ _ _ (by intro c h; cases h)]
            simp [execOp, q2, z0, z1, z2, go_sem]
          · cases ho
            refine opG_plain rfl rfl ?_
            have l1 : listed.getD 1 false = true := haf ⟨1, .data⟩ (Array.mem_of_getElem? (i := 0) rfl) rfl
            have q34 : a'.tmps[34]? = some (val 1) := hS.tmpSet 1 _ 34 rfl rfl (by simp) l1
            have h1 : PhS (.sl ((fun s => .agg #[.bool false, .bool false, s])) ([(m : Int)])) (val 1) W := hF 1 l1 rfl
            obtain ⟨va1, vn1, vc1, e1, hk1⟩ := h1
            rw [e1] at q34
            have l2 : listed.getD 2 false = true := haf ⟨2, .data⟩ (Array.mem_of_getElem? (i := 1) rfl) rfl
            have q35 : a'.tmps[35]? = some (val 2) := hS.tmpSet 2 _ 35 rfl rfl (by simp) l2
            have h2 : PhS (.val (.agg #[.bool bL, .bool bR, .slice ya yn yc])) (val 2) W := hF 2 l2 rfl
            rw [show val 2 = .agg #[.bool bL, .bool bR, .slice ya yn yc] from h2] at q35
            have hw := HB_4.out.trans (hIW.1.1.mono HB_4.out.size)
            refine op_callv 16 #[.string ⟨#[226, 134, 145]⟩, .agg #[.bool false, .bool false, .slice va1 vn1 vc1], .agg #[.bool bL, .bool bR, .slice ya yn yc]] (fun _ _ => trivial) ?_ (by omega) ((callsIn_wide.2 (HDT.out W va1 vn1 vc1 hk1 hIW.2 hw)).mono ?_)
            · rw [Oper.semAt_plain _ _ _ (by intro c h; cases h)]
              simp [execOp, q34, q35, go_sem]
            · rintro e W2 ⟨va, vn, vc, rfl, hk, hb⟩
              exact ⟨_, rfl, hb, va, vn, vc, rfl, hk⟩
          · cases ho
            refine opG_plain rfl rfl ?_
            have l3 : listed.getD 3 false = true := haf ⟨3, .data⟩ (Array.mem_of_getElem? (i := 0) rfl) rfl
            have q36 : a'.tmps[36]? = some (val 3) := hS.tmpSet 3 _ 36 rfl rfl (by simp) l3
            have h3 : PhS (.sl ((fun s => .tuple #[.agg #[.bool true, .bool bR, s], .int .i64 0])) (Y.take m)) (val 3) W := hF 3 l3 rfl
            obtain ⟨va3, vn3, vc3, e3, hk3⟩ := h3
            rw [e3] at q36
            refine op_valv (((fun s => .tuple #[.agg #[.bool true, .bool bR, s], .int .i64 0])) (.slice va3 vn3 vc3)) W (fun _ _ => trivial) ?_ ⟨Below.refl _ _, va3, vn3, vc3, rfl, hk3⟩
            rw [Oper.semAt_plain _ _ _ (by intro c h; cases h)]
            simp [execOp, q36, go_sem]
          · cases ho
            refine opG_plain rfl rfl ?_
            have l4 : listed.getD 4 false = true := haf ⟨4, .data⟩ (Array.mem_of_getElem? (i := 0) rfl) rfl
            have q32 : a'.tmps[32]? = some (val 4) := hS.tmpSet 4 _ 32 rfl rfl (by simp) l4
            have h4 : PhS (.sl ((fun s => .tuple #[.agg #[.bool true, .bool bR, s], .int .i64 0])) (Y.take m)) (val 4) W := hF 4 l4 rfl
            obtain ⟨va4, vn4, vc4, e4, hk4⟩ := h4
            rw [e4] at q32
            refine op_valv (((fun s => .agg #[.bool true, .bool bR, s])) (.slice va4 vn4 vc4)) W (fun _ _ => trivial) ?_ ⟨Below.refl _ _, va4, vn4, vc4, rfl, hk4⟩
            rw [Oper.semAt_plain _ _ _ (by intro c h; cases h)]
            simp [execOp, q32, go_sem]
          · cases ho
            refine opG_plain rfl rfl ?_
            have l4 : listed.getD 4 false = true := haf ⟨4, .data⟩ (Array.mem_of_getElem? (i := 0) rfl) rfl
            have q32 : a'.tmps[32]? = some (val 4) := hS.tmpSet 4 _ 32 rfl rfl (by simp) l4
            have h4 : PhS (.sl ((fun s => .tuple #[.agg #[.bool true, .bool bR, s], .int .i64 0])) (Y.take m)) (val 4) W := hF 4 l4 rfl
            obtain ⟨va4, vn4, vc4, e4, hk4⟩ := h4
            rw [e4] at q32
            refine op_valv (.int .i64 0) W (fun _ _ => trivial) ?_ ⟨Below.refl _ _, rfl⟩
            rw [Oper.semAt_plain _ _ _ (by intro c h; cases h)]
            simp [execOp, q32, go_sem]
          · cases ho
            refine opG_plain rfl rfl ?_
            refine op_valv (.pointer (some ⟨W.heap.size, 0, none⟩)) (W.alloc (.cells #[.bool false, .bool false, .slice none 0 0] 24)) (fun _ _ => trivial) ?_ ⟨(Below.refl _ _).alloc (Nat.le_refl _) _, W.heap.size, rfl, hIW.1.1.size, _, _, _, _, _, Row.new _ _ _⟩
            rw [Oper.semAt_plain _ _ _ (by intro c h; cases h)]
            simp [execOp, go_sem]
          · exact absurd (by decide) hnz
          · cases ho
            refine opG_plain rfl rfl ?_
            have l6 : listed.getD 6 false = true := haf ⟨6, .data⟩ (Array.mem_of_getElem? (i := 0) rfl) rfl
            have q38 : a'.tmps[38]? = some (val 6) := hS.tmpSet 6 _ 38 rfl rfl (by simp) l6
            have h6 : PhS (.val (.int .i64 0)) (val 6) W := hF 6 l6 rfl
            rw [show val 6 = .int .i64 0 from h6] at q38
            refine op_valv (.int .i64 0) W (fun _ _ => trivial) ?_ ⟨Below.refl _ _, rfl⟩
            rw [Oper.semAt_plain _ _ _ (by intro c h; cases h)]
            simp [execOp, q38, go_sem]
        · intro z oo listed a' W val hz hu ho haf hS hIW hF hO
          have hz' : z = 8 := by simpa using hz
          obtain rfl := hz'
          · cases ho
            refine opG_plain rfl rfl ?_
            have l7 : listed.getD 7 false = true := haf ⟨7, .data⟩ (Array.mem_of_getElem? (i := 0) rfl) rfl
            have q6 : a'.tmps[6]? = some (val 7) := hS.tmpSet 7 _ 6 rfl rfl (by simp) l7
            have h7 : PhS (.box (w4.heap.size)) (val 7) W := hF 7 l7 (by show (_ || ((!listed.getD 8 false) && true)) = true; rw [hu]; rfl)
            obtain ⟨b7, e7, hb7, hx7⟩ := h7
            rw [e7] at q6
            have l5 : listed.getD 5 false = true := haf ⟨5, .data⟩ (Array.mem_of_getElem? (i := 1) rfl) rfl
            have q37 : a'.tmps[37]? = some (val 5) := hS.tmpSet 5 _ 37 rfl rfl (by simp) l5
            have h5 : PhS (.sl ((fun s => .agg #[.bool true, .bool bR, s])) (Y.take m)) (val 5) W := hF 5 l5 rfl
            obtain ⟨va5, vn5, vc5, e5, hk5⟩ := h5
            rw [e5] at q37
            obtain ⟨hle, hbx⟩ := And.intro hb7 hx7
            have hbx' := hbx
            obtain ⟨x', y', a0', n', c', hr⟩ := hbx'
            obtain ⟨d0, d1, d2, f0, f1, f2⟩ := srow3 hr
            refine op_skipv (set3 W b7 (.bool true) (.bool bR) (.slice va5 vn5 vc5)) (fun _ _ => trivial) ?_ ⟨IK.put hIW hle hbx (fun r hr => by simp only [List.mem_cons, List.not_mem_nil, or_false] at hr; rcases hr with rfl <;> (dsimp only; omega)) _ _ _ _ _, trivial, fun j hj hk => PhS.put hbx _ _ _ hk (hF j hj (by rw [hk]; rfl)), (show StO (w4.heap.size) (val 7) (val 5) _ from ⟨b7, e7, hb7, by rw [e5, e7]; exact StS.of hbx _ _ _⟩), fun y hy _ hne => absurd (by simpa using hy) hne⟩
            rw [Oper.semAt_plain _ _ _ (by intro c h; cases h)]
            simp [execOp, q6, q37, d0, d1, d2, f0, f1, f2, go_sem]
        · intro w5 val hIW hF hST
          have e0 : val 0 = .int .i64 ((m : Int)) := hF 0 (by decide) rfl
          obtain ⟨va1, vn1, vc1, e1, hk1⟩ : PhS (.sl ((fun s => .agg #[.bool false, .bool false, s])) ([(m : Int)])) (val 1) w5 := hF 1 (by decide) rfl
          have e2 : val 2 = .agg #[.bool bL, .bool bR, .slice ya yn yc] := hF 2 (by decide) rfl
          obtain ⟨va3, vn3, vc3, e3, hk3⟩ : PhS (.sl ((fun s => .tuple #[.agg #[.bool true, .bool bR, s], .int .i64 0])) (Y.take m)) (val 3) w5 := hF 3 (by decide) rfl
          obtain ⟨va4, vn4, vc4, e4, hk4⟩ : PhS (.sl ((fun s => .tuple #[.agg #[.bool true, .bool bR, s], .int .i64 0])) (Y.take m)) (val 4) w5 := hF 4 (by decide) rfl
          obtain ⟨va5, vn5, vc5, e5, hk5⟩ : PhS (.sl ((fun s => .agg #[.bool true, .bool bR, s])) (Y.take m)) (val 5) w5 := hF 5 (by decide) rfl
          have e6 : val 6 = .int .i64 0 := hF 6 (by decide) rfl
          have e9 : val 9 = .int .i64 0 := hF 9 (by decide) rfl
          obtain ⟨bk8, ebk8, hbk8, hst8'⟩ : StO (w4.heap.size) (val 7) (val 5) w5 := hST 8 (by simp)
          have hst8 := hst8' _ _ _ _ ebk8 e5
          simp only [finAct, List.getElem?_toArray, List.getElem?_cons_zero, List.getElem?_cons_succ, Act.put, List.setIfInBounds_toArray, List.set_cons_zero, List.set_cons_succ, List.size_toArray, List.length_cons, List.length_nil, Nat.reduceAdd]
          simp only [e0, e1, e2, e3, e4, e5, e6, e9]
          have hb := hIW.1.1
          simp only [ebk8]
          obtain ⟨ra5, rfl⟩ : ∃ q, q = va5 := ⟨_, rfl⟩
          obtain ⟨rn5, rfl⟩ : ∃ q, q = vn5 := ⟨_, rfl⟩
          obtain ⟨rc5, rfl⟩ : ∃ q, q = vc5 := ⟨_, rfl⟩
          obtain ⟨rb5, rfl⟩ : ∃ q, q = bk8 := ⟨_, rfl⟩
          have HRN5 : Hid (Row w5 rb5 24 #[.bool true, .bool bR, .slice ra5 rn5 rc5]) := Lib.hid hst8
          have HKN5 := Lib.hid hk5
          have HBK5 : Hid (w4.heap.size ≤ rb5) := Lib.hid hbk8
          clear hF hST hIW
          have HR0_5 := Lib.hid (Row.below HR0_4.out hb (Row.lt HR0_4.out))
          have HK0_5 := Lib.hid (HK0_4.out.below hb)
          have HB_5 := Lib.hid (HB_4.out.trans (hb.mono HB_4.out.size))
          clear hb
          go_wp2_with fail
          have hlt6 := Row.lt HR0_5.out
          have HIKD : Hid (IK w5 [] [(w.heap.size, 24, #[.bool bL, .bool bR, .slice ya yn yc])] (.slice ya yn yc) (Y) w5) := Lib.hid ⟨⟨Below.refl _ _, (fun _ hk => absurd hk (by simp)), fun r hr => by
            obtain rfl : r = _ := by simpa using hr
            exact HR0_5.out⟩, HK0_5.out⟩
          refine (wpIn_wide (n := 9)).1 ?_
          refine wpIn_region_putO (by kernel_rfl) (by kernel_rfl) [8] (fun z => if z = 8 then 5 else 0) (fun z => if z = 8 then 7 else 0) (fun j => keepK ([.val (.int .i64 ((m : Int))), .sl ((fun s => .agg #[.bool false, .bool false, s])) ([(m : Int)]), .val (.agg #[.bool bL, .bool bR, .slice ya yn yc]), .sl ((fun s => .tuple #[.agg #[.bool true, .bool bR, s], .int .i64 0])) (Y.drop m), .sl ((fun s => .tuple #[.agg #[.bool true, .bool bR, s], .int .i64 0])) (Y.drop m), .sl ((fun s => .agg #[.bool true, .bool bR, s])) (Y.drop m), .val (.int .i64 0), .box (w5.heap.size), .any, .val (.int .i64 0)].getD j .any)) (by decide) (IK w5 [] [(w.heap.size, 24, #[.bool bL, .bool bR, .slice ya yn yc])] (.slice ya yn yc) (Y)) (fun i => PhS ([.val (.int .i64 ((m : Int))), .sl ((fun s => .agg #[.bool false, .bool false, s])) ([(m : Int)]), .val (.agg #[.bool bL, .bool bR, .slice ya yn yc]), .sl ((fun s => .tuple #[.agg #[.bool true, .bool bR, s], .int .i64 0])) (Y.drop m), .sl ((fun s => .tuple #[.agg #[.bool true, .bool bR, s], .int .i64 0])) (Y.drop m), .sl ((fun s => .agg #[.bool true, .bool bR, s])) (Y.drop m), .val (.int .i64 0), .box (w5.heap.size), .any, .val (.int .i64 0)].getD i .any)) (fun z u v => StO (w5.heap.size) u v) (fun W W' hb h => h.below hb) (fun i v W W' hb h => PhS.below hb h) (fun i u v W W' hb h => StO.below hb h) (HIKD.out.below (Below.refl _ _).drew) ?_ ?_ ?_
          · intro i oo listed a' W val ho hi hnz haf hS hIW hF
            have hi' : i < 10 := hi
            obtain rfl | rfl | rfl | rfl | rfl | rfl | rfl | rfl | rfl | rfl : i = 0 ∨ i = 1 ∨ i = 2 ∨ i = 3 ∨ i = 4 ∨ i = 5 ∨ i = 6 ∨ i = 7 ∨ i = 8 ∨ i = 9 := by omega
            · cases ho
              refine opG_plain rfl rfl ?_
              have q1 : a'.tmps[1]? = some (.int .i64 (m : Int)) := (hS.tmpBase 1 (by kernel_rfl)).trans rfl
              refine op_valv (.int .i64 ((m : Int))) W (fun _ _ => trivial) ?_ ⟨Below.refl _ _, rfl⟩
              rw [Oper.semAt_plain _ _ _ (by intro c h; cases h)]
              simp [execOp, q1, go_sem]
            · cases ho
              refine opG_plain rfl rfl ?_
              have l0 : listed.getD 0 false = true := haf ⟨0, .data⟩ (Array.mem_of_getElem? (i := 0) rfl) rfl
              have q40 : a'.tmps[40]? = some (val 0) := hS.tmpSet 0 _ 40 rfl rfl (by simp) l0
              have h0 : PhS (.val (.int .i64 ((m : Int)))) (val 0) W := hF 0 l0 rfl
              rw [show val 0 = .int .i64 ((m : Int)) from h0] at q40
              refine op_callv 26 #[.int .i64 ((m : Int))] (fun _ _ => trivial) ?_ (by omega) ((callsIn_wide.2 (lone_c ((m : Int)) W)).mono ?_)
              · rw [Oper.semAt_plain _ _ _ (by intro c h; cases h)]
                simp [execOp, q40, go_sem]
              · rintro e W2 ⟨va, vn, vc, rfl, hk, hb⟩
                exact ⟨_, rfl, hb, va, vn, vc, rfl, hk⟩
            · cases ho
              refine opG_plain rfl rfl ?_
              have q2 : a'.tmps[2]? = some (.pointer (some ⟨w.heap.size, 0, none⟩)) := (hS.tmpBase 2 (by kernel_rfl)).trans rfl
              have hr := hIW.1.2.2 _ (List.mem_of_getElem? (i := 0) rfl)
              obtain ⟨z0, z1, z2, -, -, -⟩ := srow3 hr
              refine op_valv (.agg #[.bool bL, .bool bR, .slice ya yn yc]) W (fun _ _ => trivial) ?_ ⟨Below.refl _ _, rfl⟩
              rw [Oper.semAt_plain _ _ _ (by intro c h; cases h)]
              simp [execOp, q2, z0, z1, z2, go_sem]
            · cases ho
              refine opG_plain rfl rfl ?_
              have l1 : listed.getD 1 false = true := haf ⟨1, .data⟩ (Array.mem_of_getElem? (i := 0) rfl) rfl
              have q41 : a'.tmps[41]? = some (val 1) := hS.tmpSet 1 _ 41 rfl rfl (by simp) l1
              have h1 : PhS (.sl ((fun s => .agg #[.bool false, .bool false, s])) ([(m : Int)])) (val 1) W := hF 1 l1 rfl
              obtain ⟨va1, vn1, vc1, e1, hk1⟩ := h1
              rw [e1] at q41
              have l2 : listed.getD 2 false = true := haf ⟨2, .data⟩ (Array.mem_of_getElem? (i := 1) rfl) rfl
              have q42 : a'.tmps[42]? = some (val 2) := hS.tmpSet 2 _ 42 rfl rfl (by simp) l2
              have h2 : PhS (.val (.agg #[.bool bL, .bool bR, .slice ya yn yc])) (val 2) W := hF 2 l2 rfl
              rw [show val 2 = .agg #[.bool bL, .bool bR, .slice ya yn yc] from h2] at q42
              have hw := HB_5.out.trans (hIW.1.1.mono HB_5.out.size)
              refine op_callv 16 #[.string ⟨#[226, 134, 147]⟩, .agg #[.bool false, .bool false, .slice va1 vn1 vc1], .agg #[.bool bL, .bool bR, .slice ya yn yc]] (fun _ _ => trivial) ?_ (by omega) ((callsIn_wide.2 (HDD.out W va1 vn1 vc1 hk1 hIW.2 hw)).mono ?_)
              · rw [Oper.semAt_plain _ _ _ (by intro c h; cases h)]
                simp [execOp, q41, q42, go_sem]
              · rintro e W2 ⟨va, vn, vc, rfl, hk, hb⟩
                exact ⟨_, rfl, hb, va, vn, vc, rfl, hk⟩
            · cases ho
              refine opG_plain rfl rfl ?_
              have l3 : listed.getD 3 false = true := haf ⟨3, .data⟩ (Array.mem_of_getElem? (i := 0) rfl) rfl
              have q43 : a'.tmps[43]? = some (val 3) := hS.tmpSet 3 _ 43 rfl rfl (by simp) l3
              have h3 : PhS (.sl ((fun s => .tuple #[.agg #[.bool true, .bool bR, s], .int .i64 0])) (Y.drop m)) (val 3) W := hF 3 l3 rfl
              obtain ⟨va3, vn3, vc3, e3, hk3⟩ := h3
              rw [e3] at q43
              refine op_valv (((fun s => .tuple #[.agg #[.bool true, .bool bR, s], .int .i64 0])) (.slice va3 vn3 vc3)) W (fun _ _ => trivial) ?_ ⟨Below.refl _ _, va3, vn3, vc3, rfl, hk3⟩
              rw [Oper.semAt_plain _ _ _ (by intro c h; cases h)]
              simp [execOp, q43, go_sem]
            · cases ho
              refine opG_plain rfl rfl ?_
              have l4 : listed.getD 4 false = true := haf ⟨4, .data⟩ (Array.mem_of_getElem? (i := 0) rfl) rfl
              have q39 : a'.tmps[39]? = some (val 4) := hS.tmpSet 4 _ 39 rfl rfl (by simp) l4
              have h4 : PhS (.sl ((fun s => .tuple #[.agg #[.bool true, .bool bR, s], .int .i64 0])) (Y.drop m)) (val 4) W := hF 4 l4 rfl
              obtain ⟨va4, vn4, vc4, e4, hk4⟩ := h4
              rw [e4] at q39
              refine op_valv (((fun s => .agg #[.bool true, .bool bR, s])) (.slice va4 vn4 vc4)) W (fun _ _ => trivial) ?_ ⟨Below.refl _ _, va4, vn4, vc4, rfl, hk4⟩
              rw [Oper.semAt_plain _ _ _ (by intro c h; cases h)]
              simp [execOp, q39, go_sem]
            · cases ho
              refine opG_plain rfl rfl ?_
              have l4 : listed.getD 4 false = true := haf ⟨4, .data⟩ (Array.mem_of_getElem? (i := 0) rfl) rfl
              have q39 : a'.tmps[39]? = some (val 4) := hS.tmpSet 4 _ 39 rfl rfl (by simp) l4
              have h4 : PhS (.sl ((fun s => .tuple #[.agg #[.bool true, .bool bR, s], .int .i64 0])) (Y.drop m)) (val 4) W := hF 4 l4 rfl
              obtain ⟨va4, vn4, vc4, e4, hk4⟩ := h4
              rw [e4] at q39
              refine op_valv (.int .i64 0) W (fun _ _ => trivial) ?_ ⟨Below.refl _ _, rfl⟩
              rw [Oper.semAt_plain _ _ _ (by intro c h; cases h)]
              simp [execOp, q39, go_sem]
            · cases ho
              refine opG_plain rfl rfl ?_
              refine op_valv (.pointer (some ⟨W.heap.size, 0, none⟩)) (W.alloc (.cells #[.bool false, .bool false, .slice none 0 0] 24)) (fun _ _ => trivial) ?_ ⟨(Below.refl _ _).alloc (Nat.le_refl _) _, W.heap.size, rfl, hIW.1.1.size, _, _, _, _, _, Row.new _ _ _⟩
              rw [Oper.semAt_plain _ _ _ (by intro c h; cases h)]
              simp [execOp, go_sem]
            · exact absurd (by decide) hnz
            · cases ho
              refine opG_plain rfl rfl ?_
              have l6 : listed.getD 6 false = true := haf ⟨6, .data⟩ (Array.mem_of_getElem? (i := 0) rfl) rfl
              have q45 : a'.tmps[45]? = some (val 6) := hS.tmpSet 6 _ 45 rfl rfl (by simp) l6
              have h6 : PhS (.val (.int .i64 0)) (val 6) W := hF 6 l6 rfl
              rw [show val 6 = .int .i64 0 from h6] at q45
              refine op_valv (.int .i64 0) W (fun _ _ => trivial) ?_ ⟨Below.refl _ _, rfl⟩
              rw [Oper.semAt_plain _ _ _ (by intro c h; cases h)]
              simp [execOp, q45, go_sem]
          · intro z oo listed a' W val hz hu ho haf hS hIW hF hO
            have hz' : z = 8 := by simpa using hz
            obtain rfl := hz'
            · cases ho
              refine opG_plain rfl rfl ?_
              have l7 : listed.getD 7 false = true := haf ⟨7, .data⟩ (Array.mem_of_getElem? (i := 0) rfl) rfl
              have q8 : a'.tmps[8]? = some (val 7) := hS.tmpSet 7 _ 8 rfl rfl (by simp) l7
              have h7 : PhS (.box (w5.heap.size)) (val 7) W := hF 7 l7 (by show (_ || ((!listed.getD 8 false) && true)) = true; rw [hu]; rfl)
              obtain ⟨b7, e7, hb7, hx7⟩ := h7
              rw [e7] at q8
              have l5 : listed.getD 5 false = true := haf ⟨5, .data⟩ (Array.mem_of_getElem? (i := 1) rfl) rfl
              have q44 : a'.tmps[44]? = some (val 5) := hS.tmpSet 5 _ 44 rfl rfl (by simp) l5
              have h5 : PhS (.sl ((fun s => .agg #[.bool true, .bool bR, s])) (Y.drop m)) (val 5) W := hF 5 l5 rfl
              obtain ⟨va5, vn5, vc5, e5, hk5⟩ := h5
              rw [e5] at q44
              obtain ⟨hle, hbx⟩ := And.intro hb7 hx7
              have hbx' := hbx
              obtain ⟨x', y', a0', n', c', hr⟩ := hbx'
              obtain ⟨d0, d1, d2, f0, f1, f2⟩ := srow3 hr
              refine op_skipv (set3 W b7 (.bool true) (.bool bR) (.slice va5 vn5 vc5)) (fun _ _ => trivial) ?_ ⟨IK.put hIW hle hbx (fun r hr => by simp only [List.mem_cons, List.not_mem_nil, or_false] at hr; rcases hr with rfl <;> (dsimp only; omega)) _ _ _ _ _, trivial, fun j hj hk => PhS.put hbx _ _ _ hk (hF j hj (by rw [hk]; rfl)), (show StO (w5.heap.size) (val 7) (val 5) _ from ⟨b7, e7, hb7, by rw [e5, e7]; exact StS.of hbx _ _ _⟩), fun y hy _ hne => absurd (by simpa using hy) hne⟩
              rw [Oper.semAt_plain _ _ _ (by intro c h; cases h)]
              simp [execOp, q8, q44, d0, d1, d2, f0, f1, f2, go_sem]
          · intro w6 val hIW hF hST
            have e0 : val 0 = .int .i64 ((m : Int)) := hF 0 (by decide) rfl
            obtain ⟨va1, vn1, vc1, e1, hk1⟩ : PhS (.sl ((fun s => .agg #[.bool false, .bool false, s])) ([(m : Int)])) (val 1) w6 := hF 1 (by decide) rfl
            have e2 : val 2 = .agg #[.bool bL, .bool bR, .slice ya yn yc] := hF 2 (by decide) rfl
            obtain ⟨va3, vn3, vc3, e3, hk3⟩ : PhS (.sl ((fun s => .tuple #[.agg #[.bool true, .bool bR, s], .int .i64 0])) (Y.drop m)) (val 3) w6 := hF 3 (by decide) rfl
            obtain ⟨va4, vn4, vc4, e4, hk4⟩ : PhS (.sl ((fun s => .tuple #[.agg #[.bool true, .bool bR, s], .int .i64 0])) (Y.drop m)) (val 4) w6 := hF 4 (by decide) rfl
            obtain ⟨va5, vn5, vc5, e5, hk5⟩ : PhS (.sl ((fun s => .agg #[.bool true, .bool bR, s])) (Y.drop m)) (val 5) w6 := hF 5 (by decide) rfl
            have e6 : val 6 = .int .i64 0 := hF 6 (by decide) rfl
            have e9 : val 9 = .int .i64 0 := hF 9 (by decide) rfl
            obtain ⟨bk8, ebk8, hbk8, hst8'⟩ : StO (w5.heap.size) (val 7) (val 5) w6 := hST 8 (by simp)
            have hst8 := hst8' _ _ _ _ ebk8 e5
            simp only [finAct, List.getElem?_toArray, List.getElem?_cons_zero, List.getElem?_cons_succ, Act.put, List.setIfInBounds_toArray, List.set_cons_zero, List.set_cons_succ, List.size_toArray, List.length_cons, List.length_nil, Nat.reduceAdd]
            simp only [e0, e1, e2, e3, e4, e5, e6, e9]
            have hb := hIW.1.1
            simp only [ebk8]
            obtain ⟨ra6, rfl⟩ : ∃ q, q = va5 := ⟨_, rfl⟩
            obtain ⟨rn6, rfl⟩ : ∃ q, q = vn5 := ⟨_, rfl⟩
            obtain ⟨rc6, rfl⟩ : ∃ q, q = vc5 := ⟨_, rfl⟩
            obtain ⟨rb6, rfl⟩ : ∃ q, q = bk8 := ⟨_, rfl⟩
            have HRN6 : Hid (Row w6 rb6 24 #[.bool true, .bool bR, .slice ra6 rn6 rc6]) := Lib.hid hst8
            have HKN6 := Lib.hid hk5
            have HBK6 : Hid (w5.heap.size ≤ rb6) := Lib.hid hbk8
            clear hF hST hIW
            have HR0_6 := Lib.hid (Row.below HR0_5.out hb (Row.lt HR0_5.out))
            have HR1_6 := Lib.hid (Row.below HRN5.out hb (Row.lt HRN5.out))
            have HK0_6 := Lib.hid (HK0_5.out.below hb)
            have HK1_6 := Lib.hid (HKN5.out.below hb)
            have HB_6 := Lib.hid (HB_5.out.trans (hb.mono HB_5.out.size))
            clear hb
            have hr3 : rn5 = m := by rw [kl_len HK1_6.out, List.length_take]; omega
            have hr4 : rn6 = yn - m := by rw [kl_len HKN6.out, List.length_drop, HVY.out]
            subst hr3
            subst hr4
            have hc := sdy_c ⟨#[44]⟩ ⟨true, bR, Y.take rn5⟩ ⟨true, bR, Y.drop rn5⟩ (.slice ra5 rn5 rc5) (.slice ra6 (yn - rn5) rc6) w6 HK1_6.out HKN6.out (inL_sub HIY.out (fun _ h => List.mem_of_mem_take h)) (inL_sub HIY.out (fun _ h => List.mem_of_mem_drop h)) (HET.out _ HB_6.out)
            rw [HJ2.out.1, HJ2.out.2] at hc
            have HC := Lib.hid hc
            clear hc
            obtain ⟨p0a, p0b, p0c, -, -, -⟩ := srow3 HR0_6.out
            obtain ⟨p1a, p1b, p1c, -, -, -⟩ := srow3 HR1_6.out
            obtain ⟨p2a, p2b, p2c, -, -, -⟩ := srow3 HRN6.out
            go_wp2_with fail
            refine HC.out.mono ?_
            rintro e w7 ⟨ma7, mn7, mc7, rfl, hk, hb⟩
            clear HC
            clear p0a p0b p0c p1a p1b p1c p2a p2b p2c
            have HR0_7 := Lib.hid (Row.below HR0_6.out hb (Row.lt HR0_6.out))
            have HR1_7 := Lib.hid (Row.below HR1_6.out hb (Row.lt HR1_6.out))
            have HR2_7 := Lib.hid (Row.below HRN6.out hb (Row.lt HRN6.out))
            have HK0_7 := Lib.hid (HK0_6.out.below hb)
            have HK1_7 := Lib.hid (HK1_6.out.below hb)
            have HK2_7 := Lib.hid (HKN6.out.below hb)
            have HB_7 := Lib.hid (HB_6.out.trans (hb.mono HB_6.out.size))
            have HKN7 := Lib.hid hk
            clear hk
            clear hb
            obtain ⟨u8, hu8⟩ : ∃ u, u = w7.alloc (.cells #[.bool true, .bool bR, .slice ma7 mn7 mc7] 24) := ⟨_, rfl⟩
            have hbu : Below w7.heap.size w7 u8 := by rw [hu8]; exact (Below.refl _ _).alloc (Nat.le_refl _) _
            have HRN8 : Hid (Row u8 w7.heap.size 24 #[.bool true, .bool bR, .slice ma7 mn7 mc7]) := Lib.hid (by rw [hu8]; exact Row.new _ _ _)
            have HR0_8 := Lib.hid (Row.below HR0_7.out hbu (Row.lt HR0_7.out))
            have HR1_8 := Lib.hid (Row.below HR1_7.out hbu (Row.lt HR1_7.out))
            have HR2_8 := Lib.hid (Row.below HR2_7.out hbu (Row.lt HR2_7.out))
            have HK0_8 := Lib.hid (HK0_7.out.below hbu)
            have HK1_8 := Lib.hid (HK1_7.out.below hbu)
            have HK2_8 := Lib.hid (HK2_7.out.below hbu)
            have HK3_8 := Lib.hid (HKN7.out.below hbu)
            have HB_8 := Lib.hid (HB_7.out.trans (hbu.mono HB_7.out.size))
            have HU8 := Lib.hid hu8
            clear hbu hu8
            have hc := smon_c ⟨#[44]⟩ ⟨bL, bR, Y⟩ (.slice ya yn yc) u8 HK0_8.out HIY.out (HET.out _ HB_8.out)
            rw [HLS.out.1, HLS.out.2] at hc
            rw [HU8.out] at hc
            have HC := Lib.hid hc
            clear hc
            obtain ⟨p0a, p0b, p0c, -, -, -⟩ := srow3 HR0_8.out
            obtain ⟨p1a, p1b, p1c, -, -, -⟩ := srow3 HR1_8.out
            obtain ⟨p2a, p2b, p2c, -, -, -⟩ := srow3 HR2_8.out
            obtain ⟨p3a, p3b, p3c, -, -, -⟩ := srow3 HRN8.out
            rw [HU8.out] at p0a p0b p0c p1a p1b p1c p2a p2b p2c p3a p3b p3c
            go_wp2_with fail
            refine HC.out.mono ?_
            rintro e w9 ⟨ma9, mn9, mc9, rfl, hk, hb⟩
            clear HC
            clear p0a p0b p0c p1a p1b p1c p2a p2b p2c p3a p3b p3c
            rw [← HU8.out] at hb
            have HR0_9 := Lib.hid (Row.below HR0_8.out hb (Row.lt HR0_8.out))
            have HR1_9 := Lib.hid (Row.below HR1_8.out hb (Row.lt HR1_8.out))
            have HR2_9 := Lib.hid (Row.below HR2_8.out hb (Row.lt HR2_8.out))
            have HR3_9 := Lib.hid (Row.below HRN8.out hb (Row.lt HRN8.out))
            have HK0_9 := Lib.hid (HK0_8.out.below hb)
            have HK1_9 := Lib.hid (HK1_8.out.below hb)
            have HK2_9 := Lib.hid (HK2_8.out.below hb)
            have HK3_9 := Lib.hid (HK3_8.out.below hb)
            have HB_9 := Lib.hid (HB_8.out.trans (hb.mono HB_8.out.size))
            have HKN9 := Lib.hid hk
            clear hk
            clear hb
            obtain ⟨u10, hu10⟩ : ∃ u, u = w9.alloc (.cells #[.bool true, .bool bR, .slice ma9 mn9 mc9] 24) := ⟨_, rfl⟩
            have hbu : Below w9.heap.size w9 u10 := by rw [hu10]; exact (Below.refl _ _).alloc (Nat.le_refl _) _
            have HRN10 : Hid (Row u10 w9.heap.size 24 #[.bool true, .bool bR, .slice ma9 mn9 mc9]) := Lib.hid (by rw [hu10]; exact Row.new _ _ _)
            have HR0_10 := Lib.hid (Row.below HR0_9.out hbu (Row.lt HR0_9.out))
            have HR1_10 := Lib.hid (Row.below HR1_9.out hbu (Row.lt HR1_9.out))
            have HR2_10 := Lib.hid (Row.below HR2_9.out hbu (Row.lt HR2_9.out))
            have HR3_10 := Lib.hid (Row.below HR3_9.out hbu (Row.lt HR3_9.out))
            have HK0_10 := Lib.hid (HK0_9.out.below hbu)
            have HK1_10 := Lib.hid (HK1_9.out.below hbu)
            have HK2_10 := Lib.hid (HK2_9.out.below hbu)
            have HK3_10 := Lib.hid (HK3_9.out.below hbu)
            have HK4_10 := Lib.hid (HKN9.out.below hbu)
            have HB_10 := Lib.hid (HB_9.out.trans (hbu.mono HB_9.out.size))
            have HU10 := Lib.hid hu10
            clear hbu hu10
            have hc := same_c ⟨true, bR, Y⟩ ⟨true, bR, Y⟩ (.slice ma7 mn7 mc7) (.slice ma9 mn9 mc9) u10 HK3_10.out HK4_10.out
            rw [HSA.out] at hc
            rw [HU10.out] at hc
            have HC := Lib.hid hc
            clear hc
            obtain ⟨p0a, p0b, p0c, -, -, -⟩ := srow3 HR0_10.out
            obtain ⟨p1a, p1b, p1c, -, -, -⟩ := srow3 HR1_10.out
            obtain ⟨p2a, p2b, p2c, -, -, -⟩ := srow3 HR2_10.out
            obtain ⟨p3a, p3b, p3c, -, -, -⟩ := srow3 HR3_10.out
            obtain ⟨p4a, p4b, p4c, -, -, -⟩ := srow3 HRN10.out
            rw [HU10.out] at p0a p0b p0c p1a p1b p1c p2a p2b p2c p3a p3b p3c p4a p4b p4c
            go_wp2_with fail
            refine HC.out.mono ?_
            rintro e w11 ⟨rfl, hb⟩
            clear HC
            clear p0a p0b p0c p1a p1b p1c p2a p2b p2c p3a p3b p3c p4a p4b p4c
            rw [← HU10.out] at hb
            have HR0_11 := Lib.hid (Row.below HR0_10.out hb (Row.lt HR0_10.out))
            have HR1_11 := Lib.hid (Row.below HR1_10.out hb (Row.lt HR1_10.out))
            have HR2_11 := Lib.hid (Row.below HR2_10.out hb (Row.lt HR2_10.out))
            have HR3_11 := Lib.hid (Row.below HR3_10.out hb (Row.lt HR3_10.out))
            have HR4_11 := Lib.hid (Row.below HRN10.out hb (Row.lt HRN10.out))
            have HK0_11 := Lib.hid (HK0_10.out.below hb)
            have HK1_11 := Lib.hid (HK1_10.out.below hb)
            have HK2_11 := Lib.hid (HK2_10.out.below hb)
            have HK3_11 := Lib.hid (HK3_10.out.below hb)
            have HK4_11 := Lib.hid (HK4_10.out.below hb)
            have HB_11 := Lib.hid (HB_10.out.trans (hb.mono HB_10.out.size))
            clear hb
            obtain ⟨p0a, p0b, p0c, -, -, -⟩ := srow3 HR0_11.out
            obtain ⟨p1a, p1b, p1c, -, -, -⟩ := srow3 HR1_11.out
            obtain ⟨p2a, p2b, p2c, -, -, -⟩ := srow3 HR2_11.out
            obtain ⟨p3a, p3b, p3c, -, -, -⟩ := srow3 HR3_11.out
            obtain ⟨p4a, p4b, p4c, -, -, -⟩ := srow3 HR4_11.out
            have es : (yn : Int) - (rn5 : Int) = ((yn - rn5 : Nat) : Int) := by omega
            have hyb : yn ≤ 202 := by rw [HVY.out]; exact HLY.out
            go_wp2_with fail
            go_ret
            exact ⟨rfl, HB_11.out⟩
end Go.Proofs.YteclpoooggcdoaaGreatDoor.Ar
