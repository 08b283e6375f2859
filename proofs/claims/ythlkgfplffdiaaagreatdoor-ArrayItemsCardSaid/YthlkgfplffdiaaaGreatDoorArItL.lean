/- The statement ArrayItems. -/
import Derived.Test.YthlkgfplffdiaaaGreatDoorArItF
import Derived.Deep.DeepCutAuto
namespace Go.Proofs.YthlkgfplffdiaaaGreatDoor.Ar
open Go Go.RowKit Go.Shelf
attribute [local go_sem] Oper.semAt_some

theorem cut_in {L : Bool} {X : List Int} (h : InL X) (k : Nat) : InL (cutI L X k) := fun x hx => by
  unfold cutI at hx
  split at hx
  · exact h x (List.mem_of_mem_drop (List.mem_of_mem_take hx))
  · exact h x (List.mem_of_mem_take hx)

set_option maxRecDepth 100000 in
set_option maxHeartbeats 16000000 in
theorem items_true (w : World) (hG : AG w) (g : ByteArray) (hgs : g.size ≤ maxLen) (i : Int) (a b : Ary) (s t : Value) (hs : KL w s a.n) (ht : KL w t b.n) (hi : InL a.n) (hj : InL b.n) : Calls Tryz.prog 5 #[.string g, aryV a s, aryV b t, .int .i64 i] w fun e w' => e = .returned (.bool true) ∧ Below w.heap.size w w' := by
  obtain ⟨aL, aR, aN⟩ := a
  obtain ⟨bL, bR, bN⟩ := b
  obtain ⟨sa, sc, rfl, -, -⟩ := hs.form
  obtain ⟨ta, tc, rfl, -, -⟩ := ht.form
  dsimp only [aryV] at *
  obtain ⟨an, han⟩ : ∃ n, n = aN.length := ⟨_, rfl⟩
  obtain ⟨bn, hbn⟩ : ∃ n, n = bN.length := ⟨_, rfl⟩
  have hF1 : ∀ W, Below w.heap.size w W → Calls Tryz.prog 9 #[.agg #[.bool aL, .bool aR, .slice sa an sc]] W fun e w' => ∃ xa xn xc, e = .returned (.agg #[.bool aL, .bool aR, .slice xa xn xc]) ∧ KL w' (.slice xa xn xc) (aN.take 202) ∧ Below W.heap.size W w' := fun W hW => by
    rw [han]
    refine (few_c ⟨aL, aR, aN⟩ _ W (hs.below hW)).mono ?_
    rintro e w' ⟨x, rfl, hk, hb⟩
    obtain ⟨xa, xc, rfl, -, -⟩ := hk.form
    exact ⟨_, _, _, rfl, hk, hb⟩
  have hF2 : ∀ W, Below w.heap.size w W → Calls Tryz.prog 9 #[.agg #[.bool bL, .bool bR, .slice ta bn tc]] W fun e w' => ∃ xa xn xc, e = .returned (.agg #[.bool bL, .bool bR, .slice xa xn xc]) ∧ KL w' (.slice xa xn xc) (bN.take 202) ∧ Below W.heap.size W w' := fun W hW => by
    rw [hbn]
    refine (few_c ⟨bL, bR, bN⟩ _ W (ht.below hW)).mono ?_
    rintro e w' ⟨x, rfl, hk, hb⟩
    obtain ⟨xa, xc, rfl, -, -⟩ := hk.form
    exact ⟨_, _, _, rfl, hk, hb⟩
  rw [← han, ← hbn]
  have HF1 := Lib.hid hF1
  have HF2 := Lib.hid hF2
  obtain ⟨X, hX⟩ : ∃ X, X = aN.take 202 := ⟨_, rfl⟩
  obtain ⟨Y, hY⟩ : ∃ X, X = bN.take 202 := ⟨_, rfl⟩
  rw [← hX] at HF1
  rw [← hY] at HF2
  have hx2 : X.length ≤ 202 := by rw [hX, List.length_take]; omega
  have hy2 : Y.length ≤ 202 := by rw [hY, List.length_take]; omega
  have HIX : Hid (InL X) := Lib.hid (by rw [hX]; exact fun x hx => hi x (List.mem_of_mem_take hx))
  have HIY : Hid (InL Y) := Lib.hid (by rw [hY]; exact fun x hx => hj x (List.mem_of_mem_take hx))
  have HX2 := Lib.hid hx2
  have HY2 := Lib.hid hy2
  have HSHT := Lib.hid (fun W => short_c g hgs W)
  obtain ⟨G, hGe⟩ : ∃ G, G = g.extract 0 (min g.size 20) := ⟨_, rfl⟩
  rw [← hGe] at HSHT
  have HGS := Lib.hid hgs
  -- what is told of them
  obtain ⟨er1, hc1⟩ : ∃ c, c = dyE G ⟨aL, aR, X⟩ ⟨bL, bR, Y⟩ := ⟨_, rfl⟩
  obtain ⟨Z1, hZ1⟩ : ∃ c, c = dyZ G ⟨aL, aR, X⟩ ⟨bL, bR, Y⟩ := ⟨_, rfl⟩
  have HD1 := Lib.hid (fun W s t h k hG => dyz_c G ⟨aL, aR, X⟩ ⟨bL, bR, Y⟩ s t W h k HIX.out HIY.out hG)
  have hp : ∀ k, er1 = 0 → k < Z1.n.length → ((if aL then k < X.length else 0 < X.length) ∧ (if bL then k < Y.length else 0 < Y.length)) ∧ ∃ v, Z1.n[k]? = some v ∧ ∀ W s t, KL W s (cutI aL X k) → KL W t (cutI bL Y k) → Nu.NG W → Calls Tryz.prog 13 #[.string G, aryV ⟨false, aR, cutI aL X k⟩ s, aryV ⟨false, bR, cutI bL Y k⟩ t] W fun e w' => Tells (Ary.mk false false [v]) 0 W e w' := fun k h hk => by
    rw [hc1] at h
    rw [hZ1] at hk
    obtain ⟨h1, v, h2, h3⟩ := one_of h hk
    refine ⟨lens_at h hk, v, by rw [hZ1]; exact h3, fun W s t hs ht hG => ?_⟩
    have hc := dyz_c G ⟨false, aR, cutI aL X k⟩ ⟨false, bR, cutI bL Y k⟩ s t W hs ht (cut_in HIX.out k) (cut_in HIY.out k) hG
    rw [h1, h2] at hc
    exact hc
  have HP := Lib.hid hp
  rw [← hc1, ← hZ1] at HD1
  have hp1 : Z1.n.length ≤ 202 := by
    by_cases h : er1 = 0
    · rw [hc1] at h
      rw [hZ1, (dyZ_right h).2.1]
      obtain ⟨h1, h2, -⟩ := dyE_ok h
      exact Nat.le_trans (lenP_le h1 h2) (by decide)
    · rw [hc1] at h
      rw [hZ1, dyZ_bad h]
      exact Nat.zero_le _
  have HP1 := Lib.hid hp1
  clear hc1 hZ1 hp hp1 hgs hGe
  clear hF1 hF2 hs ht hi hj hX hY han hbn hx2 hy2
  -- the boxes
  obtain ⟨u0, hu0⟩ : ∃ u0, u0 = (w.alloc (.cells #[.bool aL, .bool aR, .slice sa an sc] 24)).alloc (.cells #[.bool bL, .bool bR, .slice ta bn tc] 24) := ⟨_, rfl⟩
  have hb0 : Below w.heap.size w u0 := by rw [hu0]; exact ((Below.refl _ w).alloc (Nat.le_refl _) _).alloc (by simp) _
  have HB0 := Lib.hid hb0
  have HRA0 : Hid (Row u0 w.heap.size 24 #[.bool aL, .bool aR, .slice sa an sc]) := Lib.hid (by rw [hu0]; exact (Row.new _ _ _).alloc _)
  have HRB0 : Hid (Row u0 (w.heap.size + 1) 24 #[.bool bL, .bool bR, .slice ta bn tc]) := Lib.hid (by rw [hu0]; exact Row.at _ _ _ _ (by simp))
  have HG := Lib.hid hG
  have hsh := shown11_c u0 (hG.below hb0)
  rw [hu0] at hsh
  have HSH := Lib.hid hsh
  have HU0 := Lib.hid hu0
  clear hb0 hsh hu0 hG
  go_enter Tryz.func5, Tryz.ntmps5
  go_wp2_with fail
  refine HSH.out.mono ?_
  rintro e w1 ⟨rfl, hb⟩
  rw [← HU0.out] at hb
  have HB1 := Lib.hid (HB0.out.trans (hb.mono HB0.out.size))
  have HRA1 := Lib.hid (HRA0.out.below hb HRA0.out.lt)
  have HRB1 := Lib.hid (HRB0.out.below hb HRB0.out.lt)
  clear hb HU0
  obtain ⟨c0, c1, c2, -, -, -⟩ := row3 HRA1.out
  have HC := Lib.hid (HF1.out w1 HB1.out)
  go_wp2_with fail
  refine HC.out.mono ?_
  rintro e w2 ⟨xa, xn, xc, rfl, hk, hb⟩
  have hnx : xn = X.length := by obtain ⟨_, _, e, _, _⟩ := hk.form; injection e
  -- the first's box is written
  have ra2 := HRA1.out.below hb HRA1.out.lt
  have rb2 := HRB1.out.below hb HRB1.out.lt
  have hb2 := HB1.out.trans (hb.mono HB1.out.size)
  obtain ⟨u2, hu2⟩ : ∃ u2, u2 = ((w2.setCell ⟨w.heap.size, 0, none⟩ (.bool aL)).setCell ⟨w.heap.size, 1, none⟩ (.bool aR)).setCell ⟨w.heap.size, 2, none⟩ (.slice xa xn xc) := ⟨_, rfl⟩
  have HBU2 : Hid (Below w.heap.size w u2) := Lib.hid (by rw [hu2]; exact ((hb2.setCell (p := ⟨w.heap.size, 0, none⟩) (Nat.le_refl _) _).setCell (p := ⟨w.heap.size, 1, none⟩) (Nat.le_refl _) _).setCell (p := ⟨w.heap.size, 2, none⟩) (Nat.le_refl _) _)
  have HRA2 : Hid (Row u2 w.heap.size 24 #[.bool aL, .bool aR, .slice xa xn xc]) := Lib.hid (by rw [hu2]; exact row_set3 ra2 _ _ _)
  have HRB2 : Hid (Row u2 (w.heap.size + 1) 24 #[.bool bL, .bool bR, .slice ta bn tc]) := Lib.hid (by rw [hu2]; exact ((rb2.other (by omega) _).other (by omega) _).other (by omega) _)
  have HKX2 : Hid (KL u2 (.slice xa xn xc) X) := Lib.hid (by rw [hu2]; exact kl_set3 hk ra2 _ _ _)
  clear c0 c1 c2
  obtain ⟨c0, c1, c2, f0, f1, f2⟩ := row3 ra2
  obtain ⟨d0, d1, d2, -, -, -⟩ := row3 HRB2.out
  rw [hu2] at d0 d1 d2
  have hc := HF2.out u2 HBU2.out
  rw [hu2] at hc
  have HC := Lib.hid hc
  have HU2 := Lib.hid hu2
  have HNX := Lib.hid hnx
  clear ra2 rb2 hb2 hk hb hu2 hc hnx
  go_wp2_with fail
  refine HC.out.mono ?_
  rintro e w3 ⟨ya, yn, yc, rfl, hk, hb⟩
  rw [← HU2.out] at hb
  have hny : yn = Y.length := by obtain ⟨_, _, e, _, _⟩ := hk.form; injection e
  have ra2 := HRA2.out.below hb HRA2.out.lt
  have rb2 := HRB2.out.below hb HRB2.out.lt
  have hb2 := HBU2.out.trans (hb.mono HBU2.out.size)
  have hkx := HKX2.out.below hb
  obtain ⟨u3, hu3⟩ : ∃ u3, u3 = ((w3.setCell ⟨w.heap.size + 1, 0, none⟩ (.bool bL)).setCell ⟨w.heap.size + 1, 1, none⟩ (.bool bR)).setCell ⟨w.heap.size + 1, 2, none⟩ (.slice ya yn yc) := ⟨_, rfl⟩
  have HB3 : Hid (Below w.heap.size w u3) := Lib.hid (by rw [hu3]; exact ((hb2.setCell (p := ⟨w.heap.size + 1, 0, none⟩) (Nat.le_succ _) _).setCell (p := ⟨w.heap.size + 1, 1, none⟩) (Nat.le_succ _) _).setCell (p := ⟨w.heap.size + 1, 2, none⟩) (Nat.le_succ _) _)
  have HRA3 : Hid (Row u3 w.heap.size 24 #[.bool aL, .bool aR, .slice xa xn xc]) := Lib.hid (by rw [hu3]; exact ((ra2.other (by omega) _).other (by omega) _).other (by omega) _)
  have HRB3 : Hid (Row u3 (w.heap.size + 1) 24 #[.bool bL, .bool bR, .slice ya yn yc]) := Lib.hid (by rw [hu3]; exact row_set3 rb2 _ _ _)
  have HKX3 : Hid (KL u3 (.slice xa xn xc) X) := Lib.hid (by rw [hu3]; exact kl_set3 hkx rb2 _ _ _)
  have HKY3 : Hid (KL u3 (.slice ya yn yc) Y) := Lib.hid (by rw [hu3]; exact kl_set3 hk rb2 _ _ _)
  have HG3 := Lib.hid (HG.out.below HB3.out)
  have HNY := Lib.hid hny
  have HU3 := Lib.hid hu3
  clear c0 c1 c2 f0 f1 f2 d0 d1 d2
  obtain ⟨e0, e1, e2, g0, g1, g2⟩ := row3 rb2
  obtain ⟨c0, c1, c2, -, -, -⟩ := row3 HRA3.out
  obtain ⟨d0, d1, d2, -, -, -⟩ := row3 HRB3.out
  rw [HU3.out] at c0 c1 c2 d0 d1 d2
  clear ra2 rb2 hb2 hkx hk hb hny hu3
  go_wp2_with fail
  rw [← HU3.out]
  have HCL : Hid (∀ W, Below u3.heap.size u3 W → Calls Tryz.prog 13 #[.string G, .agg #[.bool aL, .bool aR, .slice xa xn xc], .agg #[.bool bL, .bool bR, .slice ya yn yc]] W fun e w' => Tells (Z1) (er1) W e w') := Lib.hid (fun W h => HD1.out W _ _ (HKX3.out.below h) (HKY3.out.below h) (HG3.out.below h).ng)
  have HLD0 := Lib.hid (fun W (h : Below u3.heap.size u3 W) => row3 (Row.below HRA3.out h (Row.lt HRA3.out)))
  have HLD1 := Lib.hid (fun W (h : Below u3.heap.size u3 W) => row3 (Row.below HRB3.out h (Row.lt HRB3.out)))
  refine (wpIn_wide (n := 9)).1 ?_
  refine wpIn_region_boxG (by kernel_rfl) (by kernel_rfl) 9 8 6 (by decide) (by decide) (fun i => PhK u3.heap.size (Z1) (er1) ([.val (.string g), .val (.string G), .val (.agg #[.bool aL, .bool aR, .slice xa xn xc]), .val (.agg #[.bool bL, .bool bR, .slice ya yn yc]), .tup, .tup, .arr, .val (.int .i64 er1), .box, .any, .val (.int .i64 er1)].getD i .any)) (StB u3.heap.size (Z1)) (fun i v W W' hb => PhK.below hb) (fun u v W W' hb => StB.below hb) ?_ ?_ ?_
  · intro i oo listed a' W val ho hi hz haf hS hbw hF
    have hi' : i < 11 := hi
    obtain rfl | rfl | rfl | rfl | rfl | rfl | rfl | rfl | rfl | rfl : i = 0 ∨ i = 1 ∨ i = 2 ∨ i = 3 ∨ i = 4 ∨ i = 5 ∨ i = 6 ∨ i = 7 ∨ i = 8 ∨ i = 10 := by omega
    · cases ho
      refine opG_plain rfl rfl ?_
      have q0 : a'.tmps[0]? = some (.string g) := (hS.tmpBase 0 (by kernel_rfl)).trans rfl
      refine op_valv (.string g) W (fun _ _ => trivial) ?_ ⟨Below.refl _ _, rfl⟩
      rw [Oper.semAt_plain _ _ _ (by intro c h; cases h)]
      simp [execOp, q0, go_sem]
    · cases ho
      refine opG_plain rfl rfl ?_
      have l0 : listed.getD 0 false = true := haf ⟨0, .data⟩ (Array.mem_of_getElem? (i := 0) rfl) rfl
      have q22 : a'.tmps[22]? = some (val 0) := hS.tmpSet 0 _ 22 rfl rfl (by simp) l0
      rw [show val 0 = .string g from hF 0 l0] at q22
      refine op_callv 11 #[.string g] (fun _ _ => trivial) ?_ (by omega) ((callsIn_wide.2 (HSHT.out W)).mono ?_)
      · rw [Oper.semAt_plain _ _ _ (by intro c h; cases h)]
        simp [execOp, q22, go_sem]
      · rintro e W2 ⟨rfl, rfl⟩
        exact ⟨_, rfl, Below.refl _ _, rfl⟩
    · cases ho
      refine opG_plain rfl rfl ?_
      have q5 : a'.tmps[5]? = some (.pointer (some ⟨w.heap.size, 0, none⟩)) := (hS.tmpBase 5 (by kernel_rfl)).trans rfl
      obtain ⟨z0, z1, z2, -, -, -⟩ := HLD0.out W hbw
      refine op_valv (.agg #[.bool aL, .bool aR, .slice xa xn xc]) W (fun _ _ => trivial) ?_ ⟨Below.refl _ _, rfl⟩
      rw [Oper.semAt_plain _ _ _ (by intro c h; cases h)]
      simp [execOp, q5, z0, z1, z2, go_sem]
    · cases ho
      refine opG_plain rfl rfl ?_
      have q6 : a'.tmps[6]? = some (.pointer (some ⟨w.heap.size + 1, 0, none⟩)) := (hS.tmpBase 6 (by kernel_rfl)).trans rfl
      obtain ⟨z0, z1, z2, -, -, -⟩ := HLD1.out W hbw
      refine op_valv (.agg #[.bool bL, .bool bR, .slice ya yn yc]) W (fun _ _ => trivial) ?_ ⟨Below.refl _ _, rfl⟩
      rw [Oper.semAt_plain _ _ _ (by intro c h; cases h)]
      simp [execOp, q6, z0, z1, z2, go_sem]
    · cases ho
      refine opG_plain rfl rfl ?_
      have l1 : listed.getD 1 false = true := haf ⟨1, .data⟩ (Array.mem_of_getElem? (i := 0) rfl) rfl
      have q23 : a'.tmps[23]? = some (val 1) := hS.tmpSet 1 _ 23 rfl rfl (by simp) l1
      rw [show val 1 = .string G from hF 1 l1] at q23
      have l2 : listed.getD 2 false = true := haf ⟨2, .data⟩ (Array.mem_of_getElem? (i := 1) rfl) rfl
      have q24 : a'.tmps[24]? = some (val 2) := hS.tmpSet 2 _ 24 rfl rfl (by simp) l2
      rw [show val 2 = .agg #[.bool aL, .bool aR, .slice xa xn xc] from hF 2 l2] at q24
      have l3 : listed.getD 3 false = true := haf ⟨3, .data⟩ (Array.mem_of_getElem? (i := 2) rfl) rfl
      have q25 : a'.tmps[25]? = some (val 3) := hS.tmpSet 3 _ 25 rfl rfl (by simp) l3
      rw [show val 3 = .agg #[.bool bL, .bool bR, .slice ya yn yc] from hF 3 l3] at q25
      refine op_callv 13 #[.string G, .agg #[.bool aL, .bool aR, .slice xa xn xc], .agg #[.bool bL, .bool bR, .slice ya yn yc]] (fun _ _ => trivial) ?_ (by omega) ((callsIn_wide.2 (HCL.out W hbw)).mono ?_)
      · rw [Oper.semAt_plain _ _ _ (by intro c h; cases h)]
        simp [execOp, q23, q24, q25, go_sem]
      · rintro e W2 ⟨va, vn, vc, rfl, hown, hb⟩
        exact ⟨_, rfl, hb, va, vn, vc, rfl, hown.mono hbw.size⟩
    · cases ho
      refine opG_plain rfl rfl ?_
      have l4 : listed.getD 4 false = true := haf ⟨4, .data⟩ (Array.mem_of_getElem? (i := 0) rfl) rfl
      have q26 : a'.tmps[26]? = some (val 4) := hS.tmpSet 4 _ 26 rfl rfl (by simp) l4
      obtain ⟨va, vn, vc, ej, hown⟩ : ∃ va vn vc, val 4 = .tuple #[.agg #[.bool (Z1).list, .bool false, .slice va vn vc], .int .i64 (er1)] ∧ IOwn W u3.heap.size (.slice va vn vc) (Z1).n := hF 4 l4
      rw [ej] at q26
      refine op_valv (.tuple #[.agg #[.bool (Z1).list, .bool false, .slice va vn vc], .int .i64 (er1)]) W (fun _ _ => trivial) ?_ ⟨Below.refl _ _, va, vn, vc, rfl, hown⟩
      rw [Oper.semAt_plain _ _ _ (by intro c h; cases h)]
      simp [execOp, q26, go_sem]
    · cases ho
      refine opG_plain rfl rfl ?_
      have l5 : listed.getD 5 false = true := haf ⟨5, .data⟩ (Array.mem_of_getElem? (i := 0) rfl) rfl
      have q21 : a'.tmps[21]? = some (val 5) := hS.tmpSet 5 _ 21 rfl rfl (by simp) l5
      obtain ⟨va, vn, vc, ej, hown⟩ : ∃ va vn vc, val 5 = .tuple #[.agg #[.bool (Z1).list, .bool false, .slice va vn vc], .int .i64 (er1)] ∧ IOwn W u3.heap.size (.slice va vn vc) (Z1).n := hF 5 l5
      rw [ej] at q21
      refine op_valv (.agg #[.bool (Z1).list, .bool false, .slice va vn vc]) W (fun _ _ => trivial) ?_ ⟨Below.refl _ _, va, vn, vc, rfl, hown⟩
      rw [Oper.semAt_plain _ _ _ (by intro c h; cases h)]
      simp [execOp, q21, go_sem]
    · cases ho
      refine opG_plain rfl rfl ?_
      have l5 : listed.getD 5 false = true := haf ⟨5, .data⟩ (Array.mem_of_getElem? (i := 0) rfl) rfl
      have q21 : a'.tmps[21]? = some (val 5) := hS.tmpSet 5 _ 21 rfl rfl (by simp) l5
      obtain ⟨va, vn, vc, ej, hown⟩ : ∃ va vn vc, val 5 = .tuple #[.agg #[.bool (Z1).list, .bool false, .slice va vn vc], .int .i64 (er1)] ∧ IOwn W u3.heap.size (.slice va vn vc) (Z1).n := hF 5 l5
      rw [ej] at q21
      refine op_valv (.int .i64 er1) W (fun _ _ => trivial) ?_ ⟨Below.refl _ _, rfl⟩
      rw [Oper.semAt_plain _ _ _ (by intro c h; cases h)]
      simp [execOp, q21, go_sem]
    · cases ho
      refine opG_plain rfl rfl ?_
      refine op_valv (.pointer (some ⟨W.heap.size, 0, none⟩)) (W.alloc (.cells #[.bool false, .bool false, .slice none 0 0] 24)) (fun _ _ => trivial) ?_ ⟨(Below.refl _ _).alloc (Nat.le_refl _) _, W.heap.size, _, _, _, rfl, hbw.size, Row.new _ _ _⟩
      rw [Oper.semAt_plain _ _ _ (by intro c h; cases h)]
      simp [execOp, go_sem]
    · cases ho
      refine opG_plain rfl rfl ?_
      have l7 : listed.getD 7 false = true := haf ⟨7, .data⟩ (Array.mem_of_getElem? (i := 0) rfl) rfl
      have q28 : a'.tmps[28]? = some (val 7) := hS.tmpSet 7 _ 28 rfl rfl (by simp) l7
      rw [show val 7 = .int .i64 er1 from hF 7 l7] at q28
      refine op_valv (.int .i64 er1) W (fun _ _ => trivial) ?_ ⟨Below.refl _ _, rfl⟩
      rw [Oper.semAt_plain _ _ _ (by intro c h; cases h)]
      simp [execOp, q28, go_sem]
  · intro oo listed a' W val ho haf hS hbw hF
    cases ho
    refine opG_plain rfl rfl ?_
    have l8 : listed.getD 8 false = true := haf ⟨8, .data⟩ (Array.mem_of_getElem? (i := 0) rfl) rfl
    have q10 : a'.tmps[10]? = some (val 8) := hS.tmpSet 8 _ 10 rfl rfl (by simp) l8
    obtain ⟨b, x, y, u, eb, hbb, hr⟩ : ∃ b x y u, val 8 = .pointer (some ⟨b, 0, none⟩) ∧ u3.heap.size ≤ b ∧ Row W b 24 #[x, y, u] := hF 8 l8
    rw [eb] at q10
    have l6 : listed.getD 6 false = true := haf ⟨6, .data⟩ (Array.mem_of_getElem? (i := 1) rfl) rfl
    have q27 : a'.tmps[27]? = some (val 6) := hS.tmpSet 6 _ 27 rfl rfl (by simp) l6
    obtain ⟨va, vn, vc, ej, hown⟩ : ∃ va vn vc, val 6 = .agg #[.bool (Z1).list, .bool false, .slice va vn vc] ∧ IOwn W u3.heap.size (.slice va vn vc) (Z1).n := hF 6 l6
    rw [ej] at q27
    obtain ⟨d0, d1, d2, f0, f1, f2⟩ := row3 hr
    refine op_skipv (((W.setCell ⟨b, 0, none⟩ (.bool (Z1).list)).setCell ⟨b, 1, none⟩ (.bool false)).setCell ⟨b, 2, none⟩ (.slice va vn vc)) (fun _ _ => trivial) ?_ ⟨((hbw.setCell (p := ⟨b, 0, none⟩) hbb _).setCell (p := ⟨b, 1, none⟩) hbb _).setCell (p := ⟨b, 2, none⟩) hbb _, trivial, fun j hj => PhK.put _ _ _ hr (hF j hj), b, va, vn, vc, eb, ej, hbb, row_set3 hr _ _ _, own_off3 hown hr _ _ _⟩
    rw [Oper.semAt_plain _ _ _ (by intro c h; cases h)]
    simp [execOp, q10, q27, d0, d1, d2, f0, f1, f2, go_sem]
  · intro w4 val hb hF hst
    obtain ⟨bk4, va4, vn4, vc4, e8, e6, hbk4, hr, hown⟩ := hst
    have e0 : val 0 = .string g := hF 0 (by decide)
    have e1 : val 1 = .string G := hF 1 (by decide)
    have e2 : val 2 = .agg #[.bool aL, .bool aR, .slice xa xn xc] := hF 2 (by decide)
    have e3 : val 3 = .agg #[.bool bL, .bool bR, .slice ya yn yc] := hF 3 (by decide)
    obtain ⟨va, vn, vc, e4, -⟩ : ∃ va vn vc, val 4 = .tuple #[.agg #[.bool (Z1).list, .bool false, .slice va vn vc], .int .i64 (er1)] ∧ IOwn w4 u3.heap.size (.slice va vn vc) (Z1).n := hF 4 (by decide)
    obtain ⟨va, vn, vc, e5, -⟩ : ∃ va vn vc, val 5 = .tuple #[.agg #[.bool (Z1).list, .bool false, .slice va vn vc], .int .i64 (er1)] ∧ IOwn w4 u3.heap.size (.slice va vn vc) (Z1).n := hF 5 (by decide)
    have e7 : val 7 = .int .i64 er1 := hF 7 (by decide)
    have e10 : val 10 = .int .i64 er1 := hF 10 (by decide)
    simp only [finAct, List.getElem?_toArray, List.getElem?_cons_zero, List.getElem?_cons_succ, Act.put, List.setIfInBounds_toArray, List.set_cons_zero, List.set_cons_succ, List.size_toArray, List.length_cons, List.length_nil, Nat.reduceAdd]
    simp only [e8, e6, e0, e1, e2, e3, e4, e5, e7, e10]
    clear e8 e6 e0 e1 e2 e3 e4 e5 e7 e10 hF val
    have HN4 : Hid (vn4 = (Z1).n.length) := Lib.hid (by obtain ⟨_, _, e, _, _⟩ := hown.form; injection e)
    have HRN4 := Lib.hid hr
    have HKN4 := Lib.hid hown.kl
    have HON4 := Lib.hid hown
    have HSZ4 := Lib.hid hbk4
    have HR0_4 := Lib.hid (Row.below HRA3.out hb (Row.lt HRA3.out))
    have HR1_4 := Lib.hid (Row.below HRB3.out hb (Row.lt HRB3.out))
    have HK0_4 := Lib.hid (HKX3.out.below hb)
    have HK1_4 := Lib.hid (HKY3.out.below hb)
    have HB_4 := Lib.hid (HB3.out.trans (hb.mono HB3.out.size))
    have HG_4 := Lib.hid (HG.out.below HB_4.out)
    clear hb hr hown HCL
    by_cases he : er1 = 0
    rotate_left
    · have t1 : (er1 != 0) = true := by simpa using he
      obtain ⟨p0a, p0b, p0c, -, -, -⟩ := row3 HR0_4.out
      obtain ⟨p1a, p1b, p1c, -, -, -⟩ := row3 HR1_4.out
      obtain ⟨p2a, p2b, p2c, -, -, -⟩ := row3 HRN4.out
      go_wp2_with fail
      go_ret
      exact ⟨rfl, HB_4.out⟩
    subst he
    by_cases h0 : i < 0
    · have t2 : decide (i < 0) = true := decide_eq_true h0
      obtain ⟨p0a, p0b, p0c, -, -, -⟩ := row3 HR0_4.out
      obtain ⟨p1a, p1b, p1c, -, -, -⟩ := row3 HR1_4.out
      obtain ⟨p2a, p2b, p2c, -, -, -⟩ := row3 HRN4.out
      go_wp2_with fail
      go_ret
      exact ⟨rfl, HB_4.out⟩
    by_cases h1 : (vn4 : Int) ≤ i
    · have t2 : decide (i < 0) = false := decide_eq_false h0
      have t3 : decide (i ≥ (vn4 : Int)) = true := decide_eq_true h1
      obtain ⟨p0a, p0b, p0c, -, -, -⟩ := row3 HR0_4.out
      obtain ⟨p1a, p1b, p1c, -, -, -⟩ := row3 HR1_4.out
      obtain ⟨p2a, p2b, p2c, -, -, -⟩ := row3 HRN4.out
      go_wp2_with fail
      go_ret
      exact ⟨rfl, HB_4.out⟩
    obtain ⟨k, rfl⟩ : ∃ k : Nat, i = k := ⟨i.toNat, by omega⟩
    have hk : k < vn4 := by omega
    obtain ⟨hl, v, hv, hdy⟩ := HP.out k rfl (by rw [← HN4.out]; exact hk)
    have hk2 : k < 202 := by have h := HP1.out; rw [← HN4.out] at h; omega
    have HV := Lib.hid hv
    have HDY := Lib.hid hdy
    have HK := Lib.hid hk
    have HK2 := Lib.hid hk2
    clear HP hv hdy hk hk2 h0 h1
    have HZ0 : Hid ((0 : Int) ≤ (k : Int)) := Lib.hid (Int.natCast_nonneg _)
    have hpx : 0 < X.length := by have := hl.1; split at this <;> omega
    have hpy : 0 < Y.length := by have := hl.2; split at this <;> omega
    obtain ⟨ga, oa, ca, e, -, -⟩ := HK0_4.out.cells hpx
    injection e with e1 e2 e3
    subst e1
    subst e3
    clear e2
    obtain ⟨gb, ob, cb, e, -, -⟩ := HK1_4.out.cells hpy
    injection e with e1 e2 e3
    subst e1
    subst e3
    clear e2
    have hcx : xn ≤ xc ∧ xc ≤ maxLen := by obtain ⟨_, _, e, h1, h2⟩ := HK0_4.out.form; injection e with e1 e2 e3; subst e3; rw [HNX.out]; exact ⟨h1, h2⟩
    have hcy : yn ≤ yc ∧ yc ≤ maxLen := by obtain ⟨_, _, e, h1, h2⟩ := HK1_4.out.form; injection e with e1 e2 e3; subst e3; rw [HNY.out]; exact ⟨h1, h2⟩
    rw [← HNX.out, ← HNY.out] at hl
    rw [← HNX.out] at hpx
    rw [← HNY.out] at hpy
    unfold maxLen at hcx hcy
    have HCX := Lib.hid hcx
    have HCY := Lib.hid hcy
    have HPX := Lib.hid hpx
    have HPY := Lib.hid hpy
    have HL := Lib.hid hl
    clear hcx hcy hpx hpy hl
    have hkz := HZ0.out
    have t2 : decide ((k : Int) < 0) = false := decide_eq_false (by omega)
    have t4 : ¬ vn4 ≤ k := by have := HK.out; omega
    have t3 : decide (vn4 ≤ k) = false := decide_eq_false t4
    obtain ⟨p0a, p0b, p0c, -, -, -⟩ := row3 HR0_4.out
    obtain ⟨p1a, p1b, p1c, -, -, -⟩ := row3 HR1_4.out
    obtain ⟨p2a, p2b, p2c, -, -, -⟩ := row3 HRN4.out
    go_wp2_with fail
    clear p0a p0b p0c p1a p1b p1c p2a p2b p2c
    clear t2 t3 t4 hkz
    have HLX := Lib.hid HL.out.1
    have HLY := Lib.hid HL.out.2
    have HCAP : Hid (¬ (xc : Int) < 1) := Lib.hid (by have := HPX.out; have := HCX.out.1; omega)
    have HLD := Lib.hid (fun W (h : Below w4.heap.size w4 W) => row3 (Row.below HR0_4.out h (Row.lt HR0_4.out)))
    refine (wpIn_wide (n := 9)).1 ?_
    refine wpIn_region_boxG (by kernel_rfl) (by kernel_rfl) 7 6 5 (by decide) (by decide) (fun i => PhK w4.heap.size (Ary.mk false false []) 0 ([.val (.pointer (some ⟨w.heap.size, 1, none⟩)), .val (.bool aR), .val (.pointer (some ⟨w.heap.size, 2, none⟩)), .val (.slice (some ⟨ga, oa, none⟩) xn xc), .val (.slice (some ⟨ga, oa, none⟩) 1 xc), .val (.agg #[.bool false, .bool aR, .slice (some ⟨ga, oa, none⟩) 1 xc]), .box, .any].getD i .any)) (fun u _ W => StX w4.heap.size (.bool false) (.bool aR) (.slice (some ⟨ga, oa, none⟩) 1 xc) u W) (fun i v W W' hb => PhK.below hb) (fun u v W W' hb => StX.below hb) ?_ ?_ ?_
    · intro i oo listed a' W val ho hi hz haf hS hbw hF
      have hi' : i < 8 := hi
      obtain rfl | rfl | rfl | rfl | rfl | rfl | rfl : i = 0 ∨ i = 1 ∨ i = 2 ∨ i = 3 ∨ i = 4 ∨ i = 5 ∨ i = 6 := by omega
      · cases ho
        refine opG_plain rfl rfl ?_
        have q5 : a'.tmps[5]? = some (.pointer (some ⟨w.heap.size, 0, none⟩)) := (hS.tmpBase 5 (by kernel_rfl)).trans rfl
        refine op_valv (.pointer (some ⟨w.heap.size, 1, none⟩)) W (fun _ _ => trivial) ?_ ⟨Below.refl _ _, rfl⟩
        rw [Oper.semAt_plain _ _ _ (by intro c h; cases h)]
        simp [execOp, q5, go_sem]
      · cases ho
        refine opG_plain rfl rfl ?_
        have l0 : listed.getD 0 false = true := haf ⟨0, .data⟩ (Array.mem_of_getElem? (i := 0) rfl) rfl
        have q43 : a'.tmps[43]? = some (val 0) := hS.tmpSet 0 _ 43 rfl rfl (by simp) l0
        rw [show val 0 = .pointer (some ⟨w.heap.size, 1, none⟩) from hF 0 l0] at q43
        obtain ⟨z0, z1, z2, -, -, -⟩ := HLD.out W hbw
        refine op_valv (.bool aR) W (fun _ _ => trivial) ?_ ⟨Below.refl _ _, rfl⟩
        rw [Oper.semAt_plain _ _ _ (by intro c h; cases h)]
        simp [execOp, q43, z1, go_sem]
      · cases ho
        refine opG_plain rfl rfl ?_
        have q5 : a'.tmps[5]? = some (.pointer (some ⟨w.heap.size, 0, none⟩)) := (hS.tmpBase 5 (by kernel_rfl)).trans rfl
        refine op_valv (.pointer (some ⟨w.heap.size, 2, none⟩)) W (fun _ _ => trivial) ?_ ⟨Below.refl _ _, rfl⟩
        rw [Oper.semAt_plain _ _ _ (by intro c h; cases h)]
        simp [execOp, q5, go_sem]
      · cases ho
        refine opG_plain rfl rfl ?_
        have l2 : listed.getD 2 false = true := haf ⟨2, .data⟩ (Array.mem_of_getElem? (i := 0) rfl) rfl
        have q45 : a'.tmps[45]? = some (val 2) := hS.tmpSet 2 _ 45 rfl rfl (by simp) l2
        rw [show val 2 = .pointer (some ⟨w.heap.size, 2, none⟩) from hF 2 l2] at q45
        obtain ⟨z0, z1, z2, -, -, -⟩ := HLD.out W hbw
        refine op_valv (.slice (some ⟨ga, oa, none⟩) xn xc) W (fun _ _ => trivial) ?_ ⟨Below.refl _ _, rfl⟩
        rw [Oper.semAt_plain _ _ _ (by intro c h; cases h)]
        simp [execOp, q45, z2, go_sem]
      · cases ho
        refine opG_plain rfl rfl ?_
        have l3 : listed.getD 3 false = true := haf ⟨3, .data⟩ (Array.mem_of_getElem? (i := 0) rfl) rfl
        have q46 : a'.tmps[46]? = some (val 3) := hS.tmpSet 3 _ 46 rfl rfl (by simp) l3
        rw [show val 3 = .slice (some ⟨ga, oa, none⟩) xn xc from hF 3 l3] at q46
        refine op_valv (.slice (some ⟨ga, oa, none⟩) 1 xc) W (fun _ _ => trivial) ?_ ⟨Below.refl _ _, rfl⟩
        rw [Oper.semAt_plain _ _ _ (by intro c h; cases h)]
        simp [execOp, q46, HCAP.out, go_sem]
      · cases ho
        refine opG_plain rfl rfl ?_
        have l1 : listed.getD 1 false = true := haf ⟨1, .data⟩ (Array.mem_of_getElem? (i := 0) rfl) rfl
        have q44 : a'.tmps[44]? = some (val 1) := hS.tmpSet 1 _ 44 rfl rfl (by simp) l1
        rw [show val 1 = .bool aR from hF 1 l1] at q44
        have l4 : listed.getD 4 false = true := haf ⟨4, .data⟩ (Array.mem_of_getElem? (i := 1) rfl) rfl
        have q47 : a'.tmps[47]? = some (val 4) := hS.tmpSet 4 _ 47 rfl rfl (by simp) l4
        rw [show val 4 = .slice (some ⟨ga, oa, none⟩) 1 xc from hF 4 l4] at q47
        refine op_valv (.agg #[.bool false, .bool aR, .slice (some ⟨ga, oa, none⟩) 1 xc]) W (fun _ _ => trivial) ?_ ⟨Below.refl _ _, rfl⟩
        rw [Oper.semAt_plain _ _ _ (by intro c h; cases h)]
        simp [execOp, q44, q47, go_sem]
      · cases ho
        refine opG_plain rfl rfl ?_
        refine op_valv (.pointer (some ⟨W.heap.size, 0, none⟩)) (W.alloc (.cells #[.bool false, .bool false, .slice none 0 0] 24)) (fun _ _ => trivial) ?_ ⟨(Below.refl _ _).alloc (Nat.le_refl _) _, W.heap.size, _, _, _, rfl, hbw.size, Row.new _ _ _⟩
        rw [Oper.semAt_plain _ _ _ (by intro c h; cases h)]
        simp [execOp, go_sem]
    · intro oo listed a' W val ho haf hS hbw hF
      cases ho
      refine opG_plain rfl rfl ?_
      have l6 : listed.getD 6 false = true := haf ⟨6, .data⟩ (Array.mem_of_getElem? (i := 0) rfl) rfl
      have q12 : a'.tmps[12]? = some (val 6) := hS.tmpSet 6 _ 12 rfl rfl (by simp) l6
      obtain ⟨b, x, y, u, eb, hbb, hr⟩ : ∃ b x y u, val 6 = .pointer (some ⟨b, 0, none⟩) ∧ w4.heap.size ≤ b ∧ Row W b 24 #[x, y, u] := hF 6 l6
      rw [eb] at q12
      have l5 : listed.getD 5 false = true := haf ⟨5, .data⟩ (Array.mem_of_getElem? (i := 1) rfl) rfl
      have q48 : a'.tmps[48]? = some (val 5) := hS.tmpSet 5 _ 48 rfl rfl (by simp) l5
      rw [show val 5 = .agg #[.bool false, .bool aR, .slice (some ⟨ga, oa, none⟩) 1 xc] from hF 5 l5] at q48
      obtain ⟨d0, d1, d2, f0, f1, f2⟩ := row3 hr
      refine op_skipv (((W.setCell ⟨b, 0, none⟩ (.bool false)).setCell ⟨b, 1, none⟩ (.bool aR)).setCell ⟨b, 2, none⟩ (.slice (some ⟨ga, oa, none⟩) 1 xc)) (fun _ _ => trivial) ?_ ⟨((hbw.setCell (p := ⟨b, 0, none⟩) hbb _).setCell (p := ⟨b, 1, none⟩) hbb _).setCell (p := ⟨b, 2, none⟩) hbb _, trivial, fun j hj => PhK.put _ _ _ hr (hF j hj), b, eb, hbb, row_set3 hr _ _ _⟩
      rw [Oper.semAt_plain _ _ _ (by intro c h; cases h)]
      simp [execOp, q12, q48, d0, d1, d2, f0, f1, f2, go_sem]
    · intro w5 val hb hF hst
      obtain ⟨bk5, e6, hbk, hr⟩ := hst
      have e0 : val 0 = .pointer (some ⟨w.heap.size, 1, none⟩) := hF 0 (by decide)
      have e1 : val 1 = .bool aR := hF 1 (by decide)
      have e2 : val 2 = .pointer (some ⟨w.heap.size, 2, none⟩) := hF 2 (by decide)
      have e3 : val 3 = .slice (some ⟨ga, oa, none⟩) xn xc := hF 3 (by decide)
      have e4 : val 4 = .slice (some ⟨ga, oa, none⟩) 1 xc := hF 4 (by decide)
      have e5 : val 5 = .agg #[.bool false, .bool aR, .slice (some ⟨ga, oa, none⟩) 1 xc] := hF 5 (by decide)
      simp only [finAct, List.getElem?_toArray, List.getElem?_cons_zero, List.getElem?_cons_succ, Act.put, List.setIfInBounds_toArray, List.set_cons_zero, List.set_cons_succ, List.size_toArray, List.length_cons, List.length_nil, Nat.reduceAdd]
      simp only [e6, e0, e1, e2, e3, e4, e5]
      clear e6 e0 e1 e2 e3 e4 e5 hF val
      obtain ⟨y0, y1, y2, -, -, -⟩ := HLD.out _ hb
      clear HLD
      obtain ⟨m0, m1, m2, f0, f1, f2⟩ := row3 hr
      have HBX := Lib.hid hb
      have HRX := Lib.hid hr
      have HBK := Lib.hid hbk
      clear hb hr hbk
      go_upto_if 50 with fail
      go_cut [] (fun wx => Below w4.heap.size w4 wx ∧ ∃ vx vc, Row wx bk5 24 #[.bool false, .bool aR, .slice vx 1 vc] ∧ KL wx (.slice vx 1 vc) (cutI aL X k))
      case first =>
        cases aL with
        | false =>
          go_wp2_with fail
          go_meet
          exact ⟨HBX.out, some ⟨ga, oa, none⟩, xc, HRX.out, (HK0_4.out.take 1 HPX.out).below HBX.out⟩
        | true =>
          have hkl : k < xn := HLX.out
          have hz := HZ0.out
          have hzn : (k : Int) < (xn : Int) := by omega
          have hcp := HCAP.out
          have hcc := HCX.out.1
          have hk2 := HK2.out
          have HKL := Lib.hid hkl
          clear hkl
          go_wp2_with fail
          go_meet
          refine ⟨HBX.out.setCell (p := ⟨bk5, 2, none⟩) HBK.out _, some ⟨ga, oa + k, none⟩, xc - k, ?_, (KL.sub HK0_4.out k HKL.out).below (HBX.out.setCell (p := ⟨bk5, 2, none⟩) HBK.out _)⟩
          have := HRX.out.set 2 (.slice (some ⟨ga, oa + k, none⟩) 1 (xc - k))
          simpa using this
      case rest =>
        obtain ⟨hbu, vx5, vy5, hrn, hkn⟩ := hcut
        obtain ⟨w5c, hwc⟩ : ∃ W, W = wc := ⟨_, rfl⟩
        subst hwc
        have HRN5 := Lib.hid hrn
        have HKN5 := Lib.hid hkn
        clear y0 y1 y2 m0 m1 m2 f0 f1 f2 HBX HRX HBK hrn hkn
        have HR0_5 := Lib.hid (Row.below HR0_4.out hbu (Row.lt HR0_4.out))
        have HR1_5 := Lib.hid (Row.below HR1_4.out hbu (Row.lt HR1_4.out))
        have HR2_5 := Lib.hid (Row.below HRN4.out hbu (Row.lt HRN4.out))
        have HK0_5 := Lib.hid (HK0_4.out.below hbu)
        have HK1_5 := Lib.hid (HK1_4.out.below hbu)
        have HK2_5 := Lib.hid (HKN4.out.below hbu)
        have HB_5 := Lib.hid (HB_4.out.trans (hbu.mono HB_4.out.size))
        have HG_5 := Lib.hid (HG.out.below HB_5.out)
        have HW5 := Lib.hid hbu
        clear hbu
        clear HCAP
        have HCAP : Hid (¬ (yc : Int) < 1) := Lib.hid (by have := HPY.out; have := HCY.out.1; omega)
        go_wp2_with fail
        have HLD := Lib.hid (fun W (h : Below w5c.heap.size w5c W) => row3 (Row.below HR1_5.out h (Row.lt HR1_5.out)))
        refine (wpIn_wide (n := 9)).1 ?_
        refine wpIn_region_boxG (by kernel_rfl) (by kernel_rfl) 7 6 5 (by decide) (by decide) (fun i => PhK w5c.heap.size (Ary.mk false false []) 0 ([.val (.pointer (some ⟨(w.heap.size + 1), 1, none⟩)), .val (.bool bR), .val (.pointer (some ⟨(w.heap.size + 1), 2, none⟩)), .val (.slice (some ⟨gb, ob, none⟩) yn yc), .val (.slice (some ⟨gb, ob, none⟩) 1 yc), .val (.agg #[.bool false, .bool bR, .slice (some ⟨gb, ob, none⟩) 1 yc]), .box, .any].getD i .any)) (fun u _ W => StX w5c.heap.size (.bool false) (.bool bR) (.slice (some ⟨gb, ob, none⟩) 1 yc) u W) (fun i v W W' hb => PhK.below hb) (fun u v W W' hb => StX.below hb) ?_ ?_ ?_
        · intro i oo listed a' W val ho hi hz haf hS hbw hF
          have hi' : i < 8 := hi
          obtain rfl | rfl | rfl | rfl | rfl | rfl | rfl : i = 0 ∨ i = 1 ∨ i = 2 ∨ i = 3 ∨ i = 4 ∨ i = 5 ∨ i = 6 := by omega
          · cases ho
            refine opG_plain rfl rfl ?_
            have q6 : a'.tmps[6]? = some (.pointer (some ⟨(w.heap.size + 1), 0, none⟩)) := (hS.tmpBase 6 (by kernel_rfl)).trans rfl
            refine op_valv (.pointer (some ⟨(w.heap.size + 1), 1, none⟩)) W (fun _ _ => trivial) ?_ ⟨Below.refl _ _, rfl⟩
            rw [Oper.semAt_plain _ _ _ (by intro c h; cases h)]
            simp [execOp, q6, go_sem]
          · cases ho
            refine opG_plain rfl rfl ?_
            have l0 : listed.getD 0 false = true := haf ⟨0, .data⟩ (Array.mem_of_getElem? (i := 0) rfl) rfl
            have q58 : a'.tmps[58]? = some (val 0) := hS.tmpSet 0 _ 58 rfl rfl (by simp) l0
            rw [show val 0 = .pointer (some ⟨(w.heap.size + 1), 1, none⟩) from hF 0 l0] at q58
            obtain ⟨z0, z1, z2, -, -, -⟩ := HLD.out W hbw
            refine op_valv (.bool bR) W (fun _ _ => trivial) ?_ ⟨Below.refl _ _, rfl⟩
            rw [Oper.semAt_plain _ _ _ (by intro c h; cases h)]
            simp [execOp, q58, z1, go_sem]
          · cases ho
            refine opG_plain rfl rfl ?_
            have q6 : a'.tmps[6]? = some (.pointer (some ⟨(w.heap.size + 1), 0, none⟩)) := (hS.tmpBase 6 (by kernel_rfl)).trans rfl
            refine op_valv (.pointer (some ⟨(w.heap.size + 1), 2, none⟩)) W (fun _ _ => trivial) ?_ ⟨Below.refl _ _, rfl⟩
            rw [Oper.semAt_plain _ _ _ (by intro c h; cases h)]
            simp [execOp, q6, go_sem]
          · cases ho
            refine opG_plain rfl rfl ?_
            have l2 : listed.getD 2 false = true := haf ⟨2, .data⟩ (Array.mem_of_getElem? (i := 0) rfl) rfl
            have q60 : a'.tmps[60]? = some (val 2) := hS.tmpSet 2 _ 60 rfl rfl (by simp) l2
            rw [show val 2 = .pointer (some ⟨(w.heap.size + 1), 2, none⟩) from hF 2 l2] at q60
            obtain ⟨z0, z1, z2, -, -, -⟩ := HLD.out W hbw
            refine op_valv (.slice (some ⟨gb, ob, none⟩) yn yc) W (fun _ _ => trivial) ?_ ⟨Below.refl _ _, rfl⟩
            rw [Oper.semAt_plain _ _ _ (by intro c h; cases h)]
            simp [execOp, q60, z2, go_sem]
          · cases ho
            refine opG_plain rfl rfl ?_
            have l3 : listed.getD 3 false = true := haf ⟨3, .data⟩ (Array.mem_of_getElem? (i := 0) rfl) rfl
            have q61 : a'.tmps[61]? = some (val 3) := hS.tmpSet 3 _ 61 rfl rfl (by simp) l3
            rw [show val 3 = .slice (some ⟨gb, ob, none⟩) yn yc from hF 3 l3] at q61
            refine op_valv (.slice (some ⟨gb, ob, none⟩) 1 yc) W (fun _ _ => trivial) ?_ ⟨Below.refl _ _, rfl⟩
            rw [Oper.semAt_plain _ _ _ (by intro c h; cases h)]
            simp [execOp, q61, HCAP.out, go_sem]
          · cases ho
            refine opG_plain rfl rfl ?_
            have l1 : listed.getD 1 false = true := haf ⟨1, .data⟩ (Array.mem_of_getElem? (i := 0) rfl) rfl
            have q59 : a'.tmps[59]? = some (val 1) := hS.tmpSet 1 _ 59 rfl rfl (by simp) l1
            rw [show val 1 = .bool bR from hF 1 l1] at q59
            have l4 : listed.getD 4 false = true := haf ⟨4, .data⟩ (Array.mem_of_getElem? (i := 1) rfl) rfl
            have q62 : a'.tmps[62]? = some (val 4) := hS.tmpSet 4 _ 62 rfl rfl (by simp) l4
            rw [show val 4 = .slice (some ⟨gb, ob, none⟩) 1 yc from hF 4 l4] at q62
            refine op_valv (.agg #[.bool false, .bool bR, .slice (some ⟨gb, ob, none⟩) 1 yc]) W (fun _ _ => trivial) ?_ ⟨Below.refl _ _, rfl⟩
            rw [Oper.semAt_plain _ _ _ (by intro c h; cases h)]
            simp [execOp, q59, q62, go_sem]
          · cases ho
            refine opG_plain rfl rfl ?_
            refine op_valv (.pointer (some ⟨W.heap.size, 0, none⟩)) (W.alloc (.cells #[.bool false, .bool false, .slice none 0 0] 24)) (fun _ _ => trivial) ?_ ⟨(Below.refl _ _).alloc (Nat.le_refl _) _, W.heap.size, _, _, _, rfl, hbw.size, Row.new _ _ _⟩
            rw [Oper.semAt_plain _ _ _ (by intro c h; cases h)]
            simp [execOp, go_sem]
        · intro oo listed a' W val ho haf hS hbw hF
          cases ho
          refine opG_plain rfl rfl ?_
          have l6 : listed.getD 6 false = true := haf ⟨6, .data⟩ (Array.mem_of_getElem? (i := 0) rfl) rfl
          have q13 : a'.tmps[13]? = some (val 6) := hS.tmpSet 6 _ 13 rfl rfl (by simp) l6
          obtain ⟨b, x, y, u, eb, hbb, hr⟩ : ∃ b x y u, val 6 = .pointer (some ⟨b, 0, none⟩) ∧ w5c.heap.size ≤ b ∧ Row W b 24 #[x, y, u] := hF 6 l6
          rw [eb] at q13
          have l5 : listed.getD 5 false = true := haf ⟨5, .data⟩ (Array.mem_of_getElem? (i := 1) rfl) rfl
          have q63 : a'.tmps[63]? = some (val 5) := hS.tmpSet 5 _ 63 rfl rfl (by simp) l5
          rw [show val 5 = .agg #[.bool false, .bool bR, .slice (some ⟨gb, ob, none⟩) 1 yc] from hF 5 l5] at q63
          obtain ⟨d0, d1, d2, f0, f1, f2⟩ := row3 hr
          refine op_skipv (((W.setCell ⟨b, 0, none⟩ (.bool false)).setCell ⟨b, 1, none⟩ (.bool bR)).setCell ⟨b, 2, none⟩ (.slice (some ⟨gb, ob, none⟩) 1 yc)) (fun _ _ => trivial) ?_ ⟨((hbw.setCell (p := ⟨b, 0, none⟩) hbb _).setCell (p := ⟨b, 1, none⟩) hbb _).setCell (p := ⟨b, 2, none⟩) hbb _, trivial, fun j hj => PhK.put _ _ _ hr (hF j hj), b, eb, hbb, row_set3 hr _ _ _⟩
          rw [Oper.semAt_plain _ _ _ (by intro c h; cases h)]
          simp [execOp, q13, q63, d0, d1, d2, f0, f1, f2, go_sem]
        · intro w6 val hb hF hst
          obtain ⟨bk6, e6, hbk, hr⟩ := hst
          have e0 : val 0 = .pointer (some ⟨(w.heap.size + 1), 1, none⟩) := hF 0 (by decide)
          have e1 : val 1 = .bool bR := hF 1 (by decide)
          have e2 : val 2 = .pointer (some ⟨(w.heap.size + 1), 2, none⟩) := hF 2 (by decide)
          have e3 : val 3 = .slice (some ⟨gb, ob, none⟩) yn yc := hF 3 (by decide)
          have e4 : val 4 = .slice (some ⟨gb, ob, none⟩) 1 yc := hF 4 (by decide)
          have e5 : val 5 = .agg #[.bool false, .bool bR, .slice (some ⟨gb, ob, none⟩) 1 yc] := hF 5 (by decide)
          simp only [finAct, List.getElem?_toArray, List.getElem?_cons_zero, List.getElem?_cons_succ, Act.put, List.setIfInBounds_toArray, List.set_cons_zero, List.set_cons_succ, List.size_toArray, List.length_cons, List.length_nil, Nat.reduceAdd]
          simp only [e6, e0, e1, e2, e3, e4, e5]
          clear e6 e0 e1 e2 e3 e4 e5 hF val
          obtain ⟨y0, y1, y2, -, -, -⟩ := HLD.out _ hb
          clear HLD
          obtain ⟨m0, m1, m2, f0, f1, f2⟩ := row3 hr
          have HBX := Lib.hid hb
          have HRX := Lib.hid hr
          have HBK := Lib.hid hbk
          clear hb hr hbk
          go_upto_if 65 with fail
          go_cut [] (fun wx => Below w5c.heap.size w5c wx ∧ ∃ vx vc, Row wx bk6 24 #[.bool false, .bool bR, .slice vx 1 vc] ∧ KL wx (.slice vx 1 vc) (cutI bL Y k))
          case first =>
            cases bL with
            | false =>
              go_wp2_with fail
              go_meet
              exact ⟨HBX.out, some ⟨gb, ob, none⟩, yc, HRX.out, (HK1_5.out.take 1 HPY.out).below HBX.out⟩
            | true =>
              have hkl : k < yn := HLY.out
              have hz := HZ0.out
              have hzn : (k : Int) < (yn : Int) := by omega
              have hcp := HCAP.out
              have hcc := HCY.out.1
              have hk2 := HK2.out
              have HKL := Lib.hid hkl
              clear hkl
              go_wp2_with fail
              go_meet
              refine ⟨HBX.out.setCell (p := ⟨bk6, 2, none⟩) HBK.out _, some ⟨gb, ob + k, none⟩, yc - k, ?_, (KL.sub HK1_5.out k HKL.out).below (HBX.out.setCell (p := ⟨bk6, 2, none⟩) HBK.out _)⟩
              have := HRX.out.set 2 (.slice (some ⟨gb, ob + k, none⟩) 1 (yc - k))
              simpa using this
          case rest =>
            obtain ⟨hbu, vx6, vy6, hrn, hkn⟩ := hcut
            obtain ⟨w6c, hwc⟩ : ∃ W, W = wc := ⟨_, rfl⟩
            subst hwc
            have HRN6 := Lib.hid hrn
            have HKN6 := Lib.hid hkn
            clear y0 y1 y2 m0 m1 m2 f0 f1 f2 HBX HRX HBK hrn hkn
            have HR0_6 := Lib.hid (Row.below HR0_5.out hbu (Row.lt HR0_5.out))
            have HR1_6 := Lib.hid (Row.below HR1_5.out hbu (Row.lt HR1_5.out))
            have HR2_6 := Lib.hid (Row.below HR2_5.out hbu (Row.lt HR2_5.out))
            have HR3_6 := Lib.hid (Row.below HRN5.out hbu (Row.lt HRN5.out))
            have HK0_6 := Lib.hid (HK0_5.out.below hbu)
            have HK1_6 := Lib.hid (HK1_5.out.below hbu)
            have HK2_6 := Lib.hid (HK2_5.out.below hbu)
            have HK3_6 := Lib.hid (HKN5.out.below hbu)
            have HB_6 := Lib.hid (HB_5.out.trans (hbu.mono HB_5.out.size))
            have HG_6 := Lib.hid (HG.out.below HB_6.out)
            have HW6 := Lib.hid hbu
            clear hbu
            clear HCAP
            go_wp2_with fail
            have HCL : Hid (∀ W, Below w6c.heap.size w6c W → Calls Tryz.prog 13 #[.string G, .agg #[.bool false, .bool aR, (.slice vx5 1 vy5)], .agg #[.bool false, .bool bR, (.slice vx6 1 vy6)]] W fun e w' => Tells (Ary.mk false false [v]) (0) W e w') := Lib.hid (fun W h => HDY.out W _ _ (HK3_6.out.below h) (HKN6.out.below h) (HG_6.out.below h).ng)
            have HLD3 := Lib.hid (fun W (h : Below w6c.heap.size w6c W) => row3 (Row.below HR3_6.out h (Row.lt HR3_6.out)))
            have HLD4 := Lib.hid (fun W (h : Below w6c.heap.size w6c W) => row3 (Row.below HRN6.out h (Row.lt HRN6.out)))
            refine (wpIn_wide (n := 9)).1 ?_
            refine wpIn_region_boxG (by kernel_rfl) (by kernel_rfl) 9 8 6 (by decide) (by decide) (fun i => PhK w6c.heap.size (Ary.mk false false [v]) (0) ([.val (.string g), .val (.string G), .val (.agg #[.bool false, .bool aR, (.slice vx5 1 vy5)]), .val (.agg #[.bool false, .bool bR, (.slice vx6 1 vy6)]), .tup, .tup, .arr, .val (.int .i64 0), .box, .any, .val (.int .i64 0)].getD i .any)) (StB w6c.heap.size (Ary.mk false false [v])) (fun i v W W' hb => PhK.below hb) (fun u v W W' hb => StB.below hb) ?_ ?_ ?_
            · intro i oo listed a' W val ho hi hz haf hS hbw hF
              have hi' : i < 11 := hi
              obtain rfl | rfl | rfl | rfl | rfl | rfl | rfl | rfl | rfl | rfl : i = 0 ∨ i = 1 ∨ i = 2 ∨ i = 3 ∨ i = 4 ∨ i = 5 ∨ i = 6 ∨ i = 7 ∨ i = 8 ∨ i = 10 := by omega
              · cases ho
                refine opG_plain rfl rfl ?_
                have q0 : a'.tmps[0]? = some (.string g) := (hS.tmpBase 0 (by kernel_rfl)).trans rfl
                refine op_valv (.string g) W (fun _ _ => trivial) ?_ ⟨Below.refl _ _, rfl⟩
                rw [Oper.semAt_plain _ _ _ (by intro c h; cases h)]
                simp [execOp, q0, go_sem]
              · cases ho
                refine opG_plain rfl rfl ?_
                have l0 : listed.getD 0 false = true := haf ⟨0, .data⟩ (Array.mem_of_getElem? (i := 0) rfl) rfl
                have q74 : a'.tmps[74]? = some (val 0) := hS.tmpSet 0 _ 74 rfl rfl (by simp) l0
                rw [show val 0 = .string g from hF 0 l0] at q74
                refine op_callv 11 #[.string g] (fun _ _ => trivial) ?_ (by omega) ((callsIn_wide.2 (HSHT.out W)).mono ?_)
                · rw [Oper.semAt_plain _ _ _ (by intro c h; cases h)]
                  simp [execOp, q74, go_sem]
                · rintro e W2 ⟨rfl, rfl⟩
                  exact ⟨_, rfl, Below.refl _ _, rfl⟩
              · cases ho
                refine opG_plain rfl rfl ?_
                have q12 : a'.tmps[12]? = some (.pointer (some ⟨bk5, 0, none⟩)) := (hS.tmpBase 12 (by kernel_rfl)).trans rfl
                obtain ⟨z0, z1, z2, -, -, -⟩ := HLD3.out W hbw
                refine op_valv (.agg #[.bool false, .bool aR, (.slice vx5 1 vy5)]) W (fun _ _ => trivial) ?_ ⟨Below.refl _ _, rfl⟩
                rw [Oper.semAt_plain _ _ _ (by intro c h; cases h)]
                simp [execOp, q12, z0, z1, z2, go_sem]
              · cases ho
                refine opG_plain rfl rfl ?_
                have q13 : a'.tmps[13]? = some (.pointer (some ⟨bk6, 0, none⟩)) := (hS.tmpBase 13 (by kernel_rfl)).trans rfl
                obtain ⟨z0, z1, z2, -, -, -⟩ := HLD4.out W hbw
                refine op_valv (.agg #[.bool false, .bool bR, (.slice vx6 1 vy6)]) W (fun _ _ => trivial) ?_ ⟨Below.refl _ _, rfl⟩
                rw [Oper.semAt_plain _ _ _ (by intro c h; cases h)]
                simp [execOp, q13, z0, z1, z2, go_sem]
              · cases ho
                refine opG_plain rfl rfl ?_
                have l1 : listed.getD 1 false = true := haf ⟨1, .data⟩ (Array.mem_of_getElem? (i := 0) rfl) rfl
                have q75 : a'.tmps[75]? = some (val 1) := hS.tmpSet 1 _ 75 rfl rfl (by simp) l1
                rw [show val 1 = .string G from hF 1 l1] at q75
                have l2 : listed.getD 2 false = true := haf ⟨2, .data⟩ (Array.mem_of_getElem? (i := 1) rfl) rfl
                have q76 : a'.tmps[76]? = some (val 2) := hS.tmpSet 2 _ 76 rfl rfl (by simp) l2
                rw [show val 2 = .agg #[.bool false, .bool aR, (.slice vx5 1 vy5)] from hF 2 l2] at q76
                have l3 : listed.getD 3 false = true := haf ⟨3, .data⟩ (Array.mem_of_getElem? (i := 2) rfl) rfl
                have q77 : a'.tmps[77]? = some (val 3) := hS.tmpSet 3 _ 77 rfl rfl (by simp) l3
                rw [show val 3 = .agg #[.bool false, .bool bR, (.slice vx6 1 vy6)] from hF 3 l3] at q77
                refine op_callv 13 #[.string G, .agg #[.bool false, .bool aR, (.slice vx5 1 vy5)], .agg #[.bool false, .bool bR, (.slice vx6 1 vy6)]] (fun _ _ => trivial) ?_ (by omega) ((callsIn_wide.2 (HCL.out W hbw)).mono ?_)
                · rw [Oper.semAt_plain _ _ _ (by intro c h; cases h)]
                  simp [execOp, q75, q76, q77, go_sem]
                · rintro e W2 ⟨va, vn, vc, rfl, hown, hb⟩
                  exact ⟨_, rfl, hb, va, vn, vc, rfl, hown.mono hbw.size⟩
              · cases ho
                refine opG_plain rfl rfl ?_
                have l4 : listed.getD 4 false = true := haf ⟨4, .data⟩ (Array.mem_of_getElem? (i := 0) rfl) rfl
                have q78 : a'.tmps[78]? = some (val 4) := hS.tmpSet 4 _ 78 rfl rfl (by simp) l4
                obtain ⟨va, vn, vc, ej, hown⟩ : ∃ va vn vc, val 4 = .tuple #[.agg #[.bool (Ary.mk false false [v]).list, .bool false, .slice va vn vc], .int .i64 (0)] ∧ IOwn W w6c.heap.size (.slice va vn vc) (Ary.mk false false [v]).n := hF 4 l4
                rw [ej] at q78
                refine op_valv (.tuple #[.agg #[.bool (Ary.mk false false [v]).list, .bool false, .slice va vn vc], .int .i64 (0)]) W (fun _ _ => trivial) ?_ ⟨Below.refl _ _, va, vn, vc, rfl, hown⟩
                rw [Oper.semAt_plain _ _ _ (by intro c h; cases h)]
                simp [execOp, q78, go_sem]
              · cases ho
                refine opG_plain rfl rfl ?_
                have l5 : listed.getD 5 false = true := haf ⟨5, .data⟩ (Array.mem_of_getElem? (i := 0) rfl) rfl
                have q73 : a'.tmps[73]? = some (val 5) := hS.tmpSet 5 _ 73 rfl rfl (by simp) l5
                obtain ⟨va, vn, vc, ej, hown⟩ : ∃ va vn vc, val 5 = .tuple #[.agg #[.bool (Ary.mk false false [v]).list, .bool false, .slice va vn vc], .int .i64 (0)] ∧ IOwn W w6c.heap.size (.slice va vn vc) (Ary.mk false false [v]).n := hF 5 l5
                rw [ej] at q73
                refine op_valv (.agg #[.bool (Ary.mk false false [v]).list, .bool false, .slice va vn vc]) W (fun _ _ => trivial) ?_ ⟨Below.refl _ _, va, vn, vc, rfl, hown⟩
                rw [Oper.semAt_plain _ _ _ (by intro c h; cases h)]
                simp [execOp, q73, go_sem]
              · cases ho
                refine opG_plain rfl rfl ?_
                have l5 : listed.getD 5 false = true := haf ⟨5, .data⟩ (Array.mem_of_getElem? (i := 0) rfl) rfl
                have q73 : a'.tmps[73]? = some (val 5) := hS.tmpSet 5 _ 73 rfl rfl (by simp) l5
                obtain ⟨va, vn, vc, ej, hown⟩ : ∃ va vn vc, val 5 = .tuple #[.agg #[.bool (Ary.mk false false [v]).list, .bool false, .slice va vn vc], .int .i64 (0)] ∧ IOwn W w6c.heap.size (.slice va vn vc) (Ary.mk false false [v]).n := hF 5 l5
                rw [ej] at q73
                refine op_valv (.int .i64 0) W (fun _ _ => trivial) ?_ ⟨Below.refl _ _, rfl⟩
                rw [Oper.semAt_plain _ _ _ (by intro c h; cases h)]
                simp [execOp, q73, go_sem]
              · cases ho
                refine opG_plain rfl rfl ?_
                refine op_valv (.pointer (some ⟨W.heap.size, 0, none⟩)) (W.alloc (.cells #[.bool false, .bool false, .slice none 0 0] 24)) (fun _ _ => trivial) ?_ ⟨(Below.refl _ _).alloc (Nat.le_refl _) _, W.heap.size, _, _, _, rfl, hbw.size, Row.new _ _ _⟩
                rw [Oper.semAt_plain _ _ _ (by intro c h; cases h)]
                simp [execOp, go_sem]
              · cases ho
                refine opG_plain rfl rfl ?_
                have l7 : listed.getD 7 false = true := haf ⟨7, .data⟩ (Array.mem_of_getElem? (i := 0) rfl) rfl
                have q80 : a'.tmps[80]? = some (val 7) := hS.tmpSet 7 _ 80 rfl rfl (by simp) l7
                rw [show val 7 = .int .i64 0 from hF 7 l7] at q80
                refine op_valv (.int .i64 0) W (fun _ _ => trivial) ?_ ⟨Below.refl _ _, rfl⟩
                rw [Oper.semAt_plain _ _ _ (by intro c h; cases h)]
                simp [execOp, q80, go_sem]
            · intro oo listed a' W val ho haf hS hbw hF
              cases ho
              refine opG_plain rfl rfl ?_
              have l8 : listed.getD 8 false = true := haf ⟨8, .data⟩ (Array.mem_of_getElem? (i := 0) rfl) rfl
              have q14 : a'.tmps[14]? = some (val 8) := hS.tmpSet 8 _ 14 rfl rfl (by simp) l8
              obtain ⟨b, x, y, u, eb, hbb, hr⟩ : ∃ b x y u, val 8 = .pointer (some ⟨b, 0, none⟩) ∧ w6c.heap.size ≤ b ∧ Row W b 24 #[x, y, u] := hF 8 l8
              rw [eb] at q14
              have l6 : listed.getD 6 false = true := haf ⟨6, .data⟩ (Array.mem_of_getElem? (i := 1) rfl) rfl
              have q79 : a'.tmps[79]? = some (val 6) := hS.tmpSet 6 _ 79 rfl rfl (by simp) l6
              obtain ⟨va, vn, vc, ej, hown⟩ : ∃ va vn vc, val 6 = .agg #[.bool (Ary.mk false false [v]).list, .bool false, .slice va vn vc] ∧ IOwn W w6c.heap.size (.slice va vn vc) (Ary.mk false false [v]).n := hF 6 l6
              rw [ej] at q79
              obtain ⟨d0, d1, d2, f0, f1, f2⟩ := row3 hr
              refine op_skipv (((W.setCell ⟨b, 0, none⟩ (.bool (Ary.mk false false [v]).list)).setCell ⟨b, 1, none⟩ (.bool false)).setCell ⟨b, 2, none⟩ (.slice va vn vc)) (fun _ _ => trivial) ?_ ⟨((hbw.setCell (p := ⟨b, 0, none⟩) hbb _).setCell (p := ⟨b, 1, none⟩) hbb _).setCell (p := ⟨b, 2, none⟩) hbb _, trivial, fun j hj => PhK.put _ _ _ hr (hF j hj), b, va, vn, vc, eb, ej, hbb, row_set3 hr _ _ _, own_off3 hown hr _ _ _⟩
              rw [Oper.semAt_plain _ _ _ (by intro c h; cases h)]
              simp [execOp, q14, q79, d0, d1, d2, f0, f1, f2, go_sem]
            · intro w7 val hb hF hst
              obtain ⟨bk7, va7, vn7, vc7, e8, e6, hbk7, hr, hown⟩ := hst
              have e0 : val 0 = .string g := hF 0 (by decide)
              have e1 : val 1 = .string G := hF 1 (by decide)
              have e2 : val 2 = .agg #[.bool false, .bool aR, (.slice vx5 1 vy5)] := hF 2 (by decide)
              have e3 : val 3 = .agg #[.bool false, .bool bR, (.slice vx6 1 vy6)] := hF 3 (by decide)
              obtain ⟨va, vn, vc, e4, -⟩ : ∃ va vn vc, val 4 = .tuple #[.agg #[.bool (Ary.mk false false [v]).list, .bool false, .slice va vn vc], .int .i64 (0)] ∧ IOwn w7 w6c.heap.size (.slice va vn vc) (Ary.mk false false [v]).n := hF 4 (by decide)
              obtain ⟨va, vn, vc, e5, -⟩ : ∃ va vn vc, val 5 = .tuple #[.agg #[.bool (Ary.mk false false [v]).list, .bool false, .slice va vn vc], .int .i64 (0)] ∧ IOwn w7 w6c.heap.size (.slice va vn vc) (Ary.mk false false [v]).n := hF 5 (by decide)
              have e7 : val 7 = .int .i64 0 := hF 7 (by decide)
              have e10 : val 10 = .int .i64 0 := hF 10 (by decide)
              simp only [finAct, List.getElem?_toArray, List.getElem?_cons_zero, List.getElem?_cons_succ, Act.put, List.setIfInBounds_toArray, List.set_cons_zero, List.set_cons_succ, List.size_toArray, List.length_cons, List.length_nil, Nat.reduceAdd]
              simp only [e8, e6, e0, e1, e2, e3, e4, e5, e7, e10]
              clear e8 e6 e0 e1 e2 e3 e4 e5 e7 e10 hF val
              have HN7 : Hid (vn7 = (Ary.mk false false [v]).n.length) := Lib.hid (by obtain ⟨_, _, e, _, _⟩ := hown.form; injection e)
              have HRN7 := Lib.hid hr
              have HKN7 := Lib.hid hown.kl
              have HON7 := Lib.hid hown
              have HSZ7 := Lib.hid hbk7
              have HR0_7 := Lib.hid (Row.below HR0_6.out hb (Row.lt HR0_6.out))
              have HR1_7 := Lib.hid (Row.below HR1_6.out hb (Row.lt HR1_6.out))
              have HR2_7 := Lib.hid (Row.below HR2_6.out hb (Row.lt HR2_6.out))
              have HR3_7 := Lib.hid (Row.below HR3_6.out hb (Row.lt HR3_6.out))
              have HR4_7 := Lib.hid (Row.below HRN6.out hb (Row.lt HRN6.out))
              have HK0_7 := Lib.hid (HK0_6.out.below hb)
              have HK1_7 := Lib.hid (HK1_6.out.below hb)
              have HK2_7 := Lib.hid (HK2_6.out.below hb)
              have HK3_7 := Lib.hid (HK3_6.out.below hb)
              have HK4_7 := Lib.hid (HKN6.out.below hb)
              have HB_7 := Lib.hid (HB_6.out.trans (hb.mono HB_6.out.size))
              have HG_7 := Lib.hid (HG.out.below HB_7.out)
              clear hb hr hown HCL
              have hn1 : vn7 = 1 := HN7.out
              subst hn1
              obtain ⟨gz, oz, cz, e, -, hcz⟩ := HK2_7.out.cells (by rw [← HN4.out]; exact Nat.lt_of_le_of_lt (Nat.zero_le _) HK.out)
              injection e with e1 e2 e3
              subst e1
              subst e3
              clear e2
              obtain ⟨gy, oy, cy, e, -, hcy⟩ := HKN7.out.cells (Nat.zero_lt_succ _)
              injection e with e1 e2 e3
              subst e1
              subst e3
              clear e2
              have x0 := hcz k v HV.out
              have x1 := hcy 0 v rfl
              rw [Nat.add_zero] at x1
              clear hcz hcy
              have hz := HZ0.out
              have hzn : (k : Int) < (vn4 : Int) := by have := HK.out; omega
              obtain ⟨p0a, p0b, p0c, -, -, -⟩ := row3 HR0_7.out
              obtain ⟨p1a, p1b, p1c, -, -, -⟩ := row3 HR1_7.out
              obtain ⟨p2a, p2b, p2c, -, -, -⟩ := row3 HR2_7.out
              obtain ⟨p3a, p3b, p3c, -, -, -⟩ := row3 HR3_7.out
              obtain ⟨p4a, p4b, p4c, -, -, -⟩ := row3 HR4_7.out
              obtain ⟨p5a, p5b, p5c, -, -, -⟩ := row3 HRN7.out
              go_wp2_with fail
              go_quiet (fail)
              go_wp2_with fail
              go_ret
              exact ⟨rfl, HB_7.out.trans ((below_drewN _ _).mono HB_7.out.size)⟩
end Go.Proofs.YthlkgfplffdiaaaGreatDoor.Ar
