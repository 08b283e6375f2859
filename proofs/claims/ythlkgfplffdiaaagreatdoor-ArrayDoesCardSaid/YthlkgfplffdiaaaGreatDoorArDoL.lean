/- The statement ArrayDoes. -/
import Derived.Test.YthlkgfplffdiaaaGreatDoorArRfD
namespace Go.Proofs.YthlkgfplffdiaaaGreatDoor.Ar
open Go Go.RowKit Go.Shelf
attribute [local go_sem] Oper.semAt_some

set_option maxRecDepth 100000 in
set_option maxHeartbeats 16000000 in
theorem does_true (w : World) (hG : AG w) (g : ByteArray) (hgs : g.size ≤ maxLen) (a b : Ary) (s t : Value) (hs : KL w s a.n) (ht : KL w t b.n) (hi : InL a.n) (hj : InL b.n) : Calls Tryz.prog 3 #[.string g, aryV a s, aryV b t] w fun e w' => e = .returned (.bool true) ∧ Below w.heap.size w w' := by
  obtain ⟨aL, aR, aN⟩ := a
  obtain ⟨bL, bR, bN⟩ := b
  obtain ⟨sa, sc, rfl, -, -⟩ := hs.form
  obtain ⟨ta, tc, rfl, -, -⟩ := ht.form
  dsimp only [aryV] at *
  obtain ⟨an, han⟩ : ∃ n, n = aN.length := ⟨_, rfl⟩
  obtain ⟨bn, hbn⟩ : ∃ n, n = bN.length := ⟨_, rfl⟩
  have hF1 : ∀ W, Below w.heap.size w W → Calls Tryz.prog 9 #[.agg #[.bool aL, .bool aR, .slice sa an sc]] W fun e w' => ∃ xa xn xc, e = .returned (.agg #[.bool aL, .bool aR, .slice xa xn xc]) ∧ KL w' (.slice xa xn xc) (aN.take 202) ∧ Below W.heap.size W w' := fun W hW => by
    rw [han]
    refine (few_c ⟨aL, aR, aN⟩ _ W (hs.below hW)).mono ?_
    rintro e w' ⟨x, rfl, hk, hb⟩
    obtain ⟨xa, xc, rfl, -, -⟩ := hk.form
    exact ⟨_, _, _, rfl, hk, hb⟩
  have hF2 : ∀ W, Below w.heap.size w W → Calls Tryz.prog 9 #[.agg #[.bool bL, .bool bR, .slice ta bn tc]] W fun e w' => ∃ xa xn xc, e = .returned (.agg #[.bool bL, .bool bR, .slice xa xn xc]) ∧ KL w' (.slice xa xn xc) (bN.take 202) ∧ Below W.heap.size W w' := fun W hW => by
    rw [hbn]
    refine (few_c ⟨bL, bR, bN⟩ _ W (ht.below hW)).mono ?_
    rintro e w' ⟨x, rfl, hk, hb⟩
    obtain ⟨xa, xc, rfl, -, -⟩ := hk.form
    exact ⟨_, _, _, rfl, hk, hb⟩
  rw [← han, ← hbn]
  have HF1 := Lib.hid hF1
  have HF2 := Lib.hid hF2
  obtain ⟨X, hX⟩ : ∃ X, X = aN.take 202 := ⟨_, rfl⟩
  obtain ⟨Y, hY⟩ : ∃ X, X = bN.take 202 := ⟨_, rfl⟩
  rw [← hX] at HF1
  rw [← hY] at HF2
  have hx2 : X.length ≤ 202 := by rw [hX, List.length_take]; omega
  have hy2 : Y.length ≤ 202 := by rw [hY, List.length_take]; omega
  have HIX : Hid (InL X) := Lib.hid (by rw [hX]; exact fun x hx => hi x (List.mem_of_mem_take hx))
  have HIY : Hid (InL Y) := Lib.hid (by rw [hY]; exact fun x hx => hj x (List.mem_of_mem_take hx))
  have HX2 := Lib.hid hx2
  have HY2 := Lib.hid hy2
  have HSHT := Lib.hid (fun W => short_c g hgs W)
  obtain ⟨G, hGe⟩ : ∃ G, G = g.extract 0 (min g.size 20) := ⟨_, rfl⟩
  rw [← hGe] at HSHT
  have HGS := Lib.hid hgs
  -- what is told of them
  obtain ⟨er1, hc1⟩ : ∃ c, c = monE G ⟨bL, bR, Y⟩ := ⟨_, rfl⟩
  obtain ⟨Z1, hZ1⟩ : ∃ c, c = monZ G ⟨bL, bR, Y⟩ := ⟨_, rfl⟩
  obtain ⟨er2, hc2⟩ : ∃ c, c = dyE G ⟨aL, aR, X⟩ ⟨bL, bR, Y⟩ := ⟨_, rfl⟩
  obtain ⟨Z2, hZ2⟩ : ∃ c, c = dyZ G ⟨aL, aR, X⟩ ⟨bL, bR, Y⟩ := ⟨_, rfl⟩
  have HD1 := Lib.hid (fun W s h hG => monz_c G ⟨bL, bR, Y⟩ s W h HIY.out hG)
  have HE1 := Lib.hid (fun W s h => pmon_c G ⟨bL, bR, Y⟩ s W h HIY.out)
  have HD2 := Lib.hid (fun W s t h k hG => dyz_c G ⟨aL, aR, X⟩ ⟨bL, bR, Y⟩ s t W h k HIX.out HIY.out hG)
  have HE2 := Lib.hid (fun W s t h k => pdy_c G ⟨aL, aR, X⟩ ⟨bL, bR, Y⟩ s t W h k HIX.out HIY.out)
  rw [← hc1, ← hZ1] at HD1 HE1
  rw [← hc2, ← hZ2] at HD2 HE2
  have HSM := Lib.hid (fun (L : Bool) (ns : List Int) (s t : Value) (W : World) (h : KL W s ns) (k : KL W t ns) => show Calls Tryz.prog 15 #[.agg #[.bool L, .bool false, s], .agg #[.bool L, .bool false, t]] W fun e W' => e = .returned (.bool true) ∧ Below W.heap.size W W' from by
    have hc := rsame_c ⟨L, false, ns⟩ ⟨L, false, ns⟩ s t W h k
    rw [show sameA ⟨L, false, ns⟩ ⟨L, false, ns⟩ = true from by simp [sameA]] at hc
    exact hc)
  clear hc1 hZ1 hc2 hZ2 hgs hGe
  clear hF1 hF2 hs ht hi hj hX hY han hbn hx2 hy2
  -- the boxes
  obtain ⟨u0, hu0⟩ : ∃ u0, u0 = (w.alloc (.cells #[.bool aL, .bool aR, .slice sa an sc] 24)).alloc (.cells #[.bool bL, .bool bR, .slice ta bn tc] 24) := ⟨_, rfl⟩
  have hb0 : Below w.heap.size w u0 := by rw [hu0]; exact ((Below.refl _ w).alloc (Nat.le_refl _) _).alloc (by simp) _
  have HB0 := Lib.hid hb0
  have HRA0 : Hid (Row u0 w.heap.size 24 #[.bool aL, .bool aR, .slice sa an sc]) := Lib.hid (by rw [hu0]; exact (Row.new _ _ _).alloc _)
  have HRB0 : Hid (Row u0 (w.heap.size + 1) 24 #[.bool bL, .bool bR, .slice ta bn tc]) := Lib.hid (by rw [hu0]; exact Row.at _ _ _ _ (by simp))
  have HG := Lib.hid hG
  have hsh := shown11_c u0 (hG.below hb0)
  rw [hu0] at hsh
  have HSH := Lib.hid hsh
  have HU0 := Lib.hid hu0
  clear hb0 hsh hu0 hG
  go_enter Tryz.func3, Tryz.ntmps3
  go_wp2_with fail
  refine HSH.out.mono ?_
  rintro e w1 ⟨rfl, hb⟩
  rw [← HU0.out] at hb
  have HB1 := Lib.hid (HB0.out.trans (hb.mono HB0.out.size))
  have HRA1 := Lib.hid (HRA0.out.below hb HRA0.out.lt)
  have HRB1 := Lib.hid (HRB0.out.below hb HRB0.out.lt)
  clear hb HU0
  obtain ⟨c0, c1, c2, -, -, -⟩ := row3 HRA1.out
  have HC := Lib.hid (HF1.out w1 HB1.out)
  go_wp2_with fail
  refine HC.out.mono ?_
  rintro e w2 ⟨xa, xn, xc, rfl, hk, hb⟩
  have hnx : xn = X.length := by obtain ⟨_, _, e, _, _⟩ := hk.form; injection e
  -- the first's box is written
  have ra2 := HRA1.out.below hb HRA1.out.lt
  have rb2 := HRB1.out.below hb HRB1.out.lt
  have hb2 := HB1.out.trans (hb.mono HB1.out.size)
  obtain ⟨u2, hu2⟩ : ∃ u2, u2 = ((w2.setCell ⟨w.heap.size, 0, none⟩ (.bool aL)).setCell ⟨w.heap.size, 1, none⟩ (.bool aR)).setCell ⟨w.heap.size, 2, none⟩ (.slice xa xn xc) := ⟨_, rfl⟩
  have HBU2 : Hid (Below w.heap.size w u2) := Lib.hid (by rw [hu2]; exact ((hb2.setCell (p := ⟨w.heap.size, 0, none⟩) (Nat.le_refl _) _).setCell (p := ⟨w.heap.size, 1, none⟩) (Nat.le_refl _) _).setCell (p := ⟨w.heap.size, 2, none⟩) (Nat.le_refl _) _)
  have HRA2 : Hid (Row u2 w.heap.size 24 #[.bool aL, .bool aR, .slice xa xn xc]) := Lib.hid (by rw [hu2]; exact row_set3 ra2 _ _ _)
  have HRB2 : Hid (Row u2 (w.heap.size + 1) 24 #[.bool bL, .bool bR, .slice ta bn tc]) := Lib.hid (by rw [hu2]; exact ((rb2.other (by omega) _).other (by omega) _).other (by omega) _)
  have HKX2 : Hid (KL u2 (.slice xa xn xc) X) := Lib.hid (by rw [hu2]; exact kl_set3 hk ra2 _ _ _)
  clear c0 c1 c2
  obtain ⟨c0, c1, c2, f0, f1, f2⟩ := row3 ra2
  obtain ⟨d0, d1, d2, -, -, -⟩ := row3 HRB2.out
  rw [hu2] at d0 d1 d2
  have hc := HF2.out u2 HBU2.out
  rw [hu2] at hc
  have HC := Lib.hid hc
  have HU2 := Lib.hid hu2
  have HNX := Lib.hid hnx
  clear ra2 rb2 hb2 hk hb hu2 hc hnx
  go_wp2_with fail
  refine HC.out.mono ?_
  rintro e w3 ⟨ya, yn, yc, rfl, hk, hb⟩
  rw [← HU2.out] at hb
  have hny : yn = Y.length := by obtain ⟨_, _, e, _, _⟩ := hk.form; injection e
  have ra2 := HRA2.out.below hb HRA2.out.lt
  have rb2 := HRB2.out.below hb HRB2.out.lt
  have hb2 := HBU2.out.trans (hb.mono HBU2.out.size)
  have hkx := HKX2.out.below hb
  obtain ⟨u3, hu3⟩ : ∃ u3, u3 = ((w3.setCell ⟨w.heap.size + 1, 0, none⟩ (.bool bL)).setCell ⟨w.heap.size + 1, 1, none⟩ (.bool bR)).setCell ⟨w.heap.size + 1, 2, none⟩ (.slice ya yn yc) := ⟨_, rfl⟩
  have HB3 : Hid (Below w.heap.size w u3) := Lib.hid (by rw [hu3]; exact ((hb2.setCell (p := ⟨w.heap.size + 1, 0, none⟩) (Nat.le_succ _) _).setCell (p := ⟨w.heap.size + 1, 1, none⟩) (Nat.le_succ _) _).setCell (p := ⟨w.heap.size + 1, 2, none⟩) (Nat.le_succ _) _)
  have HRA3 : Hid (Row u3 w.heap.size 24 #[.bool aL, .bool aR, .slice xa xn xc]) := Lib.hid (by rw [hu3]; exact ((ra2.other (by omega) _).other (by omega) _).other (by omega) _)
  have HRB3 : Hid (Row u3 (w.heap.size + 1) 24 #[.bool bL, .bool bR, .slice ya yn yc]) := Lib.hid (by rw [hu3]; exact row_set3 rb2 _ _ _)
  have HKX3 : Hid (KL u3 (.slice xa xn xc) X) := Lib.hid (by rw [hu3]; exact kl_set3 hkx rb2 _ _ _)
  have HKY3 : Hid (KL u3 (.slice ya yn yc) Y) := Lib.hid (by rw [hu3]; exact kl_set3 hk rb2 _ _ _)
  have HG3 := Lib.hid (HG.out.below HB3.out)
  have HNY := Lib.hid hny
  have HU3 := Lib.hid hu3
  clear c0 c1 c2 f0 f1 f2 d0 d1 d2
  obtain ⟨e0, e1, e2, g0, g1, g2⟩ := row3 rb2
  obtain ⟨c0, c1, c2, -, -, -⟩ := row3 HRA3.out
  obtain ⟨d0, d1, d2, -, -, -⟩ := row3 HRB3.out
  rw [HU3.out] at c0 c1 c2 d0 d1 d2
  clear ra2 rb2 hb2 hkx hk hb hny hu3
  go_wp2_with fail
  rw [← HU3.out]
  have HCL : Hid (∀ W, Below u3.heap.size u3 W → Calls Tryz.prog 10 #[.string G, .agg #[.bool bL, .bool bR, .slice ya yn yc]] W fun e w' => Tells (Z1) (er1) W e w') := Lib.hid (fun W h => HD1.out W _ (HKY3.out.below h) (HG3.out.below h).ng)
  have HLD1 := Lib.hid (fun W (h : Below u3.heap.size u3 W) => row3 (Row.below HRB3.out h (Row.lt HRB3.out)))
  refine (wpIn_wide (n := 9)).1 ?_
  refine wpIn_region_boxG (by kernel_rfl) (by kernel_rfl) 8 7 5 (by decide) (by decide) (fun i => PhK u3.heap.size (Z1) (er1) ([.val (.string g), .val (.string G), .val (.agg #[.bool bL, .bool bR, .slice ya yn yc]), .tup, .tup, .arr, .val (.int .i64 er1), .box, .any, .val (.int .i64 er1)].getD i .any)) (StB u3.heap.size (Z1)) (fun i v W W' hb => PhK.below hb) (fun u v W W' hb => StB.below hb) ?_ ?_ ?_
  · intro i oo listed a' W val ho hi hz haf hS hbw hF
    have hi' : i < 10 := hi
    obtain rfl | rfl | rfl | rfl | rfl | rfl | rfl | rfl | rfl : i = 0 ∨ i = 1 ∨ i = 2 ∨ i = 3 ∨ i = 4 ∨ i = 5 ∨ i = 6 ∨ i = 7 ∨ i = 9 := by omega
    · cases ho
      refine opG_plain rfl rfl ?_
      have q0 : a'.tmps[0]? = some (.string g) := (hS.tmpBase 0 (by kernel_rfl)).trans rfl
      refine op_valv (.string g) W (fun _ _ => trivial) ?_ ⟨Below.refl _ _, rfl⟩
      rw [Oper.semAt_plain _ _ _ (by intro c h; cases h)]
      simp [execOp, q0, go_sem]
    · cases ho
      refine opG_plain rfl rfl ?_
      have l0 : listed.getD 0 false = true := haf ⟨0, .data⟩ (Array.mem_of_getElem? (i := 0) rfl) rfl
      have q22 : a'.tmps[22]? = some (val 0) := hS.tmpSet 0 _ 22 rfl rfl (by simp) l0
      rw [show val 0 = .string g from hF 0 l0] at q22
      refine op_callv 11 #[.string g] (fun _ _ => trivial) ?_ (by omega) ((callsIn_wide.2 (HSHT.out W)).mono ?_)
      · rw [Oper.semAt_plain _ _ _ (by intro c h; cases h)]
        simp [execOp, q22, go_sem]
      · rintro e W2 ⟨rfl, rfl⟩
        exact ⟨_, rfl, Below.refl _ _, rfl⟩
    · cases ho
      refine opG_plain rfl rfl ?_
      have q5 : a'.tmps[5]? = some (.pointer (some ⟨w.heap.size + 1, 0, none⟩)) := (hS.tmpBase 5 (by kernel_rfl)).trans rfl
      obtain ⟨z0, z1, z2, -, -, -⟩ := HLD1.out W hbw
      refine op_valv (.agg #[.bool bL, .bool bR, .slice ya yn yc]) W (fun _ _ => trivial) ?_ ⟨Below.refl _ _, rfl⟩
      rw [Oper.semAt_plain _ _ _ (by intro c h; cases h)]
      simp [execOp, q5, z0, z1, z2, go_sem]
    · cases ho
      refine opG_plain rfl rfl ?_
      have l1 : listed.getD 1 false = true := haf ⟨1, .data⟩ (Array.mem_of_getElem? (i := 0) rfl) rfl
      have q23 : a'.tmps[23]? = some (val 1) := hS.tmpSet 1 _ 23 rfl rfl (by simp) l1
      rw [show val 1 = .string G from hF 1 l1] at q23
      have l2 : listed.getD 2 false = true := haf ⟨2, .data⟩ (Array.mem_of_getElem? (i := 1) rfl) rfl
      have q24 : a'.tmps[24]? = some (val 2) := hS.tmpSet 2 _ 24 rfl rfl (by simp) l2
      rw [show val 2 = .agg #[.bool bL, .bool bR, .slice ya yn yc] from hF 2 l2] at q24
      refine op_callv 10 #[.string G, .agg #[.bool bL, .bool bR, .slice ya yn yc]] (fun _ _ => trivial) ?_ (by omega) ((callsIn_wide.2 (HCL.out W hbw)).mono ?_)
      · rw [Oper.semAt_plain _ _ _ (by intro c h; cases h)]
        simp [execOp, q23, q24, go_sem]
      · rintro e W2 ⟨va, vn, vc, rfl, hown, hb⟩
        exact ⟨_, rfl, hb, va, vn, vc, rfl, hown.mono hbw.size⟩
    · cases ho
      refine opG_plain rfl rfl ?_
      have l3 : listed.getD 3 false = true := haf ⟨3, .data⟩ (Array.mem_of_getElem? (i := 0) rfl) rfl
      have q25 : a'.tmps[25]? = some (val 3) := hS.tmpSet 3 _ 25 rfl rfl (by simp) l3
      obtain ⟨va, vn, vc, ej, hown⟩ : ∃ va vn vc, val 3 = .tuple #[.agg #[.bool (Z1).list, .bool false, .slice va vn vc], .int .i64 (er1)] ∧ IOwn W u3.heap.size (.slice va vn vc) (Z1).n := hF 3 l3
      rw [ej] at q25
      refine op_valv (.tuple #[.agg #[.bool (Z1).list, .bool false, .slice va vn vc], .int .i64 (er1)]) W (fun _ _ => trivial) ?_ ⟨Below.refl _ _, va, vn, vc, rfl, hown⟩
      rw [Oper.semAt_plain _ _ _ (by intro c h; cases h)]
      simp [execOp, q25, go_sem]
    · cases ho
      refine opG_plain rfl rfl ?_
      have l4 : listed.getD 4 false = true := haf ⟨4, .data⟩ (Array.mem_of_getElem? (i := 0) rfl) rfl
      have q21 : a'.tmps[21]? = some (val 4) := hS.tmpSet 4 _ 21 rfl rfl (by simp) l4
      obtain ⟨va, vn, vc, ej, hown⟩ : ∃ va vn vc, val 4 = .tuple #[.agg #[.bool (Z1).list, .bool false, .slice va vn vc], .int .i64 (er1)] ∧ IOwn W u3.heap.size (.slice va vn vc) (Z1).n := hF 4 l4
      rw [ej] at q21
      refine op_valv (.agg #[.bool (Z1).list, .bool false, .slice va vn vc]) W (fun _ _ => trivial) ?_ ⟨Below.refl _ _, va, vn, vc, rfl, hown⟩
      rw [Oper.semAt_plain _ _ _ (by intro c h; cases h)]
      simp [execOp, q21, go_sem]
    · cases ho
      refine opG_plain rfl rfl ?_
      have l4 : listed.getD 4 false = true := haf ⟨4, .data⟩ (Array.mem_of_getElem? (i := 0) rfl) rfl
      have q21 : a'.tmps[21]? = some (val 4) := hS.tmpSet 4 _ 21 rfl rfl (by simp) l4
      obtain ⟨va, vn, vc, ej, hown⟩ : ∃ va vn vc, val 4 = .tuple #[.agg #[.bool (Z1).list, .bool false, .slice va vn vc], .int .i64 (er1)] ∧ IOwn W u3.heap.size (.slice va vn vc) (Z1).n := hF 4 l4
      rw [ej] at q21
      refine op_valv (.int .i64 er1) W (fun _ _ => trivial) ?_ ⟨Below.refl _ _, rfl⟩
      rw [Oper.semAt_plain _ _ _ (by intro c h; cases h)]
      simp [execOp, q21, go_sem]
    · cases ho
      refine opG_plain rfl rfl ?_
      refine op_valv (.pointer (some ⟨W.heap.size, 0, none⟩)) (W.alloc (.cells #[.bool false, .bool false, .slice none 0 0] 24)) (fun _ _ => trivial) ?_ ⟨(Below.refl _ _).alloc (Nat.le_refl _) _, W.heap.size, _, _, _, rfl, hbw.size, Row.new _ _ _⟩
      rw [Oper.semAt_plain _ _ _ (by intro c h; cases h)]
      simp [execOp, go_sem]
    · cases ho
      refine opG_plain rfl rfl ?_
      have l6 : listed.getD 6 false = true := haf ⟨6, .data⟩ (Array.mem_of_getElem? (i := 0) rfl) rfl
      have q27 : a'.tmps[27]? = some (val 6) := hS.tmpSet 6 _ 27 rfl rfl (by simp) l6
      rw [show val 6 = .int .i64 er1 from hF 6 l6] at q27
      refine op_valv (.int .i64 er1) W (fun _ _ => trivial) ?_ ⟨Below.refl _ _, rfl⟩
      rw [Oper.semAt_plain _ _ _ (by intro c h; cases h)]
      simp [execOp, q27, go_sem]
  · intro oo listed a' W val ho haf hS hbw hF
    cases ho
    refine opG_plain rfl rfl ?_
    have l7 : listed.getD 7 false = true := haf ⟨7, .data⟩ (Array.mem_of_getElem? (i := 0) rfl) rfl
    have q8 : a'.tmps[8]? = some (val 7) := hS.tmpSet 7 _ 8 rfl rfl (by simp) l7
    obtain ⟨b, x, y, u, eb, hbb, hr⟩ : ∃ b x y u, val 7 = .pointer (some ⟨b, 0, none⟩) ∧ u3.heap.size ≤ b ∧ Row W b 24 #[x, y, u] := hF 7 l7
    rw [eb] at q8
    have l5 : listed.getD 5 false = true := haf ⟨5, .data⟩ (Array.mem_of_getElem? (i := 1) rfl) rfl
    have q26 : a'.tmps[26]? = some (val 5) := hS.tmpSet 5 _ 26 rfl rfl (by simp) l5
    obtain ⟨va, vn, vc, ej, hown⟩ : ∃ va vn vc, val 5 = .agg #[.bool (Z1).list, .bool false, .slice va vn vc] ∧ IOwn W u3.heap.size (.slice va vn vc) (Z1).n := hF 5 l5
    rw [ej] at q26
    obtain ⟨d0, d1, d2, f0, f1, f2⟩ := row3 hr
    refine op_skipv (((W.setCell ⟨b, 0, none⟩ (.bool (Z1).list)).setCell ⟨b, 1, none⟩ (.bool false)).setCell ⟨b, 2, none⟩ (.slice va vn vc)) (fun _ _ => trivial) ?_ ⟨((hbw.setCell (p := ⟨b, 0, none⟩) hbb _).setCell (p := ⟨b, 1, none⟩) hbb _).setCell (p := ⟨b, 2, none⟩) hbb _, trivial, fun j hj => PhK.put _ _ _ hr (hF j hj), b, va, vn, vc, eb, ej, hbb, row_set3 hr _ _ _, own_off3 hown hr _ _ _⟩
    rw [Oper.semAt_plain _ _ _ (by intro c h; cases h)]
    simp [execOp, q8, q26, d0, d1, d2, f0, f1, f2, go_sem]
  · intro w4 val hb hF hst
    obtain ⟨bk4, va4, vn4, vc4, e7, e5, hbk4, hr, hown⟩ := hst
    have e0 : val 0 = .string g := hF 0 (by decide)
    have e1 : val 1 = .string G := hF 1 (by decide)
    have e2 : val 2 = .agg #[.bool bL, .bool bR, .slice ya yn yc] := hF 2 (by decide)
    obtain ⟨va, vn, vc, e3, -⟩ : ∃ va vn vc, val 3 = .tuple #[.agg #[.bool (Z1).list, .bool false, .slice va vn vc], .int .i64 (er1)] ∧ IOwn w4 u3.heap.size (.slice va vn vc) (Z1).n := hF 3 (by decide)
    obtain ⟨va, vn, vc, e4, -⟩ : ∃ va vn vc, val 4 = .tuple #[.agg #[.bool (Z1).list, .bool false, .slice va vn vc], .int .i64 (er1)] ∧ IOwn w4 u3.heap.size (.slice va vn vc) (Z1).n := hF 4 (by decide)
    have e6 : val 6 = .int .i64 er1 := hF 6 (by decide)
    have e9 : val 9 = .int .i64 er1 := hF 9 (by decide)
    simp only [finAct, List.getElem?_toArray, List.getElem?_cons_zero, List.getElem?_cons_succ, Act.put, List.setIfInBounds_toArray, List.set_cons_zero, List.set_cons_succ, List.size_toArray, List.length_cons, List.length_nil, Nat.reduceAdd]
    simp only [e7, e5, e0, e1, e2, e3, e4, e6, e9]
    clear e7 e5 e0 e1 e2 e3 e4 e6 e9 hF val
    have HN4 : Hid (vn4 = (Z1).n.length) := Lib.hid (by obtain ⟨_, _, e, _, _⟩ := hown.form; injection e)
    have HRN4 := Lib.hid hr
    have HKN4 := Lib.hid hown.kl
    have HON4 := Lib.hid hown
    have HSZ4 := Lib.hid hbk4
    have HR0_4 := Lib.hid (Row.below HRA3.out hb (Row.lt HRA3.out))
    have HR1_4 := Lib.hid (Row.below HRB3.out hb (Row.lt HRB3.out))
    have HK0_4 := Lib.hid (HKX3.out.below hb)
    have HK1_4 := Lib.hid (HKY3.out.below hb)
    have HB_4 := Lib.hid (HB3.out.trans (hb.mono HB3.out.size))
    have HG_4 := Lib.hid (HG.out.below HB_4.out)
    clear hb hr hown HCL
    go_wp2_with fail
    have HCL : Hid (∀ W, Below w4.heap.size w4 W → Calls Tryz.prog 12 #[.string G, .agg #[.bool bL, .bool bR, .slice ya yn yc]] W fun e w' => Tells (Z1) (er1) W e w') := Lib.hid (fun W h => HE1.out W _ (HK1_4.out.below h))
    have HLD1 := Lib.hid (fun W (h : Below w4.heap.size w4 W) => row3 (Row.below HR1_4.out h (Row.lt HR1_4.out)))
    refine (wpIn_wide (n := 9)).1 ?_
    refine wpIn_region_boxG (by kernel_rfl) (by kernel_rfl) 8 7 5 (by decide) (by decide) (fun i => PhK w4.heap.size (Z1) (er1) ([.val (.string g), .val (.string G), .val (.agg #[.bool bL, .bool bR, .slice ya yn yc]), .tup, .tup, .arr, .val (.int .i64 er1), .box, .any, .val (.int .i64 er1)].getD i .any)) (StB w4.heap.size (Z1)) (fun i v W W' hb => PhK.below hb) (fun u v W W' hb => StB.below hb) ?_ ?_ ?_
    · intro i oo listed a' W val ho hi hz haf hS hbw hF
      have hi' : i < 10 := hi
      obtain rfl | rfl | rfl | rfl | rfl | rfl | rfl | rfl | rfl : i = 0 ∨ i = 1 ∨ i = 2 ∨ i = 3 ∨ i = 4 ∨ i = 5 ∨ i = 6 ∨ i = 7 ∨ i = 9 := by omega
      · cases ho
        refine opG_plain rfl rfl ?_
        have q0 : a'.tmps[0]? = some (.string g) := (hS.tmpBase 0 (by kernel_rfl)).trans rfl
        refine op_valv (.string g) W (fun _ _ => trivial) ?_ ⟨Below.refl _ _, rfl⟩
        rw [Oper.semAt_plain _ _ _ (by intro c h; cases h)]
        simp [execOp, q0, go_sem]
      · cases ho
        refine opG_plain rfl rfl ?_
        have l0 : listed.getD 0 false = true := haf ⟨0, .data⟩ (Array.mem_of_getElem? (i := 0) rfl) rfl
        have q29 : a'.tmps[29]? = some (val 0) := hS.tmpSet 0 _ 29 rfl rfl (by simp) l0
        rw [show val 0 = .string g from hF 0 l0] at q29
        refine op_callv 11 #[.string g] (fun _ _ => trivial) ?_ (by omega) ((callsIn_wide.2 (HSHT.out W)).mono ?_)
        · rw [Oper.semAt_plain _ _ _ (by intro c h; cases h)]
          simp [execOp, q29, go_sem]
        · rintro e W2 ⟨rfl, rfl⟩
          exact ⟨_, rfl, Below.refl _ _, rfl⟩
      · cases ho
        refine opG_plain rfl rfl ?_
        have q5 : a'.tmps[5]? = some (.pointer (some ⟨w.heap.size + 1, 0, none⟩)) := (hS.tmpBase 5 (by kernel_rfl)).trans rfl
        obtain ⟨z0, z1, z2, -, -, -⟩ := HLD1.out W hbw
        refine op_valv (.agg #[.bool bL, .bool bR, .slice ya yn yc]) W (fun _ _ => trivial) ?_ ⟨Below.refl _ _, rfl⟩
        rw [Oper.semAt_plain _ _ _ (by intro c h; cases h)]
        simp [execOp, q5, z0, z1, z2, go_sem]
      · cases ho
        refine opG_plain rfl rfl ?_
        have l1 : listed.getD 1 false = true := haf ⟨1, .data⟩ (Array.mem_of_getElem? (i := 0) rfl) rfl
        have q30 : a'.tmps[30]? = some (val 1) := hS.tmpSet 1 _ 30 rfl rfl (by simp) l1
        rw [show val 1 = .string G from hF 1 l1] at q30
        have l2 : listed.getD 2 false = true := haf ⟨2, .data⟩ (Array.mem_of_getElem? (i := 1) rfl) rfl
        have q31 : a'.tmps[31]? = some (val 2) := hS.tmpSet 2 _ 31 rfl rfl (by simp) l2
        rw [show val 2 = .agg #[.bool bL, .bool bR, .slice ya yn yc] from hF 2 l2] at q31
        refine op_callv 12 #[.string G, .agg #[.bool bL, .bool bR, .slice ya yn yc]] (fun _ _ => trivial) ?_ (by omega) ((callsIn_wide.2 (HCL.out W hbw)).mono ?_)
        · rw [Oper.semAt_plain _ _ _ (by intro c h; cases h)]
          simp [execOp, q30, q31, go_sem]
        · rintro e W2 ⟨va, vn, vc, rfl, hown, hb⟩
          exact ⟨_, rfl, hb, va, vn, vc, rfl, hown.mono hbw.size⟩
      · cases ho
        refine opG_plain rfl rfl ?_
        have l3 : listed.getD 3 false = true := haf ⟨3, .data⟩ (Array.mem_of_getElem? (i := 0) rfl) rfl
        have q32 : a'.tmps[32]? = some (val 3) := hS.tmpSet 3 _ 32 rfl rfl (by simp) l3
        obtain ⟨va, vn, vc, ej, hown⟩ : ∃ va vn vc, val 3 = .tuple #[.agg #[.bool (Z1).list, .bool false, .slice va vn vc], .int .i64 (er1)] ∧ IOwn W w4.heap.size (.slice va vn vc) (Z1).n := hF 3 l3
        rw [ej] at q32
        refine op_valv (.tuple #[.agg #[.bool (Z1).list, .bool false, .slice va vn vc], .int .i64 (er1)]) W (fun _ _ => trivial) ?_ ⟨Below.refl _ _, va, vn, vc, rfl, hown⟩
        rw [Oper.semAt_plain _ _ _ (by intro c h; cases h)]
        simp [execOp, q32, go_sem]
      · cases ho
        refine opG_plain rfl rfl ?_
        have l4 : listed.getD 4 false = true := haf ⟨4, .data⟩ (Array.mem_of_getElem? (i := 0) rfl) rfl
        have q28 : a'.tmps[28]? = some (val 4) := hS.tmpSet 4 _ 28 rfl rfl (by simp) l4
        obtain ⟨va, vn, vc, ej, hown⟩ : ∃ va vn vc, val 4 = .tuple #[.agg #[.bool (Z1).list, .bool false, .slice va vn vc], .int .i64 (er1)] ∧ IOwn W w4.heap.size (.slice va vn vc) (Z1).n := hF 4 l4
        rw [ej] at q28
        refine op_valv (.agg #[.bool (Z1).list, .bool false, .slice va vn vc]) W (fun _ _ => trivial) ?_ ⟨Below.refl _ _, va, vn, vc, rfl, hown⟩
        rw [Oper.semAt_plain _ _ _ (by intro c h; cases h)]
        simp [execOp, q28, go_sem]
      · cases ho
        refine opG_plain rfl rfl ?_
        have l4 : listed.getD 4 false = true := haf ⟨4, .data⟩ (Array.mem_of_getElem? (i := 0) rfl) rfl
        have q28 : a'.tmps[28]? = some (val 4) := hS.tmpSet 4 _ 28 rfl rfl (by simp) l4
        obtain ⟨va, vn, vc, ej, hown⟩ : ∃ va vn vc, val 4 = .tuple #[.agg #[.bool (Z1).list, .bool false, .slice va vn vc], .int .i64 (er1)] ∧ IOwn W w4.heap.size (.slice va vn vc) (Z1).n := hF 4 l4
        rw [ej] at q28
        refine op_valv (.int .i64 er1) W (fun _ _ => trivial) ?_ ⟨Below.refl _ _, rfl⟩
        rw [Oper.semAt_plain _ _ _ (by intro c h; cases h)]
        simp [execOp, q28, go_sem]
      · cases ho
        refine opG_plain rfl rfl ?_
        refine op_valv (.pointer (some ⟨W.heap.size, 0, none⟩)) (W.alloc (.cells #[.bool false, .bool false, .slice none 0 0] 24)) (fun _ _ => trivial) ?_ ⟨(Below.refl _ _).alloc (Nat.le_refl _) _, W.heap.size, _, _, _, rfl, hbw.size, Row.new _ _ _⟩
        rw [Oper.semAt_plain _ _ _ (by intro c h; cases h)]
        simp [execOp, go_sem]
      · cases ho
        refine opG_plain rfl rfl ?_
        have l6 : listed.getD 6 false = true := haf ⟨6, .data⟩ (Array.mem_of_getElem? (i := 0) rfl) rfl
        have q34 : a'.tmps[34]? = some (val 6) := hS.tmpSet 6 _ 34 rfl rfl (by simp) l6
        rw [show val 6 = .int .i64 er1 from hF 6 l6] at q34
        refine op_valv (.int .i64 er1) W (fun _ _ => trivial) ?_ ⟨Below.refl _ _, rfl⟩
        rw [Oper.semAt_plain _ _ _ (by intro c h; cases h)]
        simp [execOp, q34, go_sem]
    · intro oo listed a' W val ho haf hS hbw hF
      cases ho
      refine opG_plain rfl rfl ?_
      have l7 : listed.getD 7 false = true := haf ⟨7, .data⟩ (Array.mem_of_getElem? (i := 0) rfl) rfl
      have q10 : a'.tmps[10]? = some (val 7) := hS.tmpSet 7 _ 10 rfl rfl (by simp) l7
      obtain ⟨b, x, y, u, eb, hbb, hr⟩ : ∃ b x y u, val 7 = .pointer (some ⟨b, 0, none⟩) ∧ w4.heap.size ≤ b ∧ Row W b 24 #[x, y, u] := hF 7 l7
      rw [eb] at q10
      have l5 : listed.getD 5 false = true := haf ⟨5, .data⟩ (Array.mem_of_getElem? (i := 1) rfl) rfl
      have q33 : a'.tmps[33]? = some (val 5) := hS.tmpSet 5 _ 33 rfl rfl (by simp) l5
      obtain ⟨va, vn, vc, ej, hown⟩ : ∃ va vn vc, val 5 = .agg #[.bool (Z1).list, .bool false, .slice va vn vc] ∧ IOwn W w4.heap.size (.slice va vn vc) (Z1).n := hF 5 l5
      rw [ej] at q33
      obtain ⟨d0, d1, d2, f0, f1, f2⟩ := row3 hr
      refine op_skipv (((W.setCell ⟨b, 0, none⟩ (.bool (Z1).list)).setCell ⟨b, 1, none⟩ (.bool false)).setCell ⟨b, 2, none⟩ (.slice va vn vc)) (fun _ _ => trivial) ?_ ⟨((hbw.setCell (p := ⟨b, 0, none⟩) hbb _).setCell (p := ⟨b, 1, none⟩) hbb _).setCell (p := ⟨b, 2, none⟩) hbb _, trivial, fun j hj => PhK.put _ _ _ hr (hF j hj), b, va, vn, vc, eb, ej, hbb, row_set3 hr _ _ _, own_off3 hown hr _ _ _⟩
      rw [Oper.semAt_plain _ _ _ (by intro c h; cases h)]
      simp [execOp, q10, q33, d0, d1, d2, f0, f1, f2, go_sem]
    · intro w5 val hb hF hst
      obtain ⟨bk5, va5, vn5, vc5, e7, e5, hbk5, hr, hown⟩ := hst
      have e0 : val 0 = .string g := hF 0 (by decide)
      have e1 : val 1 = .string G := hF 1 (by decide)
      have e2 : val 2 = .agg #[.bool bL, .bool bR, .slice ya yn yc] := hF 2 (by decide)
      obtain ⟨va, vn, vc, e3, -⟩ : ∃ va vn vc, val 3 = .tuple #[.agg #[.bool (Z1).list, .bool false, .slice va vn vc], .int .i64 (er1)] ∧ IOwn w5 w4.heap.size (.slice va vn vc) (Z1).n := hF 3 (by decide)
      obtain ⟨va, vn, vc, e4, -⟩ : ∃ va vn vc, val 4 = .tuple #[.agg #[.bool (Z1).list, .bool false, .slice va vn vc], .int .i64 (er1)] ∧ IOwn w5 w4.heap.size (.slice va vn vc) (Z1).n := hF 4 (by decide)
      have e6 : val 6 = .int .i64 er1 := hF 6 (by decide)
      have e9 : val 9 = .int .i64 er1 := hF 9 (by decide)
      simp only [finAct, List.getElem?_toArray, List.getElem?_cons_zero, List.getElem?_cons_succ, Act.put, List.setIfInBounds_toArray, List.set_cons_zero, List.set_cons_succ, List.size_toArray, List.length_cons, List.length_nil, Nat.reduceAdd]
      simp only [e7, e5, e0, e1, e2, e3, e4, e6, e9]
      clear e7 e5 e0 e1 e2 e3 e4 e6 e9 hF val
      have HN5 : Hid (vn5 = (Z1).n.length) := Lib.hid (by obtain ⟨_, _, e, _, _⟩ := hown.form; injection e)
      have HRN5 := Lib.hid hr
      have HKN5 := Lib.hid hown.kl
      have HON5 := Lib.hid hown
      have HSZ5 := Lib.hid hbk5
      have HR0_5 := Lib.hid (Row.below HR0_4.out hb (Row.lt HR0_4.out))
      have HR1_5 := Lib.hid (Row.below HR1_4.out hb (Row.lt HR1_4.out))
      have HR2_5 := Lib.hid (Row.below HRN4.out hb (Row.lt HRN4.out))
      have HK0_5 := Lib.hid (HK0_4.out.below hb)
      have HK1_5 := Lib.hid (HK1_4.out.below hb)
      have HK2_5 := Lib.hid (HKN4.out.below hb)
      have HB_5 := Lib.hid (HB_4.out.trans (hb.mono HB_4.out.size))
      have HG_5 := Lib.hid (HG.out.below HB_5.out)
      clear hb hr hown HCL
      go_wp2_with fail
      have HCL : Hid (∀ W, Below w5.heap.size w5 W → Calls Tryz.prog 13 #[.string G, .agg #[.bool aL, .bool aR, .slice xa xn xc], .agg #[.bool bL, .bool bR, .slice ya yn yc]] W fun e w' => Tells (Z2) (er2) W e w') := Lib.hid (fun W h => HD2.out W _ _ (HK0_5.out.below h) (HK1_5.out.below h) (HG_5.out.below h).ng)
      have HLD0 := Lib.hid (fun W (h : Below w5.heap.size w5 W) => row3 (Row.below HR0_5.out h (Row.lt HR0_5.out)))
      have HLD1 := Lib.hid (fun W (h : Below w5.heap.size w5 W) => row3 (Row.below HR1_5.out h (Row.lt HR1_5.out)))
      refine (wpIn_wide (n := 9)).1 ?_
      refine wpIn_region_boxG (by kernel_rfl) (by kernel_rfl) 9 8 6 (by decide) (by decide) (fun i => PhK w5.heap.size (Z2) (er2) ([.val (.string g), .val (.string G), .val (.agg #[.bool aL, .bool aR, .slice xa xn xc]), .val (.agg #[.bool bL, .bool bR, .slice ya yn yc]), .tup, .tup, .arr, .val (.int .i64 er2), .box, .any, .val (.int .i64 er2)].getD i .any)) (StB w5.heap.size (Z2)) (fun i v W W' hb => PhK.below hb) (fun u v W W' hb => StB.below hb) ?_ ?_ ?_
      · intro i oo listed a' W val ho hi hz haf hS hbw hF
        have hi' : i < 11 := hi
        obtain rfl | rfl | rfl | rfl | rfl | rfl | rfl | rfl | rfl | rfl : i = 0 ∨ i = 1 ∨ i = 2 ∨ i = 3 ∨ i = 4 ∨ i = 5 ∨ i = 6 ∨ i = 7 ∨ i = 8 ∨ i = 10 := by omega
        · cases ho
          refine opG_plain rfl rfl ?_
          have q0 : a'.tmps[0]? = some (.string g) := (hS.tmpBase 0 (by kernel_rfl)).trans rfl
          refine op_valv (.string g) W (fun _ _ => trivial) ?_ ⟨Below.refl _ _, rfl⟩
          rw [Oper.semAt_plain _ _ _ (by intro c h; cases h)]
          simp [execOp, q0, go_sem]
        · cases ho
          refine opG_plain rfl rfl ?_
          have l0 : listed.getD 0 false = true := haf ⟨0, .data⟩ (Array.mem_of_getElem? (i := 0) rfl) rfl
          have q36 : a'.tmps[36]? = some (val 0) := hS.tmpSet 0 _ 36 rfl rfl (by simp) l0
          rw [show val 0 = .string g from hF 0 l0] at q36
          refine op_callv 11 #[.string g] (fun _ _ => trivial) ?_ (by omega) ((callsIn_wide.2 (HSHT.out W)).mono ?_)
          · rw [Oper.semAt_plain _ _ _ (by intro c h; cases h)]
            simp [execOp, q36, go_sem]
          · rintro e W2 ⟨rfl, rfl⟩
            exact ⟨_, rfl, Below.refl _ _, rfl⟩
        · cases ho
          refine opG_plain rfl rfl ?_
          have q4 : a'.tmps[4]? = some (.pointer (some ⟨w.heap.size, 0, none⟩)) := (hS.tmpBase 4 (by kernel_rfl)).trans rfl
          obtain ⟨z0, z1, z2, -, -, -⟩ := HLD0.out W hbw
          refine op_valv (.agg #[.bool aL, .bool aR, .slice xa xn xc]) W (fun _ _ => trivial) ?_ ⟨Below.refl _ _, rfl⟩
          rw [Oper.semAt_plain _ _ _ (by intro c h; cases h)]
          simp [execOp, q4, z0, z1, z2, go_sem]
        · cases ho
          refine opG_plain rfl rfl ?_
          have q5 : a'.tmps[5]? = some (.pointer (some ⟨w.heap.size + 1, 0, none⟩)) := (hS.tmpBase 5 (by kernel_rfl)).trans rfl
          obtain ⟨z0, z1, z2, -, -, -⟩ := HLD1.out W hbw
          refine op_valv (.agg #[.bool bL, .bool bR, .slice ya yn yc]) W (fun _ _ => trivial) ?_ ⟨Below.refl _ _, rfl⟩
          rw [Oper.semAt_plain _ _ _ (by intro c h; cases h)]
          simp [execOp, q5, z0, z1, z2, go_sem]
        · cases ho
          refine opG_plain rfl rfl ?_
          have l1 : listed.getD 1 false = true := haf ⟨1, .data⟩ (Array.mem_of_getElem? (i := 0) rfl) rfl
          have q37 : a'.tmps[37]? = some (val 1) := hS.tmpSet 1 _ 37 rfl rfl (by simp) l1
          rw [show val 1 = .string G from hF 1 l1] at q37
          have l2 : listed.getD 2 false = true := haf ⟨2, .data⟩ (Array.mem_of_getElem? (i := 1) rfl) rfl
          have q38 : a'.tmps[38]? = some (val 2) := hS.tmpSet 2 _ 38 rfl rfl (by simp) l2
          rw [show val 2 = .agg #[.bool aL, .bool aR, .slice xa xn xc] from hF 2 l2] at q38
          have l3 : listed.getD 3 false = true := haf ⟨3, .data⟩ (Array.mem_of_getElem? (i := 2) rfl) rfl
          have q39 : a'.tmps[39]? = some (val 3) := hS.tmpSet 3 _ 39 rfl rfl (by simp) l3
          rw [show val 3 = .agg #[.bool bL, .bool bR, .slice ya yn yc] from hF 3 l3] at q39
          refine op_callv 13 #[.string G, .agg #[.bool aL, .bool aR, .slice xa xn xc], .agg #[.bool bL, .bool bR, .slice ya yn yc]] (fun _ _ => trivial) ?_ (by omega) ((callsIn_wide.2 (HCL.out W hbw)).mono ?_)
          · rw [Oper.semAt_plain _ _ _ (by intro c h; cases h)]
            simp [execOp, q37, q38, q39, go_sem]
          · rintro e W2 ⟨va, vn, vc, rfl, hown, hb⟩
            exact ⟨_, rfl, hb, va, vn, vc, rfl, hown.mono hbw.size⟩
        · cases ho
          refine opG_plain rfl rfl ?_
          have l4 : listed.getD 4 false = true := haf ⟨4, .data⟩ (Array.mem_of_getElem? (i := 0) rfl) rfl
          have q40 : a'.tmps[40]? = some (val 4) := hS.tmpSet 4 _ 40 rfl rfl (by simp) l4
          obtain ⟨va, vn, vc, ej, hown⟩ : ∃ va vn vc, val 4 = .tuple #[.agg #[.bool (Z2).list, .bool false, .slice va vn vc], .int .i64 (er2)] ∧ IOwn W w5.heap.size (.slice va vn vc) (Z2).n := hF 4 l4
          rw [ej] at q40
          refine op_valv (.tuple #[.agg #[.bool (Z2).list, .bool false, .slice va vn vc], .int .i64 (er2)]) W (fun _ _ => trivial) ?_ ⟨Below.refl _ _, va, vn, vc, rfl, hown⟩
          rw [Oper.semAt_plain _ _ _ (by intro c h; cases h)]
          simp [execOp, q40, go_sem]
        · cases ho
          refine opG_plain rfl rfl ?_
          have l5 : listed.getD 5 false = true := haf ⟨5, .data⟩ (Array.mem_of_getElem? (i := 0) rfl) rfl
          have q35 : a'.tmps[35]? = some (val 5) := hS.tmpSet 5 _ 35 rfl rfl (by simp) l5
          obtain ⟨va, vn, vc, ej, hown⟩ : ∃ va vn vc, val 5 = .tuple #[.agg #[.bool (Z2).list, .bool false, .slice va vn vc], .int .i64 (er2)] ∧ IOwn W w5.heap.size (.slice va vn vc) (Z2).n := hF 5 l5
          rw [ej] at q35
          refine op_valv (.agg #[.bool (Z2).list, .bool false, .slice va vn vc]) W (fun _ _ => trivial) ?_ ⟨Below.refl _ _, va, vn, vc, rfl, hown⟩
          rw [Oper.semAt_plain _ _ _ (by intro c h; cases h)]
          simp [execOp, q35, go_sem]
        · cases ho
          refine opG_plain rfl rfl ?_
          have l5 : listed.getD 5 false = true := haf ⟨5, .data⟩ (Array.mem_of_getElem? (i := 0) rfl) rfl
          have q35 : a'.tmps[35]? = some (val 5) := hS.tmpSet 5 _ 35 rfl rfl (by simp) l5
          obtain ⟨va, vn, vc, ej, hown⟩ : ∃ va vn vc, val 5 = .tuple #[.agg #[.bool (Z2).list, .bool false, .slice va vn vc], .int .i64 (er2)] ∧ IOwn W w5.heap.size (.slice va vn vc) (Z2).n := hF 5 l5
          rw [ej] at q35
          refine op_valv (.int .i64 er2) W (fun _ _ => trivial) ?_ ⟨Below.refl _ _, rfl⟩
          rw [Oper.semAt_plain _ _ _ (by intro c h; cases h)]
          simp [execOp, q35, go_sem]
        · cases ho
          refine opG_plain rfl rfl ?_
          refine op_valv (.pointer (some ⟨W.heap.size, 0, none⟩)) (W.alloc (.cells #[.bool false, .bool false, .slice none 0 0] 24)) (fun _ _ => trivial) ?_ ⟨(Below.refl _ _).alloc (Nat.le_refl _) _, W.heap.size, _, _, _, rfl, hbw.size, Row.new _ _ _⟩
          rw [Oper.semAt_plain _ _ _ (by intro c h; cases h)]
          simp [execOp, go_sem]
        · cases ho
          refine opG_plain rfl rfl ?_
          have l7 : listed.getD 7 false = true := haf ⟨7, .data⟩ (Array.mem_of_getElem? (i := 0) rfl) rfl
          have q42 : a'.tmps[42]? = some (val 7) := hS.tmpSet 7 _ 42 rfl rfl (by simp) l7
          rw [show val 7 = .int .i64 er2 from hF 7 l7] at q42
          refine op_valv (.int .i64 er2) W (fun _ _ => trivial) ?_ ⟨Below.refl _ _, rfl⟩
          rw [Oper.semAt_plain _ _ _ (by intro c h; cases h)]
          simp [execOp, q42, go_sem]
      · intro oo listed a' W val ho haf hS hbw hF
        cases ho
        refine opG_plain rfl rfl ?_
        have l8 : listed.getD 8 false = true := haf ⟨8, .data⟩ (Array.mem_of_getElem? (i := 0) rfl) rfl
        have q12 : a'.tmps[12]? = some (val 8) := hS.tmpSet 8 _ 12 rfl rfl (by simp) l8
        obtain ⟨b, x, y, u, eb, hbb, hr⟩ : ∃ b x y u, val 8 = .pointer (some ⟨b, 0, none⟩) ∧ w5.heap.size ≤ b ∧ Row W b 24 #[x, y, u] := hF 8 l8
        rw [eb] at q12
        have l6 : listed.getD 6 false = true := haf ⟨6, .data⟩ (Array.mem_of_getElem? (i := 1) rfl) rfl
        have q41 : a'.tmps[41]? = some (val 6) := hS.tmpSet 6 _ 41 rfl rfl (by simp) l6
        obtain ⟨va, vn, vc, ej, hown⟩ : ∃ va vn vc, val 6 = .agg #[.bool (Z2).list, .bool false, .slice va vn vc] ∧ IOwn W w5.heap.size (.slice va vn vc) (Z2).n := hF 6 l6
        rw [ej] at q41
        obtain ⟨d0, d1, d2, f0, f1, f2⟩ := row3 hr
        refine op_skipv (((W.setCell ⟨b, 0, none⟩ (.bool (Z2).list)).setCell ⟨b, 1, none⟩ (.bool false)).setCell ⟨b, 2, none⟩ (.slice va vn vc)) (fun _ _ => trivial) ?_ ⟨((hbw.setCell (p := ⟨b, 0, none⟩) hbb _).setCell (p := ⟨b, 1, none⟩) hbb _).setCell (p := ⟨b, 2, none⟩) hbb _, trivial, fun j hj => PhK.put _ _ _ hr (hF j hj), b, va, vn, vc, eb, ej, hbb, row_set3 hr _ _ _, own_off3 hown hr _ _ _⟩
        rw [Oper.semAt_plain _ _ _ (by intro c h; cases h)]
        simp [execOp, q12, q41, d0, d1, d2, f0, f1, f2, go_sem]
      · intro w6 val hb hF hst
        obtain ⟨bk6, va6, vn6, vc6, e8, e6, hbk6, hr, hown⟩ := hst
        have e0 : val 0 = .string g := hF 0 (by decide)
        have e1 : val 1 = .string G := hF 1 (by decide)
        have e2 : val 2 = .agg #[.bool aL, .bool aR, .slice xa xn xc] := hF 2 (by decide)
        have e3 : val 3 = .agg #[.bool bL, .bool bR, .slice ya yn yc] := hF 3 (by decide)
        obtain ⟨va, vn, vc, e4, -⟩ : ∃ va vn vc, val 4 = .tuple #[.agg #[.bool (Z2).list, .bool false, .slice va vn vc], .int .i64 (er2)] ∧ IOwn w6 w5.heap.size (.slice va vn vc) (Z2).n := hF 4 (by decide)
        obtain ⟨va, vn, vc, e5, -⟩ : ∃ va vn vc, val 5 = .tuple #[.agg #[.bool (Z2).list, .bool false, .slice va vn vc], .int .i64 (er2)] ∧ IOwn w6 w5.heap.size (.slice va vn vc) (Z2).n := hF 5 (by decide)
        have e7 : val 7 = .int .i64 er2 := hF 7 (by decide)
        have e10 : val 10 = .int .i64 er2 := hF 10 (by decide)
        simp only [finAct, List.getElem?_toArray, List.getElem?_cons_zero, List.getElem?_cons_succ, Act.put, List.setIfInBounds_toArray, List.set_cons_zero, List.set_cons_succ, List.size_toArray, List.length_cons, List.length_nil, Nat.reduceAdd]
        simp only [e8, e6, e0, e1, e2, e3, e4, e5, e7, e10]
        clear e8 e6 e0 e1 e2 e3 e4 e5 e7 e10 hF val
        have HN6 : Hid (vn6 = (Z2).n.length) := Lib.hid (by obtain ⟨_, _, e, _, _⟩ := hown.form; injection e)
        have HRN6 := Lib.hid hr
        have HKN6 := Lib.hid hown.kl
        have HON6 := Lib.hid hown
        have HSZ6 := Lib.hid hbk6
        have HR0_6 := Lib.hid (Row.below HR0_5.out hb (Row.lt HR0_5.out))
        have HR1_6 := Lib.hid (Row.below HR1_5.out hb (Row.lt HR1_5.out))
        have HR2_6 := Lib.hid (Row.below HR2_5.out hb (Row.lt HR2_5.out))
        have HR3_6 := Lib.hid (Row.below HRN5.out hb (Row.lt HRN5.out))
        have HK0_6 := Lib.hid (HK0_5.out.below hb)
        have HK1_6 := Lib.hid (HK1_5.out.below hb)
        have HK2_6 := Lib.hid (HK2_5.out.below hb)
        have HK3_6 := Lib.hid (HKN5.out.below hb)
        have HB_6 := Lib.hid (HB_5.out.trans (hb.mono HB_5.out.size))
        have HG_6 := Lib.hid (HG.out.below HB_6.out)
        clear hb hr hown HCL
        go_wp2_with fail
        have HCL : Hid (∀ W, Below w6.heap.size w6 W → Calls Tryz.prog 14 #[.string G, .agg #[.bool aL, .bool aR, .slice xa xn xc], .agg #[.bool bL, .bool bR, .slice ya yn yc]] W fun e w' => Tells (Z2) (er2) W e w') := Lib.hid (fun W h => HE2.out W _ _ (HK0_6.out.below h) (HK1_6.out.below h))
        have HLD0 := Lib.hid (fun W (h : Below w6.heap.size w6 W) => row3 (Row.below HR0_6.out h (Row.lt HR0_6.out)))
        have HLD1 := Lib.hid (fun W (h : Below w6.heap.size w6 W) => row3 (Row.below HR1_6.out h (Row.lt HR1_6.out)))
        refine (wpIn_wide (n := 9)).1 ?_
        refine wpIn_region_boxG (by kernel_rfl) (by kernel_rfl) 9 8 6 (by decide) (by decide) (fun i => PhK w6.heap.size (Z2) (er2) ([.val (.string g), .val (.string G), .val (.agg #[.bool aL, .bool aR, .slice xa xn xc]), .val (.agg #[.bool bL, .bool bR, .slice ya yn yc]), .tup, .tup, .arr, .val (.int .i64 er2), .box, .any, .val (.int .i64 er2)].getD i .any)) (StB w6.heap.size (Z2)) (fun i v W W' hb => PhK.below hb) (fun u v W W' hb => StB.below hb) ?_ ?_ ?_
        · intro i oo listed a' W val ho hi hz haf hS hbw hF
          have hi' : i < 11 := hi
          obtain rfl | rfl | rfl | rfl | rfl | rfl | rfl | rfl | rfl | rfl : i = 0 ∨ i = 1 ∨ i = 2 ∨ i = 3 ∨ i = 4 ∨ i = 5 ∨ i = 6 ∨ i = 7 ∨ i = 8 ∨ i = 10 := by omega
          · cases ho
            refine opG_plain rfl rfl ?_
            have q0 : a'.tmps[0]? = some (.string g) := (hS.tmpBase 0 (by kernel_rfl)).trans rfl
            refine op_valv (.string g) W (fun _ _ => trivial) ?_ ⟨Below.refl _ _, rfl⟩
            rw [Oper.semAt_plain _ _ _ (by intro c h; cases h)]
            simp [execOp, q0, go_sem]
          · cases ho
            refine opG_plain rfl rfl ?_
            have l0 : listed.getD 0 false = true := haf ⟨0, .data⟩ (Array.mem_of_getElem? (i := 0) rfl) rfl
            have q44 : a'.tmps[44]? = some (val 0) := hS.tmpSet 0 _ 44 rfl rfl (by simp) l0
            rw [show val 0 = .string g from hF 0 l0] at q44
            refine op_callv 11 #[.string g] (fun _ _ => trivial) ?_ (by omega) ((callsIn_wide.2 (HSHT.out W)).mono ?_)
            · rw [Oper.semAt_plain _ _ _ (by intro c h; cases h)]
              simp [execOp, q44, go_sem]
            · rintro e W2 ⟨rfl, rfl⟩
              exact ⟨_, rfl, Below.refl _ _, rfl⟩
          · cases ho
            refine opG_plain rfl rfl ?_
            have q4 : a'.tmps[4]? = some (.pointer (some ⟨w.heap.size, 0, none⟩)) := (hS.tmpBase 4 (by kernel_rfl)).trans rfl
            obtain ⟨z0, z1, z2, -, -, -⟩ := HLD0.out W hbw
            refine op_valv (.agg #[.bool aL, .bool aR, .slice xa xn xc]) W (fun _ _ => trivial) ?_ ⟨Below.refl _ _, rfl⟩
            rw [Oper.semAt_plain _ _ _ (by intro c h; cases h)]
            simp [execOp, q4, z0, z1, z2, go_sem]
          · cases ho
            refine opG_plain rfl rfl ?_
            have q5 : a'.tmps[5]? = some (.pointer (some ⟨w.heap.size + 1, 0, none⟩)) := (hS.tmpBase 5 (by kernel_rfl)).trans rfl
            obtain ⟨z0, z1, z2, -, -, -⟩ := HLD1.out W hbw
            refine op_valv (.agg #[.bool bL, .bool bR, .slice ya yn yc]) W (fun _ _ => trivial) ?_ ⟨Below.refl _ _, rfl⟩
            rw [Oper.semAt_plain _ _ _ (by intro c h; cases h)]
            simp [execOp, q5, z0, z1, z2, go_sem]
          · cases ho
            refine opG_plain rfl rfl ?_
            have l1 : listed.getD 1 false = true := haf ⟨1, .data⟩ (Array.mem_of_getElem? (i := 0) rfl) rfl
            have q45 : a'.tmps[45]? = some (val 1) := hS.tmpSet 1 _ 45 rfl rfl (by simp) l1
            rw [show val 1 = .string G from hF 1 l1] at q45
            have l2 : listed.getD 2 false = true := haf ⟨2, .data⟩ (Array.mem_of_getElem? (i := 1) rfl) rfl
            have q46 : a'.tmps[46]? = some (val 2) := hS.tmpSet 2 _ 46 rfl rfl (by simp) l2
            rw [show val 2 = .agg #[.bool aL, .bool aR, .slice xa xn xc] from hF 2 l2] at q46
            have l3 : listed.getD 3 false = true := haf ⟨3, .data⟩ (Array.mem_of_getElem? (i := 2) rfl) rfl
            have q47 : a'.tmps[47]? = some (val 3) := hS.tmpSet 3 _ 47 rfl rfl (by simp) l3
            rw [show val 3 = .agg #[.bool bL, .bool bR, .slice ya yn yc] from hF 3 l3] at q47
            refine op_callv 14 #[.string G, .agg #[.bool aL, .bool aR, .slice xa xn xc], .agg #[.bool bL, .bool bR, .slice ya yn yc]] (fun _ _ => trivial) ?_ (by omega) ((callsIn_wide.2 (HCL.out W hbw)).mono ?_)
            · rw [Oper.semAt_plain _ _ _ (by intro c h; cases h)]
              simp [execOp, q45, q46, q47, go_sem]
            · rintro e W2 ⟨va, vn, vc, rfl, hown, hb⟩
              exact ⟨_, rfl, hb, va, vn, vc, rfl, hown.mono hbw.size⟩
          · cases ho
            refine opG_plain rfl rfl ?_
            have l4 : listed.getD 4 false = true := haf ⟨4, .data⟩ (Array.mem_of_getElem? (i := 0) rfl) rfl
            have q48 : a'.tmps[48]? = some (val 4) := hS.tmpSet 4 _ 48 rfl rfl (by simp) l4
            obtain ⟨va, vn, vc, ej, hown⟩ : ∃ va vn vc, val 4 = .tuple #[.agg #[.bool (Z2).list, .bool false, .slice va vn vc], .int .i64 (er2)] ∧ IOwn W w6.heap.size (.slice va vn vc) (Z2).n := hF 4 l4
            rw [ej] at q48
            refine op_valv (.tuple #[.agg #[.bool (Z2).list, .bool false, .slice va vn vc], .int .i64 (er2)]) W (fun _ _ => trivial) ?_ ⟨Below.refl _ _, va, vn, vc, rfl, hown⟩
            rw [Oper.semAt_plain _ _ _ (by intro c h; cases h)]
            simp [execOp, q48, go_sem]
          · cases ho
            refine opG_plain rfl rfl ?_
            have l5 : listed.getD 5 false = true := haf ⟨5, .data⟩ (Array.mem_of_getElem? (i := 0) rfl) rfl
            have q43 : a'.tmps[43]? = some (val 5) := hS.tmpSet 5 _ 43 rfl rfl (by simp) l5
            obtain ⟨va, vn, vc, ej, hown⟩ : ∃ va vn vc, val 5 = .tuple #[.agg #[.bool (Z2).list, .bool false, .slice va vn vc], .int .i64 (er2)] ∧ IOwn W w6.heap.size (.slice va vn vc) (Z2).n := hF 5 l5
            rw [ej] at q43
            refine op_valv (.agg #[.bool (Z2).list, .bool false, .slice va vn vc]) W (fun _ _ => trivial) ?_ ⟨Below.refl _ _, va, vn, vc, rfl, hown⟩
            rw [Oper.semAt_plain _ _ _ (by intro c h; cases h)]
            simp [execOp, q43, go_sem]
          · cases ho
            refine opG_plain rfl rfl ?_
            have l5 : listed.getD 5 false = true := haf ⟨5, .data⟩ (Array.mem_of_getElem? (i := 0) rfl) rfl
            have q43 : a'.tmps[43]? = some (val 5) := hS.tmpSet 5 _ 43 rfl rfl (by simp) l5
            obtain ⟨va, vn, vc, ej, hown⟩ : ∃ va vn vc, val 5 = .tuple #[.agg #[.bool (Z2).list, .bool false, .slice va vn vc], .int .i64 (er2)] ∧ IOwn W w6.heap.size (.slice va vn vc) (Z2).n := hF 5 l5
            rw [ej] at q43
            refine op_valv (.int .i64 er2) W (fun _ _ => trivial) ?_ ⟨Below.refl _ _, rfl⟩
            rw [Oper.semAt_plain _ _ _ (by intro c h; cases h)]
            simp [execOp, q43, go_sem]
          · cases ho
            refine opG_plain rfl rfl ?_
            refine op_valv (.pointer (some ⟨W.heap.size, 0, none⟩)) (W.alloc (.cells #[.bool false, .bool false, .slice none 0 0] 24)) (fun _ _ => trivial) ?_ ⟨(Below.refl _ _).alloc (Nat.le_refl _) _, W.heap.size, _, _, _, rfl, hbw.size, Row.new _ _ _⟩
            rw [Oper.semAt_plain _ _ _ (by intro c h; cases h)]
            simp [execOp, go_sem]
          · cases ho
            refine opG_plain rfl rfl ?_
            have l7 : listed.getD 7 false = true := haf ⟨7, .data⟩ (Array.mem_of_getElem? (i := 0) rfl) rfl
            have q50 : a'.tmps[50]? = some (val 7) := hS.tmpSet 7 _ 50 rfl rfl (by simp) l7
            rw [show val 7 = .int .i64 er2 from hF 7 l7] at q50
            refine op_valv (.int .i64 er2) W (fun _ _ => trivial) ?_ ⟨Below.refl _ _, rfl⟩
            rw [Oper.semAt_plain _ _ _ (by intro c h; cases h)]
            simp [execOp, q50, go_sem]
        · intro oo listed a' W val ho haf hS hbw hF
          cases ho
          refine opG_plain rfl rfl ?_
          have l8 : listed.getD 8 false = true := haf ⟨8, .data⟩ (Array.mem_of_getElem? (i := 0) rfl) rfl
          have q14 : a'.tmps[14]? = some (val 8) := hS.tmpSet 8 _ 14 rfl rfl (by simp) l8
          obtain ⟨b, x, y, u, eb, hbb, hr⟩ : ∃ b x y u, val 8 = .pointer (some ⟨b, 0, none⟩) ∧ w6.heap.size ≤ b ∧ Row W b 24 #[x, y, u] := hF 8 l8
          rw [eb] at q14
          have l6 : listed.getD 6 false = true := haf ⟨6, .data⟩ (Array.mem_of_getElem? (i := 1) rfl) rfl
          have q49 : a'.tmps[49]? = some (val 6) := hS.tmpSet 6 _ 49 rfl rfl (by simp) l6
          obtain ⟨va, vn, vc, ej, hown⟩ : ∃ va vn vc, val 6 = .agg #[.bool (Z2).list, .bool false, .slice va vn vc] ∧ IOwn W w6.heap.size (.slice va vn vc) (Z2).n := hF 6 l6
          rw [ej] at q49
          obtain ⟨d0, d1, d2, f0, f1, f2⟩ := row3 hr
          refine op_skipv (((W.setCell ⟨b, 0, none⟩ (.bool (Z2).list)).setCell ⟨b, 1, none⟩ (.bool false)).setCell ⟨b, 2, none⟩ (.slice va vn vc)) (fun _ _ => trivial) ?_ ⟨((hbw.setCell (p := ⟨b, 0, none⟩) hbb _).setCell (p := ⟨b, 1, none⟩) hbb _).setCell (p := ⟨b, 2, none⟩) hbb _, trivial, fun j hj => PhK.put _ _ _ hr (hF j hj), b, va, vn, vc, eb, ej, hbb, row_set3 hr _ _ _, own_off3 hown hr _ _ _⟩
          rw [Oper.semAt_plain _ _ _ (by intro c h; cases h)]
          simp [execOp, q14, q49, d0, d1, d2, f0, f1, f2, go_sem]
        · intro w7 val hb hF hst
          obtain ⟨bk7, va7, vn7, vc7, e8, e6, hbk7, hr, hown⟩ := hst
          have e0 : val 0 = .string g := hF 0 (by decide)
          have e1 : val 1 = .string G := hF 1 (by decide)
          have e2 : val 2 = .agg #[.bool aL, .bool aR, .slice xa xn xc] := hF 2 (by decide)
          have e3 : val 3 = .agg #[.bool bL, .bool bR, .slice ya yn yc] := hF 3 (by decide)
          obtain ⟨va, vn, vc, e4, -⟩ : ∃ va vn vc, val 4 = .tuple #[.agg #[.bool (Z2).list, .bool false, .slice va vn vc], .int .i64 (er2)] ∧ IOwn w7 w6.heap.size (.slice va vn vc) (Z2).n := hF 4 (by decide)
          obtain ⟨va, vn, vc, e5, -⟩ : ∃ va vn vc, val 5 = .tuple #[.agg #[.bool (Z2).list, .bool false, .slice va vn vc], .int .i64 (er2)] ∧ IOwn w7 w6.heap.size (.slice va vn vc) (Z2).n := hF 5 (by decide)
          have e7 : val 7 = .int .i64 er2 := hF 7 (by decide)
          have e10 : val 10 = .int .i64 er2 := hF 10 (by decide)
          simp only [finAct, List.getElem?_toArray, List.getElem?_cons_zero, List.getElem?_cons_succ, Act.put, List.setIfInBounds_toArray, List.set_cons_zero, List.set_cons_succ, List.size_toArray, List.length_cons, List.length_nil, Nat.reduceAdd]
          simp only [e8, e6, e0, e1, e2, e3, e4, e5, e7, e10]
          clear e8 e6 e0 e1 e2 e3 e4 e5 e7 e10 hF val
          have HN7 : Hid (vn7 = (Z2).n.length) := Lib.hid (by obtain ⟨_, _, e, _, _⟩ := hown.form; injection e)
          have HRN7 := Lib.hid hr
          have HKN7 := Lib.hid hown.kl
          have HON7 := Lib.hid hown
          have HSZ7 := Lib.hid hbk7
          have HR0_7 := Lib.hid (Row.below HR0_6.out hb (Row.lt HR0_6.out))
          have HR1_7 := Lib.hid (Row.below HR1_6.out hb (Row.lt HR1_6.out))
          have HR2_7 := Lib.hid (Row.below HR2_6.out hb (Row.lt HR2_6.out))
          have HR3_7 := Lib.hid (Row.below HR3_6.out hb (Row.lt HR3_6.out))
          have HR4_7 := Lib.hid (Row.below HRN6.out hb (Row.lt HRN6.out))
          have HK0_7 := Lib.hid (HK0_6.out.below hb)
          have HK1_7 := Lib.hid (HK1_6.out.below hb)
          have HK2_7 := Lib.hid (HK2_6.out.below hb)
          have HK3_7 := Lib.hid (HK3_6.out.below hb)
          have HK4_7 := Lib.hid (HKN6.out.below hb)
          have HB_7 := Lib.hid (HB_6.out.trans (hb.mono HB_6.out.size))
          have HG_7 := Lib.hid (HG.out.below HB_7.out)
          clear hb hr hown HCL
          have hc := HSM.out Z1.list Z1.n _ _ w7 HK2_7.out HK3_7.out
          have HC := Lib.hid hc
          clear hc
          obtain ⟨p0a, p0b, p0c, -, -, -⟩ := row3 HR0_7.out
          obtain ⟨p1a, p1b, p1c, -, -, -⟩ := row3 HR1_7.out
          obtain ⟨p2a, p2b, p2c, -, -, -⟩ := row3 HR2_7.out
          obtain ⟨p3a, p3b, p3c, -, -, -⟩ := row3 HR3_7.out
          obtain ⟨p4a, p4b, p4c, -, -, -⟩ := row3 HR4_7.out
          obtain ⟨p5a, p5b, p5c, -, -, -⟩ := row3 HRN7.out
          go_wp2_with fail
          refine HC.out.mono ?_
          rintro e w8 ⟨rfl, hb⟩
          clear p0a p0b p0c p1a p1b p1c p2a p2b p2c p3a p3b p3c p4a p4b p4c p5a p5b p5c
          have HR0_8 := Lib.hid (Row.below HR0_7.out hb (Row.lt HR0_7.out))
          have HR1_8 := Lib.hid (Row.below HR1_7.out hb (Row.lt HR1_7.out))
          have HR2_8 := Lib.hid (Row.below HR2_7.out hb (Row.lt HR2_7.out))
          have HR3_8 := Lib.hid (Row.below HR3_7.out hb (Row.lt HR3_7.out))
          have HR4_8 := Lib.hid (Row.below HR4_7.out hb (Row.lt HR4_7.out))
          have HR5_8 := Lib.hid (Row.below HRN7.out hb (Row.lt HRN7.out))
          have HK0_8 := Lib.hid (HK0_7.out.below hb)
          have HK1_8 := Lib.hid (HK1_7.out.below hb)
          have HK2_8 := Lib.hid (HK2_7.out.below hb)
          have HK3_8 := Lib.hid (HK3_7.out.below hb)
          have HK4_8 := Lib.hid (HK4_7.out.below hb)
          have HK5_8 := Lib.hid (HKN7.out.below hb)
          have HB_8 := Lib.hid (HB_7.out.trans (hb.mono HB_7.out.size))
          have HG_8 := Lib.hid (HG.out.below HB_8.out)
          clear hb
          have hc := HSM.out Z2.list Z2.n _ _ w8 HK4_8.out HK5_8.out
          have HC := Lib.hid hc
          clear hc
          obtain ⟨p0a, p0b, p0c, -, -, -⟩ := row3 HR0_8.out
          obtain ⟨p1a, p1b, p1c, -, -, -⟩ := row3 HR1_8.out
          obtain ⟨p2a, p2b, p2c, -, -, -⟩ := row3 HR2_8.out
          obtain ⟨p3a, p3b, p3c, -, -, -⟩ := row3 HR3_8.out
          obtain ⟨p4a, p4b, p4c, -, -, -⟩ := row3 HR4_8.out
          obtain ⟨p5a, p5b, p5c, -, -, -⟩ := row3 HR5_8.out
          go_wp2_with fail
          refine HC.out.mono ?_
          rintro e w9 ⟨rfl, hb⟩
          clear p0a p0b p0c p1a p1b p1c p2a p2b p2c p3a p3b p3c p4a p4b p4c p5a p5b p5c
          have HR0_9 := Lib.hid (Row.below HR0_8.out hb (Row.lt HR0_8.out))
          have HR1_9 := Lib.hid (Row.below HR1_8.out hb (Row.lt HR1_8.out))
          have HR2_9 := Lib.hid (Row.below HR2_8.out hb (Row.lt HR2_8.out))
          have HR3_9 := Lib.hid (Row.below HR3_8.out hb (Row.lt HR3_8.out))
          have HR4_9 := Lib.hid (Row.below HR4_8.out hb (Row.lt HR4_8.out))
          have HR5_9 := Lib.hid (Row.below HR5_8.out hb (Row.lt HR5_8.out))
          have HK0_9 := Lib.hid (HK0_8.out.below hb)
          have HK1_9 := Lib.hid (HK1_8.out.below hb)
          have HK2_9 := Lib.hid (HK2_8.out.below hb)
          have HK3_9 := Lib.hid (HK3_8.out.below hb)
          have HK4_9 := Lib.hid (HK4_8.out.below hb)
          have HK5_9 := Lib.hid (HK5_8.out.below hb)
          have HB_9 := Lib.hid (HB_8.out.trans (hb.mono HB_8.out.size))
          have HG_9 := Lib.hid (HG.out.below HB_9.out)
          clear hb
          obtain ⟨p0a, p0b, p0c, -, -, -⟩ := row3 HR0_9.out
          obtain ⟨p1a, p1b, p1c, -, -, -⟩ := row3 HR1_9.out
          obtain ⟨p2a, p2b, p2c, -, -, -⟩ := row3 HR2_9.out
          obtain ⟨p3a, p3b, p3c, -, -, -⟩ := row3 HR3_9.out
          obtain ⟨p4a, p4b, p4c, -, -, -⟩ := row3 HR4_9.out
          obtain ⟨p5a, p5b, p5c, -, -, -⟩ := row3 HR5_9.out
          go_wp2_with fail
          go_ret
          exact ⟨rfl, HB_9.out⟩
end Go.Proofs.YthlkgfplffdiaaaGreatDoor.Ar
