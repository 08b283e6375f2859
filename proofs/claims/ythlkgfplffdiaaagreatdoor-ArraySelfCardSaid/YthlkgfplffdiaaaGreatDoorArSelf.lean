/- The statement ArraySelf. -/
import Derived.Test.YthlkgfplffdiaaaGreatDoorArFact
import Derived.Test.YthlkgfplffdiaaaGreatDoorArEq
namespace Go.Proofs.YthlkgfplffdiaaaGreatDoor.Ar
open Go Go.RowKit Go.Shelf
attribute [local go_sem] Oper.semAt_some

set_option maxRecDepth 100000 in
set_option maxHeartbeats 16000000 in
theorem self_true (w : World) (hG : AG w) (a b : Ary) (s t : Value) (hs : KL w s a.n) (ht : KL w t b.n) (hi : InL a.n) (hj : InL b.n) : Calls Tryz.prog 7 #[aryV a s, aryV b t] w fun e w' => e = .returned (.bool true) ∧ Below w.heap.size w w' := by
  obtain ⟨aL, aR, aN⟩ := a
  obtain ⟨bL, bR, bN⟩ := b
  obtain ⟨sa, sc, rfl, -, -⟩ := hs.form
  obtain ⟨ta, tc, rfl, -, -⟩ := ht.form
  dsimp only [aryV] at *
  obtain ⟨an, han⟩ : ∃ n, n = aN.length := ⟨_, rfl⟩
  obtain ⟨bn, hbn⟩ : ∃ n, n = bN.length := ⟨_, rfl⟩
  have hF1 : ∀ W, Below w.heap.size w W → Calls Tryz.prog 9 #[.agg #[.bool aL, .bool aR, .slice sa an sc]] W fun e w' => ∃ xa xn xc, e = .returned (.agg #[.bool aL, .bool aR, .slice xa xn xc]) ∧ KL w' (.slice xa xn xc) (aN.take 202) ∧ Below W.heap.size W w' := fun W hW => by
    rw [han]
    refine (few_c ⟨aL, aR, aN⟩ _ W (hs.below hW)).mono ?_
    rintro e w' ⟨x, rfl, hk, hb⟩
    obtain ⟨xa, xc, rfl, -, -⟩ := hk.form
    exact ⟨_, _, _, rfl, hk, hb⟩
  have hF2 : ∀ W, Below w.heap.size w W → Calls Tryz.prog 9 #[.agg #[.bool bL, .bool bR, .slice ta bn tc]] W fun e w' => ∃ xa xn xc, e = .returned (.agg #[.bool bL, .bool bR, .slice xa xn xc]) ∧ KL w' (.slice xa xn xc) (bN.take 202) ∧ Below W.heap.size W w' := fun W hW => by
    rw [hbn]
    refine (few_c ⟨bL, bR, bN⟩ _ W (ht.below hW)).mono ?_
    rintro e w' ⟨x, rfl, hk, hb⟩
    obtain ⟨xa, xc, rfl, -, -⟩ := hk.form
    exact ⟨_, _, _, rfl, hk, hb⟩
  rw [← han, ← hbn]
  have HF1 := Lib.hid hF1
  have HF2 := Lib.hid hF2
  obtain ⟨X, hX⟩ : ∃ X, X = aN.take 202 := ⟨_, rfl⟩
  obtain ⟨Y, hY⟩ : ∃ X, X = bN.take 202 := ⟨_, rfl⟩
  rw [← hX] at HF1
  rw [← hY] at HF2
  have hx2 : X.length ≤ 202 := by rw [hX, List.length_take]; omega
  have hy2 : Y.length ≤ 202 := by rw [hY, List.length_take]; omega
  have HIX : Hid (InL X) := Lib.hid (by rw [hX]; exact fun x hx => hi x (List.mem_of_mem_take hx))
  have HIY : Hid (InL Y) := Lib.hid (by rw [hY]; exact fun x hx => hj x (List.mem_of_mem_take hx))
  have HX2 := Lib.hid hx2
  have HY2 := Lib.hid hy2
  -- what is told of them
  obtain ⟨c1, hc1⟩ : ∃ c, c = dyE ⟨#[61]⟩ ⟨aL, aR, X⟩ ⟨aL, aR, X⟩ := ⟨_, rfl⟩
  obtain ⟨Z1, hZ1⟩ : ∃ c, c = dyZ ⟨#[61]⟩ ⟨aL, aR, X⟩ ⟨aL, aR, X⟩ := ⟨_, rfl⟩
  obtain ⟨c2, hc2⟩ : ∃ c, c = dyE ⟨#[43]⟩ ⟨aL, aR, X⟩ ⟨bL, bR, Y⟩ := ⟨_, rfl⟩
  obtain ⟨Z2, hZ2⟩ : ∃ c, c = dyZ ⟨#[43]⟩ ⟨aL, aR, X⟩ ⟨bL, bR, Y⟩ := ⟨_, rfl⟩
  have HD1 := Lib.hid (fun W s h hG => dyz_c ⟨#[61]⟩ ⟨aL, aR, X⟩ ⟨aL, aR, X⟩ s s W h h HIX.out HIX.out hG)
  have HD2 := Lib.hid (fun W s t h k hG => dyz_c ⟨#[43]⟩ ⟨aL, aR, X⟩ ⟨bL, bR, Y⟩ s t W h k HIX.out HIY.out hG)
  have HD3 := Lib.hid (fun W s t h k hG => dyz_c ⟨#[43]⟩ ⟨bL, bR, Y⟩ ⟨aL, aR, X⟩ s t W k h HIY.out HIX.out hG)
  rw [← hc1, ← hZ1] at HD1
  rw [← hc2, ← hZ2] at HD2
  rw [(sum_comm ⟨aL, aR, X⟩ ⟨bL, bR, Y⟩).1, (sum_comm ⟨aL, aR, X⟩ ⟨bL, bR, Y⟩).2, ← hc2, ← hZ2] at HD3
  have hp : (c1 = 0 ∧ Z1.n.length = X.length ∧ ∀ x ∈ Z1.n, x = 1) ∨ (c1 = 114 ∧ c2 = 114 ∧ rightA ⟨aL, aR, X⟩ = false) := by
    rw [hc1, hZ1, hc2, self_eq]
    cases hr : rightA ⟨aL, aR, X⟩ with
    | true =>
      refine .inl ⟨rfl, ?_, self_ones _⟩
      have he : dyE ⟨#[61]⟩ ⟨aL, aR, X⟩ ⟨aL, aR, X⟩ = 0 := by rw [self_eq, hr]; rfl
      rw [(dyZ_right he).2.1]
      unfold lenP
      split <;> rfl
    | false => exact .inr ⟨rfl, (sum_bad hr).1, rfl⟩
  have HP := Lib.hid hp
  have HR := Lib.hid (fun W s h => eright_c ⟨aL, aR, X⟩ s W h HIX.out)
  clear hc1 hZ1 hc2 hZ2 hp
  clear hF1 hF2 hs ht hi hj hX hY han hbn hx2 hy2
  -- the boxes
  obtain ⟨u0, hu0⟩ : ∃ u0, u0 = (w.alloc (.cells #[.bool aL, .bool aR, .slice sa an sc] 24)).alloc (.cells #[.bool bL, .bool bR, .slice ta bn tc] 24) := ⟨_, rfl⟩
  have hb0 : Below w.heap.size w u0 := by rw [hu0]; exact ((Below.refl _ w).alloc (Nat.le_refl _) _).alloc (by simp) _
  have HB0 := Lib.hid hb0
  have HRA0 : Hid (Row u0 w.heap.size 24 #[.bool aL, .bool aR, .slice sa an sc]) := Lib.hid (by rw [hu0]; exact (Row.new _ _ _).alloc _)
  have HRB0 : Hid (Row u0 (w.heap.size + 1) 24 #[.bool bL, .bool bR, .slice ta bn tc]) := Lib.hid (by rw [hu0]; exact Row.at _ _ _ _ (by simp))
  have HG := Lib.hid hG
  have hsh := shown11_c u0 (hG.below hb0)
  rw [hu0] at hsh
  have HSH := Lib.hid hsh
  have HU0 := Lib.hid hu0
  clear hb0 hsh hu0 hG
  go_enter Tryz.func7, Tryz.ntmps7
  go_wp2_with fail
  refine HSH.out.mono ?_
  rintro e w1 ⟨rfl, hb⟩
  rw [← HU0.out] at hb
  have HB1 := Lib.hid (HB0.out.trans (hb.mono HB0.out.size))
  have HRA1 := Lib.hid (HRA0.out.below hb HRA0.out.lt)
  have HRB1 := Lib.hid (HRB0.out.below hb HRB0.out.lt)
  clear hb HU0
  obtain ⟨c0, c1, c2, -, -, -⟩ := row3 HRA1.out
  have HC := Lib.hid (HF1.out w1 HB1.out)
  go_wp2_with fail
  refine HC.out.mono ?_
  rintro e w2 ⟨xa, xn, xc, rfl, hk, hb⟩
  have hnx : xn = X.length := by obtain ⟨_, _, e, _, _⟩ := hk.form; injection e
  -- the first's box is written
  have ra2 := HRA1.out.below hb HRA1.out.lt
  have rb2 := HRB1.out.below hb HRB1.out.lt
  have hb2 := HB1.out.trans (hb.mono HB1.out.size)
  obtain ⟨u2, hu2⟩ : ∃ u2, u2 = ((w2.setCell ⟨w.heap.size, 0, none⟩ (.bool aL)).setCell ⟨w.heap.size, 1, none⟩ (.bool aR)).setCell ⟨w.heap.size, 2, none⟩ (.slice xa xn xc) := ⟨_, rfl⟩
  have HBU2 : Hid (Below w.heap.size w u2) := Lib.hid (by rw [hu2]; exact ((hb2.setCell (p := ⟨w.heap.size, 0, none⟩) (Nat.le_refl _) _).setCell (p := ⟨w.heap.size, 1, none⟩) (Nat.le_refl _) _).setCell (p := ⟨w.heap.size, 2, none⟩) (Nat.le_refl _) _)
  have HRA2 : Hid (Row u2 w.heap.size 24 #[.bool aL, .bool aR, .slice xa xn xc]) := Lib.hid (by rw [hu2]; exact row_set3 ra2 _ _ _)
  have HRB2 : Hid (Row u2 (w.heap.size + 1) 24 #[.bool bL, .bool bR, .slice ta bn tc]) := Lib.hid (by rw [hu2]; exact ((rb2.other (by omega) _).other (by omega) _).other (by omega) _)
  have HKX2 : Hid (KL u2 (.slice xa xn xc) X) := Lib.hid (by rw [hu2]; exact kl_set3 hk ra2 _ _ _)
  clear c0 c1 c2
  obtain ⟨c0, c1, c2, f0, f1, f2⟩ := row3 ra2
  obtain ⟨d0, d1, d2, -, -, -⟩ := row3 HRB2.out
  rw [hu2] at d0 d1 d2
  have hc := HF2.out u2 HBU2.out
  rw [hu2] at hc
  have HC := Lib.hid hc
  have HU2 := Lib.hid hu2
  have HNX := Lib.hid hnx
  clear ra2 rb2 hb2 hk hb hu2 hc hnx
  go_wp2_with fail
  refine HC.out.mono ?_
  rintro e w3 ⟨ya, yn, yc, rfl, hk, hb⟩
  rw [← HU2.out] at hb
  have hny : yn = Y.length := by obtain ⟨_, _, e, _, _⟩ := hk.form; injection e
  have ra2 := HRA2.out.below hb HRA2.out.lt
  have rb2 := HRB2.out.below hb HRB2.out.lt
  have hb2 := HBU2.out.trans (hb.mono HBU2.out.size)
  have hkx := HKX2.out.below hb
  obtain ⟨u3, hu3⟩ : ∃ u3, u3 = ((w3.setCell ⟨w.heap.size + 1, 0, none⟩ (.bool bL)).setCell ⟨w.heap.size + 1, 1, none⟩ (.bool bR)).setCell ⟨w.heap.size + 1, 2, none⟩ (.slice ya yn yc) := ⟨_, rfl⟩
  have HB3 : Hid (Below w.heap.size w u3) := Lib.hid (by rw [hu3]; exact ((hb2.setCell (p := ⟨w.heap.size + 1, 0, none⟩) (Nat.le_succ _) _).setCell (p := ⟨w.heap.size + 1, 1, none⟩) (Nat.le_succ _) _).setCell (p := ⟨w.heap.size + 1, 2, none⟩) (Nat.le_succ _) _)
  have HRA3 : Hid (Row u3 w.heap.size 24 #[.bool aL, .bool aR, .slice xa xn xc]) := Lib.hid (by rw [hu3]; exact ((ra2.other (by omega) _).other (by omega) _).other (by omega) _)
  have HRB3 : Hid (Row u3 (w.heap.size + 1) 24 #[.bool bL, .bool bR, .slice ya yn yc]) := Lib.hid (by rw [hu3]; exact row_set3 rb2 _ _ _)
  have HKX3 : Hid (KL u3 (.slice xa xn xc) X) := Lib.hid (by rw [hu3]; exact kl_set3 hkx rb2 _ _ _)
  have HKY3 : Hid (KL u3 (.slice ya yn yc) Y) := Lib.hid (by rw [hu3]; exact kl_set3 hk rb2 _ _ _)
  have HG3 := Lib.hid (HG.out.below HB3.out)
  have HNY := Lib.hid hny
  have HU3 := Lib.hid hu3
  clear c0 c1 c2 f0 f1 f2 d0 d1 d2
  obtain ⟨e0, e1, e2, g0, g1, g2⟩ := row3 rb2
  obtain ⟨c0, c1, c2, -, -, -⟩ := row3 HRA3.out
  obtain ⟨d0, d1, d2, -, -, -⟩ := row3 HRB3.out
  rw [HU3.out] at c0 c1 c2 d0 d1 d2
  clear ra2 rb2 hb2 hkx hk hb hny hu3
  have hc := HD1.out u3 _ HKX3.out HG3.out.ng
  rw [HU3.out] at hc
  have HC := Lib.hid hc
  clear hc
  obtain ⟨p0a, p0b, p0c, -, -, -⟩ := row3 HRA3.out
  obtain ⟨p1a, p1b, p1c, -, -, -⟩ := row3 HRB3.out
  rw [HU3.out] at p0a p0b p0c p1a p1b p1c
  go_wp2_with fail
  refine HC.out.mono ?_
  rintro e w4 ⟨va, vn, vc, rfl, hown, hb⟩
  clear p0a p0b p0c p1a p1b p1c
  obtain ⟨va4, hva⟩ : ∃ x, x = va := ⟨_, rfl⟩
  obtain ⟨vn4, hvn⟩ : ∃ x, x = vn := ⟨_, rfl⟩
  obtain ⟨vc4, hvc⟩ : ∃ x, x = vc := ⟨_, rfl⟩
  rw [← hva, ← hvn, ← hvc] at hown ⊢
  clear hva hvn hvc va vn vc
  rw [← HU3.out] at hown hb
  have HN4 : Hid (vn4 = (Z1).n.length) := Lib.hid (by obtain ⟨_, _, e, _, _⟩ := hown.form; injection e)
  obtain ⟨u4, hu4⟩ : ∃ u, u = w4.alloc (.cells #[.bool (Z1).list, .bool false, .slice va4 vn4 vc4] 24) := ⟨_, rfl⟩
  have hbu : Below w4.heap.size w4 u4 := by rw [hu4]; exact (Below.refl _ _).alloc (Nat.le_refl _) _
  have hbb : Below u3.heap.size u3 u4 := hb.trans (hbu.mono hb.size)
  have HRN4 : Hid (Row u4 w4.heap.size 24 #[.bool (Z1).list, .bool false, .slice va4 vn4 vc4]) := Lib.hid (by rw [hu4]; exact Row.new _ _ _)
  have HKN4 := Lib.hid (hown.kl.below hbu)
  have HON4 := Lib.hid (hown.below hbu)
  have HU4 := Lib.hid hu4
  have HR0_4 := Lib.hid (Row.below HRA3.out hbb (Row.lt HRA3.out))
  have HR1_4 := Lib.hid (Row.below HRB3.out hbb (Row.lt HRB3.out))
  have HK0_4 := Lib.hid (HKX3.out.below hbb)
  have HK1_4 := Lib.hid (HKY3.out.below hbb)
  have HB_4 := Lib.hid (HB3.out.trans (hbb.mono HB3.out.size))
  have HG_4 := Lib.hid (HG.out.below HB_4.out)
  have HSZ4 : Hid (u3.heap.size ≤ w4.heap.size) := Lib.hid hb.size
  clear hown hb hu4 hbu hbb
  have hc := HD2.out u4 _ _ HK0_4.out HK1_4.out HG_4.out.ng
  rw [HU4.out] at hc
  have HC := Lib.hid hc
  clear hc
  obtain ⟨p0a, p0b, p0c, -, -, -⟩ := row3 HR0_4.out
  obtain ⟨p1a, p1b, p1c, -, -, -⟩ := row3 HR1_4.out
  obtain ⟨p2a, p2b, p2c, -, -, -⟩ := row3 HRN4.out
  rw [HU4.out] at p0a p0b p0c p1a p1b p1c p2a p2b p2c
  go_wp2_with fail
  refine HC.out.mono ?_
  rintro e w5 ⟨va, vn, vc, rfl, hown, hb⟩
  clear p0a p0b p0c p1a p1b p1c p2a p2b p2c
  obtain ⟨va5, hva⟩ : ∃ x, x = va := ⟨_, rfl⟩
  obtain ⟨vn5, hvn⟩ : ∃ x, x = vn := ⟨_, rfl⟩
  obtain ⟨vc5, hvc⟩ : ∃ x, x = vc := ⟨_, rfl⟩
  rw [← hva, ← hvn, ← hvc] at hown ⊢
  clear hva hvn hvc va vn vc
  rw [← HU4.out] at hown hb
  have HN5 : Hid (vn5 = (Z2).n.length) := Lib.hid (by obtain ⟨_, _, e, _, _⟩ := hown.form; injection e)
  obtain ⟨u5, hu5⟩ : ∃ u, u = w5.alloc (.cells #[.bool (Z2).list, .bool false, .slice va5 vn5 vc5] 24) := ⟨_, rfl⟩
  have hbu : Below w5.heap.size w5 u5 := by rw [hu5]; exact (Below.refl _ _).alloc (Nat.le_refl _) _
  have hbb : Below u4.heap.size u4 u5 := hb.trans (hbu.mono hb.size)
  have HRN5 : Hid (Row u5 w5.heap.size 24 #[.bool (Z2).list, .bool false, .slice va5 vn5 vc5]) := Lib.hid (by rw [hu5]; exact Row.new _ _ _)
  have HKN5 := Lib.hid (hown.kl.below hbu)
  have HON5 := Lib.hid (hown.below hbu)
  have HU5 := Lib.hid hu5
  have HR0_5 := Lib.hid (Row.below HR0_4.out hbb (Row.lt HR0_4.out))
  have HR1_5 := Lib.hid (Row.below HR1_4.out hbb (Row.lt HR1_4.out))
  have HR2_5 := Lib.hid (Row.below HRN4.out hbb (Row.lt HRN4.out))
  have HK0_5 := Lib.hid (HK0_4.out.below hbb)
  have HK1_5 := Lib.hid (HK1_4.out.below hbb)
  have HK2_5 := Lib.hid (HKN4.out.below hbb)
  have HB_5 := Lib.hid (HB_4.out.trans (hbb.mono HB_4.out.size))
  have HG_5 := Lib.hid (HG.out.below HB_5.out)
  have HSZ5 : Hid (u4.heap.size ≤ w5.heap.size) := Lib.hid hb.size
  clear hown hb hu5 hbu hbb
  have hc := HD3.out u5 _ _ HK0_5.out HK1_5.out HG_5.out.ng
  rw [HU5.out] at hc
  have HC := Lib.hid hc
  clear hc
  obtain ⟨p0a, p0b, p0c, -, -, -⟩ := row3 HR0_5.out
  obtain ⟨p1a, p1b, p1c, -, -, -⟩ := row3 HR1_5.out
  obtain ⟨p2a, p2b, p2c, -, -, -⟩ := row3 HR2_5.out
  obtain ⟨p3a, p3b, p3c, -, -, -⟩ := row3 HRN5.out
  rw [HU5.out] at p0a p0b p0c p1a p1b p1c p2a p2b p2c p3a p3b p3c
  go_wp2_with fail
  refine HC.out.mono ?_
  rintro e w6 ⟨va, vn, vc, rfl, hown, hb⟩
  clear p0a p0b p0c p1a p1b p1c p2a p2b p2c p3a p3b p3c
  obtain ⟨va6, hva⟩ : ∃ x, x = va := ⟨_, rfl⟩
  obtain ⟨vn6, hvn⟩ : ∃ x, x = vn := ⟨_, rfl⟩
  obtain ⟨vc6, hvc⟩ : ∃ x, x = vc := ⟨_, rfl⟩
  rw [← hva, ← hvn, ← hvc] at hown ⊢
  clear hva hvn hvc va vn vc
  rw [← HU5.out] at hown hb
  have HN6 : Hid (vn6 = (Z2).n.length) := Lib.hid (by obtain ⟨_, _, e, _, _⟩ := hown.form; injection e)
  obtain ⟨u6, hu6⟩ : ∃ u, u = w6.alloc (.cells #[.bool (Z2).list, .bool false, .slice va6 vn6 vc6] 24) := ⟨_, rfl⟩
  have hbu : Below w6.heap.size w6 u6 := by rw [hu6]; exact (Below.refl _ _).alloc (Nat.le_refl _) _
  have hbb : Below u5.heap.size u5 u6 := hb.trans (hbu.mono hb.size)
  have HRN6 : Hid (Row u6 w6.heap.size 24 #[.bool (Z2).list, .bool false, .slice va6 vn6 vc6]) := Lib.hid (by rw [hu6]; exact Row.new _ _ _)
  have HKN6 := Lib.hid (hown.kl.below hbu)
  have HON6 := Lib.hid (hown.below hbu)
  have HU6 := Lib.hid hu6
  have HR0_6 := Lib.hid (Row.below HR0_5.out hbb (Row.lt HR0_5.out))
  have HR1_6 := Lib.hid (Row.below HR1_5.out hbb (Row.lt HR1_5.out))
  have HR2_6 := Lib.hid (Row.below HR2_5.out hbb (Row.lt HR2_5.out))
  have HR3_6 := Lib.hid (Row.below HRN5.out hbb (Row.lt HRN5.out))
  have HK0_6 := Lib.hid (HK0_5.out.below hbb)
  have HK1_6 := Lib.hid (HK1_5.out.below hbb)
  have HK2_6 := Lib.hid (HK2_5.out.below hbb)
  have HK3_6 := Lib.hid (HKN5.out.below hbb)
  have HB_6 := Lib.hid (HB_5.out.trans (hbb.mono HB_5.out.size))
  have HG_6 := Lib.hid (HG.out.below HB_6.out)
  have HSZ6 : Hid (u5.heap.size ≤ w6.heap.size) := Lib.hid hb.size
  clear hown hb hu6 hbu hbb
  rcases HP.out with ⟨h0, hlen, hone⟩ | ⟨h0, h1, h2⟩
  · subst h0
    have HONE := Lib.hid hone
    have hxn : vn4 = xn := by rw [HN4.out, hlen, HNX.out]
    subst hxn
    clear hone
    have HCC := Lib.hid HK2_6.out.cells
    rw [← HN4.out] at HCC
    have hmx : vn4 ≤ 202 := by rw [HNX.out]; exact HX2.out
    rw [HU6.out] at HCC
    have hs := same_c ⟨Z2.list, false, Z2.n⟩ ⟨Z2.list, false, Z2.n⟩ _ _ u6 HK3_6.out HKN6.out
    rw [HU6.out] at hs
    have HS := Lib.hid hs
    clear hs hlen
    have HNX' := Lib.hid HNX.out
    obtain ⟨p0a, p0b, p0c, -, -, -⟩ := row3 HR0_6.out
    obtain ⟨p1a, p1b, p1c, -, -, -⟩ := row3 HR1_6.out
    obtain ⟨p2a, p2b, p2c, -, -, -⟩ := row3 HR2_6.out
    obtain ⟨p3a, p3b, p3c, -, -, -⟩ := row3 HR3_6.out
    obtain ⟨p4a, p4b, p4c, -, -, -⟩ := row3 HRN6.out
    rw [HU6.out] at p0a p0b p0c p1a p1b p1c p2a p2b p2c p3a p3b p3c p4a p4b p4c
    go_wp2_with fail
    go_loopw [12] (fun i wr => ∃ k : Nat, k ≤ vn4 ∧ i = .int .i64 k ∧ wr = w6.alloc (.cells #[.bool Z2.list, .bool false, .slice va6 vn6 vc6] 24)) (fun i _ => vn4 - (intOf i).toNat)
    case atStart => exact ⟨0, Nat.zero_le _, rfl, rfl⟩
    case round =>
      obtain ⟨k, hk, rfl, rfl⟩ := hrel
      by_cases hlt : k < vn4
      · obtain ⟨g, o, c1, hv, hg, hcs⟩ := HCC.out (by omega)
        obtain rfl : va4 = some ⟨g, o, none⟩ := by injection hv
        have hkl : k < Z1.n.length := by rw [← HN4.out]; exact hlt
        have hx := hcs k _ (List.getElem?_eq_getElem hkl)
        rw [HONE.out _ (List.getElem_mem hkl)] at hx
        have hz : (0 : Int) ≤ (k : Int) := Int.natCast_nonneg _
        have hzn : (k : Int) < (vn4 : Int) := by omega
        clear hcs hkl hv hg
        go_wp2_with fail
        go_roundw
        case rel => exact ⟨k + 1, by omega, by go_num, (by first | trivial | rfl)⟩
        case measure => simp [intOf]; omega
      · obtain rfl : k = vn4 := by omega
        go_wp2_with fail
        refine HS.out.mono ?_
        rintro e w9 ⟨rfl, hb⟩
        rw [← HU6.out] at hb
        have HBF := Lib.hid (HB_6.out.trans (hb.mono HB_6.out.size))
        clear hb
        go_wp2_with fail
        go_ret
        exact ⟨by simp [sameA], HBF.out⟩
  · subst h0
    subst h1
    have hr := HR.out u6 _ HK0_6.out
    rw [h2] at hr
    rw [HU6.out] at hr
    have HRR := Lib.hid hr
    clear hr h2
    obtain ⟨p0a, p0b, p0c, -, -, -⟩ := row3 HR0_6.out
    obtain ⟨p1a, p1b, p1c, -, -, -⟩ := row3 HR1_6.out
    obtain ⟨p2a, p2b, p2c, -, -, -⟩ := row3 HR2_6.out
    obtain ⟨p3a, p3b, p3c, -, -, -⟩ := row3 HR3_6.out
    obtain ⟨p4a, p4b, p4c, -, -, -⟩ := row3 HRN6.out
    rw [HU6.out] at p0a p0b p0c p1a p1b p1c p2a p2b p2c p3a p3b p3c p4a p4b p4c
    go_wp2_with fail
    refine HRR.out.mono ?_
    rintro e w9 ⟨rfl, hb⟩
    rw [← HU6.out] at hb
    have HBF := Lib.hid (HB_6.out.trans (hb.mono HB_6.out.size))
    clear hb
    go_wp2_with fail
    go_ret
    exact ⟨rfl, HBF.out⟩
end Go.Proofs.YthlkgfplffdiaaaGreatDoor.Ar
