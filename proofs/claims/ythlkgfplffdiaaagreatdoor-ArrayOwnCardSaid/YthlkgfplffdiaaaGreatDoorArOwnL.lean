/- The statement ArrayOwn. -/
import Derived.Test.YthlkgfplffdiaaaGreatDoorArFact
import Derived.Test.YthlkgfplffdiaaaGreatDoorArEq
import Derived.Test.YthlkgfplffdiaaaGreatDoorArApp
namespace Go.Proofs.YthlkgfplffdiaaaGreatDoor.Ar
open Go Go.RowKit Go.Shelf
attribute [local go_sem] Oper.semAt_some

theorem row_ne {W : World} {k g : Nat} {t t' : TypeId} {cs cs' : Array Value} (h : Row W k t cs) (h' : Row W g t' cs') (hne : t ≠ t') : k ≠ g := fun e => by
  subst e
  have h1 : W.heap[k]? = _ := h
  have h2 : W.heap[k]? = _ := h'
  rw [h1] at h2
  cases h2
  exact hne rfl

set_option maxRecDepth 100000 in
set_option maxHeartbeats 16000000 in
theorem own_true (w : World) (hG : AG w) (a b : Ary) (s t : Value) (hs : KL w s a.n) (ht : KL w t b.n) (hi : InL a.n) (hj : InL b.n) : Calls Tryz.prog 6 #[aryV a s, aryV b t] w fun e w' => e = .returned (.bool true) ∧ Below w.heap.size w w' := by
  obtain ⟨aL, aR, aN⟩ := a
  obtain ⟨bL, bR, bN⟩ := b
  obtain ⟨sa, sc, rfl, -, -⟩ := hs.form
  obtain ⟨ta, tc, rfl, -, -⟩ := ht.form
  dsimp only [aryV] at *
  obtain ⟨an, han⟩ : ∃ n, n = aN.length := ⟨_, rfl⟩
  obtain ⟨bn, hbn⟩ : ∃ n, n = bN.length := ⟨_, rfl⟩
  have hF1 : ∀ W, Below w.heap.size w W → Calls Tryz.prog 9 #[.agg #[.bool aL, .bool aR, .slice sa an sc]] W fun e w' => ∃ xa xn xc, e = .returned (.agg #[.bool aL, .bool aR, .slice xa xn xc]) ∧ KL w' (.slice xa xn xc) (aN.take 202) ∧ Below W.heap.size W w' := fun W hW => by
    rw [han]
    refine (few_c ⟨aL, aR, aN⟩ _ W (hs.below hW)).mono ?_
    rintro e w' ⟨x, rfl, hk, hb⟩
    obtain ⟨xa, xc, rfl, -, -⟩ := hk.form
    exact ⟨_, _, _, rfl, hk, hb⟩
  have hF2 : ∀ W, Below w.heap.size w W → Calls Tryz.prog 9 #[.agg #[.bool bL, .bool bR, .slice ta bn tc]] W fun e w' => ∃ xa xn xc, e = .returned (.agg #[.bool bL, .bool bR, .slice xa xn xc]) ∧ KL w' (.slice xa xn xc) (bN.take 202) ∧ Below W.heap.size W w' := fun W hW => by
    rw [hbn]
    refine (few_c ⟨bL, bR, bN⟩ _ W (ht.below hW)).mono ?_
    rintro e w' ⟨x, rfl, hk, hb⟩
    obtain ⟨xa, xc, rfl, -, -⟩ := hk.form
    exact ⟨_, _, _, rfl, hk, hb⟩
  rw [← han, ← hbn]
  have HF1 := Lib.hid hF1
  have HF2 := Lib.hid hF2
  obtain ⟨X, hX⟩ : ∃ X, X = aN.take 202 := ⟨_, rfl⟩
  obtain ⟨Y, hY⟩ : ∃ X, X = bN.take 202 := ⟨_, rfl⟩
  rw [← hX] at HF1
  rw [← hY] at HF2
  have hx2 : X.length ≤ 202 := by rw [hX, List.length_take]; omega
  have hy2 : Y.length ≤ 202 := by rw [hY, List.length_take]; omega
  have HIX : Hid (InL X) := Lib.hid (by rw [hX]; exact fun x hx => hi x (List.mem_of_mem_take hx))
  have HIY : Hid (InL Y) := Lib.hid (by rw [hY]; exact fun x hx => hj x (List.mem_of_mem_take hx))
  have HX2 := Lib.hid hx2
  have HY2 := Lib.hid hy2
  -- what is told of them
  obtain ⟨er1, hc1⟩ : ∃ c, c = monE ⟨#[43]⟩ ⟨aL, aR, X⟩ := ⟨_, rfl⟩
  obtain ⟨Z1, hZ1⟩ : ∃ c, c = monZ ⟨#[43]⟩ ⟨aL, aR, X⟩ := ⟨_, rfl⟩
  obtain ⟨er2, hc2⟩ : ∃ c, c = dyE ⟨#[226, 140, 136]⟩ ⟨aL, aR, X⟩ ⟨bL, bR, Y⟩ := ⟨_, rfl⟩
  obtain ⟨Z2, hZ2⟩ : ∃ c, c = dyZ ⟨#[226, 140, 136]⟩ ⟨aL, aR, X⟩ ⟨bL, bR, Y⟩ := ⟨_, rfl⟩
  have HD1 := Lib.hid (fun W s h hG => monz_c ⟨#[43]⟩ ⟨aL, aR, X⟩ s W h HIX.out hG)
  have HD2 := Lib.hid (fun W s t h k hG => dyz_c ⟨#[226, 140, 136]⟩ ⟨aL, aR, X⟩ ⟨bL, bR, Y⟩ s t W h k HIX.out HIY.out hG)
  rw [← hc1, ← hZ1] at HD1
  rw [← hc2, ← hZ2] at HD2
  have hp1 : (er1 = 0 ∨ (er1 ≠ 0 ∧ Z1.n.length = 0)) ∧ Z1.n.length ≤ 202 := by
    by_cases h : er1 = 0
    · refine ⟨.inl h, ?_⟩
      rw [hc1] at h
      rw [hZ1, (monZ_right h).2.1]
      exact HX2.out
    · rw [hc1] at h
      rw [hZ1, monZ_bad h, hc1]
      exact ⟨.inr ⟨h, rfl⟩, by decide⟩
  have hp2 : (er2 = 0 ∨ (er2 ≠ 0 ∧ Z2.n.length = 0)) ∧ Z2.n.length ≤ 202 := by
    by_cases h : er2 = 0
    · refine ⟨.inl h, ?_⟩
      rw [hc2] at h
      rw [hZ2, (dyZ_right h).2.1]
      obtain ⟨h1, h2, -⟩ := dyE_ok h
      exact Nat.le_trans (lenP_le h1 h2) (by decide)
    · rw [hc2] at h
      rw [hZ2, dyZ_bad h, hc2]
      exact ⟨.inr ⟨h, rfl⟩, by decide⟩
  have HP1 := Lib.hid hp1
  have HP2 := Lib.hid hp2
  clear hc1 hZ1 hc2 hZ2 hp1 hp2
  clear hF1 hF2 hs ht hi hj hX hY han hbn hx2 hy2
  -- the boxes
  obtain ⟨u0, hu0⟩ : ∃ u0, u0 = (w.alloc (.cells #[.bool aL, .bool aR, .slice sa an sc] 24)).alloc (.cells #[.bool bL, .bool bR, .slice ta bn tc] 24) := ⟨_, rfl⟩
  have hb0 : Below w.heap.size w u0 := by rw [hu0]; exact ((Below.refl _ w).alloc (Nat.le_refl _) _).alloc (by simp) _
  have HB0 := Lib.hid hb0
  have HRA0 : Hid (Row u0 w.heap.size 24 #[.bool aL, .bool aR, .slice sa an sc]) := Lib.hid (by rw [hu0]; exact (Row.new _ _ _).alloc _)
  have HRB0 : Hid (Row u0 (w.heap.size + 1) 24 #[.bool bL, .bool bR, .slice ta bn tc]) := Lib.hid (by rw [hu0]; exact Row.at _ _ _ _ (by simp))
  have HG := Lib.hid hG
  have hsh := shown11_c u0 (hG.below hb0)
  rw [hu0] at hsh
  have HSH := Lib.hid hsh
  have HU0 := Lib.hid hu0
  clear hb0 hsh hu0 hG
  go_enter Tryz.func6, Tryz.ntmps6
  go_wp2_with fail
  refine HSH.out.mono ?_
  rintro e w1 ⟨rfl, hb⟩
  rw [← HU0.out] at hb
  have HB1 := Lib.hid (HB0.out.trans (hb.mono HB0.out.size))
  have HRA1 := Lib.hid (HRA0.out.below hb HRA0.out.lt)
  have HRB1 := Lib.hid (HRB0.out.below hb HRB0.out.lt)
  clear hb HU0
  obtain ⟨c0, c1, c2, -, -, -⟩ := row3 HRA1.out
  have HC := Lib.hid (HF1.out w1 HB1.out)
  go_wp2_with fail
  refine HC.out.mono ?_
  rintro e w2 ⟨xa, xn, xc, rfl, hk, hb⟩
  have hnx : xn = X.length := by obtain ⟨_, _, e, _, _⟩ := hk.form; injection e
  -- the first's box is written
  have ra2 := HRA1.out.below hb HRA1.out.lt
  have rb2 := HRB1.out.below hb HRB1.out.lt
  have hb2 := HB1.out.trans (hb.mono HB1.out.size)
  obtain ⟨u2, hu2⟩ : ∃ u2, u2 = ((w2.setCell ⟨w.heap.size, 0, none⟩ (.bool aL)).setCell ⟨w.heap.size, 1, none⟩ (.bool aR)).setCell ⟨w.heap.size, 2, none⟩ (.slice xa xn xc) := ⟨_, rfl⟩
  have HBU2 : Hid (Below w.heap.size w u2) := Lib.hid (by rw [hu2]; exact ((hb2.setCell (p := ⟨w.heap.size, 0, none⟩) (Nat.le_refl _) _).setCell (p := ⟨w.heap.size, 1, none⟩) (Nat.le_refl _) _).setCell (p := ⟨w.heap.size, 2, none⟩) (Nat.le_refl _) _)
  have HRA2 : Hid (Row u2 w.heap.size 24 #[.bool aL, .bool aR, .slice xa xn xc]) := Lib.hid (by rw [hu2]; exact row_set3 ra2 _ _ _)
  have HRB2 : Hid (Row u2 (w.heap.size + 1) 24 #[.bool bL, .bool bR, .slice ta bn tc]) := Lib.hid (by rw [hu2]; exact ((rb2.other (by omega) _).other (by omega) _).other (by omega) _)
  have HKX2 : Hid (KL u2 (.slice xa xn xc) X) := Lib.hid (by rw [hu2]; exact kl_set3 hk ra2 _ _ _)
  clear c0 c1 c2
  obtain ⟨c0, c1, c2, f0, f1, f2⟩ := row3 ra2
  obtain ⟨d0, d1, d2, -, -, -⟩ := row3 HRB2.out
  rw [hu2] at d0 d1 d2
  have hc := HF2.out u2 HBU2.out
  rw [hu2] at hc
  have HC := Lib.hid hc
  have HU2 := Lib.hid hu2
  have HNX := Lib.hid hnx
  clear ra2 rb2 hb2 hk hb hu2 hc hnx
  go_wp2_with fail
  refine HC.out.mono ?_
  rintro e w3 ⟨ya, yn, yc, rfl, hk, hb⟩
  rw [← HU2.out] at hb
  have hny : yn = Y.length := by obtain ⟨_, _, e, _, _⟩ := hk.form; injection e
  have ra2 := HRA2.out.below hb HRA2.out.lt
  have rb2 := HRB2.out.below hb HRB2.out.lt
  have hb2 := HBU2.out.trans (hb.mono HBU2.out.size)
  have hkx := HKX2.out.below hb
  obtain ⟨u3, hu3⟩ : ∃ u3, u3 = ((w3.setCell ⟨w.heap.size + 1, 0, none⟩ (.bool bL)).setCell ⟨w.heap.size + 1, 1, none⟩ (.bool bR)).setCell ⟨w.heap.size + 1, 2, none⟩ (.slice ya yn yc) := ⟨_, rfl⟩
  have HB3 : Hid (Below w.heap.size w u3) := Lib.hid (by rw [hu3]; exact ((hb2.setCell (p := ⟨w.heap.size + 1, 0, none⟩) (Nat.le_succ _) _).setCell (p := ⟨w.heap.size + 1, 1, none⟩) (Nat.le_succ _) _).setCell (p := ⟨w.heap.size + 1, 2, none⟩) (Nat.le_succ _) _)
  have HRA3 : Hid (Row u3 w.heap.size 24 #[.bool aL, .bool aR, .slice xa xn xc]) := Lib.hid (by rw [hu3]; exact ((ra2.other (by omega) _).other (by omega) _).other (by omega) _)
  have HRB3 : Hid (Row u3 (w.heap.size + 1) 24 #[.bool bL, .bool bR, .slice ya yn yc]) := Lib.hid (by rw [hu3]; exact row_set3 rb2 _ _ _)
  have HKX3 : Hid (KL u3 (.slice xa xn xc) X) := Lib.hid (by rw [hu3]; exact kl_set3 hkx rb2 _ _ _)
  have HKY3 : Hid (KL u3 (.slice ya yn yc) Y) := Lib.hid (by rw [hu3]; exact kl_set3 hk rb2 _ _ _)
  have HG3 := Lib.hid (HG.out.below HB3.out)
  have HNY := Lib.hid hny
  have HU3 := Lib.hid hu3
  clear c0 c1 c2 f0 f1 f2 d0 d1 d2
  obtain ⟨e0, e1, e2, g0, g1, g2⟩ := row3 rb2
  obtain ⟨c0, c1, c2, -, -, -⟩ := row3 HRA3.out
  obtain ⟨d0, d1, d2, -, -, -⟩ := row3 HRB3.out
  rw [HU3.out] at c0 c1 c2 d0 d1 d2
  clear ra2 rb2 hb2 hkx hk hb hny hu3
  obtain ⟨p0a, p0b, p0c, -, -, -⟩ := row3 HRA3.out
  obtain ⟨p1a, p1b, p1c, -, -, -⟩ := row3 HRB3.out
  rw [HU3.out] at p0a p0b p0c p1a p1b p1c
  go_wp2_with (first | (at_builtin; rw [← HU3.out]; refine wpList_append_kl rfl (.tmp 19) (.tmp 21) rfl u3.heap.size (.slice none 0 0) (.slice xa xn xc) [] X rfl rfl (IOwn.nil _ _) HKX3.out (by have := HX2.out; simp only [List.length_nil]; omega) (Nat.le_refl _) ?_; intro v' w4 ho hg; have hb := (Below.refl u3.heap.size u3).grown hg (Nat.le_refl _) (fun k e => by cases e); obtain ⟨pa, pn, pc, rfl⟩ : ∃ pa pn pc, v' = .slice pa pn pc := (by obtain ⟨_, _, h, _, _⟩ := ho.form; exact ⟨_, _, _, h⟩); have HKA4 := Lib.hid ho.kl; clear ho hg; have HR0_4 := Lib.hid (Row.below HRA3.out hb (Row.lt HRA3.out)); have HR1_4 := Lib.hid (Row.below HRB3.out hb (Row.lt HRB3.out)); have HK0_4 := Lib.hid (HKX3.out.below hb); have HK1_4 := Lib.hid (HKY3.out.below hb); have HB_4 := Lib.hid (HB3.out.trans (hb.mono HB3.out.size)); have HG_4 := Lib.hid (HG.out.below HB_4.out); clear hb; clear p0a p0b p0c p1a p1b p1c; obtain ⟨p0a, p0b, p0c, -, -, -⟩ := row3 HR0_4.out; obtain ⟨p1a, p1b, p1c, -, -, -⟩ := row3 HR1_4.out) | (at_builtin; refine wpList_append_kl rfl (.tmp 23) (.tmp 25) rfl w4.heap.size (.slice none 0 0) (.slice ya yn yc) [] Y rfl rfl (IOwn.nil _ _) HK1_4.out (by have := HY2.out; simp only [List.length_nil]; omega) (Nat.le_refl _) ?_; intro v' w5 ho hg; have hb := (Below.refl w4.heap.size w4).grown hg (Nat.le_refl _) (fun k e => by cases e); obtain ⟨qa, qn, qc, rfl⟩ : ∃ pa pn pc, v' = .slice pa pn pc := (by obtain ⟨_, _, h, _, _⟩ := ho.form; exact ⟨_, _, _, h⟩); have HKA5 := Lib.hid ho.kl; clear ho hg; have HR0_5 := Lib.hid (Row.below HR0_4.out hb (Row.lt HR0_4.out)); have HR1_5 := Lib.hid (Row.below HR1_4.out hb (Row.lt HR1_4.out)); have HK0_5 := Lib.hid (HK0_4.out.below hb); have HK1_5 := Lib.hid (HK1_4.out.below hb); have HK2_5 := Lib.hid (HKA4.out.below hb); have HB_5 := Lib.hid (HB_4.out.trans (hb.mono HB_4.out.size)); have HG_5 := Lib.hid (HG.out.below HB_5.out); clear hb; clear p0a p0b p0c p1a p1b p1c; obtain ⟨p0a, p0b, p0c, -, -, -⟩ := row3 HR0_5.out; obtain ⟨p1a, p1b, p1c, -, -, -⟩ := row3 HR1_5.out))
  have hc := HD1.out w5 _ HK0_5.out HG_5.out.ng
  have HC := Lib.hid hc
  clear hc
  clear p0a p0b p0c p1a p1b p1c
  obtain ⟨p0a, p0b, p0c, -, -, -⟩ := row3 HR0_5.out
  obtain ⟨p1a, p1b, p1c, -, -, -⟩ := row3 HR1_5.out
  skip
  refine HC.out.mono ?_
  rintro e w6 ⟨va, vn, vc, rfl, hown, hb⟩
  clear p0a p0b p0c p1a p1b p1c
  obtain ⟨va6, hva⟩ : ∃ x, x = va := ⟨_, rfl⟩
  obtain ⟨vn6, hvn⟩ : ∃ x, x = vn := ⟨_, rfl⟩
  obtain ⟨vc6, hvc⟩ : ∃ x, x = vc := ⟨_, rfl⟩
  rw [← hva, ← hvn, ← hvc] at hown ⊢
  clear hva hvn hvc va vn vc
  have HN6 : Hid (vn6 = (Z1).n.length) := Lib.hid (by obtain ⟨_, _, e, _, _⟩ := hown.form; injection e)
  obtain ⟨u6, hu6⟩ : ∃ u, u = w6.alloc (.cells #[.bool (Z1).list, .bool false, .slice va6 vn6 vc6] 24) := ⟨_, rfl⟩
  have hbu : Below w6.heap.size w6 u6 := by rw [hu6]; exact (Below.refl _ _).alloc (Nat.le_refl _) _
  have hbb : Below w5.heap.size w5 u6 := hb.trans (hbu.mono hb.size)
  have HBW6 := Lib.hid hbb
  have HRN6 : Hid (Row u6 w6.heap.size 24 #[.bool (Z1).list, .bool false, .slice va6 vn6 vc6]) := Lib.hid (by rw [hu6]; exact Row.new _ _ _)
  have HKN6 := Lib.hid (hown.kl.below hbu)
  have HON6 := Lib.hid (hown.below hbu)
  have HU6 := Lib.hid hu6
  have HR0_6 := Lib.hid (Row.below HR0_5.out hbb (Row.lt HR0_5.out))
  have HR1_6 := Lib.hid (Row.below HR1_5.out hbb (Row.lt HR1_5.out))
  have HK0_6 := Lib.hid (HK0_5.out.below hbb)
  have HK1_6 := Lib.hid (HK1_5.out.below hbb)
  have HK2_6 := Lib.hid (HK2_5.out.below hbb)
  have HK3_6 := Lib.hid (HKA5.out.below hbb)
  have HB_6 := Lib.hid (HB_5.out.trans (hbb.mono HB_5.out.size))
  have HG_6 := Lib.hid (HG.out.below HB_6.out)
  have HSZ6 : Hid (w5.heap.size ≤ w6.heap.size) := Lib.hid hb.size
  clear hown hb hu6 hbu hbb
  have hc := HD2.out u6 _ _ HK0_6.out HK1_6.out HG_6.out.ng
  rw [HU6.out] at hc
  have HC := Lib.hid hc
  clear hc
  obtain ⟨p0a, p0b, p0c, -, -, -⟩ := row3 HR0_6.out
  obtain ⟨p1a, p1b, p1c, -, -, -⟩ := row3 HR1_6.out
  obtain ⟨p2a, p2b, p2c, -, -, -⟩ := row3 HRN6.out
  rw [HU6.out] at p0a p0b p0c p1a p1b p1c p2a p2b p2c
  go_wp2_with fail
  refine HC.out.mono ?_
  rintro e w7 ⟨va, vn, vc, rfl, hown, hb⟩
  clear p0a p0b p0c p1a p1b p1c p2a p2b p2c
  obtain ⟨va7, hva⟩ : ∃ x, x = va := ⟨_, rfl⟩
  obtain ⟨vn7, hvn⟩ : ∃ x, x = vn := ⟨_, rfl⟩
  obtain ⟨vc7, hvc⟩ : ∃ x, x = vc := ⟨_, rfl⟩
  rw [← hva, ← hvn, ← hvc] at hown ⊢
  clear hva hvn hvc va vn vc
  rw [← HU6.out] at hown hb
  have HN7 : Hid (vn7 = (Z2).n.length) := Lib.hid (by obtain ⟨_, _, e, _, _⟩ := hown.form; injection e)
  obtain ⟨u7, hu7⟩ : ∃ u, u = w7.alloc (.cells #[.bool (Z2).list, .bool false, .slice va7 vn7 vc7] 24) := ⟨_, rfl⟩
  have hbu : Below w7.heap.size w7 u7 := by rw [hu7]; exact (Below.refl _ _).alloc (Nat.le_refl _) _
  have hbb : Below u6.heap.size u6 u7 := hb.trans (hbu.mono hb.size)
  have HBW7 := Lib.hid hbb
  have HRN7 : Hid (Row u7 w7.heap.size 24 #[.bool (Z2).list, .bool false, .slice va7 vn7 vc7]) := Lib.hid (by rw [hu7]; exact Row.new _ _ _)
  have HKN7 := Lib.hid (hown.kl.below hbu)
  have HON7 := Lib.hid (hown.below hbu)
  have HU7 := Lib.hid hu7
  have HR0_7 := Lib.hid (Row.below HR0_6.out hbb (Row.lt HR0_6.out))
  have HR1_7 := Lib.hid (Row.below HR1_6.out hbb (Row.lt HR1_6.out))
  have HR2_7 := Lib.hid (Row.below HRN6.out hbb (Row.lt HRN6.out))
  have HK0_7 := Lib.hid (HK0_6.out.below hbb)
  have HK1_7 := Lib.hid (HK1_6.out.below hbb)
  have HK2_7 := Lib.hid (HK2_6.out.below hbb)
  have HK3_7 := Lib.hid (HK3_6.out.below hbb)
  have HK4_7 := Lib.hid (HKN6.out.below hbb)
  have HB_7 := Lib.hid (HB_6.out.trans (hbb.mono HB_6.out.size))
  have HG_7 := Lib.hid (HG.out.below HB_7.out)
  have HSZ7 : Hid (u6.heap.size ≤ w7.heap.size) := Lib.hid hb.size
  clear hown hb hu7 hbu hbb
  have hN1 : vn6 ≤ 1000000 := by rw [HN6.out]; exact Nat.le_trans HP1.out.2 (by decide)
  have hN2 : vn7 ≤ 1000000 := by rw [HN7.out]; exact Nat.le_trans HP2.out.2 (by decide)
  have hC1 : OwnC u6 w5.heap.size vn6 (.slice va6 vn6 vc6) := by have h := HON6.out.ownc (by rw [← HN6.out]; exact hN1); rw [← HN6.out] at h; exact h
  have hC2 : OwnC u7 u6.heap.size vn7 (.slice va7 vn7 vc7) := by have h := HON7.out.ownc (by rw [← HN7.out]; exact hN2); rw [← HN7.out] at h; exact h
  have hG1 : ∀ g, (Value.slice va6 vn6 vc6).ownBlock = some g → g < u6.heap.size := fun g e => (own_base HON6.out e).2
  have h12 : Below u6.heap.size u6 u7 := HBW7.out
  have HC1 := Lib.hid hC1
  have HC2 := Lib.hid hC2
  have HG1 := Lib.hid hG1
  have HH := Lib.hid h12
  have HN1 := Lib.hid hN1
  have HN2 := Lib.hid hN2
  clear hC1 hC2 hG1 h12 hN1 hN2
  obtain ⟨p0a, p0b, p0c, -, -, -⟩ := row3 HR0_7.out
  obtain ⟨p1a, p1b, p1c, -, -, -⟩ := row3 HR1_7.out
  obtain ⟨p2a, p2b, p2c, -, -, -⟩ := row3 HR2_7.out
  obtain ⟨p3a, p3b, p3c, -, -, -⟩ := row3 HRN7.out
  rw [HU7.out] at p0a p0b p0c p1a p1b p1c p2a p2b p2c p3a p3b p3c
  go_wp2_with fail
  rw [← HU7.out]
  clear p0a p0b p0c p1a p1b p1c p2a p2b p2c p3a p3b p3c
  go_loopw [12] (fun i wr => ∃ k : Nat, k ≤ vn6 ∧ i = .int .i64 k ∧ Below w5.heap.size w5 wr ∧ u7.heap.size ≤ wr.heap.size ∧ Row wr w.heap.size 24 #[.bool aL, .bool aR, .slice xa xn xc] ∧ Row wr (w.heap.size + 1) 24 #[.bool bL, .bool bR, .slice ya yn yc] ∧ Row wr w6.heap.size 24 #[.bool Z1.list, .bool false, .slice va6 vn6 vc6] ∧ Row wr w7.heap.size 24 #[.bool Z2.list, .bool false, .slice va7 vn7 vc7] ∧ OwnC wr w5.heap.size vn6 (.slice va6 vn6 vc6) ∧ OwnC wr u6.heap.size vn7 (.slice va7 vn7 vc7)) (fun i _ => vn6 - (intOf i).toNat)
  case atStart => exact ⟨0, Nat.zero_le _, rfl, HBW6.out.trans (HH.out.mono HBW6.out.size), Nat.le_refl _, HR0_7.out, HR1_7.out, HR2_7.out, HRN7.out, HC1.out.below HH.out, HC2.out⟩
  case round =>
    obtain ⟨k, hk, rfl, hB, hsz, r0, r1, r2, r3, hC, hD⟩ := hrel
    have hN1 := HN1.out
    have HB := Lib.hid hB
    have HSZ := Lib.hid hsz
    have HR0 := Lib.hid r0
    have HR1 := Lib.hid r1
    have HR2 := Lib.hid r2
    have HR3 := Lib.hid r3
    have HD := Lib.hid hD
    by_cases hlt : k < vn6
    · rcases hC with hC | ⟨g, c, cur, hv, hbg, hrg, hcs, hcn⟩
      · omega
      obtain rfl : va6 = some ⟨g, 0, none⟩ := by injection hv
      clear hv
      have hgu := HG1.out g rfl
      have HG := Lib.hid (And.intro hbg (And.intro hrg (And.intro hcs (And.intro hcn hgu))))
      obtain ⟨y, hy⟩ : ∃ y, cur[k]? = some y := ⟨_, Array.getElem?_eq_getElem (by omega)⟩
      have hx := (hrg.cell k).trans hy
      have hf := hrg.frozen k
      obtain ⟨c0, c1, c2, -, -, -⟩ := row3 r2
      have hz : (0 : Int) ≤ (k : Int) := Int.natCast_nonneg _
      have hzn : (k : Int) < (vn6 : Int) := by omega
      clear hB hsz r0 r1 r2 r3 hD hbg hrg hcs hcn hgu hy
      go_wp2
      go_roundw
      case rel =>
        obtain ⟨hbg, hrg, hcs, hcn, hgu⟩ := HG.out
        exact ⟨k + 1, by omega, by go_num, HB.out.setCell (p := ⟨g, k, none⟩) hbg _, by simpa using HSZ.out, HR0.out.other (row_ne HR0.out hrg (by decide)) _, HR1.out.other (row_ne HR1.out hrg (by decide)) _, HR2.out.other (row_ne HR2.out hrg (by decide)) _, HR3.out.other (row_ne HR3.out hrg (by decide)) _, OwnC.put hrg hbg hcs hcn k _, HD.out.other hgu⟩
      case measure => simp [intOf]; omega
    · obtain rfl : vn6 = k := by omega
      obtain ⟨wo, hwo⟩ : ∃ W, W = wr := ⟨_, rfl⟩
      obtain ⟨c0, c1, c2, -, -, -⟩ := row3 r2
      clear hB hsz r0 r1 r3 hC hD
      go_wp2_with fail
      clear c0 c1 c2 r2
      go_loopw [13] (fun i wr => ∃ k : Nat, k ≤ vn7 ∧ i = .int .i64 k ∧ Below w5.heap.size w5 wr ∧ u7.heap.size ≤ wr.heap.size ∧ Row wr w.heap.size 24 #[.bool aL, .bool aR, .slice xa xn xc] ∧ Row wr (w.heap.size + 1) 24 #[.bool bL, .bool bR, .slice ya yn yc] ∧ Row wr w6.heap.size 24 #[.bool Z1.list, .bool false, .slice va6 vn6 vc6] ∧ Row wr w7.heap.size 24 #[.bool Z2.list, .bool false, .slice va7 vn7 vc7] ∧ OwnC wr u6.heap.size vn7 (.slice va7 vn7 vc7)) (fun i _ => vn7 - (intOf i).toNat)
      case atStart => exact ⟨0, Nat.zero_le _, rfl, HB.out, HSZ.out, HR0.out, HR1.out, HR2.out, HR3.out, HD.out⟩
      case round =>
        clear HB HSZ HR0 HR1 HR2 HR3 HD hwo hk
        obtain ⟨k, hk, rfl, hB, hsz, r0, r1, r2, r3, hD⟩ := hrel
        have hN2 := HN2.out
        have HB := Lib.hid hB
        have HSZ := Lib.hid hsz
        have HR0 := Lib.hid r0
        have HR1 := Lib.hid r1
        have HR2 := Lib.hid r2
        have HR3 := Lib.hid r3
        by_cases hlt : k < vn7
        · rcases hD with hC | ⟨g, c, cur, hv, hbg, hrg, hcs, hcn⟩
          · omega
          obtain rfl : va7 = some ⟨g, 0, none⟩ := by injection hv
          clear hv
          have HG := Lib.hid (And.intro hbg (And.intro hrg (And.intro hcs hcn)))
          obtain ⟨y, hy⟩ : ∃ y, cur[k]? = some y := ⟨_, Array.getElem?_eq_getElem (by omega)⟩
          have hx := (hrg.cell k).trans hy
          have hf := hrg.frozen k
          obtain ⟨c0, c1, c2, -, -, -⟩ := row3 r3
          have hz : (0 : Int) ≤ (k : Int) := Int.natCast_nonneg _
          have hzn : (k : Int) < (vn7 : Int) := by omega
          clear hB hsz r0 r1 r2 r3 hbg hrg hcs hcn hy
          go_wp2
          go_roundw
          case rel =>
            obtain ⟨hbg, hrg, hcs, hcn⟩ := HG.out
            exact ⟨k + 1, by omega, by go_num, HB.out.setCell (p := ⟨g, k, none⟩) (Nat.le_trans HBW6.out.size hbg) _, by simpa using HSZ.out, HR0.out.other (row_ne HR0.out hrg (by decide)) _, HR1.out.other (row_ne HR1.out hrg (by decide)) _, HR2.out.other (row_ne HR2.out hrg (by decide)) _, HR3.out.other (row_ne HR3.out hrg (by decide)) _, OwnC.put hrg hbg hcs hcn k _⟩
          case measure => simp [intOf]; omega
        · obtain rfl : vn7 = k := by omega
          have HKF0 := Lib.hid (HK0_5.out.below hB)
          have HKF1 := Lib.hid (HK1_5.out.below hB)
          have HKF2 := Lib.hid (HK2_5.out.below hB)
          have HKF3 := Lib.hid (HKA5.out.below hB)
          have HBF := Lib.hid (HB_5.out.trans (hB.mono HB_5.out.size))
          obtain ⟨wo, hwo⟩ : ∃ W, W = wr := ⟨_, rfl⟩
          clear hB hsz r0 r1 r2 r3 hD
          have hn := nums_c (.slice xa xn xc) (.slice pa pn pc) X ([] ++ X) wr HKF0.out HKF2.out
          rw [decide_eq_true (show X = [] ++ X from rfl)] at hn
          have HNN := Lib.hid hn
          clear hn
          obtain ⟨c0, c1, c2, -, -, -⟩ := row3 HR0.out
          obtain ⟨d0, d1, d2, -, -, -⟩ := row3 HR3.out
          obtain ⟨e0, e1, e2, -, -, -⟩ := row3 HR2.out
          go_wp2_with fail
          refine HNN.out.mono ?_
          rintro e wa ⟨rfl, hb⟩
          clear c0 c1 c2 d0 d1 d2 e0 e1 e2
          have hn := nums_c (.slice ya yn yc) (.slice qa qn qc) Y ([] ++ Y) wa (HKF1.out.below hb) (HKF3.out.below hb)
          rw [decide_eq_true (show Y = [] ++ Y from rfl)] at hn
          have HNN := Lib.hid hn
          clear hn
          have HS0 := Lib.hid (Row.below HR0.out hb (Row.lt HR0.out))
          have HS1 := Lib.hid (Row.below HR1.out hb (Row.lt HR1.out))
          have HS2 := Lib.hid (Row.below HR2.out hb (Row.lt HR2.out))
          have HS3 := Lib.hid (Row.below HR3.out hb (Row.lt HR3.out))
          have HBG := Lib.hid (HBF.out.trans (hb.mono HBF.out.size))
          clear hb
          obtain ⟨c0, c1, c2, -, -, -⟩ := row3 HS1.out
          go_wp2_with fail
          refine HNN.out.mono ?_
          rintro e wb ⟨rfl, hb⟩
          have HT0 := Lib.hid (Row.below HS0.out hb (Row.lt HS0.out))
          have HT1 := Lib.hid (Row.below HS1.out hb (Row.lt HS1.out))
          have HT2 := Lib.hid (Row.below HS2.out hb (Row.lt HS2.out))
          have HT3 := Lib.hid (Row.below HS3.out hb (Row.lt HS3.out))
          have HBH := Lib.hid (HBG.out.trans (hb.mono HBG.out.size))
          clear hb c0 c1 c2
          obtain ⟨d0, d1, d2, -, -, -⟩ := row3 HT2.out
          obtain ⟨e0, e1, e2, -, -, -⟩ := row3 HT3.out
          rcases HP1.out.1 with h1 | ⟨h1, h1z⟩
          · subst h1
            rcases HP2.out.1 with h2 | ⟨h2, h2z⟩
            · subst h2
              go_wp2_with fail
              go_ret
              exact ⟨rfl, HBH.out⟩
            · have t2 : (er2 == 0) = false := by simpa using h2
              have hv2 : vn7 = 0 := by rw [HN7.out, h2z]
              skip
              go_wp2_with fail
              go_ret
              exact ⟨rfl, HBH.out⟩
          · have t1 : (er1 == 0) = false := by simpa using h1
            have hv1 : vn6 = 0 := by rw [HN6.out, h1z]
            rcases HP2.out.1 with h2 | ⟨h2, h2z⟩
            · subst h2
              go_wp2_with fail
              go_ret
              exact ⟨rfl, HBH.out⟩
            · have t2 : (er2 == 0) = false := by simpa using h2
              have hv2 : vn7 = 0 := by rw [HN7.out, h2z]
              skip
              go_wp2_with fail
              go_ret
              exact ⟨rfl, HBH.out⟩
end Go.Proofs.YthlkgfplffdiaaaGreatDoor.Ar
