/- Glyphs' functions of two, through two arrays (by wip/gen/mkartwo.py). -/
import Derived.Test.YthlkgfplffdiaaaGreatDoorArOne
import Derived.Deep.RegionHeldLaw
namespace Go.Proofs.YthlkgfplffdiaaaGreatDoor.Ar
open Go Go.RowKit Go.Shelf
attribute [local go_sem] Oper.semAt_some

/-- What a glyph's function of two comes to. -/
def dyE (g : ByteArray) (a b : Ary) : Int := if rightA a && rightA b then (if decide (Nu.whichD g < 15) then (if differA a b then 110 else (if !takesA g && (hasR a || hasR b) then 102 else thrE (fnA g a b) (pairsA a b))) else 102) else 114
def dyL (g : ByteArray) (a b : Ary) : List Int := thrN (fnA g a b) (pairsA a b)
theorem fits_of {a b : Ary} (ha : rightA a = true) (hb : rightA b = true) (hd : differA a b = false) : Fits a b :=
  ⟨(right_cnt ha).2, (right_cnt hb).2, fun h1 h2 => by
    unfold differA at hd
    rw [h1, h2] at hd
    simpa using hd⟩
theorem row6 {W : World} {k : Nat} {t : TypeId} {a b c d e f : Value} (r : Row W k t #[a, b, c, d, e, f]) : W.cell? ⟨k, 0, none⟩ = some a ∧ W.cell? ⟨k, 1, none⟩ = some b ∧ W.cell? ⟨k, 2, none⟩ = some c ∧ W.cell? ⟨k, 3, none⟩ = some d ∧ W.cell? ⟨k, 4, none⟩ = some e ∧ W.cell? ⟨k, 5, none⟩ = some f := by
  have c0 := r.cell 0
  have c1 := r.cell 1
  have c2 := r.cell 2
  have c3 := r.cell 3
  have c4 := r.cell 4
  have c5 := r.cell 5
  simp at c0 c1 c2 c3 c4 c5
  exact ⟨c0, c1, c2, c3, c4, c5⟩
set_option maxRecDepth 100000 in
set_option maxHeartbeats 8000000 in
theorem ofTwo_c (g : ByteArray) (a b : Ary) (s t : Value) (w : World) (hs : KL w s a.n) (ht : KL w t b.n) (hi : InL a.n) (hj : InL b.n) (hG : Nu.NG w) : Calls Tryz.prog 26 #[.string g, aryV a s, aryV b t] w fun e w' => OutE (a.list || b.list) (dyL g a b) (dyE g a b) w e w' := by
  obtain ⟨c, hc⟩ : ∃ c, c = dyE g a b := ⟨_, rfl⟩
  obtain ⟨ns, hns⟩ : ∃ ns, ns = dyL g a b := ⟨_, rfl⟩
  have HNS := Lib.hid hns
  rw [← hc, ← hns]
  have HRT := Lib.hid (fun W h1 h2 => right_2 a b s t W h1 h2 hi hj)
  have HAR0 := Lib.hid (fun W h1 h2 => runes_2 a b s t W h1 h2 hi hj)
  have HID := Lib.hid (fun W => Nu.isDy_c g W)
  have HTK := Lib.hid (fun W => takesRunes_c g W)
  have HDF0 := Lib.hid (fun W h1 h2 => differ_c a b s t W h1 h2)
  obtain ⟨rt, hrt⟩ : ∃ rt, rt = (rightA a && rightA b) := ⟨_, rfl⟩
  obtain ⟨id, hid⟩ : ∃ id, id = decide (Nu.whichD g < 15) := ⟨_, rfl⟩
  obtain ⟨df, hdf⟩ : ∃ df, df = differA a b := ⟨_, rfl⟩
  obtain ⟨tk, htk⟩ : ∃ tk, tk = takesA g := ⟨_, rfl⟩
  obtain ⟨hr, hhr⟩ : ∃ hr, hr = (hasR a || hasR b) := ⟨_, rfl⟩
  have HTH0 : Hid (∀ W p, rt = true → df = false → KL W s a.n → KL W t b.n → Row W p 9 #[.string g] → Nu.NG W → Calls Tryz.prog 38 #[pairV a b s t, .func (.func (if a.runes = b.runes then 74 else 72)) #[] #[.pointer (some ⟨p, 0, none⟩)]] W fun e w' => ThrOut (fnA g a b) a b W e w') := Lib.hid (fun W p h hd hk1 hk2 hp hg => by
    rw [hrt, Bool.and_eq_true] at h
    exact through_c a b s t _ _ W hk1 hk2 hi hj (fits_of h.1 h.2 (hdf ▸ hd)) (lenP_le h.1 h.2) (fn_ok g a b p W hp hg))
  have HE : Hid (c = if rt then (if id then (if df then 110 else (if !tk && hr then 102 else thrE (fnA g a b) (pairsA a b))) else 102) else 114) := Lib.hid (by rw [hc, hrt, hid, hdf, htk, hhr]; rfl)
  rw [← hrt] at HRT
  rw [← hhr] at HAR0
  rw [← hid] at HID
  rw [← htk] at HTK
  rw [← hdf] at HDF0
  clear hrt hid hdf htk hhr hc hns
  obtain ⟨aL, aR, aN⟩ := a
  obtain ⟨bL, bR, bN⟩ := b
  have HFU0 := Lib.hid (fun sa ta sn tn sc tc W => function_c g ⟨aL, aR, aN⟩ ⟨bL, bR, bN⟩ sa ta sn tn sc tc W)
  dsimp only [aryV, pairV] at *
  obtain ⟨fk, hfk⟩ : ∃ fk, fk = (if aR = bR then 74 else 72) := ⟨_, rfl⟩
  rw [← hfk] at HFU0 HTH0
  obtain ⟨sa, sc, hsf, -, -⟩ := hs.form
  obtain ⟨sn, hsn⟩ : ∃ sn, sn = aN.length := ⟨_, rfl⟩
  rw [← hsn] at hsf
  subst hsf
  obtain ⟨ta, tc, htf, -, -⟩ := ht.form
  obtain ⟨tn, htn⟩ : ∃ tn, tn = bN.length := ⟨_, rfl⟩
  rw [← htn] at htf
  subst htf
  have HFU := Lib.hid (fun W => HFU0.out sa ta sn tn sc tc W)
  obtain ⟨w4, hw4⟩ : ∃ w4, w4 = (((w.alloc (.cells #[.bool aL, .bool aR, .slice sa sn sc] 24)).alloc (.cells #[.bool bL, .bool bR, .slice ta tn tc] 24)).alloc (.cells #[.bool false, .bool false, .slice none 0 0] 24)).alloc (.cells #[.bool aL, .bool aR, .slice sa sn sc, .bool bL, .bool bR, .slice ta tn tc] 57) := ⟨_, rfl⟩
  have hb4 : Below w.heap.size w w4 := by rw [hw4]; exact ((((Below.refl _ w).alloc (Nat.le_refl _) _).alloc (by simp) _).alloc (by simp; omega) _).alloc (by simp; omega) _
  have hs4 : w4.heap.size = w.heap.size + 1 + 1 + 1 + 1 := by rw [hw4]; simp
  have r0 : Row w4 (w.heap.size) 24 #[.bool aL, .bool aR, .slice sa sn sc] := by rw [hw4]; exact (((Row.new _ _ _).alloc _).alloc _).alloc _
  have r1 : Row w4 (w.heap.size + 1) 24 #[.bool bL, .bool bR, .slice ta tn tc] := by rw [hw4]; exact ((Row.at _ _ _ _ (by simp)).alloc _).alloc _
  have r2 : Row w4 (w.heap.size + 1 + 1) 24 #[.bool false, .bool false, .slice none 0 0] := by rw [hw4]; exact (Row.at _ _ _ _ (by simp)).alloc _
  have r3 : Row w4 (w.heap.size + 1 + 1 + 1) 57 #[.bool aL, .bool aR, .slice sa sn sc, .bool bL, .bool bR, .slice ta tn tc] := by rw [hw4]; exact Row.at _ _ _ _ (by simp)
  have HR : Hid (∀ W, Below (w.heap.size + 1 + 1 + 1 + 1) w4 W → (W.cell? ⟨w.heap.size, 0, none⟩ = some (.bool aL) ∧ W.cell? ⟨w.heap.size, 1, none⟩ = some (.bool aR) ∧ W.cell? ⟨w.heap.size, 2, none⟩ = some (.slice sa sn sc)) ∧ (W.cell? ⟨w.heap.size + 1, 0, none⟩ = some (.bool bL) ∧ W.cell? ⟨w.heap.size + 1, 1, none⟩ = some (.bool bR) ∧ W.cell? ⟨w.heap.size + 1, 2, none⟩ = some (.slice ta tn tc)) ∧ (W.cell? ⟨w.heap.size + 1 + 1 + 1, 0, none⟩ = some (.bool aL) ∧ W.cell? ⟨w.heap.size + 1 + 1 + 1, 1, none⟩ = some (.bool aR) ∧ W.cell? ⟨w.heap.size + 1 + 1 + 1, 2, none⟩ = some (.slice sa sn sc) ∧ W.cell? ⟨w.heap.size + 1 + 1 + 1, 3, none⟩ = some (.bool bL) ∧ W.cell? ⟨w.heap.size + 1 + 1 + 1, 4, none⟩ = some (.bool bR) ∧ W.cell? ⟨w.heap.size + 1 + 1 + 1, 5, none⟩ = some (.slice ta tn tc)) ∧ W.cell? ⟨w.heap.size + 1 + 1, 0, none⟩ = some (.bool false) ∧ W.cell? ⟨w.heap.size + 1 + 1, 1, none⟩ = some (.bool false) ∧ W.cell? ⟨w.heap.size + 1 + 1, 2, none⟩ = some (.slice none 0 0) ∧ W.frozen? ⟨w.heap.size + 1 + 1, 0, none⟩ = false ∧ W.frozen? ⟨w.heap.size + 1 + 1, 1, none⟩ = false ∧ W.frozen? ⟨w.heap.size + 1 + 1, 2, none⟩ = false) := Lib.hid (fun W h => by
    obtain ⟨c0, c1, c2, -, -, -⟩ := row3 (r0.below h (by omega))
    obtain ⟨d0, d1, d2, -, -, -⟩ := row3 (r1.below h (by omega))
    exact ⟨⟨c0, c1, c2⟩, ⟨d0, d1, d2⟩, row6 (r3.below h (by omega)), row3 (r2.below h (by omega))⟩)
  have HKS : Hid (∀ W x y z, Below (w.heap.size + 1 + 1 + 1 + 1) w4 W → (((W.setCell ⟨w.heap.size + 1 + 1, 0, none⟩ x).setCell ⟨w.heap.size + 1 + 1, 1, none⟩ y).setCell ⟨w.heap.size + 1 + 1, 2, none⟩ z).cell? ⟨w.heap.size + 1 + 1 + 1, 0, none⟩ = some (.bool aL) ∧ (((W.setCell ⟨w.heap.size + 1 + 1, 0, none⟩ x).setCell ⟨w.heap.size + 1 + 1, 1, none⟩ y).setCell ⟨w.heap.size + 1 + 1, 2, none⟩ z).cell? ⟨w.heap.size + 1 + 1 + 1, 1, none⟩ = some (.bool aR) ∧ (((W.setCell ⟨w.heap.size + 1 + 1, 0, none⟩ x).setCell ⟨w.heap.size + 1 + 1, 1, none⟩ y).setCell ⟨w.heap.size + 1 + 1, 2, none⟩ z).cell? ⟨w.heap.size + 1 + 1 + 1, 2, none⟩ = some (.slice sa sn sc) ∧ (((W.setCell ⟨w.heap.size + 1 + 1, 0, none⟩ x).setCell ⟨w.heap.size + 1 + 1, 1, none⟩ y).setCell ⟨w.heap.size + 1 + 1, 2, none⟩ z).cell? ⟨w.heap.size + 1 + 1 + 1, 3, none⟩ = some (.bool bL) ∧ (((W.setCell ⟨w.heap.size + 1 + 1, 0, none⟩ x).setCell ⟨w.heap.size + 1 + 1, 1, none⟩ y).setCell ⟨w.heap.size + 1 + 1, 2, none⟩ z).cell? ⟨w.heap.size + 1 + 1 + 1, 4, none⟩ = some (.bool bR) ∧ (((W.setCell ⟨w.heap.size + 1 + 1, 0, none⟩ x).setCell ⟨w.heap.size + 1 + 1, 1, none⟩ y).setCell ⟨w.heap.size + 1 + 1, 2, none⟩ z).cell? ⟨w.heap.size + 1 + 1 + 1, 5, none⟩ = some (.slice ta tn tc)) := Lib.hid (fun W x y z h => row6 ((((r3.below h (by omega)).other (by omega) x).other (by omega) y).other (by omega) z))
  have HRO : Hid (∀ W, Below (w.heap.size + 1 + 1 + 1 + 1) w4 W → True ∧ True ∧ Row W (w.heap.size + 1 + 1) 24 #[.bool false, .bool false, .slice none 0 0]) := Lib.hid (fun W h => ⟨trivial, trivial, r2.below h (by omega)⟩)
  have HK : Hid (∀ W, Below (w.heap.size + 1 + 1 + 1 + 1) w4 W → KL W (.slice sa sn sc) aN ∧ KL W (.slice ta tn tc) bN ∧ Nu.NG W) := Lib.hid (fun W h => by
    have hb := hb4.trans (h.mono (by omega))
    exact ⟨hs.below hb, ht.below hb, hG.below hb⟩)
  have HAR := Lib.hid (fun W (h : Below (w.heap.size + 1 + 1 + 1 + 1) w4 W) => HAR0.out W (HK.out W h).1 (HK.out W h).2.1)
  have HDF := Lib.hid (fun W (h : Below (w.heap.size + 1 + 1 + 1 + 1) w4 W) => HDF0.out W (HK.out W h).1 (HK.out W h).2.1)
  have HTH : Hid (∀ W p, rt = true → df = false → Below (w.heap.size + 1 + 1 + 1 + 1) w4 W → Row W p 9 #[.string g] → _) := Lib.hid (fun W p h1 h2 (h : Below (w.heap.size + 1 + 1 + 1 + 1) w4 W) hp => HTH0.out W p h1 h2 (HK.out W h).1 (HK.out W h).2.1 hp (HK.out W h).2.2)
  have HN4 : Hid (w.heap.size + 1 + 1 + 1 + 1 ≤ w4.heap.size) := Lib.hid (Nat.le_of_eq hs4.symm)
  have HBW := Lib.hid hb4
  have hrt0 := HRT.out w4 (HK.out _ (Below.refl _ _)).1 (HK.out _ (Below.refl _ _)).2.1
  rw [hs4, hw4] at hrt0
  have HRT0 := Lib.hid hrt0
  have HW4 := Lib.hid hw4
  clear hb4 hs4 r0 r1 r2 r3 hrt0 hs ht hi hj hG hsn htn hw4 hfk
  have HDD : Hid (df = df) := Lib.hid rfl
  go_enter Tryz.func26, Tryz.ntmps26
  cases rt
  · have HCC : Hid (c = 114) := Lib.hid HE.out
    go_wp2_with (first
          | (go_at_call 30; refine HRT0.out.mono ?_; rintro e w1 ⟨rfl, hb⟩; rw [← HW4.out] at hb; have HB1 := Lib.hid hb; obtain ⟨⟨ka0, ka1, ka2⟩, ⟨kb0, kb1, kb2⟩, ⟨kp0, kp1, kp2, kp3, kp4, kp5⟩, ⟨kz0, kz1, kz2, kz3, kz4, kz5⟩⟩ := HR.out _ hb; clear hb))
    have hr4 := row_set3 (HRO.out _ HB1.out).2.2 (.bool false) (.bool false) (.slice none 0 0)
    obtain ⟨v0, v1, v2, -, -, -⟩ := row3 hr4
    have hbe := (((HBW.out.trans (HB1.out.mono (by omega))).setCell (p := ⟨w.heap.size + 1 + 1, 0, none⟩) (by show w.heap.size ≤ w.heap.size + 1 + 1; omega) (.bool false)).setCell (p := ⟨w.heap.size + 1 + 1, 1, none⟩) (by show w.heap.size ≤ w.heap.size + 1 + 1; omega) (.bool false)).setCell (p := ⟨w.heap.size + 1 + 1, 2, none⟩) (by show w.heap.size ≤ w.heap.size + 1 + 1; omega) (.slice none 0 0)
    refine bodyPost_ret (v := .tuple #[.agg #[.bool false, .bool false, .slice none 0 0], .iface 55 (.agg #[.string g, .iface 53 (.int .i64 114)])]) (by simp [results, Tryz.f26, go_sem, v0, v1, v2]) rfl ⟨hbe, .inr ⟨by rw [HCC.out]; decide, _, rfl, .inr (.inr ⟨g, by rw [HCC.out]⟩)⟩⟩
  · cases id
    · have HCC : Hid (c = 102) := Lib.hid HE.out
      go_wp2_with (first
          | (go_at_call 30; refine HRT0.out.mono ?_; rintro e w1 ⟨rfl, hb⟩; rw [← HW4.out] at hb; have HB1 := Lib.hid hb; obtain ⟨⟨ka0, ka1, ka2⟩, ⟨kb0, kb1, kb2⟩, ⟨kp0, kp1, kp2, kp3, kp4, kp5⟩, ⟨kz0, kz1, kz2, kz3, kz4, kz5⟩⟩ := HR.out _ hb; clear hb)
          | (go_at_call 47; refine (HID.out _).mono ?_; rintro e w2 ⟨rfl, hb⟩; have HB2 := Lib.hid (HB1.out.trans (hb.mono (Nat.le_trans HN4.out HB1.out.size))); obtain ⟨⟨la0, la1, la2⟩, ⟨lb0, lb1, lb2⟩, ⟨lp0, lp1, lp2, lp3, lp4, lp5⟩, ⟨lz0, lz1, lz2, lz3, lz4, lz5⟩⟩ := HR.out _ HB2.out; clear hb))
      have hr4 := row_set3 (HRO.out _ HB2.out).2.2 (.bool false) (.bool false) (.slice none 0 0)
      obtain ⟨v0, v1, v2, -, -, -⟩ := row3 hr4
      have hbe := (((HBW.out.trans (HB2.out.mono (by omega))).setCell (p := ⟨w.heap.size + 1 + 1, 0, none⟩) (by show w.heap.size ≤ w.heap.size + 1 + 1; omega) (.bool false)).setCell (p := ⟨w.heap.size + 1 + 1, 1, none⟩) (by show w.heap.size ≤ w.heap.size + 1 + 1; omega) (.bool false)).setCell (p := ⟨w.heap.size + 1 + 1, 2, none⟩) (by show w.heap.size ≤ w.heap.size + 1 + 1; omega) (.slice none 0 0)
      refine bodyPost_ret (v := .tuple #[.agg #[.bool false, .bool false, .slice none 0 0], .iface 55 (.agg #[.string g, .iface 53 (.int .i64 102)])]) (by simp [results, Tryz.f26, go_sem, v0, v1, v2]) rfl ⟨hbe, .inr ⟨by rw [HCC.out]; decide, _, rfl, .inr (.inr ⟨g, by rw [HCC.out]⟩)⟩⟩
    · cases df
      · cases tk
        · cases hr
          · have HCC : Hid (c = thrE (fnA g ⟨aL, aR, aN⟩ ⟨bL, bR, bN⟩) (pairsA ⟨aL, aR, aN⟩ ⟨bL, bR, bN⟩)) := Lib.hid HE.out
            by_cases hz : c = 0
            · have HZ : Hid (thrE (fnA g ⟨aL, aR, aN⟩ ⟨bL, bR, bN⟩) (pairsA ⟨aL, aR, aN⟩ ⟨bL, bR, bN⟩) = 0) := Lib.hid (by rw [← HCC.out]; exact hz)
              go_wp2_with (first
          | (go_at_call 30; refine HRT0.out.mono ?_; rintro e w1 ⟨rfl, hb⟩; rw [← HW4.out] at hb; have HB1 := Lib.hid hb; obtain ⟨⟨ka0, ka1, ka2⟩, ⟨kb0, kb1, kb2⟩, ⟨kp0, kp1, kp2, kp3, kp4, kp5⟩, ⟨kz0, kz1, kz2, kz3, kz4, kz5⟩⟩ := HR.out _ hb; clear hb)
          | (go_at_call 47; refine (HID.out _).mono ?_; rintro e w2 ⟨rfl, hb⟩; have HB2 := Lib.hid (HB1.out.trans (hb.mono (Nat.le_trans HN4.out HB1.out.size))); obtain ⟨⟨la0, la1, la2⟩, ⟨lb0, lb1, lb2⟩, ⟨lp0, lp1, lp2, lp3, lp4, lp5⟩, ⟨lz0, lz1, lz2, lz3, lz4, lz5⟩⟩ := HR.out _ HB2.out; clear hb)
          | (go_at_call 48; refine (HDF.out _ HB2.out).mono ?_; rintro e w3 ⟨rfl, hb⟩; have HB3 := Lib.hid (HB2.out.trans (hb.mono (Nat.le_trans HN4.out HB2.out.size))); obtain ⟨⟨ma0, ma1, ma2⟩, ⟨mb0, mb1, mb2⟩, ⟨mp0, mp1, mp2, mp3, mp4, mp5⟩, ⟨mz0, mz1, mz2, mz3, mz4, mz5⟩⟩ := HR.out _ HB3.out; clear hb)
          | (go_at_call 49; refine (HTK.out _).mono ?_; rintro e w4 ⟨rfl, rfl⟩)
          | (go_at_call 37; refine (HAR.out _ HB3.out).mono ?_; rintro e w5 ⟨rfl, hb⟩; have HB5 := Lib.hid (HB3.out.trans (hb.mono (Nat.le_trans HN4.out HB3.out.size))); obtain ⟨⟨na0, na1, na2⟩, ⟨nb0, nb1, nb2⟩, ⟨np0, np1, np2, np3, np4, np5⟩, ⟨nz0, nz1, nz2, nz3, nz4, nz5⟩⟩ := HR.out _ HB5.out; clear hb))
              have hb6 : Below (w.heap.size + 1 + 1 + 1 + 1) w4 ((w5.drew.alloc (.cells #[.bool aL, .bool aR, .slice sa sn sc, .bool bL, .bool bR, .slice ta tn tc] 57)).alloc (.cells #[.string g] 9)) := ((HB5.out.drew).alloc (Nat.le_trans HN4.out HB5.out.size) _).alloc (by rw [World.size_alloc]; exact Nat.le_succ_of_le (Nat.le_trans HN4.out HB5.out.size)) _
              have hth := HTH.out _ (w5.heap.size + 1) (by trivial) (HDD.out) hb6 (Row.at _ _ _ _ (by simp))
              have HTH2 := Lib.hid hth
              have HB6 := Lib.hid hb6
              have HKE : Hid (∀ X Y, ((w5.drew.alloc X).alloc Y).cell? ⟨w.heap.size + 1 + 1 + 1, 0, none⟩ = some (.bool aL) ∧ ((w5.drew.alloc X).alloc Y).cell? ⟨w.heap.size + 1 + 1 + 1, 1, none⟩ = some (.bool aR) ∧ ((w5.drew.alloc X).alloc Y).cell? ⟨w.heap.size + 1 + 1 + 1, 2, none⟩ = some (.slice sa sn sc) ∧ ((w5.drew.alloc X).alloc Y).cell? ⟨w.heap.size + 1 + 1 + 1, 3, none⟩ = some (.bool bL) ∧ ((w5.drew.alloc X).alloc Y).cell? ⟨w.heap.size + 1 + 1 + 1, 4, none⟩ = some (.bool bR) ∧ ((w5.drew.alloc X).alloc Y).cell? ⟨w.heap.size + 1 + 1 + 1, 5, none⟩ = some (.slice ta tn tc)) := Lib.hid (fun X Y => (HR.out _ (((HB5.out.drew).alloc (Nat.le_trans HN4.out HB5.out.size) X).alloc (by rw [World.size_alloc]; exact Nat.le_succ_of_le (Nat.le_trans HN4.out HB5.out.size)) Y)).2.2.1)
              clear hth hb6
              go_region_held_law (fun W => W.cell? ⟨w.heap.size + 1 + 1 + 1, 0, none⟩ = some (.bool aL) ∧ W.cell? ⟨w.heap.size + 1 + 1 + 1, 1, none⟩ = some (.bool aR) ∧ W.cell? ⟨w.heap.size + 1 + 1 + 1, 2, none⟩ = some (.slice sa sn sc) ∧ W.cell? ⟨w.heap.size + 1 + 1 + 1, 3, none⟩ = some (.bool bL) ∧ W.cell? ⟨w.heap.size + 1 + 1 + 1, 4, none⟩ = some (.bool bR) ∧ W.cell? ⟨w.heap.size + 1 + 1 + 1, 5, none⟩ = some (.slice ta tn tc)) (first | exact ⟨np0, np1, np2, np3, np4, np5⟩ | exact HKE.out _ _ | exact ⟨xp0, xp1, xp2, xp3, xp4, xp5⟩ | exact HKS.out _ _ _ _ HB7.out) ((first | (go_at_call 50; refine (HFU.out _).mono ?_; rintro e w6 ⟨rfl, rfl⟩) | (go_at_call 38; refine HTH2.out.mono ?_; rintro e w7 ho; obtain ⟨va, vn, vc, rfl, hown, hb⟩ := ho.ok HZ.out; have HOWN := Lib.hid hown; clear ho hown; have HB7 := Lib.hid (HB6.out.trans (hb.mono (Nat.le_trans HN4.out HB6.out.size))); obtain ⟨⟨xa0, xa1, xa2⟩, ⟨xb0, xb1, xb2⟩, ⟨xp0, xp1, xp2, xp3, xp4, xp5⟩, ⟨xz0, xz1, xz2, xz3, xz4, xz5⟩⟩ := HR.out _ HB7.out; clear hb)))
              all_goals go_wp2
              have hr4 := row_set3 (HRO.out _ HB7.out).2.2 (.bool (aL || bL)) (.bool false) (.slice va vn vc)
              obtain ⟨v0, v1, v2, -, -, -⟩ := row3 hr4
              have hbe := (((HBW.out.trans (HB7.out.mono (by omega))).setCell (p := ⟨w.heap.size + 1 + 1, 0, none⟩) (by show w.heap.size ≤ w.heap.size + 1 + 1; omega) (.bool (aL || bL))).setCell (p := ⟨w.heap.size + 1 + 1, 1, none⟩) (by show w.heap.size ≤ w.heap.size + 1 + 1; omega) (.bool false)).setCell (p := ⟨w.heap.size + 1 + 1, 2, none⟩) (by show w.heap.size ≤ w.heap.size + 1 + 1; omega) (.slice va vn vc)
              refine bodyPost_ret (v := .tuple #[.agg #[.bool (aL || bL), .bool false, (.slice va vn vc)], .nilIface]) (by simp [results, Tryz.f26, go_sem, v0, v1, v2]) rfl ⟨hbe, .inl ⟨hz, _, rfl, ?_⟩⟩
              have hn4 := HN4.out
              have hz6 := HB6.out.size
              have := HOWN.out
              rw [← show dyL g ⟨aL, aR, aN⟩ ⟨bL, bR, bN⟩ = thrN (fnA g ⟨aL, aR, aN⟩ ⟨bL, bR, bN⟩) (pairsA ⟨aL, aR, aN⟩ ⟨bL, bR, bN⟩) from rfl, ← HNS.out] at this
              exact (own_off3 this (HRO.out _ HB7.out).2.2 _ _ _).mono (by omega)
            · have HZ : Hid (thrE (fnA g ⟨aL, aR, aN⟩ ⟨bL, bR, bN⟩) (pairsA ⟨aL, aR, aN⟩ ⟨bL, bR, bN⟩) ≠ 0) := Lib.hid (by rw [← HCC.out]; exact hz)
              go_wp2_with (first
          | (go_at_call 30; refine HRT0.out.mono ?_; rintro e w1 ⟨rfl, hb⟩; rw [← HW4.out] at hb; have HB1 := Lib.hid hb; obtain ⟨⟨ka0, ka1, ka2⟩, ⟨kb0, kb1, kb2⟩, ⟨kp0, kp1, kp2, kp3, kp4, kp5⟩, ⟨kz0, kz1, kz2, kz3, kz4, kz5⟩⟩ := HR.out _ hb; clear hb)
          | (go_at_call 47; refine (HID.out _).mono ?_; rintro e w2 ⟨rfl, hb⟩; have HB2 := Lib.hid (HB1.out.trans (hb.mono (Nat.le_trans HN4.out HB1.out.size))); obtain ⟨⟨la0, la1, la2⟩, ⟨lb0, lb1, lb2⟩, ⟨lp0, lp1, lp2, lp3, lp4, lp5⟩, ⟨lz0, lz1, lz2, lz3, lz4, lz5⟩⟩ := HR.out _ HB2.out; clear hb)
          | (go_at_call 48; refine (HDF.out _ HB2.out).mono ?_; rintro e w3 ⟨rfl, hb⟩; have HB3 := Lib.hid (HB2.out.trans (hb.mono (Nat.le_trans HN4.out HB2.out.size))); obtain ⟨⟨ma0, ma1, ma2⟩, ⟨mb0, mb1, mb2⟩, ⟨mp0, mp1, mp2, mp3, mp4, mp5⟩, ⟨mz0, mz1, mz2, mz3, mz4, mz5⟩⟩ := HR.out _ HB3.out; clear hb)
          | (go_at_call 49; refine (HTK.out _).mono ?_; rintro e w4 ⟨rfl, rfl⟩)
          | (go_at_call 37; refine (HAR.out _ HB3.out).mono ?_; rintro e w5 ⟨rfl, hb⟩; have HB5 := Lib.hid (HB3.out.trans (hb.mono (Nat.le_trans HN4.out HB3.out.size))); obtain ⟨⟨na0, na1, na2⟩, ⟨nb0, nb1, nb2⟩, ⟨np0, np1, np2, np3, np4, np5⟩, ⟨nz0, nz1, nz2, nz3, nz4, nz5⟩⟩ := HR.out _ HB5.out; clear hb))
              have hb6 : Below (w.heap.size + 1 + 1 + 1 + 1) w4 ((w5.drew.alloc (.cells #[.bool aL, .bool aR, .slice sa sn sc, .bool bL, .bool bR, .slice ta tn tc] 57)).alloc (.cells #[.string g] 9)) := ((HB5.out.drew).alloc (Nat.le_trans HN4.out HB5.out.size) _).alloc (by rw [World.size_alloc]; exact Nat.le_succ_of_le (Nat.le_trans HN4.out HB5.out.size)) _
              have hth := HTH.out _ (w5.heap.size + 1) (by trivial) (HDD.out) hb6 (Row.at _ _ _ _ (by simp))
              have HTH2 := Lib.hid hth
              have HB6 := Lib.hid hb6
              have HKE : Hid (∀ X Y, ((w5.drew.alloc X).alloc Y).cell? ⟨w.heap.size + 1 + 1 + 1, 0, none⟩ = some (.bool aL) ∧ ((w5.drew.alloc X).alloc Y).cell? ⟨w.heap.size + 1 + 1 + 1, 1, none⟩ = some (.bool aR) ∧ ((w5.drew.alloc X).alloc Y).cell? ⟨w.heap.size + 1 + 1 + 1, 2, none⟩ = some (.slice sa sn sc) ∧ ((w5.drew.alloc X).alloc Y).cell? ⟨w.heap.size + 1 + 1 + 1, 3, none⟩ = some (.bool bL) ∧ ((w5.drew.alloc X).alloc Y).cell? ⟨w.heap.size + 1 + 1 + 1, 4, none⟩ = some (.bool bR) ∧ ((w5.drew.alloc X).alloc Y).cell? ⟨w.heap.size + 1 + 1 + 1, 5, none⟩ = some (.slice ta tn tc)) := Lib.hid (fun X Y => (HR.out _ (((HB5.out.drew).alloc (Nat.le_trans HN4.out HB5.out.size) X).alloc (by rw [World.size_alloc]; exact Nat.le_succ_of_le (Nat.le_trans HN4.out HB5.out.size)) Y)).2.2.1)
              clear hth hb6
              go_region_held_law (fun W => W.cell? ⟨w.heap.size + 1 + 1 + 1, 0, none⟩ = some (.bool aL) ∧ W.cell? ⟨w.heap.size + 1 + 1 + 1, 1, none⟩ = some (.bool aR) ∧ W.cell? ⟨w.heap.size + 1 + 1 + 1, 2, none⟩ = some (.slice sa sn sc) ∧ W.cell? ⟨w.heap.size + 1 + 1 + 1, 3, none⟩ = some (.bool bL) ∧ W.cell? ⟨w.heap.size + 1 + 1 + 1, 4, none⟩ = some (.bool bR) ∧ W.cell? ⟨w.heap.size + 1 + 1 + 1, 5, none⟩ = some (.slice ta tn tc)) (first | exact ⟨np0, np1, np2, np3, np4, np5⟩ | exact HKE.out _ _ | exact ⟨xp0, xp1, xp2, xp3, xp4, xp5⟩ | exact HKS.out _ _ _ _ HB7.out) ((first | (go_at_call 50; refine (HFU.out _).mono ?_; rintro e w6 ⟨rfl, rfl⟩) | (go_at_call 38; refine HTH2.out.mono ?_; rintro e w7 ho; obtain ⟨rfl, hb⟩ := ho.bad HZ.out; rw [← HCC.out]; clear ho; have HB7 := Lib.hid (HB6.out.trans (hb.mono (Nat.le_trans HN4.out HB6.out.size))); obtain ⟨⟨xa0, xa1, xa2⟩, ⟨xb0, xb1, xb2⟩, ⟨xp0, xp1, xp2, xp3, xp4, xp5⟩, ⟨xz0, xz1, xz2, xz3, xz4, xz5⟩⟩ := HR.out _ HB7.out; clear hb)))
              all_goals go_wp2
              have hr4 := row_set3 (HRO.out _ HB7.out).2.2 (.bool false) (.bool false) (.slice none 0 0)
              obtain ⟨v0, v1, v2, -, -, -⟩ := row3 hr4
              have hbe := (((HBW.out.trans (HB7.out.mono (by omega))).setCell (p := ⟨w.heap.size + 1 + 1, 0, none⟩) (by show w.heap.size ≤ w.heap.size + 1 + 1; omega) (.bool false)).setCell (p := ⟨w.heap.size + 1 + 1, 1, none⟩) (by show w.heap.size ≤ w.heap.size + 1 + 1; omega) (.bool false)).setCell (p := ⟨w.heap.size + 1 + 1, 2, none⟩) (by show w.heap.size ≤ w.heap.size + 1 + 1; omega) (.slice none 0 0)
              refine bodyPost_ret (v := .tuple #[.agg #[.bool false, .bool false, (.slice none 0 0)], faultV c]) (by simp [results, Tryz.f26, go_sem, v0, v1, v2]) rfl ⟨hbe, .inr ⟨hz, _, rfl, .inr (.inl rfl)⟩⟩
          · have HCC : Hid (c = 102) := Lib.hid HE.out
            go_wp2_with (first
          | (go_at_call 30; refine HRT0.out.mono ?_; rintro e w1 ⟨rfl, hb⟩; rw [← HW4.out] at hb; have HB1 := Lib.hid hb; obtain ⟨⟨ka0, ka1, ka2⟩, ⟨kb0, kb1, kb2⟩, ⟨kp0, kp1, kp2, kp3, kp4, kp5⟩, ⟨kz0, kz1, kz2, kz3, kz4, kz5⟩⟩ := HR.out _ hb; clear hb)
          | (go_at_call 47; refine (HID.out _).mono ?_; rintro e w2 ⟨rfl, hb⟩; have HB2 := Lib.hid (HB1.out.trans (hb.mono (Nat.le_trans HN4.out HB1.out.size))); obtain ⟨⟨la0, la1, la2⟩, ⟨lb0, lb1, lb2⟩, ⟨lp0, lp1, lp2, lp3, lp4, lp5⟩, ⟨lz0, lz1, lz2, lz3, lz4, lz5⟩⟩ := HR.out _ HB2.out; clear hb)
          | (go_at_call 48; refine (HDF.out _ HB2.out).mono ?_; rintro e w3 ⟨rfl, hb⟩; have HB3 := Lib.hid (HB2.out.trans (hb.mono (Nat.le_trans HN4.out HB2.out.size))); obtain ⟨⟨ma0, ma1, ma2⟩, ⟨mb0, mb1, mb2⟩, ⟨mp0, mp1, mp2, mp3, mp4, mp5⟩, ⟨mz0, mz1, mz2, mz3, mz4, mz5⟩⟩ := HR.out _ HB3.out; clear hb)
          | (go_at_call 49; refine (HTK.out _).mono ?_; rintro e w4 ⟨rfl, rfl⟩)
          | (go_at_call 37; refine (HAR.out _ HB3.out).mono ?_; rintro e w5 ⟨rfl, hb⟩; have HB5 := Lib.hid (HB3.out.trans (hb.mono (Nat.le_trans HN4.out HB3.out.size))); obtain ⟨⟨na0, na1, na2⟩, ⟨nb0, nb1, nb2⟩, ⟨np0, np1, np2, np3, np4, np5⟩, ⟨nz0, nz1, nz2, nz3, nz4, nz5⟩⟩ := HR.out _ HB5.out; clear hb))
            have hr4 := row_set3 (HRO.out _ HB5.out).2.2 (.bool false) (.bool false) (.slice none 0 0)
            obtain ⟨v0, v1, v2, -, -, -⟩ := row3 hr4
            have hbe := (((HBW.out.trans (HB5.out.mono (by omega))).setCell (p := ⟨w.heap.size + 1 + 1, 0, none⟩) (by show w.heap.size ≤ w.heap.size + 1 + 1; omega) (.bool false)).setCell (p := ⟨w.heap.size + 1 + 1, 1, none⟩) (by show w.heap.size ≤ w.heap.size + 1 + 1; omega) (.bool false)).setCell (p := ⟨w.heap.size + 1 + 1, 2, none⟩) (by show w.heap.size ≤ w.heap.size + 1 + 1; omega) (.slice none 0 0)
            refine bodyPost_ret (v := .tuple #[.agg #[.bool false, .bool false, .slice none 0 0], .iface 55 (.agg #[.string g, .iface 53 (.int .i64 102)])]) (by simp [results, Tryz.f26, go_sem, v0, v1, v2]) rfl ⟨hbe, .inr ⟨by rw [HCC.out]; decide, _, rfl, .inr (.inr ⟨g, by rw [HCC.out]⟩)⟩⟩
        · have HCC : Hid (c = thrE (fnA g ⟨aL, aR, aN⟩ ⟨bL, bR, bN⟩) (pairsA ⟨aL, aR, aN⟩ ⟨bL, bR, bN⟩)) := Lib.hid HE.out
          by_cases hz : c = 0
          · have HZ : Hid (thrE (fnA g ⟨aL, aR, aN⟩ ⟨bL, bR, bN⟩) (pairsA ⟨aL, aR, aN⟩ ⟨bL, bR, bN⟩) = 0) := Lib.hid (by rw [← HCC.out]; exact hz)
            go_wp2_with (first
          | (go_at_call 30; refine HRT0.out.mono ?_; rintro e w1 ⟨rfl, hb⟩; rw [← HW4.out] at hb; have HB1 := Lib.hid hb; obtain ⟨⟨ka0, ka1, ka2⟩, ⟨kb0, kb1, kb2⟩, ⟨kp0, kp1, kp2, kp3, kp4, kp5⟩, ⟨kz0, kz1, kz2, kz3, kz4, kz5⟩⟩ := HR.out _ hb; clear hb)
          | (go_at_call 47; refine (HID.out _).mono ?_; rintro e w2 ⟨rfl, hb⟩; have HB2 := Lib.hid (HB1.out.trans (hb.mono (Nat.le_trans HN4.out HB1.out.size))); obtain ⟨⟨la0, la1, la2⟩, ⟨lb0, lb1, lb2⟩, ⟨lp0, lp1, lp2, lp3, lp4, lp5⟩, ⟨lz0, lz1, lz2, lz3, lz4, lz5⟩⟩ := HR.out _ HB2.out; clear hb)
          | (go_at_call 48; refine (HDF.out _ HB2.out).mono ?_; rintro e w3 ⟨rfl, hb⟩; have HB3 := Lib.hid (HB2.out.trans (hb.mono (Nat.le_trans HN4.out HB2.out.size))); obtain ⟨⟨ma0, ma1, ma2⟩, ⟨mb0, mb1, mb2⟩, ⟨mp0, mp1, mp2, mp3, mp4, mp5⟩, ⟨mz0, mz1, mz2, mz3, mz4, mz5⟩⟩ := HR.out _ HB3.out; clear hb)
          | (go_at_call 49; refine (HTK.out _).mono ?_; rintro e w4 ⟨rfl, rfl⟩))
            have hb6 : Below (w.heap.size + 1 + 1 + 1 + 1) w4 ((w3.drew.alloc (.cells #[.bool aL, .bool aR, .slice sa sn sc, .bool bL, .bool bR, .slice ta tn tc] 57)).alloc (.cells #[.string g] 9)) := ((HB3.out.drew).alloc (Nat.le_trans HN4.out HB3.out.size) _).alloc (by rw [World.size_alloc]; exact Nat.le_succ_of_le (Nat.le_trans HN4.out HB3.out.size)) _
            have hth := HTH.out _ (w3.heap.size + 1) (by trivial) (HDD.out) hb6 (Row.at _ _ _ _ (by simp))
            have HTH2 := Lib.hid hth
            have HB6 := Lib.hid hb6
            have HKE : Hid (∀ X Y, ((w3.drew.alloc X).alloc Y).cell? ⟨w.heap.size + 1 + 1 + 1, 0, none⟩ = some (.bool aL) ∧ ((w3.drew.alloc X).alloc Y).cell? ⟨w.heap.size + 1 + 1 + 1, 1, none⟩ = some (.bool aR) ∧ ((w3.drew.alloc X).alloc Y).cell? ⟨w.heap.size + 1 + 1 + 1, 2, none⟩ = some (.slice sa sn sc) ∧ ((w3.drew.alloc X).alloc Y).cell? ⟨w.heap.size + 1 + 1 + 1, 3, none⟩ = some (.bool bL) ∧ ((w3.drew.alloc X).alloc Y).cell? ⟨w.heap.size + 1 + 1 + 1, 4, none⟩ = some (.bool bR) ∧ ((w3.drew.alloc X).alloc Y).cell? ⟨w.heap.size + 1 + 1 + 1, 5, none⟩ = some (.slice ta tn tc)) := Lib.hid (fun X Y => (HR.out _ (((HB3.out.drew).alloc (Nat.le_trans HN4.out HB3.out.size) X).alloc (by rw [World.size_alloc]; exact Nat.le_succ_of_le (Nat.le_trans HN4.out HB3.out.size)) Y)).2.2.1)
            clear hth hb6
            go_region_held_law (fun W => W.cell? ⟨w.heap.size + 1 + 1 + 1, 0, none⟩ = some (.bool aL) ∧ W.cell? ⟨w.heap.size + 1 + 1 + 1, 1, none⟩ = some (.bool aR) ∧ W.cell? ⟨w.heap.size + 1 + 1 + 1, 2, none⟩ = some (.slice sa sn sc) ∧ W.cell? ⟨w.heap.size + 1 + 1 + 1, 3, none⟩ = some (.bool bL) ∧ W.cell? ⟨w.heap.size + 1 + 1 + 1, 4, none⟩ = some (.bool bR) ∧ W.cell? ⟨w.heap.size + 1 + 1 + 1, 5, none⟩ = some (.slice ta tn tc)) (first | exact ⟨mp0, mp1, mp2, mp3, mp4, mp5⟩ | exact HKE.out _ _ | exact ⟨xp0, xp1, xp2, xp3, xp4, xp5⟩ | exact HKS.out _ _ _ _ HB7.out) ((first | (go_at_call 50; refine (HFU.out _).mono ?_; rintro e w6 ⟨rfl, rfl⟩) | (go_at_call 38; refine HTH2.out.mono ?_; rintro e w7 ho; obtain ⟨va, vn, vc, rfl, hown, hb⟩ := ho.ok HZ.out; have HOWN := Lib.hid hown; clear ho hown; have HB7 := Lib.hid (HB6.out.trans (hb.mono (Nat.le_trans HN4.out HB6.out.size))); obtain ⟨⟨xa0, xa1, xa2⟩, ⟨xb0, xb1, xb2⟩, ⟨xp0, xp1, xp2, xp3, xp4, xp5⟩, ⟨xz0, xz1, xz2, xz3, xz4, xz5⟩⟩ := HR.out _ HB7.out; clear hb)))
            all_goals go_wp2
            have hr4 := row_set3 (HRO.out _ HB7.out).2.2 (.bool (aL || bL)) (.bool false) (.slice va vn vc)
            obtain ⟨v0, v1, v2, -, -, -⟩ := row3 hr4
            have hbe := (((HBW.out.trans (HB7.out.mono (by omega))).setCell (p := ⟨w.heap.size + 1 + 1, 0, none⟩) (by show w.heap.size ≤ w.heap.size + 1 + 1; omega) (.bool (aL || bL))).setCell (p := ⟨w.heap.size + 1 + 1, 1, none⟩) (by show w.heap.size ≤ w.heap.size + 1 + 1; omega) (.bool false)).setCell (p := ⟨w.heap.size + 1 + 1, 2, none⟩) (by show w.heap.size ≤ w.heap.size + 1 + 1; omega) (.slice va vn vc)
            refine bodyPost_ret (v := .tuple #[.agg #[.bool (aL || bL), .bool false, (.slice va vn vc)], .nilIface]) (by simp [results, Tryz.f26, go_sem, v0, v1, v2]) rfl ⟨hbe, .inl ⟨hz, _, rfl, ?_⟩⟩
            have hn4 := HN4.out
            have hz6 := HB6.out.size
            have := HOWN.out
            rw [← show dyL g ⟨aL, aR, aN⟩ ⟨bL, bR, bN⟩ = thrN (fnA g ⟨aL, aR, aN⟩ ⟨bL, bR, bN⟩) (pairsA ⟨aL, aR, aN⟩ ⟨bL, bR, bN⟩) from rfl, ← HNS.out] at this
            exact (own_off3 this (HRO.out _ HB7.out).2.2 _ _ _).mono (by omega)
          · have HZ : Hid (thrE (fnA g ⟨aL, aR, aN⟩ ⟨bL, bR, bN⟩) (pairsA ⟨aL, aR, aN⟩ ⟨bL, bR, bN⟩) ≠ 0) := Lib.hid (by rw [← HCC.out]; exact hz)
            go_wp2_with (first
          | (go_at_call 30; refine HRT0.out.mono ?_; rintro e w1 ⟨rfl, hb⟩; rw [← HW4.out] at hb; have HB1 := Lib.hid hb; obtain ⟨⟨ka0, ka1, ka2⟩, ⟨kb0, kb1, kb2⟩, ⟨kp0, kp1, kp2, kp3, kp4, kp5⟩, ⟨kz0, kz1, kz2, kz3, kz4, kz5⟩⟩ := HR.out _ hb; clear hb)
          | (go_at_call 47; refine (HID.out _).mono ?_; rintro e w2 ⟨rfl, hb⟩; have HB2 := Lib.hid (HB1.out.trans (hb.mono (Nat.le_trans HN4.out HB1.out.size))); obtain ⟨⟨la0, la1, la2⟩, ⟨lb0, lb1, lb2⟩, ⟨lp0, lp1, lp2, lp3, lp4, lp5⟩, ⟨lz0, lz1, lz2, lz3, lz4, lz5⟩⟩ := HR.out _ HB2.out; clear hb)
          | (go_at_call 48; refine (HDF.out _ HB2.out).mono ?_; rintro e w3 ⟨rfl, hb⟩; have HB3 := Lib.hid (HB2.out.trans (hb.mono (Nat.le_trans HN4.out HB2.out.size))); obtain ⟨⟨ma0, ma1, ma2⟩, ⟨mb0, mb1, mb2⟩, ⟨mp0, mp1, mp2, mp3, mp4, mp5⟩, ⟨mz0, mz1, mz2, mz3, mz4, mz5⟩⟩ := HR.out _ HB3.out; clear hb)
          | (go_at_call 49; refine (HTK.out _).mono ?_; rintro e w4 ⟨rfl, rfl⟩))
            have hb6 : Below (w.heap.size + 1 + 1 + 1 + 1) w4 ((w3.drew.alloc (.cells #[.bool aL, .bool aR, .slice sa sn sc, .bool bL, .bool bR, .slice ta tn tc] 57)).alloc (.cells #[.string g] 9)) := ((HB3.out.drew).alloc (Nat.le_trans HN4.out HB3.out.size) _).alloc (by rw [World.size_alloc]; exact Nat.le_succ_of_le (Nat.le_trans HN4.out HB3.out.size)) _
            have hth := HTH.out _ (w3.heap.size + 1) (by trivial) (HDD.out) hb6 (Row.at _ _ _ _ (by simp))
            have HTH2 := Lib.hid hth
            have HB6 := Lib.hid hb6
            have HKE : Hid (∀ X Y, ((w3.drew.alloc X).alloc Y).cell? ⟨w.heap.size + 1 + 1 + 1, 0, none⟩ = some (.bool aL) ∧ ((w3.drew.alloc X).alloc Y).cell? ⟨w.heap.size + 1 + 1 + 1, 1, none⟩ = some (.bool aR) ∧ ((w3.drew.alloc X).alloc Y).cell? ⟨w.heap.size + 1 + 1 + 1, 2, none⟩ = some (.slice sa sn sc) ∧ ((w3.drew.alloc X).alloc Y).cell? ⟨w.heap.size + 1 + 1 + 1, 3, none⟩ = some (.bool bL) ∧ ((w3.drew.alloc X).alloc Y).cell? ⟨w.heap.size + 1 + 1 + 1, 4, none⟩ = some (.bool bR) ∧ ((w3.drew.alloc X).alloc Y).cell? ⟨w.heap.size + 1 + 1 + 1, 5, none⟩ = some (.slice ta tn tc)) := Lib.hid (fun X Y => (HR.out _ (((HB3.out.drew).alloc (Nat.le_trans HN4.out HB3.out.size) X).alloc (by rw [World.size_alloc]; exact Nat.le_succ_of_le (Nat.le_trans HN4.out HB3.out.size)) Y)).2.2.1)
            clear hth hb6
            go_region_held_law (fun W => W.cell? ⟨w.heap.size + 1 + 1 + 1, 0, none⟩ = some (.bool aL) ∧ W.cell? ⟨w.heap.size + 1 + 1 + 1, 1, none⟩ = some (.bool aR) ∧ W.cell? ⟨w.heap.size + 1 + 1 + 1, 2, none⟩ = some (.slice sa sn sc) ∧ W.cell? ⟨w.heap.size + 1 + 1 + 1, 3, none⟩ = some (.bool bL) ∧ W.cell? ⟨w.heap.size + 1 + 1 + 1, 4, none⟩ = some (.bool bR) ∧ W.cell? ⟨w.heap.size + 1 + 1 + 1, 5, none⟩ = some (.slice ta tn tc)) (first | exact ⟨mp0, mp1, mp2, mp3, mp4, mp5⟩ | exact HKE.out _ _ | exact ⟨xp0, xp1, xp2, xp3, xp4, xp5⟩ | exact HKS.out _ _ _ _ HB7.out) ((first | (go_at_call 50; refine (HFU.out _).mono ?_; rintro e w6 ⟨rfl, rfl⟩) | (go_at_call 38; refine HTH2.out.mono ?_; rintro e w7 ho; obtain ⟨rfl, hb⟩ := ho.bad HZ.out; rw [← HCC.out]; clear ho; have HB7 := Lib.hid (HB6.out.trans (hb.mono (Nat.le_trans HN4.out HB6.out.size))); obtain ⟨⟨xa0, xa1, xa2⟩, ⟨xb0, xb1, xb2⟩, ⟨xp0, xp1, xp2, xp3, xp4, xp5⟩, ⟨xz0, xz1, xz2, xz3, xz4, xz5⟩⟩ := HR.out _ HB7.out; clear hb)))
            all_goals go_wp2
            have hr4 := row_set3 (HRO.out _ HB7.out).2.2 (.bool false) (.bool false) (.slice none 0 0)
            obtain ⟨v0, v1, v2, -, -, -⟩ := row3 hr4
            have hbe := (((HBW.out.trans (HB7.out.mono (by omega))).setCell (p := ⟨w.heap.size + 1 + 1, 0, none⟩) (by show w.heap.size ≤ w.heap.size + 1 + 1; omega) (.bool false)).setCell (p := ⟨w.heap.size + 1 + 1, 1, none⟩) (by show w.heap.size ≤ w.heap.size + 1 + 1; omega) (.bool false)).setCell (p := ⟨w.heap.size + 1 + 1, 2, none⟩) (by show w.heap.size ≤ w.heap.size + 1 + 1; omega) (.slice none 0 0)
            refine bodyPost_ret (v := .tuple #[.agg #[.bool false, .bool false, (.slice none 0 0)], faultV c]) (by simp [results, Tryz.f26, go_sem, v0, v1, v2]) rfl ⟨hbe, .inr ⟨hz, _, rfl, .inr (.inl rfl)⟩⟩
      · have HCC : Hid (c = 110) := Lib.hid HE.out
        go_wp2_with (first
          | (go_at_call 30; refine HRT0.out.mono ?_; rintro e w1 ⟨rfl, hb⟩; rw [← HW4.out] at hb; have HB1 := Lib.hid hb; obtain ⟨⟨ka0, ka1, ka2⟩, ⟨kb0, kb1, kb2⟩, ⟨kp0, kp1, kp2, kp3, kp4, kp5⟩, ⟨kz0, kz1, kz2, kz3, kz4, kz5⟩⟩ := HR.out _ hb; clear hb)
          | (go_at_call 47; refine (HID.out _).mono ?_; rintro e w2 ⟨rfl, hb⟩; have HB2 := Lib.hid (HB1.out.trans (hb.mono (Nat.le_trans HN4.out HB1.out.size))); obtain ⟨⟨la0, la1, la2⟩, ⟨lb0, lb1, lb2⟩, ⟨lp0, lp1, lp2, lp3, lp4, lp5⟩, ⟨lz0, lz1, lz2, lz3, lz4, lz5⟩⟩ := HR.out _ HB2.out; clear hb)
          | (go_at_call 48; refine (HDF.out _ HB2.out).mono ?_; rintro e w3 ⟨rfl, hb⟩; have HB3 := Lib.hid (HB2.out.trans (hb.mono (Nat.le_trans HN4.out HB2.out.size))); obtain ⟨⟨ma0, ma1, ma2⟩, ⟨mb0, mb1, mb2⟩, ⟨mp0, mp1, mp2, mp3, mp4, mp5⟩, ⟨mz0, mz1, mz2, mz3, mz4, mz5⟩⟩ := HR.out _ HB3.out; clear hb))
        have hr4 := row_set3 (HRO.out _ HB3.out).2.2 (.bool false) (.bool false) (.slice none 0 0)
        obtain ⟨v0, v1, v2, -, -, -⟩ := row3 hr4
        have hbe := (((HBW.out.trans (HB3.out.mono (by omega))).setCell (p := ⟨w.heap.size + 1 + 1, 0, none⟩) (by show w.heap.size ≤ w.heap.size + 1 + 1; omega) (.bool false)).setCell (p := ⟨w.heap.size + 1 + 1, 1, none⟩) (by show w.heap.size ≤ w.heap.size + 1 + 1; omega) (.bool false)).setCell (p := ⟨w.heap.size + 1 + 1, 2, none⟩) (by show w.heap.size ≤ w.heap.size + 1 + 1; omega) (.slice none 0 0)
        refine bodyPost_ret (v := .tuple #[.agg #[.bool false, .bool false, .slice none 0 0], .iface 55 (.agg #[.string g, .iface 53 (.int .i64 110)])]) (by simp [results, Tryz.f26, go_sem, v0, v1, v2]) rfl ⟨hbe, .inr ⟨by rw [HCC.out]; decide, _, rfl, .inr (.inr ⟨g, by rw [HCC.out]⟩)⟩⟩
end Go.Proofs.YthlkgfplffdiaaaGreatDoor.Ar
