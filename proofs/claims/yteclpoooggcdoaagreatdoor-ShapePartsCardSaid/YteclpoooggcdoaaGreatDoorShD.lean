/- Merged by gen/sh_merge.py: ShMk1, ShMk2, ShMk3. -/
import Derived.Test.YteclpoooggcdoaaGreatDoorShB
import Derived.Test.YteclpoooggcdoaaGreatDoorArEq
/- shape's makers: counted, listed, lengths, differs (by wip/gen/mkshmk.py). -/
namespace Go.Proofs.YteclpoooggcdoaaGreatDoor.Ar
open Go Go.RowKit
attribute [local go_sem] Oper.semAt_some

set_option maxRecDepth 100000 in
set_option maxHeartbeats 4000000 in
theorem counted_c (a b : Ary) (s t : Value) (w : World) (hs : KL w s a.n) (ht : KL w t b.n) (ha : InL a.n) (hra : rightA a = true) (hrb : rightA b = true) : Calls Tryz.prog 58 #[pairV a b s t] w fun e w' => MkOut (0) (oneAr b.n.length) w e w' := by
  have hla := right200 hra
  have hlb := right200 hrb
  obtain ⟨cE, hcE⟩ : ∃ c : Int, c = 0 := ⟨_, rfl⟩
  obtain ⟨rA, hrA⟩ : ∃ r : Ary, r = oneAr b.n.length := ⟨_, rfl⟩
  rw [← hrA, ← hcE]
  obtain ⟨aL, aR, aN⟩ := a
  obtain ⟨bL, bR, bN⟩ := b
  have HKab : Hid (∀ W, Below w.heap.size w W → KL W s aN ∧ KL W t bN) := Lib.hid (fun W h => ⟨hs.below h, ht.below h⟩)
  dsimp only [pairV] at *
  obtain ⟨sa, sc, hsf, -, -⟩ := hs.form
  obtain ⟨sn, hsn⟩ : ∃ sn, sn = aN.length := ⟨_, rfl⟩
  rw [← hsn] at hsf
  subst hsf
  obtain ⟨ta, tc, htf, -, -⟩ := ht.form
  obtain ⟨tn, htn⟩ : ∃ tn, tn = bN.length := ⟨_, rfl⟩
  rw [← htn] at htf
  subst htf
  obtain ⟨w2, hw2⟩ : ∃ w2, w2 = (w.alloc (.cells #[.bool aL, .bool aR, .slice sa sn sc, .bool bL, .bool bR, .slice ta tn tc] 64)).alloc (.cells #[.bool false, .bool false, .slice none 0 0] 24) := ⟨_, rfl⟩
  have hb2 : Below w.heap.size w w2 := by rw [hw2]; exact ((Below.refl _ w).alloc (Nat.le_refl _) _).alloc (by simp) _
  have hs2 : w2.heap.size = w.heap.size + 1 + 1 := by rw [hw2]; simp
  have r1 : Row w2 w.heap.size 64 #[.bool aL, .bool aR, .slice sa sn sc, .bool bL, .bool bR, .slice ta tn tc] := by rw [hw2]; exact (Row.new _ _ _).alloc _
  have r2 : Row w2 (w.heap.size + 1) 24 #[.bool false, .bool false, .slice none 0 0] := by rw [hw2]; exact Row.at _ _ _ _ (by simp)
  have HP : Hid (∀ W, Below w2.heap.size w2 W → Row W w.heap.size 64 #[.bool aL, .bool aR, .slice sa sn sc, .bool bL, .bool bR, .slice ta tn tc] ∧ Row W (w.heap.size + 1) 24 #[.bool false, .bool false, .slice none 0 0] ∧ Below w.heap.size w W) := Lib.hid (fun W h => ⟨r1.below h (by omega), r2.below h (by omega), hb2.trans (h.mono hb2.size)⟩)
  have HK : Hid (∀ W, Below w2.heap.size w2 W → KL W (.slice sa sn sc) aN ∧ KL W (.slice ta tn tc) bN) := Lib.hid (fun W h => HKab.out W (hb2.trans (h.mono hb2.size)))
  have HW2 := Lib.hid hw2
  have HS2 := Lib.hid hs2
  have HSN := Lib.hid hsn
  have HTN := Lib.hid htn
  have HCE := Lib.hid hcE
  have HRA := Lib.hid hrA
  have HB22 := Lib.hid (Below.refl w2.heap.size w2)
  have hle1 : w.heap.size ≤ w.heap.size + 1 := Nat.le_succ _
  rw [← hsn] at hla
  rw [← htn] at hlb
  have HIA : Hid (InL aN) := Lib.hid ha
  clear hs ht hw2 hs2 r1 r2 hsn htn hb2 hcE hrA ha HKab hra hrb
  have hp0 := HP.out w2 HB22.out
  obtain ⟨k0, k1, k2, k3, k4, k5⟩ := srow6 hp0.1
  rw [HW2.out] at k0 k1 k2 k3 k4 k5
  clear hp0
  go_enter Tryz.func58, Tryz.ntmps58
  go_wp2_with (go_at_call 76; refine (one_s _ _).mono ?_; rintro e w3 ⟨va, vn, vc, rfl, hk, hb⟩; rw [← HW2.out] at hb; have HB3 := Lib.hid hb; have HK3 := Lib.hid hk; clear hk hb; obtain ⟨dw30, dw31, dw32, fw30, fw31, fw32⟩ := srow3 (HP.out w3 HB3.out).2.1; )
  have hf := fin_of (HP.out w3 HB3.out).2.2 hle1 (HP.out w3 HB3.out).2.1 (.bool false) (.bool false) (.slice va vn vc)
  refine bodyPost_ret (v := .tuple #[.agg #[.bool false, .bool false, .slice va vn vc], .nilIface]) (by simp [results, Tryz.f58, go_sem, hf.c0, hf.c1, hf.c2]) rfl ⟨hf.below, .inl ⟨HCE.out, .slice va vn vc, by rw [show rA = ⟨false, false, [(tn : Int)]⟩ from by rw [HRA.out, HTN.out]; rfl], by rw [show rA = ⟨false, false, [(tn : Int)]⟩ from by rw [HRA.out, HTN.out]; rfl]; exact hf.kl _ _ HK3.out⟩⟩
set_option maxRecDepth 100000 in
set_option maxHeartbeats 4000000 in
theorem listed_c (a b : Ary) (s t : Value) (w : World) (hs : KL w s a.n) (ht : KL w t b.n) (ha : InL a.n) (hra : rightA a = true) (hrb : rightA b = true) : Calls Tryz.prog 51 #[pairV a b s t] w fun e w' => MkOut (0) (⟨true, b.runes, b.n⟩) w e w' := by
  have hla := right200 hra
  have hlb := right200 hrb
  obtain ⟨cE, hcE⟩ : ∃ c : Int, c = 0 := ⟨_, rfl⟩
  obtain ⟨rA, hrA⟩ : ∃ r : Ary, r = ⟨true, b.runes, b.n⟩ := ⟨_, rfl⟩
  rw [← hrA, ← hcE]
  obtain ⟨aL, aR, aN⟩ := a
  obtain ⟨bL, bR, bN⟩ := b
  have HKab : Hid (∀ W, Below w.heap.size w W → KL W s aN ∧ KL W t bN) := Lib.hid (fun W h => ⟨hs.below h, ht.below h⟩)
  dsimp only [pairV] at *
  obtain ⟨sa, sc, hsf, -, -⟩ := hs.form
  obtain ⟨sn, hsn⟩ : ∃ sn, sn = aN.length := ⟨_, rfl⟩
  rw [← hsn] at hsf
  subst hsf
  obtain ⟨ta, tc, htf, -, -⟩ := ht.form
  obtain ⟨tn, htn⟩ : ∃ tn, tn = bN.length := ⟨_, rfl⟩
  rw [← htn] at htf
  subst htf
  obtain ⟨w2, hw2⟩ : ∃ w2, w2 = (w.alloc (.cells #[.bool aL, .bool aR, .slice sa sn sc, .bool bL, .bool bR, .slice ta tn tc] 64)).alloc (.cells #[.bool false, .bool false, .slice none 0 0] 24) := ⟨_, rfl⟩
  have hb2 : Below w.heap.size w w2 := by rw [hw2]; exact ((Below.refl _ w).alloc (Nat.le_refl _) _).alloc (by simp) _
  have hs2 : w2.heap.size = w.heap.size + 1 + 1 := by rw [hw2]; simp
  have r1 : Row w2 w.heap.size 64 #[.bool aL, .bool aR, .slice sa sn sc, .bool bL, .bool bR, .slice ta tn tc] := by rw [hw2]; exact (Row.new _ _ _).alloc _
  have r2 : Row w2 (w.heap.size + 1) 24 #[.bool false, .bool false, .slice none 0 0] := by rw [hw2]; exact Row.at _ _ _ _ (by simp)
  have HP : Hid (∀ W, Below w2.heap.size w2 W → Row W w.heap.size 64 #[.bool aL, .bool aR, .slice sa sn sc, .bool bL, .bool bR, .slice ta tn tc] ∧ Row W (w.heap.size + 1) 24 #[.bool false, .bool false, .slice none 0 0] ∧ Below w.heap.size w W) := Lib.hid (fun W h => ⟨r1.below h (by omega), r2.below h (by omega), hb2.trans (h.mono hb2.size)⟩)
  have HK : Hid (∀ W, Below w2.heap.size w2 W → KL W (.slice sa sn sc) aN ∧ KL W (.slice ta tn tc) bN) := Lib.hid (fun W h => HKab.out W (hb2.trans (h.mono hb2.size)))
  have HW2 := Lib.hid hw2
  have HS2 := Lib.hid hs2
  have HSN := Lib.hid hsn
  have HTN := Lib.hid htn
  have HCE := Lib.hid hcE
  have HRA := Lib.hid hrA
  have HB22 := Lib.hid (Below.refl w2.heap.size w2)
  have hle1 : w.heap.size ≤ w.heap.size + 1 := Nat.le_succ _
  rw [← hsn] at hla
  rw [← htn] at hlb
  have HIA : Hid (InL aN) := Lib.hid ha
  clear hs ht hw2 hs2 r1 r2 hsn htn hb2 hcE hrA ha HKab hra hrb
  have hkb := (HK.out w2 HB22.out).2
  have hj := join_one ⟨bL, bR, bN⟩ (.slice ta tn tc) w2 hkb (by rw [← HTN.out]; omega)
  rw [HS2.out, HW2.out] at hj
  have HJ := Lib.hid hj
  clear hkb hj
  go_enter Tryz.func51, Tryz.ntmps51
  go_wp2_with (go_at_call 75; refine (HJ.out).mono ?_; rintro e w3 ⟨va, vn, vc, rfl, hk, hb⟩; rw [← HW2.out, ← HS2.out] at hb; have HB3 := Lib.hid hb; have HK3 := Lib.hid hk; clear hk hb; obtain ⟨dw30, dw31, dw32, fw30, fw31, fw32⟩ := srow3 (HP.out w3 HB3.out).2.1; )
  have hf := fin_of (HP.out w3 HB3.out).2.2 hle1 (HP.out w3 HB3.out).2.1 (.bool true) (.bool bR) (.slice va vn vc)
  refine bodyPost_ret (v := .tuple #[.agg #[.bool true, .bool bR, .slice va vn vc], .nilIface]) (by simp [results, Tryz.f51, go_sem, hf.c0, hf.c1, hf.c2]) rfl ⟨hf.below, .inl ⟨HCE.out, .slice va vn vc, by rw [HRA.out], by rw [HRA.out]; exact hf.kl _ _ HK3.out⟩⟩
set_option maxRecDepth 100000 in
set_option maxHeartbeats 4000000 in
theorem lengths_c (a b : Ary) (s t : Value) (w : World) (hs : KL w s a.n) (ht : KL w t b.n) (ha : InL a.n) (hra : rightA a = true) (hrb : rightA b = true) : Calls Tryz.prog 47 #[pairV a b s t] w fun e w' => MkOut (0) (⟨true, false, if b.list then [(b.n.length : Int)] else []⟩) w e w' := by
  have hla := right200 hra
  have hlb := right200 hrb
  obtain ⟨cE, hcE⟩ : ∃ c : Int, c = 0 := ⟨_, rfl⟩
  obtain ⟨rA, hrA⟩ : ∃ r : Ary, r = ⟨true, false, if b.list then [(b.n.length : Int)] else []⟩ := ⟨_, rfl⟩
  rw [← hrA, ← hcE]
  obtain ⟨aL, aR, aN⟩ := a
  obtain ⟨bL, bR, bN⟩ := b
  have HKab : Hid (∀ W, Below w.heap.size w W → KL W s aN ∧ KL W t bN) := Lib.hid (fun W h => ⟨hs.below h, ht.below h⟩)
  dsimp only [pairV] at *
  obtain ⟨sa, sc, hsf, -, -⟩ := hs.form
  obtain ⟨sn, hsn⟩ : ∃ sn, sn = aN.length := ⟨_, rfl⟩
  rw [← hsn] at hsf
  subst hsf
  obtain ⟨ta, tc, htf, -, -⟩ := ht.form
  obtain ⟨tn, htn⟩ : ∃ tn, tn = bN.length := ⟨_, rfl⟩
  rw [← htn] at htf
  subst htf
  obtain ⟨w2, hw2⟩ : ∃ w2, w2 = (w.alloc (.cells #[.bool aL, .bool aR, .slice sa sn sc, .bool bL, .bool bR, .slice ta tn tc] 64)).alloc (.cells #[.bool false, .bool false, .slice none 0 0] 24) := ⟨_, rfl⟩
  have hb2 : Below w.heap.size w w2 := by rw [hw2]; exact ((Below.refl _ w).alloc (Nat.le_refl _) _).alloc (by simp) _
  have hs2 : w2.heap.size = w.heap.size + 1 + 1 := by rw [hw2]; simp
  have r1 : Row w2 w.heap.size 64 #[.bool aL, .bool aR, .slice sa sn sc, .bool bL, .bool bR, .slice ta tn tc] := by rw [hw2]; exact (Row.new _ _ _).alloc _
  have r2 : Row w2 (w.heap.size + 1) 24 #[.bool false, .bool false, .slice none 0 0] := by rw [hw2]; exact Row.at _ _ _ _ (by simp)
  have HP : Hid (∀ W, Below w2.heap.size w2 W → Row W w.heap.size 64 #[.bool aL, .bool aR, .slice sa sn sc, .bool bL, .bool bR, .slice ta tn tc] ∧ Row W (w.heap.size + 1) 24 #[.bool false, .bool false, .slice none 0 0] ∧ Below w.heap.size w W) := Lib.hid (fun W h => ⟨r1.below h (by omega), r2.below h (by omega), hb2.trans (h.mono hb2.size)⟩)
  have HK : Hid (∀ W, Below w2.heap.size w2 W → KL W (.slice sa sn sc) aN ∧ KL W (.slice ta tn tc) bN) := Lib.hid (fun W h => HKab.out W (hb2.trans (h.mono hb2.size)))
  have HW2 := Lib.hid hw2
  have HS2 := Lib.hid hs2
  have HSN := Lib.hid hsn
  have HTN := Lib.hid htn
  have HCE := Lib.hid hcE
  have HRA := Lib.hid hrA
  have HB22 := Lib.hid (Below.refl w2.heap.size w2)
  have hle1 : w.heap.size ≤ w.heap.size + 1 := Nat.le_succ _
  rw [← hsn] at hla
  rw [← htn] at hlb
  have HIA : Hid (InL aN) := Lib.hid ha
  clear hs ht hw2 hs2 r1 r2 hsn htn hb2 hcE hrA ha HKab hra hrb
  cases bL
  · go_enter Tryz.func47, Tryz.ntmps47
    go_wp2_with (go_at_call 74; refine (blank_s true false 0 (by omega) _).mono ?_; rintro e w3 ⟨va, vn, vc, rfl, hk, hb⟩; rw [← HW2.out] at hb; have HB3 := Lib.hid hb; have HK3 := Lib.hid hk; clear hk hb; obtain ⟨dw30, dw31, dw32, fw30, fw31, fw32⟩ := srow3 (HP.out w3 HB3.out).2.1; )
    have hf := fin_of (HP.out w3 HB3.out).2.2 hle1 (HP.out w3 HB3.out).2.1 (.bool true) (.bool false) (.slice va vn vc)
    refine bodyPost_ret (v := .tuple #[.agg #[.bool true, .bool false, .slice va vn vc], .nilIface]) (by simp [results, Tryz.f47, go_sem, hf.c0, hf.c1, hf.c2]) rfl ⟨hf.below, .inl ⟨HCE.out, .slice va vn vc, by rw [show rA = ⟨true, false, []⟩ from HRA.out], by rw [show rA = ⟨true, false, []⟩ from HRA.out]; exact hf.kl _ _ HK3.out⟩⟩
  · go_enter Tryz.func47, Tryz.ntmps47
    go_wp2_with (first
      | (go_at_call 76; refine (one_s _ _).mono ?_; rintro e w3 ⟨va, vn, vc, rfl, hk, hb⟩; rw [← HW2.out] at hb; have HB3 := Lib.hid hb; have HJ := Lib.hid (join_one ⟨false, false, [(tn : Int)]⟩ (.slice va vn vc) w3 hk (by simp)); clear hk hb)
      | (go_at_call 75; refine (HJ.out).mono ?_; rintro e w4 ⟨va, vn, vc, rfl, hk, hb⟩; have HB4 := Lib.hid (HB3.out.trans (hb.mono HB3.out.size)); have HK3 := Lib.hid hk; clear hk hb; obtain ⟨dw40, dw41, dw42, fw40, fw41, fw42⟩ := srow3 (HP.out w4 HB4.out).2.1; ))
    have hf := fin_of (HP.out w4 HB4.out).2.2 hle1 (HP.out w4 HB4.out).2.1 (.bool true) (.bool false) (.slice va vn vc)
    refine bodyPost_ret (v := .tuple #[.agg #[.bool true, .bool false, .slice va vn vc], .nilIface]) (by simp [results, Tryz.f47, go_sem, hf.c0, hf.c1, hf.c2]) rfl ⟨hf.below, .inl ⟨HCE.out, .slice va vn vc, by rw [show rA = ⟨true, false, [(tn : Int)]⟩ from by rw [HRA.out, HTN.out]; rfl], by rw [show rA = ⟨true, false, [(tn : Int)]⟩ from by rw [HRA.out, HTN.out]; rfl]; exact hf.kl _ _ HK3.out⟩⟩
set_option maxRecDepth 100000 in
set_option maxHeartbeats 4000000 in
theorem differs_c (a b : Ary) (s t : Value) (w : World) (hs : KL w s a.n) (ht : KL w t b.n) (ha : InL a.n) (hra : rightA a = true) (hrb : rightA b = true) : Calls Tryz.prog 59 #[pairV a b s t] w fun e w' => MkOut (0) (oneAr (if decide (a.list = b.list) && (decide (a.runes = b.runes) && decide (a.n = b.n)) then 0 else 1)) w e w' := by
  have hla := right200 hra
  have hlb := right200 hrb
  obtain ⟨cE, hcE⟩ : ∃ c : Int, c = 0 := ⟨_, rfl⟩
  obtain ⟨rA, hrA⟩ : ∃ r : Ary, r = oneAr (if decide (a.list = b.list) && (decide (a.runes = b.runes) && decide (a.n = b.n)) then 0 else 1) := ⟨_, rfl⟩
  rw [← hrA, ← hcE]
  obtain ⟨aL, aR, aN⟩ := a
  obtain ⟨bL, bR, bN⟩ := b
  have HKab : Hid (∀ W, Below w.heap.size w W → KL W s aN ∧ KL W t bN) := Lib.hid (fun W h => ⟨hs.below h, ht.below h⟩)
  dsimp only [pairV] at *
  obtain ⟨sa, sc, hsf, -, -⟩ := hs.form
  obtain ⟨sn, hsn⟩ : ∃ sn, sn = aN.length := ⟨_, rfl⟩
  rw [← hsn] at hsf
  subst hsf
  obtain ⟨ta, tc, htf, -, -⟩ := ht.form
  obtain ⟨tn, htn⟩ : ∃ tn, tn = bN.length := ⟨_, rfl⟩
  rw [← htn] at htf
  subst htf
  obtain ⟨w2, hw2⟩ : ∃ w2, w2 = (w.alloc (.cells #[.bool aL, .bool aR, .slice sa sn sc, .bool bL, .bool bR, .slice ta tn tc] 64)).alloc (.cells #[.bool false, .bool false, .slice none 0 0] 24) := ⟨_, rfl⟩
  have hb2 : Below w.heap.size w w2 := by rw [hw2]; exact ((Below.refl _ w).alloc (Nat.le_refl _) _).alloc (by simp) _
  have hs2 : w2.heap.size = w.heap.size + 1 + 1 := by rw [hw2]; simp
  have r1 : Row w2 w.heap.size 64 #[.bool aL, .bool aR, .slice sa sn sc, .bool bL, .bool bR, .slice ta tn tc] := by rw [hw2]; exact (Row.new _ _ _).alloc _
  have r2 : Row w2 (w.heap.size + 1) 24 #[.bool false, .bool false, .slice none 0 0] := by rw [hw2]; exact Row.at _ _ _ _ (by simp)
  have HP : Hid (∀ W, Below w2.heap.size w2 W → Row W w.heap.size 64 #[.bool aL, .bool aR, .slice sa sn sc, .bool bL, .bool bR, .slice ta tn tc] ∧ Row W (w.heap.size + 1) 24 #[.bool false, .bool false, .slice none 0 0] ∧ Below w.heap.size w W) := Lib.hid (fun W h => ⟨r1.below h (by omega), r2.below h (by omega), hb2.trans (h.mono hb2.size)⟩)
  have HK : Hid (∀ W, Below w2.heap.size w2 W → KL W (.slice sa sn sc) aN ∧ KL W (.slice ta tn tc) bN) := Lib.hid (fun W h => HKab.out W (hb2.trans (h.mono hb2.size)))
  have HW2 := Lib.hid hw2
  have HS2 := Lib.hid hs2
  have HSN := Lib.hid hsn
  have HTN := Lib.hid htn
  have HCE := Lib.hid hcE
  have HRA := Lib.hid hrA
  have HB22 := Lib.hid (Below.refl w2.heap.size w2)
  have hle1 : w.heap.size ≤ w.heap.size + 1 := Nat.le_succ _
  rw [← hsn] at hla
  rw [← htn] at hlb
  have HIA : Hid (InL aN) := Lib.hid ha
  clear hs ht hw2 hs2 r1 r2 hsn htn hb2 hcE hrA ha HKab hra hrb
  have hkb := HK.out w2 HB22.out
  have hj := same_c ⟨aL, aR, aN⟩ ⟨bL, bR, bN⟩ (.slice sa sn sc) (.slice ta tn tc) w2 hkb.1 hkb.2
  obtain ⟨sm, hsm⟩ : ∃ sm, sm = sameA ⟨aL, aR, aN⟩ ⟨bL, bR, bN⟩ := ⟨_, rfl⟩
  rw [← hsm, HS2.out, HW2.out] at hj
  have HJ := Lib.hid hj
  have HSM : Hid (rA = oneAr (if sm then 0 else 1)) := Lib.hid (by rw [HRA.out, hsm]; rfl)
  clear hkb hj hsm
  cases sm
  · go_enter Tryz.func59, Tryz.ntmps59
    go_wp2_with (first
      | (go_at_call 27; refine (HJ.out).mono ?_; rintro e w3 ⟨rfl, hb⟩; rw [← HW2.out, ← HS2.out] at hb; have HB3 := Lib.hid hb; clear hb)
      | (go_at_call 76; refine (one_s _ _).mono ?_; rintro e w4 ⟨va, vn, vc, rfl, hk, hb⟩; have HB4 := Lib.hid (HB3.out.trans (hb.mono HB3.out.size)); have HK3 := Lib.hid hk; clear hk hb; obtain ⟨dw40, dw41, dw42, fw40, fw41, fw42⟩ := srow3 (HP.out w4 HB4.out).2.1; ))
    have hf := fin_of (HP.out w4 HB4.out).2.2 hle1 (HP.out w4 HB4.out).2.1 (.bool false) (.bool false) (.slice va vn vc)
    refine bodyPost_ret (v := .tuple #[.agg #[.bool false, .bool false, .slice va vn vc], .nilIface]) (by simp [results, Tryz.f59, go_sem, hf.c0, hf.c1, hf.c2]) rfl ⟨hf.below, .inl ⟨HCE.out, .slice va vn vc, by rw [show rA = ⟨false, false, [1]⟩ from HSM.out], by rw [show rA = ⟨false, false, [1]⟩ from HSM.out]; exact hf.kl _ _ HK3.out⟩⟩
  · go_enter Tryz.func59, Tryz.ntmps59
    go_wp2_with (first
      | (go_at_call 27; refine (HJ.out).mono ?_; rintro e w3 ⟨rfl, hb⟩; rw [← HW2.out, ← HS2.out] at hb; have HB3 := Lib.hid hb; clear hb)
      | (go_at_call 76; refine (one_s _ _).mono ?_; rintro e w4 ⟨va, vn, vc, rfl, hk, hb⟩; have HB4 := Lib.hid (HB3.out.trans (hb.mono HB3.out.size)); have HK3 := Lib.hid hk; clear hk hb; obtain ⟨dw40, dw41, dw42, fw40, fw41, fw42⟩ := srow3 (HP.out w4 HB4.out).2.1; ))
    have hf := fin_of (HP.out w4 HB4.out).2.2 hle1 (HP.out w4 HB4.out).2.1 (.bool false) (.bool false) (.slice va vn vc)
    refine bodyPost_ret (v := .tuple #[.agg #[.bool false, .bool false, .slice va vn vc], .nilIface]) (by simp [results, Tryz.f59, go_sem, hf.c0, hf.c1, hf.c2]) rfl ⟨hf.below, .inl ⟨HCE.out, .slice va vn vc, by rw [show rA = ⟨false, false, [0]⟩ from HSM.out], by rw [show rA = ⟨false, false, [0]⟩ from HSM.out]; exact hf.kl _ _ HK3.out⟩⟩
end Go.Proofs.YteclpoooggcdoaaGreatDoor.Ar
/- shape's makers: dropped, joined (by wip/gen/mkshmk.py). -/
namespace Go.Proofs.YteclpoooggcdoaaGreatDoor.Ar
open Go Go.RowKit
attribute [local go_sem] Oper.semAt_some

set_option maxRecDepth 100000 in
set_option maxHeartbeats 4000000 in
theorem dropped_c (a b : Ary) (s t : Value) (w : World) (hs : KL w s a.n) (ht : KL w t b.n) (ha : InL a.n) (hra : rightA a = true) (hrb : rightA b = true) : Calls Tryz.prog 57 #[pairV a b s t] w fun e w' => MkOut (numE a) (⟨true, b.runes, otL (numV a) b.n⟩) w e w' := by
  have hla := right200 hra
  have hlb := right200 hrb
  obtain ⟨cE, hcE⟩ : ∃ c : Int, c = numE a := ⟨_, rfl⟩
  obtain ⟨rA, hrA⟩ : ∃ r : Ary, r = ⟨true, b.runes, otL (numV a) b.n⟩ := ⟨_, rfl⟩
  rw [← hrA, ← hcE]
  obtain ⟨aL, aR, aN⟩ := a
  obtain ⟨bL, bR, bN⟩ := b
  have HKab : Hid (∀ W, Below w.heap.size w W → KL W s aN ∧ KL W t bN) := Lib.hid (fun W h => ⟨hs.below h, ht.below h⟩)
  dsimp only [pairV] at *
  obtain ⟨sa, sc, hsf, -, -⟩ := hs.form
  obtain ⟨sn, hsn⟩ : ∃ sn, sn = aN.length := ⟨_, rfl⟩
  rw [← hsn] at hsf
  subst hsf
  obtain ⟨ta, tc, htf, -, -⟩ := ht.form
  obtain ⟨tn, htn⟩ : ∃ tn, tn = bN.length := ⟨_, rfl⟩
  rw [← htn] at htf
  subst htf
  obtain ⟨w2, hw2⟩ : ∃ w2, w2 = (w.alloc (.cells #[.bool aL, .bool aR, .slice sa sn sc, .bool bL, .bool bR, .slice ta tn tc] 64)).alloc (.cells #[.bool false, .bool false, .slice none 0 0] 24) := ⟨_, rfl⟩
  have hb2 : Below w.heap.size w w2 := by rw [hw2]; exact ((Below.refl _ w).alloc (Nat.le_refl _) _).alloc (by simp) _
  have hs2 : w2.heap.size = w.heap.size + 1 + 1 := by rw [hw2]; simp
  have r1 : Row w2 w.heap.size 64 #[.bool aL, .bool aR, .slice sa sn sc, .bool bL, .bool bR, .slice ta tn tc] := by rw [hw2]; exact (Row.new _ _ _).alloc _
  have r2 : Row w2 (w.heap.size + 1) 24 #[.bool false, .bool false, .slice none 0 0] := by rw [hw2]; exact Row.at _ _ _ _ (by simp)
  have HP : Hid (∀ W, Below w2.heap.size w2 W → Row W w.heap.size 64 #[.bool aL, .bool aR, .slice sa sn sc, .bool bL, .bool bR, .slice ta tn tc] ∧ Row W (w.heap.size + 1) 24 #[.bool false, .bool false, .slice none 0 0] ∧ Below w.heap.size w W) := Lib.hid (fun W h => ⟨r1.below h (by omega), r2.below h (by omega), hb2.trans (h.mono hb2.size)⟩)
  have HK : Hid (∀ W, Below w2.heap.size w2 W → KL W (.slice sa sn sc) aN ∧ KL W (.slice ta tn tc) bN) := Lib.hid (fun W h => HKab.out W (hb2.trans (h.mono hb2.size)))
  have HW2 := Lib.hid hw2
  have HS2 := Lib.hid hs2
  have HSN := Lib.hid hsn
  have HTN := Lib.hid htn
  have HCE := Lib.hid hcE
  have HRA := Lib.hid hrA
  have HB22 := Lib.hid (Below.refl w2.heap.size w2)
  have hle1 : w.heap.size ≤ w.heap.size + 1 := Nat.le_succ _
  rw [← hsn] at hla
  rw [← htn] at hlb
  have HIA : Hid (InL aN) := Lib.hid ha
  clear hs ht hw2 hs2 r1 r2 hsn htn hb2 hcE hrA ha HKab hra hrb
  have hn := num_c ⟨aL, aR, aN⟩ (.slice sa sn sc) w2 (HK.out w2 HB22.out).1
  obtain ⟨x, hx⟩ : ∃ x : Int, x = numV ⟨aL, aR, aN⟩ := ⟨_, rfl⟩
  have HIX : Hid (Nu.In x) := Lib.hid (by
    rw [hx]
    unfold numV
    cases aN with
    | nil => exact (by decide : Nu.In 0)
    | cons y L => exact HIA.out y (by simp))
  rw [← hx] at hn
  have HX := Lib.hid hx
  have hp0 := HP.out w2 HB22.out
  obtain ⟨k0, k1, k2, k3, k4, k5⟩ := srow6 hp0.1
  rw [HW2.out] at k0 k1 k2 k3 k4 k5
  rw [← HCE.out, HW2.out] at hn
  have HN : Hid (Calls Tryz.prog 78 #[.agg #[.bool aL, .bool aR, .slice sa sn sc]] _ fun e w' => Below w2.heap.size w2 w' ∧ ((cE = 0 ∧ e = .returned (.tuple #[.int .i64 x, .nilIface])) ∨ (cE ≠ 0 ∧ e = .returned (.tuple #[.int .i64 0, sh_faultV cE])))) := Lib.hid (hn.mono fun e w' h => by unfold NumOut at h; rw [← HW2.out] at h; exact h)
  have HLB : Hid (bN.length ≤ 1000) := Lib.hid (by rw [← HTN.out]; omega)
  clear hn hx hp0
  by_cases h0 : cE = 0
  · go_enter Tryz.func57, Tryz.ntmps57
    go_wp2_with (first
      | (go_at_call 78; refine HN.out.mono ?_; rintro e w3 ⟨hb, ⟨_, rfl⟩ | ⟨h, _⟩⟩; rotate_left; exact absurd h0 h; have HB3 := Lib.hid hb; clear hb; obtain ⟨kw30, kw31, kw32, kw33, kw34, kw35⟩ := srow6 (HP.out w3 HB3.out).1; obtain ⟨dw30, dw31, dw32, fw30, fw31, fw32⟩ := srow3 (HP.out w3 HB3.out).2.1; skip)
      | (go_at_call 79; refine (cut_c ⟨aL, aR, aN⟩ ⟨bL, bR, bN⟩ (.slice sa sn sc) (.slice ta tn tc) x w3 (HK.out w3 HB3.out).1 (HK.out w3 HB3.out).2 HLB.out HIX.out).mono ?_; rintro e w4 ⟨va, vn, vc, ua, un, uc, rfl, hk1, hk2, hb⟩; have HB4 := Lib.hid (HB3.out.trans (hb.mono HB3.out.size)); have HK1 := Lib.hid hk1; have HK2 := Lib.hid hk2; clear hk1 hk2 hb; obtain ⟨w5, hw5⟩ : ∃ w5, w5 = (w4.alloc (.cells #[.bool true, .bool bR, .slice va vn vc] 24)).alloc (.cells #[.bool true, .bool bR, .slice ua un uc] 24) := ⟨_, rfl⟩; obtain ⟨h45, hs5⟩ := two_facts hw5; have HB5 := Lib.hid (HB4.out.trans (h45.mono HB4.out.size)); have HW5 := Lib.hid hw5; have HS5 := Lib.hid hs5; have HK15 := Lib.hid (HK1.out.below h45); have HK25 := Lib.hid (HK2.out.below h45); have hj := join_one ⟨true, bR, otL x bN⟩ (.slice ua un uc) w5 HK25.out (le1000 HLB.out); rw [hs5, hw5] at hj; have HJ := Lib.hid hj; clear hj hs5 hw5 h45; skip)
      | (go_at_call 75; refine HJ.out.mono ?_; rintro e w6 ⟨ya, yn, yc, rfl, hk, hb⟩; rw [← HW5.out, ← HS5.out] at hb; have HB6 := Lib.hid (HB5.out.trans (hb.mono HB5.out.size)); have HK6 := Lib.hid hk; clear hk hb; obtain ⟨dw60, dw61, dw62, fw60, fw61, fw62⟩ := srow3 (HP.out w6 HB6.out).2.1; skip))
    have hf := fin_of (HP.out w6 HB6.out).2.2 hle1 (HP.out w6 HB6.out).2.1 (.bool true) (.bool bR) (.slice ya yn yc)
    refine bodyPost_ret (v := .tuple #[.agg #[.bool true, .bool bR, .slice ya yn yc], .nilIface]) (by simp [results, Tryz.f57, go_sem, hf.c0, hf.c1, hf.c2]) rfl ⟨hf.below, .inl ⟨h0, .slice ya yn yc, by rw [show rA = ⟨true, bR, otL x bN⟩ from by rw [HRA.out, HX.out]], by rw [show rA = ⟨true, bR, otL x bN⟩ from by rw [HRA.out, HX.out]]; exact hf.kl _ _ HK6.out⟩⟩
  · go_enter Tryz.func57, Tryz.ntmps57
    go_wp2_with (go_at_call 78; refine HN.out.mono ?_; rintro e w3 ⟨hb, ⟨h, _⟩ | ⟨_, rfl⟩⟩; exact absurd h h0; have HB3 := Lib.hid hb; clear hb; obtain ⟨kw30, kw31, kw32, kw33, kw34, kw35⟩ := srow6 (HP.out w3 HB3.out).1; obtain ⟨dw30, dw31, dw32, fw30, fw31, fw32⟩ := srow3 (HP.out w3 HB3.out).2.1; skip)
    have hf := fin_of (HP.out w3 HB3.out).2.2 hle1 (HP.out w3 HB3.out).2.1 (.bool false) (.bool false) (.slice none 0 0)
    refine bodyPost_ret (v := .tuple #[.agg #[.bool false, .bool false, .slice none 0 0], sh_faultV (cE)]) (by simp [results, Tryz.f57, go_sem, hf.c0, hf.c1, hf.c2]) rfl ⟨hf.below, .inr ⟨h0, rfl⟩⟩
set_option maxRecDepth 100000 in
set_option maxHeartbeats 4000000 in
theorem joined_c (a b : Ary) (s t : Value) (w : World) (hs : KL w s a.n) (ht : KL w t b.n) (ha : InL a.n) (hra : rightA a = true) (hrb : rightA b = true) : Calls Tryz.prog 52 #[pairV a b s t] w fun e w' => MkOut (if 0 < a.n.length ∧ 0 < b.n.length ∧ a.runes ≠ b.runes then 102 else if 200 < a.n.length + b.n.length then 113 else 0) (⟨true, hasAny [a, b], a.n ++ b.n⟩) w e w' := by
  have hla := right200 hra
  have hlb := right200 hrb
  obtain ⟨cE, hcE⟩ : ∃ c : Int, c = if 0 < a.n.length ∧ 0 < b.n.length ∧ a.runes ≠ b.runes then 102 else if 200 < a.n.length + b.n.length then 113 else 0 := ⟨_, rfl⟩
  obtain ⟨rA, hrA⟩ : ∃ r : Ary, r = ⟨true, hasAny [a, b], a.n ++ b.n⟩ := ⟨_, rfl⟩
  rw [← hrA, ← hcE]
  obtain ⟨aL, aR, aN⟩ := a
  obtain ⟨bL, bR, bN⟩ := b
  have HKab : Hid (∀ W, Below w.heap.size w W → KL W s aN ∧ KL W t bN) := Lib.hid (fun W h => ⟨hs.below h, ht.below h⟩)
  dsimp only [pairV] at *
  obtain ⟨sa, sc, hsf, -, -⟩ := hs.form
  obtain ⟨sn, hsn⟩ : ∃ sn, sn = aN.length := ⟨_, rfl⟩
  rw [← hsn] at hsf
  subst hsf
  obtain ⟨ta, tc, htf, -, -⟩ := ht.form
  obtain ⟨tn, htn⟩ : ∃ tn, tn = bN.length := ⟨_, rfl⟩
  rw [← htn] at htf
  subst htf
  obtain ⟨w2, hw2⟩ : ∃ w2, w2 = (w.alloc (.cells #[.bool aL, .bool aR, .slice sa sn sc, .bool bL, .bool bR, .slice ta tn tc] 64)).alloc (.cells #[.bool false, .bool false, .slice none 0 0] 24) := ⟨_, rfl⟩
  have hb2 : Below w.heap.size w w2 := by rw [hw2]; exact ((Below.refl _ w).alloc (Nat.le_refl _) _).alloc (by simp) _
  have hs2 : w2.heap.size = w.heap.size + 1 + 1 := by rw [hw2]; simp
  have r1 : Row w2 w.heap.size 64 #[.bool aL, .bool aR, .slice sa sn sc, .bool bL, .bool bR, .slice ta tn tc] := by rw [hw2]; exact (Row.new _ _ _).alloc _
  have r2 : Row w2 (w.heap.size + 1) 24 #[.bool false, .bool false, .slice none 0 0] := by rw [hw2]; exact Row.at _ _ _ _ (by simp)
  have HP : Hid (∀ W, Below w2.heap.size w2 W → Row W w.heap.size 64 #[.bool aL, .bool aR, .slice sa sn sc, .bool bL, .bool bR, .slice ta tn tc] ∧ Row W (w.heap.size + 1) 24 #[.bool false, .bool false, .slice none 0 0] ∧ Below w.heap.size w W) := Lib.hid (fun W h => ⟨r1.below h (by omega), r2.below h (by omega), hb2.trans (h.mono hb2.size)⟩)
  have HK : Hid (∀ W, Below w2.heap.size w2 W → KL W (.slice sa sn sc) aN ∧ KL W (.slice ta tn tc) bN) := Lib.hid (fun W h => HKab.out W (hb2.trans (h.mono hb2.size)))
  have HW2 := Lib.hid hw2
  have HS2 := Lib.hid hs2
  have HSN := Lib.hid hsn
  have HTN := Lib.hid htn
  have HCE := Lib.hid hcE
  have HRA := Lib.hid hrA
  have HB22 := Lib.hid (Below.refl w2.heap.size w2)
  have hle1 : w.heap.size ≤ w.heap.size + 1 := Nat.le_succ _
  rw [← hsn] at hla
  rw [← htn] at hlb
  have HIA : Hid (InL aN) := Lib.hid ha
  clear hs ht hw2 hs2 r1 r2 hsn htn hb2 hcE hrA ha HKab hra hrb
  have hkb := HK.out w2 HB22.out
  have hj := join_two ⟨aL, aR, aN⟩ ⟨bL, bR, bN⟩ (.slice sa sn sc) (.slice ta tn tc) w2 hkb.1 hkb.2 (by rw [← HTN.out, ← HSN.out]; omega)
  rw [HS2.out, HW2.out] at hj
  obtain ⟨H, hH⟩ : ∃ H : Bool, H = hasAny [⟨aL, aR, aN⟩, ⟨bL, bR, bN⟩] := ⟨_, rfl⟩
  rw [← hH] at hj
  have HJ := Lib.hid hj
  have HH := Lib.hid hH
  have hce : cE = if 0 < sn ∧ 0 < tn ∧ aR ≠ bR then 102 else if 200 < sn + tn then 113 else 0 := by rw [HCE.out, HSN.out, HTN.out]
  have hp0 := HP.out w2 HB22.out
  obtain ⟨k0, k1, k2, k3, k4, k5⟩ := srow6 hp0.1
  rw [HW2.out] at k0 k1 k2 k3 k4 k5
  clear hkb hj hH hp0
  by_cases h1 : 0 < sn ∧ 0 < tn ∧ aR ≠ bR
  · rw [if_pos h1] at hce
    have HC9 := Lib.hid hce
    clear hce
    obtain ⟨h1, h2, h3⟩ := h1
    have h1' : (0 : Int) < (sn : Int) := by omega
    have h2' : (0 : Int) < (tn : Int) := by omega
    have h3' : (aR == bR) = false := by simpa using h3
    go_enter Tryz.func52, Tryz.ntmps52
    go_upto_region 2 with fail
    rw [← HW2.out]
    obtain ⟨d0, d1, d2, f0, f1, f2⟩ := srow3 (HP.out w2 HB22.out).2.1
    go_wp2
    have hf := fin_of (HP.out w2 HB22.out).2.2 hle1 (HP.out w2 HB22.out).2.1 (.bool false) (.bool false) (.slice none 0 0)
    refine bodyPost_ret (v := .tuple #[.agg #[.bool false, .bool false, .slice none 0 0], sh_faultV (102)]) (by simp [results, Tryz.f52, go_sem, hf.c0, hf.c1, hf.c2]) rfl ⟨hf.below, .inr ⟨by rw [HC9.out]; decide, by rw [HC9.out]⟩⟩
  · rw [if_neg h1] at hce
    by_cases h4 : 200 < sn + tn
    · rw [if_pos h4] at hce
      have HC9 := Lib.hid hce
      clear hce
      have h4' : (200 : Int) < (sn : Int) + (tn : Int) := by omega
      by_cases h5 : 0 < sn
      · have h1' : (0 : Int) < (sn : Int) := by omega
        by_cases h6 : 0 < tn
        · have h2' : (0 : Int) < (tn : Int) := by omega
          have h3' : (aR == bR) = true := by
            cases hq : (aR == bR) with
            | true => rfl
            | false => exact absurd ⟨h5, h6, by simpa using hq⟩ h1
          go_enter Tryz.func52, Tryz.ntmps52
          go_upto_region 4 with fail
          rw [← HW2.out]
          obtain ⟨d0, d1, d2, f0, f1, f2⟩ := srow3 (HP.out w2 HB22.out).2.1
          go_wp2
          have hf := fin_of (HP.out w2 HB22.out).2.2 hle1 (HP.out w2 HB22.out).2.1 (.bool false) (.bool false) (.slice none 0 0)
          refine bodyPost_ret (v := .tuple #[.agg #[.bool false, .bool false, .slice none 0 0], sh_faultV (113)]) (by simp [results, Tryz.f52, go_sem, hf.c0, hf.c1, hf.c2]) rfl ⟨hf.below, .inr ⟨by rw [HC9.out]; decide, by rw [HC9.out]⟩⟩
        · obtain rfl : tn = 0 := by omega
          exact absurd h4 (by omega)
      · obtain rfl : sn = 0 := by omega
        exact absurd h4 (by omega)
    · rw [if_neg h4] at hce
      have HC9 := Lib.hid hce
      clear hce
      have h4' : ¬ (200 : Int) < (sn : Int) + (tn : Int) := by omega
      by_cases h5 : 0 < sn
      · have h1' : (0 : Int) < (sn : Int) := by omega
        by_cases h6 : 0 < tn
        · have h2' : (0 : Int) < (tn : Int) := by omega
          have h3' : (aR == bR) = true := by
            cases hq : (aR == bR) with
            | true => rfl
            | false => exact absurd ⟨h5, h6, by simpa using hq⟩ h1
          go_enter Tryz.func52, Tryz.ntmps52
          go_wp2_with (go_at_call 75; refine HJ.out.mono ?_; rintro e w6 ⟨ya, yn, yc, rfl, hk, hb⟩; rw [← HW2.out, ← HS2.out] at hb; have HB6 := Lib.hid hb; have HK6 := Lib.hid hk; clear hk hb; obtain ⟨dw60, dw61, dw62, fw60, fw61, fw62⟩ := srow3 (HP.out w6 HB6.out).2.1; skip)
          have hf := fin_of (HP.out w6 HB6.out).2.2 hle1 (HP.out w6 HB6.out).2.1 (.bool true) (.bool H) (.slice ya yn yc)
          refine bodyPost_ret (v := .tuple #[.agg #[.bool true, .bool H, .slice ya yn yc], .nilIface]) (by simp [results, Tryz.f52, go_sem, hf.c0, hf.c1, hf.c2]) rfl ⟨hf.below, .inl ⟨HC9.out, .slice ya yn yc, by rw [show rA = ⟨true, H, aN ++ bN⟩ from by rw [HRA.out, HH.out]], by rw [show rA = ⟨true, H, aN ++ bN⟩ from by rw [HRA.out, HH.out]]; exact hf.kl _ _ HK6.out⟩⟩
        · obtain rfl : tn = 0 := by omega
          go_enter Tryz.func52, Tryz.ntmps52
          go_wp2_with (go_at_call 75; refine HJ.out.mono ?_; rintro e w6 ⟨ya, yn, yc, rfl, hk, hb⟩; rw [← HW2.out, ← HS2.out] at hb; have HB6 := Lib.hid hb; have HK6 := Lib.hid hk; clear hk hb; obtain ⟨dw60, dw61, dw62, fw60, fw61, fw62⟩ := srow3 (HP.out w6 HB6.out).2.1; skip)
          have hf := fin_of (HP.out w6 HB6.out).2.2 hle1 (HP.out w6 HB6.out).2.1 (.bool true) (.bool H) (.slice ya yn yc)
          refine bodyPost_ret (v := .tuple #[.agg #[.bool true, .bool H, .slice ya yn yc], .nilIface]) (by simp [results, Tryz.f52, go_sem, hf.c0, hf.c1, hf.c2]) rfl ⟨hf.below, .inl ⟨HC9.out, .slice ya yn yc, by rw [show rA = ⟨true, H, aN ++ bN⟩ from by rw [HRA.out, HH.out]], by rw [show rA = ⟨true, H, aN ++ bN⟩ from by rw [HRA.out, HH.out]]; exact hf.kl _ _ HK6.out⟩⟩
      · obtain rfl : sn = 0 := by omega
        go_enter Tryz.func52, Tryz.ntmps52
        go_wp2_with (go_at_call 75; refine HJ.out.mono ?_; rintro e w6 ⟨ya, yn, yc, rfl, hk, hb⟩; rw [← HW2.out, ← HS2.out] at hb; have HB6 := Lib.hid hb; have HK6 := Lib.hid hk; clear hk hb; obtain ⟨dw60, dw61, dw62, fw60, fw61, fw62⟩ := srow3 (HP.out w6 HB6.out).2.1; skip)
        have hf := fin_of (HP.out w6 HB6.out).2.2 hle1 (HP.out w6 HB6.out).2.1 (.bool true) (.bool H) (.slice ya yn yc)
        refine bodyPost_ret (v := .tuple #[.agg #[.bool true, .bool H, .slice ya yn yc], .nilIface]) (by simp [results, Tryz.f52, go_sem, hf.c0, hf.c1, hf.c2]) rfl ⟨hf.below, .inl ⟨HC9.out, .slice ya yn yc, by rw [show rA = ⟨true, H, aN ++ bN⟩ from by rw [HRA.out, HH.out]], by rw [show rA = ⟨true, H, aN ++ bN⟩ from by rw [HRA.out, HH.out]]; exact hf.kl _ _ HK6.out⟩⟩
end Go.Proofs.YteclpoooggcdoaaGreatDoor.Ar
/- shape's makers: turned (by wip/gen/mkshmk.py). -/
namespace Go.Proofs.YteclpoooggcdoaaGreatDoor.Ar
open Go Go.RowKit
attribute [local go_sem] Oper.semAt_some

theorem tmod_rot (x : Int) {n : Nat} (h : 0 < n) : (x.tmod (n : Int) + (n : Int)).tmod (n : Int) = x % (n : Int) ∧ 0 ≤ x.tmod (n : Int) + (n : Int) ∧ x.tmod (n : Int) + (n : Int) ≤ 2 * (n : Int) ∧ -(n : Int) ≤ x.tmod (n : Int) ∧ x.tmod (n : Int) ≤ (n : Int) := by
  have hn : (0 : Int) < (n : Int) := by omega
  have h1 : x.tmod (n : Int) < (n : Int) := Int.tmod_lt_of_pos x hn
  have h2 : -(n : Int) < x.tmod (n : Int) := by
    have := Int.lt_tmod_of_pos x hn
    omega
  refine ⟨?_, by omega, by omega, by omega, by omega⟩
  rw [Int.tmod_eq_emod_of_nonneg (by omega), Int.add_emod_right]
  have e := Int.tmod_add_mul_tdiv x (n : Int)
  rw [← e]
  conv => rhs; rw [Int.add_mul_emod_self_left]
  rw [e]
theorem rot_parts {x : Int} {L : List Int} (h : 0 < L.length) : otL (x % (L.length : Int)) L ++ tkL (x % (L.length : Int)) L = rotL x L := by
  have h2 := Int.emod_nonneg x (show (L.length : Int) ≠ 0 by omega)
  rw [otL_pos _ h2, tkL_pos _ h2]
  rfl
set_option maxRecDepth 100000 in
set_option maxHeartbeats 4000000 in
theorem turned_c (a b : Ary) (s t : Value) (w : World) (hs : KL w s a.n) (ht : KL w t b.n) (ha : InL a.n) (hra : rightA a = true) (hrb : rightA b = true) : Calls Tryz.prog 54 #[pairV a b s t] w fun e w' => MkOut (numE a) (⟨b.list, b.runes, rotL (numV a) b.n⟩) w e w' := by
  have hla := right200 hra
  have hlb := right200 hrb
  obtain ⟨cE, hcE⟩ : ∃ c : Int, c = numE a := ⟨_, rfl⟩
  obtain ⟨rA, hrA⟩ : ∃ r : Ary, r = ⟨b.list, b.runes, rotL (numV a) b.n⟩ := ⟨_, rfl⟩
  rw [← hrA, ← hcE]
  obtain ⟨aL, aR, aN⟩ := a
  obtain ⟨bL, bR, bN⟩ := b
  have HKab : Hid (∀ W, Below w.heap.size w W → KL W s aN ∧ KL W t bN) := Lib.hid (fun W h => ⟨hs.below h, ht.below h⟩)
  dsimp only [pairV] at *
  obtain ⟨sa, sc, hsf, -, -⟩ := hs.form
  obtain ⟨sn, hsn⟩ : ∃ sn, sn = aN.length := ⟨_, rfl⟩
  rw [← hsn] at hsf
  subst hsf
  obtain ⟨ta, tc, htf, -, -⟩ := ht.form
  obtain ⟨tn, htn⟩ : ∃ tn, tn = bN.length := ⟨_, rfl⟩
  rw [← htn] at htf
  subst htf
  obtain ⟨w2, hw2⟩ : ∃ w2, w2 = (w.alloc (.cells #[.bool aL, .bool aR, .slice sa sn sc, .bool bL, .bool bR, .slice ta tn tc] 64)).alloc (.cells #[.bool false, .bool false, .slice none 0 0] 24) := ⟨_, rfl⟩
  have hb2 : Below w.heap.size w w2 := by rw [hw2]; exact ((Below.refl _ w).alloc (Nat.le_refl _) _).alloc (by simp) _
  have hs2 : w2.heap.size = w.heap.size + 1 + 1 := by rw [hw2]; simp
  have r1 : Row w2 w.heap.size 64 #[.bool aL, .bool aR, .slice sa sn sc, .bool bL, .bool bR, .slice ta tn tc] := by rw [hw2]; exact (Row.new _ _ _).alloc _
  have r2 : Row w2 (w.heap.size + 1) 24 #[.bool false, .bool false, .slice none 0 0] := by rw [hw2]; exact Row.at _ _ _ _ (by simp)
  have HP : Hid (∀ W, Below w2.heap.size w2 W → Row W w.heap.size 64 #[.bool aL, .bool aR, .slice sa sn sc, .bool bL, .bool bR, .slice ta tn tc] ∧ Row W (w.heap.size + 1) 24 #[.bool false, .bool false, .slice none 0 0] ∧ Below w.heap.size w W) := Lib.hid (fun W h => ⟨r1.below h (by omega), r2.below h (by omega), hb2.trans (h.mono hb2.size)⟩)
  have HK : Hid (∀ W, Below w2.heap.size w2 W → KL W (.slice sa sn sc) aN ∧ KL W (.slice ta tn tc) bN) := Lib.hid (fun W h => HKab.out W (hb2.trans (h.mono hb2.size)))
  have HW2 := Lib.hid hw2
  have HS2 := Lib.hid hs2
  have HSN := Lib.hid hsn
  have HTN := Lib.hid htn
  have HCE := Lib.hid hcE
  have HRA := Lib.hid hrA
  have HB22 := Lib.hid (Below.refl w2.heap.size w2)
  have hle1 : w.heap.size ≤ w.heap.size + 1 := Nat.le_succ _
  rw [← hsn] at hla
  rw [← htn] at hlb
  have HIA : Hid (InL aN) := Lib.hid ha
  clear hs ht hw2 hs2 r1 r2 hsn htn hb2 hcE hrA ha HKab hra hrb
  have hn := num_c ⟨aL, aR, aN⟩ (.slice sa sn sc) w2 (HK.out w2 HB22.out).1
  obtain ⟨x, hx⟩ : ∃ x : Int, x = numV ⟨aL, aR, aN⟩ := ⟨_, rfl⟩
  have HIX : Hid (Nu.In x) := Lib.hid (by
    rw [hx]
    unfold numV
    cases aN with
    | nil => exact (by decide : Nu.In 0)
    | cons y L => exact HIA.out y (by simp))
  rw [← hx] at hn
  have HX := Lib.hid hx
  have hp0 := HP.out w2 HB22.out
  obtain ⟨k0, k1, k2, k3, k4, k5⟩ := srow6 hp0.1
  rw [HW2.out] at k0 k1 k2 k3 k4 k5
  rw [← HCE.out, HW2.out] at hn
  have HN : Hid (Calls Tryz.prog 78 #[.agg #[.bool aL, .bool aR, .slice sa sn sc]] _ fun e w' => Below w2.heap.size w2 w' ∧ ((cE = 0 ∧ e = .returned (.tuple #[.int .i64 x, .nilIface])) ∨ (cE ≠ 0 ∧ e = .returned (.tuple #[.int .i64 0, sh_faultV cE])))) := Lib.hid (hn.mono fun e w' h => by unfold NumOut at h; rw [← HW2.out] at h; exact h)
  have HLB : Hid (bN.length ≤ 1000) := Lib.hid (by rw [← HTN.out]; omega)
  clear hn hx hp0
  by_cases h0 : cE = 0
  · by_cases h1 : 0 < tn
    · obtain ⟨t1, t2, t3, t4, t5⟩ := tmod_rot x h1
      obtain ⟨y, hy⟩ : ∃ y : Int, y = x.tmod (tn : Int) := ⟨_, rfl⟩
      obtain ⟨z, hz⟩ : ∃ z : Int, z = x % (tn : Int) := ⟨_, rfl⟩
      rw [← hy] at t2 t3 t4 t5
      rw [← hy, ← hz] at t1
      have hzn : 0 ≤ z ∧ z < (tn : Int) := by
        rw [hz]
        exact ⟨Int.emod_nonneg _ (by omega), Int.emod_lt_of_pos _ (by omega)⟩
      have HIZ : Hid (Nu.In z) := Lib.hid (by constructor <;> omega)
      have HRT : Hid (otL z bN ++ tkL z bN = rotL x bN) := Lib.hid (by rw [hz, HTN.out]; exact rot_parts (by rw [← HTN.out]; exact h1))
      have h1' : (0 : Int) < (tn : Int) := by omega
      have hy' := hy.symm
      clear hz hy
      go_enter Tryz.func54, Tryz.ntmps54
      go_wp2_with (first
        | (go_at_call 78; refine HN.out.mono ?_; rintro e w3 ⟨hb, ⟨_, rfl⟩ | ⟨h, _⟩⟩; rotate_left; exact absurd h0 h; have HB3 := Lib.hid hb; clear hb; obtain ⟨kw30, kw31, kw32, kw33, kw34, kw35⟩ := srow6 (HP.out w3 HB3.out).1; obtain ⟨dw30, dw31, dw32, fw30, fw31, fw32⟩ := srow3 (HP.out w3 HB3.out).2.1; skip)
        | (go_at_call 79; refine (cut_c ⟨aL, aR, aN⟩ ⟨bL, bR, bN⟩ (.slice sa sn sc) (.slice ta tn tc) z w3 (HK.out w3 HB3.out).1 (HK.out w3 HB3.out).2 HLB.out HIZ.out).mono ?_; rintro e w4 ⟨va, vn, vc, ua, un, uc, rfl, hk1, hk2, hb⟩; have HB4 := Lib.hid (HB3.out.trans (hb.mono HB3.out.size)); have HK1 := Lib.hid hk1; have HK2 := Lib.hid hk2; clear hk1 hk2 hb; obtain ⟨w5, hw5⟩ : ∃ w5, w5 = (w4.alloc (.cells #[.bool true, .bool bR, .slice va vn vc] 24)).alloc (.cells #[.bool true, .bool bR, .slice ua un uc] 24) := ⟨_, rfl⟩; obtain ⟨h45, hs5⟩ := two_facts hw5; have HB5 := Lib.hid (HB4.out.trans (h45.mono HB4.out.size)); have HW5 := Lib.hid hw5; have HS5 := Lib.hid hs5; have HK15 := Lib.hid (HK1.out.below h45); have HK25 := Lib.hid (HK2.out.below h45); have hj := join_two ⟨true, bR, otL z bN⟩ ⟨true, bR, tkL z bN⟩ (.slice ua un uc) (.slice va vn vc) w5 HK25.out HK15.out (len2 HLB.out); rw [any_like, hs5, hw5] at hj; have HJ := Lib.hid hj; clear hj hs5 hw5 h45; skip)
        | (go_at_call 75; refine HJ.out.mono ?_; rintro e w6 ⟨ya, yn, yc, rfl, hk, hb⟩; rw [← HW5.out, ← HS5.out] at hb; have HB6 := Lib.hid (HB5.out.trans (hb.mono HB5.out.size)); have HK6 := Lib.hid hk; clear hk hb; have h7 := (Below.refl w6.heap.size w6).alloc (Nat.le_refl _) (.cells #[.bool true, .bool bR, .slice ya yn yc] 24); have HB7 := Lib.hid (HB6.out.trans (h7.mono HB6.out.size)); have h8 := (Below.refl w6.heap.size w6).alloc (Nat.le_refl _) (.cells #[.bool bL, .bool bR, .slice ya yn yc] 24); have HB8 := Lib.hid (HB6.out.trans (h8.mono HB6.out.size)); have HK8 := Lib.hid (HK6.out.below h8); obtain ⟨m0, m1, m2, m3, m4, m5⟩ := srow6 (HP.out _ HB7.out).1; obtain ⟨d0, d1, d2, f0, f1, f2⟩ := srow3 (HP.out _ HB8.out).2.1; clear h7 h8; skip))
      have hf := fin_of (HP.out (w6.alloc (.cells #[.bool bL, .bool bR, .slice ya yn yc] 24)) HB8.out).2.2 hle1 (HP.out (w6.alloc (.cells #[.bool bL, .bool bR, .slice ya yn yc] 24)) HB8.out).2.1 (.bool bL) (.bool bR) (.slice ya yn yc)
      refine bodyPost_ret (v := .tuple #[.agg #[.bool bL, .bool bR, .slice ya yn yc], .nilIface]) (by simp [results, Tryz.f54, go_sem, hf.c0, hf.c1, hf.c2]) rfl ⟨hf.below, .inl ⟨h0, .slice ya yn yc, by rw [show rA = ⟨bL, bR, otL z bN ++ tkL z bN⟩ from by rw [HRA.out, ← HX.out, HRT.out]], by rw [show rA = ⟨bL, bR, otL z bN ++ tkL z bN⟩ from by rw [HRA.out, ← HX.out, HRT.out]]; exact hf.kl _ _ HK8.out⟩⟩
    · obtain rfl : tn = 0 := by omega
      have HRT : Hid (otL x bN ++ tkL x bN = rotL x bN) := Lib.hid (by
        have : bN = [] := List.eq_nil_of_length_eq_zero HTN.out.symm
        rw [this]
        simp [otL, tkL, rotL])
      go_enter Tryz.func54, Tryz.ntmps54
      go_wp2_with (first
        | (go_at_call 78; refine HN.out.mono ?_; rintro e w3 ⟨hb, ⟨_, rfl⟩ | ⟨h, _⟩⟩; rotate_left; exact absurd h0 h; have HB3 := Lib.hid hb; clear hb; obtain ⟨kw30, kw31, kw32, kw33, kw34, kw35⟩ := srow6 (HP.out w3 HB3.out).1; obtain ⟨dw30, dw31, dw32, fw30, fw31, fw32⟩ := srow3 (HP.out w3 HB3.out).2.1; skip)
        | (go_at_call 79; refine (cut_c ⟨aL, aR, aN⟩ ⟨bL, bR, bN⟩ (.slice sa sn sc) (.slice ta 0 tc) x w3 (HK.out w3 HB3.out).1 (HK.out w3 HB3.out).2 HLB.out HIX.out).mono ?_; rintro e w4 ⟨va, vn, vc, ua, un, uc, rfl, hk1, hk2, hb⟩; have HB4 := Lib.hid (HB3.out.trans (hb.mono HB3.out.size)); have HK1 := Lib.hid hk1; have HK2 := Lib.hid hk2; clear hk1 hk2 hb; obtain ⟨w5, hw5⟩ : ∃ w5, w5 = (w4.alloc (.cells #[.bool true, .bool bR, .slice va vn vc] 24)).alloc (.cells #[.bool true, .bool bR, .slice ua un uc] 24) := ⟨_, rfl⟩; obtain ⟨h45, hs5⟩ := two_facts hw5; have HB5 := Lib.hid (HB4.out.trans (h45.mono HB4.out.size)); have HW5 := Lib.hid hw5; have HS5 := Lib.hid hs5; have HK15 := Lib.hid (HK1.out.below h45); have HK25 := Lib.hid (HK2.out.below h45); have hj := join_two ⟨true, bR, otL x bN⟩ ⟨true, bR, tkL x bN⟩ (.slice ua un uc) (.slice va vn vc) w5 HK25.out HK15.out (len2 HLB.out); rw [any_like, hs5, hw5] at hj; have HJ := Lib.hid hj; clear hj hs5 hw5 h45; skip)
        | (go_at_call 75; refine HJ.out.mono ?_; rintro e w6 ⟨ya, yn, yc, rfl, hk, hb⟩; rw [← HW5.out, ← HS5.out] at hb; have HB6 := Lib.hid (HB5.out.trans (hb.mono HB5.out.size)); have HK6 := Lib.hid hk; clear hk hb; have h7 := (Below.refl w6.heap.size w6).alloc (Nat.le_refl _) (.cells #[.bool true, .bool bR, .slice ya yn yc] 24); have HB7 := Lib.hid (HB6.out.trans (h7.mono HB6.out.size)); have h8 := (Below.refl w6.heap.size w6).alloc (Nat.le_refl _) (.cells #[.bool bL, .bool bR, .slice ya yn yc] 24); have HB8 := Lib.hid (HB6.out.trans (h8.mono HB6.out.size)); have HK8 := Lib.hid (HK6.out.below h8); obtain ⟨m0, m1, m2, m3, m4, m5⟩ := srow6 (HP.out _ HB7.out).1; obtain ⟨d0, d1, d2, f0, f1, f2⟩ := srow3 (HP.out _ HB8.out).2.1; clear h7 h8; skip))
      have hf := fin_of (HP.out (w6.alloc (.cells #[.bool bL, .bool bR, .slice ya yn yc] 24)) HB8.out).2.2 hle1 (HP.out (w6.alloc (.cells #[.bool bL, .bool bR, .slice ya yn yc] 24)) HB8.out).2.1 (.bool bL) (.bool bR) (.slice ya yn yc)
      refine bodyPost_ret (v := .tuple #[.agg #[.bool bL, .bool bR, .slice ya yn yc], .nilIface]) (by simp [results, Tryz.f54, go_sem, hf.c0, hf.c1, hf.c2]) rfl ⟨hf.below, .inl ⟨h0, .slice ya yn yc, by rw [show rA = ⟨bL, bR, otL x bN ++ tkL x bN⟩ from by rw [HRA.out, ← HX.out, HRT.out]], by rw [show rA = ⟨bL, bR, otL x bN ++ tkL x bN⟩ from by rw [HRA.out, ← HX.out, HRT.out]]; exact hf.kl _ _ HK8.out⟩⟩
  · go_enter Tryz.func54, Tryz.ntmps54
    go_wp2_with (go_at_call 78; refine HN.out.mono ?_; rintro e w3 ⟨hb, ⟨h, _⟩ | ⟨_, rfl⟩⟩; exact absurd h h0; have HB3 := Lib.hid hb; clear hb; obtain ⟨kw30, kw31, kw32, kw33, kw34, kw35⟩ := srow6 (HP.out w3 HB3.out).1; obtain ⟨dw30, dw31, dw32, fw30, fw31, fw32⟩ := srow3 (HP.out w3 HB3.out).2.1; skip)
    have hf := fin_of (HP.out w3 HB3.out).2.2 hle1 (HP.out w3 HB3.out).2.1 (.bool false) (.bool false) (.slice none 0 0)
    refine bodyPost_ret (v := .tuple #[.agg #[.bool false, .bool false, .slice none 0 0], sh_faultV (cE)]) (by simp [results, Tryz.f54, go_sem, hf.c0, hf.c1, hf.c2]) rfl ⟨hf.below, .inr ⟨h0, rfl⟩⟩
end Go.Proofs.YteclpoooggcdoaaGreatDoor.Ar
