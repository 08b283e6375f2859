/- Merged by gen/sh_merge.py: ShMk5, ShMk6, ShMk8. -/
import Derived.Test.YteclpoooggcdoaaGreatDoorShB
import Derived.BigQuiet
import Derived.Deep.QuietTactic
import Derived.ScopeJumps
/- shape's makers: reversed (by wip/gen/mkshmk.py). -/
namespace Go.Proofs.YteclpoooggcdoaaGreatDoor.Ar
open Go Go.RowKit
attribute [local go_sem] Oper.semAt_some

set_option maxRecDepth 100000 in
set_option maxHeartbeats 4000000 in
theorem reversed_c (a b : Ary) (s t : Value) (w : World) (hs : KL w s a.n) (ht : KL w t b.n) (ha : InL a.n) (hra : rightA a = true) (hrb : rightA b = true) : Calls Tryz.prog 53 #[pairV a b s t] w fun e w' => MkOut (0) (⟨b.list, b.runes, b.n.reverse⟩) w e w' := by
  have hla := right200 hra
  have hlb := right200 hrb
  obtain ⟨cE, hcE⟩ : ∃ c : Int, c = 0 := ⟨_, rfl⟩
  obtain ⟨rA, hrA⟩ : ∃ r : Ary, r = ⟨b.list, b.runes, b.n.reverse⟩ := ⟨_, rfl⟩
  rw [← hrA, ← hcE]
  obtain ⟨aL, aR, aN⟩ := a
  obtain ⟨bL, bR, bN⟩ := b
  have HKab : Hid (∀ W, Below w.heap.size w W → KL W s aN ∧ KL W t bN) := Lib.hid (fun W h => ⟨hs.below h, ht.below h⟩)
  dsimp only [pairV] at *
  obtain ⟨sa, sc, hsf, -, -⟩ := hs.form
  obtain ⟨sn, hsn⟩ : ∃ sn, sn = aN.length := ⟨_, rfl⟩
  rw [← hsn] at hsf
  subst hsf
  obtain ⟨ta, tc, htf, -, -⟩ := ht.form
  obtain ⟨tn, htn⟩ : ∃ tn, tn = bN.length := ⟨_, rfl⟩
  rw [← htn] at htf
  subst htf
  obtain ⟨w2, hw2⟩ : ∃ w2, w2 = (w.alloc (.cells #[.bool aL, .bool aR, .slice sa sn sc, .bool bL, .bool bR, .slice ta tn tc] 64)).alloc (.cells #[.bool false, .bool false, .slice none 0 0] 24) := ⟨_, rfl⟩
  have hb2 : Below w.heap.size w w2 := by rw [hw2]; exact ((Below.refl _ w).alloc (Nat.le_refl _) _).alloc (by simp) _
  have hs2 : w2.heap.size = w.heap.size + 1 + 1 := by rw [hw2]; simp
  have r1 : Row w2 w.heap.size 64 #[.bool aL, .bool aR, .slice sa sn sc, .bool bL, .bool bR, .slice ta tn tc] := by rw [hw2]; exact (Row.new _ _ _).alloc _
  have r2 : Row w2 (w.heap.size + 1) 24 #[.bool false, .bool false, .slice none 0 0] := by rw [hw2]; exact Row.at _ _ _ _ (by simp)
  have HP : Hid (∀ W, Below w2.heap.size w2 W → Row W w.heap.size 64 #[.bool aL, .bool aR, .slice sa sn sc, .bool bL, .bool bR, .slice ta tn tc] ∧ Row W (w.heap.size + 1) 24 #[.bool false, .bool false, .slice none 0 0] ∧ Below w.heap.size w W) := Lib.hid (fun W h => ⟨r1.below h (by omega), r2.below h (by omega), hb2.trans (h.mono hb2.size)⟩)
  have HK : Hid (∀ W, Below w2.heap.size w2 W → KL W (.slice sa sn sc) aN ∧ KL W (.slice ta tn tc) bN) := Lib.hid (fun W h => HKab.out W (hb2.trans (h.mono hb2.size)))
  have HW2 := Lib.hid hw2
  have HS2 := Lib.hid hs2
  have HSN := Lib.hid hsn
  have HTN := Lib.hid htn
  have HCE := Lib.hid hcE
  have HRA := Lib.hid hrA
  have HB22 := Lib.hid (Below.refl w2.heap.size w2)
  have hle1 : w.heap.size ≤ w.heap.size + 1 := Nat.le_succ _
  rw [← hsn] at hla
  rw [← htn] at hlb
  have HIA : Hid (InL aN) := Lib.hid ha
  clear hs ht hw2 hs2 r1 r2 hsn htn hb2 hcE hrA ha HKab hra hrb
  have hp0 := HP.out w2 HB22.out
  obtain ⟨k0, k1, k2, k3, k4, k5⟩ := srow6 hp0.1
  rw [HW2.out] at k0 k1 k2 k3 k4 k5
  have HBL := Lib.hid (fun W => blank_c bL bR tn (by omega) W)
  clear hp0
  go_enter Tryz.func53, Tryz.ntmps53
  go_wp2_with (go_at_call 74; refine (HBL.out _).mono ?_; rintro e w4 ⟨mb, rfl, hmb, hrow, hb⟩; rw [← HW2.out] at hb hmb; have HB4 := Lib.hid hb; have HROW := Lib.hid hrow; have HMB := Lib.hid hmb; obtain ⟨m0, m1, m2, m3, m4, m5⟩ := srow6 (HP.out (w4.alloc (.cells #[.bool bL, .bool bR, .slice (some ⟨mb, 0, none⟩) tn tn] 24)) (hb.trans (((Below.refl w4.heap.size w4).alloc (Nat.le_refl _) _).mono hb.size))).1; clear hb hmb hrow)
  obtain ⟨w5, hw5⟩ : ∃ w5, w5 = w4.alloc (.cells #[.bool bL, .bool bR, .slice (some ⟨mb, 0, none⟩) tn tn] 24) := ⟨_, rfl⟩
  have h45 : Below w4.heap.size w4 w5 := by rw [hw5]; exact (Below.refl _ _).alloc (Nat.le_refl _) _
  have r5 : Row w5 w4.heap.size 24 #[.bool bL, .bool bR, .slice (some ⟨mb, 0, none⟩) tn tn] := by rw [hw5]; exact Row.new _ _ _
  have rm5 := HROW.out.below h45 HROW.out.lt
  have HB5 := Lib.hid (HB4.out.trans (h45.mono HB4.out.size))
  have HW5 := Lib.hid hw5
  have HR5 := Lib.hid r5
  have HM5 := Lib.hid rm5
  have hne1 : mb ≠ w4.heap.size := by have := HROW.out.lt; omega
  have hmw : w2.heap.size ≤ mb := HMB.out
  clear hw5 r5 h45 rm5
  go_loopw [21] (fun i wr => ∃ k : Nat, k ≤ tn ∧ i = .int .i64 (k : Int) ∧ Below w2.heap.size w2 wr ∧ Row wr w4.heap.size 24 #[.bool bL, .bool bR, .slice (some ⟨mb, 0, none⟩) tn tn] ∧ Row wr mb 2 (intV (bN.reverse.take k ++ List.replicate (tn - k) 0))) (fun i _ => tn - (intOf i).toNat)
  case atStart => exact ⟨0, Nat.zero_le _, rfl, by rw [← HW5.out]; exact HB5.out, by rw [← HW5.out]; exact HR5.out, by rw [← HW5.out]; exact HM5.out⟩
  case round =>
    obtain ⟨k, hk, rfl, hb, hr5, hrm⟩ := hrel
    by_cases hlt : k < tn
    · obtain ⟨j, hj⟩ : ∃ j : Nat, j = tn - 1 - k := ⟨_, rfl⟩
      obtain ⟨y, hy⟩ := sat_of (L := bN) (k := j) (by rw [← HTN.out]; omega)
      have hyr : bN.reverse[k]? = some y := by rw [List.getElem?_reverse (by rw [← HTN.out]; exact hlt), ← HTN.out, ← hj]; exact hy
      have hl9 : (bN.reverse.take k).length = k := by rw [List.length_take, List.length_reverse, ← HTN.out]; omega
      have htk : bN.reverse.take (k + 1) = bN.reverse.take k ++ [y] := by rw [List.take_add_one, hyr]; rfl
      have hkb := (HK.out wr hb).2
      obtain ⟨g, o, c1, hv, hg, hcs⟩ := hkb.cells (by rw [← HTN.out]; omega)
      obtain rfl : ta = some ⟨g, o, none⟩ := by injection hv
      have x0 : wr.drew.cell? ⟨g, o + j, none⟩ = some (.int .i64 y) := hcs j y hy
      obtain ⟨e0, e1, e2, -, -, -⟩ := srow3 hr5.drew
      obtain ⟨m0, m1, m2, m3, m4, m5⟩ := srow6 (HP.out wr.drew hb.drew).1
      obtain ⟨z0, z1⟩ := row_int hrm (k := k) (x := 0) (by rw [List.getElem?_append_right (by rw [hl9]; omega), hl9, Nat.sub_self, List.getElem?_replicate, if_pos (by omega)])
      have HN9 : Hid (∀ W, W = (wr.setCell ⟨mb, k, none⟩ (.int .i64 y)).drew → Below w2.heap.size w2 W ∧ Row W w4.heap.size 24 #[.bool bL, .bool bR, .slice (some ⟨mb, 0, none⟩) tn tn] ∧ Row W mb 2 (intV (bN.reverse.take (k + 1) ++ List.replicate (tn - (k + 1)) 0))) := Lib.hid (fun W e => by
        have := row_put hrm k y
        rw [set_next hl9 hlt, ← htk] at this
        rw [e]
        exact ⟨(hb.setCell (p := ⟨mb, k, none⟩) hmw _).drew, hr5.other hne1.symm _, this⟩)
      have ej : (tn : Int) - 1 - (k : Int) = (j : Int) := by omega
      have hjn : j < tn := by omega
      have hlt' : (k : Int) < (tn : Int) := by omega
      have hjn' : (j : Int) < (tn : Int) := by omega
      have hk0 : (0 : Int) ≤ (k : Int) := Int.natCast_nonneg _
      have hj0 : (0 : Int) ≤ (j : Int) := Int.natCast_nonneg _
      clear hb hr5 hrm hkb hcs hv hy hyr hl9 htk hj
      go_wp2_with fail
      go_region
      go_wp2_with fail
      go_roundw
      case rel =>
        have := HN9.out _ rfl
        exact ⟨k + 1, by omega, by go_num, this.1, this.2.1, this.2.2⟩
      case measure => simp [intOf]; omega
    · obtain rfl : k = tn := by omega
      rw [Nat.sub_self, List.replicate_zero, List.append_nil, HTN.out, ← List.length_reverse, List.take_length] at hrm
      have hkl := kl_of_row hrm (by rw [List.length_reverse, ← HTN.out]; omega)
      rw [List.length_reverse, ← HTN.out] at hkl
      have HBW := Lib.hid hb
      have HKL := Lib.hid hkl
      obtain ⟨e0, e1, e2, -, -, -⟩ := srow3 hr5
      obtain ⟨d0, d1, d2, f0, f1, f2⟩ := srow3 (HP.out wr hb).2.1
      clear hb hr5 hrm hkl
      go_wp2_with fail
      have hf := fin_of (HP.out wr HBW.out).2.2 hle1 (HP.out wr HBW.out).2.1 (.bool bL) (.bool bR) (.slice (some ⟨mb, 0, none⟩) k k)
      refine bodyPost_ret (v := .tuple #[.agg #[.bool bL, .bool bR, .slice (some ⟨mb, 0, none⟩) k k], .nilIface]) (by simp [results, Tryz.f53, go_sem, hf.c0, hf.c1, hf.c2]) rfl ⟨hf.below, .inl ⟨HCE.out, .slice (some ⟨mb, 0, none⟩) k k, by rw [show rA = ⟨bL, bR, bN.reverse⟩ from HRA.out], by rw [show rA = ⟨bL, bR, bN.reverse⟩ from HRA.out]; exact hf.kl _ _ HKL.out⟩⟩
end Go.Proofs.YteclpoooggcdoaaGreatDoor.Ar
/- shape's makers: repeated (by wip/gen/mkshmk.py). -/
namespace Go.Proofs.YteclpoooggcdoaaGreatDoor.Ar
open Go Go.RowKit
attribute [local go_sem] Oper.semAt_some

theorem cyc_next (L : List Int) {m r : Nat} (hm : m % L.length = 0) : cycL L (m + (L.take r).length) = cycL L m ++ L.take r := by
  apply List.ext_getElem?
  intro i
  rw [List.getElem?_append, cycL_len]
  split
  · rename_i hi
    rw [cycL_at _ (by omega), cycL_at _ hi]
  · rename_i hi
    by_cases h2 : i < m + (L.take r).length
    · rw [cycL_at _ h2]
      have hl : (L.take r).length ≤ L.length := by rw [List.length_take]; omega
      have e : i % L.length = i - m := by
        have e1 : i = m + (i - m) := by omega
        rw [e1, Nat.add_mod, hm, Nat.zero_add, Nat.mod_mod, Nat.mod_eq_of_lt (by omega)]
        omega
      rw [e, List.getElem?_take, if_pos (by rw [List.length_take] at h2; omega), List.getD_eq_getElem?_getD]
      obtain ⟨y, hy⟩ := sat_of (L := L) (k := i - m) (by omega)
      rw [hy]
      rfl
    · rw [List.getElem?_eq_none (by rw [cycL_len]; omega), List.getElem?_eq_none (by omega)]
theorem splI_at (P A : List Int) (n m : Nat) (hP : P.length = m) (h : m + A.length ≤ n) : splI (P ++ List.replicate (n - m) 0) m A = (P ++ A) ++ List.replicate (n - (m + A.length)) 0 := by
  subst hP
  rw [splI_next P A n h, List.length_append]
set_option maxRecDepth 100000 in
set_option maxHeartbeats 4000000 in
theorem repeated_c (a b : Ary) (s t : Value) (w : World) (hs : KL w s a.n) (ht : KL w t b.n) (ha : InL a.n) (hra : rightA a = true) (hrb : rightA b = true) : Calls Tryz.prog 48 #[pairV a b s t] w fun e w' => MkOut (if cntE a = 0 then (if 0 < numV a ∧ b.n.length = 0 then 110 else 0) else cntE a) (⟨true, b.runes, cycL b.n (numV a).toNat⟩) w e w' := by
  have hla := right200 hra
  have hlb := right200 hrb
  obtain ⟨cE, hcE⟩ : ∃ c : Int, c = if cntE a = 0 then (if 0 < numV a ∧ b.n.length = 0 then 110 else 0) else cntE a := ⟨_, rfl⟩
  obtain ⟨rA, hrA⟩ : ∃ r : Ary, r = ⟨true, b.runes, cycL b.n (numV a).toNat⟩ := ⟨_, rfl⟩
  rw [← hrA, ← hcE]
  obtain ⟨aL, aR, aN⟩ := a
  obtain ⟨bL, bR, bN⟩ := b
  have HKab : Hid (∀ W, Below w.heap.size w W → KL W s aN ∧ KL W t bN) := Lib.hid (fun W h => ⟨hs.below h, ht.below h⟩)
  dsimp only [pairV] at *
  obtain ⟨sa, sc, hsf, -, -⟩ := hs.form
  obtain ⟨sn, hsn⟩ : ∃ sn, sn = aN.length := ⟨_, rfl⟩
  rw [← hsn] at hsf
  subst hsf
  obtain ⟨ta, tc, htf, -, -⟩ := ht.form
  obtain ⟨tn, htn⟩ : ∃ tn, tn = bN.length := ⟨_, rfl⟩
  rw [← htn] at htf
  subst htf
  obtain ⟨w2, hw2⟩ : ∃ w2, w2 = (w.alloc (.cells #[.bool aL, .bool aR, .slice sa sn sc, .bool bL, .bool bR, .slice ta tn tc] 64)).alloc (.cells #[.bool false, .bool false, .slice none 0 0] 24) := ⟨_, rfl⟩
  have hb2 : Below w.heap.size w w2 := by rw [hw2]; exact ((Below.refl _ w).alloc (Nat.le_refl _) _).alloc (by simp) _
  have hs2 : w2.heap.size = w.heap.size + 1 + 1 := by rw [hw2]; simp
  have r1 : Row w2 w.heap.size 64 #[.bool aL, .bool aR, .slice sa sn sc, .bool bL, .bool bR, .slice ta tn tc] := by rw [hw2]; exact (Row.new _ _ _).alloc _
  have r2 : Row w2 (w.heap.size + 1) 24 #[.bool false, .bool false, .slice none 0 0] := by rw [hw2]; exact Row.at _ _ _ _ (by simp)
  have HP : Hid (∀ W, Below w2.heap.size w2 W → Row W w.heap.size 64 #[.bool aL, .bool aR, .slice sa sn sc, .bool bL, .bool bR, .slice ta tn tc] ∧ Row W (w.heap.size + 1) 24 #[.bool false, .bool false, .slice none 0 0] ∧ Below w.heap.size w W) := Lib.hid (fun W h => ⟨r1.below h (by omega), r2.below h (by omega), hb2.trans (h.mono hb2.size)⟩)
  have HK : Hid (∀ W, Below w2.heap.size w2 W → KL W (.slice sa sn sc) aN ∧ KL W (.slice ta tn tc) bN) := Lib.hid (fun W h => HKab.out W (hb2.trans (h.mono hb2.size)))
  have HW2 := Lib.hid hw2
  have HS2 := Lib.hid hs2
  have HSN := Lib.hid hsn
  have HTN := Lib.hid htn
  have HCE := Lib.hid hcE
  have HRA := Lib.hid hrA
  have HB22 := Lib.hid (Below.refl w2.heap.size w2)
  have hle1 : w.heap.size ≤ w.heap.size + 1 := Nat.le_succ _
  rw [← hsn] at hla
  rw [← htn] at hlb
  have HIA : Hid (InL aN) := Lib.hid ha
  clear hs ht hw2 hs2 r1 r2 hsn htn hb2 hcE hrA ha HKab hra hrb
  have hn := cnt_c ⟨aL, aR, aN⟩ (.slice sa sn sc) w2 (HK.out w2 HB22.out).1
  obtain ⟨x, hx⟩ : ∃ x : Int, x = numV ⟨aL, aR, aN⟩ := ⟨_, rfl⟩
  obtain ⟨cC, hcC⟩ : ∃ c : Int, c = cntE ⟨aL, aR, aN⟩ := ⟨_, rfl⟩
  rw [← hx, ← hcC] at hn
  have HX := Lib.hid hx
  have HCE2 : Hid (cE = if cC = 0 then (if 0 < x ∧ tn = 0 then 110 else 0) else cC) := Lib.hid (by rw [HCE.out, hcC, hx, HTN.out])
  have HXB : Hid (cC = 0 → 0 ≤ x ∧ x ≤ 200) := Lib.hid (fun h => by
    rw [hcC] at h
    unfold cntE at h
    split at h
    · rw [← hx] at h
      split at h
      · cases h
      · split at h
        · cases h
        · omega
    · rename_i h1
      exact absurd h h1)
  have hp0 := HP.out w2 HB22.out
  obtain ⟨k0, k1, k2, k3, k4, k5⟩ := srow6 hp0.1
  rw [HW2.out] at k0 k1 k2 k3 k4 k5
  rw [HW2.out] at hn
  have HN : Hid (Calls Tryz.prog 77 #[.agg #[.bool aL, .bool aR, .slice sa sn sc]] _ fun e w' => Below w2.heap.size w2 w' ∧ ((cC = 0 ∧ e = .returned (.tuple #[.int .i64 x, .nilIface])) ∨ (cC ≠ 0 ∧ e = .returned (.tuple #[.int .i64 0, sh_faultV cC])))) := Lib.hid (hn.mono fun e w' h => by unfold NumOut at h; rw [← HW2.out] at h; exact h)
  clear hn hx hp0 hcC
  by_cases h0 : cC = 0
  · obtain ⟨n, rfl⟩ : ∃ n : Nat, x = (n : Int) := ⟨x.toNat, by have := HXB.out h0; omega⟩
    have hn200 : n ≤ 200 := by have := HXB.out h0; omega
    by_cases h9 : 0 < n ∧ tn = 0
    · have HC9 : Hid (cE = 110) := Lib.hid (by rw [HCE2.out, if_pos h0, if_pos ⟨by omega, h9.2⟩])
      obtain ⟨h9, rfl⟩ := h9
      have h9' : (0 : Int) < (n : Int) := by omega
      go_enter Tryz.func48, Tryz.ntmps48
      go_wp2_with (go_at_call 77; refine HN.out.mono ?_; rintro e w3 ⟨hb, ⟨_, rfl⟩ | ⟨h, _⟩⟩; rotate_left; exact absurd h0 h; have HB3 := Lib.hid hb; clear hb; obtain ⟨kw30, kw31, kw32, kw33, kw34, kw35⟩ := srow6 (HP.out w3 HB3.out).1; obtain ⟨dw30, dw31, dw32, fw30, fw31, fw32⟩ := srow3 (HP.out w3 HB3.out).2.1; skip)
      have hf := fin_of (HP.out w3 HB3.out).2.2 hle1 (HP.out w3 HB3.out).2.1 (.bool false) (.bool false) (.slice none 0 0)
      refine bodyPost_ret (v := .tuple #[.agg #[.bool false, .bool false, .slice none 0 0], sh_faultV (110)]) (by simp [results, Tryz.f48, go_sem, hf.c0, hf.c1, hf.c2]) rfl ⟨hf.below, .inr ⟨by rw [HC9.out]; decide, by rw [HC9.out]⟩⟩
    · have HC0 : Hid (cE = 0) := Lib.hid (by rw [HCE2.out, if_pos h0, if_neg (fun h => h9 ⟨by omega, h.2⟩)])
      have HBL := Lib.hid (fun W => blank_c true bR n (by omega) W)
      by_cases h8 : n = 0
      · have h8' : ¬ (0 : Int) < (n : Int) := by omega
        have HH8 := Lib.hid h8
        clear h8
        go_enter Tryz.func48, Tryz.ntmps48
        go_wp2_with (first
          | (go_at_call 77; refine HN.out.mono ?_; rintro e w3 ⟨hb, ⟨_, rfl⟩ | ⟨h, _⟩⟩; rotate_left; exact absurd h0 h; have HB3 := Lib.hid hb; clear hb; obtain ⟨kw30, kw31, kw32, kw33, kw34, kw35⟩ := srow6 (HP.out w3 HB3.out).1; obtain ⟨dw30, dw31, dw32, fw30, fw31, fw32⟩ := srow3 (HP.out w3 HB3.out).2.1; skip)
          | (go_at_call 74; refine (HBL.out _).mono ?_; rintro e w4 ⟨mb, rfl, hmb, hrow, hb⟩; have HB4 := Lib.hid (HB3.out.trans (hb.mono HB3.out.size)); have HROW := Lib.hid hrow; have HMB := Lib.hid (Nat.le_trans HB3.out.size hmb); clear hb hmb hrow))
        obtain ⟨w5, hw5⟩ : ∃ w5, w5 = w4.alloc (.cells #[.bool true, .bool bR, .slice (some ⟨mb, 0, none⟩) n n] 24) := ⟨_, rfl⟩
        have h45 : Below w4.heap.size w4 w5 := by rw [hw5]; exact (Below.refl _ _).alloc (Nat.le_refl _) _
        have r5 : Row w5 w4.heap.size 24 #[.bool true, .bool bR, .slice (some ⟨mb, 0, none⟩) n n] := by rw [hw5]; exact Row.new _ _ _
        have rm5 := HROW.out.below h45 HROW.out.lt
        have HB5 := Lib.hid (HB4.out.trans (h45.mono HB4.out.size))
        have HW5 := Lib.hid hw5
        have HR5 := Lib.hid r5
        have HM5 := Lib.hid rm5
        have hne1 : mb ≠ w4.heap.size := by have := HROW.out.lt; omega
        have hmw : w2.heap.size ≤ mb := HMB.out
        clear hw5 r5 h45 rm5
        go_loopw [7] (fun i wr => ∃ m : Nat, m ≤ n ∧ i = .int .i64 (m : Int) ∧ (m % tn = 0 ∨ m = n) ∧ Below w2.heap.size w2 wr ∧ Row wr w4.heap.size 24 #[.bool true, .bool bR, .slice (some ⟨mb, 0, none⟩) n n] ∧ Row wr mb 2 (intV (cycL bN m ++ List.replicate (n - m) 0))) (fun i _ => n - (intOf i).toNat)
        case atStart => exact ⟨0, Nat.zero_le _, rfl, .inl (Nat.zero_mod _), by rw [← HW5.out]; exact HB5.out, by rw [← HW5.out]; exact HR5.out, by rw [← HW5.out]; exact HM5.out⟩
        case round =>
          obtain ⟨m, hm, rfl, hmod, hb, hr5, hrm⟩ := hrel
          by_cases hlt : m < n
          · exact absurd hlt (by have := HH8.out; omega)
          · obtain rfl : m = n := by omega
            rw [Nat.sub_self, List.replicate_zero, List.append_nil] at hrm
            have hkl := kl_of_row hrm (by rw [cycL_len]; omega)
            rw [cycL_len] at hkl
            have HBW := Lib.hid hb
            have HKL := Lib.hid hkl
            obtain ⟨e0, e1, e2, -, -, -⟩ := srow3 hr5
            obtain ⟨d0, d1, d2, f0, f1, f2⟩ := srow3 (HP.out wr hb).2.1
            clear hb hr5 hrm hkl hmod
            go_wp2_with fail
            have hf := fin_of (HP.out wr HBW.out).2.2 hle1 (HP.out wr HBW.out).2.1 (.bool true) (.bool bR) (.slice (some ⟨mb, 0, none⟩) m m)
            refine bodyPost_ret (v := .tuple #[.agg #[.bool true, .bool bR, .slice (some ⟨mb, 0, none⟩) m m], .nilIface]) (by simp [results, Tryz.f48, go_sem, hf.c0, hf.c1, hf.c2]) rfl ⟨hf.below, .inl ⟨HC0.out, .slice (some ⟨mb, 0, none⟩) m m, by rw [show rA = ⟨true, bR, cycL bN m⟩ from by rw [HRA.out, ← HX.out]; rfl], by rw [show rA = ⟨true, bR, cycL bN m⟩ from by rw [HRA.out, ← HX.out]; rfl]; exact hf.kl _ _ HKL.out⟩⟩
      · have h8' : (0 : Int) < (n : Int) := by omega
        have h7' : ¬ (tn : Int) = 0 := by
          intro h
          exact h9 ⟨by omega, by omega⟩
        go_enter Tryz.func48, Tryz.ntmps48
        go_wp2_with (first
          | (go_at_call 77; refine HN.out.mono ?_; rintro e w3 ⟨hb, ⟨_, rfl⟩ | ⟨h, _⟩⟩; rotate_left; exact absurd h0 h; have HB3 := Lib.hid hb; clear hb; obtain ⟨kw30, kw31, kw32, kw33, kw34, kw35⟩ := srow6 (HP.out w3 HB3.out).1; obtain ⟨dw30, dw31, dw32, fw30, fw31, fw32⟩ := srow3 (HP.out w3 HB3.out).2.1; skip)
          | (go_at_call 74; refine (HBL.out _).mono ?_; rintro e w4 ⟨mb, rfl, hmb, hrow, hb⟩; have HB4 := Lib.hid (HB3.out.trans (hb.mono HB3.out.size)); have HROW := Lib.hid hrow; have HMB := Lib.hid (Nat.le_trans HB3.out.size hmb); clear hb hmb hrow))
        obtain ⟨w5, hw5⟩ : ∃ w5, w5 = w4.alloc (.cells #[.bool true, .bool bR, .slice (some ⟨mb, 0, none⟩) n n] 24) := ⟨_, rfl⟩
        have h45 : Below w4.heap.size w4 w5 := by rw [hw5]; exact (Below.refl _ _).alloc (Nat.le_refl _) _
        have r5 : Row w5 w4.heap.size 24 #[.bool true, .bool bR, .slice (some ⟨mb, 0, none⟩) n n] := by rw [hw5]; exact Row.new _ _ _
        have rm5 := HROW.out.below h45 HROW.out.lt
        have HB5 := Lib.hid (HB4.out.trans (h45.mono HB4.out.size))
        have HW5 := Lib.hid hw5
        have HR5 := Lib.hid r5
        have HM5 := Lib.hid rm5
        have hne1 : mb ≠ w4.heap.size := by have := HROW.out.lt; omega
        have hmw : w2.heap.size ≤ mb := HMB.out
        clear hw5 r5 h45 rm5
        go_loopw [7] (fun i wr => ∃ m : Nat, m ≤ n ∧ i = .int .i64 (m : Int) ∧ (m % tn = 0 ∨ m = n) ∧ Below w2.heap.size w2 wr ∧ Row wr w4.heap.size 24 #[.bool true, .bool bR, .slice (some ⟨mb, 0, none⟩) n n] ∧ Row wr mb 2 (intV (cycL bN m ++ List.replicate (n - m) 0))) (fun i _ => n - (intOf i).toNat)
        case atStart => exact ⟨0, Nat.zero_le _, rfl, .inl (Nat.zero_mod _), by rw [← HW5.out]; exact HB5.out, by rw [← HW5.out]; exact HR5.out, by rw [← HW5.out]; exact HM5.out⟩
        case round =>
          obtain ⟨m, hm, rfl, hmod, hb, hr5, hrm⟩ := hrel
          by_cases hlt : m < n
          · have htn0 : 0 < tn := by
              rcases Nat.eq_zero_or_pos tn with h | h
              · exact absurd ⟨by omega, h⟩ h9
              · exact h
            have hmod : m % tn = 0 := by
              rcases hmod with h | h
              · exact h
              · omega
            obtain ⟨q, hq⟩ : ∃ q : Nat, q = (bN.take (n - m)).length := ⟨_, rfl⟩
            have hq2 : q = min (n - m) tn := by rw [hq, List.length_take, HTN.out]
            have hq3 : 0 < q ∧ m + q ≤ n := by omega
            have hkb := (HK.out wr.drew hb.drew).2
            have hrd : Row wr.drew mb 2 (intV (cycL bN m ++ List.replicate (n - m) 0)) := hrm.drew
            have hcp := run_copy_kl wr.drew mb m (n - m) (n - m) _ _ _ hkb hrd (by rw [← hq, List.length_append, cycL_len, List.length_replicate]; omega)
            rw [splI_at _ _ _ _ (cycL_len _ _) (by rw [← hq]; omega), ← cyc_next bN (by rw [← HTN.out]; exact hmod), ← hq] at hcp
            change _ = Result.ok (Value.int .i64 (q : Int)) _ at hcp
            obtain ⟨p, hp⟩ : ∃ p : Nat, p = m + q := ⟨_, rfl⟩
            rw [← hp] at hcp
            have es1 : (n : Int) - (m : Int) = ((n - m : Nat) : Int) := by omega
            have es2 : (m : Int) + (q : Int) = (p : Int) := by omega
            have hp1 : p ≤ 200 := by omega
            obtain ⟨e0, e1, e2, -, -, -⟩ := srow3 hr5.drew
            obtain ⟨m0, m1, m2, m3, m4, m5⟩ := srow6 (HP.out wr.drew hb.drew).1
            obtain ⟨w7, hw7⟩ : ∃ w7, w7 = wr.drew.setRow mb (intV (cycL bN p ++ List.replicate (n - p) 0)) := ⟨_, rfl⟩
            rw [← hw7] at hcp
            have HN9 : Hid ((p % tn = 0 ∨ p = n) ∧ Below w2.heap.size w2 w7 ∧ Row w7 w4.heap.size 24 #[.bool true, .bool bR, .slice (some ⟨mb, 0, none⟩) n n] ∧ Row w7 mb 2 (intV (cycL bN p ++ List.replicate (n - p) 0))) := Lib.hid (by
              refine ⟨?_, ?_, ?_, ?_⟩
              · rcases Nat.le_total tn (n - m) with h | h
                · refine .inl ?_
                  rw [hp, hq2, Nat.min_eq_right h, Nat.add_mod, hmod, Nat.mod_self]
                  rfl
                · refine .inr ?_
                  rw [hp, hq2, Nat.min_eq_left h]
                  omega
              · rw [hw7]; exact below_setRow hb.drew hmw _
              · rw [hw7]; exact (setRow_other _ _ _ _ hne1.symm).trans hr5
              · rw [hw7]; exact row_copied hrd _)
            have hlt' : (m : Int) < (n : Int) := by omega
            have hcap : ¬ n = m := by omega
            have HPP := Lib.hid hp
            have HQ3 := Lib.hid hq3
            clear hb hr5 hrm hkb hrd hw7 hq hq2 hp hmod
            go_wp2_with fail
            go_region
            go_wp2_with fail
            go_roundw
            case rel => exact ⟨p, by have := HPP.out; have := HQ3.out; omega, rfl, HN9.out.1, HN9.out.2.1, HN9.out.2.2.1, HN9.out.2.2.2⟩
            case measure => have := HPP.out; have := HQ3.out; simp [intOf]; omega
          · obtain rfl : m = n := by omega
            rw [Nat.sub_self, List.replicate_zero, List.append_nil] at hrm
            have hkl := kl_of_row hrm (by rw [cycL_len]; omega)
            rw [cycL_len] at hkl
            have HBW := Lib.hid hb
            have HKL := Lib.hid hkl
            obtain ⟨e0, e1, e2, -, -, -⟩ := srow3 hr5
            obtain ⟨d0, d1, d2, f0, f1, f2⟩ := srow3 (HP.out wr hb).2.1
            clear hb hr5 hrm hkl hmod
            go_wp2_with fail
            have hf := fin_of (HP.out wr HBW.out).2.2 hle1 (HP.out wr HBW.out).2.1 (.bool true) (.bool bR) (.slice (some ⟨mb, 0, none⟩) m m)
            refine bodyPost_ret (v := .tuple #[.agg #[.bool true, .bool bR, .slice (some ⟨mb, 0, none⟩) m m], .nilIface]) (by simp [results, Tryz.f48, go_sem, hf.c0, hf.c1, hf.c2]) rfl ⟨hf.below, .inl ⟨HC0.out, .slice (some ⟨mb, 0, none⟩) m m, by rw [show rA = ⟨true, bR, cycL bN m⟩ from by rw [HRA.out, ← HX.out]; rfl], by rw [show rA = ⟨true, bR, cycL bN m⟩ from by rw [HRA.out, ← HX.out]; rfl]; exact hf.kl _ _ HKL.out⟩⟩
  · have HC9 : Hid (cE = cC) := Lib.hid (by rw [HCE2.out, if_neg h0])
    go_enter Tryz.func48, Tryz.ntmps48
    go_wp2_with (go_at_call 77; refine HN.out.mono ?_; rintro e w3 ⟨hb, ⟨h, _⟩ | ⟨_, rfl⟩⟩; exact absurd h h0; have HB3 := Lib.hid hb; clear hb; obtain ⟨kw30, kw31, kw32, kw33, kw34, kw35⟩ := srow6 (HP.out w3 HB3.out).1; obtain ⟨dw30, dw31, dw32, fw30, fw31, fw32⟩ := srow3 (HP.out w3 HB3.out).2.1; skip)
    have hf := fin_of (HP.out w3 HB3.out).2.2 hle1 (HP.out w3 HB3.out).2.1 (.bool false) (.bool false) (.slice none 0 0)
    refine bodyPost_ret (v := .tuple #[.agg #[.bool false, .bool false, .slice none 0 0], sh_faultV (cC)]) (by simp [results, Tryz.f48, go_sem, hf.c0, hf.c1, hf.c2]) rfl ⟨hf.below, .inr ⟨by rw [HC9.out]; exact h0, by rw [HC9.out]⟩⟩
end Go.Proofs.YteclpoooggcdoaaGreatDoor.Ar
/- shape's makers: places (by wip/gen/mkshmk.py). -/
namespace Go.Proofs.YteclpoooggcdoaaGreatDoor.Ar
open Go Go.RowKit
attribute [local go_sem] Oper.semAt_some

theorem sbelow_drewN (w : World) (k : Nat) : Below w.heap.size w (w.drewN k) := ⟨rfl, rfl, rfl, Nat.le_refl _, fun _ _ => rfl⟩
theorem idx_stop {A : List Int} {x : Int} {j : Nat} (h1 : ∀ i, i < j → A[i]? ≠ some x) (h2 : A[j]? = some x) : A.findIdx (fun y => decide (y = x)) = j := by
  have hj : j < A.length := (List.getElem?_eq_some_iff.1 h2).1
  rw [List.findIdx_eq hj]
  refine ⟨?_, fun i hi => ?_⟩
  · have := (List.getElem?_eq_some_iff.1 h2).2
    simp [this]
  · have h3 := h1 i hi
    rw [List.getElem?_eq_getElem (by omega)] at h3
    have : A[i] ≠ x := fun e => h3 (congrArg some e)
    simp [this]
theorem idx_none {A : List Int} {x : Int} (h1 : ∀ i, i < A.length → A[i]? ≠ some x) : A.findIdx (fun y => decide (y = x)) = A.length := by
  rw [List.findIdx_eq_length]
  intro y hy
  obtain ⟨i, hi, hy⟩ := List.mem_iff_getElem.1 hy
  have h3 := h1 i hi
  rw [List.getElem?_eq_getElem hi] at h3
  have : y ≠ x := fun e => h3 (congrArg some (hy.trans e))
  simp [this]
set_option maxRecDepth 100000 in
set_option maxHeartbeats 4000000 in
theorem places_c (a b : Ary) (s t : Value) (w : World) (hs : KL w s a.n) (ht : KL w t b.n) (ha : InL a.n) (hra : rightA a = true) (hrb : rightA b = true) : Calls Tryz.prog 50 #[pairV a b s t] w fun e w' => MkOut (if a.list then 0 else 111) (⟨b.list, false, idxL a b⟩) w e w' := by
  have hla := right200 hra
  have hlb := right200 hrb
  obtain ⟨cE, hcE⟩ : ∃ c : Int, c = if a.list then 0 else 111 := ⟨_, rfl⟩
  obtain ⟨rA, hrA⟩ : ∃ r : Ary, r = ⟨b.list, false, idxL a b⟩ := ⟨_, rfl⟩
  rw [← hrA, ← hcE]
  obtain ⟨aL, aR, aN⟩ := a
  obtain ⟨bL, bR, bN⟩ := b
  have HKab : Hid (∀ W, Below w.heap.size w W → KL W s aN ∧ KL W t bN) := Lib.hid (fun W h => ⟨hs.below h, ht.below h⟩)
  dsimp only [pairV] at *
  obtain ⟨sa, sc, hsf, -, -⟩ := hs.form
  obtain ⟨sn, hsn⟩ : ∃ sn, sn = aN.length := ⟨_, rfl⟩
  rw [← hsn] at hsf
  subst hsf
  obtain ⟨ta, tc, htf, -, -⟩ := ht.form
  obtain ⟨tn, htn⟩ : ∃ tn, tn = bN.length := ⟨_, rfl⟩
  rw [← htn] at htf
  subst htf
  obtain ⟨w2, hw2⟩ : ∃ w2, w2 = (w.alloc (.cells #[.bool aL, .bool aR, .slice sa sn sc, .bool bL, .bool bR, .slice ta tn tc] 64)).alloc (.cells #[.bool false, .bool false, .slice none 0 0] 24) := ⟨_, rfl⟩
  have hb2 : Below w.heap.size w w2 := by rw [hw2]; exact ((Below.refl _ w).alloc (Nat.le_refl _) _).alloc (by simp) _
  have hs2 : w2.heap.size = w.heap.size + 1 + 1 := by rw [hw2]; simp
  have r1 : Row w2 w.heap.size 64 #[.bool aL, .bool aR, .slice sa sn sc, .bool bL, .bool bR, .slice ta tn tc] := by rw [hw2]; exact (Row.new _ _ _).alloc _
  have r2 : Row w2 (w.heap.size + 1) 24 #[.bool false, .bool false, .slice none 0 0] := by rw [hw2]; exact Row.at _ _ _ _ (by simp)
  have HP : Hid (∀ W, Below w2.heap.size w2 W → Row W w.heap.size 64 #[.bool aL, .bool aR, .slice sa sn sc, .bool bL, .bool bR, .slice ta tn tc] ∧ Row W (w.heap.size + 1) 24 #[.bool false, .bool false, .slice none 0 0] ∧ Below w.heap.size w W) := Lib.hid (fun W h => ⟨r1.below h (by omega), r2.below h (by omega), hb2.trans (h.mono hb2.size)⟩)
  have HK : Hid (∀ W, Below w2.heap.size w2 W → KL W (.slice sa sn sc) aN ∧ KL W (.slice ta tn tc) bN) := Lib.hid (fun W h => HKab.out W (hb2.trans (h.mono hb2.size)))
  have HW2 := Lib.hid hw2
  have HS2 := Lib.hid hs2
  have HSN := Lib.hid hsn
  have HTN := Lib.hid htn
  have HCE := Lib.hid hcE
  have HRA := Lib.hid hrA
  have HB22 := Lib.hid (Below.refl w2.heap.size w2)
  have hle1 : w.heap.size ≤ w.heap.size + 1 := Nat.le_succ _
  rw [← hsn] at hla
  rw [← htn] at hlb
  have HIA : Hid (InL aN) := Lib.hid ha
  clear hs ht hw2 hs2 r1 r2 hsn htn hb2 hcE hrA ha hra hrb
  clear HKab
  have hp0 := HP.out w2 HB22.out
  obtain ⟨k0, k1, k2, k3, k4, k5⟩ := srow6 hp0.1
  rw [HW2.out] at k0 k1 k2 k3 k4 k5
  clear hp0
  cases aL
  · have HC9 : Hid (cE = 111) := Lib.hid HCE.out
    go_enter Tryz.func50, Tryz.ntmps50
    go_wp2_with fail
    refine wp_scope_straight ?_
    go_upto_region 2 with fail
    rw [← HW2.out]
    obtain ⟨d0, d1, d2, f0, f1, f2⟩ := srow3 (HP.out w2 HB22.out).2.1
    go_wp2
    have hf := fin_of (HP.out w2 HB22.out).2.2 hle1 (HP.out w2 HB22.out).2.1 (.bool false) (.bool false) (.slice none 0 0)
    refine bodyPost_ret (v := .tuple #[.agg #[.bool false, .bool false, .slice none 0 0], sh_faultV (111)]) (by simp [results, Tryz.f50, go_sem, hf.c0, hf.c1, hf.c2]) rfl ⟨hf.below, .inr ⟨by rw [HC9.out]; decide, by rw [HC9.out]⟩⟩
  · have HC0 : Hid (cE = 0) := Lib.hid HCE.out
    have HBL := Lib.hid (fun W => blank_c bL false tn (by omega) W)
    obtain ⟨same, hsame⟩ : ∃ sm : Bool, sm = (aR == bR) := ⟨_, rfl⟩
    have HSM := Lib.hid hsame
    have hsame' := hsame.symm
    clear hsame
    go_enter Tryz.func50, Tryz.ntmps50
    go_wp2_with fail
    refine wp_scope_straight ?_
    go_wp2_with (go_at_call 74; refine (HBL.out _).mono ?_; rintro e w4 ⟨mb, rfl, hmb, hrow, hb⟩; rw [← HW2.out] at hb hmb; have HB4 := Lib.hid hb; have HROW := Lib.hid hrow; have HMB := Lib.hid hmb; obtain ⟨m0, m1, m2, m3, m4, m5⟩ := srow6 (HP.out (w4.alloc (.cells #[.bool bL, .bool false, .slice (some ⟨mb, 0, none⟩) tn tn] 24)) (hb.trans (((Below.refl w4.heap.size w4).alloc (Nat.le_refl _) _).mono hb.size))).1; clear hb hmb hrow)
    obtain ⟨w5, hw5⟩ : ∃ w5, w5 = w4.alloc (.cells #[.bool bL, .bool false, .slice (some ⟨mb, 0, none⟩) tn tn] 24) := ⟨_, rfl⟩
    have h45 : Below w4.heap.size w4 w5 := by rw [hw5]; exact (Below.refl _ _).alloc (Nat.le_refl _) _
    have r5 : Row w5 w4.heap.size 24 #[.bool bL, .bool false, .slice (some ⟨mb, 0, none⟩) tn tn] := by rw [hw5]; exact Row.new _ _ _
    have rm5 := HROW.out.below h45 HROW.out.lt
    have HB5 := Lib.hid (HB4.out.trans (h45.mono HB4.out.size))
    have HW5 := Lib.hid hw5
    have HR5 := Lib.hid r5
    have HM5 := Lib.hid rm5
    have hne1 : mb ≠ w4.heap.size := by have := HROW.out.lt; omega
    have hmw : w2.heap.size ≤ mb := HMB.out
    clear hw5 r5 h45 rm5
    obtain ⟨IX, hIX⟩ : ∃ L, L = idxL ⟨true, aR, aN⟩ ⟨bL, bR, bN⟩ := ⟨_, rfl⟩
    have hIXl : IX.length = tn := by rw [hIX, idxL_len, HTN.out]
    have HIX := Lib.hid hIX
    have HIXl := Lib.hid hIXl
    have HIXa : Hid (∀ (k : Nat) (y : Int), bN[k]? = some y → IX[k]? = some ((idxN (aR == bR) aN y : Int) + 1)) := Lib.hid (fun k y h => by rw [hIX, idxL, List.getElem?_map, h]; rfl)
    clear hIX hIXl
    refine wp_label ?_
    go_wp2_with fail
    go_loopw [33] (fun i wr => ∃ k : Nat, k ≤ tn ∧ i = .int .i64 (k : Int) ∧ Below w2.heap.size w2 wr ∧ Row wr w4.heap.size 24 #[.bool bL, .bool false, .slice (some ⟨mb, 0, none⟩) tn tn] ∧ Row wr mb 2 (intV (IX.take k ++ List.replicate (tn - k) 0))) (fun i _ => tn - (intOf i).toNat)
    case atStart => exact ⟨0, Nat.zero_le _, rfl, by rw [← HW5.out]; exact HB5.out, by rw [← HW5.out]; exact HR5.out, by rw [← HW5.out]; exact HM5.out⟩
    case round =>
      obtain ⟨k, hk, rfl, hb, hr5, hrm⟩ := hrel
      by_cases hlt : k < tn
      · obtain ⟨y, hy⟩ := sat_of (L := bN) (k := k) (by rw [← HTN.out]; exact hlt)
        have HIV := Lib.hid (HIXa.out k y hy)
        rw [← HSM.out] at HIV
        have hl9 : (IX.take k).length = k := by rw [List.length_take, HIXl.out]; omega
        have HTK : Hid (∀ v : Int, IX[k]? = some v → IX.take (k + 1) = IX.take k ++ [v]) := Lib.hid (fun v h => by rw [List.take_add_one, h]; rfl)
        obtain ⟨z0, z1⟩ := row_int hrm (k := k) (x := 0) (by rw [List.getElem?_append_right (by rw [hl9]; omega), hl9, Nat.sub_self, List.getElem?_replicate, if_pos (by omega)])
        obtain ⟨g2, o2, c2', hv2, hg2, hcs2⟩ := (HK.out wr hb).2.cells (by rw [← HTN.out]; omega)
        obtain rfl : ta = some ⟨g2, o2, none⟩ := by injection hv2
        have y0 : wr.cell? ⟨g2, o2 + k, none⟩ = some (.int .i64 y) := hcs2 k y hy
        have HY0 : Hid (∀ W, Below wr.heap.size wr W → W.cell? ⟨g2, o2 + k, none⟩ = some (.int .i64 y)) := Lib.hid (fun W h => (h.cell (p := ⟨g2, o2 + k, none⟩) hg2).trans y0)
        have HN9 : Hid (∀ (W : World) (v : Int), Below wr.heap.size wr W → IX[k]? = some v → Below w2.heap.size w2 (W.setCell ⟨mb, k, none⟩ (.int .i64 v)) ∧ Row (W.setCell ⟨mb, k, none⟩ (.int .i64 v)) w4.heap.size 24 #[.bool bL, .bool false, .slice (some ⟨mb, 0, none⟩) tn tn] ∧ Row (W.setCell ⟨mb, k, none⟩ (.int .i64 v)) mb 2 (intV (IX.take (k + 1) ++ List.replicate (tn - (k + 1)) 0))) := Lib.hid (fun W v h hv => by
          have := row_put (hrm.below h hrm.lt) k v
          rw [set_next hl9 hlt, ← HTK.out v hv] at this
          exact ⟨(hb.trans (h.mono hb.size)).setCell (p := ⟨mb, k, none⟩) hmw _, (hr5.below h hr5.lt).other hne1.symm _, this⟩)
        have HF9 : Hid (∀ W, Below wr.heap.size wr W → Row W w4.heap.size 24 #[.bool bL, .bool false, .slice (some ⟨mb, 0, none⟩) tn tn] ∧ Row W w.heap.size 64 #[.bool true, .bool aR, .slice sa sn sc, .bool bL, .bool bR, .slice (some ⟨g2, o2, none⟩) tn tc] ∧ (W.cell? ⟨mb, k, none⟩ = some (.int .i64 0) ∧ W.frozen? ⟨mb, k, none⟩ = false)) := Lib.hid (fun W h => ⟨hr5.below h hr5.lt, (HP.out W (hb.trans (h.mono hb.size))).1, row_int (hrm.below h hrm.lt) (k := k) (x := 0) (by rw [List.getElem?_append_right (by rw [hl9]; omega), hl9, Nat.sub_self, List.getElem?_replicate, if_pos (by omega)])⟩)
        have HKA : Hid (∀ W, Below wr.heap.size wr W → KL W (.slice sa sn sc) aN) := Lib.hid (fun W h => (HK.out W (hb.trans (h.mono hb.size))).1)
        obtain ⟨m0, m1, m2, m3, m4, m5⟩ := srow6 (HP.out wr hb).1
        have hlt' : (k : Int) < (tn : Int) := by omega
        have hk0 : (0 : Int) ≤ (k : Int) := Int.natCast_nonneg _
        have HBR := Lib.hid (Below.refl wr.heap.size wr)
        clear hb hr5 hrm hcs2 hv2 hg2 hy hl9 y0 z0 z1
        go_wp2_with fail
        go_loopw [40] (fun i wr2 => ∃ j : Nat, j ≤ sn ∧ i = .int .i64 (j : Int) ∧ Below wr.heap.size wr wr2 ∧ ∀ i, i < j → ¬ (same = true ∧ aN[i]? = some y)) (fun i _ => sn - (intOf i).toNat)
        case atStart => exact ⟨0, Nat.zero_le _, rfl, HBR.out, fun i hi => by omega⟩
        case round =>
          obtain ⟨j, hj, rfl, hb2, hno⟩ := hrel
          have HNO := Lib.hid hno
          have HB2 := Lib.hid hb2
          obtain ⟨q5, q6, y1, y2⟩ := HF9.out wr hb2
          obtain ⟨e0, e1, e2, -, -, -⟩ := srow3 q5
          obtain ⟨n0, n1, n2, n3, n4, n5⟩ := srow6 q6
          have yk := HY0.out wr hb2
          clear hno q5 q6
          by_cases hjs : j < sn
          · obtain ⟨x, hx⟩ := sat_of (L := aN) (k := j) (by rw [← HSN.out]; exact hjs)
            obtain ⟨g1, o1, c1', hv1, hg1, hcs1⟩ := (HKA.out wr hb2).cells (by rw [← HSN.out]; omega)
            obtain rfl : sa = some ⟨g1, o1, none⟩ := by injection hv1
            have xj : wr.cell? ⟨g1, o1 + j, none⟩ = some (.int .i64 x) := hcs1 j x hx
            have HXJ := Lib.hid hx
            have hjs' : (j : Int) < (sn : Int) := by omega
            have hj0 : (0 : Int) ≤ (j : Int) := Int.natCast_nonneg _
            have hjb : j ≤ 200 := by omega
            clear hb2 hv1 hg1 hcs1 hx
            cases hsm : same
            · subst hsm
              go_wp2_with fail
              go_quiet (fail)
              go_wp2_with fail
              go_roundw
              case rel => exact ⟨j + 1, by omega, by go_num, HB2.out.trans ((sbelow_drewN _ _).mono HB2.out.size), fun i _ h => absurd h.1 (by decide)⟩
              case measure => simp [intOf]; omega
            · subst hsm
              by_cases hxy : x = y
              · subst hxy
                have HV : Hid (IX[k]? = some ((j : Int) + 1)) := Lib.hid (by
                  have := HIV.out
                  rw [idxN, if_pos rfl, idx_stop (fun i hi e => HNO.out i hi ⟨rfl, e⟩) HXJ.out] at this
                  exact this)
                go_wp2_with fail
                go_quiet (fail)
                go_wp2_with fail
                go_roundw
                case rel =>
                  exact ⟨k + 1, by omega, by go_num, (HN9.out _ _ (HB2.out.trans ((sbelow_drewN _ _).mono HB2.out.size)) HV.out).1, (HN9.out _ _ (HB2.out.trans ((sbelow_drewN _ _).mono HB2.out.size)) HV.out).2.1, (HN9.out _ _ (HB2.out.trans ((sbelow_drewN _ _).mono HB2.out.size)) HV.out).2.2⟩
                case measure => simp [intOf]; omega
              · go_wp2_with fail
                go_quiet (fail)
                go_wp2_with fail
                go_roundw
                case rel =>
                  refine ⟨j + 1, by omega, by go_num, HB2.out.trans ((sbelow_drewN _ _).mono HB2.out.size), fun i hi h => ?_⟩
                  rcases Nat.lt_or_ge i j with h2 | h2
                  · exact HNO.out i h2 h
                  · obtain rfl : i = j := by omega
                    have := h.2
                    rw [HXJ.out] at this
                    exact hxy (by injection this)
                case measure => simp [intOf]; omega
          · obtain rfl : j = sn := by omega
            have HV : Hid (IX[k]? = some ((j : Int) + 1)) := Lib.hid (by
              have := HIV.out
              rw [idxN] at this
              split at this
              · rename_i h1
                rw [idx_none (fun i hi e => HNO.out i (by rw [HSN.out]; exact hi) ⟨h1, e⟩), ← HSN.out] at this
                exact this
              · rw [← HSN.out] at this
                exact this)
            clear hb2
            go_wp2_with fail
            go_roundw
            case rel =>
              have := HN9.out _ _ HB2.out HV.out
              exact ⟨k + 1, by omega, by go_num, this.1, this.2.1, this.2.2⟩
            case measure => simp [intOf]; omega
      · obtain rfl : k = tn := by omega
        rw [Nat.sub_self, List.replicate_zero, List.append_nil, ← HIXl.out, List.take_length] at hrm
        have hkl := kl_of_row hrm (by rw [HIXl.out]; omega)
        rw [HIXl.out] at hkl
        have HBW := Lib.hid hb
        have HKL := Lib.hid hkl
        obtain ⟨e0, e1, e2, -, -, -⟩ := srow3 hr5
        obtain ⟨d0, d1, d2, f0, f1, f2⟩ := srow3 (HP.out wr hb).2.1
        clear hb hr5 hrm hkl
        go_wp2_with fail
        have hf := fin_of (HP.out wr HBW.out).2.2 hle1 (HP.out wr HBW.out).2.1 (.bool bL) (.bool false) (.slice (some ⟨mb, 0, none⟩) k k)
        refine bodyPost_ret (v := .tuple #[.agg #[.bool bL, .bool false, .slice (some ⟨mb, 0, none⟩) k k], .nilIface]) (by simp [results, Tryz.f50, go_sem, hf.c0, hf.c1, hf.c2]) rfl ⟨hf.below, .inl ⟨HC0.out, .slice (some ⟨mb, 0, none⟩) k k, by rw [show rA = ⟨bL, false, IX⟩ from by rw [HRA.out, HIX.out]], by rw [show rA = ⟨bL, false, IX⟩ from by rw [HRA.out, HIX.out]]; exact hf.kl _ _ HKL.out⟩⟩
end Go.Proofs.YteclpoooggcdoaaGreatDoor.Ar
