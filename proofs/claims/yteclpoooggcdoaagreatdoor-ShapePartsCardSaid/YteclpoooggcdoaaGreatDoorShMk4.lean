/- shape's makers: upTo, first (by wip/gen/mkshmk.py). -/
import Derived.Test.YteclpoooggcdoaaGreatDoorShB
namespace Go.Proofs.YteclpoooggcdoaaGreatDoor.Ar
open Go Go.RowKit
attribute [local go_sem] Oper.semAt_some

set_option maxRecDepth 100000 in
set_option maxHeartbeats 4000000 in
theorem upTo_c (a b : Ary) (s t : Value) (w : World) (hs : KL w s a.n) (ht : KL w t b.n) (ha : InL a.n) (hra : rightA a = true) (hrb : rightA b = true) : Calls Tryz.prog 49 #[pairV a b s t] w fun e w' => MkOut (cntE b) (⟨true, false, upL (numV b).toNat⟩) w e w' := by
  have hla := right200 hra
  have hlb := right200 hrb
  obtain ⟨cE, hcE⟩ : ∃ c : Int, c = cntE b := ⟨_, rfl⟩
  obtain ⟨rA, hrA⟩ : ∃ r : Ary, r = ⟨true, false, upL (numV b).toNat⟩ := ⟨_, rfl⟩
  rw [← hrA, ← hcE]
  obtain ⟨aL, aR, aN⟩ := a
  obtain ⟨bL, bR, bN⟩ := b
  have HKab : Hid (∀ W, Below w.heap.size w W → KL W s aN ∧ KL W t bN) := Lib.hid (fun W h => ⟨hs.below h, ht.below h⟩)
  dsimp only [pairV] at *
  obtain ⟨sa, sc, hsf, -, -⟩ := hs.form
  obtain ⟨sn, hsn⟩ : ∃ sn, sn = aN.length := ⟨_, rfl⟩
  rw [← hsn] at hsf
  subst hsf
  obtain ⟨ta, tc, htf, -, -⟩ := ht.form
  obtain ⟨tn, htn⟩ : ∃ tn, tn = bN.length := ⟨_, rfl⟩
  rw [← htn] at htf
  subst htf
  obtain ⟨w2, hw2⟩ : ∃ w2, w2 = (w.alloc (.cells #[.bool aL, .bool aR, .slice sa sn sc, .bool bL, .bool bR, .slice ta tn tc] 64)).alloc (.cells #[.bool false, .bool false, .slice none 0 0] 24) := ⟨_, rfl⟩
  have hb2 : Below w.heap.size w w2 := by rw [hw2]; exact ((Below.refl _ w).alloc (Nat.le_refl _) _).alloc (by simp) _
  have hs2 : w2.heap.size = w.heap.size + 1 + 1 := by rw [hw2]; simp
  have r1 : Row w2 w.heap.size 64 #[.bool aL, .bool aR, .slice sa sn sc, .bool bL, .bool bR, .slice ta tn tc] := by rw [hw2]; exact (Row.new _ _ _).alloc _
  have r2 : Row w2 (w.heap.size + 1) 24 #[.bool false, .bool false, .slice none 0 0] := by rw [hw2]; exact Row.at _ _ _ _ (by simp)
  have HP : Hid (∀ W, Below w2.heap.size w2 W → Row W w.heap.size 64 #[.bool aL, .bool aR, .slice sa sn sc, .bool bL, .bool bR, .slice ta tn tc] ∧ Row W (w.heap.size + 1) 24 #[.bool false, .bool false, .slice none 0 0] ∧ Below w.heap.size w W) := Lib.hid (fun W h => ⟨r1.below h (by omega), r2.below h (by omega), hb2.trans (h.mono hb2.size)⟩)
  have HK : Hid (∀ W, Below w2.heap.size w2 W → KL W (.slice sa sn sc) aN ∧ KL W (.slice ta tn tc) bN) := Lib.hid (fun W h => HKab.out W (hb2.trans (h.mono hb2.size)))
  have HW2 := Lib.hid hw2
  have HS2 := Lib.hid hs2
  have HSN := Lib.hid hsn
  have HTN := Lib.hid htn
  have HCE := Lib.hid hcE
  have HRA := Lib.hid hrA
  have HB22 := Lib.hid (Below.refl w2.heap.size w2)
  have hle1 : w.heap.size ≤ w.heap.size + 1 := Nat.le_succ _
  rw [← hsn] at hla
  rw [← htn] at hlb
  have HIA : Hid (InL aN) := Lib.hid ha
  clear hs ht hw2 hs2 r1 r2 hsn htn hb2 hcE hrA ha hra hrb
  clear HKab
  have hn := cnt_c ⟨bL, bR, bN⟩ (.slice ta tn tc) w2 (HK.out w2 HB22.out).2
  obtain ⟨x, hx⟩ : ∃ x : Int, x = numV ⟨bL, bR, bN⟩ := ⟨_, rfl⟩
  rw [← hx] at hn
  have HX := Lib.hid hx
  have HXB : Hid (cE = 0 → 0 ≤ x ∧ x ≤ 200) := Lib.hid (fun h => by
    rw [HCE.out] at h
    unfold cntE at h
    split at h
    · rw [← hx] at h
      split at h
      · cases h
      · split at h
        · cases h
        · omega
    · rename_i h1
      exact absurd h h1)
  have hp0 := HP.out w2 HB22.out
  obtain ⟨k0, k1, k2, k3, k4, k5⟩ := srow6 hp0.1
  rw [HW2.out] at k0 k1 k2 k3 k4 k5
  rw [← HCE.out, HW2.out] at hn
  have HN : Hid (Calls Tryz.prog 77 #[.agg #[.bool bL, .bool bR, .slice ta tn tc]] _ fun e w' => Below w2.heap.size w2 w' ∧ ((cE = 0 ∧ e = .returned (.tuple #[.int .i64 x, .nilIface])) ∨ (cE ≠ 0 ∧ e = .returned (.tuple #[.int .i64 0, sh_faultV cE])))) := Lib.hid (hn.mono fun e w' h => by unfold NumOut at h; rw [← HW2.out] at h; exact h)
  clear hn hx hp0
  by_cases h0 : cE = 0
  · obtain ⟨n, rfl⟩ : ∃ n : Nat, x = (n : Int) := ⟨x.toNat, by have := HXB.out h0; omega⟩
    have hn200 : n ≤ 200 := by have := HXB.out h0; omega
    have HBL := Lib.hid (fun W => blank_c true false n (by omega) W)
    go_enter Tryz.func49, Tryz.ntmps49
    go_wp2_with (first
      | (go_at_call 77; refine HN.out.mono ?_; rintro e w3 ⟨hb, ⟨_, rfl⟩ | ⟨h, _⟩⟩; rotate_left; exact absurd h0 h; have HB3 := Lib.hid hb; clear hb; obtain ⟨kw30, kw31, kw32, kw33, kw34, kw35⟩ := srow6 (HP.out w3 HB3.out).1; obtain ⟨dw30, dw31, dw32, fw30, fw31, fw32⟩ := srow3 (HP.out w3 HB3.out).2.1; skip)
      | (go_at_call 74; refine (HBL.out _).mono ?_; rintro e w4 ⟨mb, rfl, hmb, hrow, hb⟩; have HB4 := Lib.hid (HB3.out.trans (hb.mono HB3.out.size)); have HROW := Lib.hid hrow; have HMB := Lib.hid (Nat.le_trans HB3.out.size hmb); clear hb hmb hrow))
    obtain ⟨w5, hw5⟩ : ∃ w5, w5 = w4.alloc (.cells #[.bool true, .bool false, .slice (some ⟨mb, 0, none⟩) n n] 24) := ⟨_, rfl⟩
    have h45 : Below w4.heap.size w4 w5 := by rw [hw5]; exact (Below.refl _ _).alloc (Nat.le_refl _) _
    have r5 : Row w5 w4.heap.size 24 #[.bool true, .bool false, .slice (some ⟨mb, 0, none⟩) n n] := by rw [hw5]; exact Row.new _ _ _
    have rm5 := HROW.out.below h45 HROW.out.lt
    have HB5 := Lib.hid (HB4.out.trans (h45.mono HB4.out.size))
    have HW5 := Lib.hid hw5
    have HR5 := Lib.hid r5
    have HM5 := Lib.hid rm5
    have hne1 : mb ≠ w4.heap.size := by have := HROW.out.lt; omega
    have hmw : w2.heap.size ≤ mb := HMB.out
    clear hw5 r5 h45 rm5
    go_loopw [21] (fun i wr => ∃ k : Nat, k ≤ n ∧ i = .int .i64 (k : Int) ∧ Below w2.heap.size w2 wr ∧ Row wr w4.heap.size 24 #[.bool true, .bool false, .slice (some ⟨mb, 0, none⟩) n n] ∧ Row wr mb 2 (intV (upL k ++ List.replicate (n - k) 0))) (fun i _ => n - (intOf i).toNat)
    case atStart => exact ⟨0, Nat.zero_le _, rfl, by rw [← HW5.out]; exact HB5.out, by rw [← HW5.out]; exact HR5.out, by rw [← HW5.out]; exact HM5.out⟩
    case round =>
      obtain ⟨k, hk, rfl, hb, hr5, hrm⟩ := hrel
      obtain ⟨e0, e1, e2, -, -, -⟩ := srow3 hr5
      by_cases hlt : k < n
      · have hz := row_int hrm (k := k) (x := 0) (by rw [List.getElem?_append_right (by rw [upL_len]; omega), upL_len, Nat.sub_self, List.getElem?_replicate, if_pos (by omega)])
        obtain ⟨z0, z1⟩ := hz
        have HN9 : Hid (∀ W, W = wr.setCell ⟨mb, k, none⟩ (.int .i64 ((k : Int) + 1)) → Below w2.heap.size w2 W ∧ Row W w4.heap.size 24 #[.bool true, .bool false, .slice (some ⟨mb, 0, none⟩) n n] ∧ Row W mb 2 (intV (upL (k + 1) ++ List.replicate (n - (k + 1)) 0))) := Lib.hid (fun W e => by
          have := row_put hrm k ((k : Int) + 1)
          rw [set_next (upL_len k) hlt, ← upL_snoc] at this
          rw [e]
          exact ⟨hb.setCell (p := ⟨mb, k, none⟩) hmw _, hr5.other hne1.symm _, this⟩)
        have hlt' : (k : Int) < (n : Int) := by omega
        have hk0 : (0 : Int) ≤ (k : Int) := Int.natCast_nonneg _
        clear hb hr5 hrm
        go_wp2_with fail
        go_roundw
        case rel =>
          have := HN9.out _ rfl
          exact ⟨k + 1, by omega, by go_num, this.1, this.2.1, this.2.2⟩
        case measure => simp [intOf]; omega
      · obtain rfl : k = n := by omega
        rw [Nat.sub_self, List.replicate_zero, List.append_nil] at hrm
        have hkl := kl_of_row hrm (by rw [upL_len]; omega)
        rw [upL_len] at hkl
        have HBW := Lib.hid hb
        have HKL := Lib.hid hkl
        obtain ⟨d0, d1, d2, f0, f1, f2⟩ := srow3 (HP.out wr hb).2.1
        clear hb hr5 hrm hkl
        go_wp2_with fail
        have hf := fin_of (HP.out wr HBW.out).2.2 hle1 (HP.out wr HBW.out).2.1 (.bool true) (.bool false) (.slice (some ⟨mb, 0, none⟩) k k)
        refine bodyPost_ret (v := .tuple #[.agg #[.bool true, .bool false, .slice (some ⟨mb, 0, none⟩) k k], .nilIface]) (by simp [results, Tryz.f49, go_sem, hf.c0, hf.c1, hf.c2]) rfl ⟨hf.below, .inl ⟨h0, .slice (some ⟨mb, 0, none⟩) k k, by rw [show rA = ⟨true, false, upL k⟩ from by rw [HRA.out, ← HX.out]; rfl], by rw [show rA = ⟨true, false, upL k⟩ from by rw [HRA.out, ← HX.out]; rfl]; exact hf.kl _ _ HKL.out⟩⟩
  · go_enter Tryz.func49, Tryz.ntmps49
    go_wp2_with (go_at_call 77; refine HN.out.mono ?_; rintro e w3 ⟨hb, ⟨h, _⟩ | ⟨_, rfl⟩⟩; exact absurd h h0; have HB3 := Lib.hid hb; clear hb; obtain ⟨kw30, kw31, kw32, kw33, kw34, kw35⟩ := srow6 (HP.out w3 HB3.out).1; obtain ⟨dw30, dw31, dw32, fw30, fw31, fw32⟩ := srow3 (HP.out w3 HB3.out).2.1; skip)
    have hf := fin_of (HP.out w3 HB3.out).2.2 hle1 (HP.out w3 HB3.out).2.1 (.bool false) (.bool false) (.slice none 0 0)
    refine bodyPost_ret (v := .tuple #[.agg #[.bool false, .bool false, .slice none 0 0], sh_faultV (cE)]) (by simp [results, Tryz.f49, go_sem, hf.c0, hf.c1, hf.c2]) rfl ⟨hf.below, .inr ⟨h0, rfl⟩⟩
set_option maxRecDepth 100000 in
set_option maxHeartbeats 4000000 in
theorem first_c (a b : Ary) (s t : Value) (w : World) (hs : KL w s a.n) (ht : KL w t b.n) (ha : InL a.n) (hra : rightA a = true) (hrb : rightA b = true) : Calls Tryz.prog 55 #[pairV a b s t] w fun e w' => MkOut (0) (⟨false, b.runes, [b.n.headD (fillN b.runes)]⟩) w e w' := by
  have hla := right200 hra
  have hlb := right200 hrb
  obtain ⟨cE, hcE⟩ : ∃ c : Int, c = 0 := ⟨_, rfl⟩
  obtain ⟨rA, hrA⟩ : ∃ r : Ary, r = ⟨false, b.runes, [b.n.headD (fillN b.runes)]⟩ := ⟨_, rfl⟩
  rw [← hrA, ← hcE]
  obtain ⟨aL, aR, aN⟩ := a
  obtain ⟨bL, bR, bN⟩ := b
  have HKab : Hid (∀ W, Below w.heap.size w W → KL W s aN ∧ KL W t bN) := Lib.hid (fun W h => ⟨hs.below h, ht.below h⟩)
  dsimp only [pairV] at *
  obtain ⟨sa, sc, hsf, -, -⟩ := hs.form
  obtain ⟨sn, hsn⟩ : ∃ sn, sn = aN.length := ⟨_, rfl⟩
  rw [← hsn] at hsf
  subst hsf
  obtain ⟨ta, tc, htf, -, -⟩ := ht.form
  obtain ⟨tn, htn⟩ : ∃ tn, tn = bN.length := ⟨_, rfl⟩
  rw [← htn] at htf
  subst htf
  obtain ⟨w2, hw2⟩ : ∃ w2, w2 = (w.alloc (.cells #[.bool aL, .bool aR, .slice sa sn sc, .bool bL, .bool bR, .slice ta tn tc] 64)).alloc (.cells #[.bool false, .bool false, .slice none 0 0] 24) := ⟨_, rfl⟩
  have hb2 : Below w.heap.size w w2 := by rw [hw2]; exact ((Below.refl _ w).alloc (Nat.le_refl _) _).alloc (by simp) _
  have hs2 : w2.heap.size = w.heap.size + 1 + 1 := by rw [hw2]; simp
  have r1 : Row w2 w.heap.size 64 #[.bool aL, .bool aR, .slice sa sn sc, .bool bL, .bool bR, .slice ta tn tc] := by rw [hw2]; exact (Row.new _ _ _).alloc _
  have r2 : Row w2 (w.heap.size + 1) 24 #[.bool false, .bool false, .slice none 0 0] := by rw [hw2]; exact Row.at _ _ _ _ (by simp)
  have HP : Hid (∀ W, Below w2.heap.size w2 W → Row W w.heap.size 64 #[.bool aL, .bool aR, .slice sa sn sc, .bool bL, .bool bR, .slice ta tn tc] ∧ Row W (w.heap.size + 1) 24 #[.bool false, .bool false, .slice none 0 0] ∧ Below w.heap.size w W) := Lib.hid (fun W h => ⟨r1.below h (by omega), r2.below h (by omega), hb2.trans (h.mono hb2.size)⟩)
  have HK : Hid (∀ W, Below w2.heap.size w2 W → KL W (.slice sa sn sc) aN ∧ KL W (.slice ta tn tc) bN) := Lib.hid (fun W h => HKab.out W (hb2.trans (h.mono hb2.size)))
  have HW2 := Lib.hid hw2
  have HS2 := Lib.hid hs2
  have HSN := Lib.hid hsn
  have HTN := Lib.hid htn
  have HCE := Lib.hid hcE
  have HRA := Lib.hid hrA
  have HB22 := Lib.hid (Below.refl w2.heap.size w2)
  have hle1 : w.heap.size ≤ w.heap.size + 1 := Nat.le_succ _
  rw [← hsn] at hla
  rw [← htn] at hlb
  have HIA : Hid (InL aN) := Lib.hid ha
  clear hs ht hw2 hs2 r1 r2 hsn htn hb2 hcE hrA ha hra hrb
  clear HKab
  have hp0 := HP.out w2 HB22.out
  obtain ⟨k0, k1, k2, k3, k4, k5⟩ := srow6 hp0.1
  rw [HW2.out] at k0 k1 k2 k3 k4 k5
  have HBL := Lib.hid (fun W => blank_c false bR 1 (by omega) W)
  clear hp0
  go_enter Tryz.func55, Tryz.ntmps55
  go_wp2_with (go_at_call 74; refine (HBL.out _).mono ?_; rintro e w4 ⟨mb, rfl, hmb, hrow, hb⟩; rw [← HW2.out] at hb hmb; have HB4 := Lib.hid hb; have HROW := Lib.hid hrow; have HMB := Lib.hid hmb; clear hb hmb hrow)
  obtain ⟨w5, hw5⟩ : ∃ w5, w5 = w4.alloc (.cells #[.bool false, .bool bR, .slice (some ⟨mb, 0, none⟩) 1 1] 24) := ⟨_, rfl⟩
  have h45 : Below w4.heap.size w4 w5 := by rw [hw5]; exact (Below.refl _ _).alloc (Nat.le_refl _) _
  have r5 : Row w5 w4.heap.size 24 #[.bool false, .bool bR, .slice (some ⟨mb, 0, none⟩) 1 1] := by rw [hw5]; exact Row.new _ _ _
  have rm5 := HROW.out.below h45 HROW.out.lt
  have hb5 := HB4.out.trans (h45.mono HB4.out.size)
  have hne1 : mb ≠ w4.heap.size := by have := HROW.out.lt; omega
  have hmw : w2.heap.size ≤ mb := HMB.out
  have hii : II w2 [(w.heap.size, 64, #[.bool aL, .bool aR, .slice sa sn sc, .bool bL, .bool bR, .slice ta tn tc]), (w4.heap.size, 24, #[.bool false, .bool bR, .slice (some ⟨mb, 0, none⟩) 1 1])] mb [0] [fillN bR] w5 := ⟨⟨hb5, fun _ h => absurd h (by simp), fun r hr => by
    simp only [List.mem_cons, List.not_mem_nil, or_false] at hr
    rcases hr with rfl | rfl
    · exact (HP.out w5 hb5).1
    · exact r5⟩, hmw, .inl rm5⟩
  have HII := Lib.hid hii
  have HW5 := Lib.hid hw5
  have hs2 := HS2.out
  have hz4 : w.heap.size + 1 + 1 ≤ w4.heap.size := by rw [← hs2]; exact HB4.out.size
  have hml := HROW.out.lt
  clear h45 r5 rm5 hb5 hii
  rw [← HW5.out]
  refine (wpIn_wide (n := 9)).1 ?_
  refine wpIn_region_putI (by kernel_rfl) (by kernel_rfl) [7] (fun z => if z = 7 then 0 else 0) (fun z => if z = 7 then 0 else 0) (fun j => keepV ([.val (.pointer (some ⟨w4.heap.size, 2, none⟩)), .val (.slice (some ⟨mb, 0, none⟩) 1 1), .val (.pointer (some ⟨w.heap.size, 3, none⟩)), .val (.pointer (some ⟨w.heap.size, 4, none⟩)), .val (.bool bR), .val (.int .i64 (fillN bR)), .val (.pointer (some ⟨mb, 0, none⟩)), .any].getD j .any)) (by decide) (II w2 [(w.heap.size, 64, #[.bool aL, .bool aR, .slice sa sn sc, .bool bL, .bool bR, .slice ta tn tc]), (w4.heap.size, 24, #[.bool false, .bool bR, .slice (some ⟨mb, 0, none⟩) 1 1])] (mb) ([0]) ([fillN bR])) (fun i => PhS ([.val (.pointer (some ⟨w4.heap.size, 2, none⟩)), .val (.slice (some ⟨mb, 0, none⟩) 1 1), .val (.pointer (some ⟨w.heap.size, 3, none⟩)), .val (.pointer (some ⟨w.heap.size, 4, none⟩)), .val (.bool bR), .val (.int .i64 (fillN bR)), .val (.pointer (some ⟨mb, 0, none⟩)), .any].getD i .any)) (fun z u v W => Row W (mb) 2 (intV ([fillN bR]))) (fun W W' hb h => h.below hb) (fun i v W W' hb h => PhS.below hb h) (fun i u v W W' hb h => h.below hb h.lt) (HII.out.below (Below.refl _ _).drew) ?_ ?_ ?_
  · intro i oo listed a' W val ho hi hnz haf hS hIW hF
    have hi' : i < 8 := hi
    obtain rfl | rfl | rfl | rfl | rfl | rfl | rfl | rfl : i = 0 ∨ i = 1 ∨ i = 2 ∨ i = 3 ∨ i = 4 ∨ i = 5 ∨ i = 6 ∨ i = 7 := by omega
    · cases ho
      refine opG_plain rfl rfl ?_
      have q4 : a'.tmps[4]? = some (.pointer (some ⟨w4.heap.size, 0, none⟩)) := (hS.tmpBase 4 (by kernel_rfl)).trans rfl
      refine op_valv (.pointer (some ⟨w4.heap.size, 2, none⟩)) W (fun _ _ => trivial) ?_ ⟨Below.refl _ _, rfl⟩
      rw [Oper.semAt_plain _ _ _ (by intro c h; cases h)]
      simp [execOp, q4, go_sem]
    · cases ho
      refine opG_plain rfl rfl ?_
      have l0 : listed.getD 0 false = true := haf ⟨0, .data⟩ (Array.mem_of_getElem? (i := 0) rfl) rfl
      have q9 : a'.tmps[9]? = some (val 0) := hS.tmpSet 0 _ 9 rfl rfl (by simp) l0
      have h0 : PhS (.val (.pointer (some ⟨w4.heap.size, 2, none⟩))) (val 0) W := hF 0 l0 rfl
      rw [show val 0 = .pointer (some ⟨w4.heap.size, 2, none⟩) from h0] at q9
      have hr := hIW.1.2.2 _ (List.mem_of_getElem? (i := 1) rfl)
      obtain ⟨z0, z1, z2, -, -, -⟩ := srow3 hr
      refine op_valv (.slice (some ⟨mb, 0, none⟩) 1 1) W (fun _ _ => trivial) ?_ ⟨Below.refl _ _, rfl⟩
      rw [Oper.semAt_plain _ _ _ (by intro c h; cases h)]
      simp [execOp, q9, z2, go_sem]
    · cases ho
      refine opG_plain rfl rfl ?_
      have q1 : a'.tmps[1]? = some (.pointer (some ⟨w.heap.size, 0, none⟩)) := (hS.tmpBase 1 (by kernel_rfl)).trans rfl
      refine op_valv (.pointer (some ⟨w.heap.size, 3, none⟩)) W (fun _ _ => trivial) ?_ ⟨Below.refl _ _, rfl⟩
      rw [Oper.semAt_plain _ _ _ (by intro c h; cases h)]
      simp [execOp, q1, go_sem]
    · cases ho
      refine opG_plain rfl rfl ?_
      have l2 : listed.getD 2 false = true := haf ⟨2, .data⟩ (Array.mem_of_getElem? (i := 0) rfl) rfl
      have q11 : a'.tmps[11]? = some (val 2) := hS.tmpSet 2 _ 11 rfl rfl (by simp) l2
      have h2 : PhS (.val (.pointer (some ⟨w.heap.size, 3, none⟩))) (val 2) W := hF 2 l2 rfl
      rw [show val 2 = .pointer (some ⟨w.heap.size, 3, none⟩) from h2] at q11
      refine op_valv (.pointer (some ⟨w.heap.size, 4, none⟩)) W (fun _ _ => trivial) ?_ ⟨Below.refl _ _, rfl⟩
      rw [Oper.semAt_plain _ _ _ (by intro c h; cases h)]
      simp [execOp, q11, go_sem]
    · cases ho
      refine opG_plain rfl rfl ?_
      have l3 : listed.getD 3 false = true := haf ⟨3, .data⟩ (Array.mem_of_getElem? (i := 0) rfl) rfl
      have q12 : a'.tmps[12]? = some (val 3) := hS.tmpSet 3 _ 12 rfl rfl (by simp) l3
      have h3 : PhS (.val (.pointer (some ⟨w.heap.size, 4, none⟩))) (val 3) W := hF 3 l3 rfl
      rw [show val 3 = .pointer (some ⟨w.heap.size, 4, none⟩) from h3] at q12
      have hr := hIW.1.2.2 _ (List.mem_of_getElem? (i := 0) rfl)
      obtain ⟨z0, z1, z2, z3, z4, z5⟩ := srow6 hr
      refine op_valv (.bool bR) W (fun _ _ => trivial) ?_ ⟨Below.refl _ _, rfl⟩
      rw [Oper.semAt_plain _ _ _ (by intro c h; cases h)]
      simp [execOp, q12, z4, go_sem]
    · cases ho
      refine opG_plain rfl rfl ?_
      have l4 : listed.getD 4 false = true := haf ⟨4, .data⟩ (Array.mem_of_getElem? (i := 0) rfl) rfl
      have q13 : a'.tmps[13]? = some (val 4) := hS.tmpSet 4 _ 13 rfl rfl (by simp) l4
      have h4 : PhS (.val (.bool bR)) (val 4) W := hF 4 l4 rfl
      rw [show val 4 = .bool bR from h4] at q13
      refine op_callv 23 #[.bool bR] (fun _ _ => trivial) ?_ (by omega) ((callsIn_wide.2 (fill_c bR W)).mono ?_)
      · rw [Oper.semAt_plain _ _ _ (by intro c h; cases h)]
        simp [execOp, q13, go_sem]
      · rintro e W2 ⟨rfl, rfl⟩
        exact ⟨_, rfl, Below.refl _ _, rfl⟩
    · cases ho
      refine opG_plain rfl rfl ?_
      have l1 : listed.getD 1 false = true := haf ⟨1, .data⟩ (Array.mem_of_getElem? (i := 0) rfl) rfl
      have q10 : a'.tmps[10]? = some (val 1) := hS.tmpSet 1 _ 10 rfl rfl (by simp) l1
      have h1 : PhS (.val (.slice (some ⟨mb, 0, none⟩) 1 1)) (val 1) W := hF 1 l1 rfl
      rw [show val 1 = .slice (some ⟨mb, 0, none⟩) 1 1 from h1] at q10
      refine op_valv (.pointer (some ⟨mb, 0, none⟩)) W (fun _ _ => trivial) ?_ ⟨Below.refl _ _, rfl⟩
      rw [Oper.semAt_plain _ _ _ (by intro c h; cases h)]
      simp [execOp, q10, go_sem]
    · exact absurd (by decide) hnz
  · intro z oo listed a' W val hz ho haf hS hIW hF hO
    have hz' : z = 7 := by simpa using hz
    obtain rfl := hz'
    · cases ho
      refine opG_plain rfl rfl ?_
      have l6 : listed.getD 6 false = true := haf ⟨6, .data⟩ (Array.mem_of_getElem? (i := 0) rfl) rfl
      have q15 : a'.tmps[15]? = some (val 6) := hS.tmpSet 6 _ 15 rfl rfl (by simp) l6
      have h6 : PhS (.val (.pointer (some ⟨mb, 0, none⟩))) (val 6) W := hF 6 l6 rfl
      rw [show val 6 = .pointer (some ⟨mb, 0, none⟩) from h6] at q15
      have l5 : listed.getD 5 false = true := haf ⟨5, .data⟩ (Array.mem_of_getElem? (i := 1) rfl) rfl
      have q14 : a'.tmps[14]? = some (val 5) := hS.tmpSet 5 _ 14 rfl rfl (by simp) l5
      have h5 : PhS (.val (.int .i64 (fillN bR))) (val 5) W := hF 5 l5 rfl
      rw [show val 5 = .int .i64 (fillN bR) from h5] at q14
      obtain ⟨y9, d0, f0⟩ := II.cell hIW (k := 0) (Nat.one_pos) (rfl)
      have hpt := II.put hIW (fun r hr => by simp only [List.mem_cons, List.not_mem_nil, or_false] at hr; rcases hr with rfl | rfl <;> (dsimp only; omega)) (0) (fillN bR) (rfl) (rfl)
      refine op_skipv (W.setCell ⟨mb, 0, none⟩ (.int .i64 (fillN bR))) (fun _ _ => trivial) ?_ ⟨hpt.1, trivial, fun j hj hk => PhS.anyW hk (hF j hj hk), hpt.2, fun y hy _ hne => absurd (by simpa using hy) hne⟩
      rw [Oper.semAt_plain _ _ _ (by intro c h; cases h)]
      simp [execOp, q15, q14, d0, f0, go_sem]
  · intro W9 val hIW hF hST
    have e0 : val 0 = .pointer (some ⟨w4.heap.size, 2, none⟩) := hF 0 (by decide) rfl
    have e1 : val 1 = .slice (some ⟨mb, 0, none⟩) 1 1 := hF 1 (by decide) rfl
    have e2 : val 2 = .pointer (some ⟨w.heap.size, 3, none⟩) := hF 2 (by decide) rfl
    have e3 : val 3 = .pointer (some ⟨w.heap.size, 4, none⟩) := hF 3 (by decide) rfl
    have e4 : val 4 = .bool bR := hF 4 (by decide) rfl
    have e5 : val 5 = .int .i64 (fillN bR) := hF 5 (by decide) rfl
    have e6 : val 6 = .pointer (some ⟨mb, 0, none⟩) := hF 6 (by decide) rfl
    have hst7 := hST 7 (by simp)
    simp only [finAct, List.getElem?_toArray, List.getElem?_cons_zero, List.getElem?_cons_succ, Act.put, List.setIfInBounds_toArray, List.set_cons_zero, List.set_cons_succ, List.size_toArray, List.length_cons, List.length_nil, Nat.reduceAdd]
    simp only [e0, e1, e2, e3, e4, e5, e6]
    have hb9 := hIW.1.1
    have hr9 := hIW.1.2.2 _ (List.mem_of_getElem? (i := 1) rfl)
    dsimp only at hr9
    clear hF hST hIW
    obtain ⟨m0, m1, m2, m3, m4, m5⟩ := srow6 (HP.out W9 hb9).1
    obtain ⟨e0, e1, e2, -, -, -⟩ := srow3 hr9
    have hcp := run_copy_kl W9 mb 0 1 1 _ _ _ (HK.out W9 hb9).2 hst7 (by simp; omega)
    have hsp : splI [fillN bR] 0 (bN.take 1) = [bN.headD (fillN bR)] := by
      cases bN with
      | nil => rfl
      | cons y L => rfl
    obtain ⟨q, hq⟩ : ∃ q : Nat, q = (bN.take 1).length := ⟨_, rfl⟩
    rw [hsp, ← hq] at hcp
    change _ = Result.ok (Value.int .i64 (q : Int)) _ at hcp
    obtain ⟨w7, hw7⟩ : ∃ w7, w7 = W9.setRow mb (intV [bN.headD (fillN bR)]) := ⟨_, rfl⟩
    rw [← hw7] at hcp
    have hb7 : Below w2.heap.size w2 w7 := by rw [hw7]; exact below_setRow hb9 hmw _
    have hm7 : Row w7 mb 2 (intV [bN.headD (fillN bR)]) := by rw [hw7]; exact row_copied hst7 _
    have hr7 : Row w7 w4.heap.size 24 #[.bool false, .bool bR, .slice (some ⟨mb, 0, none⟩) 1 1] := by rw [hw7]; exact (setRow_other _ _ _ _ hne1.symm).trans hr9
    obtain ⟨g0, g1, g2, -, -, -⟩ := srow3 hr7
    obtain ⟨d0, d1, d2, f0, f1, f2⟩ := srow3 (HP.out w7 hb7).2.1
    have HB7 := Lib.hid hb7
    have HK7 := Lib.hid (kl_of_row hm7 (by simp))
    clear hb9 hr9 hst7 hsp hq hw7 hb7 hm7 hr7
    go_wp2_with fail
    have hf := fin_of (HP.out w7 HB7.out).2.2 hle1 (HP.out w7 HB7.out).2.1 (.bool false) (.bool bR) (.slice (some ⟨mb, 0, none⟩) 1 1)
    refine bodyPost_ret (v := .tuple #[.agg #[.bool false, .bool bR, .slice (some ⟨mb, 0, none⟩) 1 1], .nilIface]) (by simp [results, Tryz.f55, go_sem, hf.c0, hf.c1, hf.c2]) rfl ⟨hf.below, .inl ⟨HCE.out, .slice (some ⟨mb, 0, none⟩) 1 1, by rw [show rA = ⟨false, bR, [bN.headD (fillN bR)]⟩ from HRA.out], by rw [show rA = ⟨false, bR, [bN.headD (fillN bR)]⟩ from HRA.out]; exact hf.kl _ _ HK7.out⟩⟩
end Go.Proofs.YteclpoooggcdoaaGreatDoor.Ar
