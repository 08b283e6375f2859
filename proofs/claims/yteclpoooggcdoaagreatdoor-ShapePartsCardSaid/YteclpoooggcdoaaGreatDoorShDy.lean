/- shape's Dy (by wip/gen/mkshmd.py). -/
import Derived.Test.YteclpoooggcdoaaGreatDoorShAp2
import Derived.Test.YteclpoooggcdoaaGreatDoorShMon
import Derived.Test.YteclpoooggcdoaaGreatDoorShD
import Derived.Test.YteclpoooggcdoaaGreatDoorShE
import Derived.Test.YteclpoooggcdoaaGreatDoorShMk7
namespace Go.Proofs.YteclpoooggcdoaaGreatDoor.Ar
open Go Go.RowKit Go.Shelf
attribute [local go_sem] Oper.semAt_some

def F2 : Nat → Option Nat
  | 0 => some 48
  | 1 => some 50
  | 2 => some 52
  | 3 => some 54
  | 4 => some 56
  | 5 => some 57
  | 6 => some 59
  | _ => none
theorem fs2_eq (k : Nat) : ∃ p q, fsV k = .agg #[p, q] ∧ q = dov2 (F2 k) := by
  rcases k with _ | _ | _ | _ | _ | _ | _ | k <;> exact ⟨_, _, rfl, rfl⟩
theorem makers2 (k : Nat) (a b : Ary) (s t : Value) (w : World) (hs : KL w s a.n) (ht : KL w t b.n) (hi : InL a.n) (f : Nat) (hf : F2 k = some f) : (∀ args w, (callFunc f args).run Tryz.prog w = .ok (.enter f args) w) ∧ ((rightA a && rightA b) = true → ∀ W, Below w.heap.size w W → Calls Tryz.prog f #[pairV a b s t] W fun e w' => MkOut (mkE2 k a b) (mkA2 k a b) W e w') := by
  rcases k with _ | _ | _ | _ | _ | _ | _ | k
  · injection hf with hf
    subst hf
    exact ⟨fun args w => enters_of Tryz.func48 (by kernel_rfl) rfl args w, fun hr W hb => by
      rw [Bool.and_eq_true] at hr
      exact repeated_c a b s t W (hs.below hb) (ht.below hb) hi hr.1 hr.2⟩
  · injection hf with hf
    subst hf
    exact ⟨fun args w => enters_of Tryz.func50 (by kernel_rfl) rfl args w, fun hr W hb => by
      rw [Bool.and_eq_true] at hr
      exact places_c a b s t W (hs.below hb) (ht.below hb) hi hr.1 hr.2⟩
  · injection hf with hf
    subst hf
    exact ⟨fun args w => enters_of Tryz.func52 (by kernel_rfl) rfl args w, fun hr W hb => by
      rw [Bool.and_eq_true] at hr
      exact joined_c a b s t W (hs.below hb) (ht.below hb) hi hr.1 hr.2⟩
  · injection hf with hf
    subst hf
    exact ⟨fun args w => enters_of Tryz.func54 (by kernel_rfl) rfl args w, fun hr W hb => by
      rw [Bool.and_eq_true] at hr
      exact turned_c a b s t W (hs.below hb) (ht.below hb) hi hr.1 hr.2⟩
  · injection hf with hf
    subst hf
    exact ⟨fun args w => enters_of Tryz.func56 (by kernel_rfl) rfl args w, fun hr W hb => by
      rw [Bool.and_eq_true] at hr
      exact taken_c a b s t W (hs.below hb) (ht.below hb) hi hr.1 hr.2⟩
  · injection hf with hf
    subst hf
    exact ⟨fun args w => enters_of Tryz.func57 (by kernel_rfl) rfl args w, fun hr W hb => by
      rw [Bool.and_eq_true] at hr
      exact dropped_c a b s t W (hs.below hb) (ht.below hb) hi hr.1 hr.2⟩
  · injection hf with hf
    subst hf
    exact ⟨fun args w => enters_of Tryz.func59 (by kernel_rfl) rfl args w, fun hr W hb => by
      rw [Bool.and_eq_true] at hr
      exact differs_c a b s t W (hs.below hb) (ht.below hb) hi hr.1 hr.2⟩
  · cases hf
set_option maxRecDepth 100000 in
set_option maxHeartbeats 8000000 in
theorem sdy_c (g : ByteArray) (a b : Ary) (s t : Value) (w : World) (hs : KL w s a.n) (ht : KL w t b.n) (hi : InL a.n) (hj : InL b.n) (hG : Nu.ErrT w) : Calls Tryz.prog 16 #[.string g, aryV a s, aryV b t] w fun e w' => ∃ va vn vc, e = .returned (.tuple #[.agg #[.bool (sdA g a b).list, .bool (sdA g a b).runes, .slice va vn vc], .int .i64 (sdE g a b)]) ∧ KL w' (.slice va vn vc) (sdA g a b).n ∧ Below w.heap.size w w' := by
  obtain ⟨k, hk⟩ : ∃ k, k = whichS g := ⟨_, rfl⟩
  have hk7 : k ≤ 7 := by rw [hk]; exact whichS_le g
  obtain ⟨fp, fq, hpq, hdo⟩ := fs2_eq k
  have HAPP : Hid (∀ W b9, Below w.heap.size w W → Row W b9 24 #[.bool a.list, .bool a.runes, s, .bool b.list, .bool b.runes, t] → Calls Tryz.prog 30 #[.string g, fq, .slice (some ⟨b9, 0, none⟩) 2 2] W fun e w' => ApOut2 g (sdE g a b) (mkA2 k a b) W e w') := Lib.hid (fun W b9 hb hr => by
    have := apply2_c g a b s t (F2 k) (mkE2 k a b) (mkA2 k a b) b9 W (hs.below hb) (ht.below hb) hi hj hr (fun f hf => by
      have h := makers2 k a b s t W (hs.below hb) (ht.below hb) hi f hf
      exact h)
    rw [hdo]
    have e : (if (rightA a && rightA b) = true then (if F2 k = none then 102 else mkE2 k a b) else 114) = sdE g a b := by
      unfold sdE
      rw [← hk]
      split
      · have : k = 0 ∨ k = 1 ∨ k = 2 ∨ k = 3 ∨ k = 4 ∨ k = 5 ∨ k = 6 ∨ k = 7 := by omega
        rcases this with h | h | h | h | h | h | h | h <;> rw [h] <;> rfl
      · rfl
    rw [e] at this
    exact this)
  have HFI : Hid (∀ W, Calls Tryz.prog 31 #[.string g] W fun e w' => e = .returned (.agg #[fp, fq]) ∧ Below W.heap.size W w') := Lib.hid (fun W => by rw [← hpq, hk]; exact find_c g W)
  obtain ⟨c, hc⟩ : ∃ c : Int, c = sdE g a b := ⟨_, rfl⟩
  obtain ⟨R, hR⟩ : ∃ R : Ary, R = sdA g a b := ⟨_, rfl⟩
  have HRA : Hid (R = if c = 0 then mkA2 k a b else noA) := Lib.hid (by rw [hR, hc, hk]; rfl)
  obtain ⟨Q, hQ⟩ : ∃ Q : Ary, Q = mkA2 k a b := ⟨_, rfl⟩
  rw [← hQ] at HRA HAPP
  rw [← hc] at HAPP
  rw [← hc, ← hR]
  have HET : Hid (∀ W, Below w.heap.size w W → Nu.ErrT W) := Lib.hid (fun W h => hG.below h hG.2)
  have HTO := Lib.hid (fun v c W h1 h2 => sh_told_c v c W h1 h2)
  obtain ⟨aL, aR, aN⟩ := a
  obtain ⟨bL, bR, bN⟩ := b
  dsimp only [aryV] at *
  obtain ⟨sa, sc, hsf, -, -⟩ := hs.form
  obtain ⟨sn, hsn⟩ : ∃ sn, sn = aN.length := ⟨_, rfl⟩
  rw [← hsn] at hsf
  subst hsf
  obtain ⟨ta, tc, htf, -, -⟩ := ht.form
  obtain ⟨tn, htn⟩ : ∃ tn, tn = bN.length := ⟨_, rfl⟩
  rw [← htn] at htf
  subst htf
  obtain ⟨w2, hw2⟩ : ∃ w2, w2 = (((w.alloc (.cells #[.bool aL, .bool aR, .slice sa sn sc] 24)).alloc (.cells #[.bool bL, .bool bR, .slice ta tn tc] 24)).alloc (.cells #[.bool false, .bool false, .slice none 0 0] 24)) := ⟨_, rfl⟩
  have hs2 : w2.heap.size = w.heap.size + 1 + 1 + 1 := by rw [hw2]; simp
  have hb2 : Below w.heap.size w w2 := by rw [hw2]; exact (((Below.refl _ w).alloc (Nat.le_refl _) _).alloc (by simp) _).alloc (by simp; omega) _
  have r1 : Row w2 w.heap.size 24 #[.bool aL, .bool aR, .slice sa sn sc] := by rw [hw2]; exact ((Row.new _ _ _).alloc _).alloc _
  have r2 : Row w2 (w.heap.size + 1) 24 #[.bool bL, .bool bR, .slice ta tn tc] := by rw [hw2]; exact (Row.at _ _ _ _ (by simp)).alloc _
  have r3 : Row w2 (w.heap.size + 1 + 1) 24 #[.bool false, .bool false, .slice none 0 0] := by rw [hw2]; exact Row.at _ _ _ _ (by simp)
  have HIB : Hid (IB w2 [] [(w.heap.size, 24, #[.bool aL, .bool aR, .slice sa sn sc]), (w.heap.size + 1, 24, #[.bool bL, .bool bR, .slice ta tn tc]), (w.heap.size + 1 + 1, 24, #[.bool false, .bool false, .slice none 0 0])] w2) := Lib.hid ⟨Below.refl _ _, (fun _ hk => absurd hk (by simp)), fun r hr => by
    simp only [List.mem_cons, List.not_mem_nil, or_false] at hr
    rcases hr with rfl | rfl | rfl
    · exact r1
    · exact r2
    · exact r3⟩
  have HW2 := Lib.hid hw2
  have HB2 := Lib.hid hb2
  clear hs hi hsn r2 ht hj htn hG hc hR hk hk7 hpq hdo hQ hw2 hb2 r1 r3
  by_cases hz : c = 0
  · obtain ⟨QL, QR, QN⟩ := Q
    have HRR : Hid (R = ⟨QL, QR, QN⟩) := Lib.hid (by rw [HRA.out, if_pos hz])
    go_enter Tryz.func16, Tryz.ntmps16
    go_wp2_with fail
    rw [← HW2.out]
    refine (wpIn_wide (n := 9)).1 ?_
    refine wpIn_region_putO (by kernel_rfl) (by kernel_rfl) [12] (fun z => if z = 12 then 9 else 0) (fun z => if z = 12 then 11 else 0) (fun j => keepK ([.val (.string g), .val (.string g), .val (.agg #[fp, fq]), .val (fq), .val (.agg #[.bool aL, .bool aR, .slice sa sn sc]), .val (.agg #[.bool bL, .bool bR, .slice ta tn tc]), .row 2 24 #[.bool aL, .bool aR, .slice sa sn sc, .bool bL, .bool bR, .slice ta tn tc], .sl ((fun s => .tuple #[.agg #[.bool QL, .bool QR, s], .nilIface])) (QN), .sl ((fun s => .tuple #[.agg #[.bool QL, .bool QR, s], .nilIface])) (QN), .sl ((fun s => .agg #[.bool QL, .bool QR, s])) (QN), .val (.nilIface), .box (w2.heap.size), .any, .val (.nilIface)].getD j .any)) (by decide) (IB w2 [] [(w.heap.size, 24, #[.bool aL, .bool aR, .slice sa sn sc]), (w.heap.size + 1, 24, #[.bool bL, .bool bR, .slice ta tn tc]), (w.heap.size + 1 + 1, 24, #[.bool false, .bool false, .slice none 0 0])]) (fun i => PhS ([.val (.string g), .val (.string g), .val (.agg #[fp, fq]), .val (fq), .val (.agg #[.bool aL, .bool aR, .slice sa sn sc]), .val (.agg #[.bool bL, .bool bR, .slice ta tn tc]), .row 2 24 #[.bool aL, .bool aR, .slice sa sn sc, .bool bL, .bool bR, .slice ta tn tc], .sl ((fun s => .tuple #[.agg #[.bool QL, .bool QR, s], .nilIface])) (QN), .sl ((fun s => .tuple #[.agg #[.bool QL, .bool QR, s], .nilIface])) (QN), .sl ((fun s => .agg #[.bool QL, .bool QR, s])) (QN), .val (.nilIface), .box (w2.heap.size), .any, .val (.nilIface)].getD i .any)) (fun z u v => StO (w2.heap.size) u v) (fun W W' hb h => h.below hb) (fun i v W W' hb h => PhS.below hb h) (fun i u v W W' hb h => StO.below hb h) (HIB.out.below (Below.refl _ _).drew) ?_ ?_ ?_
    · intro i oo listed a' W val ho hi hnz haf hS hIW hF
      have hi' : i < 14 := hi
      obtain rfl | rfl | rfl | rfl | rfl | rfl | rfl | rfl | rfl | rfl | rfl | rfl | rfl | rfl : i = 0 ∨ i = 1 ∨ i = 2 ∨ i = 3 ∨ i = 4 ∨ i = 5 ∨ i = 6 ∨ i = 7 ∨ i = 8 ∨ i = 9 ∨ i = 10 ∨ i = 11 ∨ i = 12 ∨ i = 13 := by omega
      · cases ho
        refine opG_plain rfl rfl ?_
        have q0 : a'.tmps[0]? = some (.string g) := (hS.tmpBase 0 (by kernel_rfl)).trans rfl
        refine op_valv (.string g) W (fun _ _ => trivial) ?_ ⟨Below.refl _ _, rfl⟩
        rw [Oper.semAt_plain _ _ _ (by intro c h; cases h)]
        simp [execOp, q0, go_sem]
      · cases ho
        refine opG_plain rfl rfl ?_
        have q0 : a'.tmps[0]? = some (.string g) := (hS.tmpBase 0 (by kernel_rfl)).trans rfl
        refine op_valv (.string g) W (fun _ _ => trivial) ?_ ⟨Below.refl _ _, rfl⟩
        rw [Oper.semAt_plain _ _ _ (by intro c h; cases h)]
        simp [execOp, q0, go_sem]
      · cases ho
        refine opG_plain rfl rfl ?_
        have l1 : listed.getD 1 false = true := haf ⟨1, .data⟩ (Array.mem_of_getElem? (i := 0) rfl) rfl
        have q12 : a'.tmps[12]? = some (val 1) := hS.tmpSet 1 _ 12 rfl rfl (by simp) l1
        have h1 : PhS (.val (.string g)) (val 1) W := hF 1 l1 rfl
        rw [show val 1 = .string g from h1] at q12
        refine op_callv 31 #[.string g] (fun _ _ => trivial) ?_ (by omega) ((callsIn_wide.2 (HFI.out W)).mono ?_)
        · rw [Oper.semAt_plain _ _ _ (by intro c h; cases h)]
          simp [execOp, q12, go_sem]
        · rintro e W2 ⟨rfl, hb⟩
          exact ⟨_, rfl, hb, rfl⟩
      · cases ho
        refine opG_plain rfl rfl ?_
        have l2 : listed.getD 2 false = true := haf ⟨2, .data⟩ (Array.mem_of_getElem? (i := 0) rfl) rfl
        have q13 : a'.tmps[13]? = some (val 2) := hS.tmpSet 2 _ 13 rfl rfl (by simp) l2
        have h2 : PhS (.val (.agg #[fp, fq])) (val 2) W := hF 2 l2 rfl
        rw [show val 2 = .agg #[fp, fq] from h2] at q13
        refine op_valv (fq) W (fun _ _ => trivial) ?_ ⟨Below.refl _ _, rfl⟩
        rw [Oper.semAt_plain _ _ _ (by intro c h; cases h)]
        simp [execOp, q13, sfield1, Result.andThen, go_sem]
      · cases ho
        refine opG_plain rfl rfl ?_
        have q4 : a'.tmps[4]? = some (.pointer (some ⟨w.heap.size, 0, none⟩)) := (hS.tmpBase 4 (by kernel_rfl)).trans rfl
        have hr := hIW.2.2 _ (List.mem_of_getElem? (i := 0) rfl)
        obtain ⟨z0, z1, z2, -, -, -⟩ := srow3 hr
        refine op_valv (.agg #[.bool aL, .bool aR, .slice sa sn sc]) W (fun _ _ => trivial) ?_ ⟨Below.refl _ _, rfl⟩
        rw [Oper.semAt_plain _ _ _ (by intro c h; cases h)]
        simp [execOp, q4, z0, z1, z2, go_sem]
      · cases ho
        refine opG_plain rfl rfl ?_
        have q5 : a'.tmps[5]? = some (.pointer (some ⟨w.heap.size + 1, 0, none⟩)) := (hS.tmpBase 5 (by kernel_rfl)).trans rfl
        have hr := hIW.2.2 _ (List.mem_of_getElem? (i := 1) rfl)
        obtain ⟨z0, z1, z2, -, -, -⟩ := srow3 hr
        refine op_valv (.agg #[.bool bL, .bool bR, .slice ta tn tc]) W (fun _ _ => trivial) ?_ ⟨Below.refl _ _, rfl⟩
        rw [Oper.semAt_plain _ _ _ (by intro c h; cases h)]
        simp [execOp, q5, z0, z1, z2, go_sem]
      · cases ho
        refine opG_plain rfl rfl ?_
        have l4 : listed.getD 4 false = true := haf ⟨4, .data⟩ (Array.mem_of_getElem? (i := 0) rfl) rfl
        have q15 : a'.tmps[15]? = some (val 4) := hS.tmpSet 4 _ 15 rfl rfl (by simp) l4
        have h4 : PhS (.val (.agg #[.bool aL, .bool aR, .slice sa sn sc])) (val 4) W := hF 4 l4 rfl
        rw [show val 4 = .agg #[.bool aL, .bool aR, .slice sa sn sc] from h4] at q15
        have l5 : listed.getD 5 false = true := haf ⟨5, .data⟩ (Array.mem_of_getElem? (i := 1) rfl) rfl
        have q16 : a'.tmps[16]? = some (val 5) := hS.tmpSet 5 _ 16 rfl rfl (by simp) l5
        have h5 : PhS (.val (.agg #[.bool bL, .bool bR, .slice ta tn tc])) (val 5) W := hF 5 l5 rfl
        rw [show val 5 = .agg #[.bool bL, .bool bR, .slice ta tn tc] from h5] at q16
        refine op_valv (.slice (some ⟨W.heap.size, 0, none⟩) 2 2) (W.alloc (.cells #[.bool aL, .bool aR, .slice sa sn sc, .bool bL, .bool bR, .slice ta tn tc] 24)) (fun _ _ => trivial) ?_ ⟨(Below.refl _ _).alloc (Nat.le_refl _) _, W.heap.size, rfl, Row.new _ _ _⟩
        rw [Oper.semAt_plain _ _ _ (by intro c h; cases h)]
        simp [execOp, q15, q16, go_sem]
      · cases ho
        refine opG_plain rfl rfl ?_
        have l0 : listed.getD 0 false = true := haf ⟨0, .data⟩ (Array.mem_of_getElem? (i := 0) rfl) rfl
        have q11 : a'.tmps[11]? = some (val 0) := hS.tmpSet 0 _ 11 rfl rfl (by simp) l0
        have h0 : PhS (.val (.string g)) (val 0) W := hF 0 l0 rfl
        rw [show val 0 = .string g from h0] at q11
        have l3 : listed.getD 3 false = true := haf ⟨3, .data⟩ (Array.mem_of_getElem? (i := 1) rfl) rfl
        have q14 : a'.tmps[14]? = some (val 3) := hS.tmpSet 3 _ 14 rfl rfl (by simp) l3
        have h3 : PhS (.val (fq)) (val 3) W := hF 3 l3 rfl
        rw [show val 3 = fq from h3] at q14
        have l6 : listed.getD 6 false = true := haf ⟨6, .data⟩ (Array.mem_of_getElem? (i := 2) rfl) rfl
        have q17 : a'.tmps[17]? = some (val 6) := hS.tmpSet 6 _ 17 rfl rfl (by simp) l6
        have h6 : PhS (.row 2 24 #[.bool aL, .bool aR, .slice sa sn sc, .bool bL, .bool bR, .slice ta tn tc]) (val 6) W := hF 6 l6 (by kernel_rfl)
        obtain ⟨b6, e6, hk6⟩ := h6
        rw [e6] at q17
        refine op_callv 30 #[.string g, fq, .slice (some ⟨b6, 0, none⟩) 2 2] (fun _ _ => trivial) ?_ (by omega) ((callsIn_wide.2 (HAPP.out W b6 (HB2.out.trans (hIW.1.mono HB2.out.size)) hk6)).mono ?_)
        · rw [Oper.semAt_plain _ _ _ (by intro c h; cases h)]
          simp [execOp, q11, q14, q17, go_sem]
        · rintro e W2 ⟨hb, ⟨_, v9, rfl, hk⟩ | ⟨h, _⟩⟩
          · obtain ⟨ya, yc, rfl, -, -⟩ := hk.form
            exact ⟨_, rfl, hb, ya, _, yc, rfl, hk⟩
          · exact absurd hz h
      · cases ho
        refine opG_plain rfl rfl ?_
        have l7 : listed.getD 7 false = true := haf ⟨7, .data⟩ (Array.mem_of_getElem? (i := 0) rfl) rfl
        have q18 : a'.tmps[18]? = some (val 7) := hS.tmpSet 7 _ 18 rfl rfl (by simp) l7
        have h7 : PhS (.sl ((fun s => .tuple #[.agg #[.bool QL, .bool QR, s], .nilIface])) (QN)) (val 7) W := hF 7 l7 rfl
        obtain ⟨va7, vn7, vc7, e7, hk7⟩ := h7
        rw [e7] at q18
        refine op_valv (((fun s => .tuple #[.agg #[.bool QL, .bool QR, s], .nilIface])) (.slice va7 vn7 vc7)) W (fun _ _ => trivial) ?_ ⟨Below.refl _ _, va7, vn7, vc7, rfl, hk7⟩
        rw [Oper.semAt_plain _ _ _ (by intro c h; cases h)]
        simp [execOp, q18, go_sem]
      · cases ho
        refine opG_plain rfl rfl ?_
        have l8 : listed.getD 8 false = true := haf ⟨8, .data⟩ (Array.mem_of_getElem? (i := 0) rfl) rfl
        have q10 : a'.tmps[10]? = some (val 8) := hS.tmpSet 8 _ 10 rfl rfl (by simp) l8
        have h8 : PhS (.sl ((fun s => .tuple #[.agg #[.bool QL, .bool QR, s], .nilIface])) (QN)) (val 8) W := hF 8 l8 rfl
        obtain ⟨va8, vn8, vc8, e8, hk8⟩ := h8
        rw [e8] at q10
        refine op_valv (((fun s => .agg #[.bool QL, .bool QR, s])) (.slice va8 vn8 vc8)) W (fun _ _ => trivial) ?_ ⟨Below.refl _ _, va8, vn8, vc8, rfl, hk8⟩
        rw [Oper.semAt_plain _ _ _ (by intro c h; cases h)]
        simp [execOp, q10, go_sem]
      · cases ho
        refine opG_plain rfl rfl ?_
        have l8 : listed.getD 8 false = true := haf ⟨8, .data⟩ (Array.mem_of_getElem? (i := 0) rfl) rfl
        have q10 : a'.tmps[10]? = some (val 8) := hS.tmpSet 8 _ 10 rfl rfl (by simp) l8
        have h8 : PhS (.sl ((fun s => .tuple #[.agg #[.bool QL, .bool QR, s], .nilIface])) (QN)) (val 8) W := hF 8 l8 rfl
        obtain ⟨va8, vn8, vc8, e8, hk8⟩ := h8
        rw [e8] at q10
        refine op_valv (.nilIface) W (fun _ _ => trivial) ?_ ⟨Below.refl _ _, rfl⟩
        rw [Oper.semAt_plain _ _ _ (by intro c h; cases h)]
        simp [execOp, q10, go_sem]
      · cases ho
        refine opG_plain rfl rfl ?_
        refine op_valv (.pointer (some ⟨W.heap.size, 0, none⟩)) (W.alloc (.cells #[.bool false, .bool false, .slice none 0 0] 24)) (fun _ _ => trivial) ?_ ⟨(Below.refl _ _).alloc (Nat.le_refl _) _, W.heap.size, rfl, hIW.1.size, _, _, _, _, _, Row.new _ _ _⟩
        rw [Oper.semAt_plain _ _ _ (by intro c h; cases h)]
        simp [execOp, go_sem]
      · exact absurd (by decide) hnz
      · cases ho
        refine opG_plain rfl rfl ?_
        have l10 : listed.getD 10 false = true := haf ⟨10, .data⟩ (Array.mem_of_getElem? (i := 0) rfl) rfl
        have q20 : a'.tmps[20]? = some (val 10) := hS.tmpSet 10 _ 20 rfl rfl (by simp) l10
        have h10 : PhS (.val (.nilIface)) (val 10) W := hF 10 l10 rfl
        rw [show val 10 = .nilIface from h10] at q20
        refine op_valv (.nilIface) W (fun _ _ => trivial) ?_ ⟨Below.refl _ _, rfl⟩
        rw [Oper.semAt_plain _ _ _ (by intro c h; cases h)]
        simp [execOp, q20, go_sem]
    · intro z oo listed a' W val hz hu ho haf hS hIW hF hO
      have hz' : z = 12 := by simpa using hz
      obtain rfl := hz'
      · cases ho
        refine opG_plain rfl rfl ?_
        have l11 : listed.getD 11 false = true := haf ⟨11, .data⟩ (Array.mem_of_getElem? (i := 0) rfl) rfl
        have q8 : a'.tmps[8]? = some (val 11) := hS.tmpSet 11 _ 8 rfl rfl (by simp) l11
        have h11 : PhS (.box (w2.heap.size)) (val 11) W := hF 11 l11 (by show (_ || ((!listed.getD 12 false) && true)) = true; rw [hu]; rfl)
        obtain ⟨b11, e11, hb11, hx11⟩ := h11
        rw [e11] at q8
        have l9 : listed.getD 9 false = true := haf ⟨9, .data⟩ (Array.mem_of_getElem? (i := 1) rfl) rfl
        have q19 : a'.tmps[19]? = some (val 9) := hS.tmpSet 9 _ 19 rfl rfl (by simp) l9
        have h9 : PhS (.sl ((fun s => .agg #[.bool QL, .bool QR, s])) (QN)) (val 9) W := hF 9 l9 rfl
        obtain ⟨va9, vn9, vc9, e9, hk9⟩ := h9
        rw [e9] at q19
        obtain ⟨hle, hbx⟩ := And.intro hb11 hx11
        have hbx' := hbx
        obtain ⟨x', y', a0', n', c', hr⟩ := hbx'
        obtain ⟨d0, d1, d2, f0, f1, f2⟩ := srow3 hr
        refine op_skipv (set3 W b11 (.bool QL) (.bool QR) (.slice va9 vn9 vc9)) (fun _ _ => trivial) ?_ ⟨IB.put hIW hle hbx (fun r hr => by simp only [List.mem_cons, List.not_mem_nil, or_false] at hr; rcases hr with rfl | rfl | rfl <;> (dsimp only; omega)) _ _ _ _ _, trivial, fun j hj hk => PhS.put hbx _ _ _ hk (hF j hj (by rw [hk]; rfl)), (show StO (w2.heap.size) (val 11) (val 9) _ from ⟨b11, e11, hb11, by rw [e9, e11]; exact StS.of hbx _ _ _⟩), fun y hy _ hne => absurd (by simpa using hy) hne⟩
        rw [Oper.semAt_plain _ _ _ (by intro c h; cases h)]
        simp [execOp, q8, q19, d0, d1, d2, f0, f1, f2, go_sem]
    · intro W9 val hIW hF hST
      have e0 : val 0 = .string g := hF 0 (by decide) rfl
      have e1 : val 1 = .string g := hF 1 (by decide) rfl
      have e2 : val 2 = .agg #[fp, fq] := hF 2 (by decide) rfl
      have e3 : val 3 = fq := hF 3 (by decide) rfl
      have e4 : val 4 = .agg #[.bool aL, .bool aR, .slice sa sn sc] := hF 4 (by decide) rfl
      have e5 : val 5 = .agg #[.bool bL, .bool bR, .slice ta tn tc] := hF 5 (by decide) rfl
      obtain ⟨va7, vn7, vc7, e7, hk7⟩ : PhS (.sl ((fun s => .tuple #[.agg #[.bool QL, .bool QR, s], .nilIface])) (QN)) (val 7) W9 := hF 7 (by decide) rfl
      obtain ⟨va8, vn8, vc8, e8, hk8⟩ : PhS (.sl ((fun s => .tuple #[.agg #[.bool QL, .bool QR, s], .nilIface])) (QN)) (val 8) W9 := hF 8 (by decide) rfl
      obtain ⟨va9, vn9, vc9, e9, hk9⟩ : PhS (.sl ((fun s => .agg #[.bool QL, .bool QR, s])) (QN)) (val 9) W9 := hF 9 (by decide) rfl
      have e10 : val 10 = .nilIface := hF 10 (by decide) rfl
      have e13 : val 13 = .nilIface := hF 13 (by decide) rfl
      obtain ⟨bk12, ebk12, hbk12, hst12'⟩ : StO (w2.heap.size) (val 11) (val 9) W9 := hST 12 (by simp)
      have hst12 := hst12' _ _ _ _ ebk12 e9
      simp only [finAct, List.getElem?_toArray, List.getElem?_cons_zero, List.getElem?_cons_succ, Act.put, List.setIfInBounds_toArray, List.set_cons_zero, List.set_cons_succ, List.size_toArray, List.length_cons, List.length_nil, Nat.reduceAdd]
      simp only [e0, e1, e2, e3, e4, e5, e7, e8, e9, e10, e13]
      simp only [ebk12]
      have hib9 : IK w [w.heap.size + 1 + 1] [(bk12, 24, #[.bool QL, .bool QR, .slice va9 vn9 vc9])] (.slice va9 vn9 vc9) QN W9 := ⟨⟨HB2.out.trans (hIW.1.mono HB2.out.size), fun h hh => by
        obtain rfl : h = w.heap.size + 1 + 1 := by simpa using hh
        exact ⟨by omega, _, _, _, _, _, hIW.2.2 _ (List.mem_of_getElem? (i := 2) rfl)⟩, fun r hr => by
        obtain rfl : r = _ := by simpa using hr
        exact hst12⟩, hk9⟩
      have HIK := Lib.hid hib9
      have hbx9 : w.heap.size + 1 + 1 < bk12 := by have := hs2; omega
      have HER : Hid (∀ W, Below w.heap.size w W → Calls Tryz.prog 32 #[.nilIface] W fun e w' => e = .returned (.int .i64 c) ∧ Below W.heap.size W w') := Lib.hid (fun W h => HTO.out (.nilIface) c W (HET.out W h) (.inl ⟨hz, rfl⟩))
      clear hF hST hIW hib9 hst12 hst12' hk9
      go_wp2_with fail
      refine (wpIn_wide (n := 9)).1 ?_
      refine wpIn_region_putI (by kernel_rfl) (by kernel_rfl) [3] (fun z => if z = 3 then 0 else 0) (fun z => if z = 3 then 0 else 0) (fun j => keepK ([.val (.agg #[.bool QL, .bool QR, .slice va9 vn9 vc9]), .val (.nilIface), .val (.int .i64 c), .any, .val (.int .i64 c)].getD j .any)) (by decide) (IK w [w.heap.size + 1 + 1] [(bk12, 24, #[.bool QL, .bool QR, .slice va9 vn9 vc9])] (.slice va9 vn9 vc9) QN) (fun i => PhS ([.val (.agg #[.bool QL, .bool QR, .slice va9 vn9 vc9]), .val (.nilIface), .val (.int .i64 c), .any, .val (.int .i64 c)].getD i .any)) (fun z u v => StS (.pointer (some ⟨w.heap.size + 1 + 1, 0, none⟩)) v) (fun W W' hb h => h.below hb) (fun i v W W' hb h => PhS.below hb h) (fun i u v W W' hb h => StS.below hb h) (HIK.out.below (Below.refl _ _).drew) ?_ ?_ ?_
      · intro i oo listed a' W val ho hi hnz haf hS hIW hF
        have hi' : i < 5 := hi
        obtain rfl | rfl | rfl | rfl | rfl : i = 0 ∨ i = 1 ∨ i = 2 ∨ i = 3 ∨ i = 4 := by omega
        · cases ho
          refine opG_plain rfl rfl ?_
          have q8 : a'.tmps[8]? = some (.pointer (some ⟨bk12, 0, none⟩)) := (hS.tmpBase 8 (by kernel_rfl)).trans rfl
          have hr := hIW.1.2.2 _ (List.mem_of_getElem? (i := 0) rfl)
          obtain ⟨z0, z1, z2, -, -, -⟩ := srow3 hr
          refine op_valv (.agg #[.bool QL, .bool QR, .slice va9 vn9 vc9]) W (fun _ _ => trivial) ?_ ⟨Below.refl _ _, rfl⟩
          rw [Oper.semAt_plain _ _ _ (by intro c h; cases h)]
          simp [execOp, q8, z0, z1, z2, go_sem]
        · cases ho
          refine opG_plain rfl rfl ?_
          have q9 : a'.tmps[9]? = some (.nilIface) := (hS.tmpBase 9 (by kernel_rfl)).trans rfl
          refine op_valv (.nilIface) W (fun _ _ => trivial) ?_ ⟨Below.refl _ _, rfl⟩
          rw [Oper.semAt_plain _ _ _ (by intro c h; cases h)]
          simp [execOp, q9, go_sem]
        · cases ho
          refine opG_plain rfl rfl ?_
          have l1 : listed.getD 1 false = true := haf ⟨1, .data⟩ (Array.mem_of_getElem? (i := 0) rfl) rfl
          have q22 : a'.tmps[22]? = some (val 1) := hS.tmpSet 1 _ 22 rfl rfl (by simp) l1
          have h1 : PhS (.val (.nilIface)) (val 1) W := hF 1 l1 rfl
          rw [show val 1 = .nilIface from h1] at q22
          refine op_callv 32 #[.nilIface] (fun _ _ => trivial) ?_ (by omega) ((callsIn_wide.2 (HER.out W hIW.1.1)).mono ?_)
          · rw [Oper.semAt_plain _ _ _ (by intro c h; cases h)]
            simp [execOp, q22, go_sem]
          · rintro e W2 ⟨rfl, hb⟩
            exact ⟨_, rfl, hb, rfl⟩
        · exact absurd (by decide) hnz
        · cases ho
          refine opG_plain rfl rfl ?_
          have l2 : listed.getD 2 false = true := haf ⟨2, .data⟩ (Array.mem_of_getElem? (i := 0) rfl) rfl
          have q23 : a'.tmps[23]? = some (val 2) := hS.tmpSet 2 _ 23 rfl rfl (by simp) l2
          have h2 : PhS (.val (.int .i64 c)) (val 2) W := hF 2 l2 rfl
          rw [show val 2 = .int .i64 c from h2] at q23
          refine op_valv (.int .i64 c) W (fun _ _ => trivial) ?_ ⟨Below.refl _ _, rfl⟩
          rw [Oper.semAt_plain _ _ _ (by intro c h; cases h)]
          simp [execOp, q23, go_sem]
      · intro z oo listed a' W val hz ho haf hS hIW hF hO
        have hz' : z = 3 := by simpa using hz
        obtain rfl := hz'
        · cases ho
          refine opG_plain rfl rfl ?_
          have q6 : a'.tmps[6]? = some (.pointer (some ⟨w.heap.size + 1 + 1, 0, none⟩)) := (hS.tmpBase 6 (by kernel_rfl)).trans rfl
          have l0 : listed.getD 0 false = true := haf ⟨0, .data⟩ (Array.mem_of_getElem? (i := 0) rfl) rfl
          have q21 : a'.tmps[21]? = some (val 0) := hS.tmpSet 0 _ 21 rfl rfl (by simp) l0
          have h0 : PhS (.val (.agg #[.bool QL, .bool QR, .slice va9 vn9 vc9])) (val 0) W := hF 0 l0 rfl
          rw [show val 0 = .agg #[.bool QL, .bool QR, .slice va9 vn9 vc9] from h0] at q21
          obtain ⟨hle, hbx⟩ := hIW.1.2.1 (w.heap.size + 1 + 1) (by simp)
          have hbx' := hbx
          obtain ⟨x', y', a0', n', c', hr⟩ := hbx'
          obtain ⟨d0, d1, d2, f0, f1, f2⟩ := srow3 hr
          refine op_skipv (set3 W (w.heap.size + 1 + 1) (.bool QL) (.bool QR) (.slice va9 vn9 vc9)) (fun _ _ => trivial) ?_ ⟨IK.put hIW hle hbx (fun r hr => by simp only [List.mem_cons, List.not_mem_nil, or_false] at hr; rcases hr with rfl <;> (dsimp only; omega)) _ _ _ _ _, trivial, fun j hj hk => PhS.put hbx _ _ _ hk (hF j hj hk), (show StS (.pointer (some ⟨w.heap.size + 1 + 1, 0, none⟩)) (val 0) _ from by rw [(show val 0 = .agg #[.bool QL, .bool QR, .slice va9 vn9 vc9] from h0)]; exact StS.of hbx _ _ _), fun y hy _ hne => absurd (by simpa using hy) hne⟩
          rw [Oper.semAt_plain _ _ _ (by intro c h; cases h)]
          simp [execOp, q6, q21, d0, d1, d2, f0, f1, f2, go_sem]
      · intro W8 val hIW hF hST
        have e0 : val 0 = .agg #[.bool QL, .bool QR, .slice va9 vn9 vc9] := hF 0 (by decide) rfl
        have e1 : val 1 = .nilIface := hF 1 (by decide) rfl
        have e2 : val 2 = .int .i64 c := hF 2 (by decide) rfl
        have e4 : val 4 = .int .i64 c := hF 4 (by decide) rfl
        have hst3 := (show StS (.pointer (some ⟨w.heap.size + 1 + 1, 0, none⟩)) (val 0) W8 from hST 3 (by simp)) _ _ _ _ rfl e0
        simp only [finAct, List.getElem?_toArray, List.getElem?_cons_zero, List.getElem?_cons_succ, Act.put, List.setIfInBounds_toArray, List.set_cons_zero, List.set_cons_succ, List.size_toArray, List.length_cons, List.length_nil, Nat.reduceAdd]
        simp only [e0, e1, e2, e4]
        obtain ⟨p0, p1, p2, -, -, -⟩ := srow3 hst3
        have hbw := hIW.1.1
        have hkw := hIW.2
        clear hF hST hst3 hIW
        go_wp2
        refine bodyPost_ret (v := .tuple #[.agg #[.bool QL, .bool QR, .slice va9 vn9 vc9], .int .i64 c]) (by simp [results, Tryz.f16, go_sem, p0, p1, p2]) rfl ⟨va9, vn9, vc9, by rw [HRR.out], by rw [HRR.out]; exact hkw, hbw⟩
  · have HRR : Hid (R = noA) := Lib.hid (by rw [HRA.out, if_neg hz])
    go_enter Tryz.func16, Tryz.ntmps16
    go_wp2_with fail
    rw [← HW2.out]
    refine (wpIn_wide (n := 9)).1 ?_
    refine wpIn_region_putO (by kernel_rfl) (by kernel_rfl) [12] (fun z => if z = 12 then 9 else 0) (fun z => if z = 12 then 11 else 0) (fun j => keepK ([.val (.string g), .val (.string g), .val (.agg #[fp, fq]), .val (fq), .val (.agg #[.bool aL, .bool aR, .slice sa sn sc]), .val (.agg #[.bool bL, .bool bR, .slice ta tn tc]), .row 2 24 #[.bool aL, .bool aR, .slice sa sn sc, .bool bL, .bool bR, .slice ta tn tc], .val (.tuple #[.agg #[.bool false, .bool false, .slice none 0 0], sh_wrongV g (sh_faultV c)]), .val (.tuple #[.agg #[.bool false, .bool false, .slice none 0 0], sh_wrongV g (sh_faultV c)]), .val (.agg #[.bool false, .bool false, .slice none 0 0]), .val (sh_wrongV g (sh_faultV c)), .box (w2.heap.size), .any, .val (sh_wrongV g (sh_faultV c))].getD j .any)) (by decide) (IB w2 [] [(w.heap.size, 24, #[.bool aL, .bool aR, .slice sa sn sc]), (w.heap.size + 1, 24, #[.bool bL, .bool bR, .slice ta tn tc]), (w.heap.size + 1 + 1, 24, #[.bool false, .bool false, .slice none 0 0])]) (fun i => PhS ([.val (.string g), .val (.string g), .val (.agg #[fp, fq]), .val (fq), .val (.agg #[.bool aL, .bool aR, .slice sa sn sc]), .val (.agg #[.bool bL, .bool bR, .slice ta tn tc]), .row 2 24 #[.bool aL, .bool aR, .slice sa sn sc, .bool bL, .bool bR, .slice ta tn tc], .val (.tuple #[.agg #[.bool false, .bool false, .slice none 0 0], sh_wrongV g (sh_faultV c)]), .val (.tuple #[.agg #[.bool false, .bool false, .slice none 0 0], sh_wrongV g (sh_faultV c)]), .val (.agg #[.bool false, .bool false, .slice none 0 0]), .val (sh_wrongV g (sh_faultV c)), .box (w2.heap.size), .any, .val (sh_wrongV g (sh_faultV c))].getD i .any)) (fun z u v => StO (w2.heap.size) u v) (fun W W' hb h => h.below hb) (fun i v W W' hb h => PhS.below hb h) (fun i u v W W' hb h => StO.below hb h) (HIB.out.below (Below.refl _ _).drew) ?_ ?_ ?_
    · intro i oo listed a' W val ho hi hnz haf hS hIW hF
      have hi' : i < 14 := hi
      obtain rfl | rfl | rfl | rfl | rfl | rfl | rfl | rfl | rfl | rfl | rfl | rfl | rfl | rfl : i = 0 ∨ i = 1 ∨ i = 2 ∨ i = 3 ∨ i = 4 ∨ i = 5 ∨ i = 6 ∨ i = 7 ∨ i = 8 ∨ i = 9 ∨ i = 10 ∨ i = 11 ∨ i = 12 ∨ i = 13 := by omega
      · cases ho
        refine opG_plain rfl rfl ?_
        have q0 : a'.tmps[0]? = some (.string g) := (hS.tmpBase 0 (by kernel_rfl)).trans rfl
        refine op_valv (.string g) W (fun _ _ => trivial) ?_ ⟨Below.refl _ _, rfl⟩
        rw [Oper.semAt_plain _ _ _ (by intro c h; cases h)]
        simp [execOp, q0, go_sem]
      · cases ho
        refine opG_plain rfl rfl ?_
        have q0 : a'.tmps[0]? = some (.string g) := (hS.tmpBase 0 (by kernel_rfl)).trans rfl
        refine op_valv (.string g) W (fun _ _ => trivial) ?_ ⟨Below.refl _ _, rfl⟩
        rw [Oper.semAt_plain _ _ _ (by intro c h; cases h)]
        simp [execOp, q0, go_sem]
      · cases ho
        refine opG_plain rfl rfl ?_
        have l1 : listed.getD 1 false = true := haf ⟨1, .data⟩ (Array.mem_of_getElem? (i := 0) rfl) rfl
        have q12 : a'.tmps[12]? = some (val 1) := hS.tmpSet 1 _ 12 rfl rfl (by simp) l1
        have h1 : PhS (.val (.string g)) (val 1) W := hF 1 l1 rfl
        rw [show val 1 = .string g from h1] at q12
        refine op_callv 31 #[.string g] (fun _ _ => trivial) ?_ (by omega) ((callsIn_wide.2 (HFI.out W)).mono ?_)
        · rw [Oper.semAt_plain _ _ _ (by intro c h; cases h)]
          simp [execOp, q12, go_sem]
        · rintro e W2 ⟨rfl, hb⟩
          exact ⟨_, rfl, hb, rfl⟩
      · cases ho
        refine opG_plain rfl rfl ?_
        have l2 : listed.getD 2 false = true := haf ⟨2, .data⟩ (Array.mem_of_getElem? (i := 0) rfl) rfl
        have q13 : a'.tmps[13]? = some (val 2) := hS.tmpSet 2 _ 13 rfl rfl (by simp) l2
        have h2 : PhS (.val (.agg #[fp, fq])) (val 2) W := hF 2 l2 rfl
        rw [show val 2 = .agg #[fp, fq] from h2] at q13
        refine op_valv (fq) W (fun _ _ => trivial) ?_ ⟨Below.refl _ _, rfl⟩
        rw [Oper.semAt_plain _ _ _ (by intro c h; cases h)]
        simp [execOp, q13, sfield1, Result.andThen, go_sem]
      · cases ho
        refine opG_plain rfl rfl ?_
        have q4 : a'.tmps[4]? = some (.pointer (some ⟨w.heap.size, 0, none⟩)) := (hS.tmpBase 4 (by kernel_rfl)).trans rfl
        have hr := hIW.2.2 _ (List.mem_of_getElem? (i := 0) rfl)
        obtain ⟨z0, z1, z2, -, -, -⟩ := srow3 hr
        refine op_valv (.agg #[.bool aL, .bool aR, .slice sa sn sc]) W (fun _ _ => trivial) ?_ ⟨Below.refl _ _, rfl⟩
        rw [Oper.semAt_plain _ _ _ (by intro c h; cases h)]
        simp [execOp, q4, z0, z1, z2, go_sem]
      · cases ho
        refine opG_plain rfl rfl ?_
        have q5 : a'.tmps[5]? = some (.pointer (some ⟨w.heap.size + 1, 0, none⟩)) := (hS.tmpBase 5 (by kernel_rfl)).trans rfl
        have hr := hIW.2.2 _ (List.mem_of_getElem? (i := 1) rfl)
        obtain ⟨z0, z1, z2, -, -, -⟩ := srow3 hr
        refine op_valv (.agg #[.bool bL, .bool bR, .slice ta tn tc]) W (fun _ _ => trivial) ?_ ⟨Below.refl _ _, rfl⟩
        rw [Oper.semAt_plain _ _ _ (by intro c h; cases h)]
        simp [execOp, q5, z0, z1, z2, go_sem]
      · cases ho
        refine opG_plain rfl rfl ?_
        have l4 : listed.getD 4 false = true := haf ⟨4, .data⟩ (Array.mem_of_getElem? (i := 0) rfl) rfl
        have q15 : a'.tmps[15]? = some (val 4) := hS.tmpSet 4 _ 15 rfl rfl (by simp) l4
        have h4 : PhS (.val (.agg #[.bool aL, .bool aR, .slice sa sn sc])) (val 4) W := hF 4 l4 rfl
        rw [show val 4 = .agg #[.bool aL, .bool aR, .slice sa sn sc] from h4] at q15
        have l5 : listed.getD 5 false = true := haf ⟨5, .data⟩ (Array.mem_of_getElem? (i := 1) rfl) rfl
        have q16 : a'.tmps[16]? = some (val 5) := hS.tmpSet 5 _ 16 rfl rfl (by simp) l5
        have h5 : PhS (.val (.agg #[.bool bL, .bool bR, .slice ta tn tc])) (val 5) W := hF 5 l5 rfl
        rw [show val 5 = .agg #[.bool bL, .bool bR, .slice ta tn tc] from h5] at q16
        refine op_valv (.slice (some ⟨W.heap.size, 0, none⟩) 2 2) (W.alloc (.cells #[.bool aL, .bool aR, .slice sa sn sc, .bool bL, .bool bR, .slice ta tn tc] 24)) (fun _ _ => trivial) ?_ ⟨(Below.refl _ _).alloc (Nat.le_refl _) _, W.heap.size, rfl, Row.new _ _ _⟩
        rw [Oper.semAt_plain _ _ _ (by intro c h; cases h)]
        simp [execOp, q15, q16, go_sem]
      · cases ho
        refine opG_plain rfl rfl ?_
        have l0 : listed.getD 0 false = true := haf ⟨0, .data⟩ (Array.mem_of_getElem? (i := 0) rfl) rfl
        have q11 : a'.tmps[11]? = some (val 0) := hS.tmpSet 0 _ 11 rfl rfl (by simp) l0
        have h0 : PhS (.val (.string g)) (val 0) W := hF 0 l0 rfl
        rw [show val 0 = .string g from h0] at q11
        have l3 : listed.getD 3 false = true := haf ⟨3, .data⟩ (Array.mem_of_getElem? (i := 1) rfl) rfl
        have q14 : a'.tmps[14]? = some (val 3) := hS.tmpSet 3 _ 14 rfl rfl (by simp) l3
        have h3 : PhS (.val (fq)) (val 3) W := hF 3 l3 rfl
        rw [show val 3 = fq from h3] at q14
        have l6 : listed.getD 6 false = true := haf ⟨6, .data⟩ (Array.mem_of_getElem? (i := 2) rfl) rfl
        have q17 : a'.tmps[17]? = some (val 6) := hS.tmpSet 6 _ 17 rfl rfl (by simp) l6
        have h6 : PhS (.row 2 24 #[.bool aL, .bool aR, .slice sa sn sc, .bool bL, .bool bR, .slice ta tn tc]) (val 6) W := hF 6 l6 (by kernel_rfl)
        obtain ⟨b6, e6, hk6⟩ := h6
        rw [e6] at q17
        refine op_callv 30 #[.string g, fq, .slice (some ⟨b6, 0, none⟩) 2 2] (fun _ _ => trivial) ?_ (by omega) ((callsIn_wide.2 (HAPP.out W b6 (HB2.out.trans (hIW.1.mono HB2.out.size)) hk6)).mono ?_)
        · rw [Oper.semAt_plain _ _ _ (by intro c h; cases h)]
          simp [execOp, q11, q14, q17, go_sem]
        · rintro e W2 ⟨hb, ⟨h, _⟩ | ⟨_, rfl⟩⟩
          · exact absurd h hz
          · exact ⟨_, rfl, hb, rfl⟩
      · cases ho
        refine opG_plain rfl rfl ?_
        have l7 : listed.getD 7 false = true := haf ⟨7, .data⟩ (Array.mem_of_getElem? (i := 0) rfl) rfl
        have q18 : a'.tmps[18]? = some (val 7) := hS.tmpSet 7 _ 18 rfl rfl (by simp) l7
        have h7 : PhS (.val (.tuple #[.agg #[.bool false, .bool false, .slice none 0 0], sh_wrongV g (sh_faultV c)])) (val 7) W := hF 7 l7 rfl
        rw [show val 7 = .tuple #[.agg #[.bool false, .bool false, .slice none 0 0], sh_wrongV g (sh_faultV c)] from h7] at q18
        refine op_valv (.tuple #[.agg #[.bool false, .bool false, .slice none 0 0], sh_wrongV g (sh_faultV c)]) W (fun _ _ => trivial) ?_ ⟨Below.refl _ _, rfl⟩
        rw [Oper.semAt_plain _ _ _ (by intro c h; cases h)]
        simp [execOp, q18, go_sem]
      · cases ho
        refine opG_plain rfl rfl ?_
        have l8 : listed.getD 8 false = true := haf ⟨8, .data⟩ (Array.mem_of_getElem? (i := 0) rfl) rfl
        have q10 : a'.tmps[10]? = some (val 8) := hS.tmpSet 8 _ 10 rfl rfl (by simp) l8
        have h8 : PhS (.val (.tuple #[.agg #[.bool false, .bool false, .slice none 0 0], sh_wrongV g (sh_faultV c)])) (val 8) W := hF 8 l8 rfl
        rw [show val 8 = .tuple #[.agg #[.bool false, .bool false, .slice none 0 0], sh_wrongV g (sh_faultV c)] from h8] at q10
        refine op_valv (.agg #[.bool false, .bool false, .slice none 0 0]) W (fun _ _ => trivial) ?_ ⟨Below.refl _ _, rfl⟩
        rw [Oper.semAt_plain _ _ _ (by intro c h; cases h)]
        simp [execOp, q10, go_sem]
      · cases ho
        refine opG_plain rfl rfl ?_
        have l8 : listed.getD 8 false = true := haf ⟨8, .data⟩ (Array.mem_of_getElem? (i := 0) rfl) rfl
        have q10 : a'.tmps[10]? = some (val 8) := hS.tmpSet 8 _ 10 rfl rfl (by simp) l8
        have h8 : PhS (.val (.tuple #[.agg #[.bool false, .bool false, .slice none 0 0], sh_wrongV g (sh_faultV c)])) (val 8) W := hF 8 l8 rfl
        rw [show val 8 = .tuple #[.agg #[.bool false, .bool false, .slice none 0 0], sh_wrongV g (sh_faultV c)] from h8] at q10
        refine op_valv (sh_wrongV g (sh_faultV c)) W (fun _ _ => trivial) ?_ ⟨Below.refl _ _, rfl⟩
        rw [Oper.semAt_plain _ _ _ (by intro c h; cases h)]
        simp [execOp, q10, go_sem]
      · cases ho
        refine opG_plain rfl rfl ?_
        refine op_valv (.pointer (some ⟨W.heap.size, 0, none⟩)) (W.alloc (.cells #[.bool false, .bool false, .slice none 0 0] 24)) (fun _ _ => trivial) ?_ ⟨(Below.refl _ _).alloc (Nat.le_refl _) _, W.heap.size, rfl, hIW.1.size, _, _, _, _, _, Row.new _ _ _⟩
        rw [Oper.semAt_plain _ _ _ (by intro c h; cases h)]
        simp [execOp, go_sem]
      · exact absurd (by decide) hnz
      · cases ho
        refine opG_plain rfl rfl ?_
        have l10 : listed.getD 10 false = true := haf ⟨10, .data⟩ (Array.mem_of_getElem? (i := 0) rfl) rfl
        have q20 : a'.tmps[20]? = some (val 10) := hS.tmpSet 10 _ 20 rfl rfl (by simp) l10
        have h10 : PhS (.val (sh_wrongV g (sh_faultV c))) (val 10) W := hF 10 l10 rfl
        rw [show val 10 = sh_wrongV g (sh_faultV c) from h10] at q20
        refine op_valv (sh_wrongV g (sh_faultV c)) W (fun _ _ => trivial) ?_ ⟨Below.refl _ _, rfl⟩
        rw [Oper.semAt_plain _ _ _ (by intro c h; cases h)]
        simp [execOp, q20, go_sem]
    · intro z oo listed a' W val hz hu ho haf hS hIW hF hO
      have hz' : z = 12 := by simpa using hz
      obtain rfl := hz'
      · cases ho
        refine opG_plain rfl rfl ?_
        have l11 : listed.getD 11 false = true := haf ⟨11, .data⟩ (Array.mem_of_getElem? (i := 0) rfl) rfl
        have q8 : a'.tmps[8]? = some (val 11) := hS.tmpSet 11 _ 8 rfl rfl (by simp) l11
        have h11 : PhS (.box (w2.heap.size)) (val 11) W := hF 11 l11 (by show (_ || ((!listed.getD 12 false) && true)) = true; rw [hu]; rfl)
        obtain ⟨b11, e11, hb11, hx11⟩ := h11
        rw [e11] at q8
        have l9 : listed.getD 9 false = true := haf ⟨9, .data⟩ (Array.mem_of_getElem? (i := 1) rfl) rfl
        have q19 : a'.tmps[19]? = some (val 9) := hS.tmpSet 9 _ 19 rfl rfl (by simp) l9
        have h9 : PhS (.val (.agg #[.bool false, .bool false, .slice none 0 0])) (val 9) W := hF 9 l9 rfl
        rw [show val 9 = .agg #[.bool false, .bool false, .slice none 0 0] from h9] at q19
        obtain ⟨hle, hbx⟩ := And.intro hb11 hx11
        have hbx' := hbx
        obtain ⟨x', y', a0', n', c', hr⟩ := hbx'
        obtain ⟨d0, d1, d2, f0, f1, f2⟩ := srow3 hr
        refine op_skipv (set3 W b11 (.bool false) (.bool false) (.slice none 0 0)) (fun _ _ => trivial) ?_ ⟨IB.put hIW hle hbx (fun r hr => by simp only [List.mem_cons, List.not_mem_nil, or_false] at hr; rcases hr with rfl | rfl | rfl <;> (dsimp only; omega)) _ _ _ _ _, trivial, fun j hj hk => PhS.put hbx _ _ _ hk (hF j hj (by rw [hk]; rfl)), (show StO (w2.heap.size) (val 11) (val 9) _ from ⟨b11, e11, hb11, by rw [(show val 9 = .agg #[.bool false, .bool false, .slice none 0 0] from h9), e11]; exact StS.of hbx _ _ _⟩), fun y hy _ hne => absurd (by simpa using hy) hne⟩
        rw [Oper.semAt_plain _ _ _ (by intro c h; cases h)]
        simp [execOp, q8, q19, d0, d1, d2, f0, f1, f2, go_sem]
    · intro W9 val hIW hF hST
      have e0 : val 0 = .string g := hF 0 (by decide) rfl
      have e1 : val 1 = .string g := hF 1 (by decide) rfl
      have e2 : val 2 = .agg #[fp, fq] := hF 2 (by decide) rfl
      have e3 : val 3 = fq := hF 3 (by decide) rfl
      have e4 : val 4 = .agg #[.bool aL, .bool aR, .slice sa sn sc] := hF 4 (by decide) rfl
      have e5 : val 5 = .agg #[.bool bL, .bool bR, .slice ta tn tc] := hF 5 (by decide) rfl
      have e7 : val 7 = .tuple #[.agg #[.bool false, .bool false, .slice none 0 0], sh_wrongV g (sh_faultV c)] := hF 7 (by decide) rfl
      have e8 : val 8 = .tuple #[.agg #[.bool false, .bool false, .slice none 0 0], sh_wrongV g (sh_faultV c)] := hF 8 (by decide) rfl
      have e9 : val 9 = .agg #[.bool false, .bool false, .slice none 0 0] := hF 9 (by decide) rfl
      have e10 : val 10 = sh_wrongV g (sh_faultV c) := hF 10 (by decide) rfl
      have e13 : val 13 = sh_wrongV g (sh_faultV c) := hF 13 (by decide) rfl
      obtain ⟨bk12, ebk12, hbk12, hst12'⟩ : StO (w2.heap.size) (val 11) (val 9) W9 := hST 12 (by simp)
      have hst12 := hst12' _ _ _ _ ebk12 e9
      simp only [finAct, List.getElem?_toArray, List.getElem?_cons_zero, List.getElem?_cons_succ, Act.put, List.setIfInBounds_toArray, List.set_cons_zero, List.set_cons_succ, List.size_toArray, List.length_cons, List.length_nil, Nat.reduceAdd]
      simp only [e0, e1, e2, e3, e4, e5, e7, e8, e9, e10, e13]
      have hk9 : KL W9 (.slice none 0 0) [] := kl_empty9 W9
      simp only [ebk12]
      have hib9 : IK w [w.heap.size + 1 + 1] [(bk12, 24, #[.bool false, .bool false, .slice none 0 0])] (.slice none 0 0) [] W9 := ⟨⟨HB2.out.trans (hIW.1.mono HB2.out.size), fun h hh => by
        obtain rfl : h = w.heap.size + 1 + 1 := by simpa using hh
        exact ⟨by omega, _, _, _, _, _, hIW.2.2 _ (List.mem_of_getElem? (i := 2) rfl)⟩, fun r hr => by
        obtain rfl : r = _ := by simpa using hr
        exact hst12⟩, hk9⟩
      have HIK := Lib.hid hib9
      have hbx9 : w.heap.size + 1 + 1 < bk12 := by have := hs2; omega
      have HER : Hid (∀ W, Below w.heap.size w W → Calls Tryz.prog 32 #[sh_wrongV g (sh_faultV c)] W fun e w' => e = .returned (.int .i64 c) ∧ Below W.heap.size W w') := Lib.hid (fun W h => HTO.out (sh_wrongV g (sh_faultV c)) c W (HET.out W h) (.inr (.inr ⟨g, rfl⟩)))
      clear hF hST hIW hib9 hst12 hst12' hk9
      go_wp2_with fail
      refine (wpIn_wide (n := 9)).1 ?_
      refine wpIn_region_putI (by kernel_rfl) (by kernel_rfl) [3] (fun z => if z = 3 then 0 else 0) (fun z => if z = 3 then 0 else 0) (fun j => keepK ([.val (.agg #[.bool false, .bool false, .slice none 0 0]), .val (sh_wrongV g (sh_faultV c)), .val (.int .i64 c), .any, .val (.int .i64 c)].getD j .any)) (by decide) (IK w [w.heap.size + 1 + 1] [(bk12, 24, #[.bool false, .bool false, .slice none 0 0])] (.slice none 0 0) []) (fun i => PhS ([.val (.agg #[.bool false, .bool false, .slice none 0 0]), .val (sh_wrongV g (sh_faultV c)), .val (.int .i64 c), .any, .val (.int .i64 c)].getD i .any)) (fun z u v => StS (.pointer (some ⟨w.heap.size + 1 + 1, 0, none⟩)) v) (fun W W' hb h => h.below hb) (fun i v W W' hb h => PhS.below hb h) (fun i u v W W' hb h => StS.below hb h) (HIK.out.below (Below.refl _ _).drew) ?_ ?_ ?_
      · intro i oo listed a' W val ho hi hnz haf hS hIW hF
        have hi' : i < 5 := hi
        obtain rfl | rfl | rfl | rfl | rfl : i = 0 ∨ i = 1 ∨ i = 2 ∨ i = 3 ∨ i = 4 := by omega
        · cases ho
          refine opG_plain rfl rfl ?_
          have q8 : a'.tmps[8]? = some (.pointer (some ⟨bk12, 0, none⟩)) := (hS.tmpBase 8 (by kernel_rfl)).trans rfl
          have hr := hIW.1.2.2 _ (List.mem_of_getElem? (i := 0) rfl)
          obtain ⟨z0, z1, z2, -, -, -⟩ := srow3 hr
          refine op_valv (.agg #[.bool false, .bool false, .slice none 0 0]) W (fun _ _ => trivial) ?_ ⟨Below.refl _ _, rfl⟩
          rw [Oper.semAt_plain _ _ _ (by intro c h; cases h)]
          simp [execOp, q8, z0, z1, z2, go_sem]
        · cases ho
          refine opG_plain rfl rfl ?_
          have q9 : a'.tmps[9]? = some (sh_wrongV g (sh_faultV c)) := (hS.tmpBase 9 (by kernel_rfl)).trans rfl
          refine op_valv (sh_wrongV g (sh_faultV c)) W (fun _ _ => trivial) ?_ ⟨Below.refl _ _, rfl⟩
          rw [Oper.semAt_plain _ _ _ (by intro c h; cases h)]
          simp [execOp, q9, go_sem]
        · cases ho
          refine opG_plain rfl rfl ?_
          have l1 : listed.getD 1 false = true := haf ⟨1, .data⟩ (Array.mem_of_getElem? (i := 0) rfl) rfl
          have q22 : a'.tmps[22]? = some (val 1) := hS.tmpSet 1 _ 22 rfl rfl (by simp) l1
          have h1 : PhS (.val (sh_wrongV g (sh_faultV c))) (val 1) W := hF 1 l1 rfl
          rw [show val 1 = sh_wrongV g (sh_faultV c) from h1] at q22
          refine op_callv 32 #[sh_wrongV g (sh_faultV c)] (fun _ _ => trivial) ?_ (by omega) ((callsIn_wide.2 (HER.out W hIW.1.1)).mono ?_)
          · rw [Oper.semAt_plain _ _ _ (by intro c h; cases h)]
            simp [execOp, q22, go_sem]
          · rintro e W2 ⟨rfl, hb⟩
            exact ⟨_, rfl, hb, rfl⟩
        · exact absurd (by decide) hnz
        · cases ho
          refine opG_plain rfl rfl ?_
          have l2 : listed.getD 2 false = true := haf ⟨2, .data⟩ (Array.mem_of_getElem? (i := 0) rfl) rfl
          have q23 : a'.tmps[23]? = some (val 2) := hS.tmpSet 2 _ 23 rfl rfl (by simp) l2
          have h2 : PhS (.val (.int .i64 c)) (val 2) W := hF 2 l2 rfl
          rw [show val 2 = .int .i64 c from h2] at q23
          refine op_valv (.int .i64 c) W (fun _ _ => trivial) ?_ ⟨Below.refl _ _, rfl⟩
          rw [Oper.semAt_plain _ _ _ (by intro c h; cases h)]
          simp [execOp, q23, go_sem]
      · intro z oo listed a' W val hz ho haf hS hIW hF hO
        have hz' : z = 3 := by simpa using hz
        obtain rfl := hz'
        · cases ho
          refine opG_plain rfl rfl ?_
          have q6 : a'.tmps[6]? = some (.pointer (some ⟨w.heap.size + 1 + 1, 0, none⟩)) := (hS.tmpBase 6 (by kernel_rfl)).trans rfl
          have l0 : listed.getD 0 false = true := haf ⟨0, .data⟩ (Array.mem_of_getElem? (i := 0) rfl) rfl
          have q21 : a'.tmps[21]? = some (val 0) := hS.tmpSet 0 _ 21 rfl rfl (by simp) l0
          have h0 : PhS (.val (.agg #[.bool false, .bool false, .slice none 0 0])) (val 0) W := hF 0 l0 rfl
          rw [show val 0 = .agg #[.bool false, .bool false, .slice none 0 0] from h0] at q21
          obtain ⟨hle, hbx⟩ := hIW.1.2.1 (w.heap.size + 1 + 1) (by simp)
          have hbx' := hbx
          obtain ⟨x', y', a0', n', c', hr⟩ := hbx'
          obtain ⟨d0, d1, d2, f0, f1, f2⟩ := srow3 hr
          refine op_skipv (set3 W (w.heap.size + 1 + 1) (.bool false) (.bool false) (.slice none 0 0)) (fun _ _ => trivial) ?_ ⟨IK.put hIW hle hbx (fun r hr => by simp only [List.mem_cons, List.not_mem_nil, or_false] at hr; rcases hr with rfl <;> (dsimp only; omega)) _ _ _ _ _, trivial, fun j hj hk => PhS.put hbx _ _ _ hk (hF j hj hk), (show StS (.pointer (some ⟨w.heap.size + 1 + 1, 0, none⟩)) (val 0) _ from by rw [(show val 0 = .agg #[.bool false, .bool false, .slice none 0 0] from h0)]; exact StS.of hbx _ _ _), fun y hy _ hne => absurd (by simpa using hy) hne⟩
          rw [Oper.semAt_plain _ _ _ (by intro c h; cases h)]
          simp [execOp, q6, q21, d0, d1, d2, f0, f1, f2, go_sem]
      · intro W8 val hIW hF hST
        have e0 : val 0 = .agg #[.bool false, .bool false, .slice none 0 0] := hF 0 (by decide) rfl
        have e1 : val 1 = sh_wrongV g (sh_faultV c) := hF 1 (by decide) rfl
        have e2 : val 2 = .int .i64 c := hF 2 (by decide) rfl
        have e4 : val 4 = .int .i64 c := hF 4 (by decide) rfl
        have hst3 := (show StS (.pointer (some ⟨w.heap.size + 1 + 1, 0, none⟩)) (val 0) W8 from hST 3 (by simp)) _ _ _ _ rfl e0
        simp only [finAct, List.getElem?_toArray, List.getElem?_cons_zero, List.getElem?_cons_succ, Act.put, List.setIfInBounds_toArray, List.set_cons_zero, List.set_cons_succ, List.size_toArray, List.length_cons, List.length_nil, Nat.reduceAdd]
        simp only [e0, e1, e2, e4]
        obtain ⟨p0, p1, p2, -, -, -⟩ := srow3 hst3
        have hbw := hIW.1.1
        have hkw := hIW.2
        clear hF hST hst3 hIW
        go_wp2
        refine bodyPost_ret (v := .tuple #[.agg #[.bool false, .bool false, .slice none 0 0], .int .i64 c]) (by simp [results, Tryz.f16, go_sem, p0, p1, p2]) rfl ⟨none, 0, 0, by rw [HRR.out]; rfl, by rw [HRR.out]; exact hkw, hbw⟩
end Go.Proofs.YteclpoooggcdoaaGreatDoor.Ar
