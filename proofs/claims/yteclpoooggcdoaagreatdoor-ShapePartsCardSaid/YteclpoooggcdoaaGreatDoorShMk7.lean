/- shape's makers: fills, taken (by wip/gen/mkshmk.py). -/
import Derived.Test.YteclpoooggcdoaaGreatDoorShB
import Derived.Test.YteclpoooggcdoaaGreatDoorShF
import Derived.Laws.BitsLemmas
namespace Go.Proofs.YteclpoooggcdoaaGreatDoor.Ar
open Go Go.RowKit
attribute [local go_sem] Oper.semAt_some

theorem srep_s (z : Int) (c n : Nat) (w : World) (hc : KL w (.slice (some ⟨c, 0, none⟩) 1 1) [z]) (hn : n ≤ 1000) :
    Calls Tryz.prog 93 #[.slice (some ⟨c, 0, none⟩) 1 1, .int .i64 (n : Int)] w fun e W' => ∃ va vn vc, e = .returned (.slice va vn vc) ∧ KL W' (.slice va vn vc) (List.replicate n z) ∧ Below w.heap.size w W' := by
  refine (srep_c z c n w hc hn).mono ?_
  rintro e w' ⟨b, rfl, hr, hle, hb⟩
  have := kl_of_row hr (by simpa using hn)
  rw [List.length_replicate] at this
  exact ⟨_, _, _, rfl, this, hb⟩
set_option maxRecDepth 100000 in
set_option maxHeartbeats 4000000 in
theorem fills_c (a b : Ary) (s t : Value) (n : Nat) (w : World) (hs : KL w s a.n) (ht : KL w t b.n) (hn : n ≤ 1000) : Calls Tryz.prog 80 #[pairV a b s t, .int .i64 (n : Int)] w fun e w' => ∃ va vn vc, e = .returned (.agg #[.bool true, .bool b.runes, .slice va vn vc]) ∧ KL w' (.slice va vn vc) (List.replicate n (fillN b.runes)) ∧ Below w.heap.size w w' := by
  obtain ⟨aL, aR, aN⟩ := a
  obtain ⟨bL, bR, bN⟩ := b
  dsimp only [pairV] at *
  obtain ⟨sa, sc, hsf, -, -⟩ := hs.form
  obtain ⟨sn, hsn⟩ : ∃ sn, sn = aN.length := ⟨_, rfl⟩
  rw [← hsn] at hsf
  subst hsf
  obtain ⟨ta, tc, htf, -, -⟩ := ht.form
  obtain ⟨tn, htn⟩ : ∃ tn, tn = bN.length := ⟨_, rfl⟩
  rw [← htn] at htf
  subst htf
  obtain ⟨w2, hw2⟩ : ∃ w2, w2 = (w.alloc (.cells #[.bool aL, .bool aR, .slice sa sn sc, .bool bL, .bool bR, .slice ta tn tc] 64)).alloc (.cells #[.bool false, .bool false, .slice none 0 0] 24) := ⟨_, rfl⟩
  have hb2 : Below w.heap.size w w2 := by rw [hw2]; exact ((Below.refl _ w).alloc (Nat.le_refl _) _).alloc (by simp) _
  have r1 : Row w2 w.heap.size 64 #[.bool aL, .bool aR, .slice sa sn sc, .bool bL, .bool bR, .slice ta tn tc] := by rw [hw2]; exact (Row.new _ _ _).alloc _
  have r2 : Row w2 (w.heap.size + 1) 24 #[.bool false, .bool false, .slice none 0 0] := by rw [hw2]; exact Row.at _ _ _ _ (by simp)
  have HIB : Hid (IB w [w.heap.size + 1] [(w.heap.size, 64, #[.bool aL, .bool aR, .slice sa sn sc, .bool bL, .bool bR, .slice ta tn tc])] w2) := Lib.hid ⟨hb2, fun h hh => by
    obtain rfl : h = w.heap.size + 1 := by simpa using hh
    exact ⟨by omega, _, _, _, _, _, r2⟩, fun r hr => by
    obtain rfl : r = _ := by simpa using hr
    exact r1⟩
  have HW2 := Lib.hid hw2
  have HN := Lib.hid hn
  clear hs ht hsn htn hw2 hb2 r1 r2
  go_enter Tryz.func80, Tryz.ntmps80
  go_wp2_with fail
  rw [← HW2.out]
  refine (wpIn_wide (n := 9)).1 ?_
  refine wpIn_region_putI (by kernel_rfl) (by kernel_rfl) [11] (fun z => if z = 11 then 10 else 0) (fun z => if z = 11 then 10 else 0) (fun j => keepK ([.val (.pointer (some ⟨w.heap.size, 3, none⟩)), .val (.pointer (some ⟨w.heap.size, 4, none⟩)), .val (.bool bR), .val (.pointer (some ⟨w.heap.size, 3, none⟩)), .val (.pointer (some ⟨w.heap.size, 4, none⟩)), .val (.bool bR), .val (.int .i64 (fillN bR)), .one (fillN bR), .val (.int .i64 (n : Int)), .sl (fun s => s) (List.replicate n (fillN bR)), .sl ((fun s => .agg #[.bool true, .bool bR, s])) (List.replicate n (fillN bR)), .any].getD j .any)) (by decide) (IB w [w.heap.size + 1] [(w.heap.size, 64, #[.bool aL, .bool aR, .slice sa sn sc, .bool bL, .bool bR, .slice ta tn tc])]) (fun i => PhS ([.val (.pointer (some ⟨w.heap.size, 3, none⟩)), .val (.pointer (some ⟨w.heap.size, 4, none⟩)), .val (.bool bR), .val (.pointer (some ⟨w.heap.size, 3, none⟩)), .val (.pointer (some ⟨w.heap.size, 4, none⟩)), .val (.bool bR), .val (.int .i64 (fillN bR)), .one (fillN bR), .val (.int .i64 (n : Int)), .sl (fun s => s) (List.replicate n (fillN bR)), .sl ((fun s => .agg #[.bool true, .bool bR, s])) (List.replicate n (fillN bR)), .any].getD i .any)) (fun z u v => StS (.pointer (some ⟨w.heap.size + 1, 0, none⟩)) v) (fun W W' hb h => h.below hb) (fun i v W W' hb h => PhS.below hb h) (fun i u v W W' hb h => StS.below hb h) (HIB.out.below (Below.refl _ _).drew) ?_ ?_ ?_
  · intro i oo listed a' W val ho hi hnz haf hS hIW hF
    have hi' : i < 12 := hi
    obtain rfl | rfl | rfl | rfl | rfl | rfl | rfl | rfl | rfl | rfl | rfl | rfl : i = 0 ∨ i = 1 ∨ i = 2 ∨ i = 3 ∨ i = 4 ∨ i = 5 ∨ i = 6 ∨ i = 7 ∨ i = 8 ∨ i = 9 ∨ i = 10 ∨ i = 11 := by omega
    · cases ho
      refine opG_plain rfl rfl ?_
      have q2 : a'.tmps[2]? = some (.pointer (some ⟨w.heap.size, 0, none⟩)) := (hS.tmpBase 2 (by kernel_rfl)).trans rfl
      refine op_valv (.pointer (some ⟨w.heap.size, 3, none⟩)) W (fun _ _ => trivial) ?_ ⟨Below.refl _ _, rfl⟩
      rw [Oper.semAt_plain _ _ _ (by intro c h; cases h)]
      simp [execOp, q2, go_sem]
    · cases ho
      refine opG_plain rfl rfl ?_
      have l0 : listed.getD 0 false = true := haf ⟨0, .data⟩ (Array.mem_of_getElem? (i := 0) rfl) rfl
      have q5 : a'.tmps[5]? = some (val 0) := hS.tmpSet 0 _ 5 rfl rfl (by simp) l0
      have h0 : PhS (.val (.pointer (some ⟨w.heap.size, 3, none⟩))) (val 0) W := hF 0 l0 rfl
      rw [show val 0 = .pointer (some ⟨w.heap.size, 3, none⟩) from h0] at q5
      refine op_valv (.pointer (some ⟨w.heap.size, 4, none⟩)) W (fun _ _ => trivial) ?_ ⟨Below.refl _ _, rfl⟩
      rw [Oper.semAt_plain _ _ _ (by intro c h; cases h)]
      simp [execOp, q5, go_sem]
    · cases ho
      refine opG_plain rfl rfl ?_
      have l1 : listed.getD 1 false = true := haf ⟨1, .data⟩ (Array.mem_of_getElem? (i := 0) rfl) rfl
      have q6 : a'.tmps[6]? = some (val 1) := hS.tmpSet 1 _ 6 rfl rfl (by simp) l1
      have h1 : PhS (.val (.pointer (some ⟨w.heap.size, 4, none⟩))) (val 1) W := hF 1 l1 rfl
      rw [show val 1 = .pointer (some ⟨w.heap.size, 4, none⟩) from h1] at q6
      have hr := hIW.2.2 _ (List.mem_of_getElem? (i := 0) rfl)
      obtain ⟨z0, z1, z2, z3, z4, z5⟩ := srow6 hr
      refine op_valv (.bool bR) W (fun _ _ => trivial) ?_ ⟨Below.refl _ _, rfl⟩
      rw [Oper.semAt_plain _ _ _ (by intro c h; cases h)]
      simp [execOp, q6, z4, go_sem]
    · cases ho
      refine opG_plain rfl rfl ?_
      have q2 : a'.tmps[2]? = some (.pointer (some ⟨w.heap.size, 0, none⟩)) := (hS.tmpBase 2 (by kernel_rfl)).trans rfl
      refine op_valv (.pointer (some ⟨w.heap.size, 3, none⟩)) W (fun _ _ => trivial) ?_ ⟨Below.refl _ _, rfl⟩
      rw [Oper.semAt_plain _ _ _ (by intro c h; cases h)]
      simp [execOp, q2, go_sem]
    · cases ho
      refine opG_plain rfl rfl ?_
      have l3 : listed.getD 3 false = true := haf ⟨3, .data⟩ (Array.mem_of_getElem? (i := 0) rfl) rfl
      have q8 : a'.tmps[8]? = some (val 3) := hS.tmpSet 3 _ 8 rfl rfl (by simp) l3
      have h3 : PhS (.val (.pointer (some ⟨w.heap.size, 3, none⟩))) (val 3) W := hF 3 l3 rfl
      rw [show val 3 = .pointer (some ⟨w.heap.size, 3, none⟩) from h3] at q8
      refine op_valv (.pointer (some ⟨w.heap.size, 4, none⟩)) W (fun _ _ => trivial) ?_ ⟨Below.refl _ _, rfl⟩
      rw [Oper.semAt_plain _ _ _ (by intro c h; cases h)]
      simp [execOp, q8, go_sem]
    · cases ho
      refine opG_plain rfl rfl ?_
      have l4 : listed.getD 4 false = true := haf ⟨4, .data⟩ (Array.mem_of_getElem? (i := 0) rfl) rfl
      have q9 : a'.tmps[9]? = some (val 4) := hS.tmpSet 4 _ 9 rfl rfl (by simp) l4
      have h4 : PhS (.val (.pointer (some ⟨w.heap.size, 4, none⟩))) (val 4) W := hF 4 l4 rfl
      rw [show val 4 = .pointer (some ⟨w.heap.size, 4, none⟩) from h4] at q9
      have hr := hIW.2.2 _ (List.mem_of_getElem? (i := 0) rfl)
      obtain ⟨z0, z1, z2, z3, z4, z5⟩ := srow6 hr
      refine op_valv (.bool bR) W (fun _ _ => trivial) ?_ ⟨Below.refl _ _, rfl⟩
      rw [Oper.semAt_plain _ _ _ (by intro c h; cases h)]
      simp [execOp, q9, z4, go_sem]
    · cases ho
      refine opG_plain rfl rfl ?_
      have l5 : listed.getD 5 false = true := haf ⟨5, .data⟩ (Array.mem_of_getElem? (i := 0) rfl) rfl
      have q10 : a'.tmps[10]? = some (val 5) := hS.tmpSet 5 _ 10 rfl rfl (by simp) l5
      have h5 : PhS (.val (.bool bR)) (val 5) W := hF 5 l5 rfl
      rw [show val 5 = .bool bR from h5] at q10
      refine op_callv 23 #[.bool bR] (fun _ _ => trivial) ?_ (by omega) ((callsIn_wide.2 (fill_c bR W)).mono ?_)
      · rw [Oper.semAt_plain _ _ _ (by intro c h; cases h)]
        simp [execOp, q10, go_sem]
      · rintro e W2 ⟨rfl, rfl⟩
        exact ⟨_, rfl, Below.refl _ _, rfl⟩
    · cases ho
      refine opG_plain rfl rfl ?_
      have l6 : listed.getD 6 false = true := haf ⟨6, .data⟩ (Array.mem_of_getElem? (i := 0) rfl) rfl
      have q11 : a'.tmps[11]? = some (val 6) := hS.tmpSet 6 _ 11 rfl rfl (by simp) l6
      have h6 : PhS (.val (.int .i64 (fillN bR))) (val 6) W := hF 6 l6 rfl
      rw [show val 6 = .int .i64 (fillN bR) from h6] at q11
      refine op_valv (.slice (some ⟨W.heap.size, 0, none⟩) 1 1) (W.alloc (.cells #[.int .i64 (fillN bR)] 2)) (fun _ _ => trivial) ?_ ⟨(Below.refl _ _).alloc (Nat.le_refl _) _, W.heap.size, rfl, kl_of_row (L := [fillN bR]) (Row.new _ _ _) (by simp)⟩
      rw [Oper.semAt_plain _ _ _ (by intro c h; cases h)]
      simp [execOp, q11, go_sem]
    · cases ho
      refine opG_plain rfl rfl ?_
      have q1 : a'.tmps[1]? = some (.int .i64 (n : Int)) := (hS.tmpBase 1 (by kernel_rfl)).trans rfl
      refine op_valv (.int .i64 (n : Int)) W (fun _ _ => trivial) ?_ ⟨Below.refl _ _, rfl⟩
      rw [Oper.semAt_plain _ _ _ (by intro c h; cases h)]
      simp [execOp, q1, go_sem]
    · cases ho
      refine opG_plain rfl rfl ?_
      have l7 : listed.getD 7 false = true := haf ⟨7, .data⟩ (Array.mem_of_getElem? (i := 0) rfl) rfl
      have q12 : a'.tmps[12]? = some (val 7) := hS.tmpSet 7 _ 12 rfl rfl (by simp) l7
      have h7 : PhS (.one (fillN bR)) (val 7) W := hF 7 l7 rfl
      obtain ⟨b7, e7, hk7⟩ := h7
      rw [e7] at q12
      rw [e7] at hk7
      have l8 : listed.getD 8 false = true := haf ⟨8, .data⟩ (Array.mem_of_getElem? (i := 1) rfl) rfl
      have q13 : a'.tmps[13]? = some (val 8) := hS.tmpSet 8 _ 13 rfl rfl (by simp) l8
      have h8 : PhS (.val (.int .i64 (n : Int))) (val 8) W := hF 8 l8 rfl
      rw [show val 8 = .int .i64 (n : Int) from h8] at q13
      refine op_callv 93 #[.slice (some ⟨b7, 0, none⟩) 1 1, .int .i64 (n : Int)] (fun _ _ => trivial) ?_ (by omega) ((callsIn_wide.2 (srep_s (fillN bR) b7 n W hk7 HN.out)).mono ?_)
      · rw [Oper.semAt_plain _ _ _ (by intro c h; cases h)]
        simp [execOp, q12, q13, go_sem]
      · rintro e W2 ⟨va, vn, vc, rfl, hk, hb⟩
        exact ⟨_, rfl, hb, va, vn, vc, rfl, hk⟩
    · cases ho
      refine opG_plain rfl rfl ?_
      have l2 : listed.getD 2 false = true := haf ⟨2, .data⟩ (Array.mem_of_getElem? (i := 0) rfl) rfl
      have q7 : a'.tmps[7]? = some (val 2) := hS.tmpSet 2 _ 7 rfl rfl (by simp) l2
      have h2 : PhS (.val (.bool bR)) (val 2) W := hF 2 l2 rfl
      rw [show val 2 = .bool bR from h2] at q7
      have l9 : listed.getD 9 false = true := haf ⟨9, .data⟩ (Array.mem_of_getElem? (i := 1) rfl) rfl
      have q14 : a'.tmps[14]? = some (val 9) := hS.tmpSet 9 _ 14 rfl rfl (by simp) l9
      have h9 : PhS (.sl (fun s => s) (List.replicate n (fillN bR))) (val 9) W := hF 9 l9 rfl
      obtain ⟨va9, vn9, vc9, e9, hk9⟩ := h9
      rw [e9] at q14
      refine op_valv (((fun s => .agg #[.bool true, .bool bR, s])) (.slice va9 vn9 vc9)) W (fun _ _ => trivial) ?_ ⟨Below.refl _ _, va9, vn9, vc9, rfl, hk9⟩
      rw [Oper.semAt_plain _ _ _ (by intro c h; cases h)]
      simp [execOp, q7, q14, go_sem]
    · exact absurd (by decide) hnz
  · intro z oo listed a' W val hz ho haf hS hIW hF hO
    have hz' : z = 11 := by simpa using hz
    obtain rfl := hz'
    · cases ho
      refine opG_plain rfl rfl ?_
      have q4 : a'.tmps[4]? = some (.pointer (some ⟨w.heap.size + 1, 0, none⟩)) := (hS.tmpBase 4 (by kernel_rfl)).trans rfl
      have l10 : listed.getD 10 false = true := haf ⟨10, .data⟩ (Array.mem_of_getElem? (i := 0) rfl) rfl
      have q15 : a'.tmps[15]? = some (val 10) := hS.tmpSet 10 _ 15 rfl rfl (by simp) l10
      have h10 : PhS (.sl ((fun s => .agg #[.bool true, .bool bR, s])) (List.replicate n (fillN bR))) (val 10) W := hF 10 l10 rfl
      obtain ⟨va10, vn10, vc10, e10, hk10⟩ := h10
      rw [e10] at q15
      obtain ⟨hle, hbx⟩ := hIW.2.1 (w.heap.size + 1) (by simp)
      have hbx' := hbx
      obtain ⟨x', y', a0', n', c', hr⟩ := hbx'
      obtain ⟨d0, d1, d2, f0, f1, f2⟩ := srow3 hr
      refine op_skipv (set3 W (w.heap.size + 1) (.bool true) (.bool bR) (.slice va10 vn10 vc10)) (fun _ _ => trivial) ?_ ⟨IB.put hIW hle hbx (fun r hr => by simp only [List.mem_cons, List.not_mem_nil, or_false] at hr; rcases hr with rfl <;> (dsimp only; omega)) _ _ _ _ _, trivial, fun j hj hk => PhS.put hbx _ _ _ hk (hF j hj hk), (show StS (.pointer (some ⟨w.heap.size + 1, 0, none⟩)) (val 10) _ from by rw [e10]; exact StS.of hbx _ _ _), fun y hy _ hne => absurd (by simpa using hy) hne⟩
      rw [Oper.semAt_plain _ _ _ (by intro c h; cases h)]
      simp [execOp, q4, q15, d0, d1, d2, f0, f1, f2, go_sem]
  · intro W9 val hIW hF hST
    have e0 : val 0 = .pointer (some ⟨w.heap.size, 3, none⟩) := hF 0 (by decide) rfl
    have e1 : val 1 = .pointer (some ⟨w.heap.size, 4, none⟩) := hF 1 (by decide) rfl
    have e2 : val 2 = .bool bR := hF 2 (by decide) rfl
    have e3 : val 3 = .pointer (some ⟨w.heap.size, 3, none⟩) := hF 3 (by decide) rfl
    have e4 : val 4 = .pointer (some ⟨w.heap.size, 4, none⟩) := hF 4 (by decide) rfl
    have e5 : val 5 = .bool bR := hF 5 (by decide) rfl
    have e6 : val 6 = .int .i64 (fillN bR) := hF 6 (by decide) rfl
    have e8 : val 8 = .int .i64 (n : Int) := hF 8 (by decide) rfl
    obtain ⟨va9, vn9, vc9, e9, hk9⟩ : PhS (.sl (fun s => s) (List.replicate n (fillN bR))) (val 9) W9 := hF 9 (by decide) rfl
    obtain ⟨va10, vn10, vc10, e10, hk10⟩ : PhS (.sl ((fun s => .agg #[.bool true, .bool bR, s])) (List.replicate n (fillN bR))) (val 10) W9 := hF 10 (by decide) rfl
    have hst11 := (show StS (.pointer (some ⟨w.heap.size + 1, 0, none⟩)) (val 10) W9 from hST 11 (by simp)) _ _ _ _ rfl e10
    simp only [finAct, List.getElem?_toArray, List.getElem?_cons_zero, List.getElem?_cons_succ, Act.put, List.setIfInBounds_toArray, List.set_cons_zero, List.set_cons_succ, List.size_toArray, List.length_cons, List.length_nil, Nat.reduceAdd]
    simp only [e0, e1, e2, e3, e4, e5, e6, e8, e9, e10]
    obtain ⟨p0, p1, p2, -, -, -⟩ := srow3 hst11
    have hbw := hIW.1
    clear hF hST hst11 hIW
    go_wp2
    refine bodyPost_ret (v := .agg #[.bool true, .bool bR, .slice va10 vn10 vc10]) (by simp [results, Tryz.f80, go_sem, p0, p1, p2]) rfl ⟨_, _, _, rfl, hk10, hbw⟩
theorem join_at (b : Nat) (L M : List Int) (r : Bool) (w : World) (h : JAt w b 0 [⟨true, r, L⟩, ⟨true, r, M⟩]) (hn : L.length + M.length ≤ 1000) : Calls Tryz.prog 75 #[.slice (some ⟨b, 0, none⟩) 2 2] w fun e w' => ∃ va vn vc, e = .returned (.agg #[.bool true, .bool r, .slice va vn vc]) ∧ KL w' (.slice va vn vc) (L ++ M) ∧ Below w.heap.size w w' := by
  have hfl : flatN [⟨true, r, L⟩, ⟨true, r, M⟩] = L ++ M := by simp [flatN]
  have := join_c b 0 2 _ w h (by simp) (by rw [hfl, List.length_append]; exact hn)
  rw [hfl, any_like] at this
  refine this.mono ?_
  rintro e w' ⟨v, rfl, hk, hb⟩
  obtain ⟨va, vc, rfl, -, -⟩ := hk.form
  exact ⟨va, _, vc, rfl, hk, hb⟩
def IK (w : World) (bs : List Nat) (rs : List (Nat × TypeId × Array Value)) (v : Value) (N : List Int) (W : World) : Prop := IB w bs rs W ∧ KL W v N
theorem IK.below {w : World} {bs : List Nat} {rs : List (Nat × TypeId × Array Value)} {v : Value} {N : List Int} {W W' : World} (hb : Below W.heap.size W W') (h : IK w bs rs v N W) : IK w bs rs v N W' := ⟨h.1.below hb, h.2.below hb⟩
theorem IK.put {w : World} {bs : List Nat} {rs : List (Nat × TypeId × Array Value)} {v : Value} {N : List Int} {W : World} {h : Nat} (hi : IK w bs rs v N W) (hle : w.heap.size ≤ h) (hbx : BoxAt W h) (hne : ∀ r ∈ rs, r.1 ≠ h) (x y : Bool) (a : Option Addr) (n c : Nat) : IK w bs rs v N (set3 W h (.bool x) (.bool y) (.slice a n c)) := by
  refine ⟨hi.1.put hle hbx hne x y a n c, ?_⟩
  obtain ⟨x', y', a', n', c', hr⟩ := hbx
  exact skl_set3 hi.2 hr _ _ _
set_option maxRecDepth 100000 in
set_option maxHeartbeats 4000000 in
theorem taken_c (a b : Ary) (s t : Value) (w : World) (hs : KL w s a.n) (ht : KL w t b.n) (ha : InL a.n) (hra : rightA a = true) (hrb : rightA b = true) : Calls Tryz.prog 56 #[pairV a b s t] w fun e w' => MkOut (if numE a = 0 then (if numV a < -200 ∨ 200 < numV a then 113 else 0) else numE a) (⟨true, b.runes, takeL (numV a) b.runes b.n⟩) w e w' := by
  have hla := right200 hra
  have hlb := right200 hrb
  obtain ⟨cE, hcE⟩ : ∃ c : Int, c = if numE a = 0 then (if numV a < -200 ∨ 200 < numV a then 113 else 0) else numE a := ⟨_, rfl⟩
  obtain ⟨rA, hrA⟩ : ∃ r : Ary, r = ⟨true, b.runes, takeL (numV a) b.runes b.n⟩ := ⟨_, rfl⟩
  rw [← hrA, ← hcE]
  obtain ⟨aL, aR, aN⟩ := a
  obtain ⟨bL, bR, bN⟩ := b
  have HKab : Hid (∀ W, Below w.heap.size w W → KL W s aN ∧ KL W t bN) := Lib.hid (fun W h => ⟨hs.below h, ht.below h⟩)
  dsimp only [pairV] at *
  obtain ⟨sa, sc, hsf, -, -⟩ := hs.form
  obtain ⟨sn, hsn⟩ : ∃ sn, sn = aN.length := ⟨_, rfl⟩
  rw [← hsn] at hsf
  subst hsf
  obtain ⟨ta, tc, htf, -, -⟩ := ht.form
  obtain ⟨tn, htn⟩ : ∃ tn, tn = bN.length := ⟨_, rfl⟩
  rw [← htn] at htf
  subst htf
  obtain ⟨w2, hw2⟩ : ∃ w2, w2 = (w.alloc (.cells #[.bool aL, .bool aR, .slice sa sn sc, .bool bL, .bool bR, .slice ta tn tc] 64)).alloc (.cells #[.bool false, .bool false, .slice none 0 0] 24) := ⟨_, rfl⟩
  have hb2 : Below w.heap.size w w2 := by rw [hw2]; exact ((Below.refl _ w).alloc (Nat.le_refl _) _).alloc (by simp) _
  have hs2 : w2.heap.size = w.heap.size + 1 + 1 := by rw [hw2]; simp
  have r1 : Row w2 w.heap.size 64 #[.bool aL, .bool aR, .slice sa sn sc, .bool bL, .bool bR, .slice ta tn tc] := by rw [hw2]; exact (Row.new _ _ _).alloc _
  have r2 : Row w2 (w.heap.size + 1) 24 #[.bool false, .bool false, .slice none 0 0] := by rw [hw2]; exact Row.at _ _ _ _ (by simp)
  have HP : Hid (∀ W, Below w2.heap.size w2 W → Row W w.heap.size 64 #[.bool aL, .bool aR, .slice sa sn sc, .bool bL, .bool bR, .slice ta tn tc] ∧ Row W (w.heap.size + 1) 24 #[.bool false, .bool false, .slice none 0 0] ∧ Below w.heap.size w W) := Lib.hid (fun W h => ⟨r1.below h (by omega), r2.below h (by omega), hb2.trans (h.mono hb2.size)⟩)
  have HK : Hid (∀ W, Below w2.heap.size w2 W → KL W (.slice sa sn sc) aN ∧ KL W (.slice ta tn tc) bN) := Lib.hid (fun W h => HKab.out W (hb2.trans (h.mono hb2.size)))
  have HW2 := Lib.hid hw2
  have HS2 := Lib.hid hs2
  have HSN := Lib.hid hsn
  have HTN := Lib.hid htn
  have HCE := Lib.hid hcE
  have HRA := Lib.hid hrA
  have HB22 := Lib.hid (Below.refl w2.heap.size w2)
  have hle1 : w.heap.size ≤ w.heap.size + 1 := Nat.le_succ _
  rw [← hsn] at hla
  rw [← htn] at hlb
  have HIA : Hid (InL aN) := Lib.hid ha
  clear hs ht hw2 hs2 r1 r2 hsn htn hb2 hcE hrA ha hra hrb
  have hn := num_c ⟨aL, aR, aN⟩ (.slice sa sn sc) w2 (HK.out w2 HB22.out).1
  obtain ⟨x, hx⟩ : ∃ x : Int, x = numV ⟨aL, aR, aN⟩ := ⟨_, rfl⟩
  have HIX : Hid (Nu.In x) := Lib.hid (by
    rw [hx]
    unfold numV
    cases aN with
    | nil => exact (by decide : Nu.In 0)
    | cons y L => exact HIA.out y (by simp))
  rw [← hx] at hn
  have HX := Lib.hid hx
  have hp0 := HP.out w2 HB22.out
  obtain ⟨k0, k1, k2, k3, k4, k5⟩ := srow6 hp0.1
  rw [HW2.out] at k0 k1 k2 k3 k4 k5
  obtain ⟨cC, hcC⟩ : ∃ c : Int, c = numE ⟨aL, aR, aN⟩ := ⟨_, rfl⟩
  rw [← hcC, HW2.out] at hn
  have HCE2 : Hid (cE = if cC = 0 then (if x < -200 ∨ 200 < x then 113 else 0) else cC) := Lib.hid (by rw [HCE.out, hcC, hx])
  have HN : Hid (Calls Tryz.prog 78 #[.agg #[.bool aL, .bool aR, .slice sa sn sc]] _ fun e w' => Below w2.heap.size w2 w' ∧ ((cC = 0 ∧ e = .returned (.tuple #[.int .i64 x, .nilIface])) ∨ (cC ≠ 0 ∧ e = .returned (.tuple #[.int .i64 0, sh_faultV cC])))) := Lib.hid (hn.mono fun e w' h => by unfold NumOut at h; rw [← HW2.out] at h; exact h)
  have HLB : Hid (bN.length ≤ 1000) := Lib.hid (by rw [← HTN.out]; omega)
  clear hn hx hp0 hcC
  by_cases h0 : cC = 0
  · by_cases h9 : x < -200 ∨ 200 < x
    · have HC9 : Hid (cE = 113) := Lib.hid (by rw [HCE2.out, if_pos h0, if_pos h9])
      by_cases h8 : 200 < x
      · have HH := Lib.hid h9
        clear h9
        go_enter Tryz.func56, Tryz.ntmps56
        go_wp2_with (go_at_call 78; refine HN.out.mono ?_; rintro e w3 ⟨hb, ⟨_, rfl⟩ | ⟨h, _⟩⟩; rotate_left; exact absurd h0 h; have HB3 := Lib.hid hb; clear hb; obtain ⟨kw30, kw31, kw32, kw33, kw34, kw35⟩ := srow6 (HP.out w3 HB3.out).1; obtain ⟨dw30, dw31, dw32, fw30, fw31, fw32⟩ := srow3 (HP.out w3 HB3.out).2.1; skip)
        have hf := fin_of (HP.out w3 HB3.out).2.2 hle1 (HP.out w3 HB3.out).2.1 (.bool false) (.bool false) (.slice none 0 0)
        refine bodyPost_ret (v := .tuple #[.agg #[.bool false, .bool false, .slice none 0 0], sh_faultV (113)]) (by simp [results, Tryz.f56, go_sem, hf.c0, hf.c1, hf.c2]) rfl ⟨hf.below, .inr ⟨by rw [HC9.out]; decide, by rw [HC9.out]⟩⟩
      · have h7 : x < -200 := by omega
        have HH := Lib.hid h9
        clear h9
        go_enter Tryz.func56, Tryz.ntmps56
        go_wp2_with (go_at_call 78; refine HN.out.mono ?_; rintro e w3 ⟨hb, ⟨_, rfl⟩ | ⟨h, _⟩⟩; rotate_left; exact absurd h0 h; have HB3 := Lib.hid hb; clear hb; obtain ⟨kw30, kw31, kw32, kw33, kw34, kw35⟩ := srow6 (HP.out w3 HB3.out).1; obtain ⟨dw30, dw31, dw32, fw30, fw31, fw32⟩ := srow3 (HP.out w3 HB3.out).2.1; skip)
        have hf := fin_of (HP.out w3 HB3.out).2.2 hle1 (HP.out w3 HB3.out).2.1 (.bool false) (.bool false) (.slice none 0 0)
        refine bodyPost_ret (v := .tuple #[.agg #[.bool false, .bool false, .slice none 0 0], sh_faultV (113)]) (by simp [results, Tryz.f56, go_sem, hf.c0, hf.c1, hf.c2]) rfl ⟨hf.below, .inr ⟨by rw [HC9.out]; decide, by rw [HC9.out]⟩⟩
    · have HC0 : Hid (cE = 0) := Lib.hid (by rw [HCE2.out, if_pos h0, if_neg h9])
      have h8 : ¬ 200 < x := fun h => h9 (.inr h)
      have h7 : ¬ x < -200 := fun h => h9 (.inl h)
      clear h9
      have HKW : Hid (∀ W, Below w.heap.size w W → KL W (.slice sa sn sc) aN ∧ KL W (.slice ta tn tc) bN) := Lib.hid (fun W h => HKab.out W h)
      by_cases h1 : x < 0
      · have hx1 := h1
        go_enter Tryz.func56, Tryz.ntmps56
        go_wp2_with (first
          | (go_at_call 78; refine HN.out.mono ?_; rintro e w3 ⟨hb, ⟨_, rfl⟩ | ⟨h, _⟩⟩; rotate_left; exact absurd h0 h; have HB3 := Lib.hid hb; clear hb; obtain ⟨kw30, kw31, kw32, kw33, kw34, kw35⟩ := srow6 (HP.out w3 HB3.out).1; obtain ⟨dw30, dw31, dw32, fw30, fw31, fw32⟩ := srow3 (HP.out w3 HB3.out).2.1; skip)
          | (go_at_call 79; refine (cut_c ⟨aL, aR, aN⟩ ⟨bL, bR, bN⟩ (.slice sa sn sc) (.slice ta tn tc) x w3 (HK.out w3 HB3.out).1 (HK.out w3 HB3.out).2 HLB.out HIX.out).mono ?_; rintro e w4 ⟨va, vn, vc, ua, un, uc, rfl, hk1, hk2, hb⟩; have HB4 := Lib.hid (HB3.out.trans (hb.mono HB3.out.size)); have HK1 := Lib.hid hk1; have HK2 := Lib.hid hk2; clear hk1 hk2 hb; obtain ⟨w5, hw5⟩ : ∃ w5, w5 = (w4.alloc (.cells #[.bool true, .bool bR, .slice va vn vc] 24)).alloc (.cells #[.bool true, .bool bR, .slice ua un uc] 24) := ⟨_, rfl⟩; obtain ⟨h45, hs5⟩ := two_facts hw5; have r5 : Row w5 w4.heap.size 24 #[.bool true, .bool bR, .slice va vn vc] := (by rw [hw5]; exact (Row.new _ _ _).alloc _); have HB5 := Lib.hid (HB4.out.trans (h45.mono HB4.out.size)); have HW5 := Lib.hid hw5; have HK15 := Lib.hid (HK1.out.below h45); have HR5 := Lib.hid r5; clear h45 hs5 r5 hw5; skip))
        rw [← HW5.out]
        obtain ⟨q, hq⟩ : ∃ q : Nat, q = (tkL x bN).length := ⟨_, rfl⟩
        have hvn : vn = q := by obtain ⟨_, _, e, _, _⟩ := HK15.out.form; injection e with _ e _; rw [e, hq]
        subst hvn
        have hql : (vn : Int) ≤ -x := by
          rw [hq]
          unfold tkL
          rw [if_pos h1, List.length_drop]
          omega
        obtain ⟨r, hr⟩ : ∃ r : Nat, r = (-x).toNat - vn := ⟨_, rfl⟩
        have er : -x - (vn : Int) = (r : Int) := by omega
        have hr2 : r ≤ 200 := by omega
        have hwr1 : IntKind.i64.wrap (-x) = -x := by rw [IntKind.wrap_i64]; omega
        have hwr2 : IntKind.i64.wrap (-x - (vn : Int)) = (r : Int) := by rw [IntKind.wrap_i64]; omega
        have HFL : Hid (∀ W, Below w.heap.size w W → Calls Tryz.prog 80 #[.agg #[.bool aL, .bool aR, .slice sa sn sc, .bool bL, .bool bR, .slice ta tn tc], .int .i64 (r : Int)] W fun e w' => ∃ va vn vc, e = .returned (.agg #[.bool true, .bool bR, .slice va vn vc]) ∧ KL w' (.slice va vn vc) (List.replicate r (fillN bR)) ∧ Below W.heap.size W w') := Lib.hid (fun W h => fills_c ⟨aL, aR, aN⟩ ⟨bL, bR, bN⟩ (.slice sa sn sc) (.slice ta tn tc) r W (HKW.out W h).1 (HKW.out W h).2 (by omega))
        obtain ⟨Fl, hFl⟩ : ∃ L, L = List.replicate r (fillN bR) := ⟨_, rfl⟩
        obtain ⟨Tk, hTk⟩ : ∃ L, L = tkL x bN := ⟨_, rfl⟩
        have hll : Fl.length + Tk.length ≤ 1000 := by rw [hFl, hTk, List.length_replicate, ← hq]; omega
        have HTL : Hid (takeL x bR bN = Fl ++ Tk) := Lib.hid (by
          rw [hFl, hTk, hr, hq]
          unfold takeL
          rw [if_pos h1]
          have e9 : (-x).toNat - (tkL x bN).length = (-x).toNat - bN.length := by
            unfold tkL
            rw [if_pos h1, List.length_drop]
            omega
          rw [e9])
        rw [← hFl] at HFL
        rw [← hTk] at HK15
        have hib : IB w [w.heap.size + 1] [(w.heap.size, 64, #[.bool aL, .bool aR, .slice sa sn sc, .bool bL, .bool bR, .slice ta tn tc]), (w4.heap.size, 24, #[.bool true, .bool bR, .slice va vn vc])] w5 := ⟨(HP.out w5 HB5.out).2.2, fun h hh => by
          obtain rfl : h = w.heap.size + 1 := by simpa using hh
          exact ⟨by omega, _, _, _, _, _, (HP.out w5 HB5.out).2.1⟩, fun r hr => by
          simp only [List.mem_cons, List.not_mem_nil, or_false] at hr
          rcases hr with rfl | rfl
          · exact (HP.out w5 HB5.out).1
          · exact HR5.out⟩
        have HIB : Hid (IK w [w.heap.size + 1] [(w.heap.size, 64, #[.bool aL, .bool aR, .slice sa sn sc, .bool bL, .bool bR, .slice ta tn tc]), (w4.heap.size, 24, #[.bool true, .bool bR, .slice va vn vc])] (.slice va vn vc) Tk w5) := Lib.hid ⟨hib, HK15.out⟩
        have hz4 : w.heap.size + 1 + 1 ≤ w4.heap.size := by rw [← HS2.out]; exact HB4.out.size
        clear hib hq hFl hTk hr
        refine (wpIn_wide (n := 9)).1 ?_
        refine wpIn_region_putI (by kernel_rfl) (by kernel_rfl) [11] (fun z => if z = 11 then 10 else 0) (fun z => if z = 11 then 10 else 0) (fun j => keepK ([.val (.agg #[.bool aL, .bool aR, .slice sa sn sc, .bool bL, .bool bR, .slice ta tn tc]), .val (.int .i64 x), .val (.int .i64 (-x)), .val (.pointer (some ⟨w4.heap.size, 2, none⟩)), .val (.slice va vn vc), .val (.int .i64 (vn : Int)), .val (.int .i64 (r : Int)), .sl ((fun s => .agg #[.bool true, .bool bR, s])) (Fl), .sl ((fun s => .agg #[.bool true, .bool bR, s])) (Tk), .jat [⟨true, bR, Fl⟩, ⟨true, bR, Tk⟩], .sl ((fun s => .agg #[.bool true, .bool bR, s])) (Fl ++ Tk), .any, .val (.nilIface)].getD j .any)) (by decide) (IK w [w.heap.size + 1] [(w.heap.size, 64, #[.bool aL, .bool aR, .slice sa sn sc, .bool bL, .bool bR, .slice ta tn tc]), (w4.heap.size, 24, #[.bool true, .bool bR, .slice va vn vc])] (.slice va vn vc) Tk) (fun i => PhS ([.val (.agg #[.bool aL, .bool aR, .slice sa sn sc, .bool bL, .bool bR, .slice ta tn tc]), .val (.int .i64 x), .val (.int .i64 (-x)), .val (.pointer (some ⟨w4.heap.size, 2, none⟩)), .val (.slice va vn vc), .val (.int .i64 (vn : Int)), .val (.int .i64 (r : Int)), .sl ((fun s => .agg #[.bool true, .bool bR, s])) (Fl), .sl ((fun s => .agg #[.bool true, .bool bR, s])) (Tk), .jat [⟨true, bR, Fl⟩, ⟨true, bR, Tk⟩], .sl ((fun s => .agg #[.bool true, .bool bR, s])) (Fl ++ Tk), .any, .val (.nilIface)].getD i .any)) (fun z u v => StS (.pointer (some ⟨w.heap.size + 1, 0, none⟩)) v) (fun W W' hb h => h.below hb) (fun i v W W' hb h => PhS.below hb h) (fun i u v W W' hb h => StS.below hb h) (HIB.out.below (Below.refl _ _).drew) ?_ ?_ ?_
        · intro i oo listed a' W val ho hi hnz haf hS hIW hF
          have hi' : i < 13 := hi
          obtain rfl | rfl | rfl | rfl | rfl | rfl | rfl | rfl | rfl | rfl | rfl | rfl | rfl : i = 0 ∨ i = 1 ∨ i = 2 ∨ i = 3 ∨ i = 4 ∨ i = 5 ∨ i = 6 ∨ i = 7 ∨ i = 8 ∨ i = 9 ∨ i = 10 ∨ i = 11 ∨ i = 12 := by omega
          · cases ho
            refine opG_plain rfl rfl ?_
            have q1 : a'.tmps[1]? = some (.pointer (some ⟨w.heap.size, 0, none⟩)) := (hS.tmpBase 1 (by kernel_rfl)).trans rfl
            have hr := hIW.1.2.2 _ (List.mem_of_getElem? (i := 0) rfl)
            obtain ⟨z0, z1, z2, z3, z4, z5⟩ := srow6 hr
            refine op_valv (.agg #[.bool aL, .bool aR, .slice sa sn sc, .bool bL, .bool bR, .slice ta tn tc]) W (fun _ _ => trivial) ?_ ⟨Below.refl _ _, rfl⟩
            rw [Oper.semAt_plain _ _ _ (by intro c h; cases h)]
            simp [execOp, q1, z0, z1, z2, z3, z4, z5, go_sem]
          · cases ho
            refine opG_plain rfl rfl ?_
            have q4 : a'.tmps[4]? = some (.int .i64 x) := (hS.tmpBase 4 (by kernel_rfl)).trans rfl
            refine op_valv (.int .i64 x) W (fun _ _ => trivial) ?_ ⟨Below.refl _ _, rfl⟩
            rw [Oper.semAt_plain _ _ _ (by intro c h; cases h)]
            simp [execOp, q4, go_sem]
          · cases ho
            refine opG_plain rfl rfl ?_
            have l1 : listed.getD 1 false = true := haf ⟨1, .data⟩ (Array.mem_of_getElem? (i := 0) rfl) rfl
            have q37 : a'.tmps[37]? = some (val 1) := hS.tmpSet 1 _ 37 rfl rfl (by simp) l1
            have h1 : PhS (.val (.int .i64 x)) (val 1) W := hF 1 l1 rfl
            rw [show val 1 = .int .i64 x from h1] at q37
            refine op_valv (.int .i64 (-x)) W (fun _ _ => trivial) ?_ ⟨Below.refl _ _, rfl⟩
            rw [Oper.semAt_plain _ _ _ (by intro c h; cases h)]
            simp [execOp, q37, hwr1, go_sem]
          · cases ho
            refine opG_plain rfl rfl ?_
            have q6 : a'.tmps[6]? = some (.pointer (some ⟨w4.heap.size, 0, none⟩)) := (hS.tmpBase 6 (by kernel_rfl)).trans rfl
            refine op_valv (.pointer (some ⟨w4.heap.size, 2, none⟩)) W (fun _ _ => trivial) ?_ ⟨Below.refl _ _, rfl⟩
            rw [Oper.semAt_plain _ _ _ (by intro c h; cases h)]
            simp [execOp, q6, go_sem]
          · cases ho
            refine opG_plain rfl rfl ?_
            have l3 : listed.getD 3 false = true := haf ⟨3, .data⟩ (Array.mem_of_getElem? (i := 0) rfl) rfl
            have q39 : a'.tmps[39]? = some (val 3) := hS.tmpSet 3 _ 39 rfl rfl (by simp) l3
            have h3 : PhS (.val (.pointer (some ⟨w4.heap.size, 2, none⟩))) (val 3) W := hF 3 l3 rfl
            rw [show val 3 = .pointer (some ⟨w4.heap.size, 2, none⟩) from h3] at q39
            have hr := hIW.1.2.2 _ (List.mem_of_getElem? (i := 1) rfl)
            obtain ⟨z0, z1, z2, -, -, -⟩ := srow3 hr
            refine op_valv (.slice va vn vc) W (fun _ _ => trivial) ?_ ⟨Below.refl _ _, rfl⟩
            rw [Oper.semAt_plain _ _ _ (by intro c h; cases h)]
            simp [execOp, q39, z2, go_sem]
          · cases ho
            refine opG_plain rfl rfl ?_
            have l4 : listed.getD 4 false = true := haf ⟨4, .data⟩ (Array.mem_of_getElem? (i := 0) rfl) rfl
            have q40 : a'.tmps[40]? = some (val 4) := hS.tmpSet 4 _ 40 rfl rfl (by simp) l4
            have h4 : PhS (.val (.slice va vn vc)) (val 4) W := hF 4 l4 rfl
            rw [show val 4 = .slice va vn vc from h4] at q40
            refine op_valv (.int .i64 (vn : Int)) W (fun _ _ => trivial) ?_ ⟨Below.refl _ _, rfl⟩
            rw [Oper.semAt_plain _ _ _ (by intro c h; cases h)]
            simp [execOp, q40, go_sem]
          · cases ho
            refine opG_plain rfl rfl ?_
            have l2 : listed.getD 2 false = true := haf ⟨2, .data⟩ (Array.mem_of_getElem? (i := 0) rfl) rfl
            have q38 : a'.tmps[38]? = some (val 2) := hS.tmpSet 2 _ 38 rfl rfl (by simp) l2
            have h2 : PhS (.val (.int .i64 (-x))) (val 2) W := hF 2 l2 rfl
            rw [show val 2 = .int .i64 (-x) from h2] at q38
            have l5 : listed.getD 5 false = true := haf ⟨5, .data⟩ (Array.mem_of_getElem? (i := 1) rfl) rfl
            have q41 : a'.tmps[41]? = some (val 5) := hS.tmpSet 5 _ 41 rfl rfl (by simp) l5
            have h5 : PhS (.val (.int .i64 (vn : Int))) (val 5) W := hF 5 l5 rfl
            rw [show val 5 = .int .i64 (vn : Int) from h5] at q41
            refine op_valv (.int .i64 (r : Int)) W (fun _ _ => trivial) ?_ ⟨Below.refl _ _, rfl⟩
            rw [Oper.semAt_plain _ _ _ (by intro c h; cases h)]
            simp [execOp, q38, q41, hwr2, go_sem]
          · cases ho
            refine opG_plain rfl rfl ?_
            have l0 : listed.getD 0 false = true := haf ⟨0, .data⟩ (Array.mem_of_getElem? (i := 0) rfl) rfl
            have q36 : a'.tmps[36]? = some (val 0) := hS.tmpSet 0 _ 36 rfl rfl (by simp) l0
            have h0 : PhS (.val (.agg #[.bool aL, .bool aR, .slice sa sn sc, .bool bL, .bool bR, .slice ta tn tc])) (val 0) W := hF 0 l0 rfl
            rw [show val 0 = .agg #[.bool aL, .bool aR, .slice sa sn sc, .bool bL, .bool bR, .slice ta tn tc] from h0] at q36
            have l6 : listed.getD 6 false = true := haf ⟨6, .data⟩ (Array.mem_of_getElem? (i := 1) rfl) rfl
            have q42 : a'.tmps[42]? = some (val 6) := hS.tmpSet 6 _ 42 rfl rfl (by simp) l6
            have h6 : PhS (.val (.int .i64 (r : Int))) (val 6) W := hF 6 l6 rfl
            rw [show val 6 = .int .i64 (r : Int) from h6] at q42
            refine op_callv 80 #[.agg #[.bool aL, .bool aR, .slice sa sn sc, .bool bL, .bool bR, .slice ta tn tc], .int .i64 (r : Int)] (fun _ _ => trivial) ?_ (by omega) ((callsIn_wide.2 (HFL.out W hIW.1.1)).mono ?_)
            · rw [Oper.semAt_plain _ _ _ (by intro c h; cases h)]
              simp [execOp, q36, q42, go_sem]
            · rintro e W2 ⟨ya, yn, yc, rfl, hk, hb⟩
              exact ⟨_, rfl, hb, ya, yn, yc, rfl, hk⟩
          · cases ho
            refine opG_plain rfl rfl ?_
            have q6 : a'.tmps[6]? = some (.pointer (some ⟨w4.heap.size, 0, none⟩)) := (hS.tmpBase 6 (by kernel_rfl)).trans rfl
            have hr := hIW.1.2.2 _ (List.mem_of_getElem? (i := 1) rfl)
            obtain ⟨z0, z1, z2, -, -, -⟩ := srow3 hr
            refine op_valv (.agg #[.bool true, .bool bR, .slice va vn vc]) W (fun _ _ => trivial) ?_ ⟨Below.refl _ _, va, vn, vc, rfl, hIW.2⟩
            rw [Oper.semAt_plain _ _ _ (by intro c h; cases h)]
            simp [execOp, q6, z0, z1, z2, go_sem]
          · cases ho
            refine opG_plain rfl rfl ?_
            have l7 : listed.getD 7 false = true := haf ⟨7, .data⟩ (Array.mem_of_getElem? (i := 0) rfl) rfl
            have q43 : a'.tmps[43]? = some (val 7) := hS.tmpSet 7 _ 43 rfl rfl (by simp) l7
            have h7 : PhS (.sl ((fun s => .agg #[.bool true, .bool bR, s])) (Fl)) (val 7) W := hF 7 l7 rfl
            obtain ⟨va7, vn7, vc7, e7, hk7⟩ := h7
            rw [e7] at q43
            have l8 : listed.getD 8 false = true := haf ⟨8, .data⟩ (Array.mem_of_getElem? (i := 1) rfl) rfl
            have q44 : a'.tmps[44]? = some (val 8) := hS.tmpSet 8 _ 44 rfl rfl (by simp) l8
            have h8 : PhS (.sl ((fun s => .agg #[.bool true, .bool bR, s])) (Tk)) (val 8) W := hF 8 l8 rfl
            obtain ⟨va8, vn8, vc8, e8, hk8⟩ := h8
            rw [e8] at q44
            refine op_valv (.slice (some ⟨W.heap.size, 0, none⟩) 2 2) (W.alloc (.cells #[.bool true, .bool bR, .slice va7 vn7 vc7, .bool true, .bool bR, .slice va8 vn8 vc8] 24)) (fun _ _ => trivial) ?_ ⟨(Below.refl _ _).alloc (Nat.le_refl _) _, W.heap.size, rfl, jat_two (a := ⟨true, bR, Fl⟩) (b := ⟨true, bR, Tk⟩) hk7 hk8⟩
            rw [Oper.semAt_plain _ _ _ (by intro c h; cases h)]
            simp [execOp, q43, q44, go_sem]
          · cases ho
            refine opG_plain rfl rfl ?_
            have l9 : listed.getD 9 false = true := haf ⟨9, .data⟩ (Array.mem_of_getElem? (i := 0) rfl) rfl
            have q45 : a'.tmps[45]? = some (val 9) := hS.tmpSet 9 _ 45 rfl rfl (by simp) l9
            have h9 : PhS (.jat [⟨true, bR, Fl⟩, ⟨true, bR, Tk⟩]) (val 9) W := hF 9 l9 (by kernel_rfl)
            obtain ⟨b9, e9, hk9⟩ := h9
            rw [e9] at q45
            refine op_callv 75 #[.slice (some ⟨b9, 0, none⟩) 2 2] (fun _ _ => trivial) ?_ (by omega) ((callsIn_wide.2 (join_at b9 _ _ bR W hk9 (by simpa [Nat.add_comm] using hll))).mono ?_)
            · rw [Oper.semAt_plain _ _ _ (by intro c h; cases h)]
              simp [execOp, q45, go_sem]
            · rintro e W2 ⟨ya, yn, yc, rfl, hk, hb⟩
              exact ⟨_, rfl, hb, ya, yn, yc, rfl, hk⟩
          · exact absurd (by decide) hnz
          · cases ho
            refine opG_plain rfl rfl ?_
            refine op_valv (.nilIface) W (fun _ _ => trivial) ?_ ⟨Below.refl _ _, rfl⟩
            rw [Oper.semAt_plain _ _ _ (by intro c h; cases h)]
            simp [execOp, go_sem]
        · intro z oo listed a' W val hz ho haf hS hIW hF hO
          have hz' : z = 11 := by simpa using hz
          obtain rfl := hz'
          · cases ho
            refine opG_plain rfl rfl ?_
            have q2 : a'.tmps[2]? = some (.pointer (some ⟨w.heap.size + 1, 0, none⟩)) := (hS.tmpBase 2 (by kernel_rfl)).trans rfl
            have l10 : listed.getD 10 false = true := haf ⟨10, .data⟩ (Array.mem_of_getElem? (i := 0) rfl) rfl
            have q46 : a'.tmps[46]? = some (val 10) := hS.tmpSet 10 _ 46 rfl rfl (by simp) l10
            have h10 : PhS (.sl ((fun s => .agg #[.bool true, .bool bR, s])) (Fl ++ Tk)) (val 10) W := hF 10 l10 rfl
            obtain ⟨va10, vn10, vc10, e10, hk10⟩ := h10
            rw [e10] at q46
            obtain ⟨hle, hbx⟩ := hIW.1.2.1 (w.heap.size + 1) (by simp)
            have hbx' := hbx
            obtain ⟨x', y', a0', n', c', hr⟩ := hbx'
            obtain ⟨d0, d1, d2, f0, f1, f2⟩ := srow3 hr
            refine op_skipv (set3 W (w.heap.size + 1) (.bool true) (.bool bR) (.slice va10 vn10 vc10)) (fun _ _ => trivial) ?_ ⟨IK.put hIW hle hbx (fun r hr => by simp only [List.mem_cons, List.not_mem_nil, or_false] at hr; rcases hr with rfl | rfl <;> (dsimp only; omega)) _ _ _ _ _, trivial, fun j hj hk => PhS.put hbx _ _ _ hk (hF j hj hk), (show StS (.pointer (some ⟨w.heap.size + 1, 0, none⟩)) (val 10) _ from by rw [e10]; exact StS.of hbx _ _ _), fun y hy _ hne => absurd (by simpa using hy) hne⟩
            rw [Oper.semAt_plain _ _ _ (by intro c h; cases h)]
            simp [execOp, q2, q46, d0, d1, d2, f0, f1, f2, go_sem]
        · intro W9 val hIW hF hST
          have e0 : val 0 = .agg #[.bool aL, .bool aR, .slice sa sn sc, .bool bL, .bool bR, .slice ta tn tc] := hF 0 (by decide) rfl
          have e1 : val 1 = .int .i64 x := hF 1 (by decide) rfl
          have e2 : val 2 = .int .i64 (-x) := hF 2 (by decide) rfl
          have e3 : val 3 = .pointer (some ⟨w4.heap.size, 2, none⟩) := hF 3 (by decide) rfl
          have e4 : val 4 = .slice va vn vc := hF 4 (by decide) rfl
          have e5 : val 5 = .int .i64 (vn : Int) := hF 5 (by decide) rfl
          have e6 : val 6 = .int .i64 (r : Int) := hF 6 (by decide) rfl
          obtain ⟨va7, vn7, vc7, e7, hk7⟩ : PhS (.sl ((fun s => .agg #[.bool true, .bool bR, s])) (Fl)) (val 7) W9 := hF 7 (by decide) rfl
          obtain ⟨va8, vn8, vc8, e8, hk8⟩ : PhS (.sl ((fun s => .agg #[.bool true, .bool bR, s])) (Tk)) (val 8) W9 := hF 8 (by decide) rfl
          obtain ⟨va10, vn10, vc10, e10, hk10⟩ : PhS (.sl ((fun s => .agg #[.bool true, .bool bR, s])) (Fl ++ Tk)) (val 10) W9 := hF 10 (by decide) rfl
          have e12 : val 12 = .nilIface := hF 12 (by decide) rfl
          have hst11 := (show StS (.pointer (some ⟨w.heap.size + 1, 0, none⟩)) (val 10) W9 from hST 11 (by simp)) _ _ _ _ rfl e10
          simp only [finAct, List.getElem?_toArray, List.getElem?_cons_zero, List.getElem?_cons_succ, Act.put, List.setIfInBounds_toArray, List.set_cons_zero, List.set_cons_succ, List.size_toArray, List.length_cons, List.length_nil, Nat.reduceAdd]
          simp only [e0, e1, e2, e3, e4, e5, e6, e7, e8, e10, e12]
          obtain ⟨p0, p1, p2, -, -, -⟩ := srow3 hst11
          have hbw := hIW.1.1
          clear hF hST hst11 hIW
          go_wp2
          refine bodyPost_ret (v := .tuple #[.agg #[.bool true, .bool bR, .slice va10 vn10 vc10], .nilIface]) (by simp [results, Tryz.f56, go_sem, p0, p1, p2]) rfl ⟨hbw, .inl ⟨HC0.out, .slice va10 vn10 vc10, by rw [HRA.out], by rw [HRA.out]; show KL _ _ (takeL (numV ⟨aL, aR, aN⟩) bR bN); rw [← HX.out, HTL.out]; exact hk10⟩⟩
      · have hx1 := h1
        go_enter Tryz.func56, Tryz.ntmps56
        go_wp2_with (first
          | (go_at_call 78; refine HN.out.mono ?_; rintro e w3 ⟨hb, ⟨_, rfl⟩ | ⟨h, _⟩⟩; rotate_left; exact absurd h0 h; have HB3 := Lib.hid hb; clear hb; obtain ⟨kw30, kw31, kw32, kw33, kw34, kw35⟩ := srow6 (HP.out w3 HB3.out).1; obtain ⟨dw30, dw31, dw32, fw30, fw31, fw32⟩ := srow3 (HP.out w3 HB3.out).2.1; skip)
          | (go_at_call 79; refine (cut_c ⟨aL, aR, aN⟩ ⟨bL, bR, bN⟩ (.slice sa sn sc) (.slice ta tn tc) x w3 (HK.out w3 HB3.out).1 (HK.out w3 HB3.out).2 HLB.out HIX.out).mono ?_; rintro e w4 ⟨va, vn, vc, ua, un, uc, rfl, hk1, hk2, hb⟩; have HB4 := Lib.hid (HB3.out.trans (hb.mono HB3.out.size)); have HK1 := Lib.hid hk1; have HK2 := Lib.hid hk2; clear hk1 hk2 hb; obtain ⟨w5, hw5⟩ : ∃ w5, w5 = (w4.alloc (.cells #[.bool true, .bool bR, .slice va vn vc] 24)).alloc (.cells #[.bool true, .bool bR, .slice ua un uc] 24) := ⟨_, rfl⟩; obtain ⟨h45, hs5⟩ := two_facts hw5; have r5 : Row w5 w4.heap.size 24 #[.bool true, .bool bR, .slice va vn vc] := (by rw [hw5]; exact (Row.new _ _ _).alloc _); have HB5 := Lib.hid (HB4.out.trans (h45.mono HB4.out.size)); have HW5 := Lib.hid hw5; have HK15 := Lib.hid (HK1.out.below h45); have HR5 := Lib.hid r5; clear h45 hs5 r5 hw5; skip))
        rw [← HW5.out]
        obtain ⟨q, hq⟩ : ∃ q : Nat, q = (tkL x bN).length := ⟨_, rfl⟩
        have hvn : vn = q := by obtain ⟨_, _, e, _, _⟩ := HK15.out.form; injection e with _ e _; rw [e, hq]
        subst hvn
        have hql : (vn : Int) ≤ x := by
          rw [hq]
          unfold tkL
          rw [if_neg (by omega), List.length_take]
          omega
        obtain ⟨r, hr⟩ : ∃ r : Nat, r = (x).toNat - vn := ⟨_, rfl⟩
        have er : x - (vn : Int) = (r : Int) := by omega
        have hr2 : r ≤ 200 := by omega
        have hwr2 : IntKind.i64.wrap (x - (vn : Int)) = (r : Int) := by rw [IntKind.wrap_i64]; omega
        have HFL : Hid (∀ W, Below w.heap.size w W → Calls Tryz.prog 80 #[.agg #[.bool aL, .bool aR, .slice sa sn sc, .bool bL, .bool bR, .slice ta tn tc], .int .i64 (r : Int)] W fun e w' => ∃ va vn vc, e = .returned (.agg #[.bool true, .bool bR, .slice va vn vc]) ∧ KL w' (.slice va vn vc) (List.replicate r (fillN bR)) ∧ Below W.heap.size W w') := Lib.hid (fun W h => fills_c ⟨aL, aR, aN⟩ ⟨bL, bR, bN⟩ (.slice sa sn sc) (.slice ta tn tc) r W (HKW.out W h).1 (HKW.out W h).2 (by omega))
        obtain ⟨Fl, hFl⟩ : ∃ L, L = List.replicate r (fillN bR) := ⟨_, rfl⟩
        obtain ⟨Tk, hTk⟩ : ∃ L, L = tkL x bN := ⟨_, rfl⟩
        have hll : Fl.length + Tk.length ≤ 1000 := by rw [hFl, hTk, List.length_replicate, ← hq]; omega
        have HTL : Hid (takeL x bR bN = Tk ++ Fl) := Lib.hid (by
          rw [hFl, hTk, hr, hq]
          unfold takeL
          rw [if_neg (by omega)]
          have e9 : (x).toNat - (tkL x bN).length = (x).toNat - bN.length := by
            unfold tkL
            rw [if_neg (by omega), List.length_take]
            omega
          rw [e9])
        rw [← hFl] at HFL
        rw [← hTk] at HK15
        have hib : IB w [w.heap.size + 1] [(w.heap.size, 64, #[.bool aL, .bool aR, .slice sa sn sc, .bool bL, .bool bR, .slice ta tn tc]), (w4.heap.size, 24, #[.bool true, .bool bR, .slice va vn vc])] w5 := ⟨(HP.out w5 HB5.out).2.2, fun h hh => by
          obtain rfl : h = w.heap.size + 1 := by simpa using hh
          exact ⟨by omega, _, _, _, _, _, (HP.out w5 HB5.out).2.1⟩, fun r hr => by
          simp only [List.mem_cons, List.not_mem_nil, or_false] at hr
          rcases hr with rfl | rfl
          · exact (HP.out w5 HB5.out).1
          · exact HR5.out⟩
        have HIB : Hid (IK w [w.heap.size + 1] [(w.heap.size, 64, #[.bool aL, .bool aR, .slice sa sn sc, .bool bL, .bool bR, .slice ta tn tc]), (w4.heap.size, 24, #[.bool true, .bool bR, .slice va vn vc])] (.slice va vn vc) Tk w5) := Lib.hid ⟨hib, HK15.out⟩
        have hz4 : w.heap.size + 1 + 1 ≤ w4.heap.size := by rw [← HS2.out]; exact HB4.out.size
        clear hib hq hFl hTk hr
        refine (wpIn_wide (n := 9)).1 ?_
        refine wpIn_region_putI (by kernel_rfl) (by kernel_rfl) [10] (fun z => if z = 10 then 9 else 0) (fun z => if z = 10 then 9 else 0) (fun j => keepK ([.sl ((fun s => .agg #[.bool true, .bool bR, s])) (Tk), .val (.agg #[.bool aL, .bool aR, .slice sa sn sc, .bool bL, .bool bR, .slice ta tn tc]), .val (.int .i64 x), .val (.pointer (some ⟨w4.heap.size, 2, none⟩)), .val (.slice va vn vc), .val (.int .i64 (vn : Int)), .val (.int .i64 (r : Int)), .sl ((fun s => .agg #[.bool true, .bool bR, s])) (Fl), .jat [⟨true, bR, Tk⟩, ⟨true, bR, Fl⟩], .sl ((fun s => .agg #[.bool true, .bool bR, s])) (Tk ++ Fl), .any, .val (.nilIface)].getD j .any)) (by decide) (IK w [w.heap.size + 1] [(w.heap.size, 64, #[.bool aL, .bool aR, .slice sa sn sc, .bool bL, .bool bR, .slice ta tn tc]), (w4.heap.size, 24, #[.bool true, .bool bR, .slice va vn vc])] (.slice va vn vc) Tk) (fun i => PhS ([.sl ((fun s => .agg #[.bool true, .bool bR, s])) (Tk), .val (.agg #[.bool aL, .bool aR, .slice sa sn sc, .bool bL, .bool bR, .slice ta tn tc]), .val (.int .i64 x), .val (.pointer (some ⟨w4.heap.size, 2, none⟩)), .val (.slice va vn vc), .val (.int .i64 (vn : Int)), .val (.int .i64 (r : Int)), .sl ((fun s => .agg #[.bool true, .bool bR, s])) (Fl), .jat [⟨true, bR, Tk⟩, ⟨true, bR, Fl⟩], .sl ((fun s => .agg #[.bool true, .bool bR, s])) (Tk ++ Fl), .any, .val (.nilIface)].getD i .any)) (fun z u v => StS (.pointer (some ⟨w.heap.size + 1, 0, none⟩)) v) (fun W W' hb h => h.below hb) (fun i v W W' hb h => PhS.below hb h) (fun i u v W W' hb h => StS.below hb h) (HIB.out.below (Below.refl _ _).drew) ?_ ?_ ?_
        · intro i oo listed a' W val ho hi hnz haf hS hIW hF
          have hi' : i < 12 := hi
          obtain rfl | rfl | rfl | rfl | rfl | rfl | rfl | rfl | rfl | rfl | rfl | rfl : i = 0 ∨ i = 1 ∨ i = 2 ∨ i = 3 ∨ i = 4 ∨ i = 5 ∨ i = 6 ∨ i = 7 ∨ i = 8 ∨ i = 9 ∨ i = 10 ∨ i = 11 := by omega
          · cases ho
            refine opG_plain rfl rfl ?_
            have q6 : a'.tmps[6]? = some (.pointer (some ⟨w4.heap.size, 0, none⟩)) := (hS.tmpBase 6 (by kernel_rfl)).trans rfl
            have hr := hIW.1.2.2 _ (List.mem_of_getElem? (i := 1) rfl)
            obtain ⟨z0, z1, z2, -, -, -⟩ := srow3 hr
            refine op_valv (.agg #[.bool true, .bool bR, .slice va vn vc]) W (fun _ _ => trivial) ?_ ⟨Below.refl _ _, va, vn, vc, rfl, hIW.2⟩
            rw [Oper.semAt_plain _ _ _ (by intro c h; cases h)]
            simp [execOp, q6, z0, z1, z2, go_sem]
          · cases ho
            refine opG_plain rfl rfl ?_
            have q1 : a'.tmps[1]? = some (.pointer (some ⟨w.heap.size, 0, none⟩)) := (hS.tmpBase 1 (by kernel_rfl)).trans rfl
            have hr := hIW.1.2.2 _ (List.mem_of_getElem? (i := 0) rfl)
            obtain ⟨z0, z1, z2, z3, z4, z5⟩ := srow6 hr
            refine op_valv (.agg #[.bool aL, .bool aR, .slice sa sn sc, .bool bL, .bool bR, .slice ta tn tc]) W (fun _ _ => trivial) ?_ ⟨Below.refl _ _, rfl⟩
            rw [Oper.semAt_plain _ _ _ (by intro c h; cases h)]
            simp [execOp, q1, z0, z1, z2, z3, z4, z5, go_sem]
          · cases ho
            refine opG_plain rfl rfl ?_
            have q4 : a'.tmps[4]? = some (.int .i64 x) := (hS.tmpBase 4 (by kernel_rfl)).trans rfl
            refine op_valv (.int .i64 x) W (fun _ _ => trivial) ?_ ⟨Below.refl _ _, rfl⟩
            rw [Oper.semAt_plain _ _ _ (by intro c h; cases h)]
            simp [execOp, q4, go_sem]
          · cases ho
            refine opG_plain rfl rfl ?_
            have q6 : a'.tmps[6]? = some (.pointer (some ⟨w4.heap.size, 0, none⟩)) := (hS.tmpBase 6 (by kernel_rfl)).trans rfl
            refine op_valv (.pointer (some ⟨w4.heap.size, 2, none⟩)) W (fun _ _ => trivial) ?_ ⟨Below.refl _ _, rfl⟩
            rw [Oper.semAt_plain _ _ _ (by intro c h; cases h)]
            simp [execOp, q6, go_sem]
          · cases ho
            refine opG_plain rfl rfl ?_
            have l3 : listed.getD 3 false = true := haf ⟨3, .data⟩ (Array.mem_of_getElem? (i := 0) rfl) rfl
            have q50 : a'.tmps[50]? = some (val 3) := hS.tmpSet 3 _ 50 rfl rfl (by simp) l3
            have h3 : PhS (.val (.pointer (some ⟨w4.heap.size, 2, none⟩))) (val 3) W := hF 3 l3 rfl
            rw [show val 3 = .pointer (some ⟨w4.heap.size, 2, none⟩) from h3] at q50
            have hr := hIW.1.2.2 _ (List.mem_of_getElem? (i := 1) rfl)
            obtain ⟨z0, z1, z2, -, -, -⟩ := srow3 hr
            refine op_valv (.slice va vn vc) W (fun _ _ => trivial) ?_ ⟨Below.refl _ _, rfl⟩
            rw [Oper.semAt_plain _ _ _ (by intro c h; cases h)]
            simp [execOp, q50, z2, go_sem]
          · cases ho
            refine opG_plain rfl rfl ?_
            have l4 : listed.getD 4 false = true := haf ⟨4, .data⟩ (Array.mem_of_getElem? (i := 0) rfl) rfl
            have q51 : a'.tmps[51]? = some (val 4) := hS.tmpSet 4 _ 51 rfl rfl (by simp) l4
            have h4 : PhS (.val (.slice va vn vc)) (val 4) W := hF 4 l4 rfl
            rw [show val 4 = .slice va vn vc from h4] at q51
            refine op_valv (.int .i64 (vn : Int)) W (fun _ _ => trivial) ?_ ⟨Below.refl _ _, rfl⟩
            rw [Oper.semAt_plain _ _ _ (by intro c h; cases h)]
            simp [execOp, q51, go_sem]
          · cases ho
            refine opG_plain rfl rfl ?_
            have l2 : listed.getD 2 false = true := haf ⟨2, .data⟩ (Array.mem_of_getElem? (i := 0) rfl) rfl
            have q49 : a'.tmps[49]? = some (val 2) := hS.tmpSet 2 _ 49 rfl rfl (by simp) l2
            have h2 : PhS (.val (.int .i64 x)) (val 2) W := hF 2 l2 rfl
            rw [show val 2 = .int .i64 x from h2] at q49
            have l5 : listed.getD 5 false = true := haf ⟨5, .data⟩ (Array.mem_of_getElem? (i := 1) rfl) rfl
            have q52 : a'.tmps[52]? = some (val 5) := hS.tmpSet 5 _ 52 rfl rfl (by simp) l5
            have h5 : PhS (.val (.int .i64 (vn : Int))) (val 5) W := hF 5 l5 rfl
            rw [show val 5 = .int .i64 (vn : Int) from h5] at q52
            refine op_valv (.int .i64 (r : Int)) W (fun _ _ => trivial) ?_ ⟨Below.refl _ _, rfl⟩
            rw [Oper.semAt_plain _ _ _ (by intro c h; cases h)]
            simp [execOp, q49, q52, hwr2, go_sem]
          · cases ho
            refine opG_plain rfl rfl ?_
            have l1 : listed.getD 1 false = true := haf ⟨1, .data⟩ (Array.mem_of_getElem? (i := 0) rfl) rfl
            have q48 : a'.tmps[48]? = some (val 1) := hS.tmpSet 1 _ 48 rfl rfl (by simp) l1
            have h1 : PhS (.val (.agg #[.bool aL, .bool aR, .slice sa sn sc, .bool bL, .bool bR, .slice ta tn tc])) (val 1) W := hF 1 l1 rfl
            rw [show val 1 = .agg #[.bool aL, .bool aR, .slice sa sn sc, .bool bL, .bool bR, .slice ta tn tc] from h1] at q48
            have l6 : listed.getD 6 false = true := haf ⟨6, .data⟩ (Array.mem_of_getElem? (i := 1) rfl) rfl
            have q53 : a'.tmps[53]? = some (val 6) := hS.tmpSet 6 _ 53 rfl rfl (by simp) l6
            have h6 : PhS (.val (.int .i64 (r : Int))) (val 6) W := hF 6 l6 rfl
            rw [show val 6 = .int .i64 (r : Int) from h6] at q53
            refine op_callv 80 #[.agg #[.bool aL, .bool aR, .slice sa sn sc, .bool bL, .bool bR, .slice ta tn tc], .int .i64 (r : Int)] (fun _ _ => trivial) ?_ (by omega) ((callsIn_wide.2 (HFL.out W hIW.1.1)).mono ?_)
            · rw [Oper.semAt_plain _ _ _ (by intro c h; cases h)]
              simp [execOp, q48, q53, go_sem]
            · rintro e W2 ⟨ya, yn, yc, rfl, hk, hb⟩
              exact ⟨_, rfl, hb, ya, yn, yc, rfl, hk⟩
          · cases ho
            refine opG_plain rfl rfl ?_
            have l0 : listed.getD 0 false = true := haf ⟨0, .data⟩ (Array.mem_of_getElem? (i := 0) rfl) rfl
            have q47 : a'.tmps[47]? = some (val 0) := hS.tmpSet 0 _ 47 rfl rfl (by simp) l0
            have h0 : PhS (.sl ((fun s => .agg #[.bool true, .bool bR, s])) (Tk)) (val 0) W := hF 0 l0 rfl
            obtain ⟨va0, vn0, vc0, e0, hk0⟩ := h0
            rw [e0] at q47
            have l7 : listed.getD 7 false = true := haf ⟨7, .data⟩ (Array.mem_of_getElem? (i := 1) rfl) rfl
            have q54 : a'.tmps[54]? = some (val 7) := hS.tmpSet 7 _ 54 rfl rfl (by simp) l7
            have h7 : PhS (.sl ((fun s => .agg #[.bool true, .bool bR, s])) (Fl)) (val 7) W := hF 7 l7 rfl
            obtain ⟨va7, vn7, vc7, e7, hk7⟩ := h7
            rw [e7] at q54
            refine op_valv (.slice (some ⟨W.heap.size, 0, none⟩) 2 2) (W.alloc (.cells #[.bool true, .bool bR, .slice va0 vn0 vc0, .bool true, .bool bR, .slice va7 vn7 vc7] 24)) (fun _ _ => trivial) ?_ ⟨(Below.refl _ _).alloc (Nat.le_refl _) _, W.heap.size, rfl, jat_two (a := ⟨true, bR, Tk⟩) (b := ⟨true, bR, Fl⟩) hk0 hk7⟩
            rw [Oper.semAt_plain _ _ _ (by intro c h; cases h)]
            simp [execOp, q47, q54, go_sem]
          · cases ho
            refine opG_plain rfl rfl ?_
            have l8 : listed.getD 8 false = true := haf ⟨8, .data⟩ (Array.mem_of_getElem? (i := 0) rfl) rfl
            have q55 : a'.tmps[55]? = some (val 8) := hS.tmpSet 8 _ 55 rfl rfl (by simp) l8
            have h8 : PhS (.jat [⟨true, bR, Tk⟩, ⟨true, bR, Fl⟩]) (val 8) W := hF 8 l8 (by kernel_rfl)
            obtain ⟨b8, e8, hk8⟩ := h8
            rw [e8] at q55
            refine op_callv 75 #[.slice (some ⟨b8, 0, none⟩) 2 2] (fun _ _ => trivial) ?_ (by omega) ((callsIn_wide.2 (join_at b8 _ _ bR W hk8 (by simpa [Nat.add_comm] using hll))).mono ?_)
            · rw [Oper.semAt_plain _ _ _ (by intro c h; cases h)]
              simp [execOp, q55, go_sem]
            · rintro e W2 ⟨ya, yn, yc, rfl, hk, hb⟩
              exact ⟨_, rfl, hb, ya, yn, yc, rfl, hk⟩
          · exact absurd (by decide) hnz
          · cases ho
            refine opG_plain rfl rfl ?_
            refine op_valv (.nilIface) W (fun _ _ => trivial) ?_ ⟨Below.refl _ _, rfl⟩
            rw [Oper.semAt_plain _ _ _ (by intro c h; cases h)]
            simp [execOp, go_sem]
        · intro z oo listed a' W val hz ho haf hS hIW hF hO
          have hz' : z = 10 := by simpa using hz
          obtain rfl := hz'
          · cases ho
            refine opG_plain rfl rfl ?_
            have q2 : a'.tmps[2]? = some (.pointer (some ⟨w.heap.size + 1, 0, none⟩)) := (hS.tmpBase 2 (by kernel_rfl)).trans rfl
            have l9 : listed.getD 9 false = true := haf ⟨9, .data⟩ (Array.mem_of_getElem? (i := 0) rfl) rfl
            have q56 : a'.tmps[56]? = some (val 9) := hS.tmpSet 9 _ 56 rfl rfl (by simp) l9
            have h9 : PhS (.sl ((fun s => .agg #[.bool true, .bool bR, s])) (Tk ++ Fl)) (val 9) W := hF 9 l9 rfl
            obtain ⟨va9, vn9, vc9, e9, hk9⟩ := h9
            rw [e9] at q56
            obtain ⟨hle, hbx⟩ := hIW.1.2.1 (w.heap.size + 1) (by simp)
            have hbx' := hbx
            obtain ⟨x', y', a0', n', c', hr⟩ := hbx'
            obtain ⟨d0, d1, d2, f0, f1, f2⟩ := srow3 hr
            refine op_skipv (set3 W (w.heap.size + 1) (.bool true) (.bool bR) (.slice va9 vn9 vc9)) (fun _ _ => trivial) ?_ ⟨IK.put hIW hle hbx (fun r hr => by simp only [List.mem_cons, List.not_mem_nil, or_false] at hr; rcases hr with rfl | rfl <;> (dsimp only; omega)) _ _ _ _ _, trivial, fun j hj hk => PhS.put hbx _ _ _ hk (hF j hj hk), (show StS (.pointer (some ⟨w.heap.size + 1, 0, none⟩)) (val 9) _ from by rw [e9]; exact StS.of hbx _ _ _), fun y hy _ hne => absurd (by simpa using hy) hne⟩
            rw [Oper.semAt_plain _ _ _ (by intro c h; cases h)]
            simp [execOp, q2, q56, d0, d1, d2, f0, f1, f2, go_sem]
        · intro W9 val hIW hF hST
          obtain ⟨va0, vn0, vc0, e0, hk0⟩ : PhS (.sl ((fun s => .agg #[.bool true, .bool bR, s])) (Tk)) (val 0) W9 := hF 0 (by decide) rfl
          have e1 : val 1 = .agg #[.bool aL, .bool aR, .slice sa sn sc, .bool bL, .bool bR, .slice ta tn tc] := hF 1 (by decide) rfl
          have e2 : val 2 = .int .i64 x := hF 2 (by decide) rfl
          have e3 : val 3 = .pointer (some ⟨w4.heap.size, 2, none⟩) := hF 3 (by decide) rfl
          have e4 : val 4 = .slice va vn vc := hF 4 (by decide) rfl
          have e5 : val 5 = .int .i64 (vn : Int) := hF 5 (by decide) rfl
          have e6 : val 6 = .int .i64 (r : Int) := hF 6 (by decide) rfl
          obtain ⟨va7, vn7, vc7, e7, hk7⟩ : PhS (.sl ((fun s => .agg #[.bool true, .bool bR, s])) (Fl)) (val 7) W9 := hF 7 (by decide) rfl
          obtain ⟨va9, vn9, vc9, e9, hk9⟩ : PhS (.sl ((fun s => .agg #[.bool true, .bool bR, s])) (Tk ++ Fl)) (val 9) W9 := hF 9 (by decide) rfl
          have e11 : val 11 = .nilIface := hF 11 (by decide) rfl
          have hst10 := (show StS (.pointer (some ⟨w.heap.size + 1, 0, none⟩)) (val 9) W9 from hST 10 (by simp)) _ _ _ _ rfl e9
          simp only [finAct, List.getElem?_toArray, List.getElem?_cons_zero, List.getElem?_cons_succ, Act.put, List.setIfInBounds_toArray, List.set_cons_zero, List.set_cons_succ, List.size_toArray, List.length_cons, List.length_nil, Nat.reduceAdd]
          simp only [e0, e1, e2, e3, e4, e5, e6, e7, e9, e11]
          obtain ⟨p0, p1, p2, -, -, -⟩ := srow3 hst10
          have hbw := hIW.1.1
          clear hF hST hst10 hIW
          go_wp2
          refine bodyPost_ret (v := .tuple #[.agg #[.bool true, .bool bR, .slice va9 vn9 vc9], .nilIface]) (by simp [results, Tryz.f56, go_sem, p0, p1, p2]) rfl ⟨hbw, .inl ⟨HC0.out, .slice va9 vn9 vc9, by rw [HRA.out], by rw [HRA.out]; show KL _ _ (takeL (numV ⟨aL, aR, aN⟩) bR bN); rw [← HX.out, HTL.out]; exact hk9⟩⟩
  · have HC9 : Hid (cE = cC) := Lib.hid (by rw [HCE2.out, if_neg h0])
    go_enter Tryz.func56, Tryz.ntmps56
    go_wp2_with (go_at_call 78; refine HN.out.mono ?_; rintro e w3 ⟨hb, ⟨h, _⟩ | ⟨_, rfl⟩⟩; exact absurd h h0; have HB3 := Lib.hid hb; clear hb; obtain ⟨kw30, kw31, kw32, kw33, kw34, kw35⟩ := srow6 (HP.out w3 HB3.out).1; obtain ⟨dw30, dw31, dw32, fw30, fw31, fw32⟩ := srow3 (HP.out w3 HB3.out).2.1; skip)
    have hf := fin_of (HP.out w3 HB3.out).2.2 hle1 (HP.out w3 HB3.out).2.1 (.bool false) (.bool false) (.slice none 0 0)
    refine bodyPost_ret (v := .tuple #[.agg #[.bool false, .bool false, .slice none 0 0], sh_faultV (cC)]) (by simp [results, Tryz.f56, go_sem, hf.c0, hf.c1, hf.c2]) rfl ⟨hf.below, .inr ⟨by rw [HC9.out]; exact h0, by rw [HC9.out]⟩⟩
end Go.Proofs.YteclpoooggcdoaaGreatDoor.Ar
