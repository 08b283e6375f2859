/- The program: Right and Deep. -/
import Derived.Test.YtbegplfijjbpcaaDoorNqReach
import Derived.Test.YtbegplfijjbpcaaDoorNqA
namespace Go.Proofs.YtbegplfijjbpcaaDoor.No
open Go Go.RowKit Go.Shelf
attribute [local go_sem] Oper.semAt_some

/-- Right(t). -/
theorem pright_c (w : World) (v : Value) (T : List Nd) (hT : NL w v T) (hk : ∀ x ∈ T, x.kids.length ≤ 1000000) :
    Calls Tryd.prog 11 #[v] w fun e W' => e = .returned (.bool (rightB T)) ∧ Below w.heap.size w W' := by
  have HC := Lib.hid (check_c w v T hT hk)
  obtain ⟨a0, c0, rfl, _, _⟩ := hT.form
  clear hT hk
  go_enter Tryd.func11, Tryd.ntmps11
  go_wp2_with fail
  refine HC.out.mono ?_
  rintro e w1 ⟨hb1, ⟨hr, rfl⟩ | ⟨hr, a, s, rfl⟩⟩
  · have HR := Lib.hid hr
    have HB := Lib.hid hb1
    clear hb1 hr
    go_wp2
    go_ret
    exact ⟨by rw [HR.out]; rfl, HB.out⟩
  · have HR := Lib.hid hr
    have HB := Lib.hid hb1
    clear hb1 hr
    unfold wrongV
    go_wp2
    go_ret
    exact ⟨by rw [HR.out]; rfl, HB.out⟩
/-- What each operation has told. -/
def FD (SL : Value) (T : List Nd) (n D : Nat) : Nat → Value → World → Prop
  | 0, v, _ => v = .agg #[SL]
  | 1, v, W => ∃ q cap, v = .slice (some ⟨q, 0, none⟩) n cap ∧ W.ownsRow 0 57 3 (.slice (some ⟨q, 0, none⟩) n cap) n (cellsR T n)
  | 2, v, _ => v = .agg #[SL]
  | 3, v, _ => v = .int .i64 ((n : Int) - 1)
  | 4, v, W => ∃ q, v = .pointer (some ⟨q, (n - 1) * 3, none⟩) ∧ q < W.heap.size ∧ W.cell? ⟨q, (n - 1) * 3, none⟩ = some (.int .i64 (D : Int))
  | 5, v, W => ∃ q, v = .pointer (some ⟨q, (n - 1) * 3, none⟩) ∧ q < W.heap.size ∧ W.cell? ⟨q, (n - 1) * 3, none⟩ = some (.int .i64 (D : Int))
  | 6, v, _ => v = .int .i64 (D : Int)
  | 7, v, _ => v = .int .i64 (D : Int)
  | _, _, _ => True
theorem FD.below {SL : Value} {T : List Nd} {n D : Nat} {v : Value} {W W' : World} (hb : Below W.heap.size W W') : ∀ i, FD SL T n D i v W → FD SL T n D i v W'
  | 0, h => h
  | 1, ⟨q, c, h1, h2⟩ => ⟨q, c, h1, own_kept h2 hb⟩
  | 2, h => h
  | 3, h => h
  | 4, ⟨q, h1, h2, h3⟩ => ⟨q, h1, Nat.lt_of_lt_of_le h2 hb.size, (hb.cell (p := ⟨q, (n - 1) * 3, none⟩) h2).trans h3⟩
  | 5, ⟨q, h1, h2, h3⟩ => ⟨q, h1, Nat.lt_of_lt_of_le h2 hb.size, (hb.cell (p := ⟨q, (n - 1) * 3, none⟩) h2).trans h3⟩
  | 6, h => h
  | 7, h => h
  | _ + 8, _ => trivial

set_option maxRecDepth 100000 in
set_option maxHeartbeats 8000000 in
/-- Deep(t). -/
theorem pdeep_c (w : World) (v : Value) (T : List Nd) (hT : NL w v T) (hk : ∀ x ∈ T, x.kids.length ≤ 1000000) :
    Calls Tryd.prog 15 #[v] w fun e W' => e = .returned (.int .i64 ((deepA T : Nat) : Int)) ∧ Below w.heap.size w W' := by
  obtain ⟨a0, c0, rfl, hc1, hc2⟩ := hT.form
  obtain ⟨n, hn⟩ : ∃ n, n = T.length := ⟨_, rfl⟩
  rw [← hn] at hc1 hT ⊢
  unfold maxLen at hc2
  obtain ⟨W1, hW1⟩ : ∃ W, W = w.alloc (.cells #[.slice a0 n c0] 47) := ⟨_, rfl⟩
  have hb1 : Below w.heap.size w W1 := by rw [hW1]; exact (Below.refl _ w).alloc (Nat.le_refl _) _
  have r1 : Row W1 w.heap.size 47 #[.slice a0 n c0] := by rw [hW1]; exact Row.new _ _ _
  have HC := Lib.hid (check_c W1 (.slice a0 n c0) T (hT.below hb1) hk)
  have HT := Lib.hid (hT.below hb1)
  have HN := Lib.hid hn
  have HB1 := Lib.hid hb1
  have HR1 := Lib.hid r1
  have HW1 := Lib.hid hW1
  clear hT hn hb1 r1 hW1 hk
  refine (callsIn_wide (n := 5)).1 ?_
  refine callsIn_of_wp Tryd.func15 rfl trivial ?_ rfl
  simp only [Tryd.ntmps15, List.size_toArray, List.length_cons, List.length_nil, Nat.reduceAdd, Nat.reduceSub, Array.replicate_succ, Array.replicate_zero, List.push_toArray, List.append_toArray, List.nil_append, List.cons_append]
  gi_wp2_with fail
  refine ⟨trivial, ?_⟩
  gi_at_call 28
  rw [← HW1.out]
  refine (callsIn_wide.2 HC.out).mono ?_
  rintro e w1 ⟨hb2, ⟨hr, rfl⟩ | ⟨hr, a, s, rfl⟩⟩
  · have hR := (right_iff T).1 hr
    have HTR := Lib.hid (HR1.out.below hb2 HR1.out.lt)
    have HT1 := Lib.hid (HT.out.below hb2)
    have HB2 := Lib.hid (HB1.out.trans (hb2.mono HB1.out.size))
    have hp := hR.pos
    rw [← HN.out] at hp
    obtain ⟨D, hD⟩ : ∃ D, D = val deepC 0 T (n - 1) := ⟨_, rfl⟩
    have HDA : Hid (deepA T = D) := Lib.hid (by rw [deep_right hR, hD, HN.out])
    have HCE : Hid ((cellsR T n)[(n - 1) * 3]? = some (.int .i64 (D : Int))) := Lib.hid (by
      have := cellsR_at T n (n - 1) 0 (by omega) (by omega)
      rw [Nat.add_zero] at this
      rw [this, hD]
      rfl)
    have HRE : Hid (∀ W, Below w1.heap.size w1 W → Calls Tryd.prog 33 #[.agg #[.slice a0 n c0]] W fun e W' => Below W.heap.size W W' ∧ ∃ q cap, e = .returned (.slice (some ⟨q, 0, none⟩) n cap) ∧ W'.ownsRow W.heap.size 57 3 (.slice (some ⟨q, 0, none⟩) n cap) n (cellsR T n)) := Lib.hid (fun W hW => by
      have := reaches_c W (.slice a0 n c0) T (HT1.out.below hW) hR
      rw [← HN.out] at this
      exact this)
    clear hb2 hr hR hD
    gi_wp2
    refine wpIn_region_facts (by kernel_rfl) (by kernel_rfl) (FD (.slice a0 n c0) T n D) (fun i v W W' hb h => FD.below hb i h) ?_ ?_
    · intro i oo listed a' W val ho haf hS hB hF
      have hi : i < 8 := (Array.getElem?_eq_some_iff.1 ho).1
      obtain rfl | rfl | rfl | rfl | rfl | rfl | rfl | rfl : i = 0 ∨ i = 1 ∨ i = 2 ∨ i = 3 ∨ i = 4 ∨ i = 5 ∨ i = 6 ∨ i = 7 := by omega
      · cases ho
        have q3 : a'.tmps[3]? = some (.pointer (some ⟨w.heap.size, 0, none⟩)) := (hS.tmpBase 3 (by kernel_rfl)).trans rfl
        have k1 : W.cell? ⟨w.heap.size, 0, none⟩ = some (.slice a0 n c0) := (HTR.out.below hB HTR.out.lt).cell 0
        refine op_valv (.agg #[.slice a0 n c0]) (W) (fun _ _ => trivial) ?_ ⟨Below.refl _ _, rfl⟩
        rw [Oper.semAt_plain _ _ _ (by intro c h; cases h)]
        simp [execOp, q3, k1, go_sem]
      · cases ho
        have l0 : listed.getD 0 false = true := haf ⟨0, .data⟩ (Array.mem_of_getElem? (i := 0) rfl) rfl
        have q9 : a'.tmps[9]? = some (val 0) := hS.tmpSet 0 _ 9 rfl rfl (by simp) l0
        rw [show val 0 = _ from hF 0 l0] at q9
        refine op_callv 33 #[.agg #[.slice a0 n c0]] (fun _ _ => trivial) ?_ (by omega) ((callsIn_wide.2 (HRE.out W hB)).mono ?_)
        · rw [Oper.semAt_plain _ _ _ (by intro c h; cases h)]
          simp [execOp, q9, go_sem]
        · rintro e w5 ⟨hb5, q, cap, rfl, ho5⟩
          exact ⟨_, rfl, hb5, q, cap, rfl, own_mono ho5 (Nat.zero_le _)⟩
      · cases ho
        have q3 : a'.tmps[3]? = some (.pointer (some ⟨w.heap.size, 0, none⟩)) := (hS.tmpBase 3 (by kernel_rfl)).trans rfl
        have k1 : W.cell? ⟨w.heap.size, 0, none⟩ = some (.slice a0 n c0) := (HTR.out.below hB HTR.out.lt).cell 0
        refine op_valv (.agg #[.slice a0 n c0]) (W) (fun _ _ => trivial) ?_ ⟨Below.refl _ _, rfl⟩
        rw [Oper.semAt_plain _ _ _ (by intro c h; cases h)]
        simp [execOp, q3, k1, go_sem]
      · cases ho
        have l2 : listed.getD 2 false = true := haf ⟨2, .data⟩ (Array.mem_of_getElem? (i := 0) rfl) rfl
        have q11 : a'.tmps[11]? = some (val 2) := hS.tmpSet 2 _ 11 rfl rfl (by simp) l2
        rw [show val 2 = _ from hF 2 l2] at q11
        refine op_callv 31 #[.agg #[.slice a0 n c0]] (fun _ _ => trivial) ?_ (by omega) ((callsIn_wide.2 (root_c W a0 n c0 (by omega))).mono ?_)
        · rw [Oper.semAt_plain _ _ _ (by intro c h; cases h)]
          simp [execOp, q11, go_sem]
        · rintro e w5 ⟨rfl, rfl⟩
          exact ⟨_, rfl, (Below.refl _ _).alloc (Nat.le_refl _) _, rfl⟩
      · cases ho
        have l1 : listed.getD 1 false = true := haf ⟨1, .data⟩ (Array.mem_of_getElem? (i := 0) rfl) rfl
        have q10 : a'.tmps[10]? = some (val 1) := hS.tmpSet 1 _ 10 rfl rfl (by simp) l1
        have l3 : listed.getD 3 false = true := haf ⟨3, .data⟩ (Array.mem_of_getElem? (i := 1) rfl) rfl
        have q12 : a'.tmps[12]? = some (val 3) := hS.tmpSet 3 _ 12 rfl rfl (by simp) l3
        obtain ⟨q1q, cap1, e1, hown⟩ := hF 1 l1
        rw [e1] at q10
        rw [show val 3 = _ from hF 3 l3] at q12
        have z3 : ((n : Int) - 1).toNat = n - 1 := by omega
        have hcell : W.cell? ⟨q1q, (n - 1) * 3, none⟩ = some (.int .i64 (D : Int)) := by
          rw [hown.cellAt ((n - 1) * 3) (by omega)]
          exact HCE.out
        refine op_valv (.pointer (some ⟨q1q, (n - 1) * 3, none⟩)) (W) (fun _ _ => trivial) ?_ ⟨Below.refl _ _, ⟨q1q, rfl, (hown.lt _ rfl).2, hcell⟩⟩
        rw [Oper.semAt_plain _ _ _ (by intro c h; cases h)]
        simp [execOp, q10, q12, z3, go_sem]
        intro h
        exact absurd (h (by omega)) (by omega)
      · cases ho
        have l4 : listed.getD 4 false = true := haf ⟨4, .data⟩ (Array.mem_of_getElem? (i := 0) rfl) rfl
        have q13 : a'.tmps[13]? = some (val 4) := hS.tmpSet 4 _ 13 rfl rfl (by simp) l4
        obtain ⟨q4q, e4, hl4, hcell⟩ := hF 4 l4
        rw [e4] at q13
        refine op_valv (.pointer (some ⟨q4q, (n - 1) * 3, none⟩)) (W) (fun _ _ => trivial) ?_ ⟨Below.refl _ _, ⟨q4q, rfl, hl4, hcell⟩⟩
        rw [Oper.semAt_plain _ _ _ (by intro c h; cases h)]
        simp [execOp, q13, go_sem]
      · cases ho
        have l5 : listed.getD 5 false = true := haf ⟨5, .data⟩ (Array.mem_of_getElem? (i := 0) rfl) rfl
        have q14 : a'.tmps[14]? = some (val 5) := hS.tmpSet 5 _ 14 rfl rfl (by simp) l5
        obtain ⟨q5q, e5, hl5, hcell⟩ := hF 5 l5
        rw [e5] at q14
        refine op_valv (.int .i64 (D : Int)) (W) (fun _ _ => trivial) ?_ ⟨Below.refl _ _, rfl⟩
        rw [Oper.semAt_plain _ _ _ (by intro c h; cases h)]
        simp [execOp, q14, hcell, go_sem]
      · cases ho
        have l6 : listed.getD 6 false = true := haf ⟨6, .data⟩ (Array.mem_of_getElem? (i := 0) rfl) rfl
        have q15 : a'.tmps[15]? = some (val 6) := hS.tmpSet 6 _ 15 rfl rfl (by simp) l6
        rw [show val 6 = _ from hF 6 l6] at q15
        refine op_valv (.int .i64 (D : Int)) (W) (fun _ _ => trivial) ?_ ⟨Below.refl _ _, rfl⟩
        rw [Oper.semAt_plain _ _ _ (by intro c h; cases h)]
        simp [execOp, q15, go_sem]
    · intro W val hB hF
      have e7 : val 7 = _ := hF 7 (by decide)
      rename_i K hK
      simp only [finAct, List.getElem?_toArray, List.getElem?_cons_zero, List.getElem?_cons_succ, Act.put, List.setIfInBounds_toArray, List.set_cons_zero, List.set_cons_succ, List.size_toArray, List.length_cons, List.length_nil, Nat.reduceAdd, e7]
      have HBF := Lib.hid (HB2.out.trans (hB.mono HB2.out.size))
      clear hF hB
      refine hK _ _ ?_
      gi_wp2
      go_ret
      exact ⟨by rw [HDA.out]; rfl, HBF.out⟩
  · have HDA : Hid (deepA T = 0) := Lib.hid (by unfold deepA; rw [hr]; rfl)
    have HB2 := Lib.hid (HB1.out.trans (hb2.mono HB1.out.size))
    unfold wrongV
    clear hb2 hr
    gi_wp2
    go_ret
    exact ⟨by rw [HDA.out]; rfl, HB2.out⟩
end Go.Proofs.YtbegplfijjbpcaaDoor.No
