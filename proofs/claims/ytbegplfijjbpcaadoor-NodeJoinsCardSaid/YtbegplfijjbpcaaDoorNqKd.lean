/- Merged by gen/nq_merge.py: NqKid, NqKid2. -/
import Derived.Test.YtbegplfijjbpcaaDoorNqLeaf
import Derived.Test.YtbegplfijjbpcaaDoorNqReach
import Derived.Test.YtbegplfijjbpcaaDoorNqA
/- The program: the tree of a kid. -/
namespace Go.Proofs.YtbegplfijjbpcaaDoor.No
open Go Go.RowKit Go.Shelf
attribute [local go_sem] Oper.semAt_some

/-- Some places of a list of nodes. -/
theorem sub_nl {W : World} {g o c0 : Nat} {kv : Nat → Value} {T : List Nd} {f i : Nat} (h : LiesN W g o kv T) (hg : g < W.heap.size) (hf : f ≤ i) (hi : i < T.length) (hc : T.length ≤ c0) (hc2 : c0 ≤ maxLen) : NL W (.slice (some ⟨g, o + f * 3, none⟩) (i + 1 - f) (c0 - f)) ((T.take (i + 1)).drop f) := by
  have hl : ((T.take (i + 1)).drop f).length = i + 1 - f := by
    rw [List.length_drop, List.length_take]
    omega
  refine ⟨⟨_, _, by rw [hl], by omega, by omega⟩, fun _ => ⟨g, o + f * 3, _, by rw [hl], hg, fun j x hj => ?_⟩⟩
  rw [List.getElem?_drop, List.getElem?_take] at hj
  split at hj
  · obtain ⟨h1, h2, h3, h4⟩ := h (f + j) x hj
    have e : o + f * 3 + j * 3 = o + (f + j) * 3 := by omega
    rw [e]
    exact ⟨h1, h2, kv (f + j), h3, h4⟩
  · cases hj
def PK (W0 : World) (P : World → Prop) : Nat → World → Prop
  | 0, W => W = W0.drew
  | _ + 1, W => P W
set_option maxRecDepth 100000 in
set_option maxHeartbeats 16000000 in
/-- kid(n). -/
theorem kid_c (w : World) (v : Value) (T : List Nd) (m : Int) (hT : NL w v T) (hk : ∀ x ∈ T, x.kids.length ≤ 1000000) (htx : ∀ x ∈ T, x.text.length ≤ 10000000) :
    Calls Tryd.prog 42 #[.agg #[v], .int .i64 m] w fun e W' => Below w.heap.size w W' ∧
      ((∃ bb q r cap total L u, e = .returned (.tuple #[.slice (some ⟨q, 0, none⟩) L.length cap, .nilIface]) ∧ BD W' w.heap.size bb q r cap total L u ∧ kidA T m = (L.map (·.1), 0)) ∨
       (kidA T m = ([], 70) ∧ ∃ p s, e = .returned (.tuple #[.slice none 0 0, wrongV p s]))) := by
  obtain ⟨a0, c0, rfl, hc1, hc2⟩ := hT.form
  obtain ⟨n, hn⟩ : ∃ n, n = T.length := ⟨_, rfl⟩
  rw [← hn] at hc1 hT ⊢
  unfold maxLen at hc2
  obtain ⟨W1, hW1⟩ : ∃ W, W = w.alloc (.cells #[.slice a0 n c0] 47) := ⟨_, rfl⟩
  have hb1 : Below w.heap.size w W1 := by rw [hW1]; exact (Below.refl _ w).alloc (Nat.le_refl _) _
  have r1 : Row W1 w.heap.size 47 #[.slice a0 n c0] := by rw [hW1]; exact Row.new _ _ _
  have HC := Lib.hid (check_c W1 (.slice a0 n c0) T (hT.below hb1) hk)
  have HT := Lib.hid (hT.below hb1)
  have HN := Lib.hid hn
  have HB1 := Lib.hid hb1
  have HR1 := Lib.hid r1
  have HW1 := Lib.hid hW1
  have HTX := Lib.hid htx
  have HKK := Lib.hid hk
  clear hT hn hb1 r1 hW1 hk htx
  refine (callsIn_wide (n := 5)).1 ?_
  refine callsIn_of_wp Tryd.func42 rfl trivial ?_ rfl
  simp only [Tryd.ntmps42, List.size_toArray, List.length_cons, List.length_nil, Nat.reduceAdd, Nat.reduceSub, Array.replicate_succ, Array.replicate_zero, List.push_toArray, List.append_toArray, List.nil_append, List.cons_append]
  gi_wp2_with fail
  refine ⟨trivial, ?_⟩
  gi_at_call 28
  rw [← HW1.out]
  refine (callsIn_wide.2 HC.out).mono ?_
  rintro e w1 ⟨hb2, ⟨hr, rfl⟩ | ⟨hr, a, s, rfl⟩⟩
  · have hR := (right_iff T).1 hr
    have HTR0 := Lib.hid (HR1.out.below hb2 HR1.out.lt)
    have HTT := Lib.hid (HT.out.below hb2)
    have HB2 := Lib.hid (HB1.out.trans (hb2.mono HB1.out.size))
    have hp := hR.pos
    have hx4 := hR.max
    rw [← HN.out] at hp hx4
    obtain ⟨x, hx⟩ : ∃ x, T[n - 1]? = some x := ⟨_, List.getElem?_eq_getElem (by rw [← HN.out]; omega)⟩
    obtain ⟨a1, c1, kv, he, _, _, hl⟩ := HTT.out.lies
    obtain ⟨g, o, rfl, hg, hL⟩ := hl (by rw [← HN.out]; omega)
    rw [← HN.out] at he
    injection he with e1 _ e2
    subst e1
    subst e2
    have HL := Lib.hid hL
    obtain ⟨x0, x1, x2, hkl⟩ := hL (n - 1) x hx
    have HKL := Lib.hid hkl
    obtain ⟨ka, kc, hkv, hkc1, hkc2⟩ := hkl.form
    obtain ⟨KN, hKN⟩ : ∃ k, k = x.kids.length := ⟨_, rfl⟩
    rw [hkv, ← hKN] at x2
    rw [← hKN] at hkv hkc1
    have HKV := Lib.hid hkv
    have HKN := Lib.hid hKN
    have HX := Lib.hid hx
    have HC2 := Lib.hid x2
    have HTR := HTR0
    have HR0 := Lib.hid hr
    have HRT := Lib.hid hR
    have HRK : Hid (rootK T = x.kids) := Lib.hid (by unfold rootK; rw [← HN.out, hx])
    clear hb2 hr hR hx hl hL x0 x1 x2 hkl hkv hKN HTR0 HW1 HC HT HR1
    gi_wp2
    refine wpIn_region_facts (by kernel_rfl) (by kernel_rfl) (fun i v _ => v = [(.pointer (some ⟨w.heap.size, 0, none⟩) : Value), .slice (some ⟨g, o, none⟩) n c0, .agg #[.slice (some ⟨g, o, none⟩) n c0], .int .i64 ((n : Int) - 1), .pointer (some ⟨g, o + (n - 1) * 3, none⟩), .pointer (some ⟨g, o + (n - 1) * 3 + 2, none⟩), .slice ka KN kc, .slice ka KN kc].getD i undef) (fun i v W W' hb h => h) ?_ ?_
    · intro i oo listed a' W val ho haf hS hB hF
      have hii : i < 8 := (Array.getElem?_eq_some_iff.1 ho).1
      obtain rfl | rfl | rfl | rfl | rfl | rfl | rfl | rfl : i = 0 ∨ i = 1 ∨ i = 2 ∨ i = 3 ∨ i = 4 ∨ i = 5 ∨ i = 6 ∨ i = 7 := by omega
      · cases ho
        have q2 : a'.tmps[2]? = some (.pointer (some ⟨w.heap.size, 0, none⟩)) := (hS.tmpBase 2 (by kernel_rfl)).trans rfl
        refine op_valv (.pointer (some ⟨w.heap.size, 0, none⟩)) (W) (fun _ _ => trivial) ?_ ⟨Below.refl _ _, rfl⟩
        rw [Oper.semAt_plain _ _ _ (by intro c h; cases h)]
        simp [execOp, q2, go_sem]
      · cases ho
        have l0 : listed.getD 0 false = true := haf ⟨0, .data⟩ (Array.mem_of_getElem? (i := 0) rfl) rfl
        have q16 : a'.tmps[16]? = some (val 0) := hS.tmpSet 0 _ 16 rfl rfl (by simp) l0
        rw [show val 0 = _ from hF 0 l0] at q16
        have k1 : W.cell? ⟨w.heap.size, 0, none⟩ = some (.slice (some ⟨g, o, none⟩) n c0) := (HTR.out.below hB HTR.out.lt).cell 0
        refine op_valv (.slice (some ⟨g, o, none⟩) n c0) (W) (fun _ _ => trivial) ?_ ⟨Below.refl _ _, rfl⟩
        rw [Oper.semAt_plain _ _ _ (by intro c h; cases h)]
        simp [execOp, q16, k1, go_sem]
      · cases ho
        have q2 : a'.tmps[2]? = some (.pointer (some ⟨w.heap.size, 0, none⟩)) := (hS.tmpBase 2 (by kernel_rfl)).trans rfl
        have k1 : W.cell? ⟨w.heap.size, 0, none⟩ = some (.slice (some ⟨g, o, none⟩) n c0) := (HTR.out.below hB HTR.out.lt).cell 0
        refine op_valv (.agg #[.slice (some ⟨g, o, none⟩) n c0]) (W) (fun _ _ => trivial) ?_ ⟨Below.refl _ _, rfl⟩
        rw [Oper.semAt_plain _ _ _ (by intro c h; cases h)]
        simp [execOp, q2, k1, go_sem]
      · cases ho
        have l2 : listed.getD 2 false = true := haf ⟨2, .data⟩ (Array.mem_of_getElem? (i := 0) rfl) rfl
        have q18 : a'.tmps[18]? = some (val 2) := hS.tmpSet 2 _ 18 rfl rfl (by simp) l2
        rw [show val 2 = _ from hF 2 l2] at q18
        refine op_callv 31 #[.agg #[.slice (some ⟨g, o, none⟩) n c0]] (fun _ _ => trivial) ?_ (by omega) ((callsIn_wide.2 (root_c W (some ⟨g, o, none⟩) n c0 (by omega))).mono ?_)
        · rw [Oper.semAt_plain _ _ _ (by intro c h; cases h)]
          simp [execOp, q18, go_sem]
        · rintro e w5 ⟨rfl, rfl⟩
          exact ⟨_, rfl, (Below.refl _ _).alloc (Nat.le_refl _) _, rfl⟩
      · cases ho
        have l1 : listed.getD 1 false = true := haf ⟨1, .data⟩ (Array.mem_of_getElem? (i := 0) rfl) rfl
        have q17 : a'.tmps[17]? = some (val 1) := hS.tmpSet 1 _ 17 rfl rfl (by simp) l1
        have l3 : listed.getD 3 false = true := haf ⟨3, .data⟩ (Array.mem_of_getElem? (i := 1) rfl) rfl
        have q19 : a'.tmps[19]? = some (val 3) := hS.tmpSet 3 _ 19 rfl rfl (by simp) l3
        rw [show val 1 = _ from hF 1 l1] at q17
        rw [show val 3 = _ from hF 3 l3] at q19
        have z3 : ((n : Int) - 1).toNat = n - 1 := by omega
        refine op_valv (.pointer (some ⟨g, o + (n - 1) * 3, none⟩)) (W) (fun _ _ => trivial) ?_ ⟨Below.refl _ _, rfl⟩
        rw [Oper.semAt_plain _ _ _ (by intro c h; cases h)]
        simp [execOp, q17, q19, z3, go_sem]
        intro h
        exact absurd (h (by omega)) (by omega)
      · cases ho
        have l4 : listed.getD 4 false = true := haf ⟨4, .data⟩ (Array.mem_of_getElem? (i := 0) rfl) rfl
        have q20 : a'.tmps[20]? = some (val 4) := hS.tmpSet 4 _ 20 rfl rfl (by simp) l4
        rw [show val 4 = _ from hF 4 l4] at q20
        refine op_valv (.pointer (some ⟨g, o + (n - 1) * 3 + 2, none⟩)) (W) (fun _ _ => trivial) ?_ ⟨Below.refl _ _, rfl⟩
        rw [Oper.semAt_plain _ _ _ (by intro c h; cases h)]
        simp [execOp, q20, go_sem]
      · cases ho
        have l5 : listed.getD 5 false = true := haf ⟨5, .data⟩ (Array.mem_of_getElem? (i := 0) rfl) rfl
        have q21 : a'.tmps[21]? = some (val 5) := hS.tmpSet 5 _ 21 rfl rfl (by simp) l5
        rw [show val 5 = _ from hF 5 l5] at q21
        have k1 := (hB.cell (p := ⟨g, o + (n - 1) * 3 + 2, none⟩) hg).trans HC2.out
        refine op_valv (.slice ka KN kc) (W) (fun _ _ => trivial) ?_ ⟨Below.refl _ _, rfl⟩
        rw [Oper.semAt_plain _ _ _ (by intro c h; cases h)]
        simp [execOp, q21, k1, go_sem]
      · cases ho
        have l6 : listed.getD 6 false = true := haf ⟨6, .data⟩ (Array.mem_of_getElem? (i := 0) rfl) rfl
        have q22 : a'.tmps[22]? = some (val 6) := hS.tmpSet 6 _ 22 rfl rfl (by simp) l6
        rw [show val 6 = _ from hF 6 l6] at q22
        refine op_valv (.slice ka KN kc) (W) (fun _ _ => trivial) ?_ ⟨Below.refl _ _, rfl⟩
        rw [Oper.semAt_plain _ _ _ (by intro c h; cases h)]
        simp [execOp, q22, go_sem]
    · intro W2 vl hB hF
      have e7 : vl 7 = _ := hF 7 (by decide)
      rename_i K hK
      simp only [finAct, List.getElem?_toArray, List.getElem?_cons_zero, List.getElem?_cons_succ, Act.put, List.setIfInBounds_toArray, List.set_cons_zero, List.set_cons_succ, List.size_toArray, List.length_cons, List.length_nil, Nat.reduceAdd, e7]
      have HBF := Lib.hid (HB2.out.trans (hB.mono HB2.out.size))
      have HBW := Lib.hid hB
      have cT : W2.cell? ⟨w.heap.size, 0, none⟩ = some (.slice (some ⟨g, o, none⟩) n c0) := (HTR.out.below hB HTR.out.lt).cell 0
      clear hF hB
      refine hK _ _ ?_
      clear hK
      by_cases hm0 : m < 0
      · have HNO : Hid (kidA T m = ([], 70)) := Lib.hid (by
          unfold kidA
          have : decide (0 ≤ m) = false := by simp; omega
          rw [this]
          simp)
        gi_wp2_with (refine ⟨trivial, ?_⟩; gi_at_call 31; refine (callsIn_wide.2 (root_c _ _ _ _ (by omega))).mono ?_; rintro e w3 ⟨rfl, rfl⟩)
        refine bodyPost_ret (v := .tuple #[.slice none 0 0, wrongV ((n : Int) - 1) ⟨#[105, 116, 32, 104, 97, 115, 32, 110, 111, 32, 115, 117, 99, 104, 32, 107, 105, 100]⟩]) (by simp [results, Tryd.f42, go_sem, wrongV]) rfl ⟨HBF.out.alloc HBF.out.size _, .inr ⟨HNO.out, _, _, rfl⟩⟩
      · by_cases hm1 : (KN : Int) ≤ m
        · have HNO : Hid (kidA T m = ([], 70)) := Lib.hid (by
            unfold kidA
            have : decide (m < ((rootK T).length : Int)) = false := by rw [HRK.out, ← HKN.out]; simp; omega
            rw [this]
            simp)
          gi_wp2_with (refine ⟨trivial, ?_⟩; gi_at_call 31; refine (callsIn_wide.2 (root_c _ _ _ _ (by omega))).mono ?_; rintro e w3 ⟨rfl, rfl⟩)
          refine bodyPost_ret (v := .tuple #[.slice none 0 0, wrongV ((n : Int) - 1) ⟨#[105, 116, 32, 104, 97, 115, 32, 110, 111, 32, 115, 117, 99, 104, 32, 107, 105, 100]⟩]) (by simp [results, Tryd.f42, go_sem, wrongV]) rfl ⟨HBF.out.alloc HBF.out.size _, .inr ⟨HNO.out, _, _, rfl⟩⟩
        · obtain ⟨j, rfl⟩ : ∃ j : Nat, m = (j : Int) := ⟨m.toNat, by omega⟩
          have hjK : j < KN := by omega
          obtain ⟨a, ha⟩ : ∃ a, x.kids[j]? = some a := ⟨_, List.getElem?_eq_getElem (by rw [← HKN.out]; exact hjK)⟩
          have hai := HRT.out.kid HX.out a (List.mem_of_getElem? ha)
          obtain ⟨i, rfl⟩ : ∃ i : Nat, a = (i : Int) := ⟨a.toNat, by omega⟩
          have hin : i < n := by omega
          obtain ⟨gk, ok, ck, hkv2, hgk, hck⟩ := HKL.out.cells (by rw [← HKN.out]; omega)
          rw [HKV.out, ← HKN.out] at hkv2
          injection hkv2 with e1 _ e2
          subst e1
          subst e2
          have cK := (HBW.out.cell (p := ⟨gk, ok + j, none⟩) hgk).trans (hck j _ ha)
          have HJ : Hid (((rootK T)[((j : Nat) : Int).toNat]?).getD 0 = (i : Int)) := Lib.hid (by rw [HRK.out, Int.toNat_natCast, ha]; rfl)
          have HRE := Lib.hid (reaches_c W2 _ T (HTT.out.below HBW.out) HRT.out)
          rw [← HN.out] at HRE
          obtain ⟨D, hD⟩ : ∃ D, D = val deepC 0 T i := ⟨_, rfl⟩
          obtain ⟨z, hz⟩ : ∃ D, D = val sizeC 0 T i := ⟨_, rfl⟩
          obtain ⟨f, hf⟩ : ∃ D, D = val firstC 0 T i := ⟨_, rfl⟩
          have HCE : Hid ((cellsR T n)[i * 3]? = some (.int .i64 (D : Int)) ∧ (cellsR T n)[i * 3 + 1]? = some (.int .i64 (z : Int)) ∧ (cellsR T n)[i * 3 + 2]? = some (.int .i64 (f : Int))) := Lib.hid (by
            have h0 := cellsR_at T n i 0 hin (by omega)
            have h1 := cellsR_at T n i 1 hin (by omega)
            have h2 := cellsR_at T n i 2 hin (by omega)
            rw [Nat.add_zero] at h0
            rw [h0, h1, h2, hD, hz, hf]
            exact ⟨rfl, rfl, rfl⟩)
          have HZ := Lib.hid hz
          have HF := Lib.hid hf
          have hKI := kid_iff HRT.out (i := i) (by rw [← HN.out]; exact hin)
          have hfi := first_le HRT.out.kidsOk (i := i) (by rw [← HN.out]; exact hin)
          have hzi := size_le HRT.out (i := i) (by rw [← HN.out]; exact hin)
          rw [← hz, ← hf] at hKI
          rw [← hf] at hfi
          rw [← hz] at hzi
          have HKI := Lib.hid hKI
          have hKA : kidA T (j : Int) = if rightB (kidL T i) then (kidL T i, 0) else ([], 70) := by
            unfold kidA
            have h1 : decide ((0 : Int) ≤ (j : Int)) = true := by simp
            have h2 : decide ((j : Int) < ((rootK T).length : Int)) = true := by rw [HRK.out, ← HKN.out]; simp; omega
            rw [HR0.out, h1, h2, HJ.out, Int.toNat_natCast]
            simp
          have HKA := Lib.hid hKA
          clear hai hck hgk ha hD hz hf hKI hKA
          by_cases hsz : (z : Int) = (i : Int) - (f : Int) + 1
          · have HSZ := Lib.hid hsz
            have hz1 : 1 ≤ z := by omega
            have hz2 : z ≤ 1000 := by omega
            have HBU : Hid (∀ W, Calls Tryd.prog 54 #[.int .i64 ((i : Int) - (f : Int) + 1)] W fun e W' => Below W.heap.size W W' ∧ ∃ bb q r, e = .returned (.pointer (some ⟨bb, 0, none⟩)) ∧ BD W' W.heap.size bb q r z (z - 1) [] 0) := Lib.hid (fun W => by
              have := build_c W z hz1 hz2
              rw [HSZ.out] at this
              exact this)
            gi_wp2_with (first | (refine ⟨trivial, ?_⟩; gi_at_call 33; refine (callsIn_wide.2 HRE.out).mono ?_; rintro e w3 ⟨hb3, q, cap, rfl, ho3⟩; have HB3 := Lib.hid hb3; have k0 := (ho3.cellAt (i * 3) (by omega)).trans HCE.out.1; have k1 := (ho3.cellAt (i * 3 + 1) (by omega)).trans HCE.out.2.1; have k2 := (ho3.cellAt (i * 3 + 2) (by omega)).trans HCE.out.2.2; clear hb3 ho3 HRE) | (refine ⟨trivial, ?_⟩; gi_at_call 54; refine (callsIn_wide.2 (HBU.out _)).mono ?_; rintro e w5 ⟨hb5, bb, q5, r5, rfl, hBD⟩; have HB5 := Lib.hid hb5; have HBD := Lib.hid hBD; clear hb5 hBD HBU))
            have HRK' : Hid (RightT (kidL T i)) := Lib.hid ((right_iff _).1 (by rw [HKI.out]; simp; omega))
            obtain ⟨w4, hw4⟩ : ∃ x, x = w3.alloc (.cells #[.int .i64 (D : Int), .int .i64 ((i : Int) - (f : Int) + 1), .int .i64 (f : Int)] 57) := ⟨_, rfl⟩
            have hb34 : Below w3.heap.size w3 w4 := by rw [hw4]; exact (Below.refl _ w3).alloc (Nat.le_refl _) _
            have hre : Row w4 w3.heap.size 57 #[.int .i64 (D : Int), .int .i64 ((i : Int) - (f : Int) + 1), .int .i64 (f : Int)] := by rw [hw4]; exact Row.new _ _ _
            rw [← hw4] at HB5 HBD
            have hb14 : Below w1.heap.size w1 w4 := (HBW.out.trans (HB3.out.mono HBW.out.size)).trans (hb34.mono (Nat.le_trans HBW.out.size HB3.out.size))
            have HRE5 := Lib.hid (hre.below HB5.out hre.lt)
            have HTR4 := HTR.out.below hb14 HTR.out.lt
            have HTR5 := Lib.hid (HTR4.below HB5.out HTR4.lt)
            have HBS : Hid (w.heap.size ≤ w4.heap.size) := Lib.hid (Nat.le_trans HB2.out.size hb14.size)
            have HBE2 : Hid (∀ {W}, Below w4.heap.size w4 W → Below w.heap.size w W) := Lib.hid (fun h => (HB2.out.trans (hb14.mono HB2.out.size)).trans (h.mono HBS.out))
            have HKE : Hid (kidL T i = ((T.take (i + 1)).drop f).map (movN (-(f : Int)))) := Lib.hid (by unfold kidL; rw [← HF.out])
            have HPU : Hid (Calls Tryd.prog 55 #[.pointer (some ⟨bb, 0, none⟩), .int .i64 (-(f : Int)), .slice (some ⟨g, o + f * 3, none⟩) (i + 1 - f) (c0 - f)] w5.drew fun e W' => (∃ v, e = .returned v) ∧ Below w4.heap.size w4 W' ∧ ∃ M : List (Nd × Value), M.map (·.1) = ((T.take (i + 1)).drop f).map (movN (-(f : Int))) ∧ BD W' w4.heap.size bb q5 r5 z (z - 1) ([] ++ M) (0 + (allKids ((T.take (i + 1)).drop f)).length)) := Lib.hid (by
              have hin' := hin
              rw [HN.out] at hin'
              have hsub := sub_nl (HL.out.below rfl hb14 hg) (Nat.lt_of_lt_of_le hg hb14.size) hfi hin' (by rw [← HN.out]; exact hc1) hc2
              have hsl : ((T.take (i + 1)).drop f).length = i + 1 - f := by rw [List.length_drop, List.length_take]; omega
              have hal : (allKids ((T.take (i + 1)).drop f)).length = z - 1 := by
                have h1 := kids_len HRK'.out
                rw [HKE.out, kids_mov, List.length_map, List.length_map, hsl] at h1
                omega
              refine put_nl w4 w5.drew bb q5 r5 z (z - 1) [] 0 (-(f : Int)) _ _ (HBD.out.below (Below.refl _ w5).drew) HB5.out.drew hsub (by rw [hsl]; simp; omega) (by rw [hal]; omega) ?_ (by omega) (by omega) (fun y hy => HTX.out y (List.mem_of_mem_take (List.mem_of_mem_drop hy)))
              intro y hy b hb
              obtain ⟨jj, hjj⟩ := List.getElem?_of_mem (List.mem_of_mem_take (List.mem_of_mem_drop hy))
              have h1 := HRT.out.kid hjj b hb
              have h2 := (List.getElem?_eq_some_iff.1 hjj).1
              rw [← HN.out] at h2
              omega)
            have HKF : Hid (kidA T (j : Int) = (kidL T i, 0)) := Lib.hid (by rw [HKA.out, (right_iff _).2 HRK'.out]; rfl)
            clear hw4 hb34 hre hb14 HTR4 k0 k1 k2 cK hsz cT
            refine wpIn_region_chain (by kernel_rfl) (by kernel_rfl) [11] (by kernel_rfl) (by decide) (by decide) (fun j v => v = [(.pointer (some ⟨bb, 0, none⟩) : Value), .pointer (some ⟨w3.heap.size, 2, none⟩), .int .i64 (f : Int), .int .i64 (-(f : Int)), .pointer (some ⟨w.heap.size, 0, none⟩), .slice (some ⟨g, o, none⟩) n c0, .pointer (some ⟨w3.heap.size, 2, none⟩), .int .i64 (f : Int), .int .i64 (i : Int), .int .i64 ((i : Int) + 1), .slice (some ⟨g, o + f * 3, none⟩) (i + 1 - f) (c0 - f), undef].getD j undef) (fun k _ W => PK w5 (fun W => Below w4.heap.size w4 W ∧ ∃ M : List (Nd × Value), M.map (·.1) = ((T.take (i + 1)).drop f).map (movN (-(f : Int))) ∧ BD W w4.heap.size bb q5 r5 z (z - 1) ([] ++ M) (0 + (allKids ((T.take (i + 1)).drop f)).length)) k W) ?_ ?_ ?_ ?_ ?_
            · intro val
              rfl
            · intro k val val' W hval hps
              exact hps
            · intro i oo listed a' W val k ho hic haf hS hF hbk hlm hps
              have hii : i < 12 := (Array.getElem?_eq_some_iff.1 ho).1
              obtain rfl | rfl | rfl | rfl | rfl | rfl | rfl | rfl | rfl | rfl | rfl | rfl : i = 0 ∨ i = 1 ∨ i = 2 ∨ i = 3 ∨ i = 4 ∨ i = 5 ∨ i = 6 ∨ i = 7 ∨ i = 8 ∨ i = 9 ∨ i = 10 ∨ i = 11 := by omega
              · cases ho
                have q10 : a'.tmps[10]? = some (.pointer (some ⟨bb, 0, none⟩)) := (hS.tmpBase 10 (by kernel_rfl)).trans rfl
                refine ⟨fun _ _ => trivial, _, _, ?_, .inl rfl, rfl⟩
                rw [Oper.semAt_plain _ _ _ (by intro c h; cases h)]
                simp [execOp, q10, go_sem]
              · cases ho
                have q9 : a'.tmps[9]? = some (.pointer (some ⟨w3.heap.size, 0, none⟩)) := (hS.tmpBase 9 (by kernel_rfl)).trans rfl
                refine ⟨fun _ _ => trivial, _, _, ?_, .inl rfl, rfl⟩
                rw [Oper.semAt_plain _ _ _ (by intro c h; cases h)]
                simp [execOp, q9, go_sem]
              · cases ho
                have l1 : listed.getD 1 false = true := haf ⟨1, .data⟩ (Array.mem_of_getElem? (i := 0) rfl) rfl
                have q59 : a'.tmps[59]? = some (val 1) := hS.tmpSet 1 _ 59 rfl rfl (by simp) l1
                rw [show val 1 = .pointer (some ⟨w3.heap.size, 2, none⟩) from hF 1 l1 (by decide)] at q59
                obtain rfl : k = 0 := by have := hbk 0 11 rfl (by decide); omega
                cases (show W = w5.drew from hps)
                have k2 : w5.drew.cell? ⟨w3.heap.size, 2, none⟩ = some (.int .i64 (f : Int)) := HRE5.out.cell 2
                refine ⟨fun _ _ => trivial, _, _, ?_, .inl rfl, rfl⟩
                rw [Oper.semAt_plain _ _ _ (by intro c h; cases h)]
                simp [execOp, q59, k2, go_sem]
              · cases ho
                have l2 : listed.getD 2 false = true := haf ⟨2, .data⟩ (Array.mem_of_getElem? (i := 0) rfl) rfl
                have q60 : a'.tmps[60]? = some (val 2) := hS.tmpSet 2 _ 60 rfl rfl (by simp) l2
                rw [show val 2 = .int .i64 (f : Int) from hF 2 l2 (by decide)] at q60
                have v3 : IntKind.i64.wrap (-(f : Int)) = -(f : Int) := by rw [IntKind.wrap_i64]; omega
                refine ⟨fun _ _ => trivial, _, _, ?_, .inl rfl, rfl⟩
                rw [Oper.semAt_plain _ _ _ (by intro c h; cases h)]
                simp [execOp, q60, v3, go_sem]
              · cases ho
                have q2 : a'.tmps[2]? = some (.pointer (some ⟨w.heap.size, 0, none⟩)) := (hS.tmpBase 2 (by kernel_rfl)).trans rfl
                refine ⟨fun _ _ => trivial, _, _, ?_, .inl rfl, rfl⟩
                rw [Oper.semAt_plain _ _ _ (by intro c h; cases h)]
                simp [execOp, q2, go_sem]
              · cases ho
                have l4 : listed.getD 4 false = true := haf ⟨4, .data⟩ (Array.mem_of_getElem? (i := 0) rfl) rfl
                have q62 : a'.tmps[62]? = some (val 4) := hS.tmpSet 4 _ 62 rfl rfl (by simp) l4
                rw [show val 4 = .pointer (some ⟨w.heap.size, 0, none⟩) from hF 4 l4 (by decide)] at q62
                obtain rfl : k = 0 := by have := hbk 0 11 rfl (by decide); omega
                cases (show W = w5.drew from hps)
                have k1 : w5.drew.cell? ⟨w.heap.size, 0, none⟩ = some (.slice (some ⟨g, o, none⟩) n c0) := HTR5.out.cell 0
                refine ⟨fun _ _ => trivial, _, _, ?_, .inl rfl, rfl⟩
                rw [Oper.semAt_plain _ _ _ (by intro c h; cases h)]
                simp [execOp, q62, k1, go_sem]
              · cases ho
                have q9 : a'.tmps[9]? = some (.pointer (some ⟨w3.heap.size, 0, none⟩)) := (hS.tmpBase 9 (by kernel_rfl)).trans rfl
                refine ⟨fun _ _ => trivial, _, _, ?_, .inl rfl, rfl⟩
                rw [Oper.semAt_plain _ _ _ (by intro c h; cases h)]
                simp [execOp, q9, go_sem]
              · cases ho
                have l6 : listed.getD 6 false = true := haf ⟨6, .data⟩ (Array.mem_of_getElem? (i := 0) rfl) rfl
                have q64 : a'.tmps[64]? = some (val 6) := hS.tmpSet 6 _ 64 rfl rfl (by simp) l6
                rw [show val 6 = .pointer (some ⟨w3.heap.size, 2, none⟩) from hF 6 l6 (by decide)] at q64
                obtain rfl : k = 0 := by have := hbk 0 11 rfl (by decide); omega
                cases (show W = w5.drew from hps)
                have k2 : w5.drew.cell? ⟨w3.heap.size, 2, none⟩ = some (.int .i64 (f : Int)) := HRE5.out.cell 2
                refine ⟨fun _ _ => trivial, _, _, ?_, .inl rfl, rfl⟩
                rw [Oper.semAt_plain _ _ _ (by intro c h; cases h)]
                simp [execOp, q64, k2, go_sem]
              · cases ho
                have q8 : a'.tmps[8]? = some (.int .i64 (i : Int)) := (hS.tmpBase 8 (by kernel_rfl)).trans rfl
                refine ⟨fun _ _ => trivial, _, _, ?_, .inl rfl, rfl⟩
                rw [Oper.semAt_plain _ _ _ (by intro c h; cases h)]
                simp [execOp, q8, go_sem]
              · cases ho
                have l8 : listed.getD 8 false = true := haf ⟨8, .data⟩ (Array.mem_of_getElem? (i := 0) rfl) rfl
                have q66 : a'.tmps[66]? = some (val 8) := hS.tmpSet 8 _ 66 rfl rfl (by simp) l8
                rw [show val 8 = .int .i64 (i : Int) from hF 8 l8 (by decide)] at q66
                have v9 : IntKind.i64.wrap ((i : Int) + 1) = (i : Int) + 1 := by rw [IntKind.wrap_i64]; omega
                refine ⟨fun _ _ => trivial, _, _, ?_, .inl rfl, rfl⟩
                rw [Oper.semAt_plain _ _ _ (by intro c h; cases h)]
                simp [execOp, q66, v9, go_sem]
              · cases ho
                have l5 : listed.getD 5 false = true := haf ⟨5, .data⟩ (Array.mem_of_getElem? (i := 0) rfl) rfl
                have q63 : a'.tmps[63]? = some (val 5) := hS.tmpSet 5 _ 63 rfl rfl (by simp) l5
                rw [show val 5 = .slice (some ⟨g, o, none⟩) n c0 from hF 5 l5 (by decide)] at q63
                have l7 : listed.getD 7 false = true := haf ⟨7, .data⟩ (Array.mem_of_getElem? (i := 1) rfl) rfl
                have q65 : a'.tmps[65]? = some (val 7) := hS.tmpSet 7 _ 65 rfl rfl (by simp) l7
                rw [show val 7 = .int .i64 (f : Int) from hF 7 l7 (by decide)] at q65
                have l9 : listed.getD 9 false = true := haf ⟨9, .data⟩ (Array.mem_of_getElem? (i := 2) rfl) rfl
                have q67 : a'.tmps[67]? = some (val 9) := hS.tmpSet 9 _ 67 rfl rfl (by simp) l9
                rw [show val 9 = .int .i64 ((i : Int) + 1) from hF 9 l9 (by decide)] at q67
                have t1 : ((i : Int) + 1).toNat = i + 1 := by omega
                refine ⟨fun _ _ => trivial, _, _, ?_, .inl rfl, rfl⟩
                rw [Oper.semAt_plain _ _ _ (by intro c h; cases h)]
                simp [execOp, q63, q65, q67, t1, go_sem]
                rw [if_pos (by omega), if_pos (by omega), if_neg (by omega)]
              · exact absurd (by decide) hic
            · intro m i oo listed a' W val ho hmi haf hS hF hps
              have hmm : m < 1 := (List.getElem?_eq_some_iff.1 hmi).1
              obtain rfl : m = 0 := by omega
              · cases hmi
                cases ho
                have l0 : listed.getD 0 false = true := haf ⟨0, .data⟩ (Array.mem_of_getElem? (i := 0) rfl) rfl
                have q58 : a'.tmps[58]? = some (val 0) := hS.tmpSet 0 _ 58 rfl rfl (by simp) l0
                rw [show val 0 = .pointer (some ⟨bb, 0, none⟩) from hF 0 l0 (by decide)] at q58
                have l3 : listed.getD 3 false = true := haf ⟨3, .data⟩ (Array.mem_of_getElem? (i := 1) rfl) rfl
                have q61 : a'.tmps[61]? = some (val 3) := hS.tmpSet 3 _ 61 rfl rfl (by simp) l3
                rw [show val 3 = .int .i64 (-(f : Int)) from hF 3 l3 (by decide)] at q61
                have l10 : listed.getD 10 false = true := haf ⟨10, .data⟩ (Array.mem_of_getElem? (i := 2) rfl) rfl
                have q68 : a'.tmps[68]? = some (val 10) := hS.tmpSet 10 _ 68 rfl rfl (by simp) l10
                rw [show val 10 = .slice (some ⟨g, o + f * 3, none⟩) (i + 1 - f) (c0 - f) from hF 10 l10 (by decide)] at q68
                cases (show W = w5.drew from hps)
                refine op_callv 55 #[.pointer (some ⟨bb, 0, none⟩), .int .i64 (-(f : Int)), .slice (some ⟨g, o + f * 3, none⟩) (i + 1 - f) (c0 - f)] (fun _ _ => trivial) ?_ (by omega) ((callsIn_wide.2 HPU.out).mono ?_)
                · rw [Oper.semAt_plain _ _ _ (by intro c h; cases h)]
                  simp [execOp, q58, q61, q68, go_sem]
                · rintro e w6 ⟨⟨ev, rfl⟩, h1, M, h2, h3⟩
                  exact ⟨_, rfl, h1, M, h2, h3⟩
            · intro W6 val hps hF
              obtain ⟨hb6, M, hM, hBD6⟩ := hps
              rw [List.nil_append] at hBD6
              rename_i K2 hK2
              simp only [finAct, List.getElem?_toArray, List.getElem?_cons_zero, List.getElem?_cons_succ, Act.put, List.setIfInBounds_toArray, List.set_cons_zero, List.set_cons_succ, List.size_toArray, List.length_cons, List.length_nil, Nat.reduceAdd]
              obtain ⟨ro, rowB, _⟩ := hBD6.row
              have cB := rowB.cell 0
              simp only [List.getElem?_toArray, List.getElem?_cons_zero] at cB
              have HB6 := Lib.hid hb6
              have HM := Lib.hid hM
              have HBD6 := Lib.hid hBD6
              clear hb6 hM hBD6 rowB hF
              refine hK2 _ _ ?_
              clear hK2
              gi_wp2
              refine bodyPost_ret (v := .tuple #[.slice (some ⟨q5, 0, none⟩) M.length z, .nilIface]) (by simp [results, Tryd.f42, go_sem]) rfl ⟨HBE2.out HB6.out, .inl ⟨bb, q5, r5, z, z - 1, M, _, rfl, HBD6.out.mono HBS.out, by rw [HM.out, ← HKE.out]; exact HKF.out⟩⟩
          · have HNO : Hid (kidA T (j : Int) = ([], 70)) := Lib.hid (by
              rw [HKA.out, HKI.out, if_neg]
              simp
              omega)
            gi_wp2_with (first | (refine ⟨trivial, ?_⟩; gi_at_call 33; refine (callsIn_wide.2 HRE.out).mono ?_; rintro e w3 ⟨hb3, q, cap, rfl, ho3⟩; have HB3 := Lib.hid hb3; have k0 := (ho3.cellAt (i * 3) (by omega)).trans HCE.out.1; have k1 := (ho3.cellAt (i * 3 + 1) (by omega)).trans HCE.out.2.1; have k2 := (ho3.cellAt (i * 3 + 2) (by omega)).trans HCE.out.2.2; clear hb3 ho3 HRE))
            refine bodyPost_ret (v := .tuple #[.slice none 0 0, wrongV (i : Int) ⟨#[110, 111, 100, 101, 115, 32, 111, 102, 32, 111, 116, 104, 101, 114, 115, 32, 115, 116, 97, 110, 100, 32, 97, 109, 111, 110, 103, 32, 105, 116, 115, 32, 111, 119, 110]⟩]) (by simp [results, Tryd.f42, go_sem, wrongV]) rfl ⟨(HBF.out.trans (HB3.out.mono HBF.out.size)).alloc (Nat.le_trans HBF.out.size HB3.out.size) _, .inr ⟨HNO.out, _, _, rfl⟩⟩
  · have HDA : Hid (kidA T m = ([], 70)) := Lib.hid (by unfold kidA; rw [hr]; rfl)
    have HB2 := Lib.hid (HB1.out.trans (hb2.mono HB1.out.size))
    unfold wrongV
    clear hb2 hr
    gi_wp2
    refine bodyPost_ret (v := .tuple #[.slice none 0 0, wrongV a s]) (by simp [results, Tryd.f42, go_sem, wrongV]) rfl ⟨HB2.out, .inr ⟨HDA.out, a, s, rfl⟩⟩
end Go.Proofs.YtbegplfijjbpcaaDoor.No
/- The program: Kid. -/
namespace Go.Proofs.YtbegplfijjbpcaaDoor.No
open Go Go.RowKit Go.Shelf
attribute [local go_sem] Oper.semAt_some

set_option maxRecDepth 100000 in
set_option maxHeartbeats 2000000 in
/-- pkid_c. -/
theorem pkid_c (w : World) (v : Value) (T : List Nd) (m : Int) (hT : NL w v T) (hk : ∀ x ∈ T, x.kids.length ≤ 1000000) (htx : ∀ x ∈ T, x.text.length ≤ 10000000) (ad : Addr) (hE : EN w ad) :
    Calls Tryd.prog 25 #[v, .int .i64 m] w fun e W' => Below w.heap.size w W' ∧ OUT w W' e (kidA T m) := by
  have HJ := Lib.hid (kid_c w v T m hT hk htx)
  have HE := Lib.hid hE
  obtain ⟨a0, c0, rfl, _, _⟩ := hT.form
  clear hT hk htx hE
  go_enter Tryd.func25, Tryd.ntmps25
  go_wp2_with fail
  refine HJ.out.mono ?_
  rintro e w1 ⟨hb1, ⟨bb, q, r, cap, total, L, u, rfl, hB, hA⟩ | ⟨hA, p, s, rfl⟩⟩
  · have HB1 := Lib.hid hb1
    have HBD := Lib.hid hB
    have HA := Lib.hid hA
    obtain ⟨nl, hnl⟩ : ∃ x, x = L.length := ⟨_, rfl⟩
    rw [← hnl]
    have HNL := Lib.hid hnl
    clear hb1 hB hA hnl
    go_wp2_with (go_at_call 40; refine (number_nil ad w1 (HE.out.below HB1.out)).mono ?_; rintro e w2 ⟨rfl, hb2⟩; have HB2 := Lib.hid hb2; clear hb2)
    refine bodyPost_ret (v := .tuple #[.slice (some ⟨q, 0, none⟩) nl cap, .int .i64 0]) (by simp [results, Tryd.f25, go_sem]) rfl ⟨HB1.out.trans (HB2.out.mono HB1.out.size), .inl ⟨bb, q, r, cap, total, L, u, by rw [HNL.out], HBD.out.below HB2.out, HA.out⟩⟩
  · have HB1 := Lib.hid hb1
    have HA := Lib.hid hA
    clear hb1 hA
    unfold wrongV
    go_wp2_with (go_at_call 40; refine (number_wrong p s ad w1 (HE.out.below HB1.out)).mono ?_; rintro e w2 ⟨rfl, hb2⟩; have HB2 := Lib.hid hb2; clear hb2)
    refine bodyPost_ret (v := .tuple #[.slice none 0 0, .int .i64 70]) (by simp [results, Tryd.f25, go_sem]) rfl ⟨HB1.out.trans (HB2.out.mono HB1.out.size), .inr ⟨HA.out, rfl⟩⟩
end Go.Proofs.YtbegplfijjbpcaaDoor.No
