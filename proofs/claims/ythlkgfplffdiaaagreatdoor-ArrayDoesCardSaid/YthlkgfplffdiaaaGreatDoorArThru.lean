/- Going through a pair (by wip/gen/mkarthru.py). -/
import Derived.Test.YthlkgfplffdiaaaGreatDoorArOwn
import Derived.Test.YthlkgfplffdiaaaGreatDoorArVal
import Derived.Shelf.AbstractIn
import Derived.Maps.OwnIn
import Derived.Deep.AppendLies
namespace Go.Proofs.YthlkgfplffdiaaaGreatDoor.Ar
open Go Go.RowKit Go.Shelf
attribute [local go_sem] Oper.semAt_some

set_option maxRecDepth 100000 in
theorem items_c (a b : Ary) (sa ta : Option Addr) (sn tn sc tc : Nat) (w : World) : Calls Tryz.prog 63 #[pairV a b (.slice sa sn sc) (.slice ta tn tc)] w fun e w' => e = .returned (.func (.func 101) #[] #[.pointer (some ⟨w.heap.size, 0, none⟩)]) ∧ w' = w.alloc (.cells #[.bool a.list, .bool a.runes, .slice sa sn sc, .bool b.list, .bool b.runes, .slice ta tn tc] 57) := by
  go_enter Tryz.func63, Tryz.ntmps63
  go_wp2
  go_ret
  exact ⟨rfl, rfl⟩
set_option maxRecDepth 100000 in
set_option maxHeartbeats 4000000 in
theorem through_c (a b : Ary) (s t fv : Value) (h : Int → Int → Int × Int) (w : World) (hs : KL w s a.n) (ht : KL w t b.n) (ia : InL a.n) (ib : InL b.n) (hf : Fits a b) (hl : lenP a b ≤ 200) (hfn : FnOK w fv h) :
    Calls Tryz.prog 38 #[pairV a b s t, fv] w fun e w' => ThrOut h a b w e w' := by
  obtain ⟨PL, hPL⟩ : ∃ PL, PL = pairsA a b := ⟨_, rfl⟩
  have HPL := Lib.hid hPL
  have HFS := Lib.hid hf
  obtain ⟨N, hN⟩ : ∃ N, N = lenP a b := ⟨_, rfl⟩
  have HN := Lib.hid hN
  obtain ⟨sa, sc, hsf, -, -⟩ := hs.form
  obtain ⟨ta, tc, htf, -, -⟩ := ht.form
  obtain ⟨sn, hsn⟩ : ∃ sn, sn = a.n.length := ⟨_, rfl⟩
  obtain ⟨tn, htn⟩ : ∃ tn, tn = b.n.length := ⟨_, rfl⟩
  rw [← hsn] at hsf
  rw [← htn] at htf
  subst hsf htf
  obtain ⟨f, p, rfl, eo, hcall⟩ := hfn
  have HLN := Lib.hid (fun W (h : Below w.heap.size w W) => length_c a b _ _ W (hs.below h) (ht.below h))
  rw [← hN] at hl HLN
  have HS := Lib.hid hs
  have HT := Lib.hid ht
  have HIA := Lib.hid ia
  have HIB := Lib.hid ib
  have HCALL := Lib.hid hcall
  unfold ThrOut
  rw [← hPL]
  obtain ⟨aL, aR, aN⟩ := a
  obtain ⟨bL, bR, bN⟩ := b
  dsimp only [pairV] at *
  clear hs ht hcall hf ia ib hsn htn hN hPL
  obtain ⟨w0, hw0⟩ : ∃ w0, w0 = ((w.alloc (.cells #[.bool aL, .bool aR, .slice sa sn sc, .bool bL, .bool bR, .slice ta tn tc] 57)).alloc (.cells #[.func (.func f) #[] #[.pointer (some ⟨p, 0, none⟩)]] 66)).alloc (.cells #[.bool false, .bool false, .slice none 0 0] 24) := ⟨_, rfl⟩
  have hb0 : Below w.heap.size w w0 := by rw [hw0]; exact (((Below.refl _ w).alloc (Nat.le_refl _) _).alloc (by simp) _).alloc (by simp; omega) _
  have r1 : Row w0 w.heap.size 57 #[.bool aL, .bool aR, .slice sa sn sc, .bool bL, .bool bR, .slice ta tn tc] := by rw [hw0]; exact ((Row.new _ _ _).alloc _).alloc _
  have r2 : Row w0 (w.heap.size + 1) 66 #[.func (.func f) #[] #[.pointer (some ⟨p, 0, none⟩)]] := by rw [hw0]; exact (Row.at _ _ _ _ (by simp)).alloc _
  have r3 : Row w0 (w.heap.size + 1 + 1) 24 #[.bool false, .bool false, .slice none 0 0] := by rw [hw0]; exact Row.at _ _ _ _ (by simp)
  have hsz : w0.heap.size = w.heap.size + 3 := by rw [hw0]; simp
  have HW0 := Lib.hid hw0
  have HB0 := Lib.hid hb0
  have HR1 := Lib.hid r1
  have HR2 := Lib.hid r2
  have HR3 := Lib.hid r3
  have HSZ := Lib.hid hsz
  clear hw0 hb0 r1 r2 r3 hsz
  refine (callsIn_wide (n := 9)).1 ?_
  refine callsIn_of_wp_marks Tryz.func38 rfl trivial ?_ rfl
  simp only [Tryz.ntmps38, List.size_toArray, List.length_cons, List.length_nil, Nat.reduceAdd, Nat.reduceSub, Array.replicate_succ, Array.replicate_zero, List.push_toArray, List.append_toArray, List.nil_append, List.cons_append]
  refine wpIn_wide.2 ?_
  go_wp2_with fail
  refine wp_scope_straight ?_
  go_wp2_with fail
  rename_i Q' K hK
  rw [← HW0.out]
  obtain ⟨h0, hh⟩ : ∃ h, h = w.heap.size := ⟨_, rfl⟩
  have HH := Lib.hid hh
  rw [← hh] at HR1 HR2 HR3 HSZ HB0 HLN HCALL ⊢
  clear hh
  suffices hcont : ∀ (u12 u13 u14 u15 u16 u17 u18 u19 u20 u21 u22 u23 : Value) (B6 : Nat) (sv : Value) (W : World), Below w0.heap.size w0 W → w0.heap.size ≤ B6 → Row W B6 24 #[.bool (aL || bL), .bool false, sv] → IOwn W w0.heap.size sv [] → K { tmps := #[.agg #[.bool aL, .bool aR, .slice sa sn sc, .bool bL, .bool bR, .slice ta tn tc], .func (.func f) #[] #[.pointer (some ⟨p, 0, none⟩)], .pointer (some ⟨h0, 0, none⟩), .pointer (some ⟨h0 + 1, 0, none⟩), .pointer (some ⟨h0 + 1 + 1, 0, none⟩), .nilIface, .pointer (some ⟨B6, 0, none⟩), undef, undef, undef, undef, undef, u12, u13, u14, u15, u16, u17, u18, u19, u20, u21, u22, u23, undef, undef, undef, undef, undef, undef, undef, undef, undef, undef, undef, undef, undef, undef, undef, undef, undef, undef, undef, undef, undef, undef, undef, undef, undef], defers := [] } W by
    obtain ⟨i0, hi, hz0, hz1, hz2⟩ := infoI
    obtain ⟨M, hM⟩ : ∃ M, M = madeCells (Value.int .i64 0).cells (N * 1) := ⟨_, rfl⟩
    have hmk : ∀ W : World, (Instr.makeSlice 22 (.int .i64 0) (.int .i64 (N : Int))).run Tryz.prog W = .ok (.slice (some ⟨W.heap.size, 0, none⟩) 0 N) (W.alloc (.cells M 2)) := fun W => by
      have h := run_make (P := Tryz.prog) W 22 2 i0 _ Tryz.underlying22 hi hz0 .i64 .i64 0 (N : Int) (by omega) (by omega) (by rw [hz2]; omega) (by omega)
      rw [hz1] at h
      rw [hM]
      exact h
    have HOWN : Hid (∀ W : World, w0.heap.size ≤ W.heap.size → IOwn (W.alloc (.cells M 2)) w0.heap.size (.slice (some ⟨W.heap.size, 0, none⟩) 0 N) []) := Lib.hid (fun W hW => World.ownsRow_made W M N hW (by unfold maxLen; omega) (by rw [hM]; exact size_madeCells _ _))
    have HC := Lib.hid hcont
    have HLT : Hid (∀ W, Below w0.heap.size w0 W → W.cell? ⟨h0, 0, none⟩ = some (.bool aL) ∧ W.cell? ⟨h0, 1, none⟩ = some (.bool aR) ∧ W.cell? ⟨h0, 2, none⟩ = some (.slice sa sn sc) ∧ W.cell? ⟨h0, 3, none⟩ = some (.bool bL) ∧ W.cell? ⟨h0, 4, none⟩ = some (.bool bR) ∧ W.cell? ⟨h0, 5, none⟩ = some (.slice ta tn tc)) := Lib.hid (fun W hW => by
      have hs := HSZ.out
      have r := HR1.out.below hW (by omega)
      have c0 := r.cell 0
      have c1 := r.cell 1
      have c2 := r.cell 2
      have c3 := r.cell 3
      have c4 := r.cell 4
      have c5 := r.cell 5
      simp at c0 c1 c2 c3 c4 c5
      exact ⟨c0, c1, c2, c3, c4, c5⟩)
    clear hM hz0 hz1 hz2 hi hcont
    cases aL
    · skip
      refine (wpIn_wide (n := 9)).1 ?_
      refine wpIn_region_lastG (by kernel_rfl) (by kernel_rfl) 13 (by decide) (by decide) (PhT w0.heap.size [(.pointer (some ⟨h0, 0, none⟩) : Value), .pointer (some ⟨h0, 0, none⟩), .bool false, .bool false, .pointer (some ⟨h0, 3, none⟩), .pointer (some ⟨h0, 3, none⟩), .bool bL, .bool bL, .agg #[.bool false, .bool aR, .slice sa sn sc, .bool bL, .bool bR, .slice ta tn tc], .int .i64 (N : Int)] N (false || bL)) (fun i v W W2 => PhT.below) ?_ ?_
      · intro i oo listed a' W val ho hz haf hS hbw hF
        obtain rfl | rfl | rfl | rfl | rfl | rfl | rfl | rfl | rfl | rfl | rfl | rfl | rfl : i = 0 ∨ i = 1 ∨ i = 2 ∨ i = 3 ∨ i = 4 ∨ i = 5 ∨ i = 6 ∨ i = 7 ∨ i = 8 ∨ i = 9 ∨ i = 10 ∨ i = 11 ∨ i = 12 := by omega
        · cases ho
          refine opG_plain rfl rfl ?_
          have q2 : a'.tmps[2]? = some (.pointer (some ⟨h0, 0, none⟩)) := (hS.tmpBase 2 (by kernel_rfl)).trans rfl
          refine op_valv (.pointer (some ⟨h0, 0, none⟩)) W (fun _ _ => trivial) ?_ ⟨Below.refl _ _, rfl⟩
          rw [Oper.semAt_plain _ _ _ (by intro c h; cases h)]
          simp [execOp, q2, go_sem]
        · cases ho
          refine opG_plain rfl rfl ?_
          have l0 : listed.getD 0 false = true := haf ⟨0, .data⟩ (Array.mem_of_getElem? (i := 0) rfl) rfl
          have q12 : a'.tmps[12]? = some (val 0) := hS.tmpSet 0 _ 12 rfl rfl (by simp) l0
          rw [show val 0 = .pointer (some ⟨h0, 0, none⟩) from hF 0 l0] at q12
          refine op_valv (.pointer (some ⟨h0, 0, none⟩)) W (fun _ _ => trivial) ?_ ⟨Below.refl _ _, rfl⟩
          rw [Oper.semAt_plain _ _ _ (by intro c h; cases h)]
          simp [execOp, q12, go_sem]
        · cases ho
          refine opG_plain rfl rfl ?_
          have l1 : listed.getD 1 false = true := haf ⟨1, .data⟩ (Array.mem_of_getElem? (i := 0) rfl) rfl
          have q13 : a'.tmps[13]? = some (val 1) := hS.tmpSet 1 _ 13 rfl rfl (by simp) l1
          rw [show val 1 = .pointer (some ⟨h0, 0, none⟩) from hF 1 l1] at q13
          obtain ⟨z0, z1, z2, z3, z4, z5⟩ := HLT.out W hbw
          refine op_valv (.bool false) W (fun _ _ => trivial) ?_ ⟨Below.refl _ _, rfl⟩
          rw [Oper.semAt_plain _ _ _ (by intro c h; cases h)]
          simp [execOp, q13, z0, go_sem]
        · cases ho
          refine opG_plain rfl rfl ?_
          have l2 : listed.getD 2 false = true := haf ⟨2, .data⟩ (Array.mem_of_getElem? (i := 0) rfl) rfl
          have q14 : a'.tmps[14]? = some (val 2) := hS.tmpSet 2 _ 14 rfl rfl (by simp) l2
          rw [show val 2 = .bool false from hF 2 l2] at q14
          refine op_valv (.bool false) W (fun _ _ => trivial) ?_ ⟨Below.refl _ _, rfl⟩
          rw [Oper.semAt_plain _ _ _ (by intro c h; cases h)]
          simp [execOp, q14, go_sem]
        · cases ho
          have lg : listed.getD 3 false = true := haf ⟨3, .guard⟩ (Array.mem_of_getElem? (i := 0) rfl) rfl
          have qg : a'.tmps[15]? = some (val 3) := hS.tmpSet 3 _ 15 rfl rfl (by simp) lg
          rw [show val 3 = .bool false from hF 3 lg] at qg
          refine opG_want rfl rfl rfl rfl qg ?_
          have q2 : a'.tmps[2]? = some (.pointer (some ⟨h0, 0, none⟩)) := (hS.tmpBase 2 (by kernel_rfl)).trans rfl
          refine op_valv (.pointer (some ⟨h0, 3, none⟩)) W (fun _ _ => trivial) ?_ ⟨Below.refl _ _, rfl⟩
          rw [Oper.semAt_plain _ _ _ (by intro c h; cases h)]
          simp [execOp, q2, go_sem]
        · cases ho
          have lg : listed.getD 3 false = true := haf ⟨3, .guard⟩ (Array.mem_of_getElem? (i := 1) rfl) rfl
          have qg : a'.tmps[15]? = some (val 3) := hS.tmpSet 3 _ 15 rfl rfl (by simp) lg
          rw [show val 3 = .bool false from hF 3 lg] at qg
          refine opG_want rfl rfl rfl rfl qg ?_
          have l4 : listed.getD 4 false = true := haf ⟨4, .data⟩ (Array.mem_of_getElem? (i := 0) rfl) rfl
          have q16 : a'.tmps[16]? = some (val 4) := hS.tmpSet 4 _ 16 rfl rfl (by simp) l4
          rw [show val 4 = .pointer (some ⟨h0, 3, none⟩) from hF 4 l4] at q16
          refine op_valv (.pointer (some ⟨h0, 3, none⟩)) W (fun _ _ => trivial) ?_ ⟨Below.refl _ _, rfl⟩
          rw [Oper.semAt_plain _ _ _ (by intro c h; cases h)]
          simp [execOp, q16, go_sem]
        · cases ho
          have lg : listed.getD 3 false = true := haf ⟨3, .guard⟩ (Array.mem_of_getElem? (i := 1) rfl) rfl
          have qg : a'.tmps[15]? = some (val 3) := hS.tmpSet 3 _ 15 rfl rfl (by simp) lg
          rw [show val 3 = .bool false from hF 3 lg] at qg
          refine opG_want rfl rfl rfl rfl qg ?_
          have l5 : listed.getD 5 false = true := haf ⟨5, .data⟩ (Array.mem_of_getElem? (i := 0) rfl) rfl
          have q17 : a'.tmps[17]? = some (val 5) := hS.tmpSet 5 _ 17 rfl rfl (by simp) l5
          rw [show val 5 = .pointer (some ⟨h0, 3, none⟩) from hF 5 l5] at q17
          obtain ⟨z0, z1, z2, z3, z4, z5⟩ := HLT.out W hbw
          refine op_valv (.bool bL) W (fun _ _ => trivial) ?_ ⟨Below.refl _ _, rfl⟩
          rw [Oper.semAt_plain _ _ _ (by intro c h; cases h)]
          simp [execOp, q17, z3, go_sem]
        · cases ho
          refine opG_plain rfl rfl ?_
          have l3 : listed.getD 3 false = true := haf ⟨3, .data⟩ (Array.mem_of_getElem? (i := 0) rfl) rfl
          have q15 : a'.tmps[15]? = some (val 3) := hS.tmpSet 3 _ 15 rfl rfl (by simp) l3
          rw [show val 3 = .bool false from hF 3 l3] at q15
          have l6 : listed.getD 6 false = true := haf ⟨6, .data⟩ (Array.mem_of_getElem? (i := 1) rfl) rfl
          have q18 : a'.tmps[18]? = some (val 6) := hS.tmpSet 6 _ 18 rfl rfl (by simp) l6
          rw [show val 6 = .bool bL from hF 6 l6] at q18
          refine op_valv (.bool bL) W (fun _ _ => trivial) ?_ ⟨Below.refl _ _, rfl⟩
          rw [Oper.semAt_plain _ _ _ (by intro c h; cases h)]
          simp [execOp, q15, q18, go_sem]
        · cases ho
          refine opG_plain rfl rfl ?_
          have q2 : a'.tmps[2]? = some (.pointer (some ⟨h0, 0, none⟩)) := (hS.tmpBase 2 (by kernel_rfl)).trans rfl
          obtain ⟨z0, z1, z2, z3, z4, z5⟩ := HLT.out W hbw
          refine op_valv (.agg #[.bool false, .bool aR, .slice sa sn sc, .bool bL, .bool bR, .slice ta tn tc]) W (fun _ _ => trivial) ?_ ⟨Below.refl _ _, rfl⟩
          rw [Oper.semAt_plain _ _ _ (by intro c h; cases h)]
          simp [execOp, q2, z0, z1, z2, z3, z4, z5, go_sem]
        · cases ho
          refine opG_plain rfl rfl ?_
          have l8 : listed.getD 8 false = true := haf ⟨8, .data⟩ (Array.mem_of_getElem? (i := 0) rfl) rfl
          have q20 : a'.tmps[20]? = some (val 8) := hS.tmpSet 8 _ 20 rfl rfl (by simp) l8
          rw [show val 8 = .agg #[.bool false, .bool aR, .slice sa sn sc, .bool bL, .bool bR, .slice ta tn tc] from hF 8 l8] at q20
          refine op_callv 62 #[.agg #[.bool false, .bool aR, .slice sa sn sc, .bool bL, .bool bR, .slice ta tn tc]] (fun _ _ => trivial) ?_ (by omega) ((callsIn_wide.2 (HLN.out W (HB0.out.trans (hbw.mono (by have := HSZ.out; omega))))).mono ?_)
          · rw [Oper.semAt_plain _ _ _ (by intro c h; cases h)]
            simp [execOp, q20, go_sem]
          · rintro e W2 ⟨rfl, rfl⟩
            exact ⟨_, rfl, (Below.refl _ _).alloc (Nat.le_refl _) _, rfl⟩
        · cases ho
          refine opG_plain rfl rfl ?_
          have l9 : listed.getD 9 false = true := haf ⟨9, .data⟩ (Array.mem_of_getElem? (i := 0) rfl) rfl
          have q21 : a'.tmps[21]? = some (val 9) := hS.tmpSet 9 _ 21 rfl rfl (by simp) l9
          rw [show val 9 = .int .i64 (N : Int) from hF 9 l9] at q21
          refine op_valv (.slice (some ⟨W.heap.size, 0, none⟩) 0 N) (W.alloc (.cells M 2)) (fun _ _ => trivial) ?_ ⟨(Below.refl _ _).alloc (Nat.le_refl _) _, W.heap.size, rfl, HOWN.out W hbw.size⟩
          rw [Oper.semAt_plain _ _ _ (by intro c h; cases h)]
          simp [execOp, q21, hmk W, Result.andThen, go_sem]
        · cases ho
          refine opG_plain rfl rfl ?_
          have l7 : listed.getD 7 false = true := haf ⟨7, .data⟩ (Array.mem_of_getElem? (i := 0) rfl) rfl
          have q19 : a'.tmps[19]? = some (val 7) := hS.tmpSet 7 _ 19 rfl rfl (by simp) l7
          rw [show val 7 = .bool bL from hF 7 l7] at q19
          have l10 : listed.getD 10 false = true := haf ⟨10, .data⟩ (Array.mem_of_getElem? (i := 1) rfl) rfl
          have q22 : a'.tmps[22]? = some (val 10) := hS.tmpSet 10 _ 22 rfl rfl (by simp) l10
          obtain ⟨g, hg, hown⟩ : ∃ g, val 10 = .slice (some ⟨g, 0, none⟩) 0 N ∧ IOwn W w0.heap.size (.slice (some ⟨g, 0, none⟩) 0 N) [] := hF 10 l10
          rw [hg] at q22
          refine op_valv (.agg #[.bool (false || bL), .bool false, .slice (some ⟨g, 0, none⟩) 0 N]) W (fun _ _ => trivial) ?_ ⟨Below.refl _ _, g, rfl, hown⟩
          rw [Oper.semAt_plain _ _ _ (by intro c h; cases h)]
          simp [execOp, q19, q22, go_sem]
        · cases ho
          refine opG_plain rfl rfl ?_
          refine op_valv (.pointer (some ⟨W.heap.size, 0, none⟩)) (W.alloc (.cells #[.bool false, .bool false, .slice none 0 0] 24)) (fun _ _ => trivial) ?_ ⟨(Below.refl _ _).alloc (Nat.le_refl _) _, W.heap.size, rfl, hbw.size, Row.new _ _ _⟩
          rw [Oper.semAt_plain _ _ _ (by intro c h; cases h)]
          simp [execOp, go_sem]
      · intro oo listed a' W val ho haf hS hbw hF
        cases ho
        refine opG_plain rfl rfl ?_
        have l12 := (hF 12 (by omega)).1
        have q6 : a'.tmps[6]? = some (val 12) := hS.tmpSet 12 _ 6 rfl rfl (by simp) l12
        have l11 := (hF 11 (by omega)).1
        have q23 : a'.tmps[23]? = some (val 11) := hS.tmpSet 11 _ 23 rfl rfl (by simp) l11
        obtain ⟨B6, e12, hB6, hr⟩ : ∃ b, val 12 = .pointer (some ⟨b, 0, none⟩) ∧ w0.heap.size ≤ b ∧ Row W b 24 #[.bool false, .bool false, .slice none 0 0] := (hF 12 (by omega)).2
        obtain ⟨g, e11, hown⟩ : ∃ g, val 11 = .agg #[.bool (false || bL), .bool false, .slice (some ⟨g, 0, none⟩) 0 N] ∧ IOwn W w0.heap.size (.slice (some ⟨g, 0, none⟩) 0 N) [] := (hF 11 (by omega)).2
        rw [e12] at q6
        rw [e11] at q23
        obtain ⟨d0, d1, d2, f0, f1, f2⟩ := row3 hr
        refine op_skip (((W.setCell ⟨B6, 0, none⟩ (.bool (false || bL))).setCell ⟨B6, 1, none⟩ (.bool false)).setCell ⟨B6, 2, none⟩ (.slice (some ⟨g, 0, none⟩) 0 N)) (fun _ _ => trivial) ?_ ⟨undef, rfl, ?_⟩
        · rw [Oper.semAt_plain _ _ _ (by intro c h; cases h)]
          simp [execOp, q6, q23, d0, d1, d2, f0, f1, f2, go_sem]
        · have e0 : val 0 = .pointer (some ⟨h0, 0, none⟩) := (hF 0 (by omega)).2
          have e1 : val 1 = .pointer (some ⟨h0, 0, none⟩) := (hF 1 (by omega)).2
          have e2 : val 2 = .bool false := (hF 2 (by omega)).2
          have e3 : val 3 = .bool false := (hF 3 (by omega)).2
          have e4 : val 4 = .pointer (some ⟨h0, 3, none⟩) := (hF 4 (by omega)).2
          have e5 : val 5 = .pointer (some ⟨h0, 3, none⟩) := (hF 5 (by omega)).2
          have e6 : val 6 = .bool bL := (hF 6 (by omega)).2
          have e7 : val 7 = .bool bL := (hF 7 (by omega)).2
          have e8 : val 8 = .agg #[.bool false, .bool aR, .slice sa sn sc, .bool bL, .bool bR, .slice ta tn tc] := (hF 8 (by omega)).2
          have e9 : val 9 = .int .i64 (N : Int) := (hF 9 (by omega)).2
          simp only [finAct, List.getElem?_toArray, List.getElem?_cons_zero, List.getElem?_cons_succ, Act.put, List.setIfInBounds_toArray, List.set_cons_zero, List.set_cons_succ, List.size_toArray, List.length_cons, List.length_nil, Nat.reduceAdd]
          simp only [e0, e1, e2, e3, e4, e5, e6, e7, e8, e9, e12]
          exact HC.out _ _ _ _ _ _ _ _ _ _ _ _ B6 _ _ (((hbw.setCell (p := ⟨B6, 0, none⟩) hB6 _).setCell (p := ⟨B6, 1, none⟩) hB6 _).setCell (p := ⟨B6, 2, none⟩) hB6 _) hB6 (row_set3 hr _ _ _) (own_off3 hown hr _ _ _)
    · skip
      refine (wpIn_wide (n := 9)).1 ?_
      refine wpIn_region_lastG (by kernel_rfl) (by kernel_rfl) 13 (by decide) (by decide) (PhT w0.heap.size [(.pointer (some ⟨h0, 0, none⟩) : Value), .pointer (some ⟨h0, 0, none⟩), .bool true, .bool true, undef, undef, undef, .bool true, .agg #[.bool true, .bool aR, .slice sa sn sc, .bool bL, .bool bR, .slice ta tn tc], .int .i64 (N : Int)] N (true || bL)) (fun i v W W2 => PhT.below) ?_ ?_
      · intro i oo listed a' W val ho hz haf hS hbw hF
        obtain rfl | rfl | rfl | rfl | rfl | rfl | rfl | rfl | rfl | rfl | rfl | rfl | rfl : i = 0 ∨ i = 1 ∨ i = 2 ∨ i = 3 ∨ i = 4 ∨ i = 5 ∨ i = 6 ∨ i = 7 ∨ i = 8 ∨ i = 9 ∨ i = 10 ∨ i = 11 ∨ i = 12 := by omega
        · cases ho
          refine opG_plain rfl rfl ?_
          have q2 : a'.tmps[2]? = some (.pointer (some ⟨h0, 0, none⟩)) := (hS.tmpBase 2 (by kernel_rfl)).trans rfl
          refine op_valv (.pointer (some ⟨h0, 0, none⟩)) W (fun _ _ => trivial) ?_ ⟨Below.refl _ _, rfl⟩
          rw [Oper.semAt_plain _ _ _ (by intro c h; cases h)]
          simp [execOp, q2, go_sem]
        · cases ho
          refine opG_plain rfl rfl ?_
          have l0 : listed.getD 0 false = true := haf ⟨0, .data⟩ (Array.mem_of_getElem? (i := 0) rfl) rfl
          have q12 : a'.tmps[12]? = some (val 0) := hS.tmpSet 0 _ 12 rfl rfl (by simp) l0
          rw [show val 0 = .pointer (some ⟨h0, 0, none⟩) from hF 0 l0] at q12
          refine op_valv (.pointer (some ⟨h0, 0, none⟩)) W (fun _ _ => trivial) ?_ ⟨Below.refl _ _, rfl⟩
          rw [Oper.semAt_plain _ _ _ (by intro c h; cases h)]
          simp [execOp, q12, go_sem]
        · cases ho
          refine opG_plain rfl rfl ?_
          have l1 : listed.getD 1 false = true := haf ⟨1, .data⟩ (Array.mem_of_getElem? (i := 0) rfl) rfl
          have q13 : a'.tmps[13]? = some (val 1) := hS.tmpSet 1 _ 13 rfl rfl (by simp) l1
          rw [show val 1 = .pointer (some ⟨h0, 0, none⟩) from hF 1 l1] at q13
          obtain ⟨z0, z1, z2, z3, z4, z5⟩ := HLT.out W hbw
          refine op_valv (.bool true) W (fun _ _ => trivial) ?_ ⟨Below.refl _ _, rfl⟩
          rw [Oper.semAt_plain _ _ _ (by intro c h; cases h)]
          simp [execOp, q13, z0, go_sem]
        · cases ho
          refine opG_plain rfl rfl ?_
          have l2 : listed.getD 2 false = true := haf ⟨2, .data⟩ (Array.mem_of_getElem? (i := 0) rfl) rfl
          have q14 : a'.tmps[14]? = some (val 2) := hS.tmpSet 2 _ 14 rfl rfl (by simp) l2
          rw [show val 2 = .bool true from hF 2 l2] at q14
          refine op_valv (.bool true) W (fun _ _ => trivial) ?_ ⟨Below.refl _ _, rfl⟩
          rw [Oper.semAt_plain _ _ _ (by intro c h; cases h)]
          simp [execOp, q14, go_sem]
        · cases ho
          have lg : listed.getD 3 false = true := haf ⟨3, .guard⟩ (Array.mem_of_getElem? (i := 0) rfl) rfl
          have qg : a'.tmps[15]? = some (val 3) := hS.tmpSet 3 _ 15 rfl rfl (by simp) lg
          rw [show val 3 = .bool true from hF 3 lg] at qg
          exact opG_out rfl rfl rfl rfl qg (fun _ _ => trivial) ⟨undef, rfl, Below.refl _ _, rfl⟩
        · cases ho
          have lg : listed.getD 3 false = true := haf ⟨3, .guard⟩ (Array.mem_of_getElem? (i := 1) rfl) rfl
          have qg : a'.tmps[15]? = some (val 3) := hS.tmpSet 3 _ 15 rfl rfl (by simp) lg
          rw [show val 3 = .bool true from hF 3 lg] at qg
          exact opG_out rfl rfl rfl rfl qg (fun _ _ => trivial) ⟨undef, rfl, Below.refl _ _, rfl⟩
        · cases ho
          have lg : listed.getD 3 false = true := haf ⟨3, .guard⟩ (Array.mem_of_getElem? (i := 1) rfl) rfl
          have qg : a'.tmps[15]? = some (val 3) := hS.tmpSet 3 _ 15 rfl rfl (by simp) lg
          rw [show val 3 = .bool true from hF 3 lg] at qg
          exact opG_out rfl rfl rfl rfl qg (fun _ _ => trivial) ⟨undef, rfl, Below.refl _ _, rfl⟩
        · cases ho
          refine opG_plain rfl rfl ?_
          have l3 : listed.getD 3 false = true := haf ⟨3, .data⟩ (Array.mem_of_getElem? (i := 0) rfl) rfl
          have q15 : a'.tmps[15]? = some (val 3) := hS.tmpSet 3 _ 15 rfl rfl (by simp) l3
          rw [show val 3 = .bool true from hF 3 l3] at q15
          have l6 : listed.getD 6 false = true := haf ⟨6, .data⟩ (Array.mem_of_getElem? (i := 1) rfl) rfl
          have q18 : a'.tmps[18]? = some (val 6) := hS.tmpSet 6 _ 18 rfl rfl (by simp) l6
          rw [show val 6 = undef from hF 6 l6] at q18
          refine op_valv (.bool true) W (fun _ _ => trivial) ?_ ⟨Below.refl _ _, rfl⟩
          rw [Oper.semAt_plain _ _ _ (by intro c h; cases h)]
          simp [execOp, q15, q18, go_sem]
        · cases ho
          refine opG_plain rfl rfl ?_
          have q2 : a'.tmps[2]? = some (.pointer (some ⟨h0, 0, none⟩)) := (hS.tmpBase 2 (by kernel_rfl)).trans rfl
          obtain ⟨z0, z1, z2, z3, z4, z5⟩ := HLT.out W hbw
          refine op_valv (.agg #[.bool true, .bool aR, .slice sa sn sc, .bool bL, .bool bR, .slice ta tn tc]) W (fun _ _ => trivial) ?_ ⟨Below.refl _ _, rfl⟩
          rw [Oper.semAt_plain _ _ _ (by intro c h; cases h)]
          simp [execOp, q2, z0, z1, z2, z3, z4, z5, go_sem]
        · cases ho
          refine opG_plain rfl rfl ?_
          have l8 : listed.getD 8 false = true := haf ⟨8, .data⟩ (Array.mem_of_getElem? (i := 0) rfl) rfl
          have q20 : a'.tmps[20]? = some (val 8) := hS.tmpSet 8 _ 20 rfl rfl (by simp) l8
          rw [show val 8 = .agg #[.bool true, .bool aR, .slice sa sn sc, .bool bL, .bool bR, .slice ta tn tc] from hF 8 l8] at q20
          refine op_callv 62 #[.agg #[.bool true, .bool aR, .slice sa sn sc, .bool bL, .bool bR, .slice ta tn tc]] (fun _ _ => trivial) ?_ (by omega) ((callsIn_wide.2 (HLN.out W (HB0.out.trans (hbw.mono (by have := HSZ.out; omega))))).mono ?_)
          · rw [Oper.semAt_plain _ _ _ (by intro c h; cases h)]
            simp [execOp, q20, go_sem]
          · rintro e W2 ⟨rfl, rfl⟩
            exact ⟨_, rfl, (Below.refl _ _).alloc (Nat.le_refl _) _, rfl⟩
        · cases ho
          refine opG_plain rfl rfl ?_
          have l9 : listed.getD 9 false = true := haf ⟨9, .data⟩ (Array.mem_of_getElem? (i := 0) rfl) rfl
          have q21 : a'.tmps[21]? = some (val 9) := hS.tmpSet 9 _ 21 rfl rfl (by simp) l9
          rw [show val 9 = .int .i64 (N : Int) from hF 9 l9] at q21
          refine op_valv (.slice (some ⟨W.heap.size, 0, none⟩) 0 N) (W.alloc (.cells M 2)) (fun _ _ => trivial) ?_ ⟨(Below.refl _ _).alloc (Nat.le_refl _) _, W.heap.size, rfl, HOWN.out W hbw.size⟩
          rw [Oper.semAt_plain _ _ _ (by intro c h; cases h)]
          simp [execOp, q21, hmk W, Result.andThen, go_sem]
        · cases ho
          refine opG_plain rfl rfl ?_
          have l7 : listed.getD 7 false = true := haf ⟨7, .data⟩ (Array.mem_of_getElem? (i := 0) rfl) rfl
          have q19 : a'.tmps[19]? = some (val 7) := hS.tmpSet 7 _ 19 rfl rfl (by simp) l7
          rw [show val 7 = .bool true from hF 7 l7] at q19
          have l10 : listed.getD 10 false = true := haf ⟨10, .data⟩ (Array.mem_of_getElem? (i := 1) rfl) rfl
          have q22 : a'.tmps[22]? = some (val 10) := hS.tmpSet 10 _ 22 rfl rfl (by simp) l10
          obtain ⟨g, hg, hown⟩ : ∃ g, val 10 = .slice (some ⟨g, 0, none⟩) 0 N ∧ IOwn W w0.heap.size (.slice (some ⟨g, 0, none⟩) 0 N) [] := hF 10 l10
          rw [hg] at q22
          refine op_valv (.agg #[.bool (true || bL), .bool false, .slice (some ⟨g, 0, none⟩) 0 N]) W (fun _ _ => trivial) ?_ ⟨Below.refl _ _, g, rfl, hown⟩
          rw [Oper.semAt_plain _ _ _ (by intro c h; cases h)]
          simp [execOp, q19, q22, go_sem]
        · cases ho
          refine opG_plain rfl rfl ?_
          refine op_valv (.pointer (some ⟨W.heap.size, 0, none⟩)) (W.alloc (.cells #[.bool false, .bool false, .slice none 0 0] 24)) (fun _ _ => trivial) ?_ ⟨(Below.refl _ _).alloc (Nat.le_refl _) _, W.heap.size, rfl, hbw.size, Row.new _ _ _⟩
          rw [Oper.semAt_plain _ _ _ (by intro c h; cases h)]
          simp [execOp, go_sem]
      · intro oo listed a' W val ho haf hS hbw hF
        cases ho
        refine opG_plain rfl rfl ?_
        have l12 := (hF 12 (by omega)).1
        have q6 : a'.tmps[6]? = some (val 12) := hS.tmpSet 12 _ 6 rfl rfl (by simp) l12
        have l11 := (hF 11 (by omega)).1
        have q23 : a'.tmps[23]? = some (val 11) := hS.tmpSet 11 _ 23 rfl rfl (by simp) l11
        obtain ⟨B6, e12, hB6, hr⟩ : ∃ b, val 12 = .pointer (some ⟨b, 0, none⟩) ∧ w0.heap.size ≤ b ∧ Row W b 24 #[.bool false, .bool false, .slice none 0 0] := (hF 12 (by omega)).2
        obtain ⟨g, e11, hown⟩ : ∃ g, val 11 = .agg #[.bool (true || bL), .bool false, .slice (some ⟨g, 0, none⟩) 0 N] ∧ IOwn W w0.heap.size (.slice (some ⟨g, 0, none⟩) 0 N) [] := (hF 11 (by omega)).2
        rw [e12] at q6
        rw [e11] at q23
        obtain ⟨d0, d1, d2, f0, f1, f2⟩ := row3 hr
        refine op_skip (((W.setCell ⟨B6, 0, none⟩ (.bool (true || bL))).setCell ⟨B6, 1, none⟩ (.bool false)).setCell ⟨B6, 2, none⟩ (.slice (some ⟨g, 0, none⟩) 0 N)) (fun _ _ => trivial) ?_ ⟨undef, rfl, ?_⟩
        · rw [Oper.semAt_plain _ _ _ (by intro c h; cases h)]
          simp [execOp, q6, q23, d0, d1, d2, f0, f1, f2, go_sem]
        · have e0 : val 0 = .pointer (some ⟨h0, 0, none⟩) := (hF 0 (by omega)).2
          have e1 : val 1 = .pointer (some ⟨h0, 0, none⟩) := (hF 1 (by omega)).2
          have e2 : val 2 = .bool true := (hF 2 (by omega)).2
          have e3 : val 3 = .bool true := (hF 3 (by omega)).2
          have e4 : val 4 = undef := (hF 4 (by omega)).2
          have e5 : val 5 = undef := (hF 5 (by omega)).2
          have e6 : val 6 = undef := (hF 6 (by omega)).2
          have e7 : val 7 = .bool true := (hF 7 (by omega)).2
          have e8 : val 8 = .agg #[.bool true, .bool aR, .slice sa sn sc, .bool bL, .bool bR, .slice ta tn tc] := (hF 8 (by omega)).2
          have e9 : val 9 = .int .i64 (N : Int) := (hF 9 (by omega)).2
          simp only [finAct, List.getElem?_toArray, List.getElem?_cons_zero, List.getElem?_cons_succ, Act.put, List.setIfInBounds_toArray, List.set_cons_zero, List.set_cons_succ, List.size_toArray, List.length_cons, List.length_nil, Nat.reduceAdd]
          simp only [e0, e1, e2, e3, e4, e5, e6, e7, e8, e9, e12]
          exact HC.out _ _ _ _ _ _ _ _ _ _ _ _ B6 _ _ (((hbw.setCell (p := ⟨B6, 0, none⟩) hB6 _).setCell (p := ⟨B6, 1, none⟩) hB6 _).setCell (p := ⟨B6, 2, none⟩) hB6 _) hB6 (row_set3 hr _ _ _) (own_off3 hown hr _ _ _)
  intro u12 u13 u14 u15 u16 u17 u18 u19 u20 u21 u22 u23 B6 sv W hbW hB6 hr6 hown
  refine hK _ _ ?_
  clear hK
  dsimp only
  go_wp2_with fail
  refine wp_label ?_
  obtain ⟨B7, hB7⟩ : ∃ B7, B7 = W.heap.size := ⟨_, rfl⟩
  obtain ⟨W7, hW7⟩ : ∃ W7, W7 = W.alloc (.cells #[.nilIface] 40) := ⟨_, rfl⟩
  have hb7 : Below w0.heap.size w0 W7 := by rw [hW7]; exact hbW.alloc hbW.size _
  have r7 : Row W7 B7 40 #[.nilIface] := by rw [hW7, hB7]; exact Row.new _ _ _
  have r6 : Row W7 B6 24 #[.bool (aL || bL), .bool false, sv] := by rw [hW7]; exact hr6.alloc _
  have o7 : IOwn W7 w0.heap.size sv [] := by rw [hW7]; exact hown.below ((Below.refl _ _).alloc (Nat.le_refl _) _)
  have hs7 : W7.heap.size = B7 + 1 := by rw [hW7, hB7]; simp
  have h67 : B6 < B7 := by rw [hB7]; exact hr6.lt
  rw [← hW7, ← hB7]
  have hlo : ∀ g, sv.ownBlock = some g → w0.heap.size ≤ g ∧ g < B7 := fun g e => by rw [hB7]; exact own_base hown e
  clear hW7 hB7 hbW hr6 hown
  have hrow : Row W7 h0 57 #[.bool aL, .bool aR, .slice sa sn sc, .bool bL, .bool bR, .slice ta tn tc] := HR1.out.below hb7 (by have := HSZ.out; omega)
  have c0 := hrow.cell 0
  have c1 := hrow.cell 1
  have c2 := hrow.cell 2
  have c3 := hrow.cell 3
  have c4 := hrow.cell 4
  have c5 := hrow.cell 5
  simp at c0 c1 c2 c3 c4 c5
  have HIT := Lib.hid (items_c ⟨aL, aR, aN⟩ ⟨bL, bR, bN⟩ sa ta sn tn sc tc W7)
  dsimp only [pairV] at HIT
  have HB7 := Lib.hid hb7
  have HR7 := Lib.hid r7
  have HR6 := Lib.hid r6
  have HO7 := Lib.hid o7
  clear hb7 r7 r6 o7 hrow
  go_wp2_with (go_at_call 63; refine HIT.out.mono ?_; rintro e w8 ⟨rfl, hw8⟩; have HW8 := Lib.hid hw8; clear hw8)
  rename_i K2 hK2
  obtain ⟨W8, hW8⟩ : ∃ W8, W8 = w8 := ⟨_, rfl⟩
  rw [← hW8]
  have e8 : W8 = W7.alloc (.cells #[.bool aL, .bool aR, .slice sa sn sc, .bool bL, .bool bR, .slice ta tn tc] 57) := by rw [hW8]; exact HW8.out
  clear HW8 hW8
  have h78 : Below W7.heap.size W7 W8 := by rw [e8]; exact (Below.refl _ _).alloc (Nat.le_refl _) _
  have hp8 : Row W8 (B7 + 1) 57 #[.bool aL, .bool aR, .slice sa sn sc, .bool bL, .bool bR, .slice ta tn tc] := by rw [e8]; exact Row.at _ _ _ _ hs7
  have hs8 : W8.heap.size = B7 + 2 := by rw [e8]; simp [hs7]
  have hsz0 := HSZ.out
  have hb8 : Below h0 w W8 := HB0.out.trans ((HB7.out.mono (by omega)).trans (h78.mono (by omega)))
  have r6 : Row W8 B6 24 #[.bool (aL || bL), .bool false, sv] := HR6.out.below h78 (by omega)
  have r7 : Row W8 B7 40 #[.nilIface] := HR7.out.below h78 (by omega)
  have o8 : IOwn W8 w0.heap.size sv [] := HO7.out.below h78
  have q1 : Row W8 h0 57 #[.bool aL, .bool aR, .slice sa sn sc, .bool bL, .bool bR, .slice ta tn tc] := (HR1.out.below HB7.out (by omega)).below h78 (by omega)
  have q2 : Row W8 (h0 + 1) 66 #[.func (.func f) #[] #[.pointer (some ⟨p, 0, none⟩)]] := (HR2.out.below HB7.out (by omega)).below h78 (by omega)
  have q3 : Row W8 (h0 + 1 + 1) 24 #[.bool false, .bool false, .slice none 0 0] := (HR3.out.below HB7.out (by omega)).below h78 (by omega)
  have hsv : sv.ownBlock ≠ some B6 := own_off o8 r6 (by decide)
  clear e8 c0 c1 c2 c3 c4 c5
  obtain ⟨X, hX⟩ : ∃ X : Nat → Prop, X = fun k => k = B6 ∨ k = B7 ∨ sv.ownBlock = some k := ⟨_, rfl⟩
  have hXlt : ∀ k, X k → w0.heap.size ≤ k ∧ k ≤ B7 := by
    intro k hk
    rw [hX] at hk
    rcases hk with rfl | rfl | hk
    · omega
    · omega
    · have := hlo k hk; omega
  obtain ⟨Kp, hKp⟩ : ∃ Kp : World → World → Prop, Kp = fun A B => A.heap.size ≤ B.heap.size ∧ ∀ k, k < B7 + 2 → k < A.heap.size → ¬ X k → B.heap[k]? = A.heap[k]? := ⟨_, rfl⟩
  have hKB : ∀ A B : World, Below A.heap.size A B → Kp A B := fun A B h => by rw [hKp]; exact ⟨h.size, fun k _ hk _ => h.block k hk⟩
  have hKt : ∀ {A B C : World}, Kp A B → Kp B C → Kp A C := fun {A B C} h g => by
    rw [hKp] at h g ⊢
    exact ⟨Nat.le_trans h.1 g.1, fun k h1 h2 h3 => (g.2 k h1 (Nat.lt_of_lt_of_le h2 h.1) h3).trans (h.2 k h1 h2 h3)⟩
  have hKs : ∀ A B : World, Kp A B → A.heap.size ≤ B.heap.size := fun A B h => by rw [hKp] at h; exact h.1
  have hKr : ∀ {Wc : World} {k : Nat} {t : TypeId} {cs : Array Value}, Kp W8 Wc → Row W8 k t cs → ¬ X k → Row Wc k t cs := fun {Wc k t cs} h hr hx => by
    rw [hKp] at h
    exact (h.2 k (by have := hr.lt; omega) hr.lt hx).trans hr
  have hKbe : ∀ {Wc : World}, Kp W8 Wc → ∀ k, k < w0.heap.size → Wc.heap[k]? = W8.heap[k]? := fun {Wc} h k hk => by
    rw [hKp] at h
    exact h.2 k (by omega) (by omega) (fun hx => by have := hXlt k hx; omega)
  have hPA : ∀ Wc, Kp W8 Wc → PairAt Wc (B7 + 1) ⟨aL, aR, aN⟩ ⟨bL, bR, bN⟩ (.slice sa sn sc) (.slice ta tn tc) := fun Wc h => by
    have hkl : ∀ {v L}, KL w v L → KL Wc v L := fun {v L} hk => by
      refine ⟨hk.form, fun hp => ?_⟩
      obtain ⟨g, o, c, e, hg, hc⟩ := hk.cells hp
      have hw : h0 = w.heap.size := HH.out
      have hgb : Wc.heap[g]? = w.heap[g]? := (hKbe h g (by omega)).trans (hb8.block g (by omega))
      refine ⟨g, o, c, e, ?_, fun j x hj => ?_⟩
      · have := hKs _ _ h; omega
      · rw [← hc j x hj]
        unfold World.cell?
        rw [hgb]
    exact ⟨hKr h hp8 (fun hx => by have := hXlt _ hx; omega), hkl HS.out, hkl HT.out⟩
  have hKbk : ∀ (W : World) (l : Nat) (r r' : Loop), W8.heap.size ≤ l → W.heap[l]? = some (.loop r) → Kp W (W.putObj l (.loop r')) := fun W l r r' hl _ => by
    rw [hKp]
    exact ⟨by simp [World.putObj], fun k h1 _ _ => World.putObj_heap_other (by omega)⟩
  have hset : ∀ (W : World) (p : Addr) (v : Value), X p.block ∨ B7 + 2 ≤ p.block → Kp W (W.setCell p v) := fun W p v hx => by
    rw [hKp]
    refine ⟨by rw [World.size_setCell]; exact Nat.le_refl _, fun k h1 _ h3 => Below.heap_setCell W p v k (fun e => ?_)⟩
    rcases hx with hx | hx
    · exact h3 (e ▸ hx)
    · omega
  have hX6 : X B6 := by rw [hX]; exact .inl rfl
  have hX7 : X B7 := by rw [hX]; exact .inr (.inl rfl)
  have hgrow : ∀ (A B : World) (o : Option Nat), A.grownBy B o → (∀ g, o = some g → X g ∨ W8.heap.size ≤ g) → Kp A B := fun A B o hg ho => by
    rw [hKp]
    refine ⟨hg.size, fun k h1 h2 h3 => hg.block k h2 (fun e => ?_)⟩
    rcases ho k e.symm with hx | hx
    · exact h3 hx
    · omega
  have g8 : h0 ≤ W8.heap.size := by omega
  have g6 : B6 < W8.heap.size := by omega
  have g7 : B7 < W8.heap.size := by omega
  have hI0 : LoopI Kp X h PL w W8 h0 w0.heap.size B6 B7 (aL || bL) [] W8 := by
    refine ⟨hKB _ _ (Below.refl _ _), hb8, ⟨PL, rfl⟩, ?_, r7, sv, r6, o8, ?_⟩
    · intro q hq
      cases hq
    · intro g e
      rw [hX]
      exact .inl (.inr (.inr e))
  have HPI : Hid (∀ q ∈ PL, Nu.In q.1 ∧ Nu.In q.2) := Lib.hid (by rw [HPL.out]; exact pairs_in HIA.out HIB.out)
  have hst := items_stops 8 (by omega) Kp hKB hKt hKs (B7 + 1) _ _ _ _ W8 hPA HFS.out
  rw [← HPL.out] at hst
  obtain ⟨i0, hi, hz0, hz1, hz2⟩ := infoI
  have HKP := Lib.hid hKp
  have HX := Lib.hid hX
  have HS8 := Lib.hid hs8
  have g9 : B7 + 2 ≤ W8.heap.size := by omega
  have g10 : W8.heap.size ≤ B7 + 2 := by omega
  have g11 : h0 + 3 ≤ w0.heap.size := by omega
  have HQ : Hid (∀ Wc, Kp W8 Wc → Row Wc h0 57 #[.bool aL, .bool aR, .slice sa sn sc, .bool bL, .bool bR, .slice ta tn tc] ∧ Row Wc (h0 + 1) 66 #[.func (.func f) #[] #[.pointer (some ⟨p, 0, none⟩)]] ∧ Row Wc (h0 + 1 + 1) 24 #[.bool false, .bool false, .slice none 0 0]) := Lib.hid (fun Wc hk => ⟨hKr hk q1 (fun hx => by have := hXlt _ hx; omega), hKr hk q2 (fun hx => by have := hXlt _ hx; omega), hKr hk q3 (fun hx => by have := hXlt _ hx; omega)⟩)
  have HXL := Lib.hid hXlt
  have HSET := Lib.hid hset
  have HGROW := Lib.hid hgrow
  have HI0 := Lib.hid hI0
  have HKS := Lib.hid hKs
  have HKB := Lib.hid hKB
  have HKT : Hid (∀ A B C : World, Kp A B → Kp B C → Kp A C) := Lib.hid (fun A B C h g => hKt h g)
  have HKBK := Lib.hid hKbk
  have HST := Lib.hid hst
  clear hPA r6 r7 o8 hp8 h78 HR7 HR6 HO7 HB7 hXlt hset hgrow hI0 hKr hKbe q1 q2 q3 hKs hKB hKt hKbk hst hb8 hsv hlo hsz0 hs8 hs7 hKp hX
  have HFIN : Hid (∀ (D : Nat) (Wc : World) (b : Bool) (xa : Option Addr) (xn xc : Nat) (ev : Value), W8.heap.size ≤ D → Kp W8 Wc → Below h0 w Wc → Row Wc B6 24 #[.bool b, .bool false, .slice xa xn xc] → Row Wc B7 40 #[ev] → (ev = .nilIface ∨ ∃ t z, ev = .iface t z) → Wc.heap[D]? = some (.deferred (some [])) →
      (∀ W', (∀ g, g ≠ h0 + 1 + 1 → g ≠ D → W'.heap[g]? = Wc.heap[g]?) → ((thrE h PL = 0 ∧ ∃ v, Ending.returned (.tuple #[.agg #[.bool b, .bool false, .slice xa xn xc], ev]) = .returned (.tuple #[.agg #[.bool (aL || bL), .bool false, v], .nilIface]) ∧ IOwn W' w.heap.size v (thrN h PL)) ∨
       (thrE h PL ≠ 0 ∧ Ending.returned (.tuple #[.agg #[.bool b, .bool false, .slice xa xn xc], ev]) = .returned (.tuple #[.agg #[.bool false, .bool false, .slice none 0 0], faultV (thrE h PL)])))) →
      K2 { tmps := #[.agg #[.bool aL, .bool aR, .slice sa sn sc, .bool bL, .bool bR, .slice ta tn tc], .func (.func f) #[] #[.pointer (some ⟨p, 0, none⟩)], .pointer (some ⟨h0, 0, none⟩), .pointer (some ⟨h0 + 1, 0, none⟩), .pointer (some ⟨h0 + 1 + 1, 0, none⟩), .nilIface, .pointer (some ⟨B6, 0, none⟩), .pointer (some ⟨B7, 0, none⟩), undef, undef, undef, undef, u12, u13, u14, u15, u16, u17, u18, u19, u20, u21, u22, u23, .agg #[.bool aL, .bool aR, .slice sa sn sc, .bool bL, .bool bR, .slice ta tn tc], .func (.func 101) #[] #[.pointer (some ⟨B7 + 1, 0, none⟩)], undef, undef, undef, undef, undef, undef, undef, undef, undef, undef, undef, undef, undef, undef, undef, undef, undef, undef, undef, undef, undef, undef, undef], defers := [{ target := .collected D, args := #[] }] } Wc) := Lib.hid (by
    intro D Wc b xa xn xc ev hD hk hbw hr6 hr7 hev hKD hpost
    obtain ⟨-, -, r4⟩ := HQ.out Wc hk
    have HR4 := Lib.hid r4
    have HBW := Lib.hid hbw
    have HKD := Lib.hid hKD
    have HPO := Lib.hid hpost
    have HHH := Lib.hid (show h0 = w.heap.size from HH.out)
    obtain ⟨c0, c1, c2, -, -, -⟩ := row3 hr6
    obtain ⟨c3, -⟩ := row1 hr7
    obtain ⟨d0, d1, d2, f0, f1, f2⟩ := row3 r4
    clear hk hbw hr6 hr7 hKD r4 hpost HST HI0 HSET HGROW HKBK HPI HXL HSZ HS8 HKP HX HR1 HR2 HR3 HLN HIT HCALL HB0 HW0
    refine hK2 _ _ ?_
    clear hK2
    dsimp only
    rcases hev with rfl | ⟨et, ez, rfl⟩
    · go_wp2
      go_region
      all_goals
        go_wp2
        try rw [Exit.noGoto_ret]
        have hk1 := (((KeepsOthers.setCell Wc ⟨h0 + 1 + 1, 0, none⟩ (.bool b)).trans (KeepsOthers.setCell _ ⟨h0 + 1 + 1, 1, none⟩ (.bool false))).trans (KeepsOthers.setCell _ ⟨h0 + 1 + 1, 2, none⟩ (.slice xa xn xc))).trans (KeepsOthers.drew _)
        have hK1 := hk1.same D _ HKD.out rfl
        have b2 := (row_set3 HR4.out (.bool b) (.bool false) (.slice xa xn xc)).drew
        have hB2 := ((((HBW.out).setCell (p := ⟨h0 + 1 + 1, 0, none⟩) (by show h0 ≤ h0 + 1 + 1; omega) (.bool b)).setCell (p := ⟨h0 + 1 + 1, 1, none⟩) (by show h0 ≤ h0 + 1 + 1; omega) (.bool false)).setCell (p := ⟨h0 + 1 + 1, 2, none⟩) (by show h0 ≤ h0 + 1 + 1; omega) (.slice xa xn xc)).drew
        have hsame : ∀ g, g ≠ h0 + 1 + 1 → (((Wc.setCell ⟨h0 + 1 + 1, 0, none⟩ (.bool b)).setCell ⟨h0 + 1 + 1, 1, none⟩ (.bool false)).setCell ⟨h0 + 1 + 1, 2, none⟩ (.slice xa xn xc)).drew.heap[g]? = Wc.heap[g]? := fun g hg => by
          show (((Wc.setCell ⟨h0 + 1 + 1, 0, none⟩ (.bool b)).setCell ⟨h0 + 1 + 1, 1, none⟩ (.bool false)).setCell ⟨h0 + 1 + 1, 2, none⟩ (.slice xa xn xc)).heap[g]? = _
          rw [Below.heap_setCell _ ⟨h0 + 1 + 1, 2, none⟩ _ g hg, Below.heap_setCell _ ⟨h0 + 1 + 1, 1, none⟩ _ g hg, Below.heap_setCell _ ⟨h0 + 1 + 1, 0, none⟩ _ g hg]
        refine ⟨by simp, .inl ⟨_, _, rfl, run_takeDeferred hK1, ?_⟩⟩
        obtain ⟨V, hV⟩ : ∃ V, V = (((Wc.setCell ⟨h0 + 1 + 1, 0, none⟩ (.bool b)).setCell ⟨h0 + 1 + 1, 1, none⟩ (.bool false)).setCell ⟨h0 + 1 + 1, 2, none⟩ (.slice xa xn xc)).drew := ⟨_, rfl⟩
        rw [← hV] at hK1 b2 hB2 hsame ⊢
        have g2 := (b2.kept (grownBy_putObj' V D (.deferred none)) (fun r e => by cases e; exact ⟨_, hK1, rfl⟩))
        obtain ⟨v0, v1, v2, -, -, -⟩ := row3 g2
        refine ⟨.tuple #[.agg #[.bool b, .bool false, .slice xa xn xc], .nilIface], ?_, ?_, HPO.out _ (fun g e1 e2 => (World.putObj_heap_other e2).trans (hsame g e1))⟩
        · simp [results, Tryz.f38, go_sem, v0, v1, v2]
        · rw [← HHH.out]
          exact hB2.trans ((Below.refl h0 V).grown (grownBy_putObj' V D _) (by have := (Array.getElem?_eq_some_iff.1 hK1).1; omega) (fun k e => by cases e; omega))
    · go_wp2
      go_region
      all_goals
        go_wp2
        try rw [Exit.noGoto_ret]
        have hk1 := (((KeepsOthers.setCell Wc ⟨h0 + 1 + 1, 0, none⟩ (.bool b)).trans (KeepsOthers.setCell _ ⟨h0 + 1 + 1, 1, none⟩ (.bool false))).trans (KeepsOthers.setCell _ ⟨h0 + 1 + 1, 2, none⟩ (.slice xa xn xc))).trans (KeepsOthers.drew _)
        have hK1 := hk1.same D _ HKD.out rfl
        have b2 := (row_set3 HR4.out (.bool b) (.bool false) (.slice xa xn xc)).drew
        have hB2 := ((((HBW.out).setCell (p := ⟨h0 + 1 + 1, 0, none⟩) (by show h0 ≤ h0 + 1 + 1; omega) (.bool b)).setCell (p := ⟨h0 + 1 + 1, 1, none⟩) (by show h0 ≤ h0 + 1 + 1; omega) (.bool false)).setCell (p := ⟨h0 + 1 + 1, 2, none⟩) (by show h0 ≤ h0 + 1 + 1; omega) (.slice xa xn xc)).drew
        have hsame : ∀ g, g ≠ h0 + 1 + 1 → (((Wc.setCell ⟨h0 + 1 + 1, 0, none⟩ (.bool b)).setCell ⟨h0 + 1 + 1, 1, none⟩ (.bool false)).setCell ⟨h0 + 1 + 1, 2, none⟩ (.slice xa xn xc)).drew.heap[g]? = Wc.heap[g]? := fun g hg => by
          show (((Wc.setCell ⟨h0 + 1 + 1, 0, none⟩ (.bool b)).setCell ⟨h0 + 1 + 1, 1, none⟩ (.bool false)).setCell ⟨h0 + 1 + 1, 2, none⟩ (.slice xa xn xc)).heap[g]? = _
          rw [Below.heap_setCell _ ⟨h0 + 1 + 1, 2, none⟩ _ g hg, Below.heap_setCell _ ⟨h0 + 1 + 1, 1, none⟩ _ g hg, Below.heap_setCell _ ⟨h0 + 1 + 1, 0, none⟩ _ g hg]
        refine ⟨by simp, .inl ⟨_, _, rfl, run_takeDeferred hK1, ?_⟩⟩
        obtain ⟨V, hV⟩ : ∃ V, V = (((Wc.setCell ⟨h0 + 1 + 1, 0, none⟩ (.bool b)).setCell ⟨h0 + 1 + 1, 1, none⟩ (.bool false)).setCell ⟨h0 + 1 + 1, 2, none⟩ (.slice xa xn xc)).drew := ⟨_, rfl⟩
        rw [← hV] at hK1 b2 hB2 hsame ⊢
        have g2 := (b2.kept (grownBy_putObj' V D (.deferred none)) (fun r e => by cases e; exact ⟨_, hK1, rfl⟩))
        obtain ⟨v0, v1, v2, -, -, -⟩ := row3 g2
        refine ⟨.tuple #[.agg #[.bool b, .bool false, .slice xa xn xc], .iface et ez], ?_, ?_, HPO.out _ (fun g e1 e2 => (World.putObj_heap_other e2).trans (hsame g e1))⟩
        · simp [results, Tryz.f38, go_sem, v0, v1, v2]
        · rw [← HHH.out]
          exact hB2.trans ((Below.refl h0 V).grown (grownBy_putObj' V D _) (by have := (Array.getElem?_eq_some_iff.1 hK1).1; omega) (fun k e => by cases e; omega)))
  refine (wpIn_wide (n := 9)).1 ?_
  refine wpIn_rangeFunc_ownW rfl (by omega) (gf := 101) (lb := #[.pointer (some ⟨B7 + 1, 0, none⟩)]) rfl trivial (enters_of Tryz.func101 (by kernel_rfl) rfl)
    HST.out (fun h g => HKT.out _ _ _ h g) HKBK.out (Below.refl _ _) (fun _ => rfl)
    (LoopI Kp X h PL w W8 h0 w0.heap.size B6 B7 (aL || bL)) (LoopX Kp h PL w W8 h0 B6 B7)
    (fun _ _ _ hs hb => hs.step HKB.out (fun h g => HKT.out _ _ _ h g) HKS.out g8 hb) (fun _ _ _ _ hs hb => hs.step HKB.out (fun h g => HKT.out _ _ _ h g) HKS.out g8 hb)
    (fun _ _ l q q' hs hl hX => LoopI.put (Kp := Kp) (fun h g => HKT.out _ _ _ h g) HKBK.out g8 g6 g7 l q q' hs hl hX) (fun _ _ _ l q q' hs hl hX => LoopX.put (Kp := Kp) (fun h g => HKT.out _ _ _ h g) HKBK.out g8 g6 g7 l q q' hs hl hX) HI0.out
    (fun pre x a' _ => (∃ rest, PL = pre ++ x :: rest) ∧ a' = { tmps := #[.agg #[.bool aL, .bool aR, .slice sa sn sc, .bool bL, .bool bR, .slice ta tn tc], .func (.func f) #[] #[.pointer (some ⟨p, 0, none⟩)], .pointer (some ⟨h0, 0, none⟩), .pointer (some ⟨h0 + 1, 0, none⟩), .pointer (some ⟨h0 + 1 + 1, 0, none⟩), .nilIface, .pointer (some ⟨B6, 0, none⟩), .pointer (some ⟨B7, 0, none⟩), .int .i64 x.1, .int .i64 x.2, undef, undef, u12, u13, u14, u15, u16, u17, u18, u19, u20, u21, u22, u23, .agg #[.bool aL, .bool aR, .slice sa sn sc, .bool bL, .bool bR, .slice ta tn tc], .func (.func 101) #[] #[.pointer (some ⟨B7 + 1, 0, none⟩)], .int .i64 x.1, .int .i64 x.2, undef, undef, undef, undef, undef, undef, undef, undef, undef, undef, undef, undef, undef, undef, undef, undef, undef, undef, undef, undef, undef], defers := [] })
    (fun _ _ _ _ _ _ _ hs _ _ => hs) ?assign ?body ?done ?stop
  case assign =>
    rintro l pre x Wc K' hIc hnx hsW hK'
    have HIc := Lib.hid hIc
    have HNX := Lib.hid hnx
    clear hIc hnx
    dsimp only [encP]
    gi_wp2
    exact hK' _ _ (KeepsFrom.refl _ _) (HKB.out _ _ (Below.refl _ _)) HIc.out ⟨HNX.out, rfl⟩
  case body =>
    rintro l pre x a' Wc hl - ⟨hk, hbw, -, hok, hr7, v, hr6, hown, hob⟩ ⟨⟨rest, hrest⟩, rfl⟩
    dsimp only
    have hxin := HPI.out x (by rw [hrest]; simp)
    have qf := (HQ.out Wc hk).2.1
    obtain ⟨cf, -⟩ := row1 qf
    have hcl := HCALL.out Wc hbw x.1 x.2 hxin.1 hxin.2
    obtain ⟨⟨s, ec⟩, hse⟩ : ∃ N : Int × Int, h x.1 x.2 = N := ⟨_, rfl⟩
    rw [hse] at hcl
    have HSE := Lib.hid hse
    have HCL := Lib.hid hcl
    have hWs : B7 + 2 ≤ Wc.heap.size := by have := HKS.out _ _ hk; omega
    have hpl : pre.length ≤ 200 := by
      have h1 := congrArg List.length hrest
      rw [List.length_append, HPL.out, pairs_len, ← HN.out] at h1
      omega
    have HP : Hid (Kp W8 Wc ∧ Below h0 w Wc ∧ (∀ q ∈ pre, (h q.1 q.2).2 = 0) ∧ Row Wc B7 40 #[.nilIface] ∧ Row Wc B6 24 #[.bool (aL || bL), .bool false, v] ∧ IOwn Wc w0.heap.size v (thrN h pre) ∧ (∀ g, v.ownBlock = some g → X g ∨ W8.heap.size ≤ g) ∧ PL = pre ++ x :: rest) := Lib.hid ⟨hk, hbw, hok, hr7, hr6, hown, hob, hrest⟩
    obtain ⟨x1, x2⟩ := x
    dsimp only at HCL HSE ⊢
    clear hk hbw hok hr7 hr6 hown hob hrest hxin qf hcl hse
    obtain ⟨-, -, -, -, -, hw0, -, -⟩ := HP.out
    obtain ⟨va, vc, rfl, hv1, hv2⟩ := hw0.form
    obtain ⟨vn, hvn⟩ : ∃ vn, vn = (thrN h pre).length := ⟨_, rfl⟩
    have hvp : vn = pre.length := by rw [hvn]; simp [thrN]
    rw [← hvn] at HP
    have HVN := Lib.hid hvn
    have hvl : vn ≤ 200 := by omega
    clear hw0 hv1 hv2 hvn hvp
    by_cases he : ec = 0
    · subst he
      have t0 : ((0 : Int) == 0) = true := rfl
      have H4 : Hid (vn + 1 ≤ maxLen ∧ (vn + 1) * 8 ≤ 140737488355328) := Lib.hid ⟨by unfold maxLen; omega, by omega⟩
      gi_wp2_with (first
        | (refine ⟨trivial, ?_⟩; gi_at_fn f; refine (CallsIn.inRound l (callsIn_wide.2 HCL.out)).mono ?_; rintro e w2 ⟨rfl, hb2⟩; have HB2 := Lib.hid hb2; have k6 := HP.out.2.2.2.2.1.below hb2 HP.out.2.2.2.2.1.lt; obtain ⟨d0, d1, d2, -, -, -⟩ := row3 k6; have HR6 := Lib.hid k6; have o2 := (HP.out.2.2.2.2.2.1.below hb2).below ((Below.refl w2.heap.size w2).alloc (Nat.le_refl _) (.cells #[.int .i64 s] 2)); have HO2 := Lib.hid (HP.out.2.2.2.2.2.1.below hb2); change World.ownsRow _ _ _ _ _ _ _ at o2; rw [← HVN.out] at o2; have HO3 := Lib.hid o2; have H1 : Hid (∀ (j : Nat) (u : Value), [Value.int .i64 s][j]? = some u → (w2.alloc (.cells #[.int .i64 s] 2)).cell? ((⟨w2.heap.size, 0, none⟩ : Addr).add j) = some u) := Lib.hid (World.news_of_block (World.alloc_heap_new w2 (.cells #[.int .i64 s] 2))); have H5 : Hid (w0.heap.size ≤ (w2.alloc (.cells #[.int .i64 s] 2)).heap.size) := Lib.hid (by rw [World.size_alloc]; have := hb2.size; omega); clear k6 hb2 o2)
        | (gi_at_builtin; refine wpListIn_append_own_at _ rfl (.tmp 42) (.tmp 44) 22 rfl w0.heap.size 2 i0 (.int .i64 0) 1 8 Tryz.underlying22 hi hz0 hz1 hz2 rfl (by decide) (.slice va vn vc) vn (nums (thrN h pre)) rfl HO3.out ⟨w2.heap.size, 0, none⟩ 1 1 [.int .i64 s] rfl rfl H1.out (by simp [Value.oneCell']) H4.out.1 H4.out.2 H5.out ?_; intro v' w3 how3 hg3 _ hob3; have HO4 := Lib.hid how3; have HG3 := Lib.hid hg3; have HOB3 := Lib.hid hob3; have k6 : Row w3 B6 24 #[.bool (aL || bL), .bool false, .slice va vn vc] := (hg3.block B6 (by rw [World.size_alloc]; exact Nat.lt_succ_of_lt HR6.out.lt) (fun e => own_off HO2.out HR6.out (by decide) e.symm)).trans (HR6.out.alloc _); obtain ⟨d3, d4, d5, f3, f4, f5⟩ := row3 k6; have HR8 := Lib.hid k6; obtain ⟨g2, cap2, rfl⟩ : ∃ g2 cap2, v' = .slice (some ⟨g2, 0, none⟩) (vn + 1) cap2 := (by rcases how3.2 with ⟨_, h⟩ | ⟨g2, cap2, cur, h, _⟩; exact absurd h (by omega); exact ⟨g2, cap2, h⟩); clear how3 hg3 hob3 k6))
      obtain ⟨p1, p2, p3, p4, p5, p6, p7, p8⟩ := HP.out
      have hal : Below w2.heap.size w2 (w2.alloc (.cells #[.int .i64 s] 2)) := (Below.refl _ _).alloc (Nat.le_refl _) _
      have hb3 : Below Wc.heap.size Wc (w2.alloc (.cells #[.int .i64 s] 2)) := HB2.out.trans (hal.mono HB2.out.size)
      have o3 : IOwn (w2.alloc (.cells #[.int .i64 s] 2)) w0.heap.size (.slice va vn vc) (thrN h pre) := HO2.out.below hal
      have hsx : w0.heap.size ≤ w2.heap.size := by have := HB2.out.size; omega
      have hk3 : Kp Wc w3 := HKT.out _ _ _ (HKB.out _ _ hb3) (HGROW.out _ _ _ HG3.out p7)
      have hk4 : Kp Wc (w3.setCell ⟨B6, 2, none⟩ (.slice (some ⟨g2, 0, none⟩) (vn + 1) cap2)) := HKT.out _ _ _ hk3 (HSET.out _ _ _ (.inl hX6))
      have hw0 : h0 ≤ w0.heap.size := by omega
      have hbb : Below h0 w w3 := (p2.trans (hb3.mono (by omega))).grown HG3.out (by rw [World.size_alloc]; omega) (fun k e => by have := own_base p6 e; omega)
      have h73 : Row w3 B7 40 #[.nilIface] := (HG3.out.block B7 (by rw [World.size_alloc]; have := HB2.out.size; omega) (fun e => own_off p6 p4 (by decide) e.symm)).trans (p4.below hb3 p4.lt)
      have hsn : thrN h (pre ++ [(x1, x2)]) = thrN h pre ++ [s] := by simp [thrN, HSE.out]
      have ho4 : IOwn w3 w0.heap.size (.slice (some ⟨g2, 0, none⟩) (vn + 1) cap2) (thrN h (pre ++ [(x1, x2)])) := by
        have := HO4.out
        show World.ownsRow _ _ _ _ _ _ _
        rw [hsn, nums_snoc, List.length_append, ← HVN.out]
        exact this
      have h68 : Row (w3.setCell ⟨B6, 2, none⟩ (.slice (some ⟨g2, 0, none⟩) (vn + 1) cap2)) B6 24 #[.bool (aL || bL), .bool false, .slice (some ⟨g2, 0, none⟩) (vn + 1) cap2] := by
        have := HR8.out.set 2 (.slice (some ⟨g2, 0, none⟩) (vn + 1) cap2)
        simpa using this
      have hne : ∀ g, (Value.slice (some ⟨g2, 0, none⟩) (vn + 1) cap2).ownBlock = some g → g ≠ B6 := fun g e e2 => own_off ho4 HR8.out (by decide) (by rw [e, e2])
      refine ⟨?_, hk4, HKT.out _ _ _ p1 hk4, hbb.setCell (p := ⟨B6, 2, none⟩) (by show h0 ≤ B6; omega) _, ⟨rest, by rw [p8]; simp⟩, ?_, (h73.other (by omega) _), _, h68, ho4.keep (fun g e => Below.heap_setCell _ _ _ g (hne g e)), ?_⟩
      · refine (keeps_below _ hb3).trans (((KeepsOthers.of_grownBy HG3.out (fun j o e hj => ?_)).trans (KeepsOthers.setCell _ _ _)).from _)
        obtain ⟨cur, hc⟩ := own_cells o3 e
        rw [hc] at hj
        cases hj
        rfl
      · intro q hq
        rcases List.mem_append.1 hq with hq | hq
        · exact p3 q hq
        · rw [List.mem_singleton.1 hq]
          show (h x1 x2).2 = 0
          rw [HSE.out]
      · intro g e
        rcases HOB3.out with h1 | h1
        · exact p7 g (h1.symm.trans e)
        · rw [h1] at e
          injection e with e
          right
          rw [← e, World.size_alloc]
          have := HB2.out.size
          omega
    · have t0 : (ec == 0) = false := by simp [he]
      gi_wp2_with (refine ⟨trivial, ?_⟩; gi_at_fn f; refine (CallsIn.inRound l (callsIn_wide.2 HCL.out)).mono ?_; rintro e w2 ⟨rfl, hb2⟩; have HB2 := Lib.hid hb2; have k6 := HP.out.2.2.2.2.1.below hb2 HP.out.2.2.2.2.1.lt; have k7 := HP.out.2.2.2.1.below hb2 HP.out.2.2.2.1.lt; obtain ⟨d0, d1, d2, f0, f1, f2⟩ := row3 k6; obtain ⟨d3, f3⟩ := row1 k7; have HR6 := Lib.hid k6; have HR7 := Lib.hid k7; clear k6 k7 hb2)
      obtain ⟨p1, p2, p3, p4, p5, p6, p7, p8⟩ := HP.out
      have hk2 : Kp Wc w2 := HKB.out _ _ HB2.out
      have hk3 : Kp w2 ((((w2.setCell ⟨B6, 0, none⟩ (.bool false)).setCell ⟨B6, 1, none⟩ (.bool false)).setCell ⟨B6, 2, none⟩ (.slice none 0 0)).setCell ⟨B7, 0, none⟩ (faultV ec)) := HKT.out _ _ _ (HKT.out _ _ _ (HKT.out _ _ _ (HSET.out _ _ _ (.inl hX6)) (HSET.out _ _ _ (.inl hX6))) (HSET.out _ _ _ (.inl hX6))) (HSET.out _ _ _ (.inl hX7))
      have hb3 : Below h0 w w2 := p2.trans (HB2.out.mono (by omega))
      refine ⟨(keeps_below _ HB2.out).trans (((((KeepsOthers.setCell _ _ _).trans (KeepsOthers.setCell _ _ _)).trans (KeepsOthers.setCell _ _ _)).trans (KeepsOthers.setCell _ _ _)).from _), rfl, HKT.out _ _ _ p1 (HKT.out _ _ _ hk2 hk3), (((hb3.setCell (p := ⟨B6, 0, none⟩) (by show h0 ≤ B6; omega) _).setCell (p := ⟨B6, 1, none⟩) (by show h0 ≤ B6; omega) _).setCell (p := ⟨B6, 2, none⟩) (by show h0 ≤ B6; omega) _).setCell (p := ⟨B7, 0, none⟩) (by show h0 ≤ B7; omega) _, pre, (x1, x2), rest, p8, p3, ?_, (row_set3 HR6.out _ _ _).other (by omega) _, ?_⟩
      · show (h x1 x2).2 ≠ 0
        rw [HSE.out]
        exact he
      · show Row _ B7 40 #[faultV (h x1 x2).2]
        rw [HSE.out]
        exact row_set1 (((HR7.out.other (by omega) _).other (by omega) _).other (by omega) _) _
  case done =>
    rintro D xs Wc hD rfl ⟨p1, p2, -, p4, p5, v, p6, p7, -⟩ hKD
    obtain ⟨va, vc, rfl, -, -⟩ := p7.form
    refine HFIN.out D Wc (aL || bL) _ _ _ _ hD p1 p2 p6 p5 (.inl rfl) hKD (fun W' hW' => .inl ⟨thrE_ok p4, _, rfl, ?_⟩)
    refine (p7.keep (fun g e => hW' g (fun e2 => ?_) (fun e2 => ?_))).mono (by have := HH.out; omega)
    · have := own_base p7 e
      omega
    · subst e2
      obtain ⟨cur, hc⟩ := own_cells p7 e
      rw [hc] at hKD
      cases hKD
  case stop =>
    rintro D c pre Wc hD - ⟨rfl, p1, p2, p0, x, rest, p3, p4, p5, p6, p7⟩ hKD
    have hte : thrE h PL = (h x.1 x.2).2 := by rw [p3]; exact thrE_bad p4 p5
    have HF := Lib.hid (HFIN.out D Wc false _ _ _ _ hD p1 p2 p6 p7 (.inr ⟨_, _, rfl⟩) hKD (fun W' _ => .inr ⟨by rw [hte]; exact p5, by rw [hte]⟩))
    clear p1 p2 p3 p4 p5 p6 p7 hKD hte hK2
    gi_wp2
    exact HF.out
end Go.Proofs.YthlkgfplffdiaaaGreatDoor.Ar
