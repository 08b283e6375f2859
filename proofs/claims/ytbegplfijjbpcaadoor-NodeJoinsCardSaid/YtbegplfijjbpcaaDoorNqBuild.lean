/- The program: a builder, and places cut from its room. -/
import Derived.Test.YtbegplfijjbpcaaDoorNoC
import Derived.Test.YtbegplfijjbpcaaDoorNqTake
import Derived.Test.YtbegplfijjbpcaaDoorNqA
namespace Go.Proofs.YtbegplfijjbpcaaDoor.No
open Go Go.RowKit Go.Shelf
attribute [local go_sem] Oper.semAt_some

/-- A node's kids, in the room r, of which u are used. -/
def KidsIn (r u : Nat) (cs : Array Value) (p : Nd × Value) : Prop :=
  (p.1.kids = [] ∧ p.2 = .slice none 0 0) ∨ ∃ off, p.2 = .slice (some ⟨r, off, none⟩) p.1.kids.length p.1.kids.length ∧ 0 < p.1.kids.length ∧ off + p.1.kids.length ≤ u ∧ ∀ j a, p.1.kids[j]? = some a → cs[off + j]? = some (.int .i64 a)
/-- A BUILDER in block bb: its nodes in block q, its room in block r. -/
structure BD (W : World) (base bb q r cap total : Nat) (L : List (Nd × Value)) (u : Nat) : Prop where
  row : ∃ off, Row W bb 88 #[.slice (some ⟨q, 0, none⟩) L.length cap, .slice (some ⟨r, off, none⟩) (total - u) (total - u)] ∧ (u < total → off = u)
  nodes : W.ownsRow base 42 3 (.slice (some ⟨q, 0, none⟩) L.length cap) L.length (cellsN L)
  room : ∃ cs, Row W r 3 cs ∧ cs.size = total ∧ ∀ p ∈ L, KidsIn r u cs p
  bb : base ≤ bb
  rb : base ≤ r
  used : u ≤ total
  few : total ≤ 1000
theorem BD.below {W W' : World} {base bb q r cap total : Nat} {L : List (Nd × Value)} {u : Nat} (h : BD W base bb q r cap total L u) (hb : Below W.heap.size W W') : BD W' base bb q r cap total L u := by
  obtain ⟨off, h1, h2⟩ := h.row
  obtain ⟨cs, h3, h4, h5⟩ := h.room
  exact ⟨⟨off, h1.below hb h1.lt, h2⟩, own_kept h.nodes hb, ⟨cs, h3.below hb h3.lt, h4, h5⟩, h.bb, h.rb, h.used, h.few⟩
/-- Its nodes are a list. -/
theorem BD.nl {W : World} {base bb q r cap total : Nat} {L : List (Nd × Value)} {u : Nat} (h : BD W base bb q r cap total L u) : NL W (.slice (some ⟨q, 0, none⟩) L.length cap) (L.map (·.1)) := by
  obtain ⟨cs, hr, hs, hk⟩ := h.room
  have hlen : (L.map (·.1)).length = L.length := List.length_map ..
  have hn := h.nodes
  rcases h.nodes.2 with ⟨hv, _⟩ | ⟨g, cap', cur, hv, hg, hh, h1, h2, h3, h4⟩
  · cases hv
  · injection hv with e1 _ e2
    injection e1 with e1
    injection e1 with e1 _ _
    subst e1
    subst e2
    have hlt := (Array.getElem?_eq_some_iff.1 hh).1
    refine ⟨⟨_, cap, by rw [hlen], by rw [hlen]; exact h1, h2⟩, fun _ => ⟨q, 0, cap, by rw [hlen], hlt, fun j x hj => ?_⟩⟩
    rw [List.getElem?_map] at hj
    obtain ⟨p, hp, rfl⟩ : ∃ p, L[j]? = some p ∧ p.1 = x := by
      cases hq : L[j]? with
      | none => rw [hq] at hj; cases hj
      | some p =>
        rw [hq] at hj
        injection hj with hj
        exact ⟨p, rfl, hj⟩
    have hjl : j < L.length := (List.getElem?_eq_some_iff.1 hp).1
    have key : ∀ i, i < 3 → W.cell? ⟨q, j * 3 + i, none⟩ = (nodC p)[i]? := fun i hi => by
      rw [World.ownsRow.cellAt hn (j * 3 + i) (by omega)]
      exact cellsN_get L j i p hp hi
    rw [Nat.zero_add]
    refine ⟨key 0 (by omega), key 1 (by omega), p.2, key 2 (by omega), ?_⟩
    have hkl : p.1.kids.length ≤ total ∨ p.1.kids = [] := by
      rcases hk p (List.mem_of_getElem? hp) with ⟨e, _⟩ | ⟨off, _, _, e, _⟩
      · exact .inr e
      · exact .inl (by have := h.used; omega)
    rcases hk p (List.mem_of_getElem? hp) with ⟨e1, e2⟩ | ⟨off, e1, e2, e3, e4⟩
    · rw [e1, e2]
      exact KL.nil W
    · have hrl := hr.lt
      refine ⟨⟨_, _, e1, Nat.le_refl _, ?_⟩, fun _ => ⟨r, off, _, e1, hrl, fun j a hj => ?_⟩⟩
      · rcases hkl with h9 | h9
        · have := h.few
          unfold maxLen
          omega
        · rw [h9]; exact Nat.zero_le _
      · rw [hr.cell]
        exact e4 j a hj
theorem own_base {W : World} {base b q n cap sz : Nat} {t : TypeId} {xs : List Value} (h : W.ownsRow b t sz (.slice (some ⟨q, 0, none⟩) n cap) n xs) (hq : base ≤ q) : W.ownsRow base t sz (.slice (some ⟨q, 0, none⟩) n cap) n xs := by
  refine ⟨h.1, ?_⟩
  rcases h.2 with ⟨hv, _⟩ | ⟨g, cap', cur, e1, _, e3, e4⟩
  · cases hv
  · have e := e1
    injection e with e _ _
    injection e with e
    injection e with e _ _
    subst e
    exact .inr ⟨_, cap', cur, e1, hq, e3, e4⟩
/-- What each operation of build has told. -/
def FB (B n : Nat) : Nat → Value → World → Prop
  | 0, v, _ => v = .int .i64 (n : Int)
  | 1, v, W => ∃ q, v = .slice (some ⟨q, 0, none⟩) 0 n ∧ B ≤ q ∧ W.ownsRow 0 42 3 (.slice (some ⟨q, 0, none⟩) 0 n) 0 []
  | 2, v, W => ∃ q, v = .agg #[.slice (some ⟨q, 0, none⟩) 0 n] ∧ B ≤ q ∧ W.ownsRow 0 42 3 (.slice (some ⟨q, 0, none⟩) 0 n) 0 []
  | 3, v, _ => v = .int .i64 (n : Int)
  | 4, v, _ => v = .int .i64 ((n : Int) - 1)
  | 5, v, W => ∃ r cs, v = .slice (some ⟨r, 0, none⟩) (n - 1) (n - 1) ∧ B ≤ r ∧ Row W r 3 cs ∧ cs.size = n - 1
  | 6, v, W => ∃ q r cs, v = .agg #[.slice (some ⟨q, 0, none⟩) 0 n, .slice (some ⟨r, 0, none⟩) (n - 1) (n - 1)] ∧ B ≤ q ∧ W.ownsRow 0 42 3 (.slice (some ⟨q, 0, none⟩) 0 n) 0 [] ∧ B ≤ r ∧ Row W r 3 cs ∧ cs.size = n - 1
  | _, v, W => ∃ b q r cs, v = .pointer (some ⟨b, 0, none⟩) ∧ B ≤ b ∧ Row W b 88 #[.slice (some ⟨q, 0, none⟩) 0 n, .slice (some ⟨r, 0, none⟩) (n - 1) (n - 1)] ∧ B ≤ q ∧ W.ownsRow 0 42 3 (.slice (some ⟨q, 0, none⟩) 0 n) 0 [] ∧ B ≤ r ∧ Row W r 3 cs ∧ cs.size = n - 1
theorem FB.below {B n : Nat} {v : Value} {W W' : World} (hb : Below W.heap.size W W') : ∀ i, FB B n i v W → FB B n i v W'
  | 0, h => h
  | 1, ⟨q, h1, h2, h3⟩ => ⟨q, h1, h2, own_kept h3 hb⟩
  | 2, ⟨q, h1, h2, h3⟩ => ⟨q, h1, h2, own_kept h3 hb⟩
  | 3, h => h
  | 4, h => h
  | 5, ⟨r, cs, h1, h2, h3, h4⟩ => ⟨r, cs, h1, h2, h3.below hb h3.lt, h4⟩
  | 6, ⟨q, r, cs, h1, h2, h3, h4, h5, h6⟩ => ⟨q, r, cs, h1, h2, own_kept h3 hb, h4, h5.below hb h5.lt, h6⟩
  | _ + 7, ⟨b, q, r, cs, h1, h2, h3, h4, h5, h6, h7, h8⟩ => ⟨b, q, r, cs, h1, h2, h3.below hb h3.lt, h4, own_kept h5 hb, h6, h7.below hb h7.lt, h8⟩

set_option maxRecDepth 100000 in
set_option maxHeartbeats 8000000 in
/-- build(size). -/
theorem build_c (w : World) (n : Nat) (h1 : 1 ≤ n) (h2 : n ≤ 1000) :
    Calls Tryd.prog 54 #[.int .i64 (n : Int)] w fun e W' => Below w.heap.size w W' ∧ ∃ bb q r, e = .returned (.pointer (some ⟨bb, 0, none⟩)) ∧ BD W' w.heap.size bb q r n (n - 1) [] 0 := by
  obtain ⟨i0, hi, hz0, hz1, hz2⟩ := infoN
  obtain ⟨i1, hj, hy0, hy1, hy2⟩ := infoI
  refine (callsIn_wide (n := 5)).1 ?_
  refine callsIn_of_wp Tryd.func54 rfl trivial ?_ rfl
  simp only [Tryd.ntmps54, List.size_toArray, List.length_cons, List.length_nil, Nat.reduceAdd, Nat.reduceSub, Array.replicate_succ, Array.replicate_zero, List.push_toArray, List.append_toArray, List.nil_append, List.cons_append]
  gi_wp2
  refine wpIn_region_facts (by kernel_rfl) (by kernel_rfl) (FB w.heap.size n) (fun i v W W' hb h => FB.below hb i h) ?_ ?_
  · intro i oo listed a' W val ho haf hS hB hF
    have hii : i < 9 := (Array.getElem?_eq_some_iff.1 ho).1
    obtain rfl | rfl | rfl | rfl | rfl | rfl | rfl | rfl | rfl : i = 0 ∨ i = 1 ∨ i = 2 ∨ i = 3 ∨ i = 4 ∨ i = 5 ∨ i = 6 ∨ i = 7 ∨ i = 8 := by omega
    · cases ho
      have q0 : a'.tmps[0]? = some (.int .i64 (n : Int)) := (hS.tmpBase 0 (by kernel_rfl)).trans rfl
      refine op_valv (.int .i64 (n : Int)) (W) (fun _ _ => trivial) ?_ ⟨Below.refl _ _, rfl⟩
      rw [Oper.semAt_plain _ _ _ (by intro c h; cases h)]
      simp [execOp, q0, go_sem]
    · cases ho
      have l0 : listed.getD 0 false = true := haf ⟨0, .data⟩ (Array.mem_of_getElem? (i := 0) rfl) rfl
      have q3 : a'.tmps[3]? = some (val 0) := hS.tmpSet 0 _ 3 rfl rfl (by simp) l0
      rw [show val 0 = _ from hF 0 l0] at q3
      obtain ⟨w5, hrun, how, hgw⟩ := run_make_own (P := Tryd.prog) (w := W) 0 22 42 i0 (.agg #[.int .i64 0, .string ⟨#[]⟩, .slice none 0 0]) 3 Tryd.underlying22 hi hz0 hz1 .i64 .i64 n (by rw [hz2]; omega) (by unfold maxLen; omega) (Nat.zero_le _)
      refine op_valv (.slice (some ⟨W.heap.size, 0, none⟩) 0 n) (w5) (fun _ _ => trivial) ?_ ⟨⟨hgw.os, hgw.tape, hgw.output, hgw.size, fun k hk => hgw.block k hk (by simp)⟩, ⟨_, rfl, hB.size, how⟩⟩
      rw [Oper.semAt_plain _ _ _ (by intro c h; cases h)]
      simp [execOp, q3, hrun, go_sem]
    · cases ho
      have l1 : listed.getD 1 false = true := haf ⟨1, .data⟩ (Array.mem_of_getElem? (i := 0) rfl) rfl
      have q4 : a'.tmps[4]? = some (val 1) := hS.tmpSet 1 _ 4 rfl rfl (by simp) l1
      obtain ⟨q1q, e1, hq1, how1⟩ := hF 1 l1
      rw [e1] at q4
      refine op_valv (.agg #[.slice (some ⟨q1q, 0, none⟩) 0 n]) (W) (fun _ _ => trivial) ?_ ⟨Below.refl _ _, ⟨_, rfl, hq1, how1⟩⟩
      rw [Oper.semAt_plain _ _ _ (by intro c h; cases h)]
      simp [execOp, q4, go_sem]
    · cases ho
      have q0 : a'.tmps[0]? = some (.int .i64 (n : Int)) := (hS.tmpBase 0 (by kernel_rfl)).trans rfl
      refine op_valv (.int .i64 (n : Int)) (W) (fun _ _ => trivial) ?_ ⟨Below.refl _ _, rfl⟩
      rw [Oper.semAt_plain _ _ _ (by intro c h; cases h)]
      simp [execOp, q0, go_sem]
    · cases ho
      have l3 : listed.getD 3 false = true := haf ⟨3, .data⟩ (Array.mem_of_getElem? (i := 0) rfl) rfl
      have q6 : a'.tmps[6]? = some (val 3) := hS.tmpSet 3 _ 6 rfl rfl (by simp) l3
      rw [show val 3 = _ from hF 3 l3] at q6
      refine op_valv (.int .i64 ((n : Int) - 1)) (W) (fun _ _ => trivial) ?_ ⟨Below.refl _ _, rfl⟩
      rw [Oper.semAt_plain _ _ _ (by intro c h; cases h)]
      simp [execOp, q6, go_sem]
      rw [IntKind.wrap_i64]
      omega
    · cases ho
      have l4 : listed.getD 4 false = true := haf ⟨4, .data⟩ (Array.mem_of_getElem? (i := 0) rfl) rfl
      have q7 : a'.tmps[7]? = some (val 4) := hS.tmpSet 4 _ 7 rfl rfl (by simp) l4
      rw [show val 4 = _ from hF 4 l4] at q7
      have hmk := run_make (P := Tryd.prog) (w := W) 40 3 i1 _ Tryd.underlying40 hj hy0 .i64 .i64 ((n : Int) - 1) ((n : Int) - 1) (by omega) (by omega) (by rw [hy2]; omega) (by omega)
      rw [show ((n : Int) - 1).toNat = n - 1 by omega] at hmk
      refine op_valv (.slice (some ⟨W.heap.size, 0, none⟩) (n - 1) (n - 1)) (W.alloc (.cells (madeCells (Value.int .i64 0).cells ((n - 1) * i1.size)) 3)) (fun _ _ => trivial) ?_ ⟨(Below.refl _ _).alloc (Nat.le_refl _) _, ⟨_, _, rfl, hB.size, Row.new _ _ _, by rw [size_madeCells, hy1, Nat.mul_one]⟩⟩
      rw [Oper.semAt_plain _ _ _ (by intro c h; cases h)]
      simp [execOp, q7, hmk, go_sem]
    · cases ho
      have l2 : listed.getD 2 false = true := haf ⟨2, .data⟩ (Array.mem_of_getElem? (i := 0) rfl) rfl
      have q5 : a'.tmps[5]? = some (val 2) := hS.tmpSet 2 _ 5 rfl rfl (by simp) l2
      have l5 : listed.getD 5 false = true := haf ⟨5, .data⟩ (Array.mem_of_getElem? (i := 1) rfl) rfl
      have q8 : a'.tmps[8]? = some (val 5) := hS.tmpSet 5 _ 8 rfl rfl (by simp) l5
      obtain ⟨q2q, e2, hq2, how2⟩ := hF 2 l2
      rw [e2] at q5
      obtain ⟨q5q, cs5, e5, hq5, hr5, hs5⟩ := hF 5 l5
      rw [e5] at q8
      refine op_valv (.agg #[.slice (some ⟨q2q, 0, none⟩) 0 n, .slice (some ⟨q5q, 0, none⟩) (n - 1) (n - 1)]) (W) (fun _ _ => trivial) ?_ ⟨Below.refl _ _, ⟨_, _, _, rfl, hq2, how2, hq5, hr5, hs5⟩⟩
      rw [Oper.semAt_plain _ _ _ (by intro c h; cases h)]
      simp [execOp, q5, q8, go_sem]
    · cases ho
      have l6 : listed.getD 6 false = true := haf ⟨6, .data⟩ (Array.mem_of_getElem? (i := 0) rfl) rfl
      have q9 : a'.tmps[9]? = some (val 6) := hS.tmpSet 6 _ 9 rfl rfl (by simp) l6
      obtain ⟨q6q, r6, cs6, e6, hq6, how6, hr6, hrow6, hs6⟩ := hF 6 l6
      rw [e6] at q9
      refine op_valv (.pointer (some ⟨W.heap.size, 0, none⟩)) (W.alloc (.cells #[.slice (some ⟨q6q, 0, none⟩) 0 n, .slice (some ⟨r6, 0, none⟩) (n - 1) (n - 1)] 88)) (fun _ _ => trivial) ?_ ⟨(Below.refl _ _).alloc (Nat.le_refl _) _, ⟨_, _, _, _, rfl, hB.size, Row.new _ _ _, hq6, how6.alloc _, hr6, hrow6.alloc _, hs6⟩⟩
      rw [Oper.semAt_plain _ _ _ (by intro c h; cases h)]
      simp [execOp, q9, go_sem]
    · cases ho
      have l7 : listed.getD 7 false = true := haf ⟨7, .data⟩ (Array.mem_of_getElem? (i := 0) rfl) rfl
      have q10 : a'.tmps[10]? = some (val 7) := hS.tmpSet 7 _ 10 rfl rfl (by simp) l7
      obtain ⟨b7, q7q, r7, cs7, e7, hb7, hbr7, hq7, how7, hr7, hrow7, hs7⟩ := hF 7 l7
      rw [e7] at q10
      refine op_valv (.pointer (some ⟨b7, 0, none⟩)) (W) (fun _ _ => trivial) ?_ ⟨Below.refl _ _, ⟨_, _, _, _, rfl, hb7, hbr7, hq7, how7, hr7, hrow7, hs7⟩⟩
      rw [Oper.semAt_plain _ _ _ (by intro c h; cases h)]
      simp [execOp, q10, go_sem]
  · intro W val hB hF
    obtain ⟨bb, q, r, cs, e8, g1, g2, g3, g4, g5, g6, g7⟩ := hF 8 (by decide)
    rename_i K hK
    simp only [finAct, List.getElem?_toArray, List.getElem?_cons_zero, List.getElem?_cons_succ, Act.put, List.setIfInBounds_toArray, List.set_cons_zero, List.set_cons_succ, List.size_toArray, List.length_cons, List.length_nil, Nat.reduceAdd, e8]
    have HBF := Lib.hid hB
    have HBD : Hid (BD W w.heap.size bb q r n (n - 1) [] 0) := Lib.hid ⟨⟨0, g2, fun _ => rfl⟩, own_base g4 g3, ⟨cs, g6, g7, fun _ h => by cases h⟩, g1, g5, Nat.zero_le _, by omega⟩
    clear hF hB g1 g2 g3 g4 g5 g6 g7
    refine hK _ _ ?_
    gi_wp2
    go_ret
    exact ⟨HBF.out, bb, q, r, rfl, HBD.out⟩

set_option maxRecDepth 100000 in
set_option maxHeartbeats 4000000 in
/-- places(n). -/
theorem places_c (W : World) (bb r off left m : Nat) (nv : Value) (hrow : Row W bb 88 #[nv, .slice (some ⟨r, off, none⟩) left left]) (hm : m ≤ left) (hl : left ≤ 1000) :
    Calls Tryd.prog 61 #[.pointer (some ⟨bb, 0, none⟩), .int .i64 (m : Int)] W fun e W' =>
      (m = 0 ∧ e = .returned (.slice none 0 0) ∧ W' = W) ∨ (0 < m ∧ e = .returned (.slice (some ⟨r, off, none⟩) m m) ∧ ∃ off', (m < left → off' = off + m) ∧ W' = W.setCell ⟨bb, 1, none⟩ (.slice (some ⟨r, off', none⟩) (left - m) (left - m))) := by
  have c1 := hrow.cell 1
  have f1 := hrow.frozen 1
  simp only [List.getElem?_toArray, List.getElem?_cons_zero, List.getElem?_cons_succ] at c1
  by_cases h0 : m = 0
  · subst h0
    clear hrow
    go_enter Tryd.func61, Tryd.ntmps61
    go_wp2
    go_ret
    exact .inl ⟨by simp, rfl, rfl⟩
  · have t1 : ((m : Int) == 0) = false := by simp; omega
    have t2 : ¬ m = 0 := h0
    by_cases hlm : left = m
    · subst hlm
      clear hrow
      go_enter Tryd.func61, Tryd.ntmps61
      go_wp2
      go_ret
      exact .inr ⟨by omega, rfl, off, fun h => by omega, by simp⟩
    · have t3 : ¬ m = left := fun e => hlm e.symm
      clear hrow
      go_enter Tryd.func61, Tryd.ntmps61
      go_wp2
      go_ret
      exact .inr ⟨by omega, rfl, off + m, fun _ => rfl, rfl⟩
end Go.Proofs.YtbegplfijjbpcaaDoor.No
