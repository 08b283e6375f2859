/- Lines are put in the place of others. -/
import Derived.Test.YtdgffpcbpilkcaaGreatDoorRyB
import Derived.ArgAppend
import Derived.Laws.CopyOwn
import Derived.Laws.StructEq
import Derived.BigRegion
import Derived.BigQuiet
import Derived.Deep.QuietTactic
import Derived.Deep.RegionLaw
import Derived.Deep.AppendLies
import Derived.Laws.AppendOwn
/- Lines are put in the place of others. -/
namespace Go.Proofs.YtdgffpcbpilkcaaGreatDoor
open Go Go.RowKit Go.Shelf
attribute [local go_sem] Oper.semAt_some

/-- copy, of elements of more cells than one. -/
theorem run_copy_rowN {P : Program} (w : World) (dT sT ty elem : TypeId) (g o dLen dCap : Nat) (a : Addr) (sLen sCap : Nat) (cur : Array Value) (t : TypeId) (size n : Nat) (cs : List Value)
    (hu : P.underlying dT = some (.slice elem)) (hs : (P.info? elem).map (·.size) = some size)
    (hg : w.heap[g]? = some (.cells cur t (0, 0))) (hn : Nat.min sLen dLen = n) (hcs : cs.length = n * size)
    (hsrc : ∀ (j : Nat) (v : Value), cs[j]? = some v → w.cell? (a.add j) = some v) (hfit : o + cs.length ≤ cur.size) (h1 : ∀ v ∈ cs, v.oneCell' = true) :
    (Builtin.copy_ #[dT, sT] ty #[.slice (some ⟨g, o, none⟩) dLen dCap, .slice (some a) sLen sCap]).run P w =
      .ok (goInt n) (w.setRow g (cur.toList.take o ++ cs ++ cur.toList.drop (o + cs.length)).toArray) := by
  have hl := run_loadCells_list (P := P) w a cs hsrc
  have hst := run_storeCells_at P g o t cs 0 cur w hg (by simpa using hfit) h1
  cases hq : P.info? elem with
  | none => simp [hq] at hs
  | some i =>
    have hi : i.size = size := by simpa [hq] using hs
    simp [Builtin.copy_, run_underlying hu, Builtin.lenOf, Builtin.firstCells, sizeOf, typeInfo, hq, hi, hn, ← hcs, hl, hst]
theorem step_copy_rowN {P : Program} {ops : Array Oper} {o : Oper} {a : Act} {w : World} {K : Act → World → Prop} {Q : Exit → Act → World → Prop} {E : Prop} (hgd : o.guard = none) (d s : Operand) (dT sT : TypeId)
    (ho : o.op = .call { callee := .builtin .copy, args := #[d, s], argTypes := #[dT, sT] }) (elem : TypeId) (size n : Nat) (hu : P.underlying dT = some (.slice elem)) (hsz : (P.info? elem).map (·.size) = some size)
    (g off : Nat) (ad : Addr) (dLen dCap sLen sCap : Nat) (hd : a.eval d = .slice (some ⟨g, off, none⟩) dLen dCap) (hs : a.eval s = .slice (some ad) sLen sCap)
    (cur : Array Value) (t : TypeId) (hg : w.heap[g]? = some (.cells cur t (0, 0))) (cs : List Value) (hn : Nat.min sLen dLen = n) (hcs : cs.length = n * size)
    (hsrc : ∀ (j : Nat) (v : Value), cs[j]? = some v → w.cell? (ad.add j) = some v) (hfit : off + cs.length ≤ cur.size) (h1 : ∀ v ∈ cs, v.oneCell' = true)
    (h : K (a.put o.dst (goInt n)) (w.setRow g (cur.toList.take off ++ (cs ++ cur.toList.drop (off + cs.length))).toArray)) :
    if Region.wanted o (yielded ops a.tmps) = true then Oper.wp P o a w K Q else E := by
  have hw : Region.wanted o (yielded ops a.tmps) = true := by simp [Region.wanted, hgd]
  rw [if_pos hw]
  have hrun := run_copy_rowN (P := P) w dT sT o.type elem g off dLen dCap ad sLen sCap cur t size n cs hu hsz hg hn hcs hsrc hfit h1
  unfold Oper.wp
  simp [execOp, ho, resolve, invoke, builtin, hd, hs, hrun, Result.andThen]
  exact h

theorem splice_take (l xs cs : List Value) (n o : Nat) (h : l.take n = xs) (hn : n ≤ l.length) (ho : o + cs.length ≤ n) : (l.take o ++ cs ++ l.drop (o + cs.length)).take n = xs.take o ++ cs ++ xs.drop (o + cs.length) := by
  have hl : xs.length = n := by rw [← h, List.length_take]; omega
  obtain ⟨r, hr⟩ : ∃ r, l = xs ++ r := ⟨l.drop n, by rw [← h, List.take_append_drop]⟩
  subst hr
  have e1 : (xs ++ r).take o = xs.take o := List.take_append_of_le_length (by omega)
  have e2 : (xs ++ r).drop (o + cs.length) = xs.drop (o + cs.length) ++ r := List.drop_append_of_le_length (by omega)
  rw [e1, e2, ← List.append_assoc, List.take_append_of_le_length]
  · rw [List.take_of_length_le]
    simp only [List.length_append, List.length_take, List.length_drop]
    omega
  · simp only [List.length_append, List.length_take, List.length_drop]
    omega
theorem addr_add (g o j : Nat) : (⟨g, o, none⟩ : Addr).add j = ⟨g, o + j, none⟩ := by unfold Addr.add; split <;> simp_all

/-- What put leaves. -/
def PutTo (W : World) (base X b : Nat) (n : Int) (E' : List Ln) (W' : World) : Prop :=
  ∃ b' cap', Row W' X 65 #[.slice (some ⟨b', 0, none⟩) E'.length cap', .int .i64 n] ∧ OwnE W' base (.slice (some ⟨b', 0, none⟩) E'.length cap') E' ∧ Off X b W W' ∧ (b' = b ∨ W.heap.size ≤ b')

theorem Tryz.infoLineSz : (Tryz.prog.info? 90).map (·.size) = some 2 := by kernel_rfl

set_option maxRecDepth 100000 in
set_option maxHeartbeats 4000000 in
/-- l.put(c, list...), where one line stands in the place of one. -/
theorem put_one (W : World) (base X b cap : Nat) (n : Int) (E : List Ln) (e2 : Ln) (v2 : Value) (F base2 : Nat)
    (hX : Row W X 65 #[.slice (some ⟨b, 0, none⟩) E.length cap, .int .i64 n])
    (hE : OwnE W base (.slice (some ⟨b, 0, none⟩) E.length cap) E) (h2 : OwnE W base2 v2 [e2]) (hF : F < E.length) :
    Calls Tryz.prog 31 #[.pointer (some ⟨X, 0, none⟩), .agg #[.int .i64 (F : Int), .int .i64 1, .int .i64 1], v2] W fun e W' => (∃ v, e = .returned v) ∧ PutTo W base X b n (E.take F ++ [e2] ++ E.drop (F + 1)) W' := by
  have hmix : Tryz.prog.follows .mixedOrders = true := by kernel_rfl
  obtain ⟨k1, k2, k3, k4⟩ := ownE_cells hE
  obtain ⟨g2, c2, rfl, hc2⟩ : ∃ b2 c2, v2 = .slice (some ⟨b2, 0, none⟩) 1 c2 ∧ (∀ (j : Nat) (u : Value), (lnsL [e2])[j]? = some u → W.cell? ((⟨b2, 0, none⟩ : Addr).add j) = some u) := by
    rcases h2.2 with ⟨_, e⟩ | ⟨g, cap', cur, q1, q2, q3, q4⟩
    · cases e
    · refine ⟨g, cap', q1, fun j u hu => ?_⟩
      have hj : j < 1 * 2 := by have := (List.getElem?_eq_some_iff.1 hu).1; rwa [lnsL_len] at this
      subst q1
      rw [addr_add, Nat.zero_add, World.ownsRow.cellAt h2 j hj]
      exact hu
  obtain ⟨cur, hcur, hcs, hct⟩ : ∃ cur : Array Value, W.heap[b]? = some (.cells cur 90 (0, 0)) ∧ cur.size = cap * 2 ∧ cur.toList.take (E.length * 2) = lnsL E := by
    rcases hE.2 with ⟨e, _⟩ | ⟨g, cap', cur, q1, q2, q3, q4, q5, q6, q7⟩
    · cases e
    · cases q1
      exact ⟨cur, q3, q6, q7⟩
  have hXb : X ≠ b := fun e => by subst e; rw [show W.heap[X]? = _ from hX] at hcur; cases hcur
  have hb0 : Below W.heap.size W (W.alloc (.cells #[.int .i64 (F : Int), .int .i64 1, .int .i64 1] 33)) := (Below.refl _ W).alloc (Nat.le_refl _) _
  obtain ⟨W0, hW0⟩ : ∃ W0, W0 = W.alloc (.cells #[.int .i64 (F : Int), .int .i64 1, .int .i64 1] 33) := ⟨_, rfl⟩
  have hr0 : Row W0 W.heap.size 33 #[.int .i64 (F : Int), .int .i64 1, .int .i64 1] := by rw [hW0]; exact Row.new _ _ _
  rw [← hW0] at hb0
  have hX0 : Row W0 X 65 #[.slice (some ⟨b, 0, none⟩) E.length cap, .int .i64 n] := hX.below hb0 hX.lt
  have hg0 : W0.heap[b]? = some (.cells cur 90 (0, 0)) := (hb0.block b k3).trans hcur
  have hc0 : ∀ (j : Nat) (u : Value), (lnsL [e2])[j]? = some u → W0.cell? ((⟨g2, 0, none⟩ : Addr).add j) = some u := fun j u hu => by
    have h9 := hc2 j u hu
    rw [addr_add] at h9 ⊢
    exact (hb0.cell (p := ⟨g2, 0 + j, none⟩) (World.block_lt_of_cell? W _ h9)).trans h9
  have hcells := lnsL_one [e2]
  have hlen : (lnsL [e2]).length = 1 * 2 := lnsL_len [e2]
  have hdrop : F * 2 + (lnsL [e2]).length ≤ cur.size := by rw [hlen, hcs]; omega
  have hmin : Nat.min 1 (E.length - F) = 1 := by show min 1 (E.length - F) = 1; omega
  obtain ⟨CS, hCS⟩ : ∃ CS, CS = lnsL [e2] := ⟨_, rfl⟩
  rw [← hCS] at hc0 hcells hlen hdrop
  have HC0 := Lib.hid hc0
  have HCL := Lib.hid hcells
  have HLN := Lib.hid hlen
  have HDR := Lib.hid hdrop
  have HMN := Lib.hid hmin
  have HG0 := Lib.hid hg0
  have HB0 := Lib.hid hb0
  have HCS := Lib.hid hCS
  have HCT := Lib.hid hct
  have HX0 := Lib.hid hX0
  have HE := Lib.hid hE
  have HCR := Lib.hid hcur
  have HXb := Lib.hid hXb
  have cX := hX0.cell 0
  have r0 := hr0.cell 0
  have r1 := hr0.cell 1
  have r2 := hr0.cell 2
  simp at cX r0 r1 r2
  clear hc2 k4 hc0 hcells hlen hdrop hmin hg0 hCS hct hX0 hE hX hcur h2 hr0 hXb
  unfold maxLen at k2
  go_enter Tryz.func31, Tryz.ntmps31
  go_wp2_with fail
  rw [← hW0]
  clear hW0
  have hF2 : F ≤ E.length := by omega
  have hcF : ¬ cap = F := by omega
  have hfin : PutTo W base X b n (E.take F ++ [e2] ++ E.drop (F + 1)) (W0.drew.setRow b (cur.toList.take (F * 2) ++ (CS ++ cur.toList.drop (F * 2 + CS.length))).toArray) := by
    have hl : (E.take F ++ [e2] ++ E.drop (F + 1)).length = E.length := by simp; omega
    have hg1 : W0.drew.heap[b]? = some (.cells cur 90 (0, 0)) := HG0.out
    have hr := setRow_heap W0.drew b cur (cur.toList.take (F * 2) ++ (CS ++ cur.toList.drop (F * 2 + CS.length))).toArray _ _ hg1
    have hln := HLN.out
    have hns : lnsL (E.take F ++ [e2] ++ E.drop (F + 1)) = (lnsL E).take (F * 2) ++ CS ++ (lnsL E).drop (F * 2 + CS.length) := by
      rw [lnsL_app, lnsL_app, ← lnsL_take, ← lnsL_drop, HCS.out, lnsL_len]
      congr 2
      simp; omega
    refine ⟨b, cap, ?_, ?_, ⟨hb0.os, hb0.tape, hb0.output, ?_, fun k hk h1 h2 => ?_⟩, .inl rfl⟩
    · rw [hl]
      exact (setRow_other W0.drew b X _ HXb.out).trans HX0.out
    · rw [hl]
      refine ⟨by rw [lnsL_len, hl], .inr ⟨b, cap, _, by rw [hl], (HE.out.lt b rfl).1, hr, by rw [hl]; exact k1, by unfold maxLen; omega, ?_, ?_⟩⟩
      · simp only [List.size_toArray, List.length_append, List.length_take, List.length_drop, Array.length_toList]
        omega
      · rw [hl, hns]
        have h3 := splice_take cur.toList (lnsL E) CS (E.length * 2) (F * 2) HCT.out (by have : cur.toList.length = cur.size := Array.length_toList; omega) (by omega)
        simpa using h3
    · show W.heap.size ≤ (W0.drew.setRow b _).heap.size
      have := hb0.size
      simpa [World.setRow] using this
    · exact (setRow_other W0.drew b k _ h2).trans (hb0.block k hk)
  have HFIN := Lib.hid hfin
  clear hfin
  go_wp2_with fail
  go_region_law (refine step_copy_rowN rfl (.tmp 19) (.tmp 20) 56 56 rfl 90 2 1 Tryz.underlying56 Tryz.infoLineSz b (F * 2) ⟨g2, 0, none⟩ (E.length - F) (cap - F) 1 c2 rfl rfl cur 90 HG0.out CS HMN.out HLN.out HC0.out HDR.out HCL.out ?_)
  all_goals go_wp2_with fail
  all_goals exact bodyPost_ret (results_none rfl _ _ _) rfl ⟨⟨_, rfl⟩, HFIN.out⟩

set_option maxRecDepth 100000 in
set_option maxHeartbeats 4000000 in
/-- l.put(c, list...), else. -/
theorem put_many (W : World) (base X b cap : Nat) (n : Int) (E E2 : List Ln) (v2 : Value) (F O base2 : Nat)
    (hX : Row W X 65 #[.slice (some ⟨b, 0, none⟩) E.length cap, .int .i64 n])
    (hE : OwnE W base (.slice (some ⟨b, 0, none⟩) E.length cap) E) (h2 : OwnE W base2 v2 E2) (hO : 1 ≤ O) (hF : F + O ≤ E.length) (hN : 1 ≤ E2.length) (hsz : E.length ≤ 10000) (hsz2 : E2.length ≤ 20000) (hbase : base ≤ W.heap.size) (hno : ¬ (O = 1 ∧ E2.length = 1)) :
    Calls Tryz.prog 31 #[.pointer (some ⟨X, 0, none⟩), .agg #[.int .i64 (F : Int), .int .i64 (O : Int), .int .i64 (E2.length : Int)], v2] W fun e W' => (∃ v, e = .returned v) ∧ PutTo W base X b n (E.take F ++ E2 ++ E.drop (F + O)) W' := by
  have hmix : Tryz.prog.follows .mixedOrders = true := by kernel_rfl
  obtain ⟨i0, hi, hz0, hz1, hz2⟩ := info_line
  obtain ⟨k1, k2, k3, k4⟩ := ownE_cells hE
  obtain ⟨N, hNN⟩ : ∃ N, N = E2.length := ⟨_, rfl⟩
  obtain ⟨g2, c2, rfl, hc2⟩ : ∃ b2 c2, v2 = .slice (some ⟨b2, 0, none⟩) N c2 ∧ (∀ (j : Nat) (u : Value), (lnsL E2)[j]? = some u → W.cell? ((⟨b2, 0, none⟩ : Addr).add j) = some u) := by
    have h2' : W.ownsRow base2 90 2 v2 N (lnsL E2) := by rw [hNN]; exact h2
    rcases h2'.2 with ⟨_, e⟩ | ⟨g, cap', cur, q1, q2, q3, q4⟩
    · omega
    · refine ⟨g, cap', q1, fun j u hu => ?_⟩
      have hj : j < N * 2 := by have := (List.getElem?_eq_some_iff.1 hu).1; rwa [lnsL_len, ← hNN] at this
      subst q1
      rw [addr_add, Nat.zero_add, World.ownsRow.cellAt h2' j hj]
      exact hu
  have hXt := hX
  have hcb : ∀ (j : Nat) (u : Value), (lnsL E)[j]? = some u → W.cell? ⟨b, j, none⟩ = some u := fun j u hu => by
    have hj : j < E.length * 2 := by have := (List.getElem?_eq_some_iff.1 hu).1; rwa [lnsL_len] at this
    rw [World.ownsRow.cellAt hE j hj]
    exact hu
  have hXb : X ≠ b := fun e => by
    obtain ⟨cur, hc⟩ := ownsRow_at hE (k := b) rfl
    subst e
    rw [show W.heap[X]? = _ from hX] at hc
    cases hc
  have hb0 : Below W.heap.size W (W.alloc (.cells #[.int .i64 (F : Int), .int .i64 (O : Int), .int .i64 (N : Int)] 33)) := (Below.refl _ W).alloc (Nat.le_refl _) _
  obtain ⟨W0, hW0⟩ : ∃ W0, W0 = W.alloc (.cells #[.int .i64 (F : Int), .int .i64 (O : Int), .int .i64 (N : Int)] 33) := ⟨_, rfl⟩
  have hr0 : Row W0 W.heap.size 33 #[.int .i64 (F : Int), .int .i64 (O : Int), .int .i64 (N : Int)] := by rw [hW0]; exact Row.new _ _ _
  rw [← hW0] at hb0
  have hX0 : Row W0 X 65 #[.slice (some ⟨b, 0, none⟩) E.length cap, .int .i64 n] := hX.below hb0 hX.lt
  have cX := hX0.cell 0
  have r0 := hr0.cell 0
  have r1 := hr0.cell 1
  have r2 := hr0.cell 2
  simp at cX r0 r1 r2
  unfold maxLen at k2
  have hF2 : F + O ≤ E.length := hF
  have hFl : F ≤ cap := by omega
  have HX0 := Lib.hid hX0
  have HXb := Lib.hid hXb
  have HB0 := Lib.hid hb0
  obtain ⟨ad, had, hadc⟩ : ∃ ad : Addr, (if cap = F + O then some (⟨b, 0, none⟩ : Addr) else some ⟨b, (F + O) * 2, none⟩) = some ad ∧ (F + O < cap → ad = ⟨b, (F + O) * 2, none⟩) := by
    by_cases h : cap = F + O
    · exact ⟨⟨b, 0, none⟩, by rw [if_pos h], fun h2 => by omega⟩
    · exact ⟨⟨b, (F + O) * 2, none⟩, by rw [if_neg h], fun _ => rfl⟩
  have HADC := Lib.hid hadc
  have HCB := Lib.hid hcb
  have HC2 := Lib.hid hc2
  have HK3 := Lib.hid k3
  clear hadc hcb hc2 k4 hXt hX0 hE hX h2 hr0 hXb
  have hcase : ((O : Int) == 1) = false ∨ (((O : Int) == 1) = true ∧ ((N : Int) == 1) = false) := by
    by_cases h : O = 1
    · right; exact ⟨by simp; omega, by simp; omega⟩
    · left; simp; omega
  rw [← hNN]
  have hN1 : 1 ≤ N := by omega
  have hN2 : N ≤ 20000 := by omega
  have HNN := Lib.hid hNN
  clear hNN hN hsz2 hno
  have hd0 : ∀ (j : Nat) (u : Value), (lnsL E)[j]? = some u → W0.cell? ⟨b, j, none⟩ = some u := fun j u hu => (hb0.cell (p := ⟨b, j, none⟩) k3).trans (HCB.out j u hu)
  have HL1 : Hid ((lnsL (E.take F)).length = F * 2) := Lib.hid (by rw [lnsL_len, List.length_take, Nat.min_eq_left (by omega)])
  have HL2 : Hid (∀ b', (some (⟨b, 0, none⟩ : Addr)) = some b' → ∀ (j : Nat) (u : Value), (lnsL (E.take F))[j]? = some u → W0.cell? (b'.add j) = some u) := Lib.hid (fun b' hb' j u hu => by
    cases hb'
    rw [addr_add, Nat.zero_add]
    refine hd0 j u ?_
    rw [← lnsL_take] at hu
    have hj := (List.getElem?_eq_some_iff.1 hu).1
    rw [List.length_take] at hj
    rwa [List.getElem?_take, if_pos (by omega)] at hu)
  have HL3 : Hid ((lnsL E2).length = N * 2) := Lib.hid (by rw [lnsL_len, HNN.out])
  have HL4 : Hid (∀ (j : Nat) (u : Value), (lnsL E2)[j]? = some u → W0.cell? ((⟨g2, 0, none⟩ : Addr).add j) = some u) := Lib.hid (fun j u hu => by
    have h9 := HC2.out j u hu
    rw [addr_add] at h9 ⊢
    exact (hb0.cell (p := ⟨g2, 0 + j, none⟩) (World.block_lt_of_cell? W _ h9)).trans h9)
  have HL5 := Lib.hid (lnsL_one E2)
  have HL6 : Hid (F + N ≤ maxLen ∧ (F + N) * 40 ≤ 140737488355328 ∧ F < F + N) := Lib.hid ⟨by unfold maxLen; omega, by omega, by omega⟩
  have HL7 : Hid ((lnsL (E.drop (F + O))).length = (E.length - (F + O)) * 2) := Lib.hid (by rw [lnsL_len, List.length_drop])
  have HL8 : Hid (∀ (ad : Addr) (W' : World), (F + O < cap → ad = ⟨b, (F + O) * 2, none⟩) → W'.heap[b]? = W0.heap[b]? → ∀ (j : Nat) (u : Value), (lnsL (E.drop (F + O)))[j]? = some u → W'.cell? (ad.add j) = some u) := Lib.hid (fun ad W' h1 h2 j u hu => by
    rw [← lnsL_drop, List.getElem?_drop] at hu
    have hj := (List.getElem?_eq_some_iff.1 hu).1
    rw [lnsL_len] at hj
    rw [h1 (by omega), addr_add]
    exact (World.cell?_of_block (a := ⟨b, (F + O) * 2 + j, none⟩) h2).trans (hd0 _ u hu))
  have HL9 := Lib.hid (lnsL_one (E.drop (F + O)))
  have HLA : Hid (F + N + (E.length - (F + O)) ≤ maxLen ∧ (F + N + (E.length - (F + O))) * 40 ≤ 140737488355328) := Lib.hid ⟨by unfold maxLen; omega, by omega⟩
  have HFIN : Hid (∀ (w1 w2 : World) (v1 : Value) (a : Option Addr) (l c : Nat), W0.drew.grownBy w1 none → w1.grownBy w2 v1.ownBlock → w1.ownsRow W0.heap.size 90 2 v1 (F + N) (lnsL (E.take F) ++ lnsL E2) → w2.ownsRow W0.heap.size 90 2 (.slice a l c) (F + N + (E.length - (F + O))) (lnsL (E.take F) ++ lnsL E2 ++ lnsL (E.drop (F + O))) → PutTo W base X b n (E.take F ++ E2 ++ E.drop (F + O)) (w2.setCell ⟨X, 0, none⟩ (.slice a l c))) := Lib.hid (fun w1 w2 v1 a l c g1 g2 o1 o2 => by
    have hX1 : Row w1 X _ _ := (g1.block X HX0.out.lt (by simp)).trans HX0.out
    have hX2 : Row w2 X _ _ := (g2.block X hX1.lt (fun e => by have := (o1.lt _ e.symm).1; have := HX0.out.lt; omega)).trans hX1
    have hEl : (E.take F ++ E2 ++ E.drop (F + O)).length = F + N + (E.length - (F + O)) := by
      rw [List.length_append, List.length_append, List.length_take, List.length_drop, HNN.out, Nat.min_eq_left (by omega)]
    rcases o2.2 with ⟨_, e⟩ | ⟨g, cap', cur, q1, q2, q3, q4, q5, q6, q7⟩
    · omega
    · cases q1
      have hWs := hb0.size
      have hX3 := hX2.set 0 (.slice (some ⟨g, 0, none⟩) (F + N + (E.length - (F + O))) c)
      have hXg : g ≠ X := by have := HX0.out.lt; omega
      refine ⟨g, c, ?_, ?_, ⟨?_, ?_, ?_, ?_, fun k hk h1 h2 => ?_⟩, .inr (by omega)⟩
      · rw [hEl]
        simpa using hX3
      · rw [hEl]
        refine ⟨by rw [lnsL_len, hEl], .inr ⟨g, c, cur, by rw [hEl], by omega, (Below.heap_setCell w2 ⟨X, 0, none⟩ _ g hXg).trans q3, by rw [hEl]; exact q4, q5, q6, ?_⟩⟩
        rw [hEl, q7, lnsL_app, lnsL_app]
      · exact g2.os.trans (g1.os.trans hb0.os)
      · exact g2.tape.trans (g1.tape.trans hb0.tape)
      · exact g2.output.trans (g1.output.trans hb0.output)
      · rw [World.size_setCell]
        exact Nat.le_trans hWs (Nat.le_trans g1.size g2.size)
      · rw [Below.heap_setCell w2 ⟨X, 0, none⟩ _ k h1]
        have hk0 : k < W0.heap.size := by omega
        rw [g2.block k (Nat.lt_of_lt_of_le hk0 g1.size) (fun e => by have := (o1.lt _ e.symm).1; omega), g1.block k hk0 (by simp)]
        exact hb0.block k hk)
  clear hd0 had hbase
  rcases hcase with hq | ⟨hq1, hq⟩
  all_goals
    go_enter Tryz.func31, Tryz.ntmps31
    go_wp2_with fail
    try rw [← hW0]
    clear hW0
    go_wp2_with fail
    go_region
    all_goals go_wp2_with (at_builtin; refine wpList_append_grows _ rfl (.tmp 42) (.tmp 43) 56 rfl 90 i0 (.agg #[.string ⟨#[]⟩, .slice none 0 0]) 2 40 Tryz.underlying56 hi hz0 hz1 hz2 rfl (by decide) (some ⟨b, 0, none⟩) F F (lnsL (E.take F)) rfl (fun h => by cases h) HL1.out HL2.out ⟨g2, 0, none⟩ N c2 (lnsL E2) rfl HL3.out HL4.out HL5.out HL6.out.2.2 HL6.out.1 HL6.out.2.1 ?_)
    all_goals
      intro v1 w1 ho1 hg1
      have HO1 := Lib.hid ho1
      have HG1 := Lib.hid hg1
      obtain ⟨a1, l1, c1, rfl⟩ := own_sl ho1
      clear ho1 hg1
      go_step
      go_step
      (try go_step)
      at_builtin
      refine wpList_append_own _ rfl (.tmp 44) (.tmp 45) 56 rfl W0.heap.size 90 i0 (.agg #[.string ⟨#[]⟩, .slice none 0 0]) 2 40 Tryz.underlying56 hi hz0 hz1 hz2 rfl (by decide) (.slice a1 l1 c1) (F + N) (lnsL (E.take F) ++ lnsL E2) rfl HO1.out _ _ _ (lnsL (E.drop (F + O))) rfl HL7.out (HL8.out _ _ (fun h => by first | rfl | omega) (HG1.out.block b (Nat.lt_of_lt_of_le HK3.out HB0.out.size) (by simp))) HL9.out HLA.out.1 HLA.out.2 HG1.out.size ?_
      intro v2 w2 ho2 hg2 _
      have HO2 := Lib.hid ho2
      have HG2 := Lib.hid hg2
      obtain ⟨a2, l2, c2', rfl⟩ := own_sl ho2
      have hX2 : Row w2 X 65 _ := (hg2.block X (Nat.lt_of_lt_of_le HX0.out.lt HG1.out.size) (fun e => by have h1 := (HO1.out.lt _ e.symm).1; have h2 := HX0.out.lt; have h3 : W0.drew.heap.size = W0.heap.size := rfl; omega)).trans ((HG1.out.block X HX0.out.lt (by simp)).trans HX0.out)
      have c4 := hX2.cell 0
      have f4 := hX2.frozen 0
      simp at c4
      clear ho2 hg2 hX2
      go_wp2_with fail
      go_end0
      exact ⟨⟨_, rfl⟩, HFIN.out _ _ _ _ _ _ HG1.out HG2.out HO1.out HO2.out⟩
end Go.Proofs.YtdgffpcbpilkcaaGreatDoor
