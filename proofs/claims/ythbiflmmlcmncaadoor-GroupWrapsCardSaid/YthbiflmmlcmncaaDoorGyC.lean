/- copy, of elements of any size (by wip/gen/gr_rep.py). Nothing of the program stands here. slices.Repeat of one number. -/
import Derived.Laws.CopyOwn
import Derived.Laws.MakeOwn
import Derived.BigRegion
import Derived.Deep.RegionLaw
import Derived.WalkKit
import Derived.Test.YthbiflmmlcmncaaDoorGyA
import Derived.Test.YthbiflmmlcmncaaDoorShelf
/- copy, of elements of any size (by wip/gen/gr_rep.py). Nothing of the program stands here. -/
namespace Go.Proofs.YthbiflmmlcmncaaDoor
open Go Go.RowKit
/-- copy, of elements of more cells than one. -/
theorem run_copy_rowN {P : Program} (w : World) (dT sT ty elem : TypeId) (g o dLen dCap : Nat) (a : Addr) (sLen sCap : Nat) (cur : Array Value) (t : TypeId) (size n : Nat) (cs : List Value)
    (hu : P.underlying dT = some (.slice elem)) (hs : (P.info? elem).map (·.size) = some size)
    (hg : w.heap[g]? = some (.cells cur t (0, 0))) (hn : Nat.min sLen dLen = n) (hcs : cs.length = n * size)
    (hsrc : ∀ (j : Nat) (v : Value), cs[j]? = some v → w.cell? (a.add j) = some v) (hfit : o + cs.length ≤ cur.size) (h1 : ∀ v ∈ cs, v.oneCell' = true) :
    (Builtin.copy_ #[dT, sT] ty #[.slice (some ⟨g, o, none⟩) dLen dCap, .slice (some a) sLen sCap]).run P w =
      .ok (goInt n) (w.setRow g (cur.toList.take o ++ cs ++ cur.toList.drop (o + cs.length)).toArray) := by
  have hl := run_loadCells_list (P := P) w a cs hsrc
  have hst := run_storeCells_at P g o t cs 0 cur w hg (by simpa using hfit) h1
  cases hq : P.info? elem with
  | none => simp [hq] at hs
  | some i =>
    have hi : i.size = size := by simpa [hq] using hs
    simp [Builtin.copy_, run_underlying hu, Builtin.lenOf, Builtin.firstCells, sizeOf, typeInfo, hq, hi, hn, ← hcs, hl, hst]
theorem step_copy_rowN {P : Program} {ops : Array Oper} {o : Oper} {a : Act} {w : World} {K : Act → World → Prop} {Q : Exit → Act → World → Prop} {E : Prop} (hgd : o.guard = none) (d s : Operand) (dT sT : TypeId)
    (ho : o.op = .call { callee := .builtin .copy, args := #[d, s], argTypes := #[dT, sT] }) (elem : TypeId) (size n : Nat) (hu : P.underlying dT = some (.slice elem)) (hsz : (P.info? elem).map (·.size) = some size)
    (g off : Nat) (ad : Addr) (dLen dCap sLen sCap : Nat) (hd : a.eval d = .slice (some ⟨g, off, none⟩) dLen dCap) (hs : a.eval s = .slice (some ad) sLen sCap)
    (cur : Array Value) (t : TypeId) (hg : w.heap[g]? = some (.cells cur t (0, 0))) (cs : List Value) (hn : Nat.min sLen dLen = n) (hcs : cs.length = n * size)
    (hsrc : ∀ (j : Nat) (v : Value), cs[j]? = some v → w.cell? (ad.add j) = some v) (hfit : off + cs.length ≤ cur.size) (h1 : ∀ v ∈ cs, v.oneCell' = true)
    (h : K (a.put o.dst (goInt n)) (w.setRow g (cur.toList.take off ++ (cs ++ cur.toList.drop (off + cs.length))).toArray)) :
    if Region.wanted o (yielded ops a.tmps) = true then Oper.wp P o a w K Q else E := by
  have hw : Region.wanted o (yielded ops a.tmps) = true := by simp [Region.wanted, hgd]
  rw [if_pos hw]
  have hrun := run_copy_rowN (P := P) w dT sT o.type elem g off dLen dCap ad sLen sCap cur t size n cs hu hsz hg hn hcs hsrc hfit h1
  unfold Oper.wp
  simp [execOp, ho, resolve, invoke, builtin, hd, hs, hrun, Result.andThen]
  exact h
theorem addr_add (g o j : Nat) : (⟨g, o, none⟩ : Addr).add j = ⟨g, o + j, none⟩ := by unfold Addr.add; split <;> simp_all
theorem wpList_copy_rowN {P : Program} {ops : Array Oper} {rest : List Oper} {o : Oper} {a : Act} {w : World} {Q : Exit → Act → World → Prop} (hgd : o.guard = none) (d s : Operand) (dT sT : TypeId)
    (ho : o.op = .call { callee := .builtin .copy, args := #[d, s], argTypes := #[dT, sT] }) (elem : TypeId) (size n : Nat) (hu : P.underlying dT = some (.slice elem)) (hsz : (P.info? elem).map (·.size) = some size)
    (g off : Nat) (ad : Addr) (dLen dCap sLen sCap : Nat) (hd : a.eval d = .slice (some ⟨g, off, none⟩) dLen dCap) (hs : a.eval s = .slice (some ad) sLen sCap)
    (cur : Array Value) (t : TypeId) (hg : w.heap[g]? = some (.cells cur t (0, 0))) (cs : List Value) (hn : Nat.min sLen dLen = n) (hcs : cs.length = n * size)
    (hsrc : ∀ (j : Nat) (v : Value), cs[j]? = some v → w.cell? (ad.add j) = some v) (hfit : off + cs.length ≤ cur.size) (h1 : ∀ v ∈ cs, v.oneCell' = true)
    (h : wpList P ops Q rest (a.put o.dst (goInt n)) (w.setRow g (cur.toList.take off ++ (cs ++ cur.toList.drop (off + cs.length))).toArray)) :
    wpList P ops Q (o :: rest) a w := by
  refine wpList_plain hgd fun K hK' => ?_
  have hrun := run_copy_rowN (P := P) w dT sT o.type elem g off dLen dCap ad sLen sCap cur t size n cs hu hsz hg hn hcs hsrc hfit h1
  unfold Oper.wp
  simp [execOp, ho, resolve, invoke, builtin, hd, hs, hrun, Result.andThen]
  exact hK' _ _ h
end Go.Proofs.YthbiflmmlcmncaaDoor

/- slices.Repeat of one number. -/
namespace Go.Proofs.YthbiflmmlcmncaaDoor.Ti
open Go Go.RowKit Go.Shelf
attribute [local go_sem] Oper.semAt_some

theorem infoIsz : (Tryd.prog.info? 3).map (·.size) = some 1 := by kernel_rfl
/-- Block b has n numbers, the first m of which are -1. -/
def Filled (W : World) (b n m : Nat) : Prop := ∃ cs : Array Value, Row W b 3 cs ∧ cs.size = n ∧ ∀ j, j < m → cs[j]? = some (.int .i64 (-1))
theorem Filled.below {W W' : World} {b n m : Nat} (h : Filled W b n m) (hb : Below W.heap.size W W') : Filled W' b n m := by
  obtain ⟨cs, h1, h2, h3⟩ := h
  exact ⟨cs, h1.below hb h1.lt, h2, h3⟩
theorem Filled.own {W : World} {base b n : Nat} (h : Filled W b n n) (hb : base ≤ b) (hn : n ≤ 1000) : IOwn W base (.slice (some ⟨b, 0, none⟩) n n) (List.replicate n (-1)) := by
  obtain ⟨cs, h1, h2, h3⟩ := h
  have e : cs.toList = nums (List.replicate n (-1)) := by
    apply List.ext_getElem?
    intro j
    by_cases hj : j < n
    · rw [Array.getElem?_toList, h3 j hj]
      simp [nums, hj]
    · rw [List.getElem?_eq_none (by rw [Array.length_toList]; omega), List.getElem?_eq_none (by simp [nums]; omega)]
  refine ⟨by simp [nums], .inr ⟨b, n, cs, by simp, hb, h1, by simp, by unfold maxLen; omega, by omega, ?_⟩⟩
  rw [List.length_replicate, ← e, List.take_of_length_le (by rw [Array.length_toList]; omega)]
theorem setRow_filled {W : World} {b n m q : Nat} {cs : Array Value} (h1 : Row W b 3 cs) (h2 : cs.size = n) (h3 : ∀ j, j < m → cs[j]? = some (.int .i64 (-1))) (hq : m + q ≤ n) :
    Filled (W.setRow b (cs.toList.take m ++ (List.replicate q (Value.int .i64 (-1)) ++ cs.toList.drop (m + (List.replicate q (Value.int .i64 (-1))).length))).toArray) b n (m + q) := by
  refine ⟨_, setRow_heap W b cs _ _ (0, 0) h1, ?_, fun j hj => ?_⟩
  · simp; omega
  · rw [List.getElem?_toArray, List.getElem?_append]
    have hl : (cs.toList.take m).length = m := by rw [List.length_take, Array.length_toList]; omega
    rw [hl]
    split
    · rename_i hjm
      rw [List.getElem?_take, if_pos hjm, Array.getElem?_toList]
      exact h3 j hjm
    · rw [List.getElem?_append_left (by simp; omega), List.getElem?_replicate, if_pos (by omega)]

theorem own_row {base : Nat} {t : TypeId} {n cap g : Nat} {W : World} {xs : List Value} (h : W.ownsRow base t 1 (.slice (some ⟨g, 0, none⟩) n cap) n xs) : ∃ cur, Row W g t cur ∧ cur.size = cap := by
  rcases h.2 with ⟨hv, h0⟩ | ⟨g', cap', cur, e1, _, e3, _, _, e6, _⟩
  · cases hv
  · cases e1
    exact ⟨cur, e3, by omega⟩

set_option maxRecDepth 100000 in
set_option maxHeartbeats 1000000 in
theorem repeat_c (w : World) (c n : Nat) (hc : w.cell? ⟨c, 0, none⟩ = some (.int .i64 (-1))) (hcl : c < w.heap.size) (hn : n ≤ 1000) :
    Calls Tryd.prog 39 #[.slice (some ⟨c, 0, none⟩) 1 1, .int .i64 (n : Int)] w fun e W' => ∃ g, e = .returned (.slice (some ⟨g, 0, none⟩) n n) ∧ IOwn W' w.heap.size (.slice (some ⟨g, 0, none⟩) n n) (List.replicate n (-1)) ∧ Below w.heap.size w W' := by
  have hmix : Tryd.prog.follows .mixedOrders = true := by kernel_rfl
  obtain ⟨i0, hi, hz0, hz1, hz2⟩ := infoI
  have hmul : ∀ W, Calls Tryd.prog 55 #[.int .u64 1, .int .u64 (n : Int)] W fun e w' => e = .returned (.tuple #[.int .u64 0, .int .u64 (n : Int)]) ∧ w' = W := fun W => by
    have h := Tryd.bits_Mul 1 n (by omega) (by omega) W
    have e1 : 1 * n / 18446744073709551616 = 0 := Nat.div_eq_of_lt (by omega)
    have e2 : 1 * n % 18446744073709551616 = n := by rw [Nat.one_mul]; exact Nat.mod_eq_of_lt (by omega)
    rw [e1, e2] at h
    exact h
  have HMUL := Lib.hid hmul
  clear hmul
  go_enter Tryd.func39, Tryd.ntmps39
  go_wp2_with fail
  refine (HMUL.out _).mono ?_
  rintro e w1 ⟨rfl, rfl⟩
  obtain ⟨q, hq⟩ : ∃ q, q = Nat.min 1 n := ⟨_, rfl⟩
  have hqn : q ≤ n ∧ q ≤ 1 ∧ (0 < n → 0 < q) := by
    have h : q = min 1 n := hq
    omega
  have HQ := Lib.hid hq.symm
  have HC0 : Hid (∀ (W : World), Below w1.heap.size w1 W → ∀ (j : Nat) (v : Value), (List.replicate q (Value.int .i64 (-1)))[j]? = some v → W.cell? ((⟨c, 0, none⟩ : Addr).add j) = some v) := Lib.hid (fun W hb j v hv => by
    rw [List.getElem?_replicate] at hv
    split at hv
    · obtain rfl : j = 0 := by omega
      rw [addr_add]
      cases hv
      exact (hb.cell (p := ⟨c, 0, none⟩) hcl).trans hc
    · cases hv)
  have HR1 : Hid (∀ v ∈ List.replicate q (Value.int .i64 (-1)), v.oneCell' = true) := Lib.hid (fun v hv => by rw [(List.mem_replicate.1 hv).2]; rfl)
  have HRL : Hid ((List.replicate q (Value.int .i64 (-1))).length = q * 1) := Lib.hid (by simp)
  clear hq
  go_wp2_with ((at_make; refine wpList_make_full _ rfl (.tmp 29) (.tmp 29) 45 rfl w1.heap.size 3 i0 (.int .i64 0) 1 Tryd.underlying45 hi hz0 hz1 .i64 .i64 _ _ n rfl rfl rfl rfl (by rw [hz2]; omega) (by unfold maxLen; omega) (Nat.le_refl _) ?_; intro w2 hown2 hg2; obtain ⟨cur, hrow, hcur⟩ := own_row hown2; have HRW := Lib.hid hrow; have HB2 := Lib.hid ((Below.refl w1.heap.size w1).grown hg2 (Nat.le_refl _) (fun k e => by cases e)); have HFIT : Hid (0 + (List.replicate q (Value.int .i64 (-1))).length ≤ cur.size) := Lib.hid (by simp; omega); clear hown2 hg2 hrow; have hfil := setRow_filled (q := q) (m := 0) HRW.out hcur (fun j hj => by omega) (by omega); rw [show 0 + q = q from Nat.zero_add q] at hfil; have HF3 := Lib.hid hfil; have HB3 := Lib.hid (below_setRow HB2.out (Nat.le_refl w1.heap.size) (cur.toList.take 0 ++ List.replicate q (Value.int .i64 (-1)) ++ cur.toList.drop (0 + (List.replicate q (Value.int .i64 (-1))).length)).toArray); have hcp := run_copy_rowN (P := Tryd.prog) w2 45 45 3 3 w1.heap.size 0 n n ⟨c, 0, none⟩ 1 1 cur 3 1 q (List.replicate q (Value.int .i64 (-1))) Tryd.underlying45 infoIsz HRW.out HQ.out HRL.out (HC0.out w2 HB2.out) HFIT.out HR1.out; rw [List.append_assoc] at hcp HB3; change _ = Result.ok (Value.int .i64 (q : Int)) _ at hcp; clear hfil; obtain ⟨w3, hw3⟩ : ∃ w3, w3 = w2.setRow w1.heap.size (cur.toList.take 0 ++ (List.replicate q (Value.int .i64 (-1)) ++ cur.toList.drop (0 + (List.replicate q (Value.int .i64 (-1))).length))).toArray := ⟨_, rfl⟩; rw [← hw3] at HB3 HF3 hcp; clear hw3))
  go_loopw [8] (fun i wr => ∃ m : Nat, i = .int .i64 m ∧ m ≤ n ∧ (0 < n → 0 < m) ∧ Filled wr w1.heap.size n m ∧ Below w1.heap.size w1 wr)
    (fun i _ => n - (intOf i).toNat)
  case atStart => exact ⟨q, rfl, hqn.1, hqn.2.2, HF3.out, HB3.out⟩
  case round =>
    obtain ⟨m, rfl, hm, hpos, hfil, hB⟩ := hrel
    have HF := Lib.hid hfil
    have HB := Lib.hid hB
    have hbs := hB.size
    clear hfil hB
    by_cases hlt : m < n
    · obtain ⟨r, hr⟩ : ∃ r, r = Nat.min m (n - m) := ⟨_, rfl⟩
      have hrn : r ≤ m ∧ m + r ≤ n ∧ 0 < r := by
        have h : r = min m (n - m) := hr
        omega
      obtain ⟨cs, h1, h2, h3⟩ := HF.out
      have HR := Lib.hid hr.symm
      have HRW2 : Hid (wr.drew.heap[w1.heap.size]? = some (.cells cs 3 (0, 0))) := Lib.hid h1
      have HC1 : Hid (∀ (j : Nat) (v : Value), (List.replicate r (Value.int .i64 (-1)))[j]? = some v → wr.drew.cell? ((⟨w1.heap.size, 0, none⟩ : Addr).add j) = some v) := Lib.hid (fun j v hv => by
        rw [List.getElem?_replicate] at hv
        split at hv
        · rw [addr_add]
          cases hv
          have e := h1.cell (0 + j)
          rw [Nat.zero_add, h3 j (by omega)] at e
          rw [Nat.zero_add]
          exact e
        · cases hv)
      have HR2 : Hid (∀ v ∈ List.replicate r (Value.int .i64 (-1)), v.oneCell' = true) := Lib.hid (fun v hv => by rw [(List.mem_replicate.1 hv).2]; rfl)
      have HRL2 : Hid ((List.replicate r (Value.int .i64 (-1))).length = r * 1) := Lib.hid (by simp)
      have HFT : Hid (m + (List.replicate r (Value.int .i64 (-1))).length ≤ cs.size) := Lib.hid (by simp; omega)
      have HN : Hid (∀ W, W = wr.drew.setRow w1.heap.size (cs.toList.take m ++ (List.replicate r (Value.int .i64 (-1)) ++ cs.toList.drop (m + (List.replicate r (Value.int .i64 (-1))).length))).toArray → Filled W w1.heap.size n (m + r) ∧ Below w1.heap.size w1 W) := Lib.hid (fun W e => by
        rw [e]
        exact ⟨setRow_filled (W := wr.drew) h1 h2 h3 hrn.2.1, below_setRow HB.out.drew (Nat.le_refl _) _⟩)
      have es1 : (n : Int) - (m : Int) = ((n - m : Nat) : Int) := by omega
      obtain ⟨p, hp⟩ : ∃ p, p = m + r := ⟨_, rfl⟩
      have es2 : (m : Int) + (r : Int) = (p : Int) := by omega
      have hp1 : p ≤ 1000 := by omega
      have HPP := Lib.hid hp
      have hcap : ¬ n = m := by omega
      have hcp := run_copy_rowN (P := Tryd.prog) wr.drew 45 45 3 3 w1.heap.size m (n - m) (n - m) ⟨w1.heap.size, 0, none⟩ m n cs 3 1 r (List.replicate r (Value.int .i64 (-1))) Tryd.underlying45 infoIsz HRW2.out HR.out HRL2.out HC1.out HFT.out HR2.out
      rw [List.append_assoc] at hcp
      change _ = Result.ok (Value.int .i64 (r : Int)) _ at hcp
      obtain ⟨w3, hw3⟩ : ∃ w3, w3 = wr.drew.setRow w1.heap.size (cs.toList.take m ++ (List.replicate r (Value.int .i64 (-1)) ++ cs.toList.drop (m + (List.replicate r (Value.int .i64 (-1))).length))).toArray := ⟨_, rfl⟩
      rw [← hw3] at hcp
      have HN3 := Lib.hid (HN.out w3 hw3)
      clear hr h1 h2 h3 hw3 hp
      go_wp2_with fail
      go_region
      go_wp2_with fail
      go_roundw
      case rel => exact ⟨p, rfl, by have := HPP.out; omega, fun _ => by have := HPP.out; omega, by rw [HPP.out]; exact HN3.out.1, HN3.out.2⟩
      case measure => have := HPP.out; simp [intOf]; omega
    · obtain rfl : m = n := by omega
      have HO := Lib.hid (HF.out.own (Nat.le_refl _) hn)
      go_wp2_with fail
      go_ret
      exact ⟨_, rfl, HO.out, HB.out⟩
end Go.Proofs.YthbiflmmlcmncaaDoor.Ti
