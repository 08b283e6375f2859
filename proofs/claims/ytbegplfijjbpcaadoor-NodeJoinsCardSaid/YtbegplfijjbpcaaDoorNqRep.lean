/- The program: slices.Repeat of one truth. -/
import Derived.Test.YtbegplfijjbpcaaDoorGrCopy
import Derived.Test.YtbegplfijjbpcaaDoorNqTake
import Derived.Test.YtbegplfijjbpcaaDoorShelf
namespace Go.Proofs.YtbegplfijjbpcaaDoor.No
open Go Go.RowKit Go.Shelf
attribute [local go_sem] Oper.semAt_some

theorem infoBo : ∃ i, Tryd.prog.info? 4 = some i ∧ i.zero = some (.bool false) ∧ i.size = 1 ∧ i.bytes = 1 :=
  info_parts (show (Tryd.prog.info? 4).map (fun i => (i.zero, i.size, i.bytes)) = some (some (.bool false), 1, 1) by kernel_rfl)
theorem infoBsz : (Tryd.prog.info? 4).map (·.size) = some 1 := by kernel_rfl
/-- Block b has n truths, the first m of which are true. -/
def Filled (W : World) (b n m : Nat) : Prop := ∃ cs : Array Value, Row W b 4 cs ∧ cs.size = n ∧ ∀ j, j < m → cs[j]? = some (.bool true)
theorem Filled.below {W W' : World} {b n m : Nat} (h : Filled W b n m) (hb : Below W.heap.size W W') : Filled W' b n m := by
  obtain ⟨cs, h1, h2, h3⟩ := h
  exact ⟨cs, h1.below hb h1.lt, h2, h3⟩
theorem Filled.all {W : World} {b n : Nat} (h : Filled W b n n) : Row W b 4 (bools (List.replicate n true)) := by
  obtain ⟨cs, h1, h2, h3⟩ := h
  have e : cs = bools (List.replicate n true) := by
    apply Array.ext_getElem?
    intro j
    by_cases hj : j < n
    · rw [h3 j hj]
      simp [bools, hj]
    · rw [Array.getElem?_eq_none (by omega), Array.getElem?_eq_none (by simp [bools]; omega)]
  rw [← e]
  exact h1
theorem setRow_filled {W : World} {b n m q : Nat} {cs : Array Value} (h1 : Row W b 4 cs) (h2 : cs.size = n) (h3 : ∀ j, j < m → cs[j]? = some (.bool true)) (hq : m + q ≤ n) :
    Filled (W.setRow b (cs.toList.take m ++ (List.replicate q (Value.bool true) ++ cs.toList.drop (m + (List.replicate q (Value.bool true)).length))).toArray) b n (m + q) := by
  refine ⟨_, setRow_heap W b cs _ _ (0, 0) h1, ?_, fun j hj => ?_⟩
  · simp; omega
  · rw [List.getElem?_toArray, List.getElem?_append]
    have hl : (cs.toList.take m).length = m := by rw [List.length_take, Array.length_toList]; omega
    rw [hl]
    split
    · rename_i hjm
      rw [List.getElem?_take, if_pos hjm, Array.getElem?_toList]
      exact h3 j hjm
    · rw [List.getElem?_append_left (by simp; omega), List.getElem?_replicate, if_pos (by omega)]

theorem own_row {base : Nat} {t : TypeId} {n cap g : Nat} {W : World} {xs : List Value} (h : W.ownsRow base t 1 (.slice (some ⟨g, 0, none⟩) n cap) n xs) : ∃ cur, Row W g t cur ∧ cur.size = cap := by
  rcases h.2 with ⟨hv, h0⟩ | ⟨g', cap', cur, e1, _, e3, _, _, e6, _⟩
  · cases hv
  · cases e1
    exact ⟨cur, e3, by omega⟩

set_option maxRecDepth 100000 in
set_option maxHeartbeats 1000000 in
theorem rep_c (w : World) (c n : Nat) (hc : w.cell? ⟨c, 0, none⟩ = some (.bool true)) (hcl : c < w.heap.size) (hn : n ≤ 1000) :
    Calls Tryd.prog 45 #[.slice (some ⟨c, 0, none⟩) 1 1, .int .i64 (n : Int)] w fun e W' => e = .returned (.slice (some ⟨w.heap.size, 0, none⟩) n n) ∧ Row W' w.heap.size 4 (bools (List.replicate n true)) ∧ Below w.heap.size w W' := by
  have hmix : Tryd.prog.follows .mixedOrders = true := by kernel_rfl
  obtain ⟨i0, hi, hz0, hz1, hz2⟩ := infoBo
  have hmul : ∀ W, Calls Tryd.prog 57 #[.int .u64 1, .int .u64 (n : Int)] W fun e w' => e = .returned (.tuple #[.int .u64 0, .int .u64 (n : Int)]) ∧ w' = W := fun W => by
    have h := Tryd.bits_Mul 1 n (by omega) (by omega) W
    have e1 : 1 * n / 18446744073709551616 = 0 := Nat.div_eq_of_lt (by omega)
    have e2 : 1 * n % 18446744073709551616 = n := by rw [Nat.one_mul]; exact Nat.mod_eq_of_lt (by omega)
    rw [e1, e2] at h
    exact h
  have HMUL := Lib.hid hmul
  clear hmul
  go_enter Tryd.func45, Tryd.ntmps45
  go_wp2_with fail
  refine (HMUL.out _).mono ?_
  rintro e w1 ⟨rfl, rfl⟩
  obtain ⟨q, hq⟩ : ∃ q, q = Nat.min 1 n := ⟨_, rfl⟩
  have hqn : q ≤ n ∧ q ≤ 1 ∧ (0 < n → 0 < q) := by
    have h : q = min 1 n := hq
    omega
  have HQ := Lib.hid hq.symm
  have HC0 : Hid (∀ (W : World), Below w1.heap.size w1 W → ∀ (j : Nat) (v : Value), (List.replicate q (Value.bool true))[j]? = some v → W.cell? ((⟨c, 0, none⟩ : Addr).add j) = some v) := Lib.hid (fun W hb j v hv => by
    rw [List.getElem?_replicate] at hv
    split at hv
    · obtain rfl : j = 0 := by omega
      rw [addr_add]
      cases hv
      exact (hb.cell (p := ⟨c, 0, none⟩) hcl).trans hc
    · cases hv)
  have HR1 : Hid (∀ v ∈ List.replicate q (Value.bool true), v.oneCell' = true) := Lib.hid (fun v hv => by rw [(List.mem_replicate.1 hv).2]; rfl)
  have HRL : Hid ((List.replicate q (Value.bool true)).length = q * 1) := Lib.hid (by simp)
  clear hq
  go_wp2_with ((at_make; refine wpList_make_full _ rfl (.tmp 29) (.tmp 29) 73 rfl w1.heap.size 4 i0 (.bool false) 1 Tryd.underlying73 hi hz0 hz1 .i64 .i64 _ _ n rfl rfl rfl rfl (by rw [hz2]; omega) (by unfold maxLen; omega) (Nat.le_refl _) ?_; intro w2 hown2 hg2; obtain ⟨cur, hrow, hcur⟩ := own_row hown2; have HRW := Lib.hid hrow; have HB2 := Lib.hid ((Below.refl w1.heap.size w1).grown hg2 (Nat.le_refl _) (fun k e => by cases e)); have HFIT : Hid (0 + (List.replicate q (Value.bool true)).length ≤ cur.size) := Lib.hid (by simp; omega); clear hown2 hg2 hrow; have hfil := setRow_filled (q := q) (m := 0) HRW.out hcur (fun j hj => by omega) (by omega); rw [show 0 + q = q from Nat.zero_add q] at hfil; have HF3 := Lib.hid hfil; have HB3 := Lib.hid (below_setRow HB2.out (Nat.le_refl w1.heap.size) (cur.toList.take 0 ++ List.replicate q (Value.bool true) ++ cur.toList.drop (0 + (List.replicate q (Value.bool true)).length)).toArray); have hcp := run_copy_rowN (P := Tryd.prog) w2 73 73 3 4 w1.heap.size 0 n n ⟨c, 0, none⟩ 1 1 cur 4 1 q (List.replicate q (Value.bool true)) Tryd.underlying73 infoBsz HRW.out HQ.out HRL.out (HC0.out w2 HB2.out) HFIT.out HR1.out; rw [List.append_assoc] at hcp HB3; change _ = Result.ok (Value.int .i64 (q : Int)) _ at hcp; clear hfil; obtain ⟨w3, hw3⟩ : ∃ w3, w3 = w2.setRow w1.heap.size (cur.toList.take 0 ++ (List.replicate q (Value.bool true) ++ cur.toList.drop (0 + (List.replicate q (Value.bool true)).length))).toArray := ⟨_, rfl⟩; rw [← hw3] at HB3 HF3 hcp; clear hw3))
  go_loopw [8] (fun i wr => ∃ m : Nat, i = .int .i64 m ∧ m ≤ n ∧ (0 < n → 0 < m) ∧ Filled wr w1.heap.size n m ∧ Below w1.heap.size w1 wr)
    (fun i _ => n - (intOf i).toNat)
  case atStart => exact ⟨q, rfl, hqn.1, hqn.2.2, HF3.out, HB3.out⟩
  case round =>
    obtain ⟨m, rfl, hm, hpos, hfil, hB⟩ := hrel
    have HF := Lib.hid hfil
    have HB := Lib.hid hB
    have hbs := hB.size
    clear hfil hB
    by_cases hlt : m < n
    · obtain ⟨r, hr⟩ : ∃ r, r = Nat.min m (n - m) := ⟨_, rfl⟩
      have hrn : r ≤ m ∧ m + r ≤ n ∧ 0 < r := by
        have h : r = min m (n - m) := hr
        omega
      obtain ⟨cs, h1, h2, h3⟩ := HF.out
      have HR := Lib.hid hr.symm
      have HRW2 : Hid (wr.drew.heap[w1.heap.size]? = some (.cells cs 4 (0, 0))) := Lib.hid h1
      have HC1 : Hid (∀ (j : Nat) (v : Value), (List.replicate r (Value.bool true))[j]? = some v → wr.drew.cell? ((⟨w1.heap.size, 0, none⟩ : Addr).add j) = some v) := Lib.hid (fun j v hv => by
        rw [List.getElem?_replicate] at hv
        split at hv
        · rw [addr_add]
          cases hv
          have e := h1.cell (0 + j)
          rw [Nat.zero_add, h3 j (by omega)] at e
          rw [Nat.zero_add]
          exact e
        · cases hv)
      have HR2 : Hid (∀ v ∈ List.replicate r (Value.bool true), v.oneCell' = true) := Lib.hid (fun v hv => by rw [(List.mem_replicate.1 hv).2]; rfl)
      have HRL2 : Hid ((List.replicate r (Value.bool true)).length = r * 1) := Lib.hid (by simp)
      have HFT : Hid (m + (List.replicate r (Value.bool true)).length ≤ cs.size) := Lib.hid (by simp; omega)
      have HN : Hid (∀ W, W = wr.drew.setRow w1.heap.size (cs.toList.take m ++ (List.replicate r (Value.bool true) ++ cs.toList.drop (m + (List.replicate r (Value.bool true)).length))).toArray → Filled W w1.heap.size n (m + r) ∧ Below w1.heap.size w1 W) := Lib.hid (fun W e => by
        rw [e]
        exact ⟨setRow_filled (W := wr.drew) h1 h2 h3 hrn.2.1, below_setRow HB.out.drew (Nat.le_refl _) _⟩)
      have es1 : (n : Int) - (m : Int) = ((n - m : Nat) : Int) := by omega
      obtain ⟨p, hp⟩ : ∃ p, p = m + r := ⟨_, rfl⟩
      have es2 : (m : Int) + (r : Int) = (p : Int) := by omega
      have hp1 : p ≤ 1000 := by omega
      have HPP := Lib.hid hp
      have hcap : ¬ n = m := by omega
      have hcp := run_copy_rowN (P := Tryd.prog) wr.drew 73 73 3 4 w1.heap.size m (n - m) (n - m) ⟨w1.heap.size, 0, none⟩ m n cs 4 1 r (List.replicate r (Value.bool true)) Tryd.underlying73 infoBsz HRW2.out HR.out HRL2.out HC1.out HFT.out HR2.out
      rw [List.append_assoc] at hcp
      change _ = Result.ok (Value.int .i64 (r : Int)) _ at hcp
      obtain ⟨w3, hw3⟩ : ∃ w3, w3 = wr.drew.setRow w1.heap.size (cs.toList.take m ++ (List.replicate r (Value.bool true) ++ cs.toList.drop (m + (List.replicate r (Value.bool true)).length))).toArray := ⟨_, rfl⟩
      rw [← hw3] at hcp
      have HN3 := Lib.hid (HN.out w3 hw3)
      clear hr h1 h2 h3 hw3 hp
      go_wp2_with fail
      go_region
      go_wp2_with fail
      go_roundw
      case rel => exact ⟨p, rfl, by have := HPP.out; omega, fun _ => by have := HPP.out; omega, by rw [HPP.out]; exact HN3.out.1, HN3.out.2⟩
      case measure => have := HPP.out; simp [intOf]; omega
    · obtain rfl : m = n := by omega
      have HO := Lib.hid HF.out.all
      go_wp2_with fail
      go_ret
      exact ⟨rfl, HO.out, HB.out⟩
end Go.Proofs.YtbegplfijjbpcaaDoor.No
