/- Some splices in memory, and the first few of them. -/
import Derived.Test.YtajbcaggpfopnaaDoorRef
import Derived.Deep.RegionHeldLaw
import Derived.Deep.AppendLies
import Derived.WalkKit
import Derived.Outline
namespace Go.Proofs.YtajbcaggpfopnaaDoor
open Go Go.RowKit

/-- One splice's cells. -/
def acCells (x : Int × Int × ByteArray) : List Value := [.int .i64 x.1, .int .i64 x.2.1, .string x.2.2]
/-- The first k splices' cells. -/
def flat (A : Nat → Int × Int × ByteArray) (k : Nat) : List Value := (List.range k).flatMap fun j => acCells (A j)
theorem flat_succ (A : Nat → Int × Int × ByteArray) (k : Nat) : flat A (k + 1) = flat A k ++ acCells (A k) := by
  simp [flat, List.range_succ]
theorem flat_len (A : Nat → Int × Int × ByteArray) : ∀ k, (flat A k).length = k * 3
  | 0 => rfl
  | k + 1 => by rw [flat_succ, List.length_append, flat_len A k]; simp [acCells]; omega
theorem flat_get (A : Nat → Int × Int × ByteArray) : ∀ k j i, j < k → i < 3 → (flat A k)[j * 3 + i]? = (acCells (A j))[i]?
  | 0, _, _, h, _ => by omega
  | k + 1, j, i, h, hi => by
    rw [flat_succ]
    by_cases hjk : j < k
    · rw [List.getElem?_append_left (by rw [flat_len]; omega)]
      exact flat_get A k j i hjk hi
    · obtain rfl : j = k := by omega
      rw [List.getElem?_append_right (by rw [flat_len]; omega), flat_len, Nat.add_sub_cancel_left]

/-- The slice value v is len splices, in a block between lo and hi. -/
def ActsIn (lo hi : Nat) (W : World) (v : Value) (A : Nat → Int × Int × ByteArray) (len : Nat) : Prop :=
  ∃ (a0 : Option Addr) (c0 : Nat), v = .slice a0 len c0 ∧ len ≤ maxLen ∧ (0 < len → ∃ b off, a0 = some ⟨b, off, none⟩ ∧ lo ≤ b ∧ b < hi ∧ ∀ j, j < len →
    W.cell? ⟨b, off + j * 3, none⟩ = some (.int .i64 (A j).1) ∧ W.cell? ⟨b, off + j * 3 + 1, none⟩ = some (.int .i64 (A j).2.1) ∧ W.cell? ⟨b, off + j * 3 + 2, none⟩ = some (.string (A j).2.2))
theorem ActsIn.kept {lo hi : Nat} {W W' : World} {v : Value} {A : Nat → Int × Int × ByteArray} {len : Nat} {row : Option Nat} (h : ActsIn lo hi W v A len) (hg : W.grownBy W' row) (hr : ∀ k, row = some k → k < lo) (hh : hi ≤ W.heap.size) : ActsIn lo hi W' v A len := by
  obtain ⟨a0, c0, e, h1, h2⟩ := h
  refine ⟨a0, c0, e, h1, fun h0 => ?_⟩
  obtain ⟨b, off, e1, h3, h4, h5⟩ := h2 h0
  refine ⟨b, off, e1, h3, h4, fun j hj => ?_⟩
  have hb : ∀ o, W'.cell? ⟨b, o, none⟩ = W.cell? ⟨b, o, none⟩ := fun o => World.cell?_of_block (w := W) (hg.block b (by omega) (fun e => by have := hr b e.symm; omega))
  rw [hb, hb, hb]
  exact h5 j hj
theorem ActsIn.below {lo hi n₁ : Nat} {W W' : World} {v : Value} {A : Nat → Int × Int × ByteArray} {len : Nat} (h : ActsIn lo hi W v A len) (hb : Below n₁ W W') (hh : hi ≤ n₁) : ActsIn lo hi W' v A len := by
  obtain ⟨a0, c0, e, h1, h2⟩ := h
  refine ⟨a0, c0, e, h1, fun h0 => ?_⟩
  obtain ⟨b, off, e1, h3, h4, h5⟩ := h2 h0
  refine ⟨b, off, e1, h3, h4, fun j hj => ?_⟩
  have hb : ∀ o, W'.cell? ⟨b, o, none⟩ = W.cell? ⟨b, o, none⟩ := fun o => hb.cell (p := ⟨b, o, none⟩) (by dsimp only; omega)
  rw [hb, hb, hb]
  exact h5 j hj
theorem ActsIn.wider {lo hi hi' : Nat} {W : World} {v : Value} {A : Nat → Int × Int × ByteArray} {len : Nat} (h : ActsIn lo hi W v A len) (hh : hi ≤ hi') : ActsIn lo hi' W v A len := by
  obtain ⟨a0, c0, e, h1, h2⟩ := h
  refine ⟨a0, c0, e, h1, fun h0 => ?_⟩
  obtain ⟨b, off, e1, h3, h4, h5⟩ := h2 h0
  exact ⟨b, off, e1, h3, by omega, h5⟩

/-- The splices' texts cut. -/
def cutA (A : Nat → Int × Int × ByteArray) : Nat → Int × Int × ByteArray := fun j => ((A j).1, (A j).2.1, cut (A j).2.2)

theorem Tryd.infoAct : (Tryd.prog.info? 31).map (fun i => (i.zero, i.size, i.bytes)) = some (some (.agg #[.int .i64 0, .int .i64 0, .string ⟨#[]⟩]), 3, 32) := by kernel_rfl

/-- Behind the append a far cell is as it was. -/
theorem far_cell {wr w1 : World} {o : Obj} {row : Option Nat} (hg : (wr.drew.alloc o).grownBy w1 row) {b : Nat} (hlt : b < wr.heap.size) (hne : some b ≠ row) (off : Nat) (x : Value) (hc : wr.cell? ⟨b, off, none⟩ = some x) : w1.cell? ⟨b, off, none⟩ = some x := by
  refine (hg.cell_far ⟨b, off, none⟩ (by simp; exact Nat.lt_succ_of_lt hlt) hne).trans (Eq.trans ?_ hc)
  exact World.cell?_of_block (w := wr) (Below.heap_alloc wr.drew o b hlt)

theorem few_end {W : World} {base : Nat} {v : Value} {A : Nat → Int × Int × ByteArray} {k : Nat} (hk : k ≤ maxLen) (h : W.ownsRow base 31 3 v k (flat A k)) : ActsIn base W.heap.size W v A k := by
  have hlt := h.lt
  rcases h.2 with ⟨e, h0⟩ | ⟨g, cap, cur, hv, hg, hh, h1, h2, h3, h4⟩
  · exact ⟨none, 0, by rw [e, h0], hk, fun h => by omega⟩
  · subst hv
    have hg2 := hlt g rfl
    refine ⟨_, cap, rfl, hk, fun _ => ⟨g, 0, rfl, hg2.1, hg2.2, fun j hj => ?_⟩⟩
    have key : ∀ i, i < 3 → W.cell? ⟨g, j * 3 + i, none⟩ = (acCells (A j))[i]? := fun i hi => by
      rw [h.cellAt (j * 3 + i) (by omega)]
      exact flat_get A k j i hj hi
    refine ⟨?_, ?_, ?_⟩
    · rw [Nat.zero_add]; exact key 0 (by omega)
    · rw [Nat.zero_add]; exact key 1 (by omega)
    · rw [Nat.zero_add]; exact key 2 (by omega)

set_option maxHeartbeats 4000000 in
set_option maxRecDepth 100000 in
/-- Few(l, N): the first N of them, cut. -/
theorem few_any (w : World) (v : Value) (A : Nat → Int × Int × ByteArray) (len N : Nat) (hN : N ≤ 40) (h : ActsIn 0 w.heap.size w v A len) :
    Calls Tryd.prog 13 #[v, .int .i64 (N : Int)] w fun e W' => ∃ v', e = .returned v' ∧ ActsIn w.heap.size W'.heap.size W' v' (cutA A) (min len N) ∧ Below w.heap.size w W' := by
  obtain ⟨i0, hi, hz0, hz1, hz2⟩ := info_parts Tryd.infoAct
  obtain ⟨a0, c0, hvv, hlc, hcs⟩ := h
  subst hvv
  unfold maxLen at hlc
  have HC := Lib.hid hcs
  clear hcs
  have hDr : Below w.heap.size w w := Below.refl _ w
  go_enter Tryd.func13, Tryd.ntmps13
  go_wp2
  go_loopw [5, 6] (fun u i wr => ∃ k : Nat, k ≤ len ∧ k ≤ N ∧ i = .int .i64 k ∧ wr.ownsRow w.heap.size 31 3 u k (flat (cutA A) k) ∧ Below w.heap.size w wr ∧ w.heap.size ≤ wr.heap.size)
    (fun _ i _ => N - (intOf i).toNat)
  case atStart => exact ⟨0, Nat.zero_le _, Nat.zero_le _, rfl, World.ownsRow_nil _ _ _ _, hDr, Nat.le_refl _⟩
  case round =>
    obtain ⟨k, hk, hkN, rfl, hown, hB1, hbs⟩ := hrel
    have HO := Lib.hid hown
    have HB := Lib.hid hB1
    clear hown hB1
    by_cases hlt : k < len
    · by_cases hltN : k < N
      · obtain ⟨b, off, rfl, _, hbl, hcc⟩ := HC.out (by omega)
        obtain ⟨cA, cN, cS⟩ := hcc k hlt
        clear hcc
        have e1 : wr.cell? ⟨b, off + k * 3, none⟩ = some (.int .i64 (A k).1) := by rw [HB.out.cell (p := ⟨b, off + k * 3, none⟩) hbl]; exact cA
        have e2 : wr.cell? ⟨b, off + k * 3 + 1, none⟩ = some (.int .i64 (A k).2.1) := by rw [HB.out.cell (p := ⟨b, off + k * 3 + 1, none⟩) hbl]; exact cN
        have e3 : wr.cell? ⟨b, off + k * 3 + 2, none⟩ = some (.string (A k).2.2) := by rw [HB.out.cell (p := ⟨b, off + k * 3 + 2, none⟩) hbl]; exact cS
        clear cA cN cS
        have hbr : b < wr.heap.size := by omega
        have hne : some b ≠ u5.ownBlock := fun e => by have := (HO.out.lt b e.symm).1; omega
        have hc1 : ∀ (j : Nat) (u : Value), (acCells (cutA A k))[j]? = some u → (wr.drew.alloc (.cells #[.int .i64 (A k).1, .int .i64 (A k).2.1, .string (cut (A k).2.2)] 31)).cell? ((⟨wr.heap.size, 0, none⟩ : Addr).add j) = some u :=
          World.news_of_block (World.alloc_heap_new wr.drew (.cells #[.int .i64 (A k).1, .int .i64 (A k).2.1, .string (cut (A k).2.2)] 31))
        have hc2 : ∀ u ∈ acCells (cutA A k), u.oneCell' = true := by intro u hu; simp [acCells] at hu; rcases hu with rfl | rfl | rfl <;> rfl
        have HNE := Lib.hid hne
        have H1 := Lib.hid hc1
        have H2 := Lib.hid hc2
        have H3 : Hid (k + 1 ≤ maxLen ∧ (k + 1) * 32 ≤ 140737488355328) := ⟨by unfold maxLen; omega, by omega⟩
        have H5 : Hid (w.heap.size ≤ (wr.drew.alloc (.cells #[.int .i64 (A k).1, .int .i64 (A k).2.1, .string (cut (A k).2.2)] 31)).heap.size) := by show _ ≤ _; rw [World.size_alloc]; exact Nat.le_succ_of_le hbs
        have HX := Lib.hid (And.intro e1 (And.intro e2 e3))
        clear hne hc1 hc2
        go_wp2_with fail
        go_region_held_law (fun w' => w'.cell? ⟨b, off + k * 3, none⟩ = some (.int .i64 (A k).1) ∧ w'.cell? ⟨b, off + k * 3 + 1, none⟩ = some (.int .i64 (A k).2.1) ∧ w'.cell? ⟨b, off + k * 3 + 2, none⟩ = some (.string (A k).2.2))
          (first
            | exact ⟨far_cell HG.out hbr HNE.out _ _ HX.out.1, far_cell HG.out hbr HNE.out _ _ HX.out.2.1, far_cell HG.out hbr HNE.out _ _ HX.out.2.2⟩
            | exact ⟨(Below.heap_alloc wr.drew _ _ hbr ▸ HX.out.1), (Below.heap_alloc wr.drew _ _ hbr ▸ HX.out.2.1), (Below.heap_alloc wr.drew _ _ hbr ▸ HX.out.2.2)⟩
            | go_keep)
          (first
            | (go_at_call 11; refine (cut_any _ _).mono ?_; rintro e w' ⟨rfl, rfl⟩)
            | (refine step_append_lies _ rfl (.tmp 18) (.tmp 36) 22 rfl w.heap.size 31 i0 (.agg #[.int .i64 0, .int .i64 0, .string ⟨#[]⟩]) 3 32 Tryd.underlying22 hi hz0 hz1 hz2 rfl (by decide) u5 k (flat (cutA A) k) rfl (HO.out.drew.alloc _) ⟨wr.heap.size, 0, none⟩ 1 1 (acCells (cutA A k)) rfl rfl H1.out H2.out (by decide) H3.out.1 H3.out.2 H5.out _ rfl ?_; intro g cap w1 hown hgrow hat hlt1; have HG := Lib.hid hgrow; have HO1 := Lib.hid hown; clear hgrow hown hat))
        have HNext : Hid (w1.ownsRow w.heap.size 31 3 (.slice (some ⟨g, 0, none⟩) (k + 1) cap) (k + 1) (flat (cutA A) (k + 1)) ∧ Below w.heap.size w w1 ∧ w.heap.size ≤ w1.heap.size) := by
          have hlt2 := HO.out.lt
          have h9 : Below w.heap.size w w1 := (HB.out.drew.alloc hbs _).grown HG.out (by show _ ≤ _; rw [World.size_alloc]; exact Nat.le_succ_of_le hbs) (fun j ej => (hlt2 j ej).1)
          refine ⟨?_, h9, h9.size⟩
          rw [flat_succ]; exact HO1.out
        clear HNE H1 H2 H3 H5 HX HG HO1 HO HB e1 e2 e3 hbr hbl hlt1 HC
        go_wp2
        go_roundw
        case rel => exact ⟨k + 1, by omega, by omega, by go_num, HNext.out.1, HNext.out.2.1, HNext.out.2.2⟩
        case measure => simp [intOf]; omega
      · obtain rfl : k = N := by omega
        go_wp2
        go_ret
        exact ⟨_, rfl, by rw [Nat.min_eq_right (by omega)]; exact few_end (by unfold maxLen; omega) HO.out, HB.out⟩
    · obtain rfl : k = len := by omega
      go_wp2
      go_ret
      exact ⟨_, rfl, by rw [Nat.min_eq_left (by omega)]; exact few_end (by unfold maxLen; omega) HO.out, HB.out⟩
end Go.Proofs.YtajbcaggpfopnaaDoor
