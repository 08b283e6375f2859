/- The first sixty tokens of a slice, cut (by wip/gen/gr_base.py). -/
import Derived.Test.YthbiflmmlcmncaaDoorGrTok
import Derived.Deep.RegionHeldLaw
import Derived.Deep.AppendLies
import Derived.WalkKit
import Derived.Outline
namespace Go.Proofs.YthbiflmmlcmncaaDoor.Ti
open Go Go.RowKit Go.Shelf

theorem cut_any (s : ByteArray) (w : World) :
    Calls Tryd.prog 26 #[.string s] w fun e W' => e = .returned (.string (bs (cutT s.data.toList))) ∧ W' = w := by
  have hx : s.extract 0 300 = bs (cutT s.data.toList) := by
    have h := ext_take s.data.toList 300
    rw [bs_of] at h
    exact h
  obtain ⟨R, hR⟩ : ∃ R, R = bs (cutT s.data.toList) := ⟨_, rfl⟩
  rw [← hR] at hx ⊢
  by_cases h : 300 < s.size
  · have HX := Lib.hid hx
    have t : (300 : Int) < s.size := by omega
    clear hR hx
    go_enter Tryd.func26, Tryd.ntmps26
    go_wp2
    go_ret
    exact ⟨by rw [← HX.out]; rfl, rfl⟩
  · have HX : Hid (s = R) := Lib.hid (by
      rw [hR]
      unfold cutT
      rw [List.take_of_length_le (by rw [← Lib.size_eq]; omega), bs_of])
    have t : ¬ (300 : Int) < s.size := by omega
    clear hR hx
    go_enter Tryd.func26, Tryd.ntmps26
    go_wp2
    go_ret
    exact ⟨by rw [← HX.out]; rfl, rfl⟩
def cutTk (t : Tk) : Tk := ⟨t.kind, cutT t.text, cutT t.glyph⟩
/-- The first sixty, cut. -/
def fewL (L : List Tk) : List Tk := (L.take 60).map cutTk
theorem few_snoc (L : List Tk) (k : Nat) (t : Tk) (h : L[k]? = some t) : (L.take (k + 1)).map cutTk = (L.take k).map cutTk ++ [cutTk t] := by
  rw [List.take_add_one, h]
  simp
theorem fewL_len (L : List Tk) : (fewL L).length ≤ 60 := by simp [fewL]; omega
theorem fewL_small (L : List Tk) : ∀ t ∈ fewL L, t.text.length ≤ 300 ∧ t.glyph.length ≤ 300 := by
  intro t ht
  obtain ⟨u, _, rfl⟩ := List.mem_map.1 ht
  exact ⟨cutT_len _, cutT_len _⟩
/-- Behind the append a far cell is as it was. -/
theorem far_cell {wr w1 : World} {o : Obj} {row : Option Nat} (hg : (wr.drew.alloc o).grownBy w1 row) {b : Nat} (hlt : b < wr.heap.size) (hne : some b ≠ row) (off : Nat) (x : Value) (hc : wr.cell? ⟨b, off, none⟩ = some x) : w1.cell? ⟨b, off, none⟩ = some x := by
  refine (hg.cell_far ⟨b, off, none⟩ (by simp; exact Nat.lt_succ_of_lt hlt) hne).trans (Eq.trans ?_ hc)
  exact World.cell?_of_block (w := wr) (Below.heap_alloc wr.drew o b hlt)
set_option maxHeartbeats 4000000 in
set_option maxRecDepth 100000 in
/-- Few(l). -/
theorem few_c (w : World) (v : Value) (L : List Tk) (h : TL w v L) :
    Calls Tryd.prog 11 #[v] w fun e W' => ∃ v', e = .returned v' ∧ OwnL W' w.heap.size v' (fewL L) ∧ Below w.heap.size w W' := by
  obtain ⟨i0, hi, hz0, hz1, hz2⟩ := info_tok
  obtain ⟨a0, c0, rfl, hc1, hc2⟩ := h.form
  unfold maxLen at hc2
  have HCL := Lib.hid h.cells
  obtain ⟨n, hn⟩ : ∃ n, n = L.length := ⟨_, rfl⟩
  rw [← hn] at hc1 HCL ⊢
  have HN := Lib.hid hn
  clear h hn
  have hDr : Below w.heap.size w w := Below.refl _ w
  go_enter Tryd.func11, Tryd.ntmps11
  go_wp2
  go_loopw [3, 4] (fun u i wr => ∃ k : Nat, k ≤ n ∧ k ≤ 60 ∧ i = .int .i64 k ∧ wr.ownsRow w.heap.size 31 3 u k (cellsL ((L.take k).map cutTk)) ∧ Below w.heap.size w wr ∧ w.heap.size ≤ wr.heap.size)
    (fun _ i _ => 60 - (intOf i).toNat)
  case atStart => exact ⟨0, Nat.zero_le _, Nat.zero_le _, rfl, World.ownsRow_nil _ _ _ _, hDr, Nat.le_refl _⟩
  case round =>
    obtain ⟨k, hk, hkN, rfl, hown, hB1, hbs⟩ := hrel
    have HO := Lib.hid hown
    have HB := Lib.hid hB1
    clear hown hB1
    by_cases hlt : k < n
    · by_cases hltN : k < 60
      · obtain ⟨b, off, c1, hv, hbl, hcs⟩ := HCL.out (by omega)
        obtain rfl : a0 = some ⟨b, off, none⟩ := by injection hv
        obtain ⟨t, ht⟩ : ∃ t, L[k]? = some t := ⟨_, List.getElem?_eq_getElem (by rw [← HN.out]; exact hlt)⟩
        obtain ⟨cA, cN, cS⟩ := hcs k t ht
        have hsn := few_snoc L k t ht
        obtain ⟨kd, hkd⟩ : ∃ kd : Int, kd = t.kind := ⟨_, rfl⟩
        obtain ⟨U, hU⟩ : ∃ U, U = bs t.text := ⟨_, rfl⟩
        obtain ⟨G, hGl⟩ : ∃ G, G = bs t.glyph := ⟨_, rfl⟩
        obtain ⟨CU, hCU⟩ : ∃ CU, CU = bs (cutT t.text) := ⟨_, rfl⟩
        obtain ⟨CG, hCG⟩ : ∃ CG, CG = bs (cutT t.glyph) := ⟨_, rfl⟩
        have hcu : ∀ W, Calls Tryd.prog 26 #[.string U] W fun e W' => e = .returned (.string CU) ∧ W' = W := fun W => by rw [hU, hCU]; exact cut_any (bs t.text) W
        have hcg : ∀ W, Calls Tryd.prog 26 #[.string G] W fun e W' => e = .returned (.string CG) ∧ W' = W := fun W => by rw [hGl, hCG]; exact cut_any (bs t.glyph) W
        have htl : tokL (cutTk t) = [.int .i64 kd, .string CU, .string CG] := by rw [hkd, hCU, hCG]; rfl
        rw [← hkd] at cA
        rw [← hU] at cN
        rw [← hGl] at cS
        have e1 : wr.cell? ⟨b, off + k * 3, none⟩ = some (.int .i64 kd) := by rw [HB.out.cell (p := ⟨b, off + k * 3, none⟩) hbl]; exact cA
        have e2 : wr.cell? ⟨b, off + k * 3 + 1, none⟩ = some (.string U) := by rw [HB.out.cell (p := ⟨b, off + k * 3 + 1, none⟩) hbl]; exact cN
        have e3 : wr.cell? ⟨b, off + k * 3 + 2, none⟩ = some (.string G) := by rw [HB.out.cell (p := ⟨b, off + k * 3 + 2, none⟩) hbl]; exact cS
        have hbr : b < wr.heap.size := by omega
        have hne : some b ≠ u3.ownBlock := fun e => by have := (HO.out.lt b e.symm).1; omega
        have hnew : cellsL ((L.take (k + 1)).map cutTk) = cellsL ((L.take k).map cutTk) ++ [.int .i64 kd, .string CU, .string CG] := by rw [hsn, cellsL_snoc, htl]
        have HCU := Lib.hid hcu
        have HCG := Lib.hid hcg
        have HNEW := Lib.hid hnew
        have HNE := Lib.hid hne
        have H1 : Hid (∀ (j : Nat) (u : Value), [Value.int .i64 kd, .string CU, .string CG][j]? = some u → (wr.drew.alloc (.cells #[.int .i64 kd, .string CU, .string CG] 31)).cell? ((⟨wr.heap.size, 0, none⟩ : Addr).add j) = some u) :=
          Lib.hid (World.news_of_block (World.alloc_heap_new wr.drew (.cells #[.int .i64 kd, .string CU, .string CG] 31)))
        have H2 : Hid (∀ u ∈ [Value.int .i64 kd, .string CU, .string CG], u.oneCell' = true) := Lib.hid (by intro u hu; simp at hu; rcases hu with rfl | rfl | rfl <;> rfl)
        have H3 : Hid (k + 1 ≤ maxLen ∧ (k + 1) * 40 ≤ 140737488355328) := Lib.hid ⟨by unfold maxLen; omega, by omega⟩
        have H5 : Hid (w.heap.size ≤ (wr.drew.alloc (.cells #[.int .i64 kd, .string CU, .string CG] 31)).heap.size) := Lib.hid (by rw [World.size_alloc]; exact Nat.le_succ_of_le hbs)
        have HX := Lib.hid (And.intro e1 (And.intro e2 e3))
        clear hne cA cN cS hcs hv ht hsn hkd hU hGl hCU hCG hcu hcg htl hnew
        go_wp2_with fail
        go_region_held_law (fun w' => w'.cell? ⟨b, off + k * 3, none⟩ = some (.int .i64 kd) ∧ w'.cell? ⟨b, off + k * 3 + 1, none⟩ = some (.string U) ∧ w'.cell? ⟨b, off + k * 3 + 2, none⟩ = some (.string G))
          (first
            | exact ⟨far_cell HG.out hbr HNE.out _ _ HX.out.1, far_cell HG.out hbr HNE.out _ _ HX.out.2.1, far_cell HG.out hbr HNE.out _ _ HX.out.2.2⟩
            | exact ⟨(Below.heap_alloc wr.drew _ _ hbr ▸ HX.out.1), (Below.heap_alloc wr.drew _ _ hbr ▸ HX.out.2.1), (Below.heap_alloc wr.drew _ _ hbr ▸ HX.out.2.2)⟩
            | go_keep)
          (first
            | (go_at_call 26; refine (HCU.out _).mono ?_; rintro e w' ⟨rfl, rfl⟩)
            | (go_at_call 26; refine (HCG.out _).mono ?_; rintro e w' ⟨rfl, rfl⟩)
            | (refine step_append_lies _ rfl (.tmp 15) (.tmp 34) 22 rfl w.heap.size 31 i0 (.agg #[.int .i64 0, .string ⟨#[]⟩, .string ⟨#[]⟩]) 3 40 Tryd.underlying22 hi hz0 hz1 hz2 rfl (by decide) u3 k (cellsL ((L.take k).map cutTk)) rfl (HO.out.drew.alloc _) ⟨wr.heap.size, 0, none⟩ 1 1 [.int .i64 kd, .string CU, .string CG] rfl rfl H1.out H2.out (by decide) H3.out.1 H3.out.2 H5.out _ rfl ?_; intro g cap w1 hown hgrow hat hlt1; have HG := Lib.hid hgrow; have HO1 := Lib.hid hown; clear hgrow hown hat))
        have HNext : Hid (w1.ownsRow w.heap.size 31 3 (.slice (some ⟨g, 0, none⟩) (k + 1) cap) (k + 1) (cellsL ((L.take (k + 1)).map cutTk)) ∧ Below w.heap.size w w1 ∧ w.heap.size ≤ w1.heap.size) := by
          have hlt2 := HO.out.lt
          have h9 : Below w.heap.size w w1 := (HB.out.drew.alloc hbs _).grown HG.out (by show _ ≤ _; rw [World.size_alloc]; exact Nat.le_succ_of_le hbs) (fun j ej => (hlt2 j ej).1)
          refine Lib.hid ⟨?_, h9, h9.size⟩
          rw [HNEW.out]; exact HO1.out
        clear HNE H1 H2 H3 H5 HX HG HO1 HO HB e1 e2 e3 hbr hbl hlt1 HCL HCU HCG HNEW
        go_wp2
        go_roundw
        case rel => exact ⟨k + 1, by omega, by omega, by go_num, HNext.out.1, HNext.out.2.1, HNext.out.2.2⟩
        case measure => simp [intOf]; omega
      · obtain rfl : k = 60 := by omega
        have HE : Hid (OwnL wr w.heap.size u3 (fewL L)) := Lib.hid (by
          show World.ownsRow _ _ _ _ _ _ _
          have e : (fewL L).length = 60 := by simp [fewL]; have := HN.out; omega
          rw [e]
          exact HO.out)
        go_wp2
        go_ret
        exact ⟨_, rfl, HE.out, HB.out⟩
    · obtain rfl : k = n := by omega
      have HE : Hid (OwnL wr w.heap.size u3 (fewL L)) := Lib.hid (by
        show World.ownsRow _ _ _ _ _ _ _
        have e : (fewL L).length = k := by simp [fewL]; have := HN.out; omega
        have e2 : fewL L = (L.take k).map cutTk := by unfold fewL; rw [List.take_of_length_le (by have := HN.out; omega), List.take_of_length_le (by have := HN.out; omega)]
        rw [e, e2]
        exact HO.out)
      go_wp2
      go_ret
      exact ⟨_, rfl, HE.out, HB.out⟩
end Go.Proofs.YthbiflmmlcmncaaDoor.Ti
