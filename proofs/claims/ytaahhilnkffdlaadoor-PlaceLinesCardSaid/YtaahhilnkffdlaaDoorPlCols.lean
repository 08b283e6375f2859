/- The plain answer of place: a line's places and their columns. -/
import Derived.Test.YtaahhilnkffdlaaDoorPlMath
import Derived.Deep.RegionHeldLaw
import Derived.Deep.RegionLaw
namespace Go.Proofs.YtaahhilnkffdlaaDoor
open Go Go.RowKit

theorem rsize_at (w : World) (n : Nat) (unit z : Int) (sz : Nat) (hz : z = (n : Int)) (hs : sz = sizeOfU n unit) :
    Calls Tryd.prog 44 #[.int .i64 z, .int .i64 unit] w fun e W' => e = .returned (.int .i64 (sz : Int)) ∧ w = W' := by
  subst hz
  subst hs
  exact rsize w n unit

/-- What an append behind a draw and a new block leaves, of the world ahead. -/
theorem grown_cut {w w2 : World} {o : Obj} {row : Option Nat} (h : ((w.alloc o).drew).grownBy w2 row) : w.grownBy w2 row := by
  refine ⟨h.os, h.tape, h.output, ?_, fun k hk hne => ?_⟩
  · have h1 : (w.alloc o).heap.size ≤ w2.heap.size := h.size
    rw [World.size_alloc] at h1
    exact Nat.le_trans (Nat.le_succ _) h1
  · have h2 : w2.heap[k]? = (w.alloc o).heap[k]? := h.block k (by show k < (w.alloc o).heap.size; rw [World.size_alloc]; exact Nat.lt_succ_of_lt hk) hne
    rw [h2]
    exact Below.heap_alloc w o _ hk

/-- Two slices of numbers, apart. -/
def TwoOwn (W : World) (base : Nat) (va vc : Value) (LA LC : List Nat) : Prop :=
  Own W base va LA ∧ Own W base vc LC ∧ (∀ k, va.ownBlock = some k → vc.ownBlock ≠ some k)

set_option maxHeartbeats 1600000 in
set_option maxRecDepth 100000 in
theorem rcols (w : World) (s : ByteArray) (unit : Int) (hs : s.size ≤ 600) :
    Calls Tryd.prog 31 #[.string s, .int .i64 unit] w fun e W' => ∃ r va vc, e = .returned (.tuple #[va, vc]) ∧ posK s.data.toList unit r = s.size ∧ (∀ q, q < r → posK s.data.toList unit q < s.size) ∧ r ≤ 600 ∧
      Own W' w.heap.size va (lst (posK s.data.toList unit) r) ∧ Own W' w.heap.size vc (lst (colK s.data.toList unit) r) ∧ Below w.heap.size w W' := by
  obtain ⟨i0, hi, hz0, hz1, hz2⟩ := info_parts Tryd.infoInt
  obtain ⟨T, hT⟩ : ∃ T, T = s.data.toList := ⟨_, rfl⟩
  rw [← hT]
  have hTl : T.length = s.size := by rw [hT, Lib.size_eq]
  have hD : Below w.heap.size w ((w.alloc (.cells #[.int .i64 0] 3)).alloc (.cells #[.int .i64 0] 3)) := ((Below.refl _ w).alloc (Nat.le_refl _) _).alloc (by rw [World.size_alloc]; omega) _
  have hO1 : Own ((w.alloc (.cells #[.int .i64 0] 3)).alloc (.cells #[.int .i64 0] 3)) w.heap.size (.slice (some ⟨w.heap.size, 0, none⟩) 1 1) (lst (posK T unit) 0) :=
    (World.ownsRow_lit (e := 3) (base := w.heap.size) (size := 1) w #[.int .i64 0] 1 (Nat.le_refl _) (by unfold maxLen; omega) rfl).alloc _
  have hO2 : Own ((w.alloc (.cells #[.int .i64 0] 3)).alloc (.cells #[.int .i64 0] 3)) w.heap.size (.slice (some ⟨w.heap.size + 1, 0, none⟩) 1 1) (lst (colK T unit) 0) := by
    have := World.ownsRow_lit (e := 3) (base := w.heap.size) (size := 1) (w.alloc (.cells #[.int .i64 0] 3)) #[.int .i64 0] 1 (by rw [World.size_alloc]; omega) (by unfold maxLen; omega) rfl
    rw [World.size_alloc] at this
    exact this
  have HST : Hid (TwoOwn ((w.alloc (.cells #[.int .i64 0] 3)).alloc (.cells #[.int .i64 0] 3)) w.heap.size (.slice (some ⟨w.heap.size, 0, none⟩) 1 1) (.slice (some ⟨w.heap.size + 1, 0, none⟩) 1 1) (lst (posK T unit) 0) (lst (colK T unit) 0)) :=
    Lib.hid ⟨hO1, hO2, fun k e e' => by simp [Value.ownBlock] at e e'; omega⟩
  have HD := Lib.hid hD
  have HTT := Lib.hid hT
  have HTL := Lib.hid hTl
  clear hD hO1 hO2 hT hTl
  go_enter Tryd.func31, Tryd.ntmps31
  go_wp2
  go_loopw [6, 7, 8] (fun u uc i wr => ∃ r : Nat, posK T unit r ≤ s.size ∧ (∀ q, q < r → posK T unit q < s.size) ∧ r ≤ posK T unit r ∧ colK T unit r ≤ 2 * posK T unit r ∧ i = .int .i64 ((posK T unit r : Nat) : Int) ∧ TwoOwn wr w.heap.size u uc (lst (posK T unit) r) (lst (colK T unit) r) ∧ Below w.heap.size w wr)
    (fun _ _ i _ => s.size - (intOf i).toNat)
  case atStart => exact ⟨0, Nat.zero_le _, fun q hq => by omega, Nat.le_refl _, Nat.le_refl _, rfl, HST.out, HD.out⟩
  case round =>
    obtain ⟨r, hp, hq, hr, hc, rfl, hown, hB⟩ := hrel
    have HO := Lib.hid hown
    have HB := Lib.hid hB
    have HQ := Lib.hid hq
    have hbs := hB.size
    clear hown hB hq HST HD
    by_cases hlt : posK T unit r < s.size
    · obtain ⟨p, hpd⟩ : ∃ p, p = posK T unit r := ⟨_, rfl⟩
      obtain ⟨c, hcd⟩ : ∃ c, c = colK T unit r := ⟨_, rfl⟩
      obtain ⟨st, hst⟩ : ∃ st, st = stepOf (T.drop p) := ⟨_, rfl⟩
      have HSTP := Lib.hid hst
      rw [← hpd] at hp hr hc hlt
      rw [← hcd] at hc
      rw [← hpd]
      obtain ⟨hoa, hoc, hap⟩ := HO.out
      unfold Own at hoa hoc
      rw [lst_len] at hoa hoc
      obtain ⟨gc, capc, rfl, hgcb, hgcl⟩ := hoc.form (by omega)
      have hgn : u6.ownBlock ≠ some gc := fun e => hap gc e rfl
      have dc : wr.cell? ⟨gc, r, none⟩ = some (.int .i64 (c : Int)) := by
        rw [hoc.cellAt r (by omega)]
        have h1 := lst_get (colK T unit) r r (Nat.le_refl _)
        simp only [List.getD_eq_getElem?_getD] at h1
        simp [ints, lst, hcd]
      have HOA := Lib.hid hoa
      have HOC := Lib.hid hoc
      have HGN := Lib.hid hgn
      have HDC := Lib.hid dc
      have HPD := Lib.hid hpd
      clear hoa hoc hap hgn dc HO
      by_cases u1 : unit = 1
      · have t1 : (unit == 1) = true := by rw [u1]; rfl
        have hkd : stepU T unit p = 1 := by unfold stepU; rw [if_pos u1]
        have hkl := stepU_le (T := T) (unit := unit) (i := p) (by rw [HTL.out]; exact hlt)
        rw [hkd, HTL.out] at hkl
        obtain ⟨p2, hp2⟩ : ∃ p2 : Nat, (p : Int) + 1 = (p2 : Int) := ⟨p + 1, by omega⟩
        have hp2n : posK T unit (r + 1) = p2 := by show posK T unit r + stepU T unit (posK T unit r) = p2; rw [← hpd, hkd]; omega
        obtain ⟨sz, hsz⟩ : ∃ sz, sz = sizeOfU 1 unit := ⟨_, rfl⟩
        have hsl : sz ≤ 2 * 1 := by rw [hsz]; exact sizeOfU_le (by omega)
        obtain ⟨c2, hc2⟩ : ∃ c2 : Nat, (c : Int) + (sz : Int) = (c2 : Int) := ⟨c + sz, by omega⟩
        have hc2n : colK T unit (r + 1) = c2 := by show colK T unit r + sizeOfU (stepU T unit (posK T unit r)) unit = c2; rw [← hpd, ← hcd, hkd, ← hsz]; omega
        have hfin : r + 1 ≤ p2 ∧ c2 ≤ 2 * p2 ∧ p2 ≤ s.size ∧ p < p2 := by omega
        have HFIN := Lib.hid hfin
        have HP2 := Lib.hid hp2n
        have HC2 := Lib.hid hc2n
        have HSZ := Lib.hid hsz
        have hi1 : c2 ≤ 1200 := by omega
        have hi2 : sz ≤ 1200 := by omega
        have hc1 : ∀ (j : Nat) (u : Value), [Value.int .i64 (p2 : Int)][j]? = some u → (wr.alloc (.cells #[.int .i64 (p2 : Int)] 3)).cell? ((⟨wr.heap.size, 0, none⟩ : Addr).add j) = some u :=
          World.news_of_block (World.alloc_heap_new wr (.cells #[.int .i64 (p2 : Int)] 3))
        have hc3 : ∀ u ∈ [Value.int .i64 (p2 : Int)], u.oneCell' = true := by intro u hu; simp at hu; subst hu; rfl
        have hc4 : ∀ u ∈ [Value.int .i64 (c2 : Int)], u.oneCell' = true := by intro u hu; simp at hu; subst hu; rfl
        have H1 := Lib.hid hc1
        have H2 := Lib.hid hc3
        have H2c := Lib.hid hc4
        have H3 : Hid (r + 1 + 1 ≤ maxLen ∧ (r + 1 + 1) * 8 ≤ 140737488355328) := Lib.hid ⟨by unfold maxLen; omega, by omega⟩
        have H5 : Hid (w.heap.size ≤ (wr.alloc (.cells #[.int .i64 (p2 : Int)] 3)).heap.size) := Lib.hid (by rw [World.size_alloc]; omega)
        have hroom : r ≤ 600 ∧ p ≤ 600 ∧ p2 ≤ 600 ∧ c ≤ 1200 := by omega
        obtain ⟨hr6, hp6, hq6, hc6⟩ := hroom
        clear hkd hkl hp2n hsl hc2n hfin hc1 hc3 hc4 hsz hpd hcd hst u1
        go_wp2_with fail
        refine (rstep _ (s.extract p s.size) (Nat.le_trans (ext_size_le s p) hs)).mono ?_
        rw [ext_drop, ← HTT.out, ← HSTP.out]
        rintro e w' ⟨rfl, rfl⟩
        go_wp2_with (at_builtin; refine wpList_append_lies _ rfl (.tmp 25) (.tmp 27) 30 rfl w.heap.size 3 i0 (.int .i64 0) 1 8 Tryd.underlying30 hi hz0 hz1 hz2 rfl (by decide) u6 (r + 1) (ints (lst (posK T unit) r)) rfl (HOA.out.alloc _) ⟨wr.heap.size, 0, none⟩ 1 1 [.int .i64 (p2 : Int)] rfl rfl H1.out H2.out (by decide) H3.out.1 H3.out.2 H5.out _ rfl ?_; intro g cap w1 hown' hgrow hat hlt1; have HG := Lib.hid hgrow; have HO1 := Lib.hid hown'; have HAT := Lib.hid hat; have HLT := Lib.hid hlt1; clear hown' hgrow hat hlt1)
        have hla : ∀ k, u6.ownBlock = some k → w.heap.size ≤ k := fun k e => (HOA.out.lt k e).1
        have HB1 : Hid (Below w.heap.size w w1) := Lib.hid ((HB.out.alloc hbs _).grown HG.out H5.out hla)
        have HOC1 : Hid (w1.ownsRow w.heap.size 3 1 (.slice (some ⟨gc, 0, none⟩) (r + 1) capc) (r + 1) (ints (lst (colK T unit) r))) := Lib.hid ((HOC.out.alloc _).kept HG.out (.inr (fun e => HGN.out e.symm)))
        have dc1 : w1.cell? ⟨gc, r, none⟩ = some (.int .i64 (c : Int)) := by
          rw [HG.out.cell_far ⟨gc, r, none⟩ (by rw [World.size_alloc]; exact Nat.lt_succ_of_lt hgcl) (fun e => HGN.out e.symm), ← HDC.out]
          exact World.cell?_of_block (w := wr) (Below.heap_alloc wr _ _ hgcl)
        have hs1 : w.heap.size ≤ w1.heap.size := HB1.out.size
        have hd1 : ∀ (j : Nat) (u : Value), [Value.int .i64 (c2 : Int)][j]? = some u → (w1.drew.alloc (.cells #[.int .i64 (c2 : Int)] 3)).cell? ((⟨w1.heap.size, 0, none⟩ : Addr).add j) = some u :=
          World.news_of_block (World.alloc_heap_new w1.drew (.cells #[.int .i64 (c2 : Int)] 3))
        have HD1 := Lib.hid hd1
        have HD5 : Hid (w.heap.size ≤ (w1.drew.alloc (.cells #[.int .i64 (c2 : Int)] 3)).heap.size) := Lib.hid (by rw [World.size_alloc]; exact Nat.le_succ_of_le hs1)
        clear hla hd1 H1 H5
        have hrl : (r : Int) < (r : Int) + 1 := by omega
        have hwc : IntKind.wrap .i64 (c2 : Int) = (c2 : Int) := by unfold IntKind.wrap; simp [IntKind.signed, IntKind.bits]; omega
        have hwr : IntKind.wrap .i64 (r : Int) = (r : Int) := by unfold IntKind.wrap; simp [IntKind.signed, IntKind.bits]; omega
        go_wp2_with fail
        go_region_law (first
          | (go_simp; go_at_call 44; refine (rsize_at _ 1 unit _ sz rfl HSZ.out).mono ?_; rintro e w' ⟨rfl, rfl⟩; dsimp only)
          | (refine step_append_lies _ rfl (.tmp 29) (.tmp 40) 30 rfl w.heap.size 3 i0 (.int .i64 0) 1 8 Tryd.underlying30 hi hz0 hz1 hz2 rfl (by decide) (.slice (some ⟨gc, 0, none⟩) (r + 1) capc) (r + 1) (ints (lst (colK T unit) r)) rfl (HOC1.out.drew.alloc _) ⟨w1.heap.size, 0, none⟩ 1 1 [.int .i64 (c2 : Int)] rfl rfl HD1.out H2c.out (by decide) H3.out.1 H3.out.2 HD5.out _ rfl ?_; intro g2 cap2 w2 hown2 hgrow2 hat2 hlt2; have HG2 := Lib.hid hgrow2; have HO2 := Lib.hid hown2; have HAT2 := Lib.hid hat2; clear hown2 hgrow2 hat2 hlt2))
        all_goals
          have HN : Hid (TwoOwn w2 w.heap.size (.slice (some ⟨g, 0, none⟩) (r + 1 + 1) cap) (.slice (some ⟨g2, 0, none⟩) (r + 1 + 1) cap2) (lst (posK T unit) (r + 1)) (lst (colK T unit) (r + 1)) ∧ Below w.heap.size w w2) := Lib.hid (by
            have hgb : g < w1.heap.size := HLT.out
            have hgr : w1.grownBy w2 (some gc) := grown_cut HG2.out
            have hne : g ≠ gc := by
              rcases HAT.out with e | e
              · intro e'; exact HGN.out (by rw [e, e'])
              · rw [World.size_alloc] at e; omega
            have hg2 : g2 = gc ∨ w1.heap.size ≤ g2 := by
              rcases HAT2.out with e | e
              · left; simpa [Value.ownBlock] using e.symm
              · right; rw [e]; show w1.heap.size ≤ (w1.alloc _).heap.size; rw [World.size_alloc]; exact Nat.le_succ _
            refine ⟨⟨?_, ?_, fun k e e' => ?_⟩, HB1.out.grown hgr hs1 (fun k e => by cases e; exact hgcb)⟩
            · unfold Own
              rw [lst_len, ints_succ, HP2.out]
              exact HO1.out.kept hgr (.inr (fun e => hne (by simpa [Value.ownBlock] using e)))
            · unfold Own
              rw [lst_len, ints_succ, HC2.out]
              exact HO2.out
            · simp [Value.ownBlock] at e e'
              omega)
          clear HO1 HO2 HG HG2 HAT HAT2 HLT HB1 HOC1 HD1 HD5 HOA HOC HGN HDC HSTP HSZ H2 H2c H3 dc1 hrl hwr hwc
          simp only [List.getElem_toArray, List.getElem_cons_succ, List.getElem_cons_zero, Act.put, List.setIfInBounds_toArray, List.set_cons_zero, List.set_cons_succ]
          go_wp2
          go_roundw
          case rel =>
            refine ⟨r + 1, by rw [HP2.out]; exact HFIN.out.2.2.1, fun q hq => ?_, by rw [HP2.out]; exact HFIN.out.1, by rw [HP2.out, HC2.out]; exact HFIN.out.2.1, by rw [HP2.out], HN.out.1, HN.out.2⟩
            rcases Nat.lt_or_ge q r with h | h
            · exact HQ.out q h
            · obtain rfl : q = r := by omega
              rw [← HPD.out]; exact hlt
          case measure =>
            have h := HFIN.out.2.2.2
            simp [intOf]; omega
      · have t1 : (unit == 1) = false := beq_eq_false_iff_ne.2 u1
        have hkd : stepU T unit p = st := by unfold stepU; rw [if_neg u1]; exact hst.symm
        have hkl := stepU_le (T := T) (unit := unit) (i := p) (by rw [HTL.out]; exact hlt)
        rw [hkd, HTL.out] at hkl
        obtain ⟨p2, hp2⟩ : ∃ p2 : Nat, (p : Int) + (st : Int) = (p2 : Int) := ⟨p + st, by omega⟩
        have hp2n : posK T unit (r + 1) = p2 := by show posK T unit r + stepU T unit (posK T unit r) = p2; rw [← hpd, hkd]; omega
        obtain ⟨sz, hsz⟩ : ∃ sz, sz = sizeOfU st unit := ⟨_, rfl⟩
        have hsl : sz ≤ 2 * st := by rw [hsz]; exact sizeOfU_le (by omega)
        obtain ⟨c2, hc2⟩ : ∃ c2 : Nat, (c : Int) + (sz : Int) = (c2 : Int) := ⟨c + sz, by omega⟩
        have hc2n : colK T unit (r + 1) = c2 := by show colK T unit r + sizeOfU (stepU T unit (posK T unit r)) unit = c2; rw [← hpd, ← hcd, hkd, ← hsz]; omega
        have hfin : r + 1 ≤ p2 ∧ c2 ≤ 2 * p2 ∧ p2 ≤ s.size ∧ p < p2 := by omega
        have HFIN := Lib.hid hfin
        have HP2 := Lib.hid hp2n
        have HC2 := Lib.hid hc2n
        have HSZ := Lib.hid hsz
        have hi1 : c2 ≤ 1200 := by omega
        have hi2 : sz ≤ 1200 := by omega
        have hc1 : ∀ (j : Nat) (u : Value), [Value.int .i64 (p2 : Int)][j]? = some u → (wr.alloc (.cells #[.int .i64 (p2 : Int)] 3)).cell? ((⟨wr.heap.size, 0, none⟩ : Addr).add j) = some u :=
          World.news_of_block (World.alloc_heap_new wr (.cells #[.int .i64 (p2 : Int)] 3))
        have hc3 : ∀ u ∈ [Value.int .i64 (p2 : Int)], u.oneCell' = true := by intro u hu; simp at hu; subst hu; rfl
        have hc4 : ∀ u ∈ [Value.int .i64 (c2 : Int)], u.oneCell' = true := by intro u hu; simp at hu; subst hu; rfl
        have H1 := Lib.hid hc1
        have H2 := Lib.hid hc3
        have H2c := Lib.hid hc4
        have H3 : Hid (r + 1 + 1 ≤ maxLen ∧ (r + 1 + 1) * 8 ≤ 140737488355328) := Lib.hid ⟨by unfold maxLen; omega, by omega⟩
        have H5 : Hid (w.heap.size ≤ (wr.alloc (.cells #[.int .i64 (p2 : Int)] 3)).heap.size) := Lib.hid (by rw [World.size_alloc]; omega)
        have hroom : r ≤ 600 ∧ p ≤ 600 ∧ p2 ≤ 600 ∧ c ≤ 1200 := by omega
        obtain ⟨hr6, hp6, hq6, hc6⟩ := hroom
        clear hkd hkl hp2n hsl hc2n hfin hc1 hc3 hc4 hsz hpd hcd hst u1
        go_wp2_with fail
        refine (rstep _ (s.extract p s.size) (Nat.le_trans (ext_size_le s p) hs)).mono ?_
        rw [ext_drop, ← HTT.out, ← HSTP.out]
        rintro e w' ⟨rfl, rfl⟩
        go_wp2_with (at_builtin; refine wpList_append_lies _ rfl (.tmp 25) (.tmp 27) 30 rfl w.heap.size 3 i0 (.int .i64 0) 1 8 Tryd.underlying30 hi hz0 hz1 hz2 rfl (by decide) u6 (r + 1) (ints (lst (posK T unit) r)) rfl (HOA.out.alloc _) ⟨wr.heap.size, 0, none⟩ 1 1 [.int .i64 (p2 : Int)] rfl rfl H1.out H2.out (by decide) H3.out.1 H3.out.2 H5.out _ rfl ?_; intro g cap w1 hown' hgrow hat hlt1; have HG := Lib.hid hgrow; have HO1 := Lib.hid hown'; have HAT := Lib.hid hat; have HLT := Lib.hid hlt1; clear hown' hgrow hat hlt1)
        have hla : ∀ k, u6.ownBlock = some k → w.heap.size ≤ k := fun k e => (HOA.out.lt k e).1
        have HB1 : Hid (Below w.heap.size w w1) := Lib.hid ((HB.out.alloc hbs _).grown HG.out H5.out hla)
        have HOC1 : Hid (w1.ownsRow w.heap.size 3 1 (.slice (some ⟨gc, 0, none⟩) (r + 1) capc) (r + 1) (ints (lst (colK T unit) r))) := Lib.hid ((HOC.out.alloc _).kept HG.out (.inr (fun e => HGN.out e.symm)))
        have dc1 : w1.cell? ⟨gc, r, none⟩ = some (.int .i64 (c : Int)) := by
          rw [HG.out.cell_far ⟨gc, r, none⟩ (by rw [World.size_alloc]; exact Nat.lt_succ_of_lt hgcl) (fun e => HGN.out e.symm), ← HDC.out]
          exact World.cell?_of_block (w := wr) (Below.heap_alloc wr _ _ hgcl)
        have hs1 : w.heap.size ≤ w1.heap.size := HB1.out.size
        have hd1 : ∀ (j : Nat) (u : Value), [Value.int .i64 (c2 : Int)][j]? = some u → (w1.drew.alloc (.cells #[.int .i64 (c2 : Int)] 3)).cell? ((⟨w1.heap.size, 0, none⟩ : Addr).add j) = some u :=
          World.news_of_block (World.alloc_heap_new w1.drew (.cells #[.int .i64 (c2 : Int)] 3))
        have HD1 := Lib.hid hd1
        have HD5 : Hid (w.heap.size ≤ (w1.drew.alloc (.cells #[.int .i64 (c2 : Int)] 3)).heap.size) := Lib.hid (by rw [World.size_alloc]; exact Nat.le_succ_of_le hs1)
        clear hla hd1 H1 H5
        have hrl : (r : Int) < (r : Int) + 1 := by omega
        have hwc : IntKind.wrap .i64 (c2 : Int) = (c2 : Int) := by unfold IntKind.wrap; simp [IntKind.signed, IntKind.bits]; omega
        have hwr : IntKind.wrap .i64 (r : Int) = (r : Int) := by unfold IntKind.wrap; simp [IntKind.signed, IntKind.bits]; omega
        go_wp2_with fail
        go_region_law (first
          | (go_simp; go_at_call 44; refine (rsize_at _ st unit _ sz rfl HSZ.out).mono ?_; rintro e w' ⟨rfl, rfl⟩; dsimp only)
          | (refine step_append_lies _ rfl (.tmp 29) (.tmp 40) 30 rfl w.heap.size 3 i0 (.int .i64 0) 1 8 Tryd.underlying30 hi hz0 hz1 hz2 rfl (by decide) (.slice (some ⟨gc, 0, none⟩) (r + 1) capc) (r + 1) (ints (lst (colK T unit) r)) rfl (HOC1.out.drew.alloc _) ⟨w1.heap.size, 0, none⟩ 1 1 [.int .i64 (c2 : Int)] rfl rfl HD1.out H2c.out (by decide) H3.out.1 H3.out.2 HD5.out _ rfl ?_; intro g2 cap2 w2 hown2 hgrow2 hat2 hlt2; have HG2 := Lib.hid hgrow2; have HO2 := Lib.hid hown2; have HAT2 := Lib.hid hat2; clear hown2 hgrow2 hat2 hlt2))
        all_goals
          have HN : Hid (TwoOwn w2 w.heap.size (.slice (some ⟨g, 0, none⟩) (r + 1 + 1) cap) (.slice (some ⟨g2, 0, none⟩) (r + 1 + 1) cap2) (lst (posK T unit) (r + 1)) (lst (colK T unit) (r + 1)) ∧ Below w.heap.size w w2) := Lib.hid (by
            have hgb : g < w1.heap.size := HLT.out
            have hgr : w1.grownBy w2 (some gc) := grown_cut HG2.out
            have hne : g ≠ gc := by
              rcases HAT.out with e | e
              · intro e'; exact HGN.out (by rw [e, e'])
              · rw [World.size_alloc] at e; omega
            have hg2 : g2 = gc ∨ w1.heap.size ≤ g2 := by
              rcases HAT2.out with e | e
              · left; simpa [Value.ownBlock] using e.symm
              · right; rw [e]; show w1.heap.size ≤ (w1.alloc _).heap.size; rw [World.size_alloc]; exact Nat.le_succ _
            refine ⟨⟨?_, ?_, fun k e e' => ?_⟩, HB1.out.grown hgr hs1 (fun k e => by cases e; exact hgcb)⟩
            · unfold Own
              rw [lst_len, ints_succ, HP2.out]
              exact HO1.out.kept hgr (.inr (fun e => hne (by simpa [Value.ownBlock] using e)))
            · unfold Own
              rw [lst_len, ints_succ, HC2.out]
              exact HO2.out
            · simp [Value.ownBlock] at e e'
              omega)
          clear HO1 HO2 HG HG2 HAT HAT2 HLT HB1 HOC1 HD1 HD5 HOA HOC HGN HDC HSTP HSZ H2 H2c H3 dc1 hrl hwr hwc
          simp only [List.getElem_toArray, List.getElem_cons_succ, List.getElem_cons_zero, Act.put, List.setIfInBounds_toArray, List.set_cons_zero, List.set_cons_succ]
          go_wp2
          go_roundw
          case rel =>
            refine ⟨r + 1, by rw [HP2.out]; exact HFIN.out.2.2.1, fun q hq => ?_, by rw [HP2.out]; exact HFIN.out.1, by rw [HP2.out, HC2.out]; exact HFIN.out.2.1, by rw [HP2.out], HN.out.1, HN.out.2⟩
            rcases Nat.lt_or_ge q r with h | h
            · exact HQ.out q h
            · obtain rfl : q = r := by omega
              rw [← HPD.out]; exact hlt
          case measure =>
            have h := HFIN.out.2.2.2
            simp [intOf]; omega
    · have hpe : posK T unit r = s.size := by omega
      have HPE := Lib.hid hpe
      clear hpe
      go_wp2
      go_ret2
      exact ⟨r, _, _, rfl, HPE.out, HQ.out, by omega, HO.out.1, HO.out.2.1, HB.out⟩
end Go.Proofs.YtaahhilnkffdlaaDoor
