/- Two lists of numbers are the same; Same of both sides. -/
import Derived.Test.YteclpoooggcdoaaGreatDoorArFew
import Derived.Deep.QuietTactic
import Derived.BigQuiet
namespace Go.Proofs.YteclpoooggcdoaaGreatDoor.Ar
open Go Go.RowKit Go.Shelf
attribute [local go_sem] Oper.semAt_some

theorem sameN {A B : List Int} (hl : A.length = B.length) (h : ∀ j, j < A.length → A[j]? = B[j]?) : A = B :=
  List.ext_getElem? fun j => by
    rcases Nat.lt_or_ge j A.length with h1 | h1
    · exact h j h1
    · rw [List.getElem?_eq_none h1, List.getElem?_eq_none (by omega)]

set_option maxHeartbeats 8000000 in
set_option maxRecDepth 100000 in
theorem nums_c (v u : Value) (A B : List Int) (w : World) (hA : KL w v A) (hB : KL w u B) :
    Calls Tryz.prog 40 #[v, u] w fun e W' => e = .returned (.bool (decide (A = B))) ∧ Below w.heap.size w W' := by
  obtain ⟨a0, c0, rfl, hc1, hc2⟩ := hA.form
  obtain ⟨b0, d0, rfl, hd1, hd2⟩ := hB.form
  unfold maxLen at hc2 hd2
  have HCA := Lib.hid hA.cells
  have HCB := Lib.hid hB.cells
  obtain ⟨n, hn⟩ : ∃ n, n = A.length := ⟨_, rfl⟩
  obtain ⟨m, hm⟩ : ∃ n, n = B.length := ⟨_, rfl⟩
  rw [← hn] at hc1 HCA ⊢
  rw [← hm] at hd1 HCB ⊢
  have HN := Lib.hid hn
  have HM := Lib.hid hm
  have HD := Lib.hid (Below.refl w.heap.size w)
  clear hA hB hn hm
  by_cases hnm : n = m
  · subst hnm
    go_enter Tryz.func40, Tryz.ntmps40
    go_wp2
    go_loopw [5] (fun i wr => ∃ k : Nat, k ≤ n ∧ i = .int .i64 k ∧ Below w.heap.size w wr ∧ ∀ j, j < k → A[j]? = B[j]?) (fun i _ => n - (intOf i).toNat)
    case atStart => exact ⟨0, Nat.zero_le _, rfl, HD.out, fun j hj => by omega⟩
    case round =>
      obtain ⟨k, hk, rfl, hB, hall⟩ := hrel
      have HB := Lib.hid hB
      have HALL := Lib.hid hall
      by_cases hlt : k < n
      · obtain ⟨g, o, c1, hv, hg, hcs⟩ := HCA.out (by omega)
        obtain ⟨g2, o2, c2, hv2, hg2, hcs2⟩ := HCB.out (by omega)
        obtain rfl : a0 = some ⟨g, o, none⟩ := by injection hv
        obtain rfl : b0 = some ⟨g2, o2, none⟩ := by injection hv2
        obtain ⟨x, hx⟩ : ∃ x, A[k]? = some x := ⟨_, List.getElem?_eq_getElem (by rw [← HN.out]; exact hlt)⟩
        obtain ⟨y, hy⟩ : ∃ x, B[k]? = some x := ⟨_, List.getElem?_eq_getElem (by rw [← HM.out]; exact hlt)⟩
        have x0 : wr.cell? ⟨g, o + k, none⟩ = some (.int .i64 x) := (hB.cell (p := ⟨g, o + k, none⟩) hg).trans (hcs k x hx)
        have y0 : wr.cell? ⟨g2, o2 + k, none⟩ = some (.int .i64 y) := (hB.cell (p := ⟨g2, o2 + k, none⟩) hg2).trans (hcs2 k y hy)
        have HDR := Lib.hid hB.drew
        have HXY : Hid ((x = y → A[k]? = B[k]?) ∧ (x ≠ y → A ≠ B)) := Lib.hid ⟨fun e => by rw [hx, hy, e], fun e e2 => by
          rw [e2, hy] at hx
          injection hx with hx
          exact e hx.symm⟩
        clear hB hcs hcs2 hv hv2 hg hg2 hx hy hall
        have hz : (0 : Int) ≤ (k : Int) := Int.natCast_nonneg _
        have hzn : (k : Int) < (n : Int) := by omega
        go_wp2_with fail
        go_quiet (fail)
        by_cases hxy : x = y
        · subst hxy
          go_wp2
          go_roundw
          case rel =>
            refine ⟨k + 1, by omega, by go_num, HB.out.trans ((below_drewN _ _).mono HB.out.size), fun j hj => ?_⟩
            rcases Nat.lt_or_ge j k with h1 | h1
            · exact HALL.out j h1
            · obtain rfl : j = k := by omega
              exact HXY.out.1 rfl
          case measure => simp [intOf]; omega
        · have HNE := Lib.hid (HXY.out.2 hxy)
          go_wp2
          go_ret
          exact ⟨by rw [decide_eq_false HNE.out]; rfl, HB.out.trans ((below_drewN _ _).mono HB.out.size)⟩
      · obtain rfl : k = n := by omega
        have HE : Hid (A = B) := Lib.hid (sameN (by rw [← HN.out, ← HM.out]) (fun j hj => hall j (by rw [HN.out]; exact hj)))
        clear hB hall
        go_wp2
        go_ret
        exact ⟨by rw [decide_eq_true HE.out]; rfl, HB.out⟩
  · have HNE : Hid (A ≠ B) := Lib.hid (fun e => hnm (by rw [HN.out, HM.out, e]))
    have t1 : ((n : Int) != (m : Int)) = true := by simp; omega
    go_enter Tryz.func40, Tryz.ntmps40
    go_wp2
    go_ret
    exact ⟨by rw [decide_eq_false HNE.out]; rfl, HD.out⟩

set_option maxHeartbeats 8000000 in
set_option maxRecDepth 100000 in
theorem equal_c (v u : Value) (A B : List Int) (w : World) (hA : KL w v A) (hB : KL w u B) :
    Calls Tryz.prog 42 #[v, u] w fun e W' => e = .returned (.bool (decide (A = B))) ∧ Below w.heap.size w W' := by
  obtain ⟨a0, c0, rfl, hc1, hc2⟩ := hA.form
  obtain ⟨b0, d0, rfl, hd1, hd2⟩ := hB.form
  unfold maxLen at hc2 hd2
  have HCA := Lib.hid hA.cells
  have HCB := Lib.hid hB.cells
  obtain ⟨n, hn⟩ : ∃ n, n = A.length := ⟨_, rfl⟩
  obtain ⟨m, hm⟩ : ∃ n, n = B.length := ⟨_, rfl⟩
  rw [← hn] at hc1 HCA ⊢
  rw [← hm] at hd1 HCB ⊢
  have HN := Lib.hid hn
  have HM := Lib.hid hm
  have HD := Lib.hid (Below.refl w.heap.size w)
  clear hA hB hn hm
  by_cases hnm : n = m
  · subst hnm
    go_enter Tryz.func42, Tryz.ntmps42
    go_wp2
    go_loopw [13] (fun i wr => ∃ k : Nat, k ≤ n ∧ i = .int .i64 k ∧ Below w.heap.size w wr ∧ ∀ j, j < k → A[j]? = B[j]?) (fun i _ => n - (intOf i).toNat)
    case atStart => exact ⟨0, Nat.zero_le _, rfl, HD.out, fun j hj => by omega⟩
    case round =>
      obtain ⟨k, hk, rfl, hB, hall⟩ := hrel
      have HB := Lib.hid hB
      have HALL := Lib.hid hall
      by_cases hlt : k < n
      · obtain ⟨g, o, c1, hv, hg, hcs⟩ := HCA.out (by omega)
        obtain ⟨g2, o2, c2, hv2, hg2, hcs2⟩ := HCB.out (by omega)
        obtain rfl : a0 = some ⟨g, o, none⟩ := by injection hv
        obtain rfl : b0 = some ⟨g2, o2, none⟩ := by injection hv2
        obtain ⟨x, hx⟩ : ∃ x, A[k]? = some x := ⟨_, List.getElem?_eq_getElem (by rw [← HN.out]; exact hlt)⟩
        obtain ⟨y, hy⟩ : ∃ x, B[k]? = some x := ⟨_, List.getElem?_eq_getElem (by rw [← HM.out]; exact hlt)⟩
        have x0 : wr.cell? ⟨g, o + k, none⟩ = some (.int .i64 x) := (hB.cell (p := ⟨g, o + k, none⟩) hg).trans (hcs k x hx)
        have y0 : wr.cell? ⟨g2, o2 + k, none⟩ = some (.int .i64 y) := (hB.cell (p := ⟨g2, o2 + k, none⟩) hg2).trans (hcs2 k y hy)
        have HDR := Lib.hid hB.drew
        have HXY : Hid ((x = y → A[k]? = B[k]?) ∧ (x ≠ y → A ≠ B)) := Lib.hid ⟨fun e => by rw [hx, hy, e], fun e e2 => by
          rw [e2, hy] at hx
          injection hx with hx
          exact e hx.symm⟩
        clear hB hcs hcs2 hv hv2 hg hg2 hx hy hall
        have hz : (0 : Int) ≤ (k : Int) := Int.natCast_nonneg _
        have hzn : (k : Int) < (n : Int) := by omega
        go_wp2_with fail
        go_quiet (fail)
        by_cases hxy : x = y
        · subst hxy
          go_wp2
          go_roundw
          case rel =>
            refine ⟨k + 1, by omega, by go_num, HB.out.trans ((below_drewN _ _).mono HB.out.size), fun j hj => ?_⟩
            rcases Nat.lt_or_ge j k with h1 | h1
            · exact HALL.out j h1
            · obtain rfl : j = k := by omega
              exact HXY.out.1 rfl
          case measure => simp [intOf]; omega
        · have HNE := Lib.hid (HXY.out.2 hxy)
          go_wp2
          go_ret
          exact ⟨by rw [decide_eq_false HNE.out]; rfl, HB.out.trans ((below_drewN _ _).mono HB.out.size)⟩
      · obtain rfl : k = n := by omega
        have HE : Hid (A = B) := Lib.hid (sameN (by rw [← HN.out, ← HM.out]) (fun j hj => hall j (by rw [HN.out]; exact hj)))
        clear hB hall
        go_wp2
        go_ret
        exact ⟨by rw [decide_eq_true HE.out]; rfl, HB.out⟩
  · have HNE : Hid (A ≠ B) := Lib.hid (fun e => hnm (by rw [HN.out, HM.out, e]))
    have t1 : ((n : Int) != (m : Int)) = true := by simp; omega
    go_enter Tryz.func42, Tryz.ntmps42
    go_wp2
    go_ret
    exact ⟨by rw [decide_eq_false HNE.out]; rfl, HD.out⟩

/-- Two arrays are the same. -/
def sameA (a b : Ary) : Bool := decide (a.list = b.list) && (decide (a.runes = b.runes) && decide (a.n = b.n))

set_option maxHeartbeats 4000000 in
set_option maxRecDepth 100000 in
theorem rsame_c (a b : Ary) (s t : Value) (w : World) (hA : KL w s a.n) (hB : KL w t b.n) :
    Calls Tryz.prog 18 #[aryV a s, aryV b t] w fun e W' => e = .returned (.bool (sameA a b)) ∧ Below w.heap.size w W' := by
  have hb2 : Below w.heap.size w ((w.alloc (.cells #[.bool a.list, .bool a.runes, s] 24)).alloc (.cells #[.bool b.list, .bool b.runes, t] 24)) := ((Below.refl _ w).alloc (Nat.le_refl _) _).alloc (by simp) _
  have HO := Lib.hid (nums_c s t a.n b.n _ (hA.below hb2) (hB.below hb2))
  have HB2 := Lib.hid hb2
  unfold sameA
  obtain ⟨d, hd⟩ : ∃ d, d = decide (a.n = b.n) := ⟨_, rfl⟩
  rw [← hd] at HO ⊢
  obtain ⟨aL, aR, aN⟩ := a
  obtain ⟨bL, bR, bN⟩ := b
  obtain ⟨sa, sc, hsf, -, -⟩ := hA.form
  obtain ⟨ta, tc, htf, -, -⟩ := hB.form
  dsimp only [aryV] at *
  obtain ⟨sn, hsn⟩ : ∃ n, n = aN.length := ⟨_, rfl⟩
  obtain ⟨tn, htn⟩ : ∃ n, n = bN.length := ⟨_, rfl⟩
  rw [← hsn] at hsf
  rw [← htn] at htf
  subst hsf
  subst htf
  clear hA hB hb2 hd hsn htn
  by_cases h1 : aL = bL
  · subst h1
    by_cases h2 : aR = bR
    · subst h2
      go_enter Tryz.func18, Tryz.ntmps18
      go_wp2_with (go_at_call 40; refine HO.out.mono ?_; rintro e w3 ⟨rfl, hb3⟩)
      go_ret
      exact ⟨by simp, HB2.out.trans (hb3.mono HB2.out.size)⟩
    · have t1 : (aR == bR) = false := by simpa using h2
      go_enter Tryz.func18, Tryz.ntmps18
      go_wp2
      go_ret
      exact ⟨by simp [h2], HB2.out⟩
  · have t1 : (aL == bL) = false := by simpa using h1
    go_enter Tryz.func18, Tryz.ntmps18
    go_wp2
    go_ret
    exact ⟨by simp [h1], HB2.out⟩

set_option maxHeartbeats 4000000 in
set_option maxRecDepth 100000 in
theorem same_c (a b : Ary) (s t : Value) (w : World) (hA : KL w s a.n) (hB : KL w t b.n) :
    Calls Tryz.prog 27 #[aryV a s, aryV b t] w fun e W' => e = .returned (.bool (sameA a b)) ∧ Below w.heap.size w W' := by
  have hb2 : Below w.heap.size w ((w.alloc (.cells #[.bool a.list, .bool a.runes, s] 24)).alloc (.cells #[.bool b.list, .bool b.runes, t] 24)) := ((Below.refl _ w).alloc (Nat.le_refl _) _).alloc (by simp) _
  have HO := Lib.hid (equal_c s t a.n b.n _ (hA.below hb2) (hB.below hb2))
  have HB2 := Lib.hid hb2
  unfold sameA
  obtain ⟨d, hd⟩ : ∃ d, d = decide (a.n = b.n) := ⟨_, rfl⟩
  rw [← hd] at HO ⊢
  obtain ⟨aL, aR, aN⟩ := a
  obtain ⟨bL, bR, bN⟩ := b
  obtain ⟨sa, sc, hsf, -, -⟩ := hA.form
  obtain ⟨ta, tc, htf, -, -⟩ := hB.form
  dsimp only [aryV] at *
  obtain ⟨sn, hsn⟩ : ∃ n, n = aN.length := ⟨_, rfl⟩
  obtain ⟨tn, htn⟩ : ∃ n, n = bN.length := ⟨_, rfl⟩
  rw [← hsn] at hsf
  rw [← htn] at htf
  subst hsf
  subst htf
  clear hA hB hb2 hd hsn htn
  by_cases h1 : aL = bL
  · subst h1
    by_cases h2 : aR = bR
    · subst h2
      go_enter Tryz.func27, Tryz.ntmps27
      go_wp2_with (go_at_call 42; refine HO.out.mono ?_; rintro e w3 ⟨rfl, hb3⟩)
      go_ret
      exact ⟨by simp, HB2.out.trans (hb3.mono HB2.out.size)⟩
    · have t1 : (aR == bR) = false := by simpa using h2
      go_enter Tryz.func27, Tryz.ntmps27
      go_wp2
      go_ret
      exact ⟨by simp [h2], HB2.out⟩
  · have t1 : (aL == bL) = false := by simpa using h1
    go_enter Tryz.func27, Tryz.ntmps27
    go_wp2
    go_ret
    exact ⟨by simp [h1], HB2.out⟩
end Go.Proofs.YteclpoooggcdoaaGreatDoor.Ar
