/- The program: are two lists of nodes the same? -/
import Derived.Test.YtbegplfijjbpcaaDoorNoC
namespace Go.Proofs.YtbegplfijjbpcaaDoor.No
open Go Go.RowKit Go.Shelf
attribute [local go_sem] Oper.semAt_some

set_option maxHeartbeats 4000000 in
set_option maxRecDepth 100000 in
/-- slices.Equal of numbers. -/
theorem eqi_c (v u : Value) (A B : List Int) (w : World) (hA : KL w v A) (hB : KL w u B) :
    Calls Tryd.prog 37 #[v, u] w fun e W' => e = .returned (.bool (decide (A = B))) ∧ Below w.heap.size w W' := by
  obtain ⟨a0, c0, rfl, hc1, hc2⟩ := hA.form
  obtain ⟨b0, d0, rfl, hd1, hd2⟩ := hB.form
  unfold maxLen at hc2 hd2
  have HCA := Lib.hid hA.cells
  have HCB := Lib.hid hB.cells
  obtain ⟨n, hn⟩ : ∃ n, n = A.length := ⟨_, rfl⟩
  obtain ⟨m, hm⟩ : ∃ n, n = B.length := ⟨_, rfl⟩
  rw [← hn] at hc1 HCA ⊢
  rw [← hm] at hd1 HCB ⊢
  have HN := Lib.hid hn
  have HM := Lib.hid hm
  have HD := Lib.hid (Below.refl w.heap.size w)
  clear hA hB hn hm
  by_cases hnm : n = m
  · subst hnm
    go_enter Tryd.func37, Tryd.ntmps37
    go_wp2
    go_loopw [13] (fun i wr => ∃ k : Nat, k ≤ n ∧ i = .int .i64 k ∧ Below w.heap.size w wr ∧ ∀ j, j < k → A[j]? = B[j]?) (fun i _ => n - (intOf i).toNat)
    case atStart => exact ⟨0, Nat.zero_le _, rfl, HD.out, fun j hj => by omega⟩
    case round =>
      obtain ⟨k, hk, rfl, hB, hall⟩ := hrel
      have HB := Lib.hid hB
      have HALL := Lib.hid hall
      by_cases hlt : k < n
      · obtain ⟨g, o, c1, hv, hg, hcs⟩ := HCA.out (by omega)
        obtain ⟨g2, o2, c2, hv2, hg2, hcs2⟩ := HCB.out (by omega)
        obtain rfl : a0 = some ⟨g, o, none⟩ := by injection hv
        obtain rfl : b0 = some ⟨g2, o2, none⟩ := by injection hv2
        obtain ⟨x, hx⟩ : ∃ x, A[k]? = some x := ⟨_, List.getElem?_eq_getElem (by rw [← HN.out]; exact hlt)⟩
        obtain ⟨y, hy⟩ : ∃ x, B[k]? = some x := ⟨_, List.getElem?_eq_getElem (by rw [← HM.out]; exact hlt)⟩
        have e1 := (hB.cell (p := ⟨g, o + k, none⟩) hg).trans (hcs k x hx)
        have e2 := (hB.cell (p := ⟨g2, o2 + k, none⟩) hg2).trans (hcs2 k y hy)
        have HXY := Lib.hid (And.intro hx hy)
        clear hB hcs hcs2 hv hv2 hg hg2 hx hy hall
        by_cases hxy : x = y
        · subst hxy
          have t1 : (x != x) = false := by simp
          go_wp2_with fail
          go_quiet (fail)
          have HBD := Lib.hid (below_dn HB.out nq)
          clear e1 e2 HB
          go_wp2
          go_roundw
          case rel =>
            refine ⟨k + 1, by omega, by go_num, HBD.out, fun j hj => ?_⟩
            rcases Nat.lt_or_ge j k with h1 | h1
            · exact HALL.out j h1
            · obtain rfl : j = k := by omega
              rw [HXY.out.1, HXY.out.2]
          case measure => simp [intOf]; omega
        · have HNE : Hid (A ≠ B) := Lib.hid (fun e => by
            have h1 := HXY.out.1
            rw [e, HXY.out.2] at h1
            injection h1 with h1
            exact hxy h1.symm)
          have t1 : (x != y) = true := by simp; exact hxy
          clear hxy
          go_wp2_with fail
          go_quiet (fail)
          have HBD := Lib.hid (below_dn HB.out nq)
          clear e1 e2 HB
          go_wp2
          go_ret
          exact ⟨by rw [decide_eq_false HNE.out]; rfl, HBD.out⟩
      · obtain rfl : k = n := by omega
        have HE : Hid (A = B) := Lib.hid (sameK (by rw [← HN.out, ← HM.out]) (fun j hj => hall j (by rw [HN.out]; exact hj)))
        clear hB hall
        go_wp2
        go_ret
        exact ⟨by rw [decide_eq_true HE.out]; rfl, HB.out⟩
  · have HNE : Hid (A ≠ B) := Lib.hid (fun e => hnm (by rw [HN.out, HM.out, e]))
    have t1 : ((n : Int) != (m : Int)) = true := by simp; omega
    go_enter Tryd.func37, Tryd.ntmps37
    go_wp2
    go_ret
    exact ⟨by rw [decide_eq_false HNE.out]; rfl, HD.out⟩
set_option maxHeartbeats 4000000 in
set_option maxRecDepth 100000 in
/-- Are two nodes the same? -/
theorem pair_c (a b : Nd) (ka kb : Value) (w : World) (hA : KL w ka a.kids) (hB : KL w kb b.kids) :
    Calls Tryd.prog 36 #[.agg #[.int .i64 a.kind, .string (bs a.text), ka], .agg #[.int .i64 b.kind, .string (bs b.text), kb]] w fun e W' => e = .returned (.bool (decide (a = b))) ∧ Below w.heap.size w W' := by
  obtain ⟨W0, hW0⟩ : ∃ W0, W0 = (w.alloc (.cells #[.int .i64 a.kind, .string (bs a.text), ka] 42)).alloc (.cells #[.int .i64 b.kind, .string (bs b.text), kb] 42) := ⟨_, rfl⟩
  have hb0 : Below w.heap.size w W0 := by rw [hW0]; exact ((Below.refl _ w).alloc (Nat.le_refl _) _).alloc (by simp) _
  have HI := Lib.hid (eqi_c ka kb a.kids b.kids W0 (hA.below hb0) (hB.below hb0))
  have ht := bs_eq a.text b.text
  obtain ⟨a1, c1, rfl, _⟩ := hA.form
  obtain ⟨b1, d1, rfl, _⟩ := hB.form
  rw [nd_eq]
  obtain ⟨dt, hdt⟩ : ∃ d, d = decide (a.text = b.text) := ⟨_, rfl⟩
  obtain ⟨dk, hdk⟩ : ∃ d, d = decide (a.kids = b.kids) := ⟨_, rfl⟩
  rw [← hdt] at ht ⊢
  rw [← hdk] at HI ⊢
  obtain ⟨la, hla⟩ : ∃ n, n = a.kids.length := ⟨_, rfl⟩
  obtain ⟨lb, hlb⟩ : ∃ n, n = b.kids.length := ⟨_, rfl⟩
  rw [← hla] at HI hW0 ⊢
  rw [← hlb] at HI hW0 ⊢
  obtain ⟨s, hs⟩ : ∃ s, s = bs a.text := ⟨_, rfl⟩
  obtain ⟨u, hu⟩ : ∃ s, s = bs b.text := ⟨_, rfl⟩
  rw [← hs, ← hu] at ht hW0 ⊢
  obtain ⟨x, hx⟩ : ∃ k, k = a.kind := ⟨_, rfl⟩
  obtain ⟨y, hy⟩ : ∃ k, k = b.kind := ⟨_, rfl⟩
  rw [← hx, ← hy] at hW0 ⊢
  have HB0 := Lib.hid hb0
  have hBB : Below w.heap.size w ((w.alloc (.cells #[.int .i64 x, .string s, .slice a1 la c1] 42)).alloc (.cells #[.int .i64 y, .string u, .slice b1 lb d1] 42)) := ((Below.refl _ w).alloc (Nat.le_refl _) _).alloc (by simp) _
  have HBB := Lib.hid hBB
  clear hA hB hb0 hdt hdk hla hlb hs hu hx hy hBB
  by_cases hk : x = y
  · subst hk
    cases dt with
    | true =>
      go_enter Tryd.func36, Tryd.ntmps36
      go_wp2_with fail
      rw [← hW0]
      refine HI.out.mono ?_
      rintro e w1 ⟨rfl, hb1⟩
      have HB1 := Lib.hid (HB0.out.trans (hb1.mono HB0.out.size))
      clear hb1
      go_wp2_with fail
      go_ret
      exact ⟨by simp, HB1.out⟩
    | false =>
      go_enter Tryd.func36, Tryd.ntmps36
      go_wp2_with fail
      go_ret
      exact ⟨by simp, HBB.out⟩
  · have h1 : (x == y) = false := by simpa using hk
    go_enter Tryd.func36, Tryd.ntmps36
    go_wp2_with fail
    go_ret
    exact ⟨by simp [hk], HBB.out⟩

set_option maxHeartbeats 8000000 in
set_option maxRecDepth 100000 in
/-- slices.EqualFunc of nodes, by that. -/
theorem eqf_c (v u : Value) (A B : List Nd) (w : World) (hA : NL w v A) (hB : NL w u B) :
    Calls Tryd.prog 35 #[v, u, .func (.func 36) #[] #[]] w fun e W' => e = .returned (.bool (decide (A = B))) ∧ Below w.heap.size w W' := by
  obtain ⟨a0, c0, rfl, hc1, hc2⟩ := hA.form
  obtain ⟨b0, d0, rfl, hd1, hd2⟩ := hB.form
  unfold maxLen at hc2 hd2
  have HCA := Lib.hid hA.cells
  have HCB := Lib.hid hB.cells
  obtain ⟨n, hn⟩ : ∃ n, n = A.length := ⟨_, rfl⟩
  obtain ⟨m, hm⟩ : ∃ n, n = B.length := ⟨_, rfl⟩
  rw [← hn] at hc1 HCA ⊢
  rw [← hm] at hd1 HCB ⊢
  have HN := Lib.hid hn
  have HM := Lib.hid hm
  have HD := Lib.hid (Below.refl w.heap.size w)
  clear hA hB hn hm
  by_cases hnm : n = m
  · subst hnm
    go_enter Tryd.func35, Tryd.ntmps35
    go_wp2
    go_loopw [17] (fun i wr => ∃ k : Nat, k ≤ n ∧ i = .int .i64 k ∧ Below w.heap.size w wr ∧ ∀ j, j < k → A[j]? = B[j]?) (fun i _ => n - (intOf i).toNat)
    case atStart => exact ⟨0, Nat.zero_le _, rfl, HD.out, fun j hj => by omega⟩
    case round =>
      obtain ⟨k, hk, rfl, hB, hall⟩ := hrel
      have HB := Lib.hid hB
      have HALL := Lib.hid hall
      by_cases hlt : k < n
      · obtain ⟨g, o, c1, hv, hg, hcs⟩ := HCA.out (by omega)
        obtain ⟨g2, o2, c2, hv2, hg2, hcs2⟩ := HCB.out (by omega)
        obtain rfl : a0 = some ⟨g, o, none⟩ := by injection hv
        obtain rfl : b0 = some ⟨g2, o2, none⟩ := by injection hv2
        obtain ⟨x, hx⟩ : ∃ x, A[k]? = some x := ⟨_, List.getElem?_eq_getElem (by rw [← HN.out]; exact hlt)⟩
        obtain ⟨y, hy⟩ : ∃ x, B[k]? = some x := ⟨_, List.getElem?_eq_getElem (by rw [← HM.out]; exact hlt)⟩
        obtain ⟨x0, x1, kx, x2, xk⟩ := (hcs k x hx).below hB hg
        obtain ⟨y0, y1, ky, y2, yk⟩ := (hcs2 k y hy).below hB hg2
        obtain ⟨W1, hW1⟩ : ∃ W, W = (wr.alloc (.cells #[.int .i64 x.kind, .string (bs x.text), kx] 42)).alloc (.cells #[.int .i64 y.kind, .string (bs y.text), ky] 42) := ⟨_, rfl⟩
        have hb1 : Below wr.heap.size wr W1 := by rw [hW1]; exact ((Below.refl _ _).alloc (Nat.le_refl _) _).alloc (by simp) _
        have HON := Lib.hid (pair_c x y kx ky W1 (xk.below hb1) (yk.below hb1))
        have HFIN : Hid (∀ W, Below W1.heap.size W1 W → Below w.heap.size w W) := Lib.hid (fun W hW => (hB.trans (hb1.mono hB.size)).trans (hW.mono (Nat.le_trans hB.size hb1.size)))
        obtain ⟨dd, hdd⟩ : ∃ d, d = decide (x = y) := ⟨_, rfl⟩
        rw [← hdd] at HON
        have HXY : Hid ((dd = true → A[k]? = B[k]?) ∧ (dd = false → A ≠ B)) := Lib.hid ⟨fun e => by
          rw [hx, hy, of_decide_eq_true (hdd.symm.trans e)], fun e e2 => by
          have := of_decide_eq_false (hdd.symm.trans e)
          rw [e2, hy] at hx
          injection hx with hx
          exact this hx.symm⟩
        obtain ⟨xa, xc, rfl, _⟩ := xk.form
        obtain ⟨ya, yc, rfl, _⟩ := yk.form
        obtain ⟨p1, hp1⟩ : ∃ p, p = x.kind := ⟨_, rfl⟩
        obtain ⟨p2, hp2⟩ : ∃ p, p = bs x.text := ⟨_, rfl⟩
        obtain ⟨p3, hp3⟩ : ∃ p, p = x.kids.length := ⟨_, rfl⟩
        obtain ⟨q1, hq1⟩ : ∃ p, p = y.kind := ⟨_, rfl⟩
        obtain ⟨q2, hq2⟩ : ∃ p, p = bs y.text := ⟨_, rfl⟩
        obtain ⟨q3, hq3⟩ : ∃ p, p = y.kids.length := ⟨_, rfl⟩
        rw [← hp1] at hW1 x0 HON
        rw [← hp2] at hW1 x1 HON
        rw [← hp3] at hW1 x2 HON
        rw [← hq1] at hW1 y0 HON
        rw [← hq2] at hW1 y1 HON
        rw [← hq3] at hW1 y2 HON
        
        have l1 := Nat.lt_of_lt_of_le hg hB.size
        have l2 := Nat.lt_of_lt_of_le hg2 hB.size
        clear hB hcs hcs2 hv hv2 hg hg2 hx hy hall xk yk hdd hp1 hp2 hp3 hq1 hq2 hq3 hb1
        go_wp2_with fail
        rw [← hW1]
        refine HON.out.mono ?_
        rintro e w7 ⟨rfl, hb7⟩
        have HB7 := Lib.hid (HFIN.out w7 hb7)
        clear hb7 hW1 x0 x1 x2 y0 y1 y2
        cases dd with
        | true =>
          have HXE := Lib.hid (HXY.out.1 rfl)
          go_wp2
          go_roundw
          case rel =>
            refine ⟨k + 1, by omega, by go_num, HB7.out, fun j hj => ?_⟩
            rcases Nat.lt_or_ge j k with h1 | h1
            · exact HALL.out j h1
            · obtain rfl : j = k := by omega
              exact HXE.out
          case measure => simp [intOf]; omega
        | false =>
          have HNE := Lib.hid (HXY.out.2 rfl)
          go_wp2
          go_ret
          exact ⟨by rw [decide_eq_false HNE.out]; rfl, HB7.out⟩
      · obtain rfl : k = n := by omega
        have HE : Hid (A = B) := Lib.hid (sameN (by rw [← HN.out, ← HM.out]) (fun j hj => hall j (by rw [HN.out]; exact hj)))
        clear hB hall
        go_wp2
        go_ret
        exact ⟨by rw [decide_eq_true HE.out]; rfl, HB.out⟩
  · have HNE : Hid (A ≠ B) := Lib.hid (fun e => hnm (by rw [HN.out, HM.out, e]))
    have t1 : ((n : Int) != (m : Int)) = true := by simp; omega
    go_enter Tryd.func35, Tryd.ntmps35
    go_wp2
    go_ret
    exact ⟨by rw [decide_eq_false HNE.out]; rfl, HD.out⟩

/-- Same(a, b). -/
theorem same_c (v u : Value) (A B : List Nd) (w : World) (hA : NL w v A) (hB : NL w u B) :
    Calls Tryd.prog 17 #[v, u] w fun e W' => e = .returned (.bool (decide (A = B))) ∧ Below w.heap.size w W' := by
  have HE := Lib.hid (eqf_c v u A B w hA hB)
  obtain ⟨a0, c0, rfl, _, _⟩ := hA.form
  obtain ⟨b0, d0, rfl, _, _⟩ := hB.form
  clear hA hB
  go_enter Tryd.func17, Tryd.ntmps17
  go_wp2_with (go_at_call 35; refine HE.out.mono ?_; rintro e w1 ⟨rfl, hb1⟩; have HB1 := Lib.hid hb1; clear hb1)
  go_ret
  exact ⟨rfl, HB1.out⟩
end Go.Proofs.YtbegplfijjbpcaaDoor.No
