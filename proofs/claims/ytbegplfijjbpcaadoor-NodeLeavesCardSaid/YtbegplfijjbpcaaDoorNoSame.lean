/- The plain Same on nodes. -/
import Derived.Test.YtbegplfijjbpcaaDoorNoOne
namespace Go.Proofs.YtbegplfijjbpcaaDoor.No
open Go Go.RowKit Go.Shelf
attribute [local go_sem] Oper.semAt_some

theorem sameN {A B : List Nd} (hl : A.length = B.length) (h : ∀ j, j < A.length → A[j]? = B[j]?) : A = B :=
  List.ext_getElem? fun j => by
    rcases Nat.lt_or_ge j A.length with h1 | h1
    · exact h j h1
    · rw [List.getElem?_eq_none h1, List.getElem?_eq_none (by omega)]

set_option maxHeartbeats 8000000 in
set_option maxRecDepth 100000 in
/-- Same(a, b). -/
theorem rsame_c (v u : Value) (A B : List Nd) (w : World) (hA : NL w v A) (hB : NL w u B) :
    Calls Tryd.prog 18 #[v, u] w fun e W' => e = .returned (.bool (decide (A = B))) ∧ Below w.heap.size w W' := by
  obtain ⟨a0, c0, rfl, hc1, hc2⟩ := hA.form
  obtain ⟨b0, d0, rfl, hd1, hd2⟩ := hB.form
  unfold maxLen at hc2 hd2
  have HCA := Lib.hid hA.cells
  have HCB := Lib.hid hB.cells
  obtain ⟨n, hn⟩ : ∃ n, n = A.length := ⟨_, rfl⟩
  obtain ⟨m, hm⟩ : ∃ n, n = B.length := ⟨_, rfl⟩
  rw [← hn] at hc1 HCA ⊢
  rw [← hm] at hd1 HCB ⊢
  have HN := Lib.hid hn
  have HM := Lib.hid hm
  have HD := Lib.hid (Below.refl w.heap.size w)
  clear hA hB hn hm
  by_cases hnm : n = m
  · subst hnm
    go_enter Tryd.func18, Tryd.ntmps18
    go_wp2
    go_loopw [5] (fun i wr => ∃ k : Nat, k ≤ n ∧ i = .int .i64 k ∧ Below w.heap.size w wr ∧ ∀ j, j < k → A[j]? = B[j]?) (fun i _ => n - (intOf i).toNat)
    case atStart => exact ⟨0, Nat.zero_le _, rfl, HD.out, fun j hj => by omega⟩
    case round =>
      obtain ⟨k, hk, rfl, hB, hall⟩ := hrel
      have HB := Lib.hid hB
      have HALL := Lib.hid hall
      by_cases hlt : k < n
      · obtain ⟨g, o, c1, hv, hg, hcs⟩ := HCA.out (by omega)
        obtain ⟨g2, o2, c2, hv2, hg2, hcs2⟩ := HCB.out (by omega)
        obtain rfl : a0 = some ⟨g, o, none⟩ := by injection hv
        obtain rfl : b0 = some ⟨g2, o2, none⟩ := by injection hv2
        obtain ⟨x, hx⟩ : ∃ x, A[k]? = some x := ⟨_, List.getElem?_eq_getElem (by rw [← HN.out]; exact hlt)⟩
        obtain ⟨y, hy⟩ : ∃ x, B[k]? = some x := ⟨_, List.getElem?_eq_getElem (by rw [← HM.out]; exact hlt)⟩
        obtain ⟨x0, x1, kx, x2, xk⟩ := (hcs k x hx).below hB hg
        obtain ⟨y0, y1, ky, y2, yk⟩ := (hcs2 k y hy).below hB hg2
        have HDR := Lib.hid hB.drew
        have HON := Lib.hid (one_c x y kx ky wr.drew (xk.below ((Below.refl _ _).drew)) (yk.below ((Below.refl _ _).drew)))
        have HFIN : Hid (∀ W, Below wr.drew.heap.size wr.drew W → Below w.heap.size w W) := Lib.hid (fun W hW => hB.drew.trans (hW.mono hB.size))
        have HCX : Hid (∀ W, Below wr.drew.heap.size wr.drew W → (W.cell? ⟨g, o + k * 3, none⟩ = some (.int .i64 x.kind) ∧ W.cell? ⟨g, o + k * 3 + 1, none⟩ = some (.string (bs x.text)) ∧ W.cell? ⟨g, o + k * 3 + 2, none⟩ = some kx) ∧ W.cell? ⟨g2, o2 + k * 3, none⟩ = some (.int .i64 y.kind) ∧ W.cell? ⟨g2, o2 + k * 3 + 1, none⟩ = some (.string (bs y.text)) ∧ W.cell? ⟨g2, o2 + k * 3 + 2, none⟩ = some ky) := Lib.hid (fun W hW => by
          have q : ∀ (b o : Nat) (z : Value), b < wr.heap.size → wr.cell? ⟨b, o, none⟩ = some z → W.cell? ⟨b, o, none⟩ = some z := fun b o z h1 h2 => (hW.cell (p := ⟨b, o, none⟩) h1).trans h2
          have l1 := Nat.lt_of_lt_of_le hg hB.size
          have l2 := Nat.lt_of_lt_of_le hg2 hB.size
          exact ⟨⟨q _ _ _ l1 x0, q _ _ _ l1 x1, q _ _ _ l1 x2⟩, q _ _ _ l2 y0, q _ _ _ l2 y1, q _ _ _ l2 y2⟩)
        obtain ⟨dd, hdd⟩ : ∃ d, d = decide (x = y) := ⟨_, rfl⟩
        rw [← hdd] at HON
        have HXY : Hid ((dd = true → A[k]? = B[k]?) ∧ (dd = false → A ≠ B)) := Lib.hid ⟨fun e => by
          rw [hx, hy, of_decide_eq_true (hdd.symm.trans e)], fun e e2 => by
          have := of_decide_eq_false (hdd.symm.trans e)
          rw [e2, hy] at hx
          injection hx with hx
          exact this hx.symm⟩
        obtain ⟨xa, xc, rfl, _⟩ := xk.form
        obtain ⟨ya, yc, rfl, _⟩ := yk.form
        obtain ⟨p1, hp1⟩ : ∃ p, p = x.kind := ⟨_, rfl⟩
        obtain ⟨p2, hp2⟩ : ∃ p, p = bs x.text := ⟨_, rfl⟩
        obtain ⟨p3, hp3⟩ : ∃ p, p = x.kids.length := ⟨_, rfl⟩
        obtain ⟨q1, hq1⟩ : ∃ p, p = y.kind := ⟨_, rfl⟩
        obtain ⟨q2, hq2⟩ : ∃ p, p = bs y.text := ⟨_, rfl⟩
        obtain ⟨q3, hq3⟩ : ∃ p, p = y.kids.length := ⟨_, rfl⟩
        rw [← hp1, ← hp2, ← hp3, ← hq1, ← hq2, ← hq3] at HON HCX
        obtain ⟨⟨z0, z1, z2⟩, z3, z4, z5⟩ := HCX.out _ (Below.refl _ _)
        clear hB hcs hcs2 hv hv2 hg hg2 hx hy hall x0 x1 x2 y0 y1 y2 xk yk hdd hp1 hp2 hp3 hq1 hq2 hq3
        go_wp2_with fail
        go_region_held_law (fun w' => (w'.cell? ⟨g, o + k * 3, none⟩ = some (.int .i64 p1) ∧ w'.cell? ⟨g, o + k * 3 + 1, none⟩ = some (.string p2) ∧ w'.cell? ⟨g, o + k * 3 + 2, none⟩ = some (.slice xa p3 xc)) ∧ w'.cell? ⟨g2, o2 + k * 3, none⟩ = some (.int .i64 q1) ∧ w'.cell? ⟨g2, o2 + k * 3 + 1, none⟩ = some (.string q2) ∧ w'.cell? ⟨g2, o2 + k * 3 + 2, none⟩ = some (.slice ya q3 yc)) (first | exact HX7.out | exact ⟨⟨z0, z1, z2⟩, z3, z4, z5⟩ | go_keep)
          ((first | (go_at_call 38; refine HON.out.mono ?_; rintro e w7 ⟨rfl, hb7⟩; have HB7 := Lib.hid (HFIN.out w7 hb7); have HX7 := Lib.hid (HCX.out w7 hb7); clear hb7)))
        all_goals
          cases dd with
          | true =>
            go_wp2
            go_roundw
            case rel =>
              refine ⟨k + 1, by omega, by go_num, HB7.out, fun j hj => ?_⟩
              rcases Nat.lt_or_ge j k with h1 | h1
              · exact HALL.out j h1
              · obtain rfl : j = k := by omega
                exact HXY.out.1 rfl
            case measure => simp [intOf]; omega
          | false =>
            have HNE := Lib.hid (HXY.out.2 rfl)
            go_wp2
            go_ret
            exact ⟨by rw [decide_eq_false HNE.out]; rfl, HB7.out⟩
      · obtain rfl : k = n := by omega
        have HE : Hid (A = B) := Lib.hid (sameN (by rw [← HN.out, ← HM.out]) (fun j hj => hall j (by rw [HN.out]; exact hj)))
        clear hB hall
        go_wp2
        go_ret
        exact ⟨by rw [decide_eq_true HE.out]; rfl, HB.out⟩
  · have HNE : Hid (A ≠ B) := Lib.hid (fun e => hnm (by rw [HN.out, HM.out, e]))
    have t1 : ((n : Int) != (m : Int)) = true := by simp; omega
    go_enter Tryd.func18, Tryd.ntmps18
    go_wp2
    go_ret
    exact ⟨by rw [decide_eq_false HNE.out]; rfl, HD.out⟩
end Go.Proofs.YtbegplfijjbpcaaDoor.No
