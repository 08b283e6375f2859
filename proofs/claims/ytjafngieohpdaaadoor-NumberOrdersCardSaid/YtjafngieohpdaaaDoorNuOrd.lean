/- The statement NumberOrders, walked (by wip/gen/mknulaws.py). -/
import Derived.Test.YtjafngieohpdaaaDoorNuShown
namespace Go.Proofs.YtjafngieohpdaaaDoor.Nu
open Go Go.RowKit Go.Shelf
attribute [local go_sem] Oper.semAt_some

set_option maxRecDepth 100000 in
set_option maxHeartbeats 4000000 in
theorem orders_true (w : World) (hG : NG w) (x y : Int) (hx : In x) (hy : In y) : Calls Tryd.prog 6 #[.int .i64 x, .int .i64 y] w fun e w' => e = .returned (.bool true) ∧ Below w.heap.size w w' := by
  have HG := Lib.hid hG
  have HS := Lib.hid (fun w h => shown_c w h)
  clear hG
  rcases Int.lt_trichotomy x y with h | h | h
  · have H1 := Lib.hid (fun w h => dy_at 9 ⟨#[60]⟩ rfl x y hx hy 1 0 (by show (bit (decide (x < y)), 0) = _; rw [decide_eq_true (by omega)]; rfl) w h)
    have H2 := Lib.hid (fun w h => dy_at 7 ⟨#[61]⟩ rfl x y hx hy 0 0 (by show (bit (decide (x = y)), 0) = _; rw [decide_eq_false (by omega)]; rfl) w h)
    have H3 := Lib.hid (fun w h => dy_at 10 ⟨#[62]⟩ rfl x y hx hy 0 0 (by show (bit (decide (y < x)), 0) = _; rw [decide_eq_false (by omega)]; rfl) w h)
    have H4 := Lib.hid (fun w h => dy_at 11 ⟨#[226, 137, 164]⟩ rfl x y hx hy 1 0 (by show (bit (decide (x ≤ y)), 0) = _; rw [decide_eq_true (by omega)]; rfl) w h)
    have H5 := Lib.hid (fun w h => dy_at 12 ⟨#[226, 137, 165]⟩ rfl x y hx hy 0 0 (by show (bit (decide (y ≤ x)), 0) = _; rw [decide_eq_false (by omega)]; rfl) w h)
    have H6 := Lib.hid (fun w h => dy_at 8 ⟨#[226, 137, 160]⟩ rfl x y hx hy 1 0 (by show (bit (decide (x ≠ y)), 0) = _; rw [decide_eq_true (by omega)]; rfl) w h)
    have H7 := Lib.hid (fun w h => dy_at 4 ⟨#[226, 140, 136]⟩ rfl x y hx hy y 0 (by show (max x y, 0) = _; rw [show max x y = y by omega]) w h)
    have H8 := Lib.hid (fun w h => dy_at 5 ⟨#[226, 140, 138]⟩ rfl x y hx hy x 0 (by show (min x y, 0) = _; rw [show min x y = x by omega]) w h)
    have t1 : (y == x) = false := by simp; omega
    have t2 : (x == y) = false := by simp; omega
    clear h
    go_enter Tryd.func6, Tryd.ntmps6
    go_wp2_with fail
    refine (HS.out _ HG.out).mono ?_
    rintro e w1 ⟨rfl, hb⟩
    have HG1 := Lib.hid (HG.out.below hb)
    have HB1 := Lib.hid hb
    clear hb
    go_wp2_with fail
    refine (H1.out _ HG1.out).mono ?_
    rintro e w2 ⟨rfl, hb⟩
    have HG2 := Lib.hid (HG1.out.below hb)
    have HB2 := Lib.hid (HB1.out.trans (hb.mono HB1.out.size))
    clear hb
    go_wp2_with fail
    refine (H2.out _ HG2.out).mono ?_
    rintro e w3 ⟨rfl, hb⟩
    have HG3 := Lib.hid (HG2.out.below hb)
    have HB3 := Lib.hid (HB2.out.trans (hb.mono HB2.out.size))
    clear hb
    go_wp2_with fail
    refine (H3.out _ HG3.out).mono ?_
    rintro e w4 ⟨rfl, hb⟩
    have HG4 := Lib.hid (HG3.out.below hb)
    have HB4 := Lib.hid (HB3.out.trans (hb.mono HB3.out.size))
    clear hb
    go_wp2_with fail
    refine (H4.out _ HG4.out).mono ?_
    rintro e w5 ⟨rfl, hb⟩
    have HG5 := Lib.hid (HG4.out.below hb)
    have HB5 := Lib.hid (HB4.out.trans (hb.mono HB4.out.size))
    clear hb
    go_wp2_with fail
    refine (H5.out _ HG5.out).mono ?_
    rintro e w6 ⟨rfl, hb⟩
    have HG6 := Lib.hid (HG5.out.below hb)
    have HB6 := Lib.hid (HB5.out.trans (hb.mono HB5.out.size))
    clear hb
    go_wp2_with fail
    refine (H6.out _ HG6.out).mono ?_
    rintro e w7 ⟨rfl, hb⟩
    have HG7 := Lib.hid (HG6.out.below hb)
    have HB7 := Lib.hid (HB6.out.trans (hb.mono HB6.out.size))
    clear hb
    go_wp2_with fail
    refine (H7.out _ HG7.out).mono ?_
    rintro e w8 ⟨rfl, hb⟩
    have HG8 := Lib.hid (HG7.out.below hb)
    have HB8 := Lib.hid (HB7.out.trans (hb.mono HB7.out.size))
    clear hb
    go_wp2_with fail
    refine (H8.out _ HG8.out).mono ?_
    rintro e w9 ⟨rfl, hb⟩
    have HG9 := Lib.hid (HG8.out.below hb)
    have HB9 := Lib.hid (HB8.out.trans (hb.mono HB8.out.size))
    clear hb
    go_wp2
    all_goals go_ret
    all_goals exact ⟨rfl, HB9.out⟩
  · have H1 := Lib.hid (fun w h => dy_at 9 ⟨#[60]⟩ rfl x y hx hy 0 0 (by show (bit (decide (x < y)), 0) = _; rw [decide_eq_false (by omega)]; rfl) w h)
    have H2 := Lib.hid (fun w h => dy_at 7 ⟨#[61]⟩ rfl x y hx hy 1 0 (by show (bit (decide (x = y)), 0) = _; rw [decide_eq_true (by omega)]; rfl) w h)
    have H3 := Lib.hid (fun w h => dy_at 10 ⟨#[62]⟩ rfl x y hx hy 0 0 (by show (bit (decide (y < x)), 0) = _; rw [decide_eq_false (by omega)]; rfl) w h)
    have H4 := Lib.hid (fun w h => dy_at 11 ⟨#[226, 137, 164]⟩ rfl x y hx hy 1 0 (by show (bit (decide (x ≤ y)), 0) = _; rw [decide_eq_true (by omega)]; rfl) w h)
    have H5 := Lib.hid (fun w h => dy_at 12 ⟨#[226, 137, 165]⟩ rfl x y hx hy 1 0 (by show (bit (decide (y ≤ x)), 0) = _; rw [decide_eq_true (by omega)]; rfl) w h)
    have H6 := Lib.hid (fun w h => dy_at 8 ⟨#[226, 137, 160]⟩ rfl x y hx hy 0 0 (by show (bit (decide (x ≠ y)), 0) = _; rw [decide_eq_false (by omega)]; rfl) w h)
    have H7 := Lib.hid (fun w h => dy_at 4 ⟨#[226, 140, 136]⟩ rfl x y hx hy x 0 (by show (max x y, 0) = _; rw [show max x y = x by omega]) w h)
    have H8 := Lib.hid (fun w h => dy_at 5 ⟨#[226, 140, 138]⟩ rfl x y hx hy x 0 (by show (min x y, 0) = _; rw [show min x y = x by omega]) w h)
    have t1 : (y == x) = true := by simp [h]
    have t2 : (x == y) = true := by simp [h]
    clear h
    go_enter Tryd.func6, Tryd.ntmps6
    go_wp2_with fail
    refine (HS.out _ HG.out).mono ?_
    rintro e w1 ⟨rfl, hb⟩
    have HG1 := Lib.hid (HG.out.below hb)
    have HB1 := Lib.hid hb
    clear hb
    go_wp2_with fail
    refine (H1.out _ HG1.out).mono ?_
    rintro e w2 ⟨rfl, hb⟩
    have HG2 := Lib.hid (HG1.out.below hb)
    have HB2 := Lib.hid (HB1.out.trans (hb.mono HB1.out.size))
    clear hb
    go_wp2_with fail
    refine (H2.out _ HG2.out).mono ?_
    rintro e w3 ⟨rfl, hb⟩
    have HG3 := Lib.hid (HG2.out.below hb)
    have HB3 := Lib.hid (HB2.out.trans (hb.mono HB2.out.size))
    clear hb
    go_wp2_with fail
    refine (H3.out _ HG3.out).mono ?_
    rintro e w4 ⟨rfl, hb⟩
    have HG4 := Lib.hid (HG3.out.below hb)
    have HB4 := Lib.hid (HB3.out.trans (hb.mono HB3.out.size))
    clear hb
    go_wp2_with fail
    refine (H4.out _ HG4.out).mono ?_
    rintro e w5 ⟨rfl, hb⟩
    have HG5 := Lib.hid (HG4.out.below hb)
    have HB5 := Lib.hid (HB4.out.trans (hb.mono HB4.out.size))
    clear hb
    go_wp2_with fail
    refine (H5.out _ HG5.out).mono ?_
    rintro e w6 ⟨rfl, hb⟩
    have HG6 := Lib.hid (HG5.out.below hb)
    have HB6 := Lib.hid (HB5.out.trans (hb.mono HB5.out.size))
    clear hb
    go_wp2_with fail
    refine (H6.out _ HG6.out).mono ?_
    rintro e w7 ⟨rfl, hb⟩
    have HG7 := Lib.hid (HG6.out.below hb)
    have HB7 := Lib.hid (HB6.out.trans (hb.mono HB6.out.size))
    clear hb
    go_wp2_with fail
    refine (H7.out _ HG7.out).mono ?_
    rintro e w8 ⟨rfl, hb⟩
    have HG8 := Lib.hid (HG7.out.below hb)
    have HB8 := Lib.hid (HB7.out.trans (hb.mono HB7.out.size))
    clear hb
    go_wp2_with fail
    refine (H8.out _ HG8.out).mono ?_
    rintro e w9 ⟨rfl, hb⟩
    have HG9 := Lib.hid (HG8.out.below hb)
    have HB9 := Lib.hid (HB8.out.trans (hb.mono HB8.out.size))
    clear hb
    go_wp2
    all_goals go_ret
    all_goals exact ⟨rfl, HB9.out⟩
  · have H1 := Lib.hid (fun w h => dy_at 9 ⟨#[60]⟩ rfl x y hx hy 0 0 (by show (bit (decide (x < y)), 0) = _; rw [decide_eq_false (by omega)]; rfl) w h)
    have H2 := Lib.hid (fun w h => dy_at 7 ⟨#[61]⟩ rfl x y hx hy 0 0 (by show (bit (decide (x = y)), 0) = _; rw [decide_eq_false (by omega)]; rfl) w h)
    have H3 := Lib.hid (fun w h => dy_at 10 ⟨#[62]⟩ rfl x y hx hy 1 0 (by show (bit (decide (y < x)), 0) = _; rw [decide_eq_true (by omega)]; rfl) w h)
    have H4 := Lib.hid (fun w h => dy_at 11 ⟨#[226, 137, 164]⟩ rfl x y hx hy 0 0 (by show (bit (decide (x ≤ y)), 0) = _; rw [decide_eq_false (by omega)]; rfl) w h)
    have H5 := Lib.hid (fun w h => dy_at 12 ⟨#[226, 137, 165]⟩ rfl x y hx hy 1 0 (by show (bit (decide (y ≤ x)), 0) = _; rw [decide_eq_true (by omega)]; rfl) w h)
    have H6 := Lib.hid (fun w h => dy_at 8 ⟨#[226, 137, 160]⟩ rfl x y hx hy 1 0 (by show (bit (decide (x ≠ y)), 0) = _; rw [decide_eq_true (by omega)]; rfl) w h)
    have H7 := Lib.hid (fun w h => dy_at 4 ⟨#[226, 140, 136]⟩ rfl x y hx hy x 0 (by show (max x y, 0) = _; rw [show max x y = x by omega]) w h)
    have H8 := Lib.hid (fun w h => dy_at 5 ⟨#[226, 140, 138]⟩ rfl x y hx hy y 0 (by show (min x y, 0) = _; rw [show min x y = y by omega]) w h)
    have t1 : (y == x) = false := by simp; omega
    have t2 : (x == y) = false := by simp; omega
    clear h
    go_enter Tryd.func6, Tryd.ntmps6
    go_wp2_with fail
    refine (HS.out _ HG.out).mono ?_
    rintro e w1 ⟨rfl, hb⟩
    have HG1 := Lib.hid (HG.out.below hb)
    have HB1 := Lib.hid hb
    clear hb
    go_wp2_with fail
    refine (H1.out _ HG1.out).mono ?_
    rintro e w2 ⟨rfl, hb⟩
    have HG2 := Lib.hid (HG1.out.below hb)
    have HB2 := Lib.hid (HB1.out.trans (hb.mono HB1.out.size))
    clear hb
    go_wp2_with fail
    refine (H2.out _ HG2.out).mono ?_
    rintro e w3 ⟨rfl, hb⟩
    have HG3 := Lib.hid (HG2.out.below hb)
    have HB3 := Lib.hid (HB2.out.trans (hb.mono HB2.out.size))
    clear hb
    go_wp2_with fail
    refine (H3.out _ HG3.out).mono ?_
    rintro e w4 ⟨rfl, hb⟩
    have HG4 := Lib.hid (HG3.out.below hb)
    have HB4 := Lib.hid (HB3.out.trans (hb.mono HB3.out.size))
    clear hb
    go_wp2_with fail
    refine (H4.out _ HG4.out).mono ?_
    rintro e w5 ⟨rfl, hb⟩
    have HG5 := Lib.hid (HG4.out.below hb)
    have HB5 := Lib.hid (HB4.out.trans (hb.mono HB4.out.size))
    clear hb
    go_wp2_with fail
    refine (H5.out _ HG5.out).mono ?_
    rintro e w6 ⟨rfl, hb⟩
    have HG6 := Lib.hid (HG5.out.below hb)
    have HB6 := Lib.hid (HB5.out.trans (hb.mono HB5.out.size))
    clear hb
    go_wp2_with fail
    refine (H6.out _ HG6.out).mono ?_
    rintro e w7 ⟨rfl, hb⟩
    have HG7 := Lib.hid (HG6.out.below hb)
    have HB7 := Lib.hid (HB6.out.trans (hb.mono HB6.out.size))
    clear hb
    go_wp2_with fail
    refine (H7.out _ HG7.out).mono ?_
    rintro e w8 ⟨rfl, hb⟩
    have HG8 := Lib.hid (HG7.out.below hb)
    have HB8 := Lib.hid (HB7.out.trans (hb.mono HB7.out.size))
    clear hb
    go_wp2_with fail
    refine (H8.out _ HG8.out).mono ?_
    rintro e w9 ⟨rfl, hb⟩
    have HG9 := Lib.hid (HG8.out.below hb)
    have HB9 := Lib.hid (HB8.out.trans (hb.mono HB8.out.size))
    clear hb
    go_wp2
    all_goals go_ret
    all_goals exact ⟨rfl, HB9.out⟩
end Go.Proofs.YtjafngieohpdaaaDoor.Nu
