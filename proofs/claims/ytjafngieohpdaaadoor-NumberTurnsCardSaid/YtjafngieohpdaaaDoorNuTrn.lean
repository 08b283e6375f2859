/- The statement NumberTurns, walked (by wip/gen/mknulaws.py). -/
import Derived.Test.YtjafngieohpdaaaDoorNuShown
namespace Go.Proofs.YtjafngieohpdaaaDoor.Nu
open Go Go.RowKit Go.Shelf
attribute [local go_sem] Oper.semAt_some

theorem dyN_swap (k : Nat) (hk : k = 0 ∨ k = 2 ∨ k = 4 ∨ k = 5 ∨ k = 13 ∨ k = 14 ∨ k = 7 ∨ k = 8) (x y : Int) : dyN k y x = dyN k x y := by
  rcases hk with rfl | rfl | rfl | rfl | rfl | rfl | rfl | rfl
  · show ovr _ = ovr _; rw [Int.add_comm]
  · show ovr _ = ovr _; rw [Int.mul_comm]
  · show (max y x, (0 : Int)) = (max x y, 0); rw [show max y x = max x y by omega]
  · show (min y x, (0 : Int)) = (min x y, 0); rw [show min y x = min x y by omega]
  · show bitsR y x _ = bitsR x y _; unfold bitsR; rw [Bool.and_comm, show min y x = min x y by omega]
  · show bitsR y x _ = bitsR x y _; unfold bitsR; rw [Bool.and_comm, show max y x = max x y by omega]
  · show (bit (decide (y = x)), (0 : Int)) = _; rw [show decide (y = x) = decide (x = y) by rw [Bool.eq_iff_iff]; simp; omega]; rfl
  · show (bit (decide (y ≠ x)), (0 : Int)) = _; rw [show decide (y ≠ x) = decide (x ≠ y) by rw [Bool.eq_iff_iff]; simp; omega]; rfl
set_option maxRecDepth 100000 in
set_option maxHeartbeats 4000000 in
theorem turn_0 (w : World) (hG : NG w) (x y : Int) (hx : In x) (hy : In y) : Calls Tryd.prog 7 #[.int .i64 0, .int .i64 x, .int .i64 y] w fun e w' => e = .returned (.bool true) ∧ Below w.heap.size w w' := by
  have HG := Lib.hid hG
  have HS := Lib.hid (fun w h => shown_c w h)
  clear hG
  obtain ⟨⟨a, e⟩, h1⟩ : ∃ N : Int × Int, dyN 0 x y = N := ⟨_, rfl⟩
  have h2 : dyN 0 y x = (a, e) := (dyN_swap 0 (by decide) x y).trans h1
  have h4 : dyN 0 0 y = (y, 0) := (by show ovr (0 + y) = _; rw [Int.zero_add]; exact if_pos hy)
  have H1 := Lib.hid (fun w h => dy_at 0 ⟨#[43]⟩ rfl x y hx hy a e h1 w h)
  have H2 := Lib.hid (fun w h => dy_at 0 ⟨#[43]⟩ rfl y x hy hx a e h2 w h)
  have H4 := Lib.hid (fun w h => dy_at 0 ⟨#[43]⟩ rfl 0 y (by decide) hy y 0 h4 w h)
  have H3 : Hid (∀ w, Calls Tryd.prog 15 #[.string ⟨#[43]⟩] w fun v w' => v = .returned (.tuple #[.int .i64 0, .bool true]) ∧ w = w') := Lib.hid (fun w => unit_c ⟨#[43]⟩ w)
  clear h1 h2 h4
  go_enter Tryd.func7, Tryd.ntmps7
  go_wp2_with fail
  refine (HS.out _ HG.out).mono ?_
  rintro e1 w1 ⟨rfl, hb⟩
  have HG1 := Lib.hid (HG.out.below hb)
  have HB1 := Lib.hid hb
  clear hb
  have hb0 : Below w1.heap.size w1 (w1.alloc (.cells #[.string ⟨#[43]⟩, .string ⟨#[195, 151]⟩, .string ⟨#[226, 140, 136]⟩, .string ⟨#[226, 140, 138]⟩, .string ⟨#[226, 136, 167]⟩, .string ⟨#[226, 136, 168]⟩, .string ⟨#[61]⟩, .string ⟨#[226, 137, 160]⟩] 9)) := (Below.refl _ _).alloc (Nat.le_refl _) _
  have HGS := Lib.hid (HG1.out.below hb0)
  have HK : Hid (∀ W, Below (w1.alloc (.cells #[.string ⟨#[43]⟩, .string ⟨#[195, 151]⟩, .string ⟨#[226, 140, 136]⟩, .string ⟨#[226, 140, 138]⟩, .string ⟨#[226, 136, 167]⟩, .string ⟨#[226, 136, 168]⟩, .string ⟨#[61]⟩, .string ⟨#[226, 137, 160]⟩] 9)).heap.size (w1.alloc (.cells #[.string ⟨#[43]⟩, .string ⟨#[195, 151]⟩, .string ⟨#[226, 140, 136]⟩, .string ⟨#[226, 140, 138]⟩, .string ⟨#[226, 136, 167]⟩, .string ⟨#[226, 136, 168]⟩, .string ⟨#[61]⟩, .string ⟨#[226, 137, 160]⟩] 9)) W → W.cell? ⟨w1.heap.size, 0, none⟩ = some (.string ⟨#[43]⟩)) := Lib.hid (fun W h => (h.cell (p := ⟨w1.heap.size, 0, none⟩) (by simp)).trans (by simp))
  have HB0 := Lib.hid hb0
  clear hb0
  go_wp2_with fail
  refine (H1.out _ HGS.out).mono ?_
  rintro e1 w2 ⟨rfl, hb⟩
  have HG2 := Lib.hid (HGS.out.below hb)
  have HB2 := Lib.hid hb
  have c2 := HK.out w2 hb
  clear hb
  go_wp2_with fail
  refine (H2.out _ HG2.out).mono ?_
  rintro e1 w3 ⟨rfl, hb⟩
  have HG3 := Lib.hid (HG2.out.below hb)
  have HB3 := Lib.hid (HB2.out.trans (hb.mono HB2.out.size))
  have c3 := HK.out w3 HB3.out
  clear hb
  go_wp2_with fail
  refine (H3.out _).mono ?_
  rintro e1 w4 ⟨rfl, rfl⟩
  go_wp2_with fail
  refine (H4.out _ HG3.out).mono ?_
  rintro e1 w4 ⟨rfl, hb⟩
  have HB4 := Lib.hid (HB3.out.trans (hb.mono HB3.out.size))
  clear hb
  go_wp2
  all_goals go_ret
  all_goals exact ⟨rfl, HB1.out.trans ((HB0.out.trans (HB4.out.mono HB0.out.size)).mono HB1.out.size)⟩
set_option maxRecDepth 100000 in
set_option maxHeartbeats 4000000 in
theorem turn_1 (w : World) (hG : NG w) (x y : Int) (hx : In x) (hy : In y) : Calls Tryd.prog 7 #[.int .i64 1, .int .i64 x, .int .i64 y] w fun e w' => e = .returned (.bool true) ∧ Below w.heap.size w w' := by
  have HG := Lib.hid hG
  have HS := Lib.hid (fun w h => shown_c w h)
  clear hG
  obtain ⟨⟨a, e⟩, h1⟩ : ∃ N : Int × Int, dyN 2 x y = N := ⟨_, rfl⟩
  have h2 : dyN 2 y x = (a, e) := (dyN_swap 2 (by decide) x y).trans h1
  have h4 : dyN 2 1 y = (y, 0) := (by show ovr (1 * y) = _; rw [Int.one_mul]; exact if_pos hy)
  have H1 := Lib.hid (fun w h => dy_at 2 ⟨#[195, 151]⟩ rfl x y hx hy a e h1 w h)
  have H2 := Lib.hid (fun w h => dy_at 2 ⟨#[195, 151]⟩ rfl y x hy hx a e h2 w h)
  have H4 := Lib.hid (fun w h => dy_at 2 ⟨#[195, 151]⟩ rfl 1 y (by decide) hy y 0 h4 w h)
  have H3 : Hid (∀ w, Calls Tryd.prog 15 #[.string ⟨#[195, 151]⟩] w fun v w' => v = .returned (.tuple #[.int .i64 1, .bool true]) ∧ w = w') := Lib.hid (fun w => unit_c ⟨#[195, 151]⟩ w)
  clear h1 h2 h4
  go_enter Tryd.func7, Tryd.ntmps7
  go_wp2_with fail
  refine (HS.out _ HG.out).mono ?_
  rintro e1 w1 ⟨rfl, hb⟩
  have HG1 := Lib.hid (HG.out.below hb)
  have HB1 := Lib.hid hb
  clear hb
  have hb0 : Below w1.heap.size w1 (w1.alloc (.cells #[.string ⟨#[43]⟩, .string ⟨#[195, 151]⟩, .string ⟨#[226, 140, 136]⟩, .string ⟨#[226, 140, 138]⟩, .string ⟨#[226, 136, 167]⟩, .string ⟨#[226, 136, 168]⟩, .string ⟨#[61]⟩, .string ⟨#[226, 137, 160]⟩] 9)) := (Below.refl _ _).alloc (Nat.le_refl _) _
  have HGS := Lib.hid (HG1.out.below hb0)
  have HK : Hid (∀ W, Below (w1.alloc (.cells #[.string ⟨#[43]⟩, .string ⟨#[195, 151]⟩, .string ⟨#[226, 140, 136]⟩, .string ⟨#[226, 140, 138]⟩, .string ⟨#[226, 136, 167]⟩, .string ⟨#[226, 136, 168]⟩, .string ⟨#[61]⟩, .string ⟨#[226, 137, 160]⟩] 9)).heap.size (w1.alloc (.cells #[.string ⟨#[43]⟩, .string ⟨#[195, 151]⟩, .string ⟨#[226, 140, 136]⟩, .string ⟨#[226, 140, 138]⟩, .string ⟨#[226, 136, 167]⟩, .string ⟨#[226, 136, 168]⟩, .string ⟨#[61]⟩, .string ⟨#[226, 137, 160]⟩] 9)) W → W.cell? ⟨w1.heap.size, 1, none⟩ = some (.string ⟨#[195, 151]⟩)) := Lib.hid (fun W h => (h.cell (p := ⟨w1.heap.size, 1, none⟩) (by simp)).trans (by simp))
  have HB0 := Lib.hid hb0
  clear hb0
  go_wp2_with fail
  refine (H1.out _ HGS.out).mono ?_
  rintro e1 w2 ⟨rfl, hb⟩
  have HG2 := Lib.hid (HGS.out.below hb)
  have HB2 := Lib.hid hb
  have c2 := HK.out w2 hb
  clear hb
  go_wp2_with fail
  refine (H2.out _ HG2.out).mono ?_
  rintro e1 w3 ⟨rfl, hb⟩
  have HG3 := Lib.hid (HG2.out.below hb)
  have HB3 := Lib.hid (HB2.out.trans (hb.mono HB2.out.size))
  have c3 := HK.out w3 HB3.out
  clear hb
  go_wp2_with fail
  refine (H3.out _).mono ?_
  rintro e1 w4 ⟨rfl, rfl⟩
  go_wp2_with fail
  refine (H4.out _ HG3.out).mono ?_
  rintro e1 w4 ⟨rfl, hb⟩
  have HB4 := Lib.hid (HB3.out.trans (hb.mono HB3.out.size))
  clear hb
  go_wp2
  all_goals go_ret
  all_goals exact ⟨rfl, HB1.out.trans ((HB0.out.trans (HB4.out.mono HB0.out.size)).mono HB1.out.size)⟩
set_option maxRecDepth 100000 in
set_option maxHeartbeats 4000000 in
theorem turn_2 (w : World) (hG : NG w) (x y : Int) (hx : In x) (hy : In y) : Calls Tryd.prog 7 #[.int .i64 2, .int .i64 x, .int .i64 y] w fun e w' => e = .returned (.bool true) ∧ Below w.heap.size w w' := by
  have HG := Lib.hid hG
  have HS := Lib.hid (fun w h => shown_c w h)
  clear hG
  obtain ⟨⟨a, e⟩, h1⟩ : ∃ N : Int × Int, dyN 4 x y = N := ⟨_, rfl⟩
  have h2 : dyN 4 y x = (a, e) := (dyN_swap 4 (by decide) x y).trans h1
  obtain ⟨⟨c, g⟩, h4⟩ : ∃ N : Int × Int, dyN 4 0 y = N := ⟨_, rfl⟩
  have H1 := Lib.hid (fun w h => dy_at 4 ⟨#[226, 140, 136]⟩ rfl x y hx hy a e h1 w h)
  have H2 := Lib.hid (fun w h => dy_at 4 ⟨#[226, 140, 136]⟩ rfl y x hy hx a e h2 w h)
  have H4 := Lib.hid (fun w h => dy_at 4 ⟨#[226, 140, 136]⟩ rfl 0 y (by decide) hy c g h4 w h)
  have H3 : Hid (∀ w, Calls Tryd.prog 15 #[.string ⟨#[226, 140, 136]⟩] w fun v w' => v = .returned (.tuple #[.int .i64 0, .bool false]) ∧ w = w') := Lib.hid (fun w => unit_c ⟨#[226, 140, 136]⟩ w)
  clear h1 h2 h4
  go_enter Tryd.func7, Tryd.ntmps7
  go_wp2_with fail
  refine (HS.out _ HG.out).mono ?_
  rintro e1 w1 ⟨rfl, hb⟩
  have HG1 := Lib.hid (HG.out.below hb)
  have HB1 := Lib.hid hb
  clear hb
  have hb0 : Below w1.heap.size w1 (w1.alloc (.cells #[.string ⟨#[43]⟩, .string ⟨#[195, 151]⟩, .string ⟨#[226, 140, 136]⟩, .string ⟨#[226, 140, 138]⟩, .string ⟨#[226, 136, 167]⟩, .string ⟨#[226, 136, 168]⟩, .string ⟨#[61]⟩, .string ⟨#[226, 137, 160]⟩] 9)) := (Below.refl _ _).alloc (Nat.le_refl _) _
  have HGS := Lib.hid (HG1.out.below hb0)
  have HK : Hid (∀ W, Below (w1.alloc (.cells #[.string ⟨#[43]⟩, .string ⟨#[195, 151]⟩, .string ⟨#[226, 140, 136]⟩, .string ⟨#[226, 140, 138]⟩, .string ⟨#[226, 136, 167]⟩, .string ⟨#[226, 136, 168]⟩, .string ⟨#[61]⟩, .string ⟨#[226, 137, 160]⟩] 9)).heap.size (w1.alloc (.cells #[.string ⟨#[43]⟩, .string ⟨#[195, 151]⟩, .string ⟨#[226, 140, 136]⟩, .string ⟨#[226, 140, 138]⟩, .string ⟨#[226, 136, 167]⟩, .string ⟨#[226, 136, 168]⟩, .string ⟨#[61]⟩, .string ⟨#[226, 137, 160]⟩] 9)) W → W.cell? ⟨w1.heap.size, 2, none⟩ = some (.string ⟨#[226, 140, 136]⟩)) := Lib.hid (fun W h => (h.cell (p := ⟨w1.heap.size, 2, none⟩) (by simp)).trans (by simp))
  have HB0 := Lib.hid hb0
  clear hb0
  go_wp2_with fail
  refine (H1.out _ HGS.out).mono ?_
  rintro e1 w2 ⟨rfl, hb⟩
  have HG2 := Lib.hid (HGS.out.below hb)
  have HB2 := Lib.hid hb
  have c2 := HK.out w2 hb
  clear hb
  go_wp2_with fail
  refine (H2.out _ HG2.out).mono ?_
  rintro e1 w3 ⟨rfl, hb⟩
  have HG3 := Lib.hid (HG2.out.below hb)
  have HB3 := Lib.hid (HB2.out.trans (hb.mono HB2.out.size))
  have c3 := HK.out w3 HB3.out
  clear hb
  go_wp2_with fail
  refine (H3.out _).mono ?_
  rintro e1 w4 ⟨rfl, rfl⟩
  go_wp2_with fail
  refine (H4.out _ HG3.out).mono ?_
  rintro e1 w4 ⟨rfl, hb⟩
  have HB4 := Lib.hid (HB3.out.trans (hb.mono HB3.out.size))
  clear hb
  go_wp2
  all_goals go_ret
  all_goals exact ⟨rfl, HB1.out.trans ((HB0.out.trans (HB4.out.mono HB0.out.size)).mono HB1.out.size)⟩
set_option maxRecDepth 100000 in
set_option maxHeartbeats 4000000 in
theorem turn_3 (w : World) (hG : NG w) (x y : Int) (hx : In x) (hy : In y) : Calls Tryd.prog 7 #[.int .i64 3, .int .i64 x, .int .i64 y] w fun e w' => e = .returned (.bool true) ∧ Below w.heap.size w w' := by
  have HG := Lib.hid hG
  have HS := Lib.hid (fun w h => shown_c w h)
  clear hG
  obtain ⟨⟨a, e⟩, h1⟩ : ∃ N : Int × Int, dyN 5 x y = N := ⟨_, rfl⟩
  have h2 : dyN 5 y x = (a, e) := (dyN_swap 5 (by decide) x y).trans h1
  obtain ⟨⟨c, g⟩, h4⟩ : ∃ N : Int × Int, dyN 5 0 y = N := ⟨_, rfl⟩
  have H1 := Lib.hid (fun w h => dy_at 5 ⟨#[226, 140, 138]⟩ rfl x y hx hy a e h1 w h)
  have H2 := Lib.hid (fun w h => dy_at 5 ⟨#[226, 140, 138]⟩ rfl y x hy hx a e h2 w h)
  have H4 := Lib.hid (fun w h => dy_at 5 ⟨#[226, 140, 138]⟩ rfl 0 y (by decide) hy c g h4 w h)
  have H3 : Hid (∀ w, Calls Tryd.prog 15 #[.string ⟨#[226, 140, 138]⟩] w fun v w' => v = .returned (.tuple #[.int .i64 0, .bool false]) ∧ w = w') := Lib.hid (fun w => unit_c ⟨#[226, 140, 138]⟩ w)
  clear h1 h2 h4
  go_enter Tryd.func7, Tryd.ntmps7
  go_wp2_with fail
  refine (HS.out _ HG.out).mono ?_
  rintro e1 w1 ⟨rfl, hb⟩
  have HG1 := Lib.hid (HG.out.below hb)
  have HB1 := Lib.hid hb
  clear hb
  have hb0 : Below w1.heap.size w1 (w1.alloc (.cells #[.string ⟨#[43]⟩, .string ⟨#[195, 151]⟩, .string ⟨#[226, 140, 136]⟩, .string ⟨#[226, 140, 138]⟩, .string ⟨#[226, 136, 167]⟩, .string ⟨#[226, 136, 168]⟩, .string ⟨#[61]⟩, .string ⟨#[226, 137, 160]⟩] 9)) := (Below.refl _ _).alloc (Nat.le_refl _) _
  have HGS := Lib.hid (HG1.out.below hb0)
  have HK : Hid (∀ W, Below (w1.alloc (.cells #[.string ⟨#[43]⟩, .string ⟨#[195, 151]⟩, .string ⟨#[226, 140, 136]⟩, .string ⟨#[226, 140, 138]⟩, .string ⟨#[226, 136, 167]⟩, .string ⟨#[226, 136, 168]⟩, .string ⟨#[61]⟩, .string ⟨#[226, 137, 160]⟩] 9)).heap.size (w1.alloc (.cells #[.string ⟨#[43]⟩, .string ⟨#[195, 151]⟩, .string ⟨#[226, 140, 136]⟩, .string ⟨#[226, 140, 138]⟩, .string ⟨#[226, 136, 167]⟩, .string ⟨#[226, 136, 168]⟩, .string ⟨#[61]⟩, .string ⟨#[226, 137, 160]⟩] 9)) W → W.cell? ⟨w1.heap.size, 3, none⟩ = some (.string ⟨#[226, 140, 138]⟩)) := Lib.hid (fun W h => (h.cell (p := ⟨w1.heap.size, 3, none⟩) (by simp)).trans (by simp))
  have HB0 := Lib.hid hb0
  clear hb0
  go_wp2_with fail
  refine (H1.out _ HGS.out).mono ?_
  rintro e1 w2 ⟨rfl, hb⟩
  have HG2 := Lib.hid (HGS.out.below hb)
  have HB2 := Lib.hid hb
  have c2 := HK.out w2 hb
  clear hb
  go_wp2_with fail
  refine (H2.out _ HG2.out).mono ?_
  rintro e1 w3 ⟨rfl, hb⟩
  have HG3 := Lib.hid (HG2.out.below hb)
  have HB3 := Lib.hid (HB2.out.trans (hb.mono HB2.out.size))
  have c3 := HK.out w3 HB3.out
  clear hb
  go_wp2_with fail
  refine (H3.out _).mono ?_
  rintro e1 w4 ⟨rfl, rfl⟩
  go_wp2_with fail
  refine (H4.out _ HG3.out).mono ?_
  rintro e1 w4 ⟨rfl, hb⟩
  have HB4 := Lib.hid (HB3.out.trans (hb.mono HB3.out.size))
  clear hb
  go_wp2
  all_goals go_ret
  all_goals exact ⟨rfl, HB1.out.trans ((HB0.out.trans (HB4.out.mono HB0.out.size)).mono HB1.out.size)⟩
set_option maxRecDepth 100000 in
set_option maxHeartbeats 4000000 in
theorem turn_4 (w : World) (hG : NG w) (x y : Int) (hx : In x) (hy : In y) (hb : isB y = true) : Calls Tryd.prog 7 #[.int .i64 4, .int .i64 x, .int .i64 y] w fun e w' => e = .returned (.bool true) ∧ Below w.heap.size w w' := by
  have HG := Lib.hid hG
  have HS := Lib.hid (fun w h => shown_c w h)
  clear hG
  obtain ⟨⟨a, e⟩, h1⟩ : ∃ N : Int × Int, dyN 13 x y = N := ⟨_, rfl⟩
  have h2 : dyN 13 y x = (a, e) := (dyN_swap 13 (by decide) x y).trans h1
  have h4 : dyN 13 1 y = (y, 0) := (by rcases isB_cases hb with rfl | rfl <;> rfl)
  have H1 := Lib.hid (fun w h => dy_at 13 ⟨#[226, 136, 167]⟩ rfl x y hx hy a e h1 w h)
  have H2 := Lib.hid (fun w h => dy_at 13 ⟨#[226, 136, 167]⟩ rfl y x hy hx a e h2 w h)
  have H4 := Lib.hid (fun w h => dy_at 13 ⟨#[226, 136, 167]⟩ rfl 1 y (by decide) hy y 0 h4 w h)
  have H3 : Hid (∀ w, Calls Tryd.prog 15 #[.string ⟨#[226, 136, 167]⟩] w fun v w' => v = .returned (.tuple #[.int .i64 1, .bool true]) ∧ w = w') := Lib.hid (fun w => unit_c ⟨#[226, 136, 167]⟩ w)
  clear h1 h2 h4 hb
  go_enter Tryd.func7, Tryd.ntmps7
  go_wp2_with fail
  refine (HS.out _ HG.out).mono ?_
  rintro e1 w1 ⟨rfl, hb⟩
  have HG1 := Lib.hid (HG.out.below hb)
  have HB1 := Lib.hid hb
  clear hb
  have hb0 : Below w1.heap.size w1 (w1.alloc (.cells #[.string ⟨#[43]⟩, .string ⟨#[195, 151]⟩, .string ⟨#[226, 140, 136]⟩, .string ⟨#[226, 140, 138]⟩, .string ⟨#[226, 136, 167]⟩, .string ⟨#[226, 136, 168]⟩, .string ⟨#[61]⟩, .string ⟨#[226, 137, 160]⟩] 9)) := (Below.refl _ _).alloc (Nat.le_refl _) _
  have HGS := Lib.hid (HG1.out.below hb0)
  have HK : Hid (∀ W, Below (w1.alloc (.cells #[.string ⟨#[43]⟩, .string ⟨#[195, 151]⟩, .string ⟨#[226, 140, 136]⟩, .string ⟨#[226, 140, 138]⟩, .string ⟨#[226, 136, 167]⟩, .string ⟨#[226, 136, 168]⟩, .string ⟨#[61]⟩, .string ⟨#[226, 137, 160]⟩] 9)).heap.size (w1.alloc (.cells #[.string ⟨#[43]⟩, .string ⟨#[195, 151]⟩, .string ⟨#[226, 140, 136]⟩, .string ⟨#[226, 140, 138]⟩, .string ⟨#[226, 136, 167]⟩, .string ⟨#[226, 136, 168]⟩, .string ⟨#[61]⟩, .string ⟨#[226, 137, 160]⟩] 9)) W → W.cell? ⟨w1.heap.size, 4, none⟩ = some (.string ⟨#[226, 136, 167]⟩)) := Lib.hid (fun W h => (h.cell (p := ⟨w1.heap.size, 4, none⟩) (by simp)).trans (by simp))
  have HB0 := Lib.hid hb0
  clear hb0
  go_wp2_with fail
  refine (H1.out _ HGS.out).mono ?_
  rintro e1 w2 ⟨rfl, hb⟩
  have HG2 := Lib.hid (HGS.out.below hb)
  have HB2 := Lib.hid hb
  have c2 := HK.out w2 hb
  clear hb
  go_wp2_with fail
  refine (H2.out _ HG2.out).mono ?_
  rintro e1 w3 ⟨rfl, hb⟩
  have HG3 := Lib.hid (HG2.out.below hb)
  have HB3 := Lib.hid (HB2.out.trans (hb.mono HB2.out.size))
  have c3 := HK.out w3 HB3.out
  clear hb
  go_wp2_with fail
  refine (H3.out _).mono ?_
  rintro e1 w4 ⟨rfl, rfl⟩
  go_wp2_with fail
  refine (H4.out _ HG3.out).mono ?_
  rintro e1 w4 ⟨rfl, hb⟩
  have HB4 := Lib.hid (HB3.out.trans (hb.mono HB3.out.size))
  clear hb
  go_wp2
  all_goals go_ret
  all_goals exact ⟨rfl, HB1.out.trans ((HB0.out.trans (HB4.out.mono HB0.out.size)).mono HB1.out.size)⟩
set_option maxRecDepth 100000 in
set_option maxHeartbeats 4000000 in
theorem turn_4n (w : World) (hG : NG w) (x y : Int) (hx : In x) (hy : In y) (hb : isB y = false) (t1 : (y != 0) = true) (t2 : (y != 1) = true) : Calls Tryd.prog 7 #[.int .i64 4, .int .i64 x, .int .i64 y] w fun e w' => e = .returned (.bool true) ∧ Below w.heap.size w w' := by
  have HG := Lib.hid hG
  have HS := Lib.hid (fun w h => shown_c w h)
  clear hG
  obtain ⟨⟨a, e⟩, h1⟩ : ∃ N : Int × Int, dyN 13 x y = N := ⟨_, rfl⟩
  have h2 : dyN 13 y x = (a, e) := (dyN_swap 13 (by decide) x y).trans h1
  have h4 : dyN 13 1 y = (0, 102) := (by show bitsR _ y _ = _; unfold bitsR; rw [hb, Bool.and_false]; rfl)
  have H1 := Lib.hid (fun w h => dy_at 13 ⟨#[226, 136, 167]⟩ rfl x y hx hy a e h1 w h)
  have H2 := Lib.hid (fun w h => dy_at 13 ⟨#[226, 136, 167]⟩ rfl y x hy hx a e h2 w h)
  have H4 := Lib.hid (fun w h => dy_at 13 ⟨#[226, 136, 167]⟩ rfl 1 y (by decide) hy 0 102 h4 w h)
  have H3 : Hid (∀ w, Calls Tryd.prog 15 #[.string ⟨#[226, 136, 167]⟩] w fun v w' => v = .returned (.tuple #[.int .i64 1, .bool true]) ∧ w = w') := Lib.hid (fun w => unit_c ⟨#[226, 136, 167]⟩ w)
  clear h1 h2 h4 hb
  go_enter Tryd.func7, Tryd.ntmps7
  go_wp2_with fail
  refine (HS.out _ HG.out).mono ?_
  rintro e1 w1 ⟨rfl, hb⟩
  have HG1 := Lib.hid (HG.out.below hb)
  have HB1 := Lib.hid hb
  clear hb
  have hb0 : Below w1.heap.size w1 (w1.alloc (.cells #[.string ⟨#[43]⟩, .string ⟨#[195, 151]⟩, .string ⟨#[226, 140, 136]⟩, .string ⟨#[226, 140, 138]⟩, .string ⟨#[226, 136, 167]⟩, .string ⟨#[226, 136, 168]⟩, .string ⟨#[61]⟩, .string ⟨#[226, 137, 160]⟩] 9)) := (Below.refl _ _).alloc (Nat.le_refl _) _
  have HGS := Lib.hid (HG1.out.below hb0)
  have HK : Hid (∀ W, Below (w1.alloc (.cells #[.string ⟨#[43]⟩, .string ⟨#[195, 151]⟩, .string ⟨#[226, 140, 136]⟩, .string ⟨#[226, 140, 138]⟩, .string ⟨#[226, 136, 167]⟩, .string ⟨#[226, 136, 168]⟩, .string ⟨#[61]⟩, .string ⟨#[226, 137, 160]⟩] 9)).heap.size (w1.alloc (.cells #[.string ⟨#[43]⟩, .string ⟨#[195, 151]⟩, .string ⟨#[226, 140, 136]⟩, .string ⟨#[226, 140, 138]⟩, .string ⟨#[226, 136, 167]⟩, .string ⟨#[226, 136, 168]⟩, .string ⟨#[61]⟩, .string ⟨#[226, 137, 160]⟩] 9)) W → W.cell? ⟨w1.heap.size, 4, none⟩ = some (.string ⟨#[226, 136, 167]⟩)) := Lib.hid (fun W h => (h.cell (p := ⟨w1.heap.size, 4, none⟩) (by simp)).trans (by simp))
  have HB0 := Lib.hid hb0
  clear hb0
  go_wp2_with fail
  refine (H1.out _ HGS.out).mono ?_
  rintro e1 w2 ⟨rfl, hb⟩
  have HG2 := Lib.hid (HGS.out.below hb)
  have HB2 := Lib.hid hb
  have c2 := HK.out w2 hb
  clear hb
  go_wp2_with fail
  refine (H2.out _ HG2.out).mono ?_
  rintro e1 w3 ⟨rfl, hb⟩
  have HG3 := Lib.hid (HG2.out.below hb)
  have HB3 := Lib.hid (HB2.out.trans (hb.mono HB2.out.size))
  have c3 := HK.out w3 HB3.out
  clear hb
  go_wp2_with fail
  refine (H3.out _).mono ?_
  rintro e1 w4 ⟨rfl, rfl⟩
  go_wp2_with fail
  refine (H4.out _ HG3.out).mono ?_
  rintro e1 w4 ⟨rfl, hb⟩
  have HB4 := Lib.hid (HB3.out.trans (hb.mono HB3.out.size))
  clear hb
  go_wp2
  all_goals go_ret
  all_goals exact ⟨rfl, HB1.out.trans ((HB0.out.trans (HB4.out.mono HB0.out.size)).mono HB1.out.size)⟩
set_option maxRecDepth 100000 in
set_option maxHeartbeats 4000000 in
theorem turn_5 (w : World) (hG : NG w) (x y : Int) (hx : In x) (hy : In y) (hb : isB y = true) : Calls Tryd.prog 7 #[.int .i64 5, .int .i64 x, .int .i64 y] w fun e w' => e = .returned (.bool true) ∧ Below w.heap.size w w' := by
  have HG := Lib.hid hG
  have HS := Lib.hid (fun w h => shown_c w h)
  clear hG
  obtain ⟨⟨a, e⟩, h1⟩ : ∃ N : Int × Int, dyN 14 x y = N := ⟨_, rfl⟩
  have h2 : dyN 14 y x = (a, e) := (dyN_swap 14 (by decide) x y).trans h1
  have h4 : dyN 14 0 y = (y, 0) := (by rcases isB_cases hb with rfl | rfl <;> rfl)
  have H1 := Lib.hid (fun w h => dy_at 14 ⟨#[226, 136, 168]⟩ rfl x y hx hy a e h1 w h)
  have H2 := Lib.hid (fun w h => dy_at 14 ⟨#[226, 136, 168]⟩ rfl y x hy hx a e h2 w h)
  have H4 := Lib.hid (fun w h => dy_at 14 ⟨#[226, 136, 168]⟩ rfl 0 y (by decide) hy y 0 h4 w h)
  have H3 : Hid (∀ w, Calls Tryd.prog 15 #[.string ⟨#[226, 136, 168]⟩] w fun v w' => v = .returned (.tuple #[.int .i64 0, .bool true]) ∧ w = w') := Lib.hid (fun w => unit_c ⟨#[226, 136, 168]⟩ w)
  clear h1 h2 h4 hb
  go_enter Tryd.func7, Tryd.ntmps7
  go_wp2_with fail
  refine (HS.out _ HG.out).mono ?_
  rintro e1 w1 ⟨rfl, hb⟩
  have HG1 := Lib.hid (HG.out.below hb)
  have HB1 := Lib.hid hb
  clear hb
  have hb0 : Below w1.heap.size w1 (w1.alloc (.cells #[.string ⟨#[43]⟩, .string ⟨#[195, 151]⟩, .string ⟨#[226, 140, 136]⟩, .string ⟨#[226, 140, 138]⟩, .string ⟨#[226, 136, 167]⟩, .string ⟨#[226, 136, 168]⟩, .string ⟨#[61]⟩, .string ⟨#[226, 137, 160]⟩] 9)) := (Below.refl _ _).alloc (Nat.le_refl _) _
  have HGS := Lib.hid (HG1.out.below hb0)
  have HK : Hid (∀ W, Below (w1.alloc (.cells #[.string ⟨#[43]⟩, .string ⟨#[195, 151]⟩, .string ⟨#[226, 140, 136]⟩, .string ⟨#[226, 140, 138]⟩, .string ⟨#[226, 136, 167]⟩, .string ⟨#[226, 136, 168]⟩, .string ⟨#[61]⟩, .string ⟨#[226, 137, 160]⟩] 9)).heap.size (w1.alloc (.cells #[.string ⟨#[43]⟩, .string ⟨#[195, 151]⟩, .string ⟨#[226, 140, 136]⟩, .string ⟨#[226, 140, 138]⟩, .string ⟨#[226, 136, 167]⟩, .string ⟨#[226, 136, 168]⟩, .string ⟨#[61]⟩, .string ⟨#[226, 137, 160]⟩] 9)) W → W.cell? ⟨w1.heap.size, 5, none⟩ = some (.string ⟨#[226, 136, 168]⟩)) := Lib.hid (fun W h => (h.cell (p := ⟨w1.heap.size, 5, none⟩) (by simp)).trans (by simp))
  have HB0 := Lib.hid hb0
  clear hb0
  go_wp2_with fail
  refine (H1.out _ HGS.out).mono ?_
  rintro e1 w2 ⟨rfl, hb⟩
  have HG2 := Lib.hid (HGS.out.below hb)
  have HB2 := Lib.hid hb
  have c2 := HK.out w2 hb
  clear hb
  go_wp2_with fail
  refine (H2.out _ HG2.out).mono ?_
  rintro e1 w3 ⟨rfl, hb⟩
  have HG3 := Lib.hid (HG2.out.below hb)
  have HB3 := Lib.hid (HB2.out.trans (hb.mono HB2.out.size))
  have c3 := HK.out w3 HB3.out
  clear hb
  go_wp2_with fail
  refine (H3.out _).mono ?_
  rintro e1 w4 ⟨rfl, rfl⟩
  go_wp2_with fail
  refine (H4.out _ HG3.out).mono ?_
  rintro e1 w4 ⟨rfl, hb⟩
  have HB4 := Lib.hid (HB3.out.trans (hb.mono HB3.out.size))
  clear hb
  go_wp2
  all_goals go_ret
  all_goals exact ⟨rfl, HB1.out.trans ((HB0.out.trans (HB4.out.mono HB0.out.size)).mono HB1.out.size)⟩
set_option maxRecDepth 100000 in
set_option maxHeartbeats 4000000 in
theorem turn_5n (w : World) (hG : NG w) (x y : Int) (hx : In x) (hy : In y) (hb : isB y = false) (t1 : (y != 0) = true) (t2 : (y != 1) = true) : Calls Tryd.prog 7 #[.int .i64 5, .int .i64 x, .int .i64 y] w fun e w' => e = .returned (.bool true) ∧ Below w.heap.size w w' := by
  have HG := Lib.hid hG
  have HS := Lib.hid (fun w h => shown_c w h)
  clear hG
  obtain ⟨⟨a, e⟩, h1⟩ : ∃ N : Int × Int, dyN 14 x y = N := ⟨_, rfl⟩
  have h2 : dyN 14 y x = (a, e) := (dyN_swap 14 (by decide) x y).trans h1
  have h4 : dyN 14 0 y = (0, 102) := (by show bitsR _ y _ = _; unfold bitsR; rw [hb, Bool.and_false]; rfl)
  have H1 := Lib.hid (fun w h => dy_at 14 ⟨#[226, 136, 168]⟩ rfl x y hx hy a e h1 w h)
  have H2 := Lib.hid (fun w h => dy_at 14 ⟨#[226, 136, 168]⟩ rfl y x hy hx a e h2 w h)
  have H4 := Lib.hid (fun w h => dy_at 14 ⟨#[226, 136, 168]⟩ rfl 0 y (by decide) hy 0 102 h4 w h)
  have H3 : Hid (∀ w, Calls Tryd.prog 15 #[.string ⟨#[226, 136, 168]⟩] w fun v w' => v = .returned (.tuple #[.int .i64 0, .bool true]) ∧ w = w') := Lib.hid (fun w => unit_c ⟨#[226, 136, 168]⟩ w)
  clear h1 h2 h4 hb
  go_enter Tryd.func7, Tryd.ntmps7
  go_wp2_with fail
  refine (HS.out _ HG.out).mono ?_
  rintro e1 w1 ⟨rfl, hb⟩
  have HG1 := Lib.hid (HG.out.below hb)
  have HB1 := Lib.hid hb
  clear hb
  have hb0 : Below w1.heap.size w1 (w1.alloc (.cells #[.string ⟨#[43]⟩, .string ⟨#[195, 151]⟩, .string ⟨#[226, 140, 136]⟩, .string ⟨#[226, 140, 138]⟩, .string ⟨#[226, 136, 167]⟩, .string ⟨#[226, 136, 168]⟩, .string ⟨#[61]⟩, .string ⟨#[226, 137, 160]⟩] 9)) := (Below.refl _ _).alloc (Nat.le_refl _) _
  have HGS := Lib.hid (HG1.out.below hb0)
  have HK : Hid (∀ W, Below (w1.alloc (.cells #[.string ⟨#[43]⟩, .string ⟨#[195, 151]⟩, .string ⟨#[226, 140, 136]⟩, .string ⟨#[226, 140, 138]⟩, .string ⟨#[226, 136, 167]⟩, .string ⟨#[226, 136, 168]⟩, .string ⟨#[61]⟩, .string ⟨#[226, 137, 160]⟩] 9)).heap.size (w1.alloc (.cells #[.string ⟨#[43]⟩, .string ⟨#[195, 151]⟩, .string ⟨#[226, 140, 136]⟩, .string ⟨#[226, 140, 138]⟩, .string ⟨#[226, 136, 167]⟩, .string ⟨#[226, 136, 168]⟩, .string ⟨#[61]⟩, .string ⟨#[226, 137, 160]⟩] 9)) W → W.cell? ⟨w1.heap.size, 5, none⟩ = some (.string ⟨#[226, 136, 168]⟩)) := Lib.hid (fun W h => (h.cell (p := ⟨w1.heap.size, 5, none⟩) (by simp)).trans (by simp))
  have HB0 := Lib.hid hb0
  clear hb0
  go_wp2_with fail
  refine (H1.out _ HGS.out).mono ?_
  rintro e1 w2 ⟨rfl, hb⟩
  have HG2 := Lib.hid (HGS.out.below hb)
  have HB2 := Lib.hid hb
  have c2 := HK.out w2 hb
  clear hb
  go_wp2_with fail
  refine (H2.out _ HG2.out).mono ?_
  rintro e1 w3 ⟨rfl, hb⟩
  have HG3 := Lib.hid (HG2.out.below hb)
  have HB3 := Lib.hid (HB2.out.trans (hb.mono HB2.out.size))
  have c3 := HK.out w3 HB3.out
  clear hb
  go_wp2_with fail
  refine (H3.out _).mono ?_
  rintro e1 w4 ⟨rfl, rfl⟩
  go_wp2_with fail
  refine (H4.out _ HG3.out).mono ?_
  rintro e1 w4 ⟨rfl, hb⟩
  have HB4 := Lib.hid (HB3.out.trans (hb.mono HB3.out.size))
  clear hb
  go_wp2
  all_goals go_ret
  all_goals exact ⟨rfl, HB1.out.trans ((HB0.out.trans (HB4.out.mono HB0.out.size)).mono HB1.out.size)⟩
set_option maxRecDepth 100000 in
set_option maxHeartbeats 4000000 in
theorem turn_6 (w : World) (hG : NG w) (x y : Int) (hx : In x) (hy : In y) : Calls Tryd.prog 7 #[.int .i64 6, .int .i64 x, .int .i64 y] w fun e w' => e = .returned (.bool true) ∧ Below w.heap.size w w' := by
  have HG := Lib.hid hG
  have HS := Lib.hid (fun w h => shown_c w h)
  clear hG
  obtain ⟨⟨a, e⟩, h1⟩ : ∃ N : Int × Int, dyN 7 x y = N := ⟨_, rfl⟩
  have h2 : dyN 7 y x = (a, e) := (dyN_swap 7 (by decide) x y).trans h1
  obtain ⟨⟨c, g⟩, h4⟩ : ∃ N : Int × Int, dyN 7 0 y = N := ⟨_, rfl⟩
  have H1 := Lib.hid (fun w h => dy_at 7 ⟨#[61]⟩ rfl x y hx hy a e h1 w h)
  have H2 := Lib.hid (fun w h => dy_at 7 ⟨#[61]⟩ rfl y x hy hx a e h2 w h)
  have H4 := Lib.hid (fun w h => dy_at 7 ⟨#[61]⟩ rfl 0 y (by decide) hy c g h4 w h)
  have H3 : Hid (∀ w, Calls Tryd.prog 15 #[.string ⟨#[61]⟩] w fun v w' => v = .returned (.tuple #[.int .i64 0, .bool false]) ∧ w = w') := Lib.hid (fun w => unit_c ⟨#[61]⟩ w)
  clear h1 h2 h4
  go_enter Tryd.func7, Tryd.ntmps7
  go_wp2_with fail
  refine (HS.out _ HG.out).mono ?_
  rintro e1 w1 ⟨rfl, hb⟩
  have HG1 := Lib.hid (HG.out.below hb)
  have HB1 := Lib.hid hb
  clear hb
  have hb0 : Below w1.heap.size w1 (w1.alloc (.cells #[.string ⟨#[43]⟩, .string ⟨#[195, 151]⟩, .string ⟨#[226, 140, 136]⟩, .string ⟨#[226, 140, 138]⟩, .string ⟨#[226, 136, 167]⟩, .string ⟨#[226, 136, 168]⟩, .string ⟨#[61]⟩, .string ⟨#[226, 137, 160]⟩] 9)) := (Below.refl _ _).alloc (Nat.le_refl _) _
  have HGS := Lib.hid (HG1.out.below hb0)
  have HK : Hid (∀ W, Below (w1.alloc (.cells #[.string ⟨#[43]⟩, .string ⟨#[195, 151]⟩, .string ⟨#[226, 140, 136]⟩, .string ⟨#[226, 140, 138]⟩, .string ⟨#[226, 136, 167]⟩, .string ⟨#[226, 136, 168]⟩, .string ⟨#[61]⟩, .string ⟨#[226, 137, 160]⟩] 9)).heap.size (w1.alloc (.cells #[.string ⟨#[43]⟩, .string ⟨#[195, 151]⟩, .string ⟨#[226, 140, 136]⟩, .string ⟨#[226, 140, 138]⟩, .string ⟨#[226, 136, 167]⟩, .string ⟨#[226, 136, 168]⟩, .string ⟨#[61]⟩, .string ⟨#[226, 137, 160]⟩] 9)) W → W.cell? ⟨w1.heap.size, 6, none⟩ = some (.string ⟨#[61]⟩)) := Lib.hid (fun W h => (h.cell (p := ⟨w1.heap.size, 6, none⟩) (by simp)).trans (by simp))
  have HB0 := Lib.hid hb0
  clear hb0
  go_wp2_with fail
  refine (H1.out _ HGS.out).mono ?_
  rintro e1 w2 ⟨rfl, hb⟩
  have HG2 := Lib.hid (HGS.out.below hb)
  have HB2 := Lib.hid hb
  have c2 := HK.out w2 hb
  clear hb
  go_wp2_with fail
  refine (H2.out _ HG2.out).mono ?_
  rintro e1 w3 ⟨rfl, hb⟩
  have HG3 := Lib.hid (HG2.out.below hb)
  have HB3 := Lib.hid (HB2.out.trans (hb.mono HB2.out.size))
  have c3 := HK.out w3 HB3.out
  clear hb
  go_wp2_with fail
  refine (H3.out _).mono ?_
  rintro e1 w4 ⟨rfl, rfl⟩
  go_wp2_with fail
  refine (H4.out _ HG3.out).mono ?_
  rintro e1 w4 ⟨rfl, hb⟩
  have HB4 := Lib.hid (HB3.out.trans (hb.mono HB3.out.size))
  clear hb
  go_wp2
  all_goals go_ret
  all_goals exact ⟨rfl, HB1.out.trans ((HB0.out.trans (HB4.out.mono HB0.out.size)).mono HB1.out.size)⟩
set_option maxRecDepth 100000 in
set_option maxHeartbeats 4000000 in
theorem turn_7 (w : World) (hG : NG w) (x y : Int) (hx : In x) (hy : In y) : Calls Tryd.prog 7 #[.int .i64 7, .int .i64 x, .int .i64 y] w fun e w' => e = .returned (.bool true) ∧ Below w.heap.size w w' := by
  have HG := Lib.hid hG
  have HS := Lib.hid (fun w h => shown_c w h)
  clear hG
  obtain ⟨⟨a, e⟩, h1⟩ : ∃ N : Int × Int, dyN 8 x y = N := ⟨_, rfl⟩
  have h2 : dyN 8 y x = (a, e) := (dyN_swap 8 (by decide) x y).trans h1
  obtain ⟨⟨c, g⟩, h4⟩ : ∃ N : Int × Int, dyN 8 0 y = N := ⟨_, rfl⟩
  have H1 := Lib.hid (fun w h => dy_at 8 ⟨#[226, 137, 160]⟩ rfl x y hx hy a e h1 w h)
  have H2 := Lib.hid (fun w h => dy_at 8 ⟨#[226, 137, 160]⟩ rfl y x hy hx a e h2 w h)
  have H4 := Lib.hid (fun w h => dy_at 8 ⟨#[226, 137, 160]⟩ rfl 0 y (by decide) hy c g h4 w h)
  have H3 : Hid (∀ w, Calls Tryd.prog 15 #[.string ⟨#[226, 137, 160]⟩] w fun v w' => v = .returned (.tuple #[.int .i64 0, .bool false]) ∧ w = w') := Lib.hid (fun w => unit_c ⟨#[226, 137, 160]⟩ w)
  clear h1 h2 h4
  go_enter Tryd.func7, Tryd.ntmps7
  go_wp2_with fail
  refine (HS.out _ HG.out).mono ?_
  rintro e1 w1 ⟨rfl, hb⟩
  have HG1 := Lib.hid (HG.out.below hb)
  have HB1 := Lib.hid hb
  clear hb
  have hb0 : Below w1.heap.size w1 (w1.alloc (.cells #[.string ⟨#[43]⟩, .string ⟨#[195, 151]⟩, .string ⟨#[226, 140, 136]⟩, .string ⟨#[226, 140, 138]⟩, .string ⟨#[226, 136, 167]⟩, .string ⟨#[226, 136, 168]⟩, .string ⟨#[61]⟩, .string ⟨#[226, 137, 160]⟩] 9)) := (Below.refl _ _).alloc (Nat.le_refl _) _
  have HGS := Lib.hid (HG1.out.below hb0)
  have HK : Hid (∀ W, Below (w1.alloc (.cells #[.string ⟨#[43]⟩, .string ⟨#[195, 151]⟩, .string ⟨#[226, 140, 136]⟩, .string ⟨#[226, 140, 138]⟩, .string ⟨#[226, 136, 167]⟩, .string ⟨#[226, 136, 168]⟩, .string ⟨#[61]⟩, .string ⟨#[226, 137, 160]⟩] 9)).heap.size (w1.alloc (.cells #[.string ⟨#[43]⟩, .string ⟨#[195, 151]⟩, .string ⟨#[226, 140, 136]⟩, .string ⟨#[226, 140, 138]⟩, .string ⟨#[226, 136, 167]⟩, .string ⟨#[226, 136, 168]⟩, .string ⟨#[61]⟩, .string ⟨#[226, 137, 160]⟩] 9)) W → W.cell? ⟨w1.heap.size, 7, none⟩ = some (.string ⟨#[226, 137, 160]⟩)) := Lib.hid (fun W h => (h.cell (p := ⟨w1.heap.size, 7, none⟩) (by simp)).trans (by simp))
  have HB0 := Lib.hid hb0
  clear hb0
  go_wp2_with fail
  refine (H1.out _ HGS.out).mono ?_
  rintro e1 w2 ⟨rfl, hb⟩
  have HG2 := Lib.hid (HGS.out.below hb)
  have HB2 := Lib.hid hb
  have c2 := HK.out w2 hb
  clear hb
  go_wp2_with fail
  refine (H2.out _ HG2.out).mono ?_
  rintro e1 w3 ⟨rfl, hb⟩
  have HG3 := Lib.hid (HG2.out.below hb)
  have HB3 := Lib.hid (HB2.out.trans (hb.mono HB2.out.size))
  have c3 := HK.out w3 HB3.out
  clear hb
  go_wp2_with fail
  refine (H3.out _).mono ?_
  rintro e1 w4 ⟨rfl, rfl⟩
  go_wp2_with fail
  refine (H4.out _ HG3.out).mono ?_
  rintro e1 w4 ⟨rfl, hb⟩
  have HB4 := Lib.hid (HB3.out.trans (hb.mono HB3.out.size))
  clear hb
  go_wp2
  all_goals go_ret
  all_goals exact ⟨rfl, HB1.out.trans ((HB0.out.trans (HB4.out.mono HB0.out.size)).mono HB1.out.size)⟩
set_option maxRecDepth 100000 in
set_option maxHeartbeats 4000000 in
theorem turns_true (w : World) (hG : NG w) (i x y : Int) (hx : In x) (hy : In y) : Calls Tryd.prog 7 #[.int .i64 i, .int .i64 x, .int .i64 y] w fun e w' => e = .returned (.bool true) ∧ Below w.heap.size w w' := by
  have HG := Lib.hid hG
  have HS := Lib.hid (fun w h => shown_c w h)
  clear hG
  by_cases h0 : i < 0
  · have t0 : decide (i < 0) = true := by simp [h0]
    go_enter Tryd.func7, Tryd.ntmps7
    go_wp2_with fail
    refine (HS.out _ HG.out).mono ?_
    rintro e1 w1 ⟨rfl, hb⟩
    have HB1 := Lib.hid hb
    clear hb
    go_wp2
    go_ret
    exact ⟨rfl, HB1.out.alloc HB1.out.size _⟩
  · have t0 : decide (i < 0) = false := by simp; omega
    by_cases h8 : 8 ≤ i
    · have t8 : decide (8 ≤ i) = true := by simp [h8]
      go_enter Tryd.func7, Tryd.ntmps7
      go_wp2_with fail
      refine (HS.out _ HG.out).mono ?_
      rintro e1 w1 ⟨rfl, hb⟩
      have HB1 := Lib.hid hb
      clear hb
      go_wp2
      go_ret
      exact ⟨rfl, HB1.out.alloc HB1.out.size _⟩
    · rcases (by omega : i = 0 ∨ i = 1 ∨ i = 2 ∨ i = 3 ∨ i = 4 ∨ i = 5 ∨ i = 6 ∨ i = 7) with rfl | rfl | rfl | rfl | rfl | rfl | rfl | rfl
      · exact turn_0 w HG.out x y hx hy
      · exact turn_1 w HG.out x y hx hy
      · exact turn_2 w HG.out x y hx hy
      · exact turn_3 w HG.out x y hx hy
      · cases hb : isB y
        · have hn : y ≠ 0 ∧ y ≠ 1 := by simpa [isB] using hb
          exact turn_4n w HG.out x y hx hy hb (by simp [hn.1]) (by simp [hn.2])
        · exact turn_4 w HG.out x y hx hy hb
      · cases hb : isB y
        · have hn : y ≠ 0 ∧ y ≠ 1 := by simpa [isB] using hb
          exact turn_5n w HG.out x y hx hy hb (by simp [hn.1]) (by simp [hn.2])
        · exact turn_5 w HG.out x y hx hy hb
      · exact turn_6 w HG.out x y hx hy
      · exact turn_7 w HG.out x y hx hy
end Go.Proofs.YtjafngieohpdaaaDoor.Nu
