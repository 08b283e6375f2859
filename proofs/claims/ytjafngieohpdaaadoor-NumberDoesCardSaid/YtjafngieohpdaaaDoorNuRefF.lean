/- The plain functions of two (by wip/gen/mknuref.py). -/
import Derived.Test.YtjafngieohpdaaaDoorNuRefE
namespace Go.Proofs.YtjafngieohpdaaaDoor.Nu
open Go Go.RowKit Go.Shelf
attribute [local go_sem] Oper.semAt_some

theorem bits5 (x y : Int) : (decide (0 ≤ x) = false ∧ (isB x && isB y) = false) ∨ (decide (0 ≤ x) = true ∧ decide (x ≤ 1) = false ∧ (isB x && isB y) = false) ∨ (decide (0 ≤ x) = true ∧ decide (x ≤ 1) = true ∧ decide (0 ≤ y) = false ∧ (isB x && isB y) = false) ∨ (decide (0 ≤ x) = true ∧ decide (x ≤ 1) = true ∧ decide (0 ≤ y) = true ∧ decide (y ≤ 1) = false ∧ (isB x && isB y) = false) ∨ (decide (0 ≤ x) = true ∧ decide (x ≤ 1) = true ∧ decide (0 ≤ y) = true ∧ decide (y ≤ 1) = true ∧ (isB x && isB y) = true) := by
  simp only [isB, decide_eq_true_eq, decide_eq_false_iff_not, ← Bool.decide_and]
  omega
set_option maxRecDepth 100000 in
set_option maxHeartbeats 2000000 in
theorem rdy_0 (g : ByteArray) (hg : g = dyG 0) (x y : Int) (hx : In x) (hy : In y) (w : World) : Calls Tryd.prog 12 #[.string g, .int .i64 x, .int .i64 y] w fun e w' => e = .returned (numV (dyN 0 x y)) ∧ Below w.heap.size w w' := by
  have hi := rIsDy_c g w
  rw [hg, whichD_at (by decide), ← hg] at hi
  have HI : Hid (Calls Tryd.prog 18 #[.string g] w fun e w' => e = .returned (.bool true) ∧ Below w.heap.size w w') := Lib.hid hi
  have g0 : (g.toList == [43]) = true := str_eq (l := [43]) hg
  have HX := Lib.hid (fun w => radd_c x y hx hy w)
  clear hg hi
  rcases bits5 x y with ⟨b1, hb⟩ | ⟨b1, b2, hb⟩ | ⟨b1, b2, b3, hb⟩ | ⟨b1, b2, b3, b4, hb⟩ | ⟨b1, b2, b3, b4, hb⟩
  all_goals have HBB := Lib.hid hb
  all_goals clear hb
  all_goals go_enter Tryd.func12, Tryd.ntmps12
  all_goals go_wp2_with (first | (go_at_call 18; refine HI.out.mono ?_; rintro e w1 ⟨rfl, hb1⟩; have HB1 := Lib.hid hb1; clear hb1) | (go_at_call 24; refine (HX.out _).mono ?_; rintro e w2 ⟨rfl, rfl⟩))
  all_goals go_ret2
  all_goals exact ⟨rfl, HB1.out⟩
set_option maxRecDepth 100000 in
set_option maxHeartbeats 2000000 in
theorem rdy_1 (g : ByteArray) (hg : g = dyG 1) (x y : Int) (hx : In x) (hy : In y) (w : World) : Calls Tryd.prog 12 #[.string g, .int .i64 x, .int .i64 y] w fun e w' => e = .returned (numV (dyN 1 x y)) ∧ Below w.heap.size w w' := by
  have hi := rIsDy_c g w
  rw [hg, whichD_at (by decide), ← hg] at hi
  have HI : Hid (Calls Tryd.prog 18 #[.string g] w fun e w' => e = .returned (.bool true) ∧ Below w.heap.size w w') := Lib.hid hi
  have g0 : (g.toList == [43]) = false := str_ne (l := [43]) (by rw [hg]; decide)
  have g1 : (g.toList == [45]) = true := str_eq (l := [45]) hg
  have HX := Lib.hid (fun w => rtake_c x y hx hy w)
  clear hg hi
  rcases bits5 x y with ⟨b1, hb⟩ | ⟨b1, b2, hb⟩ | ⟨b1, b2, b3, hb⟩ | ⟨b1, b2, b3, b4, hb⟩ | ⟨b1, b2, b3, b4, hb⟩
  all_goals have HBB := Lib.hid hb
  all_goals clear hb
  all_goals go_enter Tryd.func12, Tryd.ntmps12
  all_goals go_wp2_with (first | (go_at_call 18; refine HI.out.mono ?_; rintro e w1 ⟨rfl, hb1⟩; have HB1 := Lib.hid hb1; clear hb1) | (go_at_call 25; refine (HX.out _).mono ?_; rintro e w2 ⟨rfl, rfl⟩))
  all_goals go_ret2
  all_goals exact ⟨rfl, HB1.out⟩
set_option maxRecDepth 100000 in
set_option maxHeartbeats 2000000 in
theorem rdy_2 (g : ByteArray) (hg : g = dyG 2) (x y : Int) (hx : In x) (hy : In y) (w : World) : Calls Tryd.prog 12 #[.string g, .int .i64 x, .int .i64 y] w fun e w' => e = .returned (numV (dyN 2 x y)) ∧ Below w.heap.size w w' := by
  have hi := rIsDy_c g w
  rw [hg, whichD_at (by decide), ← hg] at hi
  have HI : Hid (Calls Tryd.prog 18 #[.string g] w fun e w' => e = .returned (.bool true) ∧ Below w.heap.size w w') := Lib.hid hi
  have g0 : (g.toList == [43]) = false := str_ne (l := [43]) (by rw [hg]; decide)
  have g1 : (g.toList == [45]) = false := str_ne (l := [45]) (by rw [hg]; decide)
  have g2 : (g.toList == [195, 151]) = true := str_eq (l := [195, 151]) hg
  have HX := Lib.hid (fun w => rtimes_c x y hx hy w)
  clear hg hi
  rcases bits5 x y with ⟨b1, hb⟩ | ⟨b1, b2, hb⟩ | ⟨b1, b2, b3, hb⟩ | ⟨b1, b2, b3, b4, hb⟩ | ⟨b1, b2, b3, b4, hb⟩
  all_goals have HBB := Lib.hid hb
  all_goals clear hb
  all_goals go_enter Tryd.func12, Tryd.ntmps12
  all_goals go_wp2_with (first | (go_at_call 18; refine HI.out.mono ?_; rintro e w1 ⟨rfl, hb1⟩; have HB1 := Lib.hid hb1; clear hb1) | (go_at_call 26; refine (HX.out _).mono ?_; rintro e w2 ⟨rfl, rfl⟩))
  all_goals go_ret2
  all_goals exact ⟨rfl, HB1.out⟩
set_option maxRecDepth 100000 in
set_option maxHeartbeats 2000000 in
theorem rdy_3 (g : ByteArray) (hg : g = dyG 3) (x y : Int) (hx : In x) (w : World) : Calls Tryd.prog 12 #[.string g, .int .i64 x, .int .i64 y] w fun e w' => e = .returned (numV (dyN 3 x y)) ∧ Below w.heap.size w w' := by
  have hi := rIsDy_c g w
  rw [hg, whichD_at (by decide), ← hg] at hi
  have HI : Hid (Calls Tryd.prog 18 #[.string g] w fun e w' => e = .returned (.bool true) ∧ Below w.heap.size w w') := Lib.hid hi
  have g0 : (g.toList == [43]) = false := str_ne (l := [43]) (by rw [hg]; decide)
  have g1 : (g.toList == [45]) = false := str_ne (l := [45]) (by rw [hg]; decide)
  have g2 : (g.toList == [195, 151]) = false := str_ne (l := [195, 151]) (by rw [hg]; decide)
  have g3 : (g.toList == [195, 183]) = true := str_eq (l := [195, 183]) hg
  have HX := Lib.hid (fun w => rdivide_c x y hx w)
  clear hg hi
  rcases bits5 x y with ⟨b1, hb⟩ | ⟨b1, b2, hb⟩ | ⟨b1, b2, b3, hb⟩ | ⟨b1, b2, b3, b4, hb⟩ | ⟨b1, b2, b3, b4, hb⟩
  all_goals have HBB := Lib.hid hb
  all_goals clear hb
  all_goals go_enter Tryd.func12, Tryd.ntmps12
  all_goals go_wp2_with (first | (go_at_call 18; refine HI.out.mono ?_; rintro e w1 ⟨rfl, hb1⟩; have HB1 := Lib.hid hb1; clear hb1) | (go_at_call 27; refine (HX.out _).mono ?_; rintro e w2 ⟨rfl, rfl⟩))
  all_goals go_ret2
  all_goals exact ⟨rfl, HB1.out⟩
set_option maxRecDepth 100000 in
set_option maxHeartbeats 2000000 in
theorem rdy_4 (g : ByteArray) (hg : g = dyG 4) (x y : Int) (w : World) : Calls Tryd.prog 12 #[.string g, .int .i64 x, .int .i64 y] w fun e w' => e = .returned (numV (dyN 4 x y)) ∧ Below w.heap.size w w' := by
  have hi := rIsDy_c g w
  rw [hg, whichD_at (by decide), ← hg] at hi
  have HI : Hid (Calls Tryd.prog 18 #[.string g] w fun e w' => e = .returned (.bool true) ∧ Below w.heap.size w w') := Lib.hid hi
  have g0 : (g.toList == [43]) = false := str_ne (l := [43]) (by rw [hg]; decide)
  have g1 : (g.toList == [45]) = false := str_ne (l := [45]) (by rw [hg]; decide)
  have g2 : (g.toList == [195, 151]) = false := str_ne (l := [195, 151]) (by rw [hg]; decide)
  have g3 : (g.toList == [195, 183]) = false := str_ne (l := [195, 183]) (by rw [hg]; decide)
  have g4 : (g.toList == [226, 140, 136]) = true := str_eq (l := [226, 140, 136]) hg
  clear hg hi
  rcases bits5 x y with ⟨b1, hb⟩ | ⟨b1, b2, hb⟩ | ⟨b1, b2, b3, hb⟩ | ⟨b1, b2, b3, b4, hb⟩ | ⟨b1, b2, b3, b4, hb⟩
  all_goals have HBB := Lib.hid hb
  all_goals clear hb
  all_goals go_enter Tryd.func12, Tryd.ntmps12
  all_goals go_wp2_with (first | (go_at_call 18; refine HI.out.mono ?_; rintro e w1 ⟨rfl, hb1⟩; have HB1 := Lib.hid hb1; clear hb1))
  all_goals go_ret2
  all_goals exact ⟨by show _ = Ending.returned (.tuple #[.int .i64 (max x y), .int .i64 0]); first | (rw [show max x y = x by omega]; rfl) | (rw [show max x y = y by omega]; rfl), HB1.out⟩
set_option maxRecDepth 100000 in
set_option maxHeartbeats 2000000 in
theorem rdy_5 (g : ByteArray) (hg : g = dyG 5) (x y : Int) (w : World) : Calls Tryd.prog 12 #[.string g, .int .i64 x, .int .i64 y] w fun e w' => e = .returned (numV (dyN 5 x y)) ∧ Below w.heap.size w w' := by
  have hi := rIsDy_c g w
  rw [hg, whichD_at (by decide), ← hg] at hi
  have HI : Hid (Calls Tryd.prog 18 #[.string g] w fun e w' => e = .returned (.bool true) ∧ Below w.heap.size w w') := Lib.hid hi
  have g0 : (g.toList == [43]) = false := str_ne (l := [43]) (by rw [hg]; decide)
  have g1 : (g.toList == [45]) = false := str_ne (l := [45]) (by rw [hg]; decide)
  have g2 : (g.toList == [195, 151]) = false := str_ne (l := [195, 151]) (by rw [hg]; decide)
  have g3 : (g.toList == [195, 183]) = false := str_ne (l := [195, 183]) (by rw [hg]; decide)
  have g4 : (g.toList == [226, 140, 136]) = false := str_ne (l := [226, 140, 136]) (by rw [hg]; decide)
  have g5 : (g.toList == [226, 140, 138]) = true := str_eq (l := [226, 140, 138]) hg
  clear hg hi
  rcases bits5 x y with ⟨b1, hb⟩ | ⟨b1, b2, hb⟩ | ⟨b1, b2, b3, hb⟩ | ⟨b1, b2, b3, b4, hb⟩ | ⟨b1, b2, b3, b4, hb⟩
  all_goals have HBB := Lib.hid hb
  all_goals clear hb
  all_goals go_enter Tryd.func12, Tryd.ntmps12
  all_goals go_wp2_with (first | (go_at_call 18; refine HI.out.mono ?_; rintro e w1 ⟨rfl, hb1⟩; have HB1 := Lib.hid hb1; clear hb1))
  all_goals go_ret2
  all_goals exact ⟨by show _ = Ending.returned (.tuple #[.int .i64 (min x y), .int .i64 0]); first | (rw [show min x y = x by omega]; rfl) | (rw [show min x y = y by omega]; rfl), HB1.out⟩
set_option maxRecDepth 100000 in
set_option maxHeartbeats 2000000 in
theorem rdy_6 (g : ByteArray) (hg : g = dyG 6) (x y : Int) (hx : In x) (hy : In y) (w : World) : Calls Tryd.prog 12 #[.string g, .int .i64 x, .int .i64 y] w fun e w' => e = .returned (numV (dyN 6 x y)) ∧ Below w.heap.size w w' := by
  have hi := rIsDy_c g w
  rw [hg, whichD_at (by decide), ← hg] at hi
  have HI : Hid (Calls Tryd.prog 18 #[.string g] w fun e w' => e = .returned (.bool true) ∧ Below w.heap.size w w') := Lib.hid hi
  have g0 : (g.toList == [43]) = false := str_ne (l := [43]) (by rw [hg]; decide)
  have g1 : (g.toList == [45]) = false := str_ne (l := [45]) (by rw [hg]; decide)
  have g2 : (g.toList == [195, 151]) = false := str_ne (l := [195, 151]) (by rw [hg]; decide)
  have g3 : (g.toList == [195, 183]) = false := str_ne (l := [195, 183]) (by rw [hg]; decide)
  have g4 : (g.toList == [226, 140, 136]) = false := str_ne (l := [226, 140, 136]) (by rw [hg]; decide)
  have g5 : (g.toList == [226, 140, 138]) = false := str_ne (l := [226, 140, 138]) (by rw [hg]; decide)
  have g6 : (g.toList == [124]) = true := str_eq (l := [124]) hg
  have HX := Lib.hid (fun w => rresidue_c x y hx hy w)
  clear hg hi
  rcases bits5 x y with ⟨b1, hb⟩ | ⟨b1, b2, hb⟩ | ⟨b1, b2, b3, hb⟩ | ⟨b1, b2, b3, b4, hb⟩ | ⟨b1, b2, b3, b4, hb⟩
  all_goals have HBB := Lib.hid hb
  all_goals clear hb
  all_goals go_enter Tryd.func12, Tryd.ntmps12
  all_goals go_wp2_with (first | (go_at_call 18; refine HI.out.mono ?_; rintro e w1 ⟨rfl, hb1⟩; have HB1 := Lib.hid hb1; clear hb1) | (go_at_call 28; refine (HX.out _).mono ?_; rintro e w2 ⟨rfl, rfl⟩))
  all_goals go_ret2
  all_goals exact ⟨rfl, HB1.out⟩
set_option maxRecDepth 100000 in
set_option maxHeartbeats 2000000 in
theorem rdy_7 (g : ByteArray) (hg : g = dyG 7) (x y : Int) (w : World) : Calls Tryd.prog 12 #[.string g, .int .i64 x, .int .i64 y] w fun e w' => e = .returned (numV (dyN 7 x y)) ∧ Below w.heap.size w w' := by
  have hi := rIsDy_c g w
  rw [hg, whichD_at (by decide), ← hg] at hi
  have HI : Hid (Calls Tryd.prog 18 #[.string g] w fun e w' => e = .returned (.bool true) ∧ Below w.heap.size w w') := Lib.hid hi
  have g0 : (g.toList == [43]) = false := str_ne (l := [43]) (by rw [hg]; decide)
  have g1 : (g.toList == [45]) = false := str_ne (l := [45]) (by rw [hg]; decide)
  have g2 : (g.toList == [195, 151]) = false := str_ne (l := [195, 151]) (by rw [hg]; decide)
  have g3 : (g.toList == [195, 183]) = false := str_ne (l := [195, 183]) (by rw [hg]; decide)
  have g4 : (g.toList == [226, 140, 136]) = false := str_ne (l := [226, 140, 136]) (by rw [hg]; decide)
  have g5 : (g.toList == [226, 140, 138]) = false := str_ne (l := [226, 140, 138]) (by rw [hg]; decide)
  have g6 : (g.toList == [124]) = false := str_ne (l := [124]) (by rw [hg]; decide)
  have g13 : (g.toList == [226, 136, 167]) = false := str_ne (l := [226, 136, 167]) (by rw [hg]; decide)
  have g14 : (g.toList == [226, 136, 168]) = false := str_ne (l := [226, 136, 168]) (by rw [hg]; decide)
  have HX := Lib.hid (fun w => rcmp_7 g hg x y w)
  clear hg hi
  rcases bits5 x y with ⟨b1, hb⟩ | ⟨b1, b2, hb⟩ | ⟨b1, b2, b3, hb⟩ | ⟨b1, b2, b3, b4, hb⟩ | ⟨b1, b2, b3, b4, hb⟩
  all_goals have HBB := Lib.hid hb
  all_goals clear hb
  all_goals go_enter Tryd.func12, Tryd.ntmps12
  all_goals go_wp2_with (first | (go_at_call 18; refine HI.out.mono ?_; rintro e w1 ⟨rfl, hb1⟩; have HB1 := Lib.hid hb1; clear hb1) | (go_at_call 29; refine (HX.out _).mono ?_; rintro e w2 ⟨rfl, rfl⟩))
  all_goals go_ret2
  all_goals exact ⟨rfl, HB1.out⟩
set_option maxRecDepth 100000 in
set_option maxHeartbeats 2000000 in
theorem rdy_8 (g : ByteArray) (hg : g = dyG 8) (x y : Int) (w : World) : Calls Tryd.prog 12 #[.string g, .int .i64 x, .int .i64 y] w fun e w' => e = .returned (numV (dyN 8 x y)) ∧ Below w.heap.size w w' := by
  have hi := rIsDy_c g w
  rw [hg, whichD_at (by decide), ← hg] at hi
  have HI : Hid (Calls Tryd.prog 18 #[.string g] w fun e w' => e = .returned (.bool true) ∧ Below w.heap.size w w') := Lib.hid hi
  have g0 : (g.toList == [43]) = false := str_ne (l := [43]) (by rw [hg]; decide)
  have g1 : (g.toList == [45]) = false := str_ne (l := [45]) (by rw [hg]; decide)
  have g2 : (g.toList == [195, 151]) = false := str_ne (l := [195, 151]) (by rw [hg]; decide)
  have g3 : (g.toList == [195, 183]) = false := str_ne (l := [195, 183]) (by rw [hg]; decide)
  have g4 : (g.toList == [226, 140, 136]) = false := str_ne (l := [226, 140, 136]) (by rw [hg]; decide)
  have g5 : (g.toList == [226, 140, 138]) = false := str_ne (l := [226, 140, 138]) (by rw [hg]; decide)
  have g6 : (g.toList == [124]) = false := str_ne (l := [124]) (by rw [hg]; decide)
  have g13 : (g.toList == [226, 136, 167]) = false := str_ne (l := [226, 136, 167]) (by rw [hg]; decide)
  have g14 : (g.toList == [226, 136, 168]) = false := str_ne (l := [226, 136, 168]) (by rw [hg]; decide)
  have HX := Lib.hid (fun w => rcmp_8 g hg x y w)
  clear hg hi
  rcases bits5 x y with ⟨b1, hb⟩ | ⟨b1, b2, hb⟩ | ⟨b1, b2, b3, hb⟩ | ⟨b1, b2, b3, b4, hb⟩ | ⟨b1, b2, b3, b4, hb⟩
  all_goals have HBB := Lib.hid hb
  all_goals clear hb
  all_goals go_enter Tryd.func12, Tryd.ntmps12
  all_goals go_wp2_with (first | (go_at_call 18; refine HI.out.mono ?_; rintro e w1 ⟨rfl, hb1⟩; have HB1 := Lib.hid hb1; clear hb1) | (go_at_call 29; refine (HX.out _).mono ?_; rintro e w2 ⟨rfl, rfl⟩))
  all_goals go_ret2
  all_goals exact ⟨by show Ending.returned (.tuple #[.int .i64 (bit (!decide (x = y))), .int .i64 0]) = _; rw [show (!decide (x = y)) = decide (x ≠ y) by simp]; rfl, HB1.out⟩
set_option maxRecDepth 100000 in
set_option maxHeartbeats 2000000 in
theorem rdy_9 (g : ByteArray) (hg : g = dyG 9) (x y : Int) (w : World) : Calls Tryd.prog 12 #[.string g, .int .i64 x, .int .i64 y] w fun e w' => e = .returned (numV (dyN 9 x y)) ∧ Below w.heap.size w w' := by
  have hi := rIsDy_c g w
  rw [hg, whichD_at (by decide), ← hg] at hi
  have HI : Hid (Calls Tryd.prog 18 #[.string g] w fun e w' => e = .returned (.bool true) ∧ Below w.heap.size w w') := Lib.hid hi
  have g0 : (g.toList == [43]) = false := str_ne (l := [43]) (by rw [hg]; decide)
  have g1 : (g.toList == [45]) = false := str_ne (l := [45]) (by rw [hg]; decide)
  have g2 : (g.toList == [195, 151]) = false := str_ne (l := [195, 151]) (by rw [hg]; decide)
  have g3 : (g.toList == [195, 183]) = false := str_ne (l := [195, 183]) (by rw [hg]; decide)
  have g4 : (g.toList == [226, 140, 136]) = false := str_ne (l := [226, 140, 136]) (by rw [hg]; decide)
  have g5 : (g.toList == [226, 140, 138]) = false := str_ne (l := [226, 140, 138]) (by rw [hg]; decide)
  have g6 : (g.toList == [124]) = false := str_ne (l := [124]) (by rw [hg]; decide)
  have g13 : (g.toList == [226, 136, 167]) = false := str_ne (l := [226, 136, 167]) (by rw [hg]; decide)
  have g14 : (g.toList == [226, 136, 168]) = false := str_ne (l := [226, 136, 168]) (by rw [hg]; decide)
  have HX := Lib.hid (fun w => rcmp_9 g hg x y w)
  clear hg hi
  rcases bits5 x y with ⟨b1, hb⟩ | ⟨b1, b2, hb⟩ | ⟨b1, b2, b3, hb⟩ | ⟨b1, b2, b3, b4, hb⟩ | ⟨b1, b2, b3, b4, hb⟩
  all_goals have HBB := Lib.hid hb
  all_goals clear hb
  all_goals go_enter Tryd.func12, Tryd.ntmps12
  all_goals go_wp2_with (first | (go_at_call 18; refine HI.out.mono ?_; rintro e w1 ⟨rfl, hb1⟩; have HB1 := Lib.hid hb1; clear hb1) | (go_at_call 29; refine (HX.out _).mono ?_; rintro e w2 ⟨rfl, rfl⟩))
  all_goals go_ret2
  all_goals exact ⟨rfl, HB1.out⟩
set_option maxRecDepth 100000 in
set_option maxHeartbeats 2000000 in
theorem rdy_10 (g : ByteArray) (hg : g = dyG 10) (x y : Int) (w : World) : Calls Tryd.prog 12 #[.string g, .int .i64 x, .int .i64 y] w fun e w' => e = .returned (numV (dyN 10 x y)) ∧ Below w.heap.size w w' := by
  have hi := rIsDy_c g w
  rw [hg, whichD_at (by decide), ← hg] at hi
  have HI : Hid (Calls Tryd.prog 18 #[.string g] w fun e w' => e = .returned (.bool true) ∧ Below w.heap.size w w') := Lib.hid hi
  have g0 : (g.toList == [43]) = false := str_ne (l := [43]) (by rw [hg]; decide)
  have g1 : (g.toList == [45]) = false := str_ne (l := [45]) (by rw [hg]; decide)
  have g2 : (g.toList == [195, 151]) = false := str_ne (l := [195, 151]) (by rw [hg]; decide)
  have g3 : (g.toList == [195, 183]) = false := str_ne (l := [195, 183]) (by rw [hg]; decide)
  have g4 : (g.toList == [226, 140, 136]) = false := str_ne (l := [226, 140, 136]) (by rw [hg]; decide)
  have g5 : (g.toList == [226, 140, 138]) = false := str_ne (l := [226, 140, 138]) (by rw [hg]; decide)
  have g6 : (g.toList == [124]) = false := str_ne (l := [124]) (by rw [hg]; decide)
  have g13 : (g.toList == [226, 136, 167]) = false := str_ne (l := [226, 136, 167]) (by rw [hg]; decide)
  have g14 : (g.toList == [226, 136, 168]) = false := str_ne (l := [226, 136, 168]) (by rw [hg]; decide)
  have HX := Lib.hid (fun w => rcmp_10 g hg x y w)
  clear hg hi
  rcases bits5 x y with ⟨b1, hb⟩ | ⟨b1, b2, hb⟩ | ⟨b1, b2, b3, hb⟩ | ⟨b1, b2, b3, b4, hb⟩ | ⟨b1, b2, b3, b4, hb⟩
  all_goals have HBB := Lib.hid hb
  all_goals clear hb
  all_goals go_enter Tryd.func12, Tryd.ntmps12
  all_goals go_wp2_with (first | (go_at_call 18; refine HI.out.mono ?_; rintro e w1 ⟨rfl, hb1⟩; have HB1 := Lib.hid hb1; clear hb1) | (go_at_call 29; refine (HX.out _).mono ?_; rintro e w2 ⟨rfl, rfl⟩))
  all_goals go_ret2
  all_goals exact ⟨rfl, HB1.out⟩
set_option maxRecDepth 100000 in
set_option maxHeartbeats 2000000 in
theorem rdy_11 (g : ByteArray) (hg : g = dyG 11) (x y : Int) (w : World) : Calls Tryd.prog 12 #[.string g, .int .i64 x, .int .i64 y] w fun e w' => e = .returned (numV (dyN 11 x y)) ∧ Below w.heap.size w w' := by
  have hi := rIsDy_c g w
  rw [hg, whichD_at (by decide), ← hg] at hi
  have HI : Hid (Calls Tryd.prog 18 #[.string g] w fun e w' => e = .returned (.bool true) ∧ Below w.heap.size w w') := Lib.hid hi
  have g0 : (g.toList == [43]) = false := str_ne (l := [43]) (by rw [hg]; decide)
  have g1 : (g.toList == [45]) = false := str_ne (l := [45]) (by rw [hg]; decide)
  have g2 : (g.toList == [195, 151]) = false := str_ne (l := [195, 151]) (by rw [hg]; decide)
  have g3 : (g.toList == [195, 183]) = false := str_ne (l := [195, 183]) (by rw [hg]; decide)
  have g4 : (g.toList == [226, 140, 136]) = false := str_ne (l := [226, 140, 136]) (by rw [hg]; decide)
  have g5 : (g.toList == [226, 140, 138]) = false := str_ne (l := [226, 140, 138]) (by rw [hg]; decide)
  have g6 : (g.toList == [124]) = false := str_ne (l := [124]) (by rw [hg]; decide)
  have g13 : (g.toList == [226, 136, 167]) = false := str_ne (l := [226, 136, 167]) (by rw [hg]; decide)
  have g14 : (g.toList == [226, 136, 168]) = false := str_ne (l := [226, 136, 168]) (by rw [hg]; decide)
  have HX := Lib.hid (fun w => rcmp_11 g hg x y w)
  clear hg hi
  rcases bits5 x y with ⟨b1, hb⟩ | ⟨b1, b2, hb⟩ | ⟨b1, b2, b3, hb⟩ | ⟨b1, b2, b3, b4, hb⟩ | ⟨b1, b2, b3, b4, hb⟩
  all_goals have HBB := Lib.hid hb
  all_goals clear hb
  all_goals go_enter Tryd.func12, Tryd.ntmps12
  all_goals go_wp2_with (first | (go_at_call 18; refine HI.out.mono ?_; rintro e w1 ⟨rfl, hb1⟩; have HB1 := Lib.hid hb1; clear hb1) | (go_at_call 29; refine (HX.out _).mono ?_; rintro e w2 ⟨rfl, rfl⟩))
  all_goals go_ret2
  all_goals exact ⟨rfl, HB1.out⟩
set_option maxRecDepth 100000 in
set_option maxHeartbeats 2000000 in
theorem rdy_12 (g : ByteArray) (hg : g = dyG 12) (x y : Int) (w : World) : Calls Tryd.prog 12 #[.string g, .int .i64 x, .int .i64 y] w fun e w' => e = .returned (numV (dyN 12 x y)) ∧ Below w.heap.size w w' := by
  have hi := rIsDy_c g w
  rw [hg, whichD_at (by decide), ← hg] at hi
  have HI : Hid (Calls Tryd.prog 18 #[.string g] w fun e w' => e = .returned (.bool true) ∧ Below w.heap.size w w') := Lib.hid hi
  have g0 : (g.toList == [43]) = false := str_ne (l := [43]) (by rw [hg]; decide)
  have g1 : (g.toList == [45]) = false := str_ne (l := [45]) (by rw [hg]; decide)
  have g2 : (g.toList == [195, 151]) = false := str_ne (l := [195, 151]) (by rw [hg]; decide)
  have g3 : (g.toList == [195, 183]) = false := str_ne (l := [195, 183]) (by rw [hg]; decide)
  have g4 : (g.toList == [226, 140, 136]) = false := str_ne (l := [226, 140, 136]) (by rw [hg]; decide)
  have g5 : (g.toList == [226, 140, 138]) = false := str_ne (l := [226, 140, 138]) (by rw [hg]; decide)
  have g6 : (g.toList == [124]) = false := str_ne (l := [124]) (by rw [hg]; decide)
  have g13 : (g.toList == [226, 136, 167]) = false := str_ne (l := [226, 136, 167]) (by rw [hg]; decide)
  have g14 : (g.toList == [226, 136, 168]) = false := str_ne (l := [226, 136, 168]) (by rw [hg]; decide)
  have HX := Lib.hid (fun w => rcmp_12 g hg x y w)
  clear hg hi
  rcases bits5 x y with ⟨b1, hb⟩ | ⟨b1, b2, hb⟩ | ⟨b1, b2, b3, hb⟩ | ⟨b1, b2, b3, b4, hb⟩ | ⟨b1, b2, b3, b4, hb⟩
  all_goals have HBB := Lib.hid hb
  all_goals clear hb
  all_goals go_enter Tryd.func12, Tryd.ntmps12
  all_goals go_wp2_with (first | (go_at_call 18; refine HI.out.mono ?_; rintro e w1 ⟨rfl, hb1⟩; have HB1 := Lib.hid hb1; clear hb1) | (go_at_call 29; refine (HX.out _).mono ?_; rintro e w2 ⟨rfl, rfl⟩))
  all_goals go_ret2
  all_goals exact ⟨rfl, HB1.out⟩
set_option maxRecDepth 100000 in
set_option maxHeartbeats 2000000 in
theorem rdy_13 (g : ByteArray) (hg : g = dyG 13) (x y : Int) (w : World) : Calls Tryd.prog 12 #[.string g, .int .i64 x, .int .i64 y] w fun e w' => e = .returned (numV (dyN 13 x y)) ∧ Below w.heap.size w w' := by
  have hi := rIsDy_c g w
  rw [hg, whichD_at (by decide), ← hg] at hi
  have HI : Hid (Calls Tryd.prog 18 #[.string g] w fun e w' => e = .returned (.bool true) ∧ Below w.heap.size w w') := Lib.hid hi
  have g0 : (g.toList == [43]) = false := str_ne (l := [43]) (by rw [hg]; decide)
  have g1 : (g.toList == [45]) = false := str_ne (l := [45]) (by rw [hg]; decide)
  have g2 : (g.toList == [195, 151]) = false := str_ne (l := [195, 151]) (by rw [hg]; decide)
  have g3 : (g.toList == [195, 183]) = false := str_ne (l := [195, 183]) (by rw [hg]; decide)
  have g4 : (g.toList == [226, 140, 136]) = false := str_ne (l := [226, 140, 136]) (by rw [hg]; decide)
  have g5 : (g.toList == [226, 140, 138]) = false := str_ne (l := [226, 140, 138]) (by rw [hg]; decide)
  have g6 : (g.toList == [124]) = false := str_ne (l := [124]) (by rw [hg]; decide)
  have g13 : (g.toList == [226, 136, 167]) = true := str_eq (l := [226, 136, 167]) hg
  clear hg hi
  rcases bits5 x y with ⟨b1, hb⟩ | ⟨b1, b2, hb⟩ | ⟨b1, b2, b3, hb⟩ | ⟨b1, b2, b3, b4, hb⟩ | ⟨b1, b2, b3, b4, hb⟩
  all_goals have HBB := Lib.hid hb
  all_goals clear hb
  all_goals go_enter Tryd.func12, Tryd.ntmps12
  all_goals go_wp2_with (first | (go_at_call 18; refine HI.out.mono ?_; rintro e w1 ⟨rfl, hb1⟩; have HB1 := Lib.hid hb1; clear hb1))
  all_goals go_ret2
  all_goals exact ⟨by show _ = Ending.returned (numV (bitsR x y (min x y))); unfold bitsR; rw [HBB.out]; first | rfl | (rw [show min x y = x by omega]; rfl) | (rw [show min x y = y by omega]; rfl), HB1.out⟩
set_option maxRecDepth 100000 in
set_option maxHeartbeats 2000000 in
theorem rdy_14 (g : ByteArray) (hg : g = dyG 14) (x y : Int) (w : World) : Calls Tryd.prog 12 #[.string g, .int .i64 x, .int .i64 y] w fun e w' => e = .returned (numV (dyN 14 x y)) ∧ Below w.heap.size w w' := by
  have hi := rIsDy_c g w
  rw [hg, whichD_at (by decide), ← hg] at hi
  have HI : Hid (Calls Tryd.prog 18 #[.string g] w fun e w' => e = .returned (.bool true) ∧ Below w.heap.size w w') := Lib.hid hi
  have g0 : (g.toList == [43]) = false := str_ne (l := [43]) (by rw [hg]; decide)
  have g1 : (g.toList == [45]) = false := str_ne (l := [45]) (by rw [hg]; decide)
  have g2 : (g.toList == [195, 151]) = false := str_ne (l := [195, 151]) (by rw [hg]; decide)
  have g3 : (g.toList == [195, 183]) = false := str_ne (l := [195, 183]) (by rw [hg]; decide)
  have g4 : (g.toList == [226, 140, 136]) = false := str_ne (l := [226, 140, 136]) (by rw [hg]; decide)
  have g5 : (g.toList == [226, 140, 138]) = false := str_ne (l := [226, 140, 138]) (by rw [hg]; decide)
  have g6 : (g.toList == [124]) = false := str_ne (l := [124]) (by rw [hg]; decide)
  have g13 : (g.toList == [226, 136, 167]) = false := str_ne (l := [226, 136, 167]) (by rw [hg]; decide)
  have g14 : (g.toList == [226, 136, 168]) = true := str_eq (l := [226, 136, 168]) hg
  clear hg hi
  rcases bits5 x y with ⟨b1, hb⟩ | ⟨b1, b2, hb⟩ | ⟨b1, b2, b3, hb⟩ | ⟨b1, b2, b3, b4, hb⟩ | ⟨b1, b2, b3, b4, hb⟩
  all_goals have HBB := Lib.hid hb
  all_goals clear hb
  all_goals go_enter Tryd.func12, Tryd.ntmps12
  all_goals go_wp2_with (first | (go_at_call 18; refine HI.out.mono ?_; rintro e w1 ⟨rfl, hb1⟩; have HB1 := Lib.hid hb1; clear hb1))
  all_goals go_ret2
  all_goals exact ⟨by show _ = Ending.returned (numV (bitsR x y (max x y))); unfold bitsR; rw [HBB.out]; first | rfl | (rw [show max x y = x by omega]; rfl) | (rw [show max x y = y by omega]; rfl), HB1.out⟩
set_option maxRecDepth 100000 in
theorem rdy_none (g : ByteArray) (hg : whichD g = 15) (x y : Int) (w : World) : Calls Tryd.prog 12 #[.string g, .int .i64 x, .int .i64 y] w fun e w' => e = .returned (numV (0, 102)) ∧ Below w.heap.size w w' := by
  have hi := rIsDy_c g w
  rw [hg] at hi
  have HI : Hid (Calls Tryd.prog 18 #[.string g] w fun e w' => e = .returned (.bool false) ∧ Below w.heap.size w w') := Lib.hid hi
  clear hi hg
  go_enter Tryd.func12, Tryd.ntmps12
  go_wp2_with (go_at_call 18; refine HI.out.mono ?_; rintro e w1 ⟨rfl, hb1⟩; have HB1 := Lib.hid hb1; clear hb1)
  go_ret2
  exact ⟨rfl, HB1.out⟩
theorem rdy_c (g : ByteArray) (x y : Int) (hx : In x) (hy : In y) (w : World) : Calls Tryd.prog 12 #[.string g, .int .i64 x, .int .i64 y] w fun e w' => e = .returned (numV (dyN (whichD g) x y)) ∧ Below w.heap.size w w' := by
  rcases which15 g with ⟨k, hk, hg, hw⟩ | ⟨_, hw⟩
  · rw [hw]
    rcases (by omega : k = 0 ∨ k = 1 ∨ k = 2 ∨ k = 3 ∨ k = 4 ∨ k = 5 ∨ k = 6 ∨ k = 7 ∨ k = 8 ∨ k = 9 ∨ k = 10 ∨ k = 11 ∨ k = 12 ∨ k = 13 ∨ k = 14) with rfl | rfl | rfl | rfl | rfl | rfl | rfl | rfl | rfl | rfl | rfl | rfl | rfl | rfl | rfl
    · exact rdy_0 g hg x y hx hy w
    · exact rdy_1 g hg x y hx hy w
    · exact rdy_2 g hg x y hx hy w
    · exact rdy_3 g hg x y hx w
    · exact rdy_4 g hg x y w
    · exact rdy_5 g hg x y w
    · exact rdy_6 g hg x y hx hy w
    · exact rdy_7 g hg x y w
    · exact rdy_8 g hg x y w
    · exact rdy_9 g hg x y w
    · exact rdy_10 g hg x y w
    · exact rdy_11 g hg x y w
    · exact rdy_12 g hg x y w
    · exact rdy_13 g hg x y w
    · exact rdy_14 g hg x y w
  · rw [hw]
    exact rdy_none g hw x y w
end Go.Proofs.YtjafngieohpdaaaDoor.Nu
