/- The plain functions of one (by wip/gen/mknuref.py). -/
import Derived.Test.YtjafngieohpdaaaDoorNuRefE
namespace Go.Proofs.YtjafngieohpdaaaDoor.Nu
open Go Go.RowKit Go.Shelf
attribute [local go_sem] Oper.semAt_some

set_option maxRecDepth 100000 in
set_option maxHeartbeats 2000000 in
theorem rmon_0 (g : ByteArray) (hg : g = monG 0) (y : Int) (w : World) : Calls Tryd.prog 14 #[.string g, .int .i64 y] w fun e w' => e = .returned (numV (monN 0 y)) ∧ Below w.heap.size w w' := by
  have hi := rIsMon_c g w
  rw [hg, whichM_at (by decide), ← hg] at hi
  have HI : Hid (Calls Tryd.prog 20 #[.string g] w fun e w' => e = .returned (.bool true) ∧ Below w.heap.size w w') := Lib.hid hi
  have g1 : (g.toList == [45]) = false := str_ne (l := [45]) (by rw [hg]; decide)
  have g2 : (g.toList == [195, 151]) = false := str_ne (l := [195, 151]) (by rw [hg]; decide)
  have g3 : (g.toList == [195, 183]) = false := str_ne (l := [195, 183]) (by rw [hg]; decide)
  have g6 : (g.toList == [124]) = false := str_ne (l := [124]) (by rw [hg]; decide)
  have g7 : (g.toList == [126]) = false := str_ne (l := [126]) (by rw [hg]; decide)
  clear hg hi
  go_enter Tryd.func14, Tryd.ntmps14
  go_wp2_with (first | (go_at_call 20; refine HI.out.mono ?_; rintro e w1 ⟨rfl, hb1⟩; have HB1 := Lib.hid hb1; clear hb1))
  go_ret2
  exact ⟨rfl, HB1.out⟩
set_option maxRecDepth 100000 in
set_option maxHeartbeats 2000000 in
theorem rmon_1 (g : ByteArray) (hg : g = monG 1) (y : Int) (hy : In y) (w : World) : Calls Tryd.prog 14 #[.string g, .int .i64 y] w fun e w' => e = .returned (numV (monN 1 y)) ∧ Below w.heap.size w w' := by
  have hi := rIsMon_c g w
  rw [hg, whichM_at (by decide), ← hg] at hi
  have HI : Hid (Calls Tryd.prog 20 #[.string g] w fun e w' => e = .returned (.bool true) ∧ Below w.heap.size w w') := Lib.hid hi
  have g1 : (g.toList == [45]) = true := str_eq (l := [45]) hg
  have g7 : (g.toList == [126]) = false := str_ne (l := [126]) (by rw [hg]; decide)
  have HX := Lib.hid (fun w => rtake_c 0 y (by decide) hy w)
  clear hg hi
  go_enter Tryd.func14, Tryd.ntmps14
  go_wp2_with (first | (go_at_call 20; refine HI.out.mono ?_; rintro e w1 ⟨rfl, hb1⟩; have HB1 := Lib.hid hb1; clear hb1) | (go_at_call 25; refine (HX.out _).mono ?_; rintro e w2 ⟨rfl, rfl⟩))
  go_ret2
  exact ⟨by show _ = Ending.returned (numV (ovr (-y))); rw [← Int.zero_sub]; rfl, HB1.out⟩
set_option maxRecDepth 100000 in
set_option maxHeartbeats 2000000 in
theorem rmon_2 (g : ByteArray) (hg : g = monG 2) (y : Int) (w : World) : Calls Tryd.prog 14 #[.string g, .int .i64 y] w fun e w' => e = .returned (numV (monN 2 y)) ∧ Below w.heap.size w w' := by
  have hi := rIsMon_c g w
  rw [hg, whichM_at (by decide), ← hg] at hi
  have HI : Hid (Calls Tryd.prog 20 #[.string g] w fun e w' => e = .returned (.bool true) ∧ Below w.heap.size w w') := Lib.hid hi
  have g1 : (g.toList == [45]) = false := str_ne (l := [45]) (by rw [hg]; decide)
  have g2 : (g.toList == [195, 151]) = true := str_eq (l := [195, 151]) hg
  have g7 : (g.toList == [126]) = false := str_ne (l := [126]) (by rw [hg]; decide)
  clear hg hi
  rcases Int.lt_trichotomy y 0 with h | h | h
  · have t1 : decide (0 < y) = false := by simp; omega
    have t2 : decide (y < 0) = true := by simp [h]
    have HE : Hid (y.sign = -1) := Lib.hid (Int.sign_eq_neg_one_of_neg h)
    clear h
    go_enter Tryd.func14, Tryd.ntmps14
    go_wp2_with (first | (go_at_call 20; refine HI.out.mono ?_; rintro e w1 ⟨rfl, hb1⟩; have HB1 := Lib.hid hb1; clear hb1) | (go_at_call 31; refine (bit_c _ _).mono ?_; rintro e w2 ⟨rfl, rfl⟩))
    go_ret2
    exact ⟨by show Ending.returned (.tuple #[.int .i64 (wrap64 (bit false - bit true)), .int .i64 0]) = Ending.returned (.tuple #[.int .i64 y.sign, .int .i64 0]); rw [show bit false - bit true = -1 from rfl, wrap_in (by decide : In (-1)), HE.out], HB1.out⟩
  · subst h
    go_enter Tryd.func14, Tryd.ntmps14
    go_wp2_with (first | (go_at_call 20; refine HI.out.mono ?_; rintro e w1 ⟨rfl, hb1⟩; have HB1 := Lib.hid hb1; clear hb1) | (go_at_call 31; refine (bit_c _ _).mono ?_; rintro e w2 ⟨rfl, rfl⟩))
    go_ret2
    exact ⟨rfl, HB1.out⟩
  · have t1 : decide (0 < y) = true := by simp [h]
    have t2 : decide (y < 0) = false := by simp; omega
    have HE : Hid (y.sign = 1) := Lib.hid (Int.sign_eq_one_of_pos h)
    clear h
    go_enter Tryd.func14, Tryd.ntmps14
    go_wp2_with (first | (go_at_call 20; refine HI.out.mono ?_; rintro e w1 ⟨rfl, hb1⟩; have HB1 := Lib.hid hb1; clear hb1) | (go_at_call 31; refine (bit_c _ _).mono ?_; rintro e w2 ⟨rfl, rfl⟩))
    go_ret2
    exact ⟨by show Ending.returned (.tuple #[.int .i64 (wrap64 (bit true - bit false)), .int .i64 0]) = Ending.returned (.tuple #[.int .i64 y.sign, .int .i64 0]); rw [show bit true - bit false = 1 from rfl, wrap_in (by decide : In 1), HE.out], HB1.out⟩
set_option maxRecDepth 100000 in
set_option maxHeartbeats 2000000 in
theorem rmon_3 (g : ByteArray) (hg : g = monG 3) (y : Int) (w : World) : Calls Tryd.prog 14 #[.string g, .int .i64 y] w fun e w' => e = .returned (numV (monN 3 y)) ∧ Below w.heap.size w w' := by
  have hi := rIsMon_c g w
  rw [hg, whichM_at (by decide), ← hg] at hi
  have HI : Hid (Calls Tryd.prog 20 #[.string g] w fun e w' => e = .returned (.bool true) ∧ Below w.heap.size w w') := Lib.hid hi
  have g1 : (g.toList == [45]) = false := str_ne (l := [45]) (by rw [hg]; decide)
  have g2 : (g.toList == [195, 151]) = false := str_ne (l := [195, 151]) (by rw [hg]; decide)
  have g3 : (g.toList == [195, 183]) = true := str_eq (l := [195, 183]) hg
  have g7 : (g.toList == [126]) = false := str_ne (l := [126]) (by rw [hg]; decide)
  have HX := Lib.hid (fun w => rdivide_c 1 y (by decide) w)
  clear hg hi
  go_enter Tryd.func14, Tryd.ntmps14
  go_wp2_with (first | (go_at_call 20; refine HI.out.mono ?_; rintro e w1 ⟨rfl, hb1⟩; have HB1 := Lib.hid hb1; clear hb1) | (go_at_call 27; refine (HX.out _).mono ?_; rintro e w2 ⟨rfl, rfl⟩))
  go_ret2
  exact ⟨rfl, HB1.out⟩
set_option maxRecDepth 100000 in
set_option maxHeartbeats 2000000 in
theorem rmon_4 (g : ByteArray) (hg : g = monG 4) (y : Int) (w : World) : Calls Tryd.prog 14 #[.string g, .int .i64 y] w fun e w' => e = .returned (numV (monN 4 y)) ∧ Below w.heap.size w w' := by
  have hi := rIsMon_c g w
  rw [hg, whichM_at (by decide), ← hg] at hi
  have HI : Hid (Calls Tryd.prog 20 #[.string g] w fun e w' => e = .returned (.bool true) ∧ Below w.heap.size w w') := Lib.hid hi
  have g1 : (g.toList == [45]) = false := str_ne (l := [45]) (by rw [hg]; decide)
  have g2 : (g.toList == [195, 151]) = false := str_ne (l := [195, 151]) (by rw [hg]; decide)
  have g3 : (g.toList == [195, 183]) = false := str_ne (l := [195, 183]) (by rw [hg]; decide)
  have g6 : (g.toList == [124]) = false := str_ne (l := [124]) (by rw [hg]; decide)
  have g7 : (g.toList == [126]) = false := str_ne (l := [126]) (by rw [hg]; decide)
  clear hg hi
  go_enter Tryd.func14, Tryd.ntmps14
  go_wp2_with (first | (go_at_call 20; refine HI.out.mono ?_; rintro e w1 ⟨rfl, hb1⟩; have HB1 := Lib.hid hb1; clear hb1))
  go_ret2
  exact ⟨rfl, HB1.out⟩
set_option maxRecDepth 100000 in
set_option maxHeartbeats 2000000 in
theorem rmon_5 (g : ByteArray) (hg : g = monG 5) (y : Int) (w : World) : Calls Tryd.prog 14 #[.string g, .int .i64 y] w fun e w' => e = .returned (numV (monN 5 y)) ∧ Below w.heap.size w w' := by
  have hi := rIsMon_c g w
  rw [hg, whichM_at (by decide), ← hg] at hi
  have HI : Hid (Calls Tryd.prog 20 #[.string g] w fun e w' => e = .returned (.bool true) ∧ Below w.heap.size w w') := Lib.hid hi
  have g1 : (g.toList == [45]) = false := str_ne (l := [45]) (by rw [hg]; decide)
  have g2 : (g.toList == [195, 151]) = false := str_ne (l := [195, 151]) (by rw [hg]; decide)
  have g3 : (g.toList == [195, 183]) = false := str_ne (l := [195, 183]) (by rw [hg]; decide)
  have g6 : (g.toList == [124]) = false := str_ne (l := [124]) (by rw [hg]; decide)
  have g7 : (g.toList == [126]) = false := str_ne (l := [126]) (by rw [hg]; decide)
  clear hg hi
  go_enter Tryd.func14, Tryd.ntmps14
  go_wp2_with (first | (go_at_call 20; refine HI.out.mono ?_; rintro e w1 ⟨rfl, hb1⟩; have HB1 := Lib.hid hb1; clear hb1))
  go_ret2
  exact ⟨rfl, HB1.out⟩
set_option maxRecDepth 100000 in
set_option maxHeartbeats 2000000 in
theorem rmon_6 (g : ByteArray) (hg : g = monG 6) (y : Int) (hy : In y) (w : World) : Calls Tryd.prog 14 #[.string g, .int .i64 y] w fun e w' => e = .returned (numV (monN 6 y)) ∧ Below w.heap.size w w' := by
  have hi := rIsMon_c g w
  rw [hg, whichM_at (by decide), ← hg] at hi
  have HI : Hid (Calls Tryd.prog 20 #[.string g] w fun e w' => e = .returned (.bool true) ∧ Below w.heap.size w w') := Lib.hid hi
  have g1 : (g.toList == [45]) = false := str_ne (l := [45]) (by rw [hg]; decide)
  have g2 : (g.toList == [195, 151]) = false := str_ne (l := [195, 151]) (by rw [hg]; decide)
  have g3 : (g.toList == [195, 183]) = false := str_ne (l := [195, 183]) (by rw [hg]; decide)
  have g6 : (g.toList == [124]) = true := str_eq (l := [124]) hg
  have g7 : (g.toList == [126]) = false := str_ne (l := [126]) (by rw [hg]; decide)
  have HX := Lib.hid (fun w => rtake_c 0 y (by decide) hy w)
  clear hg hi
  by_cases h : y < 0
  · have t1 : decide (y < 0) = true := by simp [h]
    have HE : Hid (ovr (max y (-y)) = ovr (-y)) := Lib.hid (by rw [show max y (-y) = -y by omega])
    clear h
    go_enter Tryd.func14, Tryd.ntmps14
    go_wp2_with (first | (go_at_call 20; refine HI.out.mono ?_; rintro e w1 ⟨rfl, hb1⟩; have HB1 := Lib.hid hb1; clear hb1) | (go_at_call 25; refine (HX.out _).mono ?_; rintro e w2 ⟨rfl, rfl⟩))
    go_ret2
    exact ⟨by show _ = Ending.returned (numV (ovr (max y (-y)))); rw [HE.out]; rfl, HB1.out⟩
  · have t1 : decide (y < 0) = false := by simp; omega
    have HE : Hid (ovr (max y (-y)) = (y, 0)) := Lib.hid (by rw [show max y (-y) = y by omega]; exact if_pos hy)
    clear h
    go_enter Tryd.func14, Tryd.ntmps14
    go_wp2_with (first | (go_at_call 20; refine HI.out.mono ?_; rintro e w1 ⟨rfl, hb1⟩; have HB1 := Lib.hid hb1; clear hb1) | (go_at_call 25; refine (HX.out _).mono ?_; rintro e w2 ⟨rfl, rfl⟩))
    go_ret2
    exact ⟨by show _ = Ending.returned (numV (ovr (max y (-y)))); rw [HE.out]; rfl, HB1.out⟩
set_option maxRecDepth 100000 in
set_option maxHeartbeats 2000000 in
theorem rmon_7 (g : ByteArray) (hg : g = monG 7) (y : Int) (w : World) : Calls Tryd.prog 14 #[.string g, .int .i64 y] w fun e w' => e = .returned (numV (monN 7 y)) ∧ Below w.heap.size w w' := by
  have hi := rIsMon_c g w
  rw [hg, whichM_at (by decide), ← hg] at hi
  have HI : Hid (Calls Tryd.prog 20 #[.string g] w fun e w' => e = .returned (.bool true) ∧ Below w.heap.size w w') := Lib.hid hi
  have g1 : (g.toList == [45]) = false := str_ne (l := [45]) (by rw [hg]; decide)
  have g2 : (g.toList == [195, 151]) = false := str_ne (l := [195, 151]) (by rw [hg]; decide)
  have g3 : (g.toList == [195, 183]) = false := str_ne (l := [195, 183]) (by rw [hg]; decide)
  have g6 : (g.toList == [124]) = false := str_ne (l := [124]) (by rw [hg]; decide)
  have g7 : (g.toList == [126]) = true := str_eq (l := [126]) hg
  clear hg hi
  by_cases h0 : y = 0
  · subst h0
    go_enter Tryd.func14, Tryd.ntmps14
    go_wp2_with (first | (go_at_call 20; refine HI.out.mono ?_; rintro e w1 ⟨rfl, hb1⟩; have HB1 := Lib.hid hb1; clear hb1))
    go_ret2
    exact ⟨rfl, HB1.out⟩
  · by_cases h1 : y = 1
    · subst h1
      go_enter Tryd.func14, Tryd.ntmps14
      go_wp2_with (first | (go_at_call 20; refine HI.out.mono ?_; rintro e w1 ⟨rfl, hb1⟩; have HB1 := Lib.hid hb1; clear hb1))
      go_ret2
      exact ⟨rfl, HB1.out⟩
    · have t0 : (y != 0) = true := by simp [h0]
      have t1 : (y != 1) = true := by simp [h1]
      have HE : Hid (notR y = (0, 102)) := Lib.hid (by simp [notR, isB, h0, h1])
      clear h0 h1
      go_enter Tryd.func14, Tryd.ntmps14
      go_wp2_with (first | (go_at_call 20; refine HI.out.mono ?_; rintro e w1 ⟨rfl, hb1⟩; have HB1 := Lib.hid hb1; clear hb1))
      go_ret2
      exact ⟨by show _ = Ending.returned (numV (notR y)); rw [HE.out]; rfl, HB1.out⟩
set_option maxRecDepth 100000 in
theorem rmon_none (g : ByteArray) (hg : whichM g = 8) (y : Int) (w : World) : Calls Tryd.prog 14 #[.string g, .int .i64 y] w fun e w' => e = .returned (numV (0, 102)) ∧ Below w.heap.size w w' := by
  have hi := rIsMon_c g w
  rw [hg] at hi
  have HI : Hid (Calls Tryd.prog 20 #[.string g] w fun e w' => e = .returned (.bool false) ∧ Below w.heap.size w w') := Lib.hid hi
  clear hi hg
  go_enter Tryd.func14, Tryd.ntmps14
  go_wp2_with (go_at_call 20; refine HI.out.mono ?_; rintro e w1 ⟨rfl, hb1⟩; have HB1 := Lib.hid hb1; clear hb1)
  go_ret2
  exact ⟨rfl, HB1.out⟩
theorem rmon_c (g : ByteArray) (y : Int) (hy : In y) (w : World) : Calls Tryd.prog 14 #[.string g, .int .i64 y] w fun e w' => e = .returned (numV (monN (whichM g) y)) ∧ Below w.heap.size w w' := by
  rcases which8 g with ⟨k, hk, hg, hw⟩ | ⟨_, hw⟩
  · rw [hw]
    rcases (by omega : k = 0 ∨ k = 1 ∨ k = 2 ∨ k = 3 ∨ k = 4 ∨ k = 5 ∨ k = 6 ∨ k = 7) with rfl | rfl | rfl | rfl | rfl | rfl | rfl | rfl
    · exact rmon_0 g hg y w
    · exact rmon_1 g hg y hy w
    · exact rmon_2 g hg y w
    · exact rmon_3 g hg y w
    · exact rmon_4 g hg y w
    · exact rmon_5 g hg y w
    · exact rmon_6 g hg y hy w
    · exact rmon_7 g hg y w
  · rw [hw]
    exact rmon_none g hw y w
end Go.Proofs.YtjafngieohpdaaaDoor.Nu
