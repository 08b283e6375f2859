/- The plain functions of two and of one (by wip/gen/mknuref.py). -/
import Derived.Test.YtjafngieohpdaaaDoorNuRefD
namespace Go.Proofs.YtjafngieohpdaaaDoor.Nu
open Go Go.RowKit Go.Shelf
attribute [local go_sem] Oper.semAt_some

set_option maxRecDepth 100000 in
theorem rcmp_7 (g : ByteArray) (hg : g = dyG 7) (x y : Int) (w : World) : Calls Tryd.prog 29 #[.string g, .int .i64 x, .int .i64 y] w fun e w' => e = .returned (.int .i64 (bit (decide (x = y)))) ∧ w = w' := by
  have g7 : (g.toList == [61]) = true := str_eq (l := [61]) hg
  have HE : Hid ((x == y) = decide (x = y)) := Lib.hid (by rw [Bool.eq_iff_iff]; simp)
  clear hg
  go_enter Tryd.func29, Tryd.ntmps29
  go_wp2_with (go_at_call 31; refine (bit_c _ _).mono ?_; rintro e w' ⟨rfl, rfl⟩)
  go_ret
  exact ⟨by rw [← HE.out]; rfl, rfl⟩
set_option maxRecDepth 100000 in
theorem rcmp_8 (g : ByteArray) (hg : g = dyG 8) (x y : Int) (w : World) : Calls Tryd.prog 29 #[.string g, .int .i64 x, .int .i64 y] w fun e w' => e = .returned (.int .i64 (bit (decide (x ≠ y)))) ∧ w = w' := by
  have g7 : (g.toList == [61]) = false := str_ne (l := [61]) (by rw [hg]; decide)
  have g8 : (g.toList == [226, 137, 160]) = true := str_eq (l := [226, 137, 160]) hg
  have HE : Hid ((x != y) = decide (x ≠ y)) := Lib.hid (by rw [Bool.eq_iff_iff]; simp)
  clear hg
  go_enter Tryd.func29, Tryd.ntmps29
  go_wp2_with (go_at_call 31; refine (bit_c _ _).mono ?_; rintro e w' ⟨rfl, rfl⟩)
  go_ret
  exact ⟨by rw [← HE.out]; rfl, rfl⟩
set_option maxRecDepth 100000 in
theorem rcmp_9 (g : ByteArray) (hg : g = dyG 9) (x y : Int) (w : World) : Calls Tryd.prog 29 #[.string g, .int .i64 x, .int .i64 y] w fun e w' => e = .returned (.int .i64 (bit (decide (x < y)))) ∧ w = w' := by
  have g7 : (g.toList == [61]) = false := str_ne (l := [61]) (by rw [hg]; decide)
  have g8 : (g.toList == [226, 137, 160]) = false := str_ne (l := [226, 137, 160]) (by rw [hg]; decide)
  have g9 : (g.toList == [60]) = true := str_eq (l := [60]) hg
  clear hg
  go_enter Tryd.func29, Tryd.ntmps29
  go_wp2_with (go_at_call 31; refine (bit_c _ _).mono ?_; rintro e w' ⟨rfl, rfl⟩)
  go_ret
  exact ⟨rfl, rfl⟩
set_option maxRecDepth 100000 in
theorem rcmp_10 (g : ByteArray) (hg : g = dyG 10) (x y : Int) (w : World) : Calls Tryd.prog 29 #[.string g, .int .i64 x, .int .i64 y] w fun e w' => e = .returned (.int .i64 (bit (decide (y < x)))) ∧ w = w' := by
  have g7 : (g.toList == [61]) = false := str_ne (l := [61]) (by rw [hg]; decide)
  have g8 : (g.toList == [226, 137, 160]) = false := str_ne (l := [226, 137, 160]) (by rw [hg]; decide)
  have g9 : (g.toList == [60]) = false := str_ne (l := [60]) (by rw [hg]; decide)
  have g10 : (g.toList == [62]) = true := str_eq (l := [62]) hg
  clear hg
  go_enter Tryd.func29, Tryd.ntmps29
  go_wp2_with (go_at_call 31; refine (bit_c _ _).mono ?_; rintro e w' ⟨rfl, rfl⟩)
  go_ret
  exact ⟨rfl, rfl⟩
set_option maxRecDepth 100000 in
theorem rcmp_11 (g : ByteArray) (hg : g = dyG 11) (x y : Int) (w : World) : Calls Tryd.prog 29 #[.string g, .int .i64 x, .int .i64 y] w fun e w' => e = .returned (.int .i64 (bit (decide (x ≤ y)))) ∧ w = w' := by
  have g7 : (g.toList == [61]) = false := str_ne (l := [61]) (by rw [hg]; decide)
  have g8 : (g.toList == [226, 137, 160]) = false := str_ne (l := [226, 137, 160]) (by rw [hg]; decide)
  have g9 : (g.toList == [60]) = false := str_ne (l := [60]) (by rw [hg]; decide)
  have g10 : (g.toList == [62]) = false := str_ne (l := [62]) (by rw [hg]; decide)
  have g11 : (g.toList == [226, 137, 164]) = true := str_eq (l := [226, 137, 164]) hg
  clear hg
  go_enter Tryd.func29, Tryd.ntmps29
  go_wp2_with (go_at_call 31; refine (bit_c _ _).mono ?_; rintro e w' ⟨rfl, rfl⟩)
  go_ret
  exact ⟨rfl, rfl⟩
set_option maxRecDepth 100000 in
theorem rcmp_12 (g : ByteArray) (hg : g = dyG 12) (x y : Int) (w : World) : Calls Tryd.prog 29 #[.string g, .int .i64 x, .int .i64 y] w fun e w' => e = .returned (.int .i64 (bit (decide (y ≤ x)))) ∧ w = w' := by
  have g7 : (g.toList == [61]) = false := str_ne (l := [61]) (by rw [hg]; decide)
  have g8 : (g.toList == [226, 137, 160]) = false := str_ne (l := [226, 137, 160]) (by rw [hg]; decide)
  have g9 : (g.toList == [60]) = false := str_ne (l := [60]) (by rw [hg]; decide)
  have g10 : (g.toList == [62]) = false := str_ne (l := [62]) (by rw [hg]; decide)
  have g11 : (g.toList == [226, 137, 164]) = false := str_ne (l := [226, 137, 164]) (by rw [hg]; decide)
  clear hg
  go_enter Tryd.func29, Tryd.ntmps29
  go_wp2_with (go_at_call 31; refine (bit_c _ _).mono ?_; rintro e w' ⟨rfl, rfl⟩)
  go_ret
  exact ⟨rfl, rfl⟩
end Go.Proofs.YtjafngieohpdaaaDoor.Nu
