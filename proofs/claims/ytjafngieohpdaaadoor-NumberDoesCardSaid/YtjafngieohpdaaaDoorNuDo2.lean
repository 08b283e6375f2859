/- The functions that stand in number's maps: by no check (by wip/gen/mknudo.py). -/
import Derived.Test.YtjafngieohpdaaaDoorNuDo
namespace Go.Proofs.YtjafngieohpdaaaDoor.Nu
open Go Go.RowKit Go.Shelf
attribute [local go_sem] Oper.semAt_some

set_option maxRecDepth 100000 in
theorem do_max (a : Addr) (x y : Int) (w : World) : Calls Tryd.prog 58 #[chkV x y] w fun e w' => Out a (max x y, 0) w e w' := by
  have HB := Lib.hid ((Below.refl w.heap.size w).alloc (Nat.le_refl _) (.cells #[.int .i64 x, .int .i64 y] 54))
  have HP := Lib.hid (fun n W => pass_0 x y n W)
  go_enter Tryd.func58, Tryd.ntmps58
  go_wp2_with (go_at_call 40; refine (HP.out _ _).mono ?_; rintro e w3 ⟨rfl, hb3⟩; have HB3 := Lib.hid hb3; clear hb3)
  all_goals go_ret2
  all_goals exact Out.mk (show _ = max x y by omega) (.inl ⟨rfl, rfl⟩) (HB.out.trans (HB3.out.mono HB.out.size))
set_option maxRecDepth 100000 in
theorem do_min (a : Addr) (x y : Int) (w : World) : Calls Tryd.prog 59 #[chkV x y] w fun e w' => Out a (min x y, 0) w e w' := by
  have HB := Lib.hid ((Below.refl w.heap.size w).alloc (Nat.le_refl _) (.cells #[.int .i64 x, .int .i64 y] 54))
  have HP := Lib.hid (fun n W => pass_0 x y n W)
  go_enter Tryd.func59, Tryd.ntmps59
  go_wp2_with (go_at_call 40; refine (HP.out _ _).mono ?_; rintro e w3 ⟨rfl, hb3⟩; have HB3 := Lib.hid hb3; clear hb3)
  all_goals go_ret2
  all_goals exact Out.mk (show _ = min x y by omega) (.inl ⟨rfl, rfl⟩) (HB.out.trans (HB3.out.mono HB.out.size))
set_option maxRecDepth 100000 in
theorem do_same (a : Addr) (x y : Int) (w : World) : Calls Tryd.prog 38 #[chkV x y] w fun e w' => Out a (y, 0) w e w' := by
  have HB := Lib.hid ((Below.refl w.heap.size w).alloc (Nat.le_refl _) (.cells #[.int .i64 x, .int .i64 y] 54))
  have HP := Lib.hid (fun n W => pass_0 x y n W)
  go_enter Tryd.func38, Tryd.ntmps38
  go_wp2_with (go_at_call 40; refine (HP.out _ _).mono ?_; rintro e w3 ⟨rfl, hb3⟩; have HB3 := Lib.hid hb3; clear hb3)
  all_goals go_ret2
  all_goals exact Out.mk (show _ = y by rfl) (.inl ⟨rfl, rfl⟩) (HB.out.trans (HB3.out.mono HB.out.size))
end Go.Proofs.YtjafngieohpdaaaDoor.Nu
