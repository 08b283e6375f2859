/- The functions that stand in number's maps: what they share (by wip/gen/mknudo.py). -/
import Derived.Test.YthlkgfplffdiaaaGreatDoorNuChk2
import Derived.Test.YthlkgfplffdiaaaGreatDoorNuB
namespace Go.Proofs.YthlkgfplffdiaaaGreatDoor.Nu
open Go Go.RowKit Go.Shelf
attribute [local go_sem] Oper.semAt_some

/-- What a function answers. -/
def Out (a : Addr) (N : Int × Int) (w : World) (e : Ending) (w' : World) : Prop := ∃ v, e = .returned (.tuple #[.int .i64 N.1, v]) ∧ FailV a v N.2 ∧ Below w.heap.size w w'
theorem Out.mk {a : Addr} {N : Int × Int} {w w' : World} {v : Value} {n : Int} (h1 : n = N.1) (h2 : FailV a v N.2) (h3 : Below w.heap.size w w') : Out a N w (.returned (.tuple #[.int .i64 n, v])) w' := ⟨v, by rw [h1], h2, h3⟩
theorem failV_form (b : Bool) : failV b = .nilIface ∨ ∃ t z, failV b = .iface t z := by
  cases b
  · exact .inr ⟨_, _, rfl⟩
  · exact .inl rfl
theorem FailV.form {a : Addr} {v : Value} {c : Int} (h : FailV a v c) : v = .nilIface ∨ ∃ t z, v = .iface t z := by
  rcases h with ⟨_, rfl⟩ | ⟨_, rfl⟩ | ⟨_, _, rfl⟩
  · exact .inl rfl
  · exact .inr ⟨_, _, rfl⟩
  · exact .inr ⟨_, _, rfl⟩
theorem fail_ovr (a : Addr) (n m : Int) (hm : In n → m = n) : FailV a (failV (decide (In n))) (ovr n).2 ∧ okR (failV (decide (In n))) m = (ovr n).1 := by
  unfold ovr
  by_cases h : In n
  · rw [decide_eq_true h, if_pos h]
    exact ⟨.inl ⟨rfl, rfl⟩, hm h⟩
  · rw [decide_eq_false h, if_neg h]
    exact ⟨.inr (.inr ⟨by decide, by decide, rfl⟩), rfl⟩
theorem chk_sum (W : World) (x y : Int) (hx : In x) (hy : In y) : Chk W x y 125 (failV (decide (In (x + y)))) :=
  ⟨fun args w => enters_of Tryz.func125 (by kernel_rfl) rfl args w, fun W' _ => sumFits_c x y hx hy W'⟩
theorem chk_dif (W : World) (x y : Int) (hx : In x) (hy : In y) : Chk W x y 127 (failV (decide (In (x - y)))) :=
  ⟨fun args w => enters_of Tryz.func127 (by kernel_rfl) rfl args w, fun W' _ => difFits_c x y hx hy W'⟩
theorem chk_prod (W : World) (x y : Int) (hx : In x) (hy : In y) : Chk W x y 129 (failV (decide (In (x * y)))) :=
  ⟨fun args w => enters_of Tryz.func129 (by kernel_rfl) rfl args w, fun W' _ => prodFits_c x y hx hy W'⟩
theorem chk_opp (W : World) (x y : Int) (hy : In y) : Chk W x y 92 (failV (decide (In (-y)))) :=
  ⟨fun args w => enters_of Tryz.func92 (by kernel_rfl) rfl args w, fun W' _ => oppFits_c x y hy W'⟩
theorem chk_quo (W : World) (x y : Int)  : Chk W x y 131 (failV (x != -9223372036854775808 || y != -1)) :=
  ⟨fun args w => enters_of Tryz.func131 (by kernel_rfl) rfl args w, fun W' _ => quoFits_c x y W'⟩
theorem chk_div (W : World) (x y : Int)  : Chk W x y 97 (if (divR x y).2 = 101 then faultV 101 else .nilIface) :=
  ⟨fun args w => enters_of Tryz.func97 (by kernel_rfl) rfl args w, fun W' _ => divides_c x y W'⟩
theorem chk_bits (W : World) (x y : Int) (a : Addr) (hE : ES W a) : Chk W x y 100 (if isB x && isB y then .nilIface else errV a) :=
  ⟨fun args w => enters_of Tryz.func100 (by kernel_rfl) rfl args w, fun W' hb => areBits_c a x y W' (hE.below hb)⟩
end Go.Proofs.YthlkgfplffdiaaaGreatDoor.Nu
