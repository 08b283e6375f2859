/- The program: what callers are told of what is wrong. -/
import Derived.Test.YtbegplfijjbpcaaDoorChecked
import Derived.WalkKit
import Derived.LaidEql
import Derived.Stop.Asserts
import Derived.RowKitTokens
import Derived.RangeFuncRecord
import Derived.Below
import Derived.Lib.Hide
namespace Go.Proofs.YtbegplfijjbpcaaDoor.No
open Go.RowKit Go.Extern.Stop Go.Stop Go.Extern Go

theorem Tryd.isTypeOf (v : Value) (w : World) : (Extern.ReflectliteType.typeOf #[.iface 136 v]).run Tryd.prog w = .ok (.iface 111 (.agg #[.pointer (some ⟨4, 136, none⟩)])) w := by kernel_rfl
def cmpM : Array Value → Sem Value := Extern.ReflectliteType.method fun t => do Extern.Rtype.noPackHeld "Comparable" t; pure (.bool (← typeInfo t).comparable)
theorem Tryd.isComparable (w : World) : (cmpM #[.agg #[.pointer (some ⟨4, 136, none⟩)]]).run Tryd.prog w = .ok (.bool true) w := by kernel_rfl
theorem Tryd.isMethodComparable (v : Value) (w : World) : (Go.method 271 111 v "Comparable").run Tryd.prog w = .ok (101, v) w := by kernel_rfl
theorem Tryd.isComp : (Tryd.prog.info? 136).map (·.comparable) = some true := by kernel_rfl
theorem Tryd.isSize : (Tryd.prog.info? 159).map (·.size) = some 1 := by kernel_rfl
theorem Tryd.noIsW (v : Value) (xT : TypeId) (w : World) : (Instr.typeAssert (.iface 70 v) xT 113 true).run Tryd.prog w = .ok (.tuple #[.nilIface, .bool false]) w := run_typeAssert_lacksB Tryd.underlying113 (by kernel_rfl) (by kernel_rfl) v xT w
theorem Tryd.unwrapW (v : Value) (xT : TypeId) (w : World) : (Instr.typeAssert (.iface 70 v) xT 116 true).run Tryd.prog w = .ok (.tuple #[.iface 70 v, .bool true]) w := run_typeAssert_hasB Tryd.underlying116 (by kernel_rfl) v xT w
theorem Tryd.methodUnwrapW (v : Value) (w : World) : (Go.method 271 70 v "Unwrap").run Tryd.prog w = .ok (97, v) w := by kernel_rfl
/-- An error value of the sentinel's type. -/
abbrev errV (a : Addr) : Value := .iface 136 (.pointer (some a))
/-- THE SENTINEL LIES. -/
def EN (w : World) (a : Addr) : Prop := w.cell? ⟨0, 0, none⟩ = some (errV a) ∧ 0 < w.heap.size
theorem EN.below {w w' : World} {a : Addr} (h : EN w a) (hb : Below w.heap.size w w') : EN w' a := ⟨(hb.cell (p := ⟨0, 0, none⟩) h.2).trans h.1, Nat.lt_of_lt_of_le h.2 hb.size⟩
theorem EN.drew {w : World} {a : Addr} (h : EN w a) : EN w.drew a := h
theorem unwrap_c (p : Int) (s : ByteArray) (a : Addr) (w : World) (h : EN w a) : Calls Tryd.prog 97 #[.agg #[.int .i64 p, .string s]] w fun e w' => e = .returned (errV a) ∧ w' = w.alloc (.cells #[.int .i64 p, .string s] 70) := by
  have c1 := h.1
  have h1 := h.2
  clear h
  go_enter Tryd.func97, Tryd.ntmps97
  go_wp2
  go_ret
  exact ⟨rfl, rfl⟩
set_option maxRecDepth 100000 in
theorem is_nil (a : Addr) (w : World) :
    Calls Tryd.prog 56 #[.nilIface, errV a] w fun e w' => e = .returned (.bool false) ∧ w = w' := by
  have heq := run_eql_iface_nil_left (P := Tryd.prog) w 136 (.pointer (some a)) Tryd.underlying45
  go_enter Tryd.func56, Tryd.ntmps56
  go_wp2
  go_ret
  exact ⟨rfl, rfl⟩
set_option maxRecDepth 100000 in
set_option maxHeartbeats 4000000 in
/-- errors.Is(wrong, errNode). -/
theorem is_wrong (p : Int) (s : ByteArray) (a : Addr) (w : World) (h : EN w a) :
    Calls Tryd.prog 56 #[.iface 70 (.agg #[.int .i64 p, .string s]), errV a] w fun e w' => e = .returned (.bool true) ∧ Below w.heap.size w w' := by
  obtain ⟨i, hi, hcmp⟩ := Option.map_eq_some_iff.1 Tryd.isComp
  obtain ⟨j, hj, hjs⟩ := Option.map_eq_some_iff.1 Tryd.isSize
  have h8 := @run_callFunc_extern Tryd.prog 63 _ Extern.ReflectliteType.typeOf Tryd.func63 (by kernel_rfl) (by kernel_rfl) (by kernel_rfl) (by kernel_rfl)
  have h32 := @run_callFunc_extern Tryd.prog 101 _ cmpM Tryd.func101 (by kernel_rfl) (by kernel_rfl) (by kernel_rfl) (by kernel_rfl)
  have tT := Tryd.isTypeOf
  have cT := Tryd.isComparable
  have mR := Tryd.isMethodComparable
  have nI := Tryd.noIsW
  have uW := Tryd.unwrapW
  have mU := Tryd.methodUnwrapW
  have hne := run_eql_iface_types (P := Tryd.prog) 70 136 (.agg #[.int .i64 p, .string s]) (.pointer (some a)) Tryd.underlying45 (by decide) w
  have heq := run_eql_iface_ptr_same (P := Tryd.prog) (w.alloc (.cells #[.int .i64 p, .string s] 70)) a Tryd.underlying45 Tryd.underlying136 hi hcmp hj
  have hU := Lib.hid (unwrap_c p s a w h)
  clear h
  go_enter Tryd.func56, Tryd.ntmps56
  go_wp2
  refine wp_loop_rounds 2 ?_
  rw [rounds_succ]
  go_wp2_with (go_at_call 97; refine hU.out.mono ?_; rintro e w' ⟨rfl, rfl⟩)
  rw [rounds_succ]
  go_wp2
  go_ret
  exact ⟨rfl, (Below.refl _ w).alloc (Nat.le_refl _) _⟩
/-- number(err). -/
theorem number_nil (a : Addr) (w : World) (h : EN w a) : Calls Tryd.prog 40 #[.nilIface] w fun e w' => e = .returned (.int .i64 0) ∧ Below w.heap.size w w' := by
  have c1 := h.1
  clear h
  go_enter Tryd.func40, Tryd.ntmps40
  go_wp2_with (go_at_call 56; refine (is_nil _ _).mono ?_; rintro e w' ⟨rfl, rfl⟩)
  go_ret
  exact ⟨rfl, Below.refl _ _⟩
theorem number_wrong (p : Int) (s : ByteArray) (a : Addr) (w : World) (h : EN w a) : Calls Tryd.prog 40 #[.iface 70 (.agg #[.int .i64 p, .string s])] w fun e w' => e = .returned (.int .i64 70) ∧ Below w.heap.size w w' := by
  have c1 := h.1
  have hI := Lib.hid (is_wrong p s a w h)
  clear h
  go_enter Tryd.func40, Tryd.ntmps40
  go_wp2_with (go_at_call 56; refine hI.out.mono ?_; rintro e w' ⟨rfl, hb⟩; have HB := Lib.hid hb; clear hb)
  go_ret
  exact ⟨rfl, HB.out⟩
end Go.Proofs.YtbegplfijjbpcaaDoor.No
