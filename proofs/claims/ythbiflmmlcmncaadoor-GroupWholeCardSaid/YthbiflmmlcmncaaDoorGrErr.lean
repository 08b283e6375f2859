/- errors.As at group's wrapped fault; the number of an error (by wip/gen/gr_err.py). -/
import Derived.Test.YthbiflmmlcmncaaDoorGrAs
namespace Go.Proofs.YthbiflmmlcmncaaDoor
open Go Go.RowKit Go.Extern.Stop Go.Stop Go.Extern

/-- What is wrong with a bracket. -/
abbrev wrongV (at_ n : Int) : Value := .iface 75 (.agg #[.int .i64 at_, .iface 73 (.int .i64 n)])
theorem Tryd.asTypeOfW (v : Value) (w : World) : (ReflectliteType.typeOf #[.iface 75 v]).run Tryd.prog w = .ok (.iface 121 (.agg #[.pointer (some ⟨1, 75, none⟩)])) w := by kernel_rfl
theorem Tryd.asAssignW (w : World) : (ReflectliteType.relation "AssignableTo" ReflectliteType.assignableTo #[.agg #[.pointer (some ⟨1, 75, none⟩)], .iface 121 (.agg #[.pointer (some ⟨1, 73, none⟩)])]).run Tryd.prog w = .ok (.bool false) w := by kernel_rfl
theorem Tryd.noAsW (v : Value) (xT : TypeId) (w : World) : (Instr.typeAssert (.iface 75 v) xT 126 true).run Tryd.prog w = .ok (.tuple #[.nilIface, .bool false]) w := run_typeAssert_lacksB Tryd.underlying126 (by kernel_rfl) (by kernel_rfl) v xT w
theorem Tryd.unwrapW (v : Value) (xT : TypeId) (w : World) : (Instr.typeAssert (.iface 75 v) xT 129 true).run Tryd.prog w = .ok (.tuple #[.iface 75 v, .bool true]) w := run_typeAssert_hasB Tryd.underlying129 (by kernel_rfl) v xT w
theorem Tryd.methodUnwrapW (v : Value) (w : World) : (Go.method 263 75 v "Unwrap").run Tryd.prog w = .ok (94, v) w := by kernel_rfl
theorem unwrap_c (a n : Int) (w : World) : Calls Tryd.prog 94 #[.agg #[.int .i64 a, .iface 73 (.int .i64 n)]] w fun e w' => e = .returned (.iface 73 (.int .i64 n)) ∧ w' = w.alloc (.cells #[.int .i64 a, .iface 73 (.int .i64 n)] 75) := by
  go_enter Tryd.func94, Tryd.ntmps94
  go_wp2
  go_ret
  exact ⟨rfl, rfl⟩

set_option maxHeartbeats 4000000 in
set_option maxRecDepth 100000 in
/-- errors.As(wrong{at, a fault}, &f): true; f is the fault. -/
theorem as_wrap (t : Nat) (at_ n m : Int) (w : World) (hg : ErrT w) (ht : w.heap[t]? = some (.cells #[.int .i64 m] 73 (0, 0))) :
    Calls Tryd.prog 42 #[wrongV at_ n, .iface 77 (.pointer (some ⟨t, 0, none⟩))] w fun ev w' => ev = .returned (.bool true) ∧ w'.cell? ⟨t, 0, none⟩ = some (.int .i64 n) ∧ Below t w w' := by
  have h6 := @run_callFunc_extern Tryd.prog 60 _ (fun args => ReflectliteValue.unpack (args.getD 0 (.tuple #[]))) Tryd.func60 (by kernel_rfl) (by kernel_rfl) (by kernel_rfl) (by kernel_rfl)
  have h7 := @run_callFunc_extern Tryd.prog 61 _ (ReflectliteValue.methodAny (ReflectliteValue.valueError "reflectlite.Value.Type" 0) (fun t _ _ _ => ReflectliteType.toType t)) Tryd.func61 (by kernel_rfl) (by kernel_rfl) (by kernel_rfl) (by kernel_rfl)
  have h8 := @run_callFunc_extern Tryd.prog 62 _ (ReflectliteValue.method (ReflectliteValue.valueError "reflectlite.Value.IsNil" 0) ReflectliteValue.isNil) Tryd.func62 (by kernel_rfl) (by kernel_rfl) (by kernel_rfl) (by kernel_rfl)
  have h27 := @run_callFunc_extern Tryd.prog 89 _ (ReflectliteType.abiMethod fun t => do pure (.int .u8 (← Rtype.kind t))) Tryd.func89 (by kernel_rfl) (by kernel_rfl) (by kernel_rfl) (by kernel_rfl)
  have h37 := @run_callFunc_extern Tryd.prog 101 _ (ReflectliteType.method ReflectliteType.elem) Tryd.func101 (by kernel_rfl) (by kernel_rfl) (by kernel_rfl) (by kernel_rfl)
  have h38 := @run_callFunc_extern Tryd.prog 102 _ (ReflectliteType.relation "Implements" ReflectliteType.implements_) Tryd.func102 (by kernel_rfl) (by kernel_rfl) (by kernel_rfl) (by kernel_rfl)
  have h10 := @run_callFunc_extern Tryd.prog 72 _ ReflectliteType.typeOf Tryd.func72 (by kernel_rfl) (by kernel_rfl) (by kernel_rfl) (by kernel_rfl)
  have h35 := @run_callFunc_extern Tryd.prog 99 _ (ReflectliteType.relation "AssignableTo" ReflectliteType.assignableTo) Tryd.func99 (by kernel_rfl) (by kernel_rfl) (by kernel_rfl) (by kernel_rfl)
  have h11 := @run_callFunc_extern Tryd.prog 73 _ (ReflectliteValue.method (ReflectliteValue.valueError "reflectlite.Value.Elem" 0) ReflectliteValue.elem) Tryd.func73 (by kernel_rfl) (by kernel_rfl) (by kernel_rfl) (by kernel_rfl)
  have h12 := @run_callFunc_extern Tryd.prog 74 _ ReflectliteValue.set Tryd.func74 (by kernel_rfl) (by kernel_rfl) (by kernel_rfl) (by kernel_rfl)
  have tO := Tryd.asTypeOfF
  have mA := Tryd.asMethodAssign
  have a25 := Tryd.asAssignF
  have v25 := Tryd.asValueOfF
  have tW := Tryd.asTypeOfW
  have aW := Tryd.asAssignW
  have nA := Tryd.noAsW
  have uW := Tryd.unwrapW
  have mU := Tryd.methodUnwrapW
  have f6 := Tryd.asValueOfP
  have f7 := Tryd.asTypeP
  have mK := Tryd.asMethodKind
  have mE := Tryd.asMethodElem
  have mI := Tryd.asMethodImpl
  have k27 := Tryd.asKindP
  have k25 := Tryd.asKindF
  have e27 := Tryd.asElemP
  have i25 := Tryd.asImplF
  obtain ⟨hgc, hlt⟩ := hg
  have htl : t < w.heap.size := (Array.getElem?_eq_some_iff.1 ht).1
  obtain ⟨W1, hW1⟩ : ∃ W1, W1 = (w.alloc (.cells #[.pointer (some ⟨t, 0, none⟩)] 77)).alloc (.cells #[.pointer (some ⟨1, 77, none⟩), .pointer (some ⟨w.heap.size, 0, none⟩), .int .u64 150] 99) := ⟨_, rfl⟩
  have n8 := Tryd.asIsNilP ⟨w.heap.size, 0, none⟩ ⟨t, 0, none⟩ ((w.alloc (.cells #[.pointer (some ⟨t, 0, none⟩)] 77)).alloc (.cells #[.pointer (some ⟨1, 77, none⟩), .pointer (some ⟨w.heap.size, 0, none⟩), .int .u64 150] 99)) (by simp)
  have hg2 : ((w.alloc (.cells #[.pointer (some ⟨t, 0, none⟩)] 77)).alloc (.cells #[.pointer (some ⟨1, 77, none⟩), .pointer (some ⟨w.heap.size, 0, none⟩), .int .u64 150] 99)).cell? ⟨0, 0, none⟩ = some (.iface 121 (.agg #[.pointer (some ⟨1, 47, none⟩)])) := by
    rw [World.cell?_alloc_lt _ _ ⟨0, 0, none⟩ (by simp), World.cell?_alloc_lt _ _ ⟨0, 0, none⟩ hlt]; exact hgc
  have el := Tryd.asElemVP ⟨w.heap.size, 0, none⟩ ⟨t, 0, none⟩ (((w.alloc (.cells #[.pointer (some ⟨t, 0, none⟩)] 77)).alloc (.cells #[.pointer (some ⟨1, 77, none⟩), .pointer (some ⟨w.heap.size, 0, none⟩), .int .u64 150] 99)).alloc (.cells #[.pointer (some ⟨1, 77, none⟩), .pointer (some ⟨w.heap.size, 0, none⟩), .int .u64 150] 99)) (by rw [World.cell?_alloc_lt _ _ ⟨w.heap.size, 0, none⟩ (by simp; omega)]; simp)
  obtain ⟨V, hV⟩ : ∃ V, V = ((w.alloc (.cells #[.pointer (some ⟨t, 0, none⟩)] 77)).alloc (.cells #[.pointer (some ⟨1, 77, none⟩), .pointer (some ⟨w.heap.size, 0, none⟩), .int .u64 150] 99)).alloc (.cells #[.pointer (some ⟨1, 77, none⟩), .pointer (some ⟨w.heap.size, 0, none⟩), .int .u64 150] 99) := ⟨_, rfl⟩
  have hVs : V.heap.size = w.heap.size + 1 + 1 + 1 := by rw [hV]; simp
  have hVb : Below w.heap.size w V := by
    rw [hV]
    exact (((Below.refl _ w).alloc (Nat.le_refl _) _).alloc (by simp) _).alloc (by simp; omega) _
  have hVt : V.heap[t]? = some (.cells #[.int .i64 m] 73 (0, 0)) := (hVb.block t htl).trans ht
  obtain ⟨V2, hV2⟩ : ∃ V2, V2 = V.alloc (.cells #[.int .i64 at_, .iface 73 (.int .i64 n)] 75) := ⟨_, rfl⟩
  have hV2s : V2.heap.size = w.heap.size + 1 + 1 + 1 + 1 := by rw [hV2]; simp [hVs]
  have hV2b : Below w.heap.size w V2 := by rw [hV2]; exact hVb.alloc (by omega) _
  have hV2t : V2.heap[t]? = some (.cells #[.int .i64 m] 73 (0, 0)) := (hV2b.block t htl).trans ht
  have st := Tryd.asSetF t (w.heap.size + 1 + 1 + 1 + 1) n m (V2.alloc (.cells #[.int .i64 n] 73)) (by rw [← hV2s]; exact World.alloc_heap_new V2 _) ((Below.heap_alloc V2 _ t (by omega)).trans hV2t)
  have el2 := Tryd.asElemVP ⟨w.heap.size, 0, none⟩ ⟨t, 0, none⟩ V2 (by rw [hV2, World.cell?_alloc_lt _ _ ⟨w.heap.size, 0, none⟩ (by show w.heap.size < V.heap.size; omega), hV, World.cell?_alloc_lt _ _ ⟨w.heap.size, 0, none⟩ (by simp; omega)]; simp)
  have hfin : ((V2.alloc (.cells #[.int .i64 n] 73)).setRow t #[.int .i64 n]).cell? ⟨t, 0, none⟩ = some (.int .i64 n) ∧ Below t w ((V2.alloc (.cells #[.int .i64 n] 73)).setRow t #[.int .i64 n]) := by
    refine ⟨cell_setRow_same _ t 0 _ _ _ (0, 0) ((Below.heap_alloc V2 _ t (by omega)).trans hV2t), ?_⟩
    exact below_setRow ((hV2b.mono (Nat.le_of_lt htl)).alloc (by omega) _) (Nat.le_refl _) _
  have HF := Lib.hid hfin
  clear hfin hVb hVt ht hVs hgc hW1 W1 hV2b hV2t hV2s
  rw [hV2, hV] at st HF el2
  clear hV2 V2 hV V
  go_enter Tryd.func42, Tryd.ntmps42
  go_wp2
  refine wp_loop_rounds 2 ?_
  rw [rounds_succ]
  go_wp2_with (go_at_call 94; refine (unwrap_c _ _ _).mono ?_; rintro e w' ⟨rfl, rfl⟩)
  rw [rounds_succ]
  go_wp2
  go_ret
  exact ⟨rfl, HF.out.1, HF.out.2⟩

set_option maxRecDepth 100000 in
theorem number_nil (w : World) : Calls Tryd.prog 28 #[.nilIface] w fun e w' => e = .returned (.int .i64 0) ∧ Below w.heap.size w w' := by
  go_enter Tryd.func28, Tryd.ntmps28
  go_wp2_with (go_at_call 42; refine (as_nil _ _).mono ?_; rintro e w' ⟨rfl, rfl⟩)
  go_ret
  exact ⟨rfl, (Below.refl _ _).alloc (Nat.le_refl _) _⟩
set_option maxRecDepth 100000 in
theorem number_fault (a n : Int) (w : World) (hg : ErrT w) : Calls Tryd.prog 28 #[wrongV a n] w fun e w' => e = .returned (.int .i64 n) ∧ Below w.heap.size w w' := by
  have hc := as_wrap w.heap.size a n 0 (w.alloc (.cells #[.int .i64 0] 73)) (hg.below ((Below.refl (0 + 1) w).alloc hg.2 _) (by omega)) (World.alloc_heap_new w _)
  have HC := Lib.hid hc
  clear hc
  go_enter Tryd.func28, Tryd.ntmps28
  go_wp2_with (go_at_call 42; refine HC.out.mono ?_; rintro e w1 ⟨rfl, hc1, hb1⟩)
  have HB := Lib.hid hb1
  clear hb1
  go_ret
  exact ⟨rfl, ((Below.refl _ w).alloc (Nat.le_refl _) _).trans HB.out⟩
end Go.Proofs.YthbiflmmlcmncaaDoor
