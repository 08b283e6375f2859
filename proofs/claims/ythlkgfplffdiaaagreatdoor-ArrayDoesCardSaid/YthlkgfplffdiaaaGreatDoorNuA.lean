/- Merged by gen/ar_merge.py: NuErr, NuTold, NuMath. -/
import Derived.Test.YthlkgfplffdiaaaGreatDoorChecked
import Derived.WalkKit
import Derived.LaidEql
import Derived.Stop.Asserts
import Derived.RowKitTokens
import Derived.Laws.Rows
import Derived.Laws.Tables
import Derived.Laws.CopyOwn
import Derived.RangeFuncRecord
import Derived.Below
import Derived.Lib.Hide
import Derived.Laws.Bits64
/- number's errors: errors.As at its fault, errors.Is at its sentinel; the number of an error (by wip/gen/mknuerr.py). -/
namespace Go.Proofs.YthlkgfplffdiaaaGreatDoor.Nu
open Go Go.RowKit Go.Extern.Stop Go.Stop Go.Extern

/-- errors.As(nil, target). -/
theorem as_nil (t : Value) (w : World) :
    Calls Tryz.prog 41 #[.nilIface, t] w fun e w' => e = .returned (.bool false) ∧ w = w' := by
  go_enter Tryz.func41, Tryz.ntmps41
  go_wp2
  go_ret
  exact ⟨rfl, rfl⟩

/-- THE TABLE of the interface error lies where the program's start lays it. -/
def ErrT (w : World) : Prop := w.cell? ⟨0, 0, none⟩ = some (.iface 130 (.agg #[.pointer (some ⟨8, 40, none⟩)])) ∧ 0 < w.heap.size
theorem ErrT.below {n : Nat} {w w' : World} (h : ErrT w) (hb : Below n w w') (hn : 0 < n) : ErrT w' :=
  ⟨(hb.cell (p := ⟨0, 0, none⟩) hn).trans h.1, Nat.lt_of_lt_of_le h.2 hb.size⟩

/-- What is wrong: words, and what it comes to. -/
abbrev faultV (n : Int) : Value := .iface 126 (.int .i64 n)
abbrev wrongV (s : ByteArray) (v : Value) : Value := .iface 125 (.agg #[.string s, v])
theorem Tryz.asValueOfP (t : Addr) (w : World) : (ReflectliteValue.unpack (.iface 128 (.pointer (some t)))).run Tryz.prog w
    = .ok (.agg #[.pointer (some ⟨8, 128, none⟩), .pointer (some ⟨w.heap.size, 0, none⟩), .int .u64 150]) (w.alloc (.cells #[.pointer (some t)] 128)) := by kernel_rfl
theorem Tryz.asTypeP (a : Addr) (w : World) : (ReflectliteValue.methodAny (ReflectliteValue.valueError "reflectlite.Value.Type" 0) (fun t _ _ _ => ReflectliteType.toType t) #[.agg #[.pointer (some ⟨8, 128, none⟩), .pointer (some a), .int .u64 150]]).run Tryz.prog w
    = .ok (.iface 130 (.agg #[.pointer (some ⟨8, 128, none⟩)])) w := by kernel_rfl
theorem Tryz.asMethodKind (h : Value) (w : World) : (Go.method 333 130 (.agg #[h]) "Kind").run Tryz.prog w = .ok (190, h) w := by kernel_rfl
theorem Tryz.asKindP (w : World) : ((ReflectliteType.abiMethod fun t => (fun a : Nat => Value.int IntKind.u8 (a : Int)) <$> Rtype.kind t) #[.pointer (some ⟨8, 128, none⟩)]).run Tryz.prog w = .ok (.int .u8 22) w := by kernel_rfl
theorem Tryz.asKindF (w : World) : ((ReflectliteType.abiMethod fun t => (fun a : Nat => Value.int IntKind.u8 (a : Int)) <$> Rtype.kind t) #[.pointer (some ⟨8, 126, none⟩)]).run Tryz.prog w = .ok (.int .u8 2) w := by kernel_rfl

theorem as_rlm (z : Sem Value) (f : TypeId → Addr → Nat → Nat → Sem Value) (v : Value) :
    ReflectliteValue.method z f #[v] = (do match ← ReflectliteValue.parts v with | none => z | some (t, a, fl) => f t a fl (fl % 32)) := rfl
theorem Tryz.asPartsP (a : Addr) (w : World) : (ReflectliteValue.parts (.agg #[.pointer (some ⟨8, 128, none⟩), .pointer (some a), .int .u64 150])).run Tryz.prog w = .ok (some (128, a, 150)) w := by kernel_rfl
theorem Tryz.asIsNilP (a p : Addr) (W : World) (ha : W.cell? a = some (.pointer (some p))) :
    (ReflectliteValue.method (ReflectliteValue.valueError "reflectlite.Value.IsNil" 0) ReflectliteValue.isNil #[.agg #[.pointer (some ⟨8, 128, none⟩), .pointer (some a), .int .u64 150]]).run Tryz.prog W = .ok (.bool false) W := by
  rw [as_rlm]
  simp only [Sem.run_bind, Tryz.asPartsP, Result.andThen]
  simp [ReflectliteValue.isNil, loadVar, isAgg, underlying, Tryz.underlying128, ha, Result.andThen]
theorem Tryz.asMethodElem (h : Value) (w : World) : (Go.method 333 130 (.agg #[h]) "Elem").run Tryz.prog w = .ok (206, .agg #[h]) w := by kernel_rfl
theorem Tryz.asMethodImpl (h : Value) (w : World) : (Go.method 333 130 (.agg #[h]) "Implements").run Tryz.prog w = .ok (207, .agg #[h]) w := by kernel_rfl
theorem Tryz.asMethodAssign (h : Value) (w : World) : (Go.method 333 130 (.agg #[h]) "AssignableTo").run Tryz.prog w = .ok (204, .agg #[h]) w := by kernel_rfl
theorem Tryz.asElemP (w : World) : (ReflectliteType.method ReflectliteType.elem #[.agg #[.pointer (some ⟨8, 128, none⟩)]]).run Tryz.prog w = .ok (.iface 130 (.agg #[.pointer (some ⟨8, 126, none⟩)])) w := by kernel_rfl
theorem Tryz.asImplF (w : World) : (ReflectliteType.relation "Implements" ReflectliteType.implements_ #[.agg #[.pointer (some ⟨8, 126, none⟩)], .iface 130 (.agg #[.pointer (some ⟨8, 40, none⟩)])]).run Tryz.prog w = .ok (.bool true) w := by kernel_rfl
theorem Tryz.asTypeOfF (v : Value) (w : World) : (ReflectliteType.typeOf #[.iface 126 v]).run Tryz.prog w = .ok (.iface 130 (.agg #[.pointer (some ⟨8, 126, none⟩)])) w := by kernel_rfl
theorem Tryz.asAssignF (w : World) : (ReflectliteType.relation "AssignableTo" ReflectliteType.assignableTo #[.agg #[.pointer (some ⟨8, 126, none⟩)], .iface 130 (.agg #[.pointer (some ⟨8, 126, none⟩)])]).run Tryz.prog w = .ok (.bool true) w := by kernel_rfl
theorem Tryz.asValueOfF (n : Int) (w : World) : (ReflectliteValue.unpack (.iface 126 (.int .i64 n))).run Tryz.prog w
    = .ok (.agg #[.pointer (some ⟨8, 126, none⟩), .pointer (some ⟨w.heap.size, 0, none⟩), .int .u64 130]) (w.alloc (.cells #[.int .i64 n] 126)) := by kernel_rfl
theorem Tryz.asElemOfP (w : World) : (Rtype.elem? 128).run Tryz.prog w = .ok (some 126) w := by kernel_rfl
theorem Tryz.asMkF (p : Addr) (w : World) : (ReflectliteValue.mk 126 p ReflectliteValue.flagAddr).run Tryz.prog w = .ok (.agg #[.pointer (some ⟨8, 126, none⟩), .pointer (some p), .int .u64 386]) w := by kernel_rfl
theorem Tryz.asElemVP (a p : Addr) (W : World) (ha : W.cell? a = some (.pointer (some p))) :
    (ReflectliteValue.method (ReflectliteValue.valueError "reflectlite.Value.Elem" 0) ReflectliteValue.elem #[.agg #[.pointer (some ⟨8, 128, none⟩), .pointer (some a), .int .u64 150]]).run Tryz.prog W
      = .ok (.agg #[.pointer (some ⟨8, 126, none⟩), .pointer (some p), .int .u64 386]) W := by
  rw [as_rlm]
  simp only [Sem.run_bind, Tryz.asPartsP, Result.andThen]
  simp [ReflectliteValue.elem, loadVar, isAgg, underlying, Tryz.underlying128, ha, Result.andThen, Tryz.asElemOfP, Tryz.asMkF]
theorem as_rls (v x : Value) : ReflectliteValue.set #[v, x] = (do
    let (some (dst, a, fl), some (src, b, _)) := (← ReflectliteValue.parts v, ← ReflectliteValue.parts x)
      | unsupported (.noEntry "extern/(internal/reflectlite.Value).Set.zeroValue")
    if fl / ReflectliteValue.flagAddr % 2 == 0 then unsupported (.noEntry "extern/(internal/reflectlite.Value).Set.unaddressable")
    let val ← loadVar src b
    if ← Rtype.directlyAssignable dst src then storeVar dst a val
    else if ← Rtype.implements dst src then
      if (← Rtype.kind src) == 20 then
        match val with
        | .nilIface => unsupported (.noEntry "extern/reflectlite: a nil value of one interface type handed on as a value of another")
        | _ => storeVar dst a val
      else storeVar dst a (.iface src val)
    else panicString ("reflectlite.Set: value of type " ++ (← Rtype.spelt src) ++ " is not assignable to type " ++ (← Rtype.spelt dst))
    pure (.tuple #[])) := rfl
theorem Tryz.asPartsFa (a : Addr) (w : World) : (ReflectliteValue.parts (.agg #[.pointer (some ⟨8, 126, none⟩), .pointer (some a), .int .u64 386])).run Tryz.prog w = .ok (some (126, a, 386)) w := by kernel_rfl
theorem Tryz.asPartsF (a : Addr) (w : World) : (ReflectliteValue.parts (.agg #[.pointer (some ⟨8, 126, none⟩), .pointer (some a), .int .u64 130])).run Tryz.prog w = .ok (some (126, a, 130)) w := by kernel_rfl
theorem Tryz.asDirectF (w : World) : (Rtype.directlyAssignable 126 126).run Tryz.prog w = .ok true w := by kernel_rfl
theorem Tryz.infoFault : (Tryz.prog.info? 126).map (·.size) = some 1 := by kernel_rfl
/-- (Value).Set: the fault at the block t gets what the Value's own variable b holds. -/
theorem Tryz.asSetF (t b : Nat) (n m : Int) (W : World) (hb : W.heap[b]? = some (.cells #[.int .i64 n] 126 (0, 0))) (ht : W.heap[t]? = some (.cells #[.int .i64 m] 126 (0, 0))) :
    (ReflectliteValue.set #[.agg #[.pointer (some ⟨8, 126, none⟩), .pointer (some ⟨t, 0, none⟩), .int .u64 386], .agg #[.pointer (some ⟨8, 126, none⟩), .pointer (some ⟨b, 0, none⟩), .int .u64 130]]).run Tryz.prog W
      = .ok (.tuple #[]) (W.setRow t #[.int .i64 n]) := by
  have hl : (loadVar 126 ⟨b, 0, none⟩).run Tryz.prog W = .ok (.int .i64 n) W := by
    have hcell : W.cell? ⟨b, 0, none⟩ = some (.int .i64 n) := by simp [World.cell?, hb]
    have hagg : (isAgg 126).run Tryz.prog W = .ok false W := by
      unfold isAgg
      rw [Sem.run_bind, run_underlying Tryz.underlying126 W]
      rfl
    simp [loadVar, Sem.run_bind, hagg, Result.andThen, run_load, hcell]
  have hs : (storeVar 126 ⟨t, 0, none⟩ (.int .i64 n)).run Tryz.prog W = .ok () (W.setRow t #[.int .i64 n]) :=
    run_storeVar_row W t _ 126 _ _ ht Tryz.infoFault rfl (by simp [Value.oneCell'])
  rw [as_rls]
  simp only [Sem.run_bind, Tryz.asPartsFa, Tryz.asPartsF, Result.andThen]
  simp [ReflectliteValue.flagAddr, hl, hs, Result.andThen, Tryz.asDirectF]

theorem Tryz.asTypeOfW (v : Value) (w : World) : (ReflectliteType.typeOf #[.iface 125 v]).run Tryz.prog w = .ok (.iface 130 (.agg #[.pointer (some ⟨8, 125, none⟩)])) w := by kernel_rfl
theorem Tryz.asAssignW (w : World) : (ReflectliteType.relation "AssignableTo" ReflectliteType.assignableTo #[.agg #[.pointer (some ⟨8, 125, none⟩)], .iface 130 (.agg #[.pointer (some ⟨8, 126, none⟩)])]).run Tryz.prog w = .ok (.bool false) w := by kernel_rfl
theorem Tryz.noAsW (v : Value) (xT : TypeId) (w : World) : (Instr.typeAssert (.iface 125 v) xT 135 true).run Tryz.prog w = .ok (.tuple #[.nilIface, .bool false]) w := run_typeAssert_lacksB Tryz.underlying135 (by kernel_rfl) (by kernel_rfl) v xT w
theorem Tryz.unwrapW (v : Value) (xT : TypeId) (w : World) : (Instr.typeAssert (.iface 125 v) xT 138 true).run Tryz.prog w = .ok (.tuple #[.iface 125 v, .bool true]) w := run_typeAssert_hasB Tryz.underlying138 (by kernel_rfl) v xT w
theorem Tryz.methodUnwrapW (v : Value) (w : World) : (Go.method 333 125 v "Unwrap").run Tryz.prog w = .ok (201, v) w := by kernel_rfl
theorem unwrap_c (s : ByteArray) (v : Value) (w : World) (hv : ∃ x y, v = .iface x y) : Calls Tryz.prog 201 #[.agg #[.string s, v]] w fun e w' => e = .returned v ∧ w' = w.alloc (.cells #[.string s, v] 125) := by
  obtain ⟨x, y, rfl⟩ := hv
  go_enter Tryz.func201, Tryz.ntmps201
  go_wp2
  go_ret
  exact ⟨rfl, rfl⟩

set_option maxHeartbeats 4000000 in
set_option maxRecDepth 100000 in
/-- errors.As(wrong{words, a fault}, &f): true; f is the fault. -/
theorem as_wrap (t : Nat) (s : ByteArray) (n m : Int) (w : World) (hg : ErrT w) (ht : w.heap[t]? = some (.cells #[.int .i64 m] 126 (0, 0))) :
    Calls Tryz.prog 41 #[wrongV s (faultV n), .iface 128 (.pointer (some ⟨t, 0, none⟩))] w fun ev w' => ev = .returned (.bool true) ∧ w'.cell? ⟨t, 0, none⟩ = some (.int .i64 n) ∧ Below t w w' := by
  have h6 := @run_callFunc_extern Tryz.prog 66 _ (fun args => ReflectliteValue.unpack (args.getD 0 (.tuple #[]))) Tryz.func66 (by kernel_rfl) (by kernel_rfl) (by kernel_rfl) (by kernel_rfl)
  have h7 := @run_callFunc_extern Tryz.prog 67 _ (ReflectliteValue.methodAny (ReflectliteValue.valueError "reflectlite.Value.Type" 0) (fun t _ _ _ => ReflectliteType.toType t)) Tryz.func67 (by kernel_rfl) (by kernel_rfl) (by kernel_rfl) (by kernel_rfl)
  have h8 := @run_callFunc_extern Tryz.prog 68 _ (ReflectliteValue.method (ReflectliteValue.valueError "reflectlite.Value.IsNil" 0) ReflectliteValue.isNil) Tryz.func68 (by kernel_rfl) (by kernel_rfl) (by kernel_rfl) (by kernel_rfl)
  have h27 := @run_callFunc_extern Tryz.prog 190 _ (ReflectliteType.abiMethod fun t => do pure (.int .u8 (← Rtype.kind t))) Tryz.func190 (by kernel_rfl) (by kernel_rfl) (by kernel_rfl) (by kernel_rfl)
  have h37 := @run_callFunc_extern Tryz.prog 206 _ (ReflectliteType.method ReflectliteType.elem) Tryz.func206 (by kernel_rfl) (by kernel_rfl) (by kernel_rfl) (by kernel_rfl)
  have h38 := @run_callFunc_extern Tryz.prog 207 _ (ReflectliteType.relation "Implements" ReflectliteType.implements_) Tryz.func207 (by kernel_rfl) (by kernel_rfl) (by kernel_rfl) (by kernel_rfl)
  have h10 := @run_callFunc_extern Tryz.prog 104 _ ReflectliteType.typeOf Tryz.func104 (by kernel_rfl) (by kernel_rfl) (by kernel_rfl) (by kernel_rfl)
  have h35 := @run_callFunc_extern Tryz.prog 204 _ (ReflectliteType.relation "AssignableTo" ReflectliteType.assignableTo) Tryz.func204 (by kernel_rfl) (by kernel_rfl) (by kernel_rfl) (by kernel_rfl)
  have h11 := @run_callFunc_extern Tryz.prog 105 _ (ReflectliteValue.method (ReflectliteValue.valueError "reflectlite.Value.Elem" 0) ReflectliteValue.elem) Tryz.func105 (by kernel_rfl) (by kernel_rfl) (by kernel_rfl) (by kernel_rfl)
  have h12 := @run_callFunc_extern Tryz.prog 106 _ ReflectliteValue.set Tryz.func106 (by kernel_rfl) (by kernel_rfl) (by kernel_rfl) (by kernel_rfl)
  have tO := Tryz.asTypeOfF
  have mA := Tryz.asMethodAssign
  have a25 := Tryz.asAssignF
  have v25 := Tryz.asValueOfF
  have tW := Tryz.asTypeOfW
  have aW := Tryz.asAssignW
  have nA := Tryz.noAsW
  have uW := Tryz.unwrapW
  have mU := Tryz.methodUnwrapW
  have f6 := Tryz.asValueOfP
  have f7 := Tryz.asTypeP
  have mK := Tryz.asMethodKind
  have mE := Tryz.asMethodElem
  have mI := Tryz.asMethodImpl
  have k27 := Tryz.asKindP
  have k25 := Tryz.asKindF
  have e27 := Tryz.asElemP
  have i25 := Tryz.asImplF
  obtain ⟨hgc, hlt⟩ := hg
  have htl : t < w.heap.size := (Array.getElem?_eq_some_iff.1 ht).1
  obtain ⟨W1, hW1⟩ : ∃ W1, W1 = (w.alloc (.cells #[.pointer (some ⟨t, 0, none⟩)] 128)).alloc (.cells #[.pointer (some ⟨8, 128, none⟩), .pointer (some ⟨w.heap.size, 0, none⟩), .int .u64 150] 99) := ⟨_, rfl⟩
  have n8 := Tryz.asIsNilP ⟨w.heap.size, 0, none⟩ ⟨t, 0, none⟩ ((w.alloc (.cells #[.pointer (some ⟨t, 0, none⟩)] 128)).alloc (.cells #[.pointer (some ⟨8, 128, none⟩), .pointer (some ⟨w.heap.size, 0, none⟩), .int .u64 150] 99)) (by simp)
  have hg2 : ((w.alloc (.cells #[.pointer (some ⟨t, 0, none⟩)] 128)).alloc (.cells #[.pointer (some ⟨8, 128, none⟩), .pointer (some ⟨w.heap.size, 0, none⟩), .int .u64 150] 99)).cell? ⟨0, 0, none⟩ = some (.iface 130 (.agg #[.pointer (some ⟨8, 40, none⟩)])) := by
    rw [World.cell?_alloc_lt _ _ ⟨0, 0, none⟩ (Nat.lt_of_lt_of_le hlt (by rw [World.size_alloc]; exact Nat.le_succ _)), World.cell?_alloc_lt _ _ ⟨0, 0, none⟩ hlt]; exact hgc
  have el := Tryz.asElemVP ⟨w.heap.size, 0, none⟩ ⟨t, 0, none⟩ (((w.alloc (.cells #[.pointer (some ⟨t, 0, none⟩)] 128)).alloc (.cells #[.pointer (some ⟨8, 128, none⟩), .pointer (some ⟨w.heap.size, 0, none⟩), .int .u64 150] 99)).alloc (.cells #[.pointer (some ⟨8, 128, none⟩), .pointer (some ⟨w.heap.size, 0, none⟩), .int .u64 150] 99)) (by rw [World.cell?_alloc_lt _ _ ⟨w.heap.size, 0, none⟩ (by simp; omega)]; simp)
  obtain ⟨V, hV⟩ : ∃ V, V = ((w.alloc (.cells #[.pointer (some ⟨t, 0, none⟩)] 128)).alloc (.cells #[.pointer (some ⟨8, 128, none⟩), .pointer (some ⟨w.heap.size, 0, none⟩), .int .u64 150] 99)).alloc (.cells #[.pointer (some ⟨8, 128, none⟩), .pointer (some ⟨w.heap.size, 0, none⟩), .int .u64 150] 99) := ⟨_, rfl⟩
  have hVs : V.heap.size = w.heap.size + 1 + 1 + 1 := by rw [hV]; simp
  have hVb : Below w.heap.size w V := by
    rw [hV]
    exact (((Below.refl _ w).alloc (Nat.le_refl _) _).alloc (by simp) _).alloc (by simp; omega) _
  have hVt : V.heap[t]? = some (.cells #[.int .i64 m] 126 (0, 0)) := (hVb.block t htl).trans ht
  obtain ⟨V2, hV2⟩ : ∃ V2, V2 = V.alloc (.cells #[.string s, .iface 126 (.int .i64 n)] 125) := ⟨_, rfl⟩
  have hV2s : V2.heap.size = w.heap.size + 1 + 1 + 1 + 1 := by rw [hV2]; simp [hVs]
  have hV2b : Below w.heap.size w V2 := by rw [hV2]; exact hVb.alloc (by omega) _
  have hV2t : V2.heap[t]? = some (.cells #[.int .i64 m] 126 (0, 0)) := (hV2b.block t htl).trans ht
  have st := Tryz.asSetF t (w.heap.size + 1 + 1 + 1 + 1) n m (V2.alloc (.cells #[.int .i64 n] 126)) (by rw [← hV2s]; exact World.alloc_heap_new V2 _) ((Below.heap_alloc V2 _ t (by omega)).trans hV2t)
  have el2 := Tryz.asElemVP ⟨w.heap.size, 0, none⟩ ⟨t, 0, none⟩ V2 (by rw [hV2, World.cell?_alloc_lt _ _ ⟨w.heap.size, 0, none⟩ (by show w.heap.size < V.heap.size; omega), hV, World.cell?_alloc_lt _ _ ⟨w.heap.size, 0, none⟩ (by simp; omega)]; simp)
  have hfin : ((V2.alloc (.cells #[.int .i64 n] 126)).setRow t #[.int .i64 n]).cell? ⟨t, 0, none⟩ = some (.int .i64 n) ∧ Below t w ((V2.alloc (.cells #[.int .i64 n] 126)).setRow t #[.int .i64 n]) := by
    refine ⟨cell_setRow_same _ t 0 _ _ _ (0, 0) ((Below.heap_alloc V2 _ t (by omega)).trans hV2t), ?_⟩
    exact below_setRow ((hV2b.mono (Nat.le_of_lt htl)).alloc (by omega) _) (Nat.le_refl _) _
  have HF := Lib.hid hfin
  clear hfin hVb hVt ht hVs hgc hW1 W1 hV2b hV2t hV2s
  rw [hV2, hV] at st HF el2
  clear hV2 V2 hV V
  go_enter Tryz.func41, Tryz.ntmps41
  go_wp2
  refine wp_loop_rounds 2 ?_
  rw [rounds_succ]
  go_wp2_with (go_at_call 201; refine (unwrap_c _ _ _ ⟨_, _, rfl⟩).mono ?_; rintro e w' ⟨rfl, rfl⟩)
  rw [rounds_succ]
  go_wp2
  go_ret
  exact ⟨rfl, HF.out.1, HF.out.2⟩

theorem Tryz.isTypeOf (v : Value) (w : World) : (Extern.ReflectliteType.typeOf #[.iface 203 v]).run Tryz.prog w = .ok (.iface 130 (.agg #[.pointer (some ⟨8, 203, none⟩)])) w := by kernel_rfl
def cmpM : Array Value → Sem Value := Extern.ReflectliteType.method fun t => do Extern.Rtype.noPackHeld "Comparable" t; pure (.bool (← typeInfo t).comparable)
theorem Tryz.isComparable (w : World) : (cmpM #[.agg #[.pointer (some ⟨8, 203, none⟩)]]).run Tryz.prog w = .ok (.bool true) w := by kernel_rfl
theorem Tryz.isMethodComparable (v : Value) (w : World) : (Go.method 333 130 v "Comparable").run Tryz.prog w = .ok (205, v) w := by kernel_rfl
theorem Tryz.isComp : (Tryz.prog.info? 203).map (·.comparable) = some true := by kernel_rfl
theorem Tryz.isSize : (Tryz.prog.info? 221).map (·.size) = some 1 := by kernel_rfl
theorem Tryz.noIsW (v : Value) (xT : TypeId) (w : World) : (Instr.typeAssert (.iface 125 v) xT 179 true).run Tryz.prog w = .ok (.tuple #[.nilIface, .bool false]) w := run_typeAssert_lacksB Tryz.underlying179 (by kernel_rfl) (by kernel_rfl) v xT w
theorem Tryz.noIsF (v : Value) (xT : TypeId) (w : World) : (Instr.typeAssert (.iface 126 v) xT 179 true).run Tryz.prog w = .ok (.tuple #[.nilIface, .bool false]) w := run_typeAssert_lacksB Tryz.underlying179 (by kernel_rfl) (by kernel_rfl) v xT w
theorem Tryz.noUnwrapF (v : Value) (xT : TypeId) (w : World) : (Instr.typeAssert (.iface 126 v) xT 138 true).run Tryz.prog w = .ok (.tuple #[.nilIface, .bool false]) w := run_typeAssert_lacksB Tryz.underlying138 (by kernel_rfl) (by kernel_rfl) v xT w
theorem Tryz.noUnwrapsF (v : Value) (xT : TypeId) (w : World) : (Instr.typeAssert (.iface 126 v) xT 140 true).run Tryz.prog w = .ok (.tuple #[.nilIface, .bool false]) w := run_typeAssert_lacksB Tryz.underlying140 (by kernel_rfl) (by kernel_rfl) v xT w
/-- An error value of the sentinel's type. -/
abbrev errV (a : Addr) : Value := .iface 203 (.pointer (some a))
/-- THE SENTINEL LIES. -/
def ES (w : World) (a : Addr) : Prop := w.cell? ⟨1, 0, none⟩ = some (errV a) ∧ 1 < w.heap.size
theorem ES.below {w w' : World} {a : Addr} (h : ES w a) (hb : Below w.heap.size w w') : ES w' a := ⟨(hb.cell (p := ⟨1, 0, none⟩) h.2).trans h.1, Nat.lt_of_lt_of_le h.2 hb.size⟩
set_option maxRecDepth 100000 in
set_option maxHeartbeats 4000000 in
/-- errors.Is(wrong, errDomain). -/
theorem is_syntax (s : ByteArray) (a : Addr) (w : World) :
    Calls Tryz.prog 103 #[wrongV s (errV a), errV a] w fun e w' => e = .returned (.bool true) ∧ Below w.heap.size w w' := by
  obtain ⟨i, hi, hcmp⟩ := Option.map_eq_some_iff.1 Tryz.isComp
  obtain ⟨j, hj, hjs⟩ := Option.map_eq_some_iff.1 Tryz.isSize
  have h8 := @run_callFunc_extern Tryz.prog 104 _ Extern.ReflectliteType.typeOf Tryz.func104 (by kernel_rfl) (by kernel_rfl) (by kernel_rfl) (by kernel_rfl)
  have h32 := @run_callFunc_extern Tryz.prog 205 _ cmpM Tryz.func205 (by kernel_rfl) (by kernel_rfl) (by kernel_rfl) (by kernel_rfl)
  have tT := Tryz.isTypeOf
  have cT := Tryz.isComparable
  have mR := Tryz.isMethodComparable
  have nI := Tryz.noIsW
  have uW := Tryz.unwrapW
  have mU := Tryz.methodUnwrapW
  have hne := run_eql_iface_types (P := Tryz.prog) 125 203 (.agg #[.string s, errV a]) (.pointer (some a)) Tryz.underlying40 (by decide) w
  have heq := run_eql_iface_ptr_same (P := Tryz.prog) (w.alloc (.cells #[.string s, errV a] 125)) a Tryz.underlying40 Tryz.underlying203 hi hcmp hj
  have hU := Lib.hid (unwrap_c s (errV a) w ⟨_, _, rfl⟩)
  go_enter Tryz.func103, Tryz.ntmps103
  go_wp2
  refine wp_loop_rounds 2 ?_
  rw [rounds_succ]
  go_wp2_with (go_at_call 201; refine hU.out.mono ?_; rintro e w' ⟨rfl, rfl⟩)
  rw [rounds_succ]
  go_wp2
  go_ret
  exact ⟨rfl, (Below.refl _ w).alloc (Nat.le_refl _) _⟩
set_option maxRecDepth 100000 in
set_option maxHeartbeats 4000000 in
/-- errors.Is(wrong of a fault, errDomain). -/
theorem is_fault (s : ByteArray) (n : Int) (a : Addr) (w : World) :
    Calls Tryz.prog 103 #[wrongV s (faultV n), errV a] w fun e w' => e = .returned (.bool false) ∧ Below w.heap.size w w' := by
  have h8 := @run_callFunc_extern Tryz.prog 104 _ Extern.ReflectliteType.typeOf Tryz.func104 (by kernel_rfl) (by kernel_rfl) (by kernel_rfl) (by kernel_rfl)
  have h32 := @run_callFunc_extern Tryz.prog 205 _ cmpM Tryz.func205 (by kernel_rfl) (by kernel_rfl) (by kernel_rfl) (by kernel_rfl)
  have tT := Tryz.isTypeOf
  have cT := Tryz.isComparable
  have mR := Tryz.isMethodComparable
  have nI := Tryz.noIsW
  have nF := Tryz.noIsF
  have nU := Tryz.noUnwrapF
  have nUs := Tryz.noUnwrapsF
  have uW := Tryz.unwrapW
  have mU := Tryz.methodUnwrapW
  have hne := run_eql_iface_types (P := Tryz.prog) 125 203 (.agg #[.string s, faultV n]) (.pointer (some a)) Tryz.underlying40 (by decide) w
  have hne2 := run_eql_iface_types (P := Tryz.prog) 126 203 (.int .i64 n) (.pointer (some a)) Tryz.underlying40 (by decide) (w.alloc (.cells #[.string s, faultV n] 125))
  have hU := Lib.hid (unwrap_c s (faultV n) w ⟨_, _, rfl⟩)
  go_enter Tryz.func103, Tryz.ntmps103
  go_wp2
  refine wp_loop_rounds 2 ?_
  rw [rounds_succ]
  go_wp2_with (go_at_call 201; refine hU.out.mono ?_; rintro e w' ⟨rfl, rfl⟩)
  rw [rounds_succ]
  go_wp2
  go_ret
  exact ⟨rfl, (Below.refl _ w).alloc (Nat.le_refl _) _⟩
end Go.Proofs.YthlkgfplffdiaaaGreatDoor.Nu
/- number's errors: what callers are told (by wip/gen/mknuerr.py). -/
namespace Go.Proofs.YthlkgfplffdiaaaGreatDoor.Nu
open Go Go.RowKit Go.Extern.Stop Go.Stop Go.Extern

set_option maxRecDepth 100000 in
/-- errors.Is(nil, errDomain). -/
theorem is_nil (a : Addr) (w : World) : Calls Tryz.prog 103 #[.nilIface, errV a] w fun e w' => e = .returned (.bool false) ∧ w = w' := by
  have hn := @run_eql_iface_nil_left Tryz.prog w 40 _ 203 (.pointer (some a)) Tryz.underlying40
  go_enter Tryz.func103, Tryz.ntmps103
  go_wp2
  go_ret
  exact ⟨rfl, rfl⟩
/-- What a check tells comes to a number. -/
def FailV (a : Addr) (v : Value) (c : Int) : Prop := (c = 0 ∧ v = .nilIface) ∨ (c = 102 ∧ v = errV a) ∨ (c ≠ 102 ∧ c ≠ 0 ∧ v = faultV c)
/-- What is told comes to a number. -/
def ErrV (a : Addr) (v : Value) (c : Int) : Prop := (c = 0 ∧ v = .nilIface) ∨ (∃ s : ByteArray, (c = 102 ∧ v = wrongV s (errV a)) ∨ (c ≠ 102 ∧ c ≠ 0 ∧ v = wrongV s (faultV c)))
set_option maxRecDepth 100000 in
set_option maxHeartbeats 4000000 in
/-- told(err). -/
theorem told_c (a : Addr) (v : Value) (c : Int) (w : World) (h : ES w a) (hg : ErrT w) (hv : ErrV a v c) : Calls Tryz.prog 65 #[v] w fun e w' => e = .returned (.int .i64 c) ∧ Below w.heap.size w w' := by
  have hb0 : Below w.heap.size w (w.alloc (.cells #[.int .i64 0] 126)) := (Below.refl _ w).alloc (Nat.le_refl _) _
  have c1 := (h.below hb0).1
  have h1 := (h.below hb0).2
  have HB0 := Lib.hid hb0
  obtain ⟨rfl, rfl⟩ | ⟨s, ⟨rfl, rfl⟩ | ⟨hc, hc0, rfl⟩⟩ := hv
  · have hI := Lib.hid (is_nil a (w.alloc (.cells #[.int .i64 0] 126)))
    have hA := Lib.hid (fun t W => as_nil t W)
    clear h hb0 hg
    go_enter Tryz.func65, Tryz.ntmps65
    go_wp2_with (go_at_call 103; refine hI.out.mono ?_; rintro e w' ⟨rfl, rfl⟩)
    go_wp2_with (go_at_call 41; refine (hA.out _ _).mono ?_; rintro e w' ⟨rfl, rfl⟩)
    go_ret
    exact ⟨rfl, HB0.out⟩
  · have hI := Lib.hid (is_syntax s a (w.alloc (.cells #[.int .i64 0] 126)))
    clear h hb0 hg
    go_enter Tryz.func65, Tryz.ntmps65
    go_wp2_with (go_at_call 103; refine hI.out.mono ?_; rintro e w' ⟨rfl, hb⟩; have HB := Lib.hid hb; clear hb)
    go_ret
    exact ⟨rfl, HB0.out.trans (HB.out.mono (by simp))⟩
  · have hI := Lib.hid (is_fault s c a (w.alloc (.cells #[.int .i64 0] 126)))
    have HA : Hid (∀ W, Below (w.alloc (.cells #[.int .i64 0] 126)).heap.size (w.alloc (.cells #[.int .i64 0] 126)) W → Calls Tryz.prog 41 #[wrongV s (faultV c), .iface 128 (.pointer (some ⟨w.heap.size, 0, none⟩))] W fun ev w' => ev = .returned (.bool true) ∧ w'.cell? ⟨w.heap.size, 0, none⟩ = some (.int .i64 (c : Int)) ∧ Below w.heap.size W w') := Lib.hid (fun W hb => as_wrap w.heap.size s (c : Int) 0 W (hg.below (hb0.trans (hb.mono (by simp))) hg.2) ((hb.block w.heap.size (by simp)).trans (World.alloc_heap_new w _)))
    clear h hb0 hg
    go_enter Tryz.func65, Tryz.ntmps65
    go_wp2_with (go_at_call 103; refine hI.out.mono ?_; rintro e w' ⟨rfl, hb⟩; have HB := Lib.hid hb; clear hb)
    go_wp2_with (go_at_call 41; refine (HA.out _ HB.out).mono ?_; rintro e w2 ⟨rfl, hc1, hb⟩; have HB2 := Lib.hid hb; clear hb)
    go_ret
    exact ⟨rfl, HB0.out.trans ((HB.out.mono (by simp)).trans HB2.out)⟩
end Go.Proofs.YthlkgfplffdiaaaGreatDoor.Nu
/- What number's functions make of numbers: plain; what wrapping does. -/
namespace Go.Proofs.YthlkgfplffdiaaaGreatDoor.Nu
open Go Go.RowKit

/-- A number of 64 bits. -/
abbrev In (n : Int) : Prop := -9223372036854775808 ≤ n ∧ n ≤ 9223372036854775807
/-- A number, and what is told of it: too great, or nothing. -/
def ovr (n : Int) : Int × Int := if In n then (n, 0) else (0, 100)
def bit (b : Bool) : Int := if b then 1 else 0
def isB (n : Int) : Bool := decide (n = 0 ∨ n = 1)
def divR (x y : Int) : Int × Int := if y = 0 then (if x = 0 then (1, 0) else (0, 101)) else if x.tmod y = 0 then ovr (x.tdiv y) else (0, 101)
def resR (x y : Int) : Int := if x = 0 then y else y.fmod x
def bitsR (x y n : Int) : Int × Int := if isB x && isB y then (n, 0) else (0, 102)
def notR (y : Int) : Int × Int := if isB y then (1 - y, 0) else (0, 102)
/-- Which of the fifteen. -/
def dyN (k : Nat) (x y : Int) : Int × Int := match k with
  | 0 => ovr (x + y)
  | 1 => ovr (x - y)
  | 2 => ovr (x * y)
  | 3 => divR x y
  | 4 => (max x y, 0)
  | 5 => (min x y, 0)
  | 6 => (resR x y, 0)
  | 7 => (bit (decide (x = y)), 0)
  | 8 => (bit (decide (x ≠ y)), 0)
  | 9 => (bit (decide (x < y)), 0)
  | 10 => (bit (decide (y < x)), 0)
  | 11 => (bit (decide (x ≤ y)), 0)
  | 12 => (bit (decide (y ≤ x)), 0)
  | 13 => bitsR x y (min x y)
  | 14 => bitsR x y (max x y)
  | _ => (0, 102)
def dyG : Nat → ByteArray
  | 0 => ⟨#[43]⟩
  | 1 => ⟨#[45]⟩
  | 2 => ⟨#[195, 151]⟩
  | 3 => ⟨#[195, 183]⟩
  | 4 => ⟨#[226, 140, 136]⟩
  | 5 => ⟨#[226, 140, 138]⟩
  | 6 => ⟨#[124]⟩
  | 7 => ⟨#[61]⟩
  | 8 => ⟨#[226, 137, 160]⟩
  | 9 => ⟨#[60]⟩
  | 10 => ⟨#[62]⟩
  | 11 => ⟨#[226, 137, 164]⟩
  | 12 => ⟨#[226, 137, 165]⟩
  | 13 => ⟨#[226, 136, 167]⟩
  | 14 => ⟨#[226, 136, 168]⟩
  | _ => ⟨#[]⟩
/-- Which of the eight. -/
def monN (k : Nat) (y : Int) : Int × Int := match k with
  | 0 => (y, 0)
  | 1 => ovr (-y)
  | 2 => (y.sign, 0)
  | 3 => divR 1 y
  | 4 => (y, 0)
  | 5 => (y, 0)
  | 6 => ovr (max y (-y))
  | 7 => notR y
  | _ => (0, 102)
def monG : Nat → ByteArray
  | 0 => ⟨#[43]⟩
  | 1 => ⟨#[45]⟩
  | 2 => ⟨#[195, 151]⟩
  | 3 => ⟨#[195, 183]⟩
  | 4 => ⟨#[226, 140, 136]⟩
  | 5 => ⟨#[226, 140, 138]⟩
  | 6 => ⟨#[124]⟩
  | 7 => ⟨#[126]⟩
  | _ => ⟨#[]⟩
/-- The first k below n whose glyph it is, else n. -/
def whichG (G : Nat → ByteArray) (g : ByteArray) : Nat → Nat → Nat
  | 0, i => i
  | n + 1, i => if g = G i then i else whichG G g n (i + 1)
def whichD (g : ByteArray) : Nat := whichG dyG g 15 0
def whichM (g : ByteArray) : Nat := whichG monG g 8 0

theorem sum_fits {x y : Int} (hx : In x) (hy : In y) : (decide (wrap64 (x + y) < x) == decide (y < 0)) = decide (In (x + y)) := by
  unfold wrap64
  rw [Bool.eq_iff_iff]
  simp only [beq_iff_eq, decide_eq_true_eq, decide_eq_decide]
  omega
theorem dif_fits {x y : Int} (hx : In x) (hy : In y) : (decide (wrap64 (x - y) < x) == decide (0 < y)) = decide (In (x - y)) := by
  unfold wrap64
  rw [Bool.eq_iff_iff]
  simp only [beq_iff_eq, decide_eq_true_eq, decide_eq_decide]
  omega
theorem opp_fits {y : Int} (hy : In y) : (y != -9223372036854775808) = decide (In (-y)) := by
  rw [Bool.eq_iff_iff]
  simp only [bne_iff_ne, decide_eq_true_eq]
  omega
theorem wrap_in {n : Int} (h : In n) : wrap64 n = n := by unfold wrap64; omega
theorem and_u64 (a b : Nat) (ha : a < 18446744073709551616) (hb : b < 18446744073709551616) : bits .and .u64 (a : Int) (b : Int) = ((a &&& b : Nat) : Int) := by
  have hx : a &&& b < 2 ^ 64 := Nat.and_lt_two_pow a (by omega)
  have h1 : (BitVec.ofInt 64 (a : Int)).toNat = a := by rw [BitVec.ofInt_natCast, BitVec.toNat_ofNat]; exact Nat.mod_eq_of_lt (by omega)
  have h2 : (BitVec.ofInt 64 (b : Int)).toNat = b := by rw [BitVec.ofInt_natCast, BitVec.toNat_ofNat]; exact Nat.mod_eq_of_lt (by omega)
  show IntKind.u64.wrap ((BitVec.ofInt 64 (a : Int) &&& BitVec.ofInt 64 (b : Int)).toNat : Int) = _
  rw [BitVec.toNat_and, h1, h2, IntKind.wrap_u64]
  omega
theorem or_u64 (a b : Nat) (ha : a < 18446744073709551616) (hb : b < 18446744073709551616) : bits .or .u64 (a : Int) (b : Int) = ((a ||| b : Nat) : Int) := by
  have hx : a ||| b < 2 ^ 64 := Nat.or_lt_two_pow (by omega) (by omega)
  have h1 : (BitVec.ofInt 64 (a : Int)).toNat = a := by rw [BitVec.ofInt_natCast, BitVec.toNat_ofNat]; exact Nat.mod_eq_of_lt (by omega)
  have h2 : (BitVec.ofInt 64 (b : Int)).toNat = b := by rw [BitVec.ofInt_natCast, BitVec.toNat_ofNat]; exact Nat.mod_eq_of_lt (by omega)
  show IntKind.u64.wrap ((BitVec.ofInt 64 (a : Int) ||| BitVec.ofInt 64 (b : Int)).toNat : Int) = _
  rw [BitVec.toNat_or, h1, h2, IntKind.wrap_u64]
  omega
/-- A digit of 16 bits. -/
def dg (n k : Nat) : Nat := n / 65536 ^ k % 65536
theorem mask_u64 (n : Nat) (h : n < 18446744073709551616) : bits .and .u64 (n : Int) 65535 = ((n % 65536 : Nat) : Int) := by
  rw [show (65535 : Int) = ((65535 : Nat) : Int) from rfl, and_u64 n 65535 h (by omega)]
  congr 1
  exact Nat.and_two_pow_sub_one_eq_mod n 16
theorem dig_div (n d : Nat) (hn : n < 18446744073709551616) : bits .and .u64 ((n : Int) / ((d : Nat) : Int)) 65535 = ((n / d % 65536 : Nat) : Int) := by
  rw [show ((n : Int) / ((d : Nat) : Int)) = ((n / d : Nat) : Int) from (Int.natCast_ediv n d).symm]
  exact mask_u64 _ (Nat.lt_of_le_of_lt (Nat.div_le_self _ _) hn)
theorem big_div (n k : Nat) (hn : n < 18446744073709551616) (hk : 4 ≤ k) : dg n k = 0 := by
  have : 65536 ^ 4 ≤ 65536 ^ k := Nat.pow_le_pow_right (by decide) hk
  unfold dg
  rw [Nat.div_eq_of_lt (by omega)]
end Go.Proofs.YthlkgfplffdiaaaGreatDoor.Nu
