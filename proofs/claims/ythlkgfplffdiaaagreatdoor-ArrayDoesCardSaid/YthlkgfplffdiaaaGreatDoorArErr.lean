/- array's errors: errors.As at its fault: itself, wrapped; what callers are told (by wip/gen/mkarerr.py). -/
import Derived.Test.YthlkgfplffdiaaaGreatDoorNuA
namespace Go.Proofs.YthlkgfplffdiaaaGreatDoor.Ar
open Go Go.RowKit Go.Extern.Stop Go.Stop Go.Extern

abbrev faultV (n : Int) : Value := .iface 53 (.int .i64 n)
abbrev wrongV (s : ByteArray) (v : Value) : Value := .iface 55 (.agg #[.string s, v])
theorem Tryz.asValueOfP (t : Addr) (w : World) : (ReflectliteValue.unpack (.iface 61 (.pointer (some t)))).run Tryz.prog w
    = .ok (.agg #[.pointer (some ⟨8, 61, none⟩), .pointer (some ⟨w.heap.size, 0, none⟩), .int .u64 150]) (w.alloc (.cells #[.pointer (some t)] 61)) := by kernel_rfl
theorem Tryz.asTypeP (a : Addr) (w : World) : (ReflectliteValue.methodAny (ReflectliteValue.valueError "reflectlite.Value.Type" 0) (fun t _ _ _ => ReflectliteType.toType t) #[.agg #[.pointer (some ⟨8, 61, none⟩), .pointer (some a), .int .u64 150]]).run Tryz.prog w
    = .ok (.iface 130 (.agg #[.pointer (some ⟨8, 61, none⟩)])) w := by kernel_rfl
theorem Tryz.asMethodKind (h : Value) (w : World) : (Go.method 333 130 (.agg #[h]) "Kind").run Tryz.prog w = .ok (190, h) w := by kernel_rfl
theorem Tryz.asKindP (w : World) : ((ReflectliteType.abiMethod fun t => (fun a : Nat => Value.int IntKind.u8 (a : Int)) <$> Rtype.kind t) #[.pointer (some ⟨8, 61, none⟩)]).run Tryz.prog w = .ok (.int .u8 22) w := by kernel_rfl
theorem Tryz.asKindF (w : World) : ((ReflectliteType.abiMethod fun t => (fun a : Nat => Value.int IntKind.u8 (a : Int)) <$> Rtype.kind t) #[.pointer (some ⟨8, 53, none⟩)]).run Tryz.prog w = .ok (.int .u8 2) w := by kernel_rfl

theorem as_rlm (z : Sem Value) (f : TypeId → Addr → Nat → Nat → Sem Value) (v : Value) :
    ReflectliteValue.method z f #[v] = (do match ← ReflectliteValue.parts v with | none => z | some (t, a, fl) => f t a fl (fl % 32)) := rfl
theorem Tryz.asPartsP (a : Addr) (w : World) : (ReflectliteValue.parts (.agg #[.pointer (some ⟨8, 61, none⟩), .pointer (some a), .int .u64 150])).run Tryz.prog w = .ok (some (61, a, 150)) w := by kernel_rfl
theorem Tryz.asIsNilP (a p : Addr) (W : World) (ha : W.cell? a = some (.pointer (some p))) :
    (ReflectliteValue.method (ReflectliteValue.valueError "reflectlite.Value.IsNil" 0) ReflectliteValue.isNil #[.agg #[.pointer (some ⟨8, 61, none⟩), .pointer (some a), .int .u64 150]]).run Tryz.prog W = .ok (.bool false) W := by
  rw [as_rlm]
  simp only [Sem.run_bind, Tryz.asPartsP, Result.andThen]
  simp [ReflectliteValue.isNil, loadVar, isAgg, underlying, Tryz.underlying61, ha, Result.andThen]
theorem Tryz.asMethodElem (h : Value) (w : World) : (Go.method 333 130 (.agg #[h]) "Elem").run Tryz.prog w = .ok (206, .agg #[h]) w := by kernel_rfl
theorem Tryz.asMethodImpl (h : Value) (w : World) : (Go.method 333 130 (.agg #[h]) "Implements").run Tryz.prog w = .ok (207, .agg #[h]) w := by kernel_rfl
theorem Tryz.asMethodAssign (h : Value) (w : World) : (Go.method 333 130 (.agg #[h]) "AssignableTo").run Tryz.prog w = .ok (204, .agg #[h]) w := by kernel_rfl
theorem Tryz.asElemP (w : World) : (ReflectliteType.method ReflectliteType.elem #[.agg #[.pointer (some ⟨8, 61, none⟩)]]).run Tryz.prog w = .ok (.iface 130 (.agg #[.pointer (some ⟨8, 53, none⟩)])) w := by kernel_rfl
theorem Tryz.asImplF (w : World) : (ReflectliteType.relation "Implements" ReflectliteType.implements_ #[.agg #[.pointer (some ⟨8, 53, none⟩)], .iface 130 (.agg #[.pointer (some ⟨8, 40, none⟩)])]).run Tryz.prog w = .ok (.bool true) w := by kernel_rfl
theorem Tryz.asTypeOfF (v : Value) (w : World) : (ReflectliteType.typeOf #[.iface 53 v]).run Tryz.prog w = .ok (.iface 130 (.agg #[.pointer (some ⟨8, 53, none⟩)])) w := by kernel_rfl
theorem Tryz.asAssignF (w : World) : (ReflectliteType.relation "AssignableTo" ReflectliteType.assignableTo #[.agg #[.pointer (some ⟨8, 53, none⟩)], .iface 130 (.agg #[.pointer (some ⟨8, 53, none⟩)])]).run Tryz.prog w = .ok (.bool true) w := by kernel_rfl
theorem Tryz.asValueOfF (n : Int) (w : World) : (ReflectliteValue.unpack (.iface 53 (.int .i64 n))).run Tryz.prog w
    = .ok (.agg #[.pointer (some ⟨8, 53, none⟩), .pointer (some ⟨w.heap.size, 0, none⟩), .int .u64 130]) (w.alloc (.cells #[.int .i64 n] 53)) := by kernel_rfl
theorem Tryz.asElemOfP (w : World) : (Rtype.elem? 61).run Tryz.prog w = .ok (some 53) w := by kernel_rfl
theorem Tryz.asMkF (p : Addr) (w : World) : (ReflectliteValue.mk 53 p ReflectliteValue.flagAddr).run Tryz.prog w = .ok (.agg #[.pointer (some ⟨8, 53, none⟩), .pointer (some p), .int .u64 386]) w := by kernel_rfl
theorem Tryz.asElemVP (a p : Addr) (W : World) (ha : W.cell? a = some (.pointer (some p))) :
    (ReflectliteValue.method (ReflectliteValue.valueError "reflectlite.Value.Elem" 0) ReflectliteValue.elem #[.agg #[.pointer (some ⟨8, 61, none⟩), .pointer (some a), .int .u64 150]]).run Tryz.prog W
      = .ok (.agg #[.pointer (some ⟨8, 53, none⟩), .pointer (some p), .int .u64 386]) W := by
  rw [as_rlm]
  simp only [Sem.run_bind, Tryz.asPartsP, Result.andThen]
  simp [ReflectliteValue.elem, loadVar, isAgg, underlying, Tryz.underlying61, ha, Result.andThen, Tryz.asElemOfP, Tryz.asMkF]
theorem as_rls (v x : Value) : ReflectliteValue.set #[v, x] = (do
    let (some (dst, a, fl), some (src, b, _)) := (← ReflectliteValue.parts v, ← ReflectliteValue.parts x)
      | unsupported (.noEntry "extern/(internal/reflectlite.Value).Set.zeroValue")
    if fl / ReflectliteValue.flagAddr % 2 == 0 then unsupported (.noEntry "extern/(internal/reflectlite.Value).Set.unaddressable")
    let val ← loadVar src b
    if ← Rtype.directlyAssignable dst src then storeVar dst a val
    else if ← Rtype.implements dst src then
      if (← Rtype.kind src) == 20 then
        match val with
        | .nilIface => unsupported (.noEntry "extern/reflectlite: a nil value of one interface type handed on as a value of another")
        | _ => storeVar dst a val
      else storeVar dst a (.iface src val)
    else panicString ("reflectlite.Set: value of type " ++ (← Rtype.spelt src) ++ " is not assignable to type " ++ (← Rtype.spelt dst))
    pure (.tuple #[])) := rfl
theorem Tryz.asPartsFa (a : Addr) (w : World) : (ReflectliteValue.parts (.agg #[.pointer (some ⟨8, 53, none⟩), .pointer (some a), .int .u64 386])).run Tryz.prog w = .ok (some (53, a, 386)) w := by kernel_rfl
theorem Tryz.asPartsF (a : Addr) (w : World) : (ReflectliteValue.parts (.agg #[.pointer (some ⟨8, 53, none⟩), .pointer (some a), .int .u64 130])).run Tryz.prog w = .ok (some (53, a, 130)) w := by kernel_rfl
theorem Tryz.asDirectF (w : World) : (Rtype.directlyAssignable 53 53).run Tryz.prog w = .ok true w := by kernel_rfl
theorem Tryz.infoFault : (Tryz.prog.info? 53).map (·.size) = some 1 := by kernel_rfl
/-- (Value).Set: the fault at the block t gets what the Value's own variable b holds. -/
theorem Tryz.asSetF (t b : Nat) (n m : Int) (W : World) (hb : W.heap[b]? = some (.cells #[.int .i64 n] 53 (0, 0))) (ht : W.heap[t]? = some (.cells #[.int .i64 m] 53 (0, 0))) :
    (ReflectliteValue.set #[.agg #[.pointer (some ⟨8, 53, none⟩), .pointer (some ⟨t, 0, none⟩), .int .u64 386], .agg #[.pointer (some ⟨8, 53, none⟩), .pointer (some ⟨b, 0, none⟩), .int .u64 130]]).run Tryz.prog W
      = .ok (.tuple #[]) (W.setRow t #[.int .i64 n]) := by
  have hl : (loadVar 53 ⟨b, 0, none⟩).run Tryz.prog W = .ok (.int .i64 n) W := by
    have hcell : W.cell? ⟨b, 0, none⟩ = some (.int .i64 n) := by simp [World.cell?, hb]
    have hagg : (isAgg 53).run Tryz.prog W = .ok false W := by
      unfold isAgg
      rw [Sem.run_bind, run_underlying Tryz.underlying53 W]
      rfl
    simp [loadVar, Sem.run_bind, hagg, Result.andThen, run_load, hcell]
  have hs : (storeVar 53 ⟨t, 0, none⟩ (.int .i64 n)).run Tryz.prog W = .ok () (W.setRow t #[.int .i64 n]) :=
    run_storeVar_row W t _ 53 _ _ ht Tryz.infoFault rfl (by simp [Value.oneCell'])
  rw [as_rls]
  simp only [Sem.run_bind, Tryz.asPartsFa, Tryz.asPartsF, Result.andThen]
  simp [ReflectliteValue.flagAddr, hl, hs, Result.andThen, Tryz.asDirectF]

set_option maxHeartbeats 4000000 in
set_option maxRecDepth 100000 in
/-- errors.As(a fault, &f): true; f is the fault. -/
theorem as_hit (t : Nat) (n m : Int) (w : World) (hg : Nu.ErrT w) (ht : w.heap[t]? = some (.cells #[.int .i64 m] 53 (0, 0))) :
    Calls Tryz.prog 41 #[.iface 53 (.int .i64 n), .iface 61 (.pointer (some ⟨t, 0, none⟩))] w fun ev w' => ev = .returned (.bool true) ∧ w'.cell? ⟨t, 0, none⟩ = some (.int .i64 n) ∧ Below t w w' := by
  have h6 := @run_callFunc_extern Tryz.prog 66 _ (fun args => ReflectliteValue.unpack (args.getD 0 (.tuple #[]))) Tryz.func66 (by kernel_rfl) (by kernel_rfl) (by kernel_rfl) (by kernel_rfl)
  have h7 := @run_callFunc_extern Tryz.prog 67 _ (ReflectliteValue.methodAny (ReflectliteValue.valueError "reflectlite.Value.Type" 0) (fun t _ _ _ => ReflectliteType.toType t)) Tryz.func67 (by kernel_rfl) (by kernel_rfl) (by kernel_rfl) (by kernel_rfl)
  have h8 := @run_callFunc_extern Tryz.prog 68 _ (ReflectliteValue.method (ReflectliteValue.valueError "reflectlite.Value.IsNil" 0) ReflectliteValue.isNil) Tryz.func68 (by kernel_rfl) (by kernel_rfl) (by kernel_rfl) (by kernel_rfl)
  have h27 := @run_callFunc_extern Tryz.prog 190 _ (ReflectliteType.abiMethod fun t => do pure (.int .u8 (← Rtype.kind t))) Tryz.func190 (by kernel_rfl) (by kernel_rfl) (by kernel_rfl) (by kernel_rfl)
  have h37 := @run_callFunc_extern Tryz.prog 206 _ (ReflectliteType.method ReflectliteType.elem) Tryz.func206 (by kernel_rfl) (by kernel_rfl) (by kernel_rfl) (by kernel_rfl)
  have h38 := @run_callFunc_extern Tryz.prog 207 _ (ReflectliteType.relation "Implements" ReflectliteType.implements_) Tryz.func207 (by kernel_rfl) (by kernel_rfl) (by kernel_rfl) (by kernel_rfl)
  have h10 := @run_callFunc_extern Tryz.prog 104 _ ReflectliteType.typeOf Tryz.func104 (by kernel_rfl) (by kernel_rfl) (by kernel_rfl) (by kernel_rfl)
  have h35 := @run_callFunc_extern Tryz.prog 204 _ (ReflectliteType.relation "AssignableTo" ReflectliteType.assignableTo) Tryz.func204 (by kernel_rfl) (by kernel_rfl) (by kernel_rfl) (by kernel_rfl)
  have h11 := @run_callFunc_extern Tryz.prog 105 _ (ReflectliteValue.method (ReflectliteValue.valueError "reflectlite.Value.Elem" 0) ReflectliteValue.elem) Tryz.func105 (by kernel_rfl) (by kernel_rfl) (by kernel_rfl) (by kernel_rfl)
  have h12 := @run_callFunc_extern Tryz.prog 106 _ ReflectliteValue.set Tryz.func106 (by kernel_rfl) (by kernel_rfl) (by kernel_rfl) (by kernel_rfl)
  have tO := Tryz.asTypeOfF
  have mA := Tryz.asMethodAssign
  have a25 := Tryz.asAssignF
  have v25 := Tryz.asValueOfF
  have f6 := Tryz.asValueOfP
  have f7 := Tryz.asTypeP
  have mK := Tryz.asMethodKind
  have mE := Tryz.asMethodElem
  have mI := Tryz.asMethodImpl
  have k27 := Tryz.asKindP
  have k25 := Tryz.asKindF
  have e27 := Tryz.asElemP
  have i25 := Tryz.asImplF
  obtain ⟨hgc, hlt⟩ := hg
  have htl : t < w.heap.size := (Array.getElem?_eq_some_iff.1 ht).1
  obtain ⟨W1, hW1⟩ : ∃ W1, W1 = (w.alloc (.cells #[.pointer (some ⟨t, 0, none⟩)] 61)).alloc (.cells #[.pointer (some ⟨8, 61, none⟩), .pointer (some ⟨w.heap.size, 0, none⟩), .int .u64 150] 99) := ⟨_, rfl⟩
  have n8 := Tryz.asIsNilP ⟨w.heap.size, 0, none⟩ ⟨t, 0, none⟩ ((w.alloc (.cells #[.pointer (some ⟨t, 0, none⟩)] 61)).alloc (.cells #[.pointer (some ⟨8, 61, none⟩), .pointer (some ⟨w.heap.size, 0, none⟩), .int .u64 150] 99)) (by simp)
  have hg2 : ((w.alloc (.cells #[.pointer (some ⟨t, 0, none⟩)] 61)).alloc (.cells #[.pointer (some ⟨8, 61, none⟩), .pointer (some ⟨w.heap.size, 0, none⟩), .int .u64 150] 99)).cell? ⟨0, 0, none⟩ = some (.iface 130 (.agg #[.pointer (some ⟨8, 40, none⟩)])) := by
    rw [World.cell?_alloc_lt _ _ ⟨0, 0, none⟩ (Nat.lt_of_lt_of_le hlt (by rw [World.size_alloc]; exact Nat.le_succ _)), World.cell?_alloc_lt _ _ ⟨0, 0, none⟩ hlt]; exact hgc
  have el := Tryz.asElemVP ⟨w.heap.size, 0, none⟩ ⟨t, 0, none⟩ (((w.alloc (.cells #[.pointer (some ⟨t, 0, none⟩)] 61)).alloc (.cells #[.pointer (some ⟨8, 61, none⟩), .pointer (some ⟨w.heap.size, 0, none⟩), .int .u64 150] 99)).alloc (.cells #[.pointer (some ⟨8, 61, none⟩), .pointer (some ⟨w.heap.size, 0, none⟩), .int .u64 150] 99)) (by rw [World.cell?_alloc_lt _ _ ⟨w.heap.size, 0, none⟩ (by simp; omega)]; simp)
  obtain ⟨V, hV⟩ : ∃ V, V = ((w.alloc (.cells #[.pointer (some ⟨t, 0, none⟩)] 61)).alloc (.cells #[.pointer (some ⟨8, 61, none⟩), .pointer (some ⟨w.heap.size, 0, none⟩), .int .u64 150] 99)).alloc (.cells #[.pointer (some ⟨8, 61, none⟩), .pointer (some ⟨w.heap.size, 0, none⟩), .int .u64 150] 99) := ⟨_, rfl⟩
  have hVs : V.heap.size = w.heap.size + 1 + 1 + 1 := by rw [hV]; simp
  have hVb : Below w.heap.size w V := by
    rw [hV]
    exact (((Below.refl _ w).alloc (Nat.le_refl _) _).alloc (by simp) _).alloc (by simp; omega) _
  have hVt : V.heap[t]? = some (.cells #[.int .i64 m] 53 (0, 0)) := (hVb.block t htl).trans ht
  have st := Tryz.asSetF t (w.heap.size + 1 + 1 + 1) n m (V.alloc (.cells #[.int .i64 n] 53)) (by rw [← hVs]; exact World.alloc_heap_new V _) ((Below.heap_alloc V _ t (by omega)).trans hVt)
  have hfin : ((V.alloc (.cells #[.int .i64 n] 53)).setRow t #[.int .i64 n]).cell? ⟨t, 0, none⟩ = some (.int .i64 n) ∧ Below t w ((V.alloc (.cells #[.int .i64 n] 53)).setRow t #[.int .i64 n]) := by
    refine ⟨cell_setRow_same _ t 0 _ _ _ (0, 0) ((Below.heap_alloc V _ t (by omega)).trans hVt), ?_⟩
    exact below_setRow ((hVb.mono (Nat.le_of_lt htl)).alloc (by omega) _) (Nat.le_refl _) _
  have HF := Lib.hid hfin
  clear hfin hVb hVt ht hVs hgc hW1 W1
  rw [hV] at st HF
  clear hV V
  go_enter Tryz.func41, Tryz.ntmps41
  go_wp2
  refine wp_loop_rounds 1 ?_
  rw [rounds_succ]
  go_wp2
  go_ret
  exact ⟨rfl, HF.out.1, HF.out.2⟩
theorem Tryz.asTypeOfW (v : Value) (w : World) : (ReflectliteType.typeOf #[.iface 55 v]).run Tryz.prog w = .ok (.iface 130 (.agg #[.pointer (some ⟨8, 55, none⟩)])) w := by kernel_rfl
theorem Tryz.asAssignW (w : World) : (ReflectliteType.relation "AssignableTo" ReflectliteType.assignableTo #[.agg #[.pointer (some ⟨8, 55, none⟩)], .iface 130 (.agg #[.pointer (some ⟨8, 53, none⟩)])]).run Tryz.prog w = .ok (.bool false) w := by kernel_rfl
theorem Tryz.noAsW (v : Value) (xT : TypeId) (w : World) : (Instr.typeAssert (.iface 55 v) xT 135 true).run Tryz.prog w = .ok (.tuple #[.nilIface, .bool false]) w := run_typeAssert_lacksB Tryz.underlying135 (by kernel_rfl) (by kernel_rfl) v xT w
theorem Tryz.unwrapW (v : Value) (xT : TypeId) (w : World) : (Instr.typeAssert (.iface 55 v) xT 138 true).run Tryz.prog w = .ok (.tuple #[.iface 55 v, .bool true]) w := run_typeAssert_hasB Tryz.underlying138 (by kernel_rfl) v xT w
theorem Tryz.methodUnwrapW (v : Value) (w : World) : (Go.method 333 55 v "Unwrap").run Tryz.prog w = .ok (195, v) w := by kernel_rfl
theorem unwrap_c (s : ByteArray) (v : Value) (w : World) (hv : ∃ x y, v = .iface x y) : Calls Tryz.prog 195 #[.agg #[.string s, v]] w fun e w' => e = .returned v ∧ w' = w.alloc (.cells #[.string s, v] 55) := by
  obtain ⟨x, y, rfl⟩ := hv
  go_enter Tryz.func195, Tryz.ntmps195
  go_wp2
  go_ret
  exact ⟨rfl, rfl⟩

set_option maxHeartbeats 4000000 in
set_option maxRecDepth 100000 in
/-- errors.As(wrong{words, a fault}, &f): true; f is the fault. -/
theorem as_wrap (t : Nat) (s : ByteArray) (n m : Int) (w : World) (hg : Nu.ErrT w) (ht : w.heap[t]? = some (.cells #[.int .i64 m] 53 (0, 0))) :
    Calls Tryz.prog 41 #[wrongV s (faultV n), .iface 61 (.pointer (some ⟨t, 0, none⟩))] w fun ev w' => ev = .returned (.bool true) ∧ w'.cell? ⟨t, 0, none⟩ = some (.int .i64 n) ∧ Below t w w' := by
  have h6 := @run_callFunc_extern Tryz.prog 66 _ (fun args => ReflectliteValue.unpack (args.getD 0 (.tuple #[]))) Tryz.func66 (by kernel_rfl) (by kernel_rfl) (by kernel_rfl) (by kernel_rfl)
  have h7 := @run_callFunc_extern Tryz.prog 67 _ (ReflectliteValue.methodAny (ReflectliteValue.valueError "reflectlite.Value.Type" 0) (fun t _ _ _ => ReflectliteType.toType t)) Tryz.func67 (by kernel_rfl) (by kernel_rfl) (by kernel_rfl) (by kernel_rfl)
  have h8 := @run_callFunc_extern Tryz.prog 68 _ (ReflectliteValue.method (ReflectliteValue.valueError "reflectlite.Value.IsNil" 0) ReflectliteValue.isNil) Tryz.func68 (by kernel_rfl) (by kernel_rfl) (by kernel_rfl) (by kernel_rfl)
  have h27 := @run_callFunc_extern Tryz.prog 190 _ (ReflectliteType.abiMethod fun t => do pure (.int .u8 (← Rtype.kind t))) Tryz.func190 (by kernel_rfl) (by kernel_rfl) (by kernel_rfl) (by kernel_rfl)
  have h37 := @run_callFunc_extern Tryz.prog 206 _ (ReflectliteType.method ReflectliteType.elem) Tryz.func206 (by kernel_rfl) (by kernel_rfl) (by kernel_rfl) (by kernel_rfl)
  have h38 := @run_callFunc_extern Tryz.prog 207 _ (ReflectliteType.relation "Implements" ReflectliteType.implements_) Tryz.func207 (by kernel_rfl) (by kernel_rfl) (by kernel_rfl) (by kernel_rfl)
  have h10 := @run_callFunc_extern Tryz.prog 104 _ ReflectliteType.typeOf Tryz.func104 (by kernel_rfl) (by kernel_rfl) (by kernel_rfl) (by kernel_rfl)
  have h35 := @run_callFunc_extern Tryz.prog 204 _ (ReflectliteType.relation "AssignableTo" ReflectliteType.assignableTo) Tryz.func204 (by kernel_rfl) (by kernel_rfl) (by kernel_rfl) (by kernel_rfl)
  have h11 := @run_callFunc_extern Tryz.prog 105 _ (ReflectliteValue.method (ReflectliteValue.valueError "reflectlite.Value.Elem" 0) ReflectliteValue.elem) Tryz.func105 (by kernel_rfl) (by kernel_rfl) (by kernel_rfl) (by kernel_rfl)
  have h12 := @run_callFunc_extern Tryz.prog 106 _ ReflectliteValue.set Tryz.func106 (by kernel_rfl) (by kernel_rfl) (by kernel_rfl) (by kernel_rfl)
  have tO := Tryz.asTypeOfF
  have mA := Tryz.asMethodAssign
  have a25 := Tryz.asAssignF
  have v25 := Tryz.asValueOfF
  have tW := Tryz.asTypeOfW
  have aW := Tryz.asAssignW
  have nA := Tryz.noAsW
  have uW := Tryz.unwrapW
  have mU := Tryz.methodUnwrapW
  have f6 := Tryz.asValueOfP
  have f7 := Tryz.asTypeP
  have mK := Tryz.asMethodKind
  have mE := Tryz.asMethodElem
  have mI := Tryz.asMethodImpl
  have k27 := Tryz.asKindP
  have k25 := Tryz.asKindF
  have e27 := Tryz.asElemP
  have i25 := Tryz.asImplF
  obtain ⟨hgc, hlt⟩ := hg
  have htl : t < w.heap.size := (Array.getElem?_eq_some_iff.1 ht).1
  obtain ⟨W1, hW1⟩ : ∃ W1, W1 = (w.alloc (.cells #[.pointer (some ⟨t, 0, none⟩)] 61)).alloc (.cells #[.pointer (some ⟨8, 61, none⟩), .pointer (some ⟨w.heap.size, 0, none⟩), .int .u64 150] 99) := ⟨_, rfl⟩
  have n8 := Tryz.asIsNilP ⟨w.heap.size, 0, none⟩ ⟨t, 0, none⟩ ((w.alloc (.cells #[.pointer (some ⟨t, 0, none⟩)] 61)).alloc (.cells #[.pointer (some ⟨8, 61, none⟩), .pointer (some ⟨w.heap.size, 0, none⟩), .int .u64 150] 99)) (by simp)
  have hg2 : ((w.alloc (.cells #[.pointer (some ⟨t, 0, none⟩)] 61)).alloc (.cells #[.pointer (some ⟨8, 61, none⟩), .pointer (some ⟨w.heap.size, 0, none⟩), .int .u64 150] 99)).cell? ⟨0, 0, none⟩ = some (.iface 130 (.agg #[.pointer (some ⟨8, 40, none⟩)])) := by
    rw [World.cell?_alloc_lt _ _ ⟨0, 0, none⟩ (Nat.lt_of_lt_of_le hlt (by rw [World.size_alloc]; exact Nat.le_succ _)), World.cell?_alloc_lt _ _ ⟨0, 0, none⟩ hlt]; exact hgc
  have el := Tryz.asElemVP ⟨w.heap.size, 0, none⟩ ⟨t, 0, none⟩ (((w.alloc (.cells #[.pointer (some ⟨t, 0, none⟩)] 61)).alloc (.cells #[.pointer (some ⟨8, 61, none⟩), .pointer (some ⟨w.heap.size, 0, none⟩), .int .u64 150] 99)).alloc (.cells #[.pointer (some ⟨8, 61, none⟩), .pointer (some ⟨w.heap.size, 0, none⟩), .int .u64 150] 99)) (by rw [World.cell?_alloc_lt _ _ ⟨w.heap.size, 0, none⟩ (by simp; omega)]; simp)
  obtain ⟨V, hV⟩ : ∃ V, V = ((w.alloc (.cells #[.pointer (some ⟨t, 0, none⟩)] 61)).alloc (.cells #[.pointer (some ⟨8, 61, none⟩), .pointer (some ⟨w.heap.size, 0, none⟩), .int .u64 150] 99)).alloc (.cells #[.pointer (some ⟨8, 61, none⟩), .pointer (some ⟨w.heap.size, 0, none⟩), .int .u64 150] 99) := ⟨_, rfl⟩
  have hVs : V.heap.size = w.heap.size + 1 + 1 + 1 := by rw [hV]; simp
  have hVb : Below w.heap.size w V := by
    rw [hV]
    exact (((Below.refl _ w).alloc (Nat.le_refl _) _).alloc (by simp) _).alloc (by simp; omega) _
  have hVt : V.heap[t]? = some (.cells #[.int .i64 m] 53 (0, 0)) := (hVb.block t htl).trans ht
  obtain ⟨V2, hV2⟩ : ∃ V2, V2 = V.alloc (.cells #[.string s, .iface 53 (.int .i64 n)] 55) := ⟨_, rfl⟩
  have hV2s : V2.heap.size = w.heap.size + 1 + 1 + 1 + 1 := by rw [hV2]; simp [hVs]
  have hV2b : Below w.heap.size w V2 := by rw [hV2]; exact hVb.alloc (by omega) _
  have hV2t : V2.heap[t]? = some (.cells #[.int .i64 m] 53 (0, 0)) := (hV2b.block t htl).trans ht
  have st := Tryz.asSetF t (w.heap.size + 1 + 1 + 1 + 1) n m (V2.alloc (.cells #[.int .i64 n] 53)) (by rw [← hV2s]; exact World.alloc_heap_new V2 _) ((Below.heap_alloc V2 _ t (by omega)).trans hV2t)
  have el2 := Tryz.asElemVP ⟨w.heap.size, 0, none⟩ ⟨t, 0, none⟩ V2 (by rw [hV2, World.cell?_alloc_lt _ _ ⟨w.heap.size, 0, none⟩ (by show w.heap.size < V.heap.size; omega), hV, World.cell?_alloc_lt _ _ ⟨w.heap.size, 0, none⟩ (by simp; omega)]; simp)
  have hfin : ((V2.alloc (.cells #[.int .i64 n] 53)).setRow t #[.int .i64 n]).cell? ⟨t, 0, none⟩ = some (.int .i64 n) ∧ Below t w ((V2.alloc (.cells #[.int .i64 n] 53)).setRow t #[.int .i64 n]) := by
    refine ⟨cell_setRow_same _ t 0 _ _ _ (0, 0) ((Below.heap_alloc V2 _ t (by omega)).trans hV2t), ?_⟩
    exact below_setRow ((hV2b.mono (Nat.le_of_lt htl)).alloc (by omega) _) (Nat.le_refl _) _
  have HF := Lib.hid hfin
  clear hfin hVb hVt ht hVs hgc hW1 W1 hV2b hV2t hV2s
  rw [hV2, hV] at st HF el2
  clear hV2 V2 hV V
  go_enter Tryz.func41, Tryz.ntmps41
  go_wp2
  refine wp_loop_rounds 2 ?_
  rw [rounds_succ]
  go_wp2_with (go_at_call 195; refine (unwrap_c _ _ _ ⟨_, _, rfl⟩).mono ?_; rintro e w' ⟨rfl, rfl⟩)
  rw [rounds_succ]
  go_wp2
  go_ret
  exact ⟨rfl, HF.out.1, HF.out.2⟩


set_option maxHeartbeats 4000000 in
/-- What is told comes to a number. -/
def ErrA (v : Value) (c : Int) : Prop := (c = 0 ∧ v = .nilIface) ∨ v = faultV c ∨ ∃ s : ByteArray, v = wrongV s (faultV c)
set_option maxRecDepth 100000 in
set_option maxHeartbeats 4000000 in
/-- told(err). -/
theorem told_c (v : Value) (c : Int) (w : World) (hg : Nu.ErrT w) (hv : ErrA v c) : Calls Tryz.prog 22 #[v] w fun e w' => e = .returned (.int .i64 c) ∧ Below w.heap.size w w' := by
  have hb0 : Below w.heap.size w (w.alloc (.cells #[.int .i64 0] 53)) := (Below.refl _ w).alloc (Nat.le_refl _) _
  have hg1 : Nu.ErrT (w.alloc (.cells #[.int .i64 0] 53)) := hg.below hb0 hg.2
  have ht : (w.alloc (.cells #[.int .i64 0] 53)).heap[w.heap.size]? = some (.cells #[.int .i64 0] 53 (0, 0)) := World.alloc_heap_new w _
  have HB0 := Lib.hid hb0
  obtain ⟨rfl, rfl⟩ | rfl | ⟨s, rfl⟩ := hv
  · have hA := Lib.hid (fun t W => Nu.as_nil t W)
    clear hb0 hg hg1 ht
    go_enter Tryz.func22, Tryz.ntmps22
    go_wp2_with (go_at_call 41; refine (hA.out _ _).mono ?_; rintro e w' ⟨rfl, rfl⟩)
    go_ret
    exact ⟨rfl, HB0.out⟩
  · have HA := Lib.hid (as_hit w.heap.size c 0 _ hg1 ht)
    clear hb0 hg hg1 ht
    go_enter Tryz.func22, Tryz.ntmps22
    go_wp2_with (go_at_call 41; refine HA.out.mono ?_; rintro e w2 ⟨rfl, hc1, hb⟩; have HB2 := Lib.hid hb; clear hb)
    go_ret
    exact ⟨rfl, HB0.out.trans HB2.out⟩
  · have HA := Lib.hid (as_wrap w.heap.size s c 0 _ hg1 ht)
    clear hb0 hg hg1 ht
    go_enter Tryz.func22, Tryz.ntmps22
    go_wp2_with (go_at_call 41; refine HA.out.mono ?_; rintro e w2 ⟨rfl, hc1, hb⟩; have HB2 := Lib.hid hb; clear hb)
    go_ret
    exact ⟨rfl, HB0.out.trans HB2.out⟩
end Go.Proofs.YthlkgfplffdiaaaGreatDoor.Ar
