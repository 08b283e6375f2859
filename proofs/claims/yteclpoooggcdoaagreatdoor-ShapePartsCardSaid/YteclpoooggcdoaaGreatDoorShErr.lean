/- shape's errors: errors.As at its fault: itself, wrapped; what callers are told (by wip/gen/mkarerr.py). -/
import Derived.Test.YteclpoooggcdoaaGreatDoorNuA
namespace Go.Proofs.YteclpoooggcdoaaGreatDoor.Ar
open Go Go.RowKit Go.Extern.Stop Go.Stop Go.Extern

abbrev sh_faultV (n : Int) : Value := .iface 62 (.int .i64 n)
abbrev sh_wrongV (s : ByteArray) (v : Value) : Value := .iface 66 (.agg #[.string s, v])
theorem Tryz.sh_asValueOfP (t : Addr) (w : World) : (ReflectliteValue.unpack (.iface 70 (.pointer (some t)))).run Tryz.prog w
    = .ok (.agg #[.pointer (some ⟨7, 70, none⟩), .pointer (some ⟨w.heap.size, 0, none⟩), .int .u64 150]) (w.alloc (.cells #[.pointer (some t)] 70)) := by kernel_rfl
theorem Tryz.sh_asTypeP (a : Addr) (w : World) : (ReflectliteValue.methodAny (ReflectliteValue.valueError "reflectlite.Value.Type" 0) (fun t _ _ _ => ReflectliteType.toType t) #[.agg #[.pointer (some ⟨7, 70, none⟩), .pointer (some a), .int .u64 150]]).run Tryz.prog w
    = .ok (.iface 113 (.agg #[.pointer (some ⟨7, 70, none⟩)])) w := by kernel_rfl
theorem Tryz.sh_asMethodKind (h : Value) (w : World) : (Go.method 289 113 (.agg #[h]) "Kind").run Tryz.prog w = .ok (144, h) w := by kernel_rfl
theorem Tryz.sh_asKindP (w : World) : ((ReflectliteType.abiMethod fun t => (fun a : Nat => Value.int IntKind.u8 (a : Int)) <$> Rtype.kind t) #[.pointer (some ⟨7, 70, none⟩)]).run Tryz.prog w = .ok (.int .u8 22) w := by kernel_rfl
theorem Tryz.sh_asKindF (w : World) : ((ReflectliteType.abiMethod fun t => (fun a : Nat => Value.int IntKind.u8 (a : Int)) <$> Rtype.kind t) #[.pointer (some ⟨7, 62, none⟩)]).run Tryz.prog w = .ok (.int .u8 2) w := by kernel_rfl

theorem sh_as_rlm (z : Sem Value) (f : TypeId → Addr → Nat → Nat → Sem Value) (v : Value) :
    ReflectliteValue.method z f #[v] = (do match ← ReflectliteValue.parts v with | none => z | some (t, a, fl) => f t a fl (fl % 32)) := rfl
theorem Tryz.sh_asPartsP (a : Addr) (w : World) : (ReflectliteValue.parts (.agg #[.pointer (some ⟨7, 70, none⟩), .pointer (some a), .int .u64 150])).run Tryz.prog w = .ok (some (70, a, 150)) w := by kernel_rfl
theorem Tryz.sh_asIsNilP (a p : Addr) (W : World) (ha : W.cell? a = some (.pointer (some p))) :
    (ReflectliteValue.method (ReflectliteValue.valueError "reflectlite.Value.IsNil" 0) ReflectliteValue.isNil #[.agg #[.pointer (some ⟨7, 70, none⟩), .pointer (some a), .int .u64 150]]).run Tryz.prog W = .ok (.bool false) W := by
  rw [sh_as_rlm]
  simp only [Sem.run_bind, Tryz.sh_asPartsP, Result.andThen]
  simp [ReflectliteValue.isNil, loadVar, isAgg, underlying, Tryz.underlying70, ha, Result.andThen]
theorem Tryz.sh_asMethodElem (h : Value) (w : World) : (Go.method 289 113 (.agg #[h]) "Elem").run Tryz.prog w = .ok (157, .agg #[h]) w := by kernel_rfl
theorem Tryz.sh_asMethodImpl (h : Value) (w : World) : (Go.method 289 113 (.agg #[h]) "Implements").run Tryz.prog w = .ok (158, .agg #[h]) w := by kernel_rfl
theorem Tryz.sh_asMethodAssign (h : Value) (w : World) : (Go.method 289 113 (.agg #[h]) "AssignableTo").run Tryz.prog w = .ok (155, .agg #[h]) w := by kernel_rfl
theorem Tryz.sh_asElemP (w : World) : (ReflectliteType.method ReflectliteType.elem #[.agg #[.pointer (some ⟨7, 70, none⟩)]]).run Tryz.prog w = .ok (.iface 113 (.agg #[.pointer (some ⟨7, 62, none⟩)])) w := by kernel_rfl
theorem Tryz.sh_asImplF (w : World) : (ReflectliteType.relation "Implements" ReflectliteType.implements_ #[.agg #[.pointer (some ⟨7, 62, none⟩)], .iface 113 (.agg #[.pointer (some ⟨7, 44, none⟩)])]).run Tryz.prog w = .ok (.bool true) w := by kernel_rfl
theorem Tryz.sh_asTypeOfF (v : Value) (w : World) : (ReflectliteType.typeOf #[.iface 62 v]).run Tryz.prog w = .ok (.iface 113 (.agg #[.pointer (some ⟨7, 62, none⟩)])) w := by kernel_rfl
theorem Tryz.sh_asAssignF (w : World) : (ReflectliteType.relation "AssignableTo" ReflectliteType.assignableTo #[.agg #[.pointer (some ⟨7, 62, none⟩)], .iface 113 (.agg #[.pointer (some ⟨7, 62, none⟩)])]).run Tryz.prog w = .ok (.bool true) w := by kernel_rfl
theorem Tryz.sh_asValueOfF (n : Int) (w : World) : (ReflectliteValue.unpack (.iface 62 (.int .i64 n))).run Tryz.prog w
    = .ok (.agg #[.pointer (some ⟨7, 62, none⟩), .pointer (some ⟨w.heap.size, 0, none⟩), .int .u64 130]) (w.alloc (.cells #[.int .i64 n] 62)) := by kernel_rfl
theorem Tryz.sh_asElemOfP (w : World) : (Rtype.elem? 70).run Tryz.prog w = .ok (some 62) w := by kernel_rfl
theorem Tryz.sh_asMkF (p : Addr) (w : World) : (ReflectliteValue.mk 62 p ReflectliteValue.flagAddr).run Tryz.prog w = .ok (.agg #[.pointer (some ⟨7, 62, none⟩), .pointer (some p), .int .u64 386]) w := by kernel_rfl
theorem Tryz.sh_asElemVP (a p : Addr) (W : World) (ha : W.cell? a = some (.pointer (some p))) :
    (ReflectliteValue.method (ReflectliteValue.valueError "reflectlite.Value.Elem" 0) ReflectliteValue.elem #[.agg #[.pointer (some ⟨7, 70, none⟩), .pointer (some a), .int .u64 150]]).run Tryz.prog W
      = .ok (.agg #[.pointer (some ⟨7, 62, none⟩), .pointer (some p), .int .u64 386]) W := by
  rw [sh_as_rlm]
  simp only [Sem.run_bind, Tryz.sh_asPartsP, Result.andThen]
  simp [ReflectliteValue.elem, loadVar, isAgg, underlying, Tryz.underlying70, ha, Result.andThen, Tryz.sh_asElemOfP, Tryz.sh_asMkF]
theorem sh_as_rls (v x : Value) : ReflectliteValue.set #[v, x] = (do
    let (some (dst, a, fl), some (src, b, _)) := (← ReflectliteValue.parts v, ← ReflectliteValue.parts x)
      | unsupported (.noEntry "extern/(internal/reflectlite.Value).Set.zeroValue")
    if fl / ReflectliteValue.flagAddr % 2 == 0 then unsupported (.noEntry "extern/(internal/reflectlite.Value).Set.unaddressable")
    let val ← loadVar src b
    if ← Rtype.directlyAssignable dst src then storeVar dst a val
    else if ← Rtype.implements dst src then
      if (← Rtype.kind src) == 20 then
        match val with
        | .nilIface => unsupported (.noEntry "extern/reflectlite: a nil value of one interface type handed on as a value of another")
        | _ => storeVar dst a val
      else storeVar dst a (.iface src val)
    else panicString ("reflectlite.Set: value of type " ++ (← Rtype.spelt src) ++ " is not assignable to type " ++ (← Rtype.spelt dst))
    pure (.tuple #[])) := rfl
theorem Tryz.sh_asPartsFa (a : Addr) (w : World) : (ReflectliteValue.parts (.agg #[.pointer (some ⟨7, 62, none⟩), .pointer (some a), .int .u64 386])).run Tryz.prog w = .ok (some (62, a, 386)) w := by kernel_rfl
theorem Tryz.sh_asPartsF (a : Addr) (w : World) : (ReflectliteValue.parts (.agg #[.pointer (some ⟨7, 62, none⟩), .pointer (some a), .int .u64 130])).run Tryz.prog w = .ok (some (62, a, 130)) w := by kernel_rfl
theorem Tryz.sh_asDirectF (w : World) : (Rtype.directlyAssignable 62 62).run Tryz.prog w = .ok true w := by kernel_rfl
theorem Tryz.sh_infoFault : (Tryz.prog.info? 62).map (·.size) = some 1 := by kernel_rfl
/-- (Value).Set: the fault at the block t gets what the Value's own variable b holds. -/
theorem Tryz.sh_asSetF (t b : Nat) (n m : Int) (W : World) (hb : W.heap[b]? = some (.cells #[.int .i64 n] 62 (0, 0))) (ht : W.heap[t]? = some (.cells #[.int .i64 m] 62 (0, 0))) :
    (ReflectliteValue.set #[.agg #[.pointer (some ⟨7, 62, none⟩), .pointer (some ⟨t, 0, none⟩), .int .u64 386], .agg #[.pointer (some ⟨7, 62, none⟩), .pointer (some ⟨b, 0, none⟩), .int .u64 130]]).run Tryz.prog W
      = .ok (.tuple #[]) (W.setRow t #[.int .i64 n]) := by
  have hl : (loadVar 62 ⟨b, 0, none⟩).run Tryz.prog W = .ok (.int .i64 n) W := by
    have hcell : W.cell? ⟨b, 0, none⟩ = some (.int .i64 n) := by simp [World.cell?, hb]
    have hagg : (isAgg 62).run Tryz.prog W = .ok false W := by
      unfold isAgg
      rw [Sem.run_bind, run_underlying Tryz.underlying62 W]
      rfl
    simp [loadVar, Sem.run_bind, hagg, Result.andThen, run_load, hcell]
  have hs : (storeVar 62 ⟨t, 0, none⟩ (.int .i64 n)).run Tryz.prog W = .ok () (W.setRow t #[.int .i64 n]) :=
    run_storeVar_row W t _ 62 _ _ ht Tryz.sh_infoFault rfl (by simp [Value.oneCell'])
  rw [sh_as_rls]
  simp only [Sem.run_bind, Tryz.sh_asPartsFa, Tryz.sh_asPartsF, Result.andThen]
  simp [ReflectliteValue.flagAddr, hl, hs, Result.andThen, Tryz.sh_asDirectF]

set_option maxHeartbeats 4000000 in
set_option maxRecDepth 100000 in
/-- errors.As(a fault, &f): true; f is the fault. -/
theorem sh_as_hit (t : Nat) (n m : Int) (w : World) (hg : Nu.ErrT w) (ht : w.heap[t]? = some (.cells #[.int .i64 m] 62 (0, 0))) :
    Calls Tryz.prog 60 #[.iface 62 (.int .i64 n), .iface 70 (.pointer (some ⟨t, 0, none⟩))] w fun ev w' => ev = .returned (.bool true) ∧ w'.cell? ⟨t, 0, none⟩ = some (.int .i64 n) ∧ Below t w w' := by
  have h6 := @run_callFunc_extern Tryz.prog 81 _ (fun args => ReflectliteValue.unpack (args.getD 0 (.tuple #[]))) Tryz.func81 (by kernel_rfl) (by kernel_rfl) (by kernel_rfl) (by kernel_rfl)
  have h7 := @run_callFunc_extern Tryz.prog 82 _ (ReflectliteValue.methodAny (ReflectliteValue.valueError "reflectlite.Value.Type" 0) (fun t _ _ _ => ReflectliteType.toType t)) Tryz.func82 (by kernel_rfl) (by kernel_rfl) (by kernel_rfl) (by kernel_rfl)
  have h8 := @run_callFunc_extern Tryz.prog 83 _ (ReflectliteValue.method (ReflectliteValue.valueError "reflectlite.Value.IsNil" 0) ReflectliteValue.isNil) Tryz.func83 (by kernel_rfl) (by kernel_rfl) (by kernel_rfl) (by kernel_rfl)
  have h27 := @run_callFunc_extern Tryz.prog 144 _ (ReflectliteType.abiMethod fun t => do pure (.int .u8 (← Rtype.kind t))) Tryz.func144 (by kernel_rfl) (by kernel_rfl) (by kernel_rfl) (by kernel_rfl)
  have h37 := @run_callFunc_extern Tryz.prog 157 _ (ReflectliteType.method ReflectliteType.elem) Tryz.func157 (by kernel_rfl) (by kernel_rfl) (by kernel_rfl) (by kernel_rfl)
  have h38 := @run_callFunc_extern Tryz.prog 158 _ (ReflectliteType.relation "Implements" ReflectliteType.implements_) Tryz.func158 (by kernel_rfl) (by kernel_rfl) (by kernel_rfl) (by kernel_rfl)
  have h10 := @run_callFunc_extern Tryz.prog 94 _ ReflectliteType.typeOf Tryz.func94 (by kernel_rfl) (by kernel_rfl) (by kernel_rfl) (by kernel_rfl)
  have h35 := @run_callFunc_extern Tryz.prog 155 _ (ReflectliteType.relation "AssignableTo" ReflectliteType.assignableTo) Tryz.func155 (by kernel_rfl) (by kernel_rfl) (by kernel_rfl) (by kernel_rfl)
  have h11 := @run_callFunc_extern Tryz.prog 95 _ (ReflectliteValue.method (ReflectliteValue.valueError "reflectlite.Value.Elem" 0) ReflectliteValue.elem) Tryz.func95 (by kernel_rfl) (by kernel_rfl) (by kernel_rfl) (by kernel_rfl)
  have h12 := @run_callFunc_extern Tryz.prog 96 _ ReflectliteValue.set Tryz.func96 (by kernel_rfl) (by kernel_rfl) (by kernel_rfl) (by kernel_rfl)
  have tO := Tryz.sh_asTypeOfF
  have mA := Tryz.sh_asMethodAssign
  have a25 := Tryz.sh_asAssignF
  have v25 := Tryz.sh_asValueOfF
  have f6 := Tryz.sh_asValueOfP
  have f7 := Tryz.sh_asTypeP
  have mK := Tryz.sh_asMethodKind
  have mE := Tryz.sh_asMethodElem
  have mI := Tryz.sh_asMethodImpl
  have k27 := Tryz.sh_asKindP
  have k25 := Tryz.sh_asKindF
  have e27 := Tryz.sh_asElemP
  have i25 := Tryz.sh_asImplF
  obtain ⟨hgc, hlt⟩ := hg
  have htl : t < w.heap.size := (Array.getElem?_eq_some_iff.1 ht).1
  obtain ⟨W1, hW1⟩ : ∃ W1, W1 = (w.alloc (.cells #[.pointer (some ⟨t, 0, none⟩)] 70)).alloc (.cells #[.pointer (some ⟨7, 70, none⟩), .pointer (some ⟨w.heap.size, 0, none⟩), .int .u64 150] 95) := ⟨_, rfl⟩
  have n8 := Tryz.sh_asIsNilP ⟨w.heap.size, 0, none⟩ ⟨t, 0, none⟩ ((w.alloc (.cells #[.pointer (some ⟨t, 0, none⟩)] 70)).alloc (.cells #[.pointer (some ⟨7, 70, none⟩), .pointer (some ⟨w.heap.size, 0, none⟩), .int .u64 150] 95)) (by simp)
  have hg2 : ((w.alloc (.cells #[.pointer (some ⟨t, 0, none⟩)] 70)).alloc (.cells #[.pointer (some ⟨7, 70, none⟩), .pointer (some ⟨w.heap.size, 0, none⟩), .int .u64 150] 95)).cell? ⟨0, 0, none⟩ = some (.iface 113 (.agg #[.pointer (some ⟨7, 44, none⟩)])) := by
    rw [World.cell?_alloc_lt _ _ ⟨0, 0, none⟩ (Nat.lt_of_lt_of_le hlt (by rw [World.size_alloc]; exact Nat.le_succ _)), World.cell?_alloc_lt _ _ ⟨0, 0, none⟩ hlt]; exact hgc
  have el := Tryz.sh_asElemVP ⟨w.heap.size, 0, none⟩ ⟨t, 0, none⟩ (((w.alloc (.cells #[.pointer (some ⟨t, 0, none⟩)] 70)).alloc (.cells #[.pointer (some ⟨7, 70, none⟩), .pointer (some ⟨w.heap.size, 0, none⟩), .int .u64 150] 95)).alloc (.cells #[.pointer (some ⟨7, 70, none⟩), .pointer (some ⟨w.heap.size, 0, none⟩), .int .u64 150] 95)) (by rw [World.cell?_alloc_lt _ _ ⟨w.heap.size, 0, none⟩ (by simp; omega)]; simp)
  obtain ⟨V, hV⟩ : ∃ V, V = ((w.alloc (.cells #[.pointer (some ⟨t, 0, none⟩)] 70)).alloc (.cells #[.pointer (some ⟨7, 70, none⟩), .pointer (some ⟨w.heap.size, 0, none⟩), .int .u64 150] 95)).alloc (.cells #[.pointer (some ⟨7, 70, none⟩), .pointer (some ⟨w.heap.size, 0, none⟩), .int .u64 150] 95) := ⟨_, rfl⟩
  have hVs : V.heap.size = w.heap.size + 1 + 1 + 1 := by rw [hV]; simp
  have hVb : Below w.heap.size w V := by
    rw [hV]
    exact (((Below.refl _ w).alloc (Nat.le_refl _) _).alloc (by simp) _).alloc (by simp; omega) _
  have hVt : V.heap[t]? = some (.cells #[.int .i64 m] 62 (0, 0)) := (hVb.block t htl).trans ht
  have st := Tryz.sh_asSetF t (w.heap.size + 1 + 1 + 1) n m (V.alloc (.cells #[.int .i64 n] 62)) (by rw [← hVs]; exact World.alloc_heap_new V _) ((Below.heap_alloc V _ t (by omega)).trans hVt)
  have hfin : ((V.alloc (.cells #[.int .i64 n] 62)).setRow t #[.int .i64 n]).cell? ⟨t, 0, none⟩ = some (.int .i64 n) ∧ Below t w ((V.alloc (.cells #[.int .i64 n] 62)).setRow t #[.int .i64 n]) := by
    refine ⟨cell_setRow_same _ t 0 _ _ _ (0, 0) ((Below.heap_alloc V _ t (by omega)).trans hVt), ?_⟩
    exact below_setRow ((hVb.mono (Nat.le_of_lt htl)).alloc (by omega) _) (Nat.le_refl _) _
  have HF := Lib.hid hfin
  clear hfin hVb hVt ht hVs hgc hW1 W1
  rw [hV] at st HF
  clear hV V
  go_enter Tryz.func60, Tryz.ntmps60
  go_wp2
  refine wp_loop_rounds 1 ?_
  rw [rounds_succ]
  go_wp2
  go_ret
  exact ⟨rfl, HF.out.1, HF.out.2⟩
theorem Tryz.sh_asTypeOfW (v : Value) (w : World) : (ReflectliteType.typeOf #[.iface 66 v]).run Tryz.prog w = .ok (.iface 113 (.agg #[.pointer (some ⟨7, 66, none⟩)])) w := by kernel_rfl
theorem Tryz.sh_asAssignW (w : World) : (ReflectliteType.relation "AssignableTo" ReflectliteType.assignableTo #[.agg #[.pointer (some ⟨7, 66, none⟩)], .iface 113 (.agg #[.pointer (some ⟨7, 62, none⟩)])]).run Tryz.prog w = .ok (.bool false) w := by kernel_rfl
theorem Tryz.sh_noAsW (v : Value) (xT : TypeId) (w : World) : (Instr.typeAssert (.iface 66 v) xT 118 true).run Tryz.prog w = .ok (.tuple #[.nilIface, .bool false]) w := run_typeAssert_lacksB Tryz.underlying118 (by kernel_rfl) (by kernel_rfl) v xT w
theorem Tryz.sh_unwrapW (v : Value) (xT : TypeId) (w : World) : (Instr.typeAssert (.iface 66 v) xT 121 true).run Tryz.prog w = .ok (.tuple #[.iface 66 v, .bool true]) w := run_typeAssert_hasB Tryz.underlying121 (by kernel_rfl) v xT w
theorem Tryz.sh_methodUnwrapW (v : Value) (w : World) : (Go.method 289 66 v "Unwrap").run Tryz.prog w = .ok (149, v) w := by kernel_rfl
theorem sh_unwrap_c (s : ByteArray) (v : Value) (w : World) (hv : ∃ x y, v = .iface x y) : Calls Tryz.prog 149 #[.agg #[.string s, v]] w fun e w' => e = .returned v ∧ w' = w.alloc (.cells #[.string s, v] 66) := by
  obtain ⟨x, y, rfl⟩ := hv
  go_enter Tryz.func149, Tryz.ntmps149
  go_wp2
  go_ret
  exact ⟨rfl, rfl⟩

set_option maxHeartbeats 4000000 in
set_option maxRecDepth 100000 in
/-- errors.As(wrong{words, a fault}, &f): true; f is the fault. -/
theorem sh_as_wrap (t : Nat) (s : ByteArray) (n m : Int) (w : World) (hg : Nu.ErrT w) (ht : w.heap[t]? = some (.cells #[.int .i64 m] 62 (0, 0))) :
    Calls Tryz.prog 60 #[sh_wrongV s (sh_faultV n), .iface 70 (.pointer (some ⟨t, 0, none⟩))] w fun ev w' => ev = .returned (.bool true) ∧ w'.cell? ⟨t, 0, none⟩ = some (.int .i64 n) ∧ Below t w w' := by
  have h6 := @run_callFunc_extern Tryz.prog 81 _ (fun args => ReflectliteValue.unpack (args.getD 0 (.tuple #[]))) Tryz.func81 (by kernel_rfl) (by kernel_rfl) (by kernel_rfl) (by kernel_rfl)
  have h7 := @run_callFunc_extern Tryz.prog 82 _ (ReflectliteValue.methodAny (ReflectliteValue.valueError "reflectlite.Value.Type" 0) (fun t _ _ _ => ReflectliteType.toType t)) Tryz.func82 (by kernel_rfl) (by kernel_rfl) (by kernel_rfl) (by kernel_rfl)
  have h8 := @run_callFunc_extern Tryz.prog 83 _ (ReflectliteValue.method (ReflectliteValue.valueError "reflectlite.Value.IsNil" 0) ReflectliteValue.isNil) Tryz.func83 (by kernel_rfl) (by kernel_rfl) (by kernel_rfl) (by kernel_rfl)
  have h27 := @run_callFunc_extern Tryz.prog 144 _ (ReflectliteType.abiMethod fun t => do pure (.int .u8 (← Rtype.kind t))) Tryz.func144 (by kernel_rfl) (by kernel_rfl) (by kernel_rfl) (by kernel_rfl)
  have h37 := @run_callFunc_extern Tryz.prog 157 _ (ReflectliteType.method ReflectliteType.elem) Tryz.func157 (by kernel_rfl) (by kernel_rfl) (by kernel_rfl) (by kernel_rfl)
  have h38 := @run_callFunc_extern Tryz.prog 158 _ (ReflectliteType.relation "Implements" ReflectliteType.implements_) Tryz.func158 (by kernel_rfl) (by kernel_rfl) (by kernel_rfl) (by kernel_rfl)
  have h10 := @run_callFunc_extern Tryz.prog 94 _ ReflectliteType.typeOf Tryz.func94 (by kernel_rfl) (by kernel_rfl) (by kernel_rfl) (by kernel_rfl)
  have h35 := @run_callFunc_extern Tryz.prog 155 _ (ReflectliteType.relation "AssignableTo" ReflectliteType.assignableTo) Tryz.func155 (by kernel_rfl) (by kernel_rfl) (by kernel_rfl) (by kernel_rfl)
  have h11 := @run_callFunc_extern Tryz.prog 95 _ (ReflectliteValue.method (ReflectliteValue.valueError "reflectlite.Value.Elem" 0) ReflectliteValue.elem) Tryz.func95 (by kernel_rfl) (by kernel_rfl) (by kernel_rfl) (by kernel_rfl)
  have h12 := @run_callFunc_extern Tryz.prog 96 _ ReflectliteValue.set Tryz.func96 (by kernel_rfl) (by kernel_rfl) (by kernel_rfl) (by kernel_rfl)
  have tO := Tryz.sh_asTypeOfF
  have mA := Tryz.sh_asMethodAssign
  have a25 := Tryz.sh_asAssignF
  have v25 := Tryz.sh_asValueOfF
  have tW := Tryz.sh_asTypeOfW
  have aW := Tryz.sh_asAssignW
  have nA := Tryz.sh_noAsW
  have uW := Tryz.sh_unwrapW
  have mU := Tryz.sh_methodUnwrapW
  have f6 := Tryz.sh_asValueOfP
  have f7 := Tryz.sh_asTypeP
  have mK := Tryz.sh_asMethodKind
  have mE := Tryz.sh_asMethodElem
  have mI := Tryz.sh_asMethodImpl
  have k27 := Tryz.sh_asKindP
  have k25 := Tryz.sh_asKindF
  have e27 := Tryz.sh_asElemP
  have i25 := Tryz.sh_asImplF
  obtain ⟨hgc, hlt⟩ := hg
  have htl : t < w.heap.size := (Array.getElem?_eq_some_iff.1 ht).1
  obtain ⟨W1, hW1⟩ : ∃ W1, W1 = (w.alloc (.cells #[.pointer (some ⟨t, 0, none⟩)] 70)).alloc (.cells #[.pointer (some ⟨7, 70, none⟩), .pointer (some ⟨w.heap.size, 0, none⟩), .int .u64 150] 95) := ⟨_, rfl⟩
  have n8 := Tryz.sh_asIsNilP ⟨w.heap.size, 0, none⟩ ⟨t, 0, none⟩ ((w.alloc (.cells #[.pointer (some ⟨t, 0, none⟩)] 70)).alloc (.cells #[.pointer (some ⟨7, 70, none⟩), .pointer (some ⟨w.heap.size, 0, none⟩), .int .u64 150] 95)) (by simp)
  have hg2 : ((w.alloc (.cells #[.pointer (some ⟨t, 0, none⟩)] 70)).alloc (.cells #[.pointer (some ⟨7, 70, none⟩), .pointer (some ⟨w.heap.size, 0, none⟩), .int .u64 150] 95)).cell? ⟨0, 0, none⟩ = some (.iface 113 (.agg #[.pointer (some ⟨7, 44, none⟩)])) := by
    rw [World.cell?_alloc_lt _ _ ⟨0, 0, none⟩ (Nat.lt_of_lt_of_le hlt (by rw [World.size_alloc]; exact Nat.le_succ _)), World.cell?_alloc_lt _ _ ⟨0, 0, none⟩ hlt]; exact hgc
  have el := Tryz.sh_asElemVP ⟨w.heap.size, 0, none⟩ ⟨t, 0, none⟩ (((w.alloc (.cells #[.pointer (some ⟨t, 0, none⟩)] 70)).alloc (.cells #[.pointer (some ⟨7, 70, none⟩), .pointer (some ⟨w.heap.size, 0, none⟩), .int .u64 150] 95)).alloc (.cells #[.pointer (some ⟨7, 70, none⟩), .pointer (some ⟨w.heap.size, 0, none⟩), .int .u64 150] 95)) (by rw [World.cell?_alloc_lt _ _ ⟨w.heap.size, 0, none⟩ (by simp; omega)]; simp)
  obtain ⟨V, hV⟩ : ∃ V, V = ((w.alloc (.cells #[.pointer (some ⟨t, 0, none⟩)] 70)).alloc (.cells #[.pointer (some ⟨7, 70, none⟩), .pointer (some ⟨w.heap.size, 0, none⟩), .int .u64 150] 95)).alloc (.cells #[.pointer (some ⟨7, 70, none⟩), .pointer (some ⟨w.heap.size, 0, none⟩), .int .u64 150] 95) := ⟨_, rfl⟩
  have hVs : V.heap.size = w.heap.size + 1 + 1 + 1 := by rw [hV]; simp
  have hVb : Below w.heap.size w V := by
    rw [hV]
    exact (((Below.refl _ w).alloc (Nat.le_refl _) _).alloc (by simp) _).alloc (by simp; omega) _
  have hVt : V.heap[t]? = some (.cells #[.int .i64 m] 62 (0, 0)) := (hVb.block t htl).trans ht
  obtain ⟨V2, hV2⟩ : ∃ V2, V2 = V.alloc (.cells #[.string s, .iface 62 (.int .i64 n)] 66) := ⟨_, rfl⟩
  have hV2s : V2.heap.size = w.heap.size + 1 + 1 + 1 + 1 := by rw [hV2]; simp [hVs]
  have hV2b : Below w.heap.size w V2 := by rw [hV2]; exact hVb.alloc (by omega) _
  have hV2t : V2.heap[t]? = some (.cells #[.int .i64 m] 62 (0, 0)) := (hV2b.block t htl).trans ht
  have st := Tryz.sh_asSetF t (w.heap.size + 1 + 1 + 1 + 1) n m (V2.alloc (.cells #[.int .i64 n] 62)) (by rw [← hV2s]; exact World.alloc_heap_new V2 _) ((Below.heap_alloc V2 _ t (by omega)).trans hV2t)
  have el2 := Tryz.sh_asElemVP ⟨w.heap.size, 0, none⟩ ⟨t, 0, none⟩ V2 (by rw [hV2, World.cell?_alloc_lt _ _ ⟨w.heap.size, 0, none⟩ (by show w.heap.size < V.heap.size; omega), hV, World.cell?_alloc_lt _ _ ⟨w.heap.size, 0, none⟩ (by simp; omega)]; simp)
  have hfin : ((V2.alloc (.cells #[.int .i64 n] 62)).setRow t #[.int .i64 n]).cell? ⟨t, 0, none⟩ = some (.int .i64 n) ∧ Below t w ((V2.alloc (.cells #[.int .i64 n] 62)).setRow t #[.int .i64 n]) := by
    refine ⟨cell_setRow_same _ t 0 _ _ _ (0, 0) ((Below.heap_alloc V2 _ t (by omega)).trans hV2t), ?_⟩
    exact below_setRow ((hV2b.mono (Nat.le_of_lt htl)).alloc (by omega) _) (Nat.le_refl _) _
  have HF := Lib.hid hfin
  clear hfin hVb hVt ht hVs hgc hW1 W1 hV2b hV2t hV2s
  rw [hV2, hV] at st HF el2
  clear hV2 V2 hV V
  go_enter Tryz.func60, Tryz.ntmps60
  go_wp2
  refine wp_loop_rounds 2 ?_
  rw [rounds_succ]
  go_wp2_with (go_at_call 149; refine (sh_unwrap_c _ _ _ ⟨_, _, rfl⟩).mono ?_; rintro e w' ⟨rfl, rfl⟩)
  rw [rounds_succ]
  go_wp2
  go_ret
  exact ⟨rfl, HF.out.1, HF.out.2⟩


set_option maxHeartbeats 4000000 in
/-- What is told comes to a number. -/
def sh_ErrA (v : Value) (c : Int) : Prop := (c = 0 ∧ v = .nilIface) ∨ v = sh_faultV c ∨ ∃ s : ByteArray, v = sh_wrongV s (sh_faultV c)
set_option maxRecDepth 100000 in
set_option maxHeartbeats 4000000 in
/-- told(err). -/
theorem sh_told_c (v : Value) (c : Int) (w : World) (hg : Nu.ErrT w) (hv : sh_ErrA v c) : Calls Tryz.prog 32 #[v] w fun e w' => e = .returned (.int .i64 c) ∧ Below w.heap.size w w' := by
  have hb0 : Below w.heap.size w (w.alloc (.cells #[.int .i64 0] 62)) := (Below.refl _ w).alloc (Nat.le_refl _) _
  have hg1 : Nu.ErrT (w.alloc (.cells #[.int .i64 0] 62)) := hg.below hb0 hg.2
  have ht : (w.alloc (.cells #[.int .i64 0] 62)).heap[w.heap.size]? = some (.cells #[.int .i64 0] 62 (0, 0)) := World.alloc_heap_new w _
  have HB0 := Lib.hid hb0
  obtain ⟨rfl, rfl⟩ | rfl | ⟨s, rfl⟩ := hv
  · have hA := Lib.hid (fun t W => Nu.as_nil t W)
    clear hb0 hg hg1 ht
    go_enter Tryz.func32, Tryz.ntmps32
    go_wp2_with (go_at_call 60; refine (hA.out _ _).mono ?_; rintro e w' ⟨rfl, rfl⟩)
    go_ret
    exact ⟨rfl, HB0.out⟩
  · have HA := Lib.hid (sh_as_hit w.heap.size c 0 _ hg1 ht)
    clear hb0 hg hg1 ht
    go_enter Tryz.func32, Tryz.ntmps32
    go_wp2_with (go_at_call 60; refine HA.out.mono ?_; rintro e w2 ⟨rfl, hc1, hb⟩; have HB2 := Lib.hid hb; clear hb)
    go_ret
    exact ⟨rfl, HB0.out.trans HB2.out⟩
  · have HA := Lib.hid (sh_as_wrap w.heap.size s c 0 _ hg1 ht)
    clear hb0 hg hg1 ht
    go_enter Tryz.func32, Tryz.ntmps32
    go_wp2_with (go_at_call 60; refine HA.out.mono ?_; rintro e w2 ⟨rfl, hc1, hb⟩; have HB2 := Lib.hid hb; clear hb)
    go_ret
    exact ⟨rfl, HB0.out.trans HB2.out⟩
end Go.Proofs.YteclpoooggcdoaaGreatDoor.Ar
