/- number's errors: errors.As at its fault, errors.Is at its sentinel; the number of an error (by wip/gen/mknuerr.py). -/
import Derived.Test.YtjafngieohpdaaaDoorChecked
import Derived.WalkKit
import Derived.LaidEql
import Derived.Stop.Asserts
import Derived.RowKitTokens
import Derived.Laws.Rows
import Derived.Laws.Tables
import Derived.Laws.CopyOwn
import Derived.RangeFuncRecord
import Derived.Below
import Derived.Lib.Hide
namespace Go.Proofs.YtjafngieohpdaaaDoor.Nu
open Go Go.RowKit Go.Extern.Stop Go.Stop Go.Extern

/-- errors.As(nil, target). -/
theorem as_nil (t : Value) (w : World) :
    Calls Tryd.prog 36 #[.nilIface, t] w fun e w' => e = .returned (.bool false) ∧ w = w' := by
  go_enter Tryd.func36, Tryd.ntmps36
  go_wp2
  go_ret
  exact ⟨rfl, rfl⟩

/-- THE TABLE of the interface error lies where the program's start lays it. -/
def ErrT (w : World) : Prop := w.cell? ⟨1, 0, none⟩ = some (.iface 86 (.agg #[.pointer (some ⟨2, 36, none⟩)])) ∧ 1 < w.heap.size
theorem ErrT.below {n : Nat} {w w' : World} (h : ErrT w) (hb : Below n w w') (hn : 1 < n) : ErrT w' :=
  ⟨(hb.cell (p := ⟨1, 0, none⟩) hn).trans h.1, Nat.lt_of_lt_of_le h.2 hb.size⟩

/-- What is wrong: words, and what it comes to. -/
abbrev faultV (n : Int) : Value := .iface 55 (.int .i64 n)
abbrev wrongV (s : ByteArray) (v : Value) : Value := .iface 52 (.agg #[.string s, v])
theorem Tryd.asValueOfP (t : Addr) (w : World) : (ReflectliteValue.unpack (.iface 58 (.pointer (some t)))).run Tryd.prog w
    = .ok (.agg #[.pointer (some ⟨2, 58, none⟩), .pointer (some ⟨w.heap.size, 0, none⟩), .int .u64 150]) (w.alloc (.cells #[.pointer (some t)] 58)) := by kernel_rfl
theorem Tryd.asTypeP (a : Addr) (w : World) : (ReflectliteValue.methodAny (ReflectliteValue.valueError "reflectlite.Value.Type" 0) (fun t _ _ _ => ReflectliteType.toType t) #[.agg #[.pointer (some ⟨2, 58, none⟩), .pointer (some a), .int .u64 150]]).run Tryd.prog w
    = .ok (.iface 86 (.agg #[.pointer (some ⟨2, 58, none⟩)])) w := by kernel_rfl
theorem Tryd.asMethodKind (h : Value) (w : World) : (Go.method 237 86 (.agg #[h]) "Kind").run Tryd.prog w = .ok (94, h) w := by kernel_rfl
theorem Tryd.asKindP (w : World) : ((ReflectliteType.abiMethod fun t => (fun a : Nat => Value.int IntKind.u8 (a : Int)) <$> Rtype.kind t) #[.pointer (some ⟨2, 58, none⟩)]).run Tryd.prog w = .ok (.int .u8 22) w := by kernel_rfl
theorem Tryd.asKindF (w : World) : ((ReflectliteType.abiMethod fun t => (fun a : Nat => Value.int IntKind.u8 (a : Int)) <$> Rtype.kind t) #[.pointer (some ⟨2, 55, none⟩)]).run Tryd.prog w = .ok (.int .u8 2) w := by kernel_rfl

theorem as_rlm (z : Sem Value) (f : TypeId → Addr → Nat → Nat → Sem Value) (v : Value) :
    ReflectliteValue.method z f #[v] = (do match ← ReflectliteValue.parts v with | none => z | some (t, a, fl) => f t a fl (fl % 32)) := rfl
theorem Tryd.asPartsP (a : Addr) (w : World) : (ReflectliteValue.parts (.agg #[.pointer (some ⟨2, 58, none⟩), .pointer (some a), .int .u64 150])).run Tryd.prog w = .ok (some (58, a, 150)) w := by kernel_rfl
theorem Tryd.asIsNilP (a p : Addr) (W : World) (ha : W.cell? a = some (.pointer (some p))) :
    (ReflectliteValue.method (ReflectliteValue.valueError "reflectlite.Value.IsNil" 0) ReflectliteValue.isNil #[.agg #[.pointer (some ⟨2, 58, none⟩), .pointer (some a), .int .u64 150]]).run Tryd.prog W = .ok (.bool false) W := by
  rw [as_rlm]
  simp only [Sem.run_bind, Tryd.asPartsP, Result.andThen]
  simp [ReflectliteValue.isNil, loadVar, isAgg, underlying, Tryd.underlying58, ha, Result.andThen]
theorem Tryd.asMethodElem (h : Value) (w : World) : (Go.method 237 86 (.agg #[h]) "Elem").run Tryd.prog w = .ok (106, .agg #[h]) w := by kernel_rfl
theorem Tryd.asMethodImpl (h : Value) (w : World) : (Go.method 237 86 (.agg #[h]) "Implements").run Tryd.prog w = .ok (107, .agg #[h]) w := by kernel_rfl
theorem Tryd.asMethodAssign (h : Value) (w : World) : (Go.method 237 86 (.agg #[h]) "AssignableTo").run Tryd.prog w = .ok (104, .agg #[h]) w := by kernel_rfl
theorem Tryd.asElemP (w : World) : (ReflectliteType.method ReflectliteType.elem #[.agg #[.pointer (some ⟨2, 58, none⟩)]]).run Tryd.prog w = .ok (.iface 86 (.agg #[.pointer (some ⟨2, 55, none⟩)])) w := by kernel_rfl
theorem Tryd.asImplF (w : World) : (ReflectliteType.relation "Implements" ReflectliteType.implements_ #[.agg #[.pointer (some ⟨2, 55, none⟩)], .iface 86 (.agg #[.pointer (some ⟨2, 36, none⟩)])]).run Tryd.prog w = .ok (.bool true) w := by kernel_rfl
theorem Tryd.asTypeOfF (v : Value) (w : World) : (ReflectliteType.typeOf #[.iface 55 v]).run Tryd.prog w = .ok (.iface 86 (.agg #[.pointer (some ⟨2, 55, none⟩)])) w := by kernel_rfl
theorem Tryd.asAssignF (w : World) : (ReflectliteType.relation "AssignableTo" ReflectliteType.assignableTo #[.agg #[.pointer (some ⟨2, 55, none⟩)], .iface 86 (.agg #[.pointer (some ⟨2, 55, none⟩)])]).run Tryd.prog w = .ok (.bool true) w := by kernel_rfl
theorem Tryd.asValueOfF (n : Int) (w : World) : (ReflectliteValue.unpack (.iface 55 (.int .i64 n))).run Tryd.prog w
    = .ok (.agg #[.pointer (some ⟨2, 55, none⟩), .pointer (some ⟨w.heap.size, 0, none⟩), .int .u64 130]) (w.alloc (.cells #[.int .i64 n] 55)) := by kernel_rfl
theorem Tryd.asElemOfP (w : World) : (Rtype.elem? 58).run Tryd.prog w = .ok (some 55) w := by kernel_rfl
theorem Tryd.asMkF (p : Addr) (w : World) : (ReflectliteValue.mk 55 p ReflectliteValue.flagAddr).run Tryd.prog w = .ok (.agg #[.pointer (some ⟨2, 55, none⟩), .pointer (some p), .int .u64 386]) w := by kernel_rfl
theorem Tryd.asElemVP (a p : Addr) (W : World) (ha : W.cell? a = some (.pointer (some p))) :
    (ReflectliteValue.method (ReflectliteValue.valueError "reflectlite.Value.Elem" 0) ReflectliteValue.elem #[.agg #[.pointer (some ⟨2, 58, none⟩), .pointer (some a), .int .u64 150]]).run Tryd.prog W
      = .ok (.agg #[.pointer (some ⟨2, 55, none⟩), .pointer (some p), .int .u64 386]) W := by
  rw [as_rlm]
  simp only [Sem.run_bind, Tryd.asPartsP, Result.andThen]
  simp [ReflectliteValue.elem, loadVar, isAgg, underlying, Tryd.underlying58, ha, Result.andThen, Tryd.asElemOfP, Tryd.asMkF]
theorem as_rls (v x : Value) : ReflectliteValue.set #[v, x] = (do
    let (some (dst, a, fl), some (src, b, _)) := (← ReflectliteValue.parts v, ← ReflectliteValue.parts x)
      | unsupported (.noEntry "extern/(internal/reflectlite.Value).Set.zeroValue")
    if fl / ReflectliteValue.flagAddr % 2 == 0 then unsupported (.noEntry "extern/(internal/reflectlite.Value).Set.unaddressable")
    let val ← loadVar src b
    if ← Rtype.directlyAssignable dst src then storeVar dst a val
    else if ← Rtype.implements dst src then
      if (← Rtype.kind src) == 20 then
        match val with
        | .nilIface => unsupported (.noEntry "extern/reflectlite: a nil value of one interface type handed on as a value of another")
        | _ => storeVar dst a val
      else storeVar dst a (.iface src val)
    else panicString ("reflectlite.Set: value of type " ++ (← Rtype.spelt src) ++ " is not assignable to type " ++ (← Rtype.spelt dst))
    pure (.tuple #[])) := rfl
theorem Tryd.asPartsFa (a : Addr) (w : World) : (ReflectliteValue.parts (.agg #[.pointer (some ⟨2, 55, none⟩), .pointer (some a), .int .u64 386])).run Tryd.prog w = .ok (some (55, a, 386)) w := by kernel_rfl
theorem Tryd.asPartsF (a : Addr) (w : World) : (ReflectliteValue.parts (.agg #[.pointer (some ⟨2, 55, none⟩), .pointer (some a), .int .u64 130])).run Tryd.prog w = .ok (some (55, a, 130)) w := by kernel_rfl
theorem Tryd.asDirectF (w : World) : (Rtype.directlyAssignable 55 55).run Tryd.prog w = .ok true w := by kernel_rfl
theorem Tryd.infoFault : (Tryd.prog.info? 55).map (·.size) = some 1 := by kernel_rfl
/-- (Value).Set: the fault at the block t gets what the Value's own variable b holds. -/
theorem Tryd.asSetF (t b : Nat) (n m : Int) (W : World) (hb : W.heap[b]? = some (.cells #[.int .i64 n] 55 (0, 0))) (ht : W.heap[t]? = some (.cells #[.int .i64 m] 55 (0, 0))) :
    (ReflectliteValue.set #[.agg #[.pointer (some ⟨2, 55, none⟩), .pointer (some ⟨t, 0, none⟩), .int .u64 386], .agg #[.pointer (some ⟨2, 55, none⟩), .pointer (some ⟨b, 0, none⟩), .int .u64 130]]).run Tryd.prog W
      = .ok (.tuple #[]) (W.setRow t #[.int .i64 n]) := by
  have hl : (loadVar 55 ⟨b, 0, none⟩).run Tryd.prog W = .ok (.int .i64 n) W := by
    have hcell : W.cell? ⟨b, 0, none⟩ = some (.int .i64 n) := by simp [World.cell?, hb]
    have hagg : (isAgg 55).run Tryd.prog W = .ok false W := by
      unfold isAgg
      rw [Sem.run_bind, run_underlying Tryd.underlying55 W]
      rfl
    simp [loadVar, Sem.run_bind, hagg, Result.andThen, run_load, hcell]
  have hs : (storeVar 55 ⟨t, 0, none⟩ (.int .i64 n)).run Tryd.prog W = .ok () (W.setRow t #[.int .i64 n]) :=
    run_storeVar_row W t _ 55 _ _ ht Tryd.infoFault rfl (by simp [Value.oneCell'])
  rw [as_rls]
  simp only [Sem.run_bind, Tryd.asPartsFa, Tryd.asPartsF, Result.andThen]
  simp [ReflectliteValue.flagAddr, hl, hs, Result.andThen, Tryd.asDirectF]

theorem Tryd.asTypeOfW (v : Value) (w : World) : (ReflectliteType.typeOf #[.iface 52 v]).run Tryd.prog w = .ok (.iface 86 (.agg #[.pointer (some ⟨2, 52, none⟩)])) w := by kernel_rfl
theorem Tryd.asAssignW (w : World) : (ReflectliteType.relation "AssignableTo" ReflectliteType.assignableTo #[.agg #[.pointer (some ⟨2, 52, none⟩)], .iface 86 (.agg #[.pointer (some ⟨2, 55, none⟩)])]).run Tryd.prog w = .ok (.bool false) w := by kernel_rfl
theorem Tryd.noAsW (v : Value) (xT : TypeId) (w : World) : (Instr.typeAssert (.iface 52 v) xT 98 true).run Tryd.prog w = .ok (.tuple #[.nilIface, .bool false]) w := run_typeAssert_lacksB Tryd.underlying98 (by kernel_rfl) (by kernel_rfl) v xT w
theorem Tryd.unwrapW (v : Value) (xT : TypeId) (w : World) : (Instr.typeAssert (.iface 52 v) xT 91 true).run Tryd.prog w = .ok (.tuple #[.iface 52 v, .bool true]) w := run_typeAssert_hasB Tryd.underlying91 (by kernel_rfl) v xT w
theorem Tryd.methodUnwrapW (v : Value) (w : World) : (Go.method 237 52 v "Unwrap").run Tryd.prog w = .ok (98, v) w := by kernel_rfl
theorem unwrap_c (s : ByteArray) (v : Value) (w : World) (hv : ∃ x y, v = .iface x y) : Calls Tryd.prog 98 #[.agg #[.string s, v]] w fun e w' => e = .returned v ∧ w' = w.alloc (.cells #[.string s, v] 52) := by
  obtain ⟨x, y, rfl⟩ := hv
  go_enter Tryd.func98, Tryd.ntmps98
  go_wp2
  go_ret
  exact ⟨rfl, rfl⟩

set_option maxHeartbeats 4000000 in
set_option maxRecDepth 100000 in
/-- errors.As(wrong{words, a fault}, &f): true; f is the fault. -/
theorem as_wrap (t : Nat) (s : ByteArray) (n m : Int) (w : World) (hg : ErrT w) (ht : w.heap[t]? = some (.cells #[.int .i64 m] 55 (0, 0))) :
    Calls Tryd.prog 36 #[wrongV s (faultV n), .iface 58 (.pointer (some ⟨t, 0, none⟩))] w fun ev w' => ev = .returned (.bool true) ∧ w'.cell? ⟨t, 0, none⟩ = some (.int .i64 n) ∧ Below t w w' := by
  have h6 := @run_callFunc_extern Tryd.prog 67 _ (fun args => ReflectliteValue.unpack (args.getD 0 (.tuple #[]))) Tryd.func67 (by kernel_rfl) (by kernel_rfl) (by kernel_rfl) (by kernel_rfl)
  have h7 := @run_callFunc_extern Tryd.prog 68 _ (ReflectliteValue.methodAny (ReflectliteValue.valueError "reflectlite.Value.Type" 0) (fun t _ _ _ => ReflectliteType.toType t)) Tryd.func68 (by kernel_rfl) (by kernel_rfl) (by kernel_rfl) (by kernel_rfl)
  have h8 := @run_callFunc_extern Tryd.prog 69 _ (ReflectliteValue.method (ReflectliteValue.valueError "reflectlite.Value.IsNil" 0) ReflectliteValue.isNil) Tryd.func69 (by kernel_rfl) (by kernel_rfl) (by kernel_rfl) (by kernel_rfl)
  have h27 := @run_callFunc_extern Tryd.prog 94 _ (ReflectliteType.abiMethod fun t => do pure (.int .u8 (← Rtype.kind t))) Tryd.func94 (by kernel_rfl) (by kernel_rfl) (by kernel_rfl) (by kernel_rfl)
  have h37 := @run_callFunc_extern Tryd.prog 106 _ (ReflectliteType.method ReflectliteType.elem) Tryd.func106 (by kernel_rfl) (by kernel_rfl) (by kernel_rfl) (by kernel_rfl)
  have h38 := @run_callFunc_extern Tryd.prog 107 _ (ReflectliteType.relation "Implements" ReflectliteType.implements_) Tryd.func107 (by kernel_rfl) (by kernel_rfl) (by kernel_rfl) (by kernel_rfl)
  have h10 := @run_callFunc_extern Tryd.prog 65 _ ReflectliteType.typeOf Tryd.func65 (by kernel_rfl) (by kernel_rfl) (by kernel_rfl) (by kernel_rfl)
  have h35 := @run_callFunc_extern Tryd.prog 104 _ (ReflectliteType.relation "AssignableTo" ReflectliteType.assignableTo) Tryd.func104 (by kernel_rfl) (by kernel_rfl) (by kernel_rfl) (by kernel_rfl)
  have h11 := @run_callFunc_extern Tryd.prog 77 _ (ReflectliteValue.method (ReflectliteValue.valueError "reflectlite.Value.Elem" 0) ReflectliteValue.elem) Tryd.func77 (by kernel_rfl) (by kernel_rfl) (by kernel_rfl) (by kernel_rfl)
  have h12 := @run_callFunc_extern Tryd.prog 78 _ ReflectliteValue.set Tryd.func78 (by kernel_rfl) (by kernel_rfl) (by kernel_rfl) (by kernel_rfl)
  have tO := Tryd.asTypeOfF
  have mA := Tryd.asMethodAssign
  have a25 := Tryd.asAssignF
  have v25 := Tryd.asValueOfF
  have tW := Tryd.asTypeOfW
  have aW := Tryd.asAssignW
  have nA := Tryd.noAsW
  have uW := Tryd.unwrapW
  have mU := Tryd.methodUnwrapW
  have f6 := Tryd.asValueOfP
  have f7 := Tryd.asTypeP
  have mK := Tryd.asMethodKind
  have mE := Tryd.asMethodElem
  have mI := Tryd.asMethodImpl
  have k27 := Tryd.asKindP
  have k25 := Tryd.asKindF
  have e27 := Tryd.asElemP
  have i25 := Tryd.asImplF
  obtain ⟨hgc, hlt⟩ := hg
  have htl : t < w.heap.size := (Array.getElem?_eq_some_iff.1 ht).1
  obtain ⟨W1, hW1⟩ : ∃ W1, W1 = (w.alloc (.cells #[.pointer (some ⟨t, 0, none⟩)] 58)).alloc (.cells #[.pointer (some ⟨2, 58, none⟩), .pointer (some ⟨w.heap.size, 0, none⟩), .int .u64 150] 71) := ⟨_, rfl⟩
  have n8 := Tryd.asIsNilP ⟨w.heap.size, 0, none⟩ ⟨t, 0, none⟩ ((w.alloc (.cells #[.pointer (some ⟨t, 0, none⟩)] 58)).alloc (.cells #[.pointer (some ⟨2, 58, none⟩), .pointer (some ⟨w.heap.size, 0, none⟩), .int .u64 150] 71)) (by simp)
  have hg2 : ((w.alloc (.cells #[.pointer (some ⟨t, 0, none⟩)] 58)).alloc (.cells #[.pointer (some ⟨2, 58, none⟩), .pointer (some ⟨w.heap.size, 0, none⟩), .int .u64 150] 71)).cell? ⟨1, 0, none⟩ = some (.iface 86 (.agg #[.pointer (some ⟨2, 36, none⟩)])) := by
    rw [World.cell?_alloc_lt _ _ ⟨1, 0, none⟩ (Nat.lt_of_lt_of_le hlt (by rw [World.size_alloc]; exact Nat.le_succ _)), World.cell?_alloc_lt _ _ ⟨1, 0, none⟩ hlt]; exact hgc
  have el := Tryd.asElemVP ⟨w.heap.size, 0, none⟩ ⟨t, 0, none⟩ (((w.alloc (.cells #[.pointer (some ⟨t, 0, none⟩)] 58)).alloc (.cells #[.pointer (some ⟨2, 58, none⟩), .pointer (some ⟨w.heap.size, 0, none⟩), .int .u64 150] 71)).alloc (.cells #[.pointer (some ⟨2, 58, none⟩), .pointer (some ⟨w.heap.size, 0, none⟩), .int .u64 150] 71)) (by rw [World.cell?_alloc_lt _ _ ⟨w.heap.size, 0, none⟩ (by simp; omega)]; simp)
  obtain ⟨V, hV⟩ : ∃ V, V = ((w.alloc (.cells #[.pointer (some ⟨t, 0, none⟩)] 58)).alloc (.cells #[.pointer (some ⟨2, 58, none⟩), .pointer (some ⟨w.heap.size, 0, none⟩), .int .u64 150] 71)).alloc (.cells #[.pointer (some ⟨2, 58, none⟩), .pointer (some ⟨w.heap.size, 0, none⟩), .int .u64 150] 71) := ⟨_, rfl⟩
  have hVs : V.heap.size = w.heap.size + 1 + 1 + 1 := by rw [hV]; simp
  have hVb : Below w.heap.size w V := by
    rw [hV]
    exact (((Below.refl _ w).alloc (Nat.le_refl _) _).alloc (by simp) _).alloc (by simp; omega) _
  have hVt : V.heap[t]? = some (.cells #[.int .i64 m] 55 (0, 0)) := (hVb.block t htl).trans ht
  obtain ⟨V2, hV2⟩ : ∃ V2, V2 = V.alloc (.cells #[.string s, .iface 55 (.int .i64 n)] 52) := ⟨_, rfl⟩
  have hV2s : V2.heap.size = w.heap.size + 1 + 1 + 1 + 1 := by rw [hV2]; simp [hVs]
  have hV2b : Below w.heap.size w V2 := by rw [hV2]; exact hVb.alloc (by omega) _
  have hV2t : V2.heap[t]? = some (.cells #[.int .i64 m] 55 (0, 0)) := (hV2b.block t htl).trans ht
  have st := Tryd.asSetF t (w.heap.size + 1 + 1 + 1 + 1) n m (V2.alloc (.cells #[.int .i64 n] 55)) (by rw [← hV2s]; exact World.alloc_heap_new V2 _) ((Below.heap_alloc V2 _ t (by omega)).trans hV2t)
  have el2 := Tryd.asElemVP ⟨w.heap.size, 0, none⟩ ⟨t, 0, none⟩ V2 (by rw [hV2, World.cell?_alloc_lt _ _ ⟨w.heap.size, 0, none⟩ (by show w.heap.size < V.heap.size; omega), hV, World.cell?_alloc_lt _ _ ⟨w.heap.size, 0, none⟩ (by simp; omega)]; simp)
  have hfin : ((V2.alloc (.cells #[.int .i64 n] 55)).setRow t #[.int .i64 n]).cell? ⟨t, 0, none⟩ = some (.int .i64 n) ∧ Below t w ((V2.alloc (.cells #[.int .i64 n] 55)).setRow t #[.int .i64 n]) := by
    refine ⟨cell_setRow_same _ t 0 _ _ _ (0, 0) ((Below.heap_alloc V2 _ t (by omega)).trans hV2t), ?_⟩
    exact below_setRow ((hV2b.mono (Nat.le_of_lt htl)).alloc (by omega) _) (Nat.le_refl _) _
  have HF := Lib.hid hfin
  clear hfin hVb hVt ht hVs hgc hW1 W1 hV2b hV2t hV2s
  rw [hV2, hV] at st HF el2
  clear hV2 V2 hV V
  go_enter Tryd.func36, Tryd.ntmps36
  go_wp2
  refine wp_loop_rounds 2 ?_
  rw [rounds_succ]
  go_wp2_with (go_at_call 98; refine (unwrap_c _ _ _ ⟨_, _, rfl⟩).mono ?_; rintro e w' ⟨rfl, rfl⟩)
  rw [rounds_succ]
  go_wp2
  go_ret
  exact ⟨rfl, HF.out.1, HF.out.2⟩

theorem Tryd.isTypeOf (v : Value) (w : World) : (Extern.ReflectliteType.typeOf #[.iface 103 v]).run Tryd.prog w = .ok (.iface 86 (.agg #[.pointer (some ⟨2, 103, none⟩)])) w := by kernel_rfl
def cmpM : Array Value → Sem Value := Extern.ReflectliteType.method fun t => do Extern.Rtype.noPackHeld "Comparable" t; pure (.bool (← typeInfo t).comparable)
theorem Tryd.isComparable (w : World) : (cmpM #[.agg #[.pointer (some ⟨2, 103, none⟩)]]).run Tryd.prog w = .ok (.bool true) w := by kernel_rfl
theorem Tryd.isMethodComparable (v : Value) (w : World) : (Go.method 237 86 v "Comparable").run Tryd.prog w = .ok (105, v) w := by kernel_rfl
theorem Tryd.isComp : (Tryd.prog.info? 103).map (·.comparable) = some true := by kernel_rfl
theorem Tryd.isSize : (Tryd.prog.info? 125).map (·.size) = some 1 := by kernel_rfl
theorem Tryd.noIsW (v : Value) (xT : TypeId) (w : World) : (Instr.typeAssert (.iface 52 v) xT 88 true).run Tryd.prog w = .ok (.tuple #[.nilIface, .bool false]) w := run_typeAssert_lacksB Tryd.underlying88 (by kernel_rfl) (by kernel_rfl) v xT w
theorem Tryd.noIsF (v : Value) (xT : TypeId) (w : World) : (Instr.typeAssert (.iface 55 v) xT 88 true).run Tryd.prog w = .ok (.tuple #[.nilIface, .bool false]) w := run_typeAssert_lacksB Tryd.underlying88 (by kernel_rfl) (by kernel_rfl) v xT w
theorem Tryd.noUnwrapF (v : Value) (xT : TypeId) (w : World) : (Instr.typeAssert (.iface 55 v) xT 91 true).run Tryd.prog w = .ok (.tuple #[.nilIface, .bool false]) w := run_typeAssert_lacksB Tryd.underlying91 (by kernel_rfl) (by kernel_rfl) v xT w
theorem Tryd.noUnwrapsF (v : Value) (xT : TypeId) (w : World) : (Instr.typeAssert (.iface 55 v) xT 93 true).run Tryd.prog w = .ok (.tuple #[.nilIface, .bool false]) w := run_typeAssert_lacksB Tryd.underlying93 (by kernel_rfl) (by kernel_rfl) v xT w
/-- An error value of the sentinel's type. -/
abbrev errV (a : Addr) : Value := .iface 103 (.pointer (some a))
/-- THE SENTINEL LIES. -/
def ES (w : World) (a : Addr) : Prop := w.cell? ⟨0, 0, none⟩ = some (errV a) ∧ 0 < w.heap.size
theorem ES.below {w w' : World} {a : Addr} (h : ES w a) (hb : Below w.heap.size w w') : ES w' a := ⟨(hb.cell (p := ⟨0, 0, none⟩) h.2).trans h.1, Nat.lt_of_lt_of_le h.2 hb.size⟩
set_option maxRecDepth 100000 in
set_option maxHeartbeats 4000000 in
/-- errors.Is(wrong, errDomain). -/
theorem is_syntax (s : ByteArray) (a : Addr) (w : World) :
    Calls Tryd.prog 35 #[wrongV s (errV a), errV a] w fun e w' => e = .returned (.bool true) ∧ Below w.heap.size w w' := by
  obtain ⟨i, hi, hcmp⟩ := Option.map_eq_some_iff.1 Tryd.isComp
  obtain ⟨j, hj, hjs⟩ := Option.map_eq_some_iff.1 Tryd.isSize
  have h8 := @run_callFunc_extern Tryd.prog 65 _ Extern.ReflectliteType.typeOf Tryd.func65 (by kernel_rfl) (by kernel_rfl) (by kernel_rfl) (by kernel_rfl)
  have h32 := @run_callFunc_extern Tryd.prog 105 _ cmpM Tryd.func105 (by kernel_rfl) (by kernel_rfl) (by kernel_rfl) (by kernel_rfl)
  have tT := Tryd.isTypeOf
  have cT := Tryd.isComparable
  have mR := Tryd.isMethodComparable
  have nI := Tryd.noIsW
  have uW := Tryd.unwrapW
  have mU := Tryd.methodUnwrapW
  have hne := run_eql_iface_types (P := Tryd.prog) 52 103 (.agg #[.string s, errV a]) (.pointer (some a)) Tryd.underlying36 (by decide) w
  have heq := run_eql_iface_ptr_same (P := Tryd.prog) (w.alloc (.cells #[.string s, errV a] 52)) a Tryd.underlying36 Tryd.underlying103 hi hcmp hj
  have hU := Lib.hid (unwrap_c s (errV a) w ⟨_, _, rfl⟩)
  go_enter Tryd.func35, Tryd.ntmps35
  go_wp2
  refine wp_loop_rounds 2 ?_
  rw [rounds_succ]
  go_wp2_with (go_at_call 98; refine hU.out.mono ?_; rintro e w' ⟨rfl, rfl⟩)
  rw [rounds_succ]
  go_wp2
  go_ret
  exact ⟨rfl, (Below.refl _ w).alloc (Nat.le_refl _) _⟩
set_option maxRecDepth 100000 in
set_option maxHeartbeats 4000000 in
/-- errors.Is(wrong of a fault, errDomain). -/
theorem is_fault (s : ByteArray) (n : Int) (a : Addr) (w : World) :
    Calls Tryd.prog 35 #[wrongV s (faultV n), errV a] w fun e w' => e = .returned (.bool false) ∧ Below w.heap.size w w' := by
  have h8 := @run_callFunc_extern Tryd.prog 65 _ Extern.ReflectliteType.typeOf Tryd.func65 (by kernel_rfl) (by kernel_rfl) (by kernel_rfl) (by kernel_rfl)
  have h32 := @run_callFunc_extern Tryd.prog 105 _ cmpM Tryd.func105 (by kernel_rfl) (by kernel_rfl) (by kernel_rfl) (by kernel_rfl)
  have tT := Tryd.isTypeOf
  have cT := Tryd.isComparable
  have mR := Tryd.isMethodComparable
  have nI := Tryd.noIsW
  have nF := Tryd.noIsF
  have nU := Tryd.noUnwrapF
  have nUs := Tryd.noUnwrapsF
  have uW := Tryd.unwrapW
  have mU := Tryd.methodUnwrapW
  have hne := run_eql_iface_types (P := Tryd.prog) 52 103 (.agg #[.string s, faultV n]) (.pointer (some a)) Tryd.underlying36 (by decide) w
  have hne2 := run_eql_iface_types (P := Tryd.prog) 55 103 (.int .i64 n) (.pointer (some a)) Tryd.underlying36 (by decide) (w.alloc (.cells #[.string s, faultV n] 52))
  have hU := Lib.hid (unwrap_c s (faultV n) w ⟨_, _, rfl⟩)
  go_enter Tryd.func35, Tryd.ntmps35
  go_wp2
  refine wp_loop_rounds 2 ?_
  rw [rounds_succ]
  go_wp2_with (go_at_call 98; refine hU.out.mono ?_; rintro e w' ⟨rfl, rfl⟩)
  rw [rounds_succ]
  go_wp2
  go_ret
  exact ⟨rfl, (Below.refl _ w).alloc (Nat.le_refl _) _⟩
end Go.Proofs.YtjafngieohpdaaaDoor.Nu
