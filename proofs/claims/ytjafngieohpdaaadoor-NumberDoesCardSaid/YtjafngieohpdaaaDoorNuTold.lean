/- number's errors: what callers are told (by wip/gen/mknuerr.py). -/
import Derived.Test.YtjafngieohpdaaaDoorNuErr
namespace Go.Proofs.YtjafngieohpdaaaDoor.Nu
open Go Go.RowKit Go.Extern.Stop Go.Stop Go.Extern

set_option maxRecDepth 100000 in
/-- errors.Is(nil, errDomain). -/
theorem is_nil (a : Addr) (w : World) : Calls Tryd.prog 35 #[.nilIface, errV a] w fun e w' => e = .returned (.bool false) ∧ w = w' := by
  have hn := @run_eql_iface_nil_left Tryd.prog w 36 _ 103 (.pointer (some a)) Tryd.underlying36
  go_enter Tryd.func35, Tryd.ntmps35
  go_wp2
  go_ret
  exact ⟨rfl, rfl⟩
/-- What a check tells comes to a number. -/
def FailV (a : Addr) (v : Value) (c : Int) : Prop := (c = 0 ∧ v = .nilIface) ∨ (c = 102 ∧ v = errV a) ∨ (c ≠ 102 ∧ c ≠ 0 ∧ v = faultV c)
/-- What is told comes to a number. -/
def ErrV (a : Addr) (v : Value) (c : Int) : Prop := (c = 0 ∧ v = .nilIface) ∨ (∃ s : ByteArray, (c = 102 ∧ v = wrongV s (errV a)) ∨ (c ≠ 102 ∧ c ≠ 0 ∧ v = wrongV s (faultV c)))
set_option maxRecDepth 100000 in
set_option maxHeartbeats 4000000 in
/-- told(err). -/
theorem told_c (a : Addr) (v : Value) (c : Int) (w : World) (h : ES w a) (hg : ErrT w) (hv : ErrV a v c) : Calls Tryd.prog 23 #[v] w fun e w' => e = .returned (.int .i64 c) ∧ Below w.heap.size w w' := by
  have hb0 : Below w.heap.size w (w.alloc (.cells #[.int .i64 0] 55)) := (Below.refl _ w).alloc (Nat.le_refl _) _
  have c1 := (h.below hb0).1
  have h1 := (h.below hb0).2
  have HB0 := Lib.hid hb0
  obtain ⟨rfl, rfl⟩ | ⟨s, ⟨rfl, rfl⟩ | ⟨hc, hc0, rfl⟩⟩ := hv
  · have hI := Lib.hid (is_nil a (w.alloc (.cells #[.int .i64 0] 55)))
    have hA := Lib.hid (fun t W => as_nil t W)
    clear h hb0 hg
    go_enter Tryd.func23, Tryd.ntmps23
    go_wp2_with (go_at_call 35; refine hI.out.mono ?_; rintro e w' ⟨rfl, rfl⟩)
    go_wp2_with (go_at_call 36; refine (hA.out _ _).mono ?_; rintro e w' ⟨rfl, rfl⟩)
    go_ret
    exact ⟨rfl, HB0.out⟩
  · have hI := Lib.hid (is_syntax s a (w.alloc (.cells #[.int .i64 0] 55)))
    clear h hb0 hg
    go_enter Tryd.func23, Tryd.ntmps23
    go_wp2_with (go_at_call 35; refine hI.out.mono ?_; rintro e w' ⟨rfl, hb⟩; have HB := Lib.hid hb; clear hb)
    go_ret
    exact ⟨rfl, HB0.out.trans (HB.out.mono (by simp))⟩
  · have hI := Lib.hid (is_fault s c a (w.alloc (.cells #[.int .i64 0] 55)))
    have HA : Hid (∀ W, Below (w.alloc (.cells #[.int .i64 0] 55)).heap.size (w.alloc (.cells #[.int .i64 0] 55)) W → Calls Tryd.prog 36 #[wrongV s (faultV c), .iface 58 (.pointer (some ⟨w.heap.size, 0, none⟩))] W fun ev w' => ev = .returned (.bool true) ∧ w'.cell? ⟨w.heap.size, 0, none⟩ = some (.int .i64 (c : Int)) ∧ Below w.heap.size W w') := Lib.hid (fun W hb => as_wrap w.heap.size s (c : Int) 0 W (hg.below (hb0.trans (hb.mono (by simp))) hg.2) ((hb.block w.heap.size (by simp)).trans (World.alloc_heap_new w _)))
    clear h hb0 hg
    go_enter Tryd.func23, Tryd.ntmps23
    go_wp2_with (go_at_call 35; refine hI.out.mono ?_; rintro e w' ⟨rfl, hb⟩; have HB := Lib.hid hb; clear hb)
    go_wp2_with (go_at_call 36; refine (HA.out _ HB.out).mono ?_; rintro e w2 ⟨rfl, hc1, hb⟩; have HB2 := Lib.hid hb; clear hb)
    go_ret
    exact ⟨rfl, HB0.out.trans ((HB.out.mono (by simp)).trans HB2.out)⟩
end Go.Proofs.YtjafngieohpdaaaDoor.Nu
