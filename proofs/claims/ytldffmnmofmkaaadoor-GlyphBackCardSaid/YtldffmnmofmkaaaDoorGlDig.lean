/- How a glyph can be typed: the first sign of this glyph. -/
import Derived.Test.YtldffmnmofmkaaaDoorGlClass
import Derived.Shelf.AbstractIn
import Derived.BigQuiet
import Derived.Deep.QuietTactic
namespace Go.Proofs.YtldffmnmofmkaaaDoor
open Go Go.RowKit Go.Shelf
attribute [local go_sem] Oper.semAt_some

theorem dig_ne {k : Nat} (hk : k < 38) (h : di k ≠ []) : (bs (di k)).toList.isEmpty = false :=
  (by decide +kernel : ∀ k, k < 38 → (di k).isEmpty = false → (bs (di k)).toList.isEmpty = false) k hk (by simpa using h)

theorem digraph_c (T : List UInt8) (w : World) (hG : Ground w) :
    Calls Tryd.prog 11 #[.string (bs T)] w fun e W' => e = .returned (.tuple #[.string (bs (dig T)), .bool !(dig T).isEmpty]) ∧ Below w.heap.size w W' := by
  have hF := signOf_c T w hG
  obtain ⟨g, d, c, hv, hc, hd⟩ := optV_agg T
  clear hc
  have hd2 : d = bs (dig T) := hd
  have hde : d.toList.isEmpty = (dig T).isEmpty := by rw [hd2, ByteArray.toList_eq, bs_list]
  rw [hv] at hF
  rw [← hd2, ← hde]
  have HF := Lib.hid hF
  have hmix : Tryd.prog.follows .mixedOrders = true := by kernel_rfl
  clear hF hv hd hd2 hde
  go_enter Tryd.func11, Tryd.ntmps11
  go_wp2_with (first | (go_at_call 24; refine HF.out.mono ?_; rintro e w1 ⟨rfl, hb1⟩; have HB1 := Lib.hid hb1; clear hb1))
  obtain ⟨W2, hW2⟩ : ∃ W2, W2 = w1.alloc (.cells #[.string g, .string d, .int .i64 c] 36) := ⟨_, rfl⟩
  have r1 : Row W2 w1.heap.size 36 #[.string g, .string d, .int .i64 c] := by rw [hW2]; exact Row.new _ _ _
  have hb2 : Below w.heap.size w W2 := by rw [hW2]; exact HB1.out.alloc HB1.out.size _
  have HB2 := Lib.hid hb2
  rw [← hW2]
  have c1 := r1.cell 1
  simp at c1
  clear hb2 hW2 r1 HB1
  have hbn : ∀ nq, Below w.heap.size w (W2.drewN nq) := fun nq => HB2.out.trans ⟨rfl, rfl, rfl, Nat.le_refl _, fun _ _ => rfl⟩
  cases hdn : d.toList.isEmpty with
  | true =>
    go_quiet (fail)
    go_wp2_with fail
    exact bodyPost_ret (v := .tuple #[.string d, .bool false]) (by simp [results, Tryd.f11, go_sem]) rfl ⟨by rw [hdn]; rfl, hbn _⟩
  | false =>
    go_quiet (fail)
    go_wp2_with fail
    exact bodyPost_ret (v := .tuple #[.string d, .bool true]) (by simp [results, Tryd.f11, go_sem]) rfl ⟨by rw [hdn]; rfl, hbn _⟩
end Go.Proofs.YtldffmnmofmkaaaDoor
