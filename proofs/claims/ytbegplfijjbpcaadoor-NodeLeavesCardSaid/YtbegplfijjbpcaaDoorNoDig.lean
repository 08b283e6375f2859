/- A kind's digits. -/
import Derived.Test.YtbegplfijjbpcaaDoorNoDeep
import Derived.Laws.IdiomStrings
namespace Go.Proofs.YtbegplfijjbpcaaDoor.No
open Go Go.RowKit Go.Shelf
attribute [local go_sem] Oper.semAt_some

/-- A text of one byte that lies new. -/
theorem one_conv (w : World) (m : Int) (c : UInt8) (h : (c.toNat : Int) = m) :
    (convert 50 9 (.slice (some ⟨w.heap.size, 0, none⟩) 1 1)).run Tryd.prog (w.alloc (.cells #[.int .u8 m] 5)) = .ok (.string (bs [c])) (w.alloc (.cells #[.int .u8 m] 5)) :=
  run_convert_bytes_back (P := Tryd.prog) _ 50 9 5 ⟨w.heap.size, 0, none⟩ 1 [c] Tryd.underlying50 Tryd.underlying5 Tryd.underlying9 (fun j hj => by
    have hj0 : j = 0 := by simp at hj; exact hj
    subst hj0
    have hr := (Row.new w 5 #[.int .u8 m]).cell 0
    show World.cell? _ ⟨w.heap.size, 0 + 0, none⟩ = some (.int .u8 (c.toNat : Int))
    rw [h]
    exact hr)
theorem byte_of {n : Int} (h1 : 0 ≤ n) (h2 : n < 256) : ((n.toNat.toUInt8).toNat : Int) = n := by
  have : (n.toNat.toUInt8).toNat = n.toNat := by
    rw [UInt8.toNat_ofNat']
    omega
  omega

set_option maxHeartbeats 8000000 in
set_option maxRecDepth 100000 in
/-- digits(k). -/
theorem digits_c (k : Int) (w : World) (h1 : 0 ≤ k) (h2 : k ≤ 14) :
    Calls Tryd.prog 51 #[.int .i64 k] w fun e W' => e = .returned (.string (bs (digB k))) ∧ Below w.heap.size w W' := by
  have HD : Hid (∀ m, Below w.heap.size w (w.alloc (.cells #[.int .u8 m] 5))) := Lib.hid (fun m => (Below.refl w.heap.size w).alloc (Nat.le_refl _) _)
  by_cases h : 9 < k
  · have hcv := one_conv w (48 + k % 10) ((48 + k % 10).toNat.toUInt8) (byte_of (by omega) (by omega))
    have HDB : Hid (bs [49] ++ bs [(48 + k % 10).toNat.toUInt8] = bs (digB k)) := Lib.hid (by rw [bs_app]; unfold digB; rw [if_pos h]; rfl)
    obtain ⟨s, hs⟩ : ∃ s, s = bs [(48 + k % 10).toNat.toUInt8] := ⟨_, rfl⟩
    have hss : s.size = 1 := by rw [hs]; rfl
    have hst : ¬ 9223372036854775807 < (⟨#[49]⟩ : ByteArray).size + s.size := by rw [hss]; decide
    rw [← hs] at hcv HDB
    clear hs
    go_enter Tryd.func51, Tryd.ntmps51
    go_wp2
    go_ret
    exact ⟨by rw [← HDB.out]; rfl, HD.out _⟩
  · have hcv := one_conv w (48 + k) ((48 + k).toNat.toUInt8) (byte_of (by omega) (by omega))
    have HDB : Hid (bs [(48 + k).toNat.toUInt8] = bs (digB k)) := Lib.hid (by unfold digB; rw [if_neg h])
    obtain ⟨s, hs⟩ : ∃ s, s = bs [(48 + k).toNat.toUInt8] := ⟨_, rfl⟩
    rw [← hs] at hcv HDB
    clear hs
    go_enter Tryd.func51, Tryd.ntmps51
    go_wp2
    go_ret
    exact ⟨by rw [← HDB.out]; rfl, HD.out _⟩
end Go.Proofs.YtbegplfijjbpcaaDoor.No
