/- A buffer that is none has nothing. -/
import Derived.Test.YtajbcaggpfopnaaDoorShown
namespace Go.Proofs.YtajbcaggpfopnaaDoor
open Go Go.RowKit

set_option maxHeartbeats 4000000 in
set_option maxRecDepth 100000 in
theorem none_true (n₀ : Nat) (aF aN aR : Addr) (w : World) (hS : Sent n₀ w aF aN aR) (hn : n₀ ≤ w.heap.size) (a m : Int) (s : ByteArray) :
    Calls Tryd.prog 8 #[.int .i64 a, .int .i64 m, .string s] w fun e W' => e = .returned (.bool true) ∧ Below w.heap.size w W' := by
  have HS := Lib.hid hS
  clear hS
  go_enter Tryd.func8, Tryd.ntmps8
  go_wp2_with fail
  refine (shown_true n₀ aF aN aR _ HS.out hn).mono ?_
  rintro e w1 ⟨rfl, hb1⟩
  have HS1 := Lib.hid (HS.out.below hb1 hn)
  have HB1 := Lib.hid hb1
  clear hb1
  go_wp2_with fail
  refine (bread_nil n₀ aF aN aR _ HS1.out a m).mono ?_
  rintro e w2 ⟨rfl, rfl⟩
  go_wp2_with fail
  refine (bcompact_nil _).mono ?_
  rintro e w3 ⟨⟨v, rfl⟩, rfl⟩
  go_wp2_with fail
  refine (cut_any _ s).mono ?_
  rintro e w4 ⟨rfl, rfl⟩
  go_wp2_with fail
  refine (bsplice_nil n₀ aF aN aR _ HS1.out a m (cut s)).mono ?_
  rintro e w5 ⟨rfl, rfl⟩
  go_wp2_with fail
  refine (blen_nil _).mono ?_
  rintro e w6 ⟨rfl, rfl⟩
  go_wp2_with fail
  refine (btext_nil _).mono ?_
  rintro e w7 ⟨rfl, rfl⟩
  go_wp2_with fail
  refine (bpieces_nil _).mono ?_
  rintro e w8 ⟨rfl, rfl⟩
  go_wp2
  go_ret
  exact ⟨rfl, HB1.out⟩
end Go.Proofs.YtajbcaggpfopnaaDoor
