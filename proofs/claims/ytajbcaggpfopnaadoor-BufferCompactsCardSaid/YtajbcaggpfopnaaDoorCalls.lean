/- The buffer's other calls: Read, Len, Text, Pieces, Compact, and all at none. -/
import Derived.Test.YtajbcaggpfopnaaDoorBuffer
import Derived.RegionCalls
import Derived.Deep.RegionWith
namespace Go.Proofs.YtajbcaggpfopnaaDoor
open Go Go.RowKit

set_option maxRecDepth 100000 in
theorem blen_nil (w : World) : Calls Tryd.prog 17 #[.pointer none] w fun e W' => e = .returned (.int .i64 0) ∧ w = W' := by
  go_enter Tryd.func17, Tryd.ntmps17
  go_wp2
  go_ret
  exact ⟨rfl, rfl⟩
set_option maxRecDepth 100000 in
theorem btext_nil (w : World) : Calls Tryd.prog 16 #[.pointer none] w fun e W' => e = .returned (.string ⟨#[]⟩) ∧ w = W' := by
  go_enter Tryd.func16, Tryd.ntmps16
  go_wp2
  go_ret
  exact ⟨rfl, rfl⟩
set_option maxRecDepth 100000 in
theorem bpieces_nil (w : World) : Calls Tryd.prog 20 #[.pointer none] w fun e W' => e = .returned (.int .i64 0) ∧ w = W' := by
  go_enter Tryd.func20, Tryd.ntmps20
  go_wp2
  go_ret
  exact ⟨rfl, rfl⟩
set_option maxRecDepth 100000 in
theorem bcompact_nil (w : World) : Calls Tryd.prog 21 #[.pointer none] w fun e W' => (∃ v, e = .returned v) ∧ w = W' := by
  go_enter Tryd.func21, Tryd.ntmps21
  go_wp2
  refine bodyPost_ret (results_none rfl _ _ _) rfl ?_
  exact ⟨⟨_, rfl⟩, rfl⟩
set_option maxRecDepth 100000 in
theorem bread_nil (n₀ : Nat) (aF aN aR : Addr) (w : World) (hS : Sent n₀ w aF aN aR) (a m : Int) :
    Calls Tryd.prog 18 #[.pointer none, .int .i64 a, .int .i64 m] w fun e W' => e = .returned (.tuple #[.string ⟨#[]⟩, .int .i64 1]) ∧ w = W' := by
  have HS := Lib.hid hS
  clear hS
  go_enter Tryd.func18, Tryd.ntmps18
  go_wp2_with fail
  refine (span_nil n₀ aF aN aR _ HS.out a m).mono ?_
  rintro e w1 ⟨rfl, rfl⟩
  go_wp2_with fail
  refine (number_nil n₀ _ aF aN aR HS.out).mono ?_
  rintro e w' ⟨rfl, rfl⟩
  go_wp2
  go_ret2
  exact ⟨rfl, rfl⟩

set_option maxRecDepth 100000 in
theorem blen (w : World) (B : Nat) (lb : Option Nat) (xs : List ByteArray) (hB : IsBuf w B lb xs) :
    Calls Tryd.prog 17 #[.pointer (some ⟨B, 0, none⟩)] w fun e W' => e = .returned (.int .i64 ((text xs).length : Int)) ∧ Below w.heap.size w W' := by
  have HB := Lib.hid hB
  clear hB
  go_enter Tryd.func17, Tryd.ntmps17
  go_wp2_with fail
  refine (size_b _ B lb xs HB.out).mono ?_
  rintro e w1 ⟨rfl, hb1⟩
  have HB1 := Lib.hid hb1
  clear hb1
  go_wp2
  go_ret
  exact ⟨rfl, HB1.out⟩

set_option maxRecDepth 100000 in
theorem bpieces (w : World) (B : Nat) (lb : Option Nat) (xs : List ByteArray) (hB : IsBuf w B lb xs) :
    Calls Tryd.prog 20 #[.pointer (some ⟨B, 0, none⟩)] w fun e W' => e = .returned (.int .i64 (xs.length : Int)) ∧ w = W' := by
  obtain ⟨v, hv, hh, _⟩ := hB
  obtain ⟨a0, c0, hvv⟩ : ∃ a0 c0, v = .slice a0 xs.length c0 := by
    rcases hh with ⟨e, e0⟩ | ⟨b, off, cap, e, _⟩
    · exact ⟨none, 0, by rw [e, e0]⟩
    · exact ⟨_, cap, e⟩
  subst hvv
  have cB := hv.cell
  clear hv hh
  go_enter Tryd.func20, Tryd.ntmps20
  go_wp2
  go_ret
  exact ⟨rfl, rfl⟩

set_option maxRecDepth 100000 in
theorem bcompact (w : World) (B : Nat) (lb : Option Nat) (xs : List ByteArray) (hB : IsBuf w B lb xs) :
    Calls Tryd.prog 21 #[.pointer (some ⟨B, 0, none⟩)] w fun e W' => (∃ v, e = .returned v) ∧ CompactTo w B xs W' := by
  have HB := Lib.hid hB
  clear hB
  go_enter Tryd.func21, Tryd.ntmps21
  go_wp2_with fail
  refine (compact_any _ B lb xs HB.out).mono ?_
  rintro e w1 ⟨⟨v, rfl⟩, hb1⟩
  have HB1 := Lib.hid hb1
  clear hb1
  go_wp2
  go_end0
  exact ⟨⟨_, rfl⟩, HB1.out⟩

/-- What a reading tells. -/
def rdE (L : Nat) (a m : Int) : Int := if okSpan L a m = true then 0 else 10
/-- What is read. -/
def rdT (T : List UInt8) (a m : Int) : List UInt8 := if okSpan T.length a m = true then (T.drop a.toNat).take m.toNat else []

set_option maxHeartbeats 1000000 in
set_option maxRecDepth 100000 in
theorem bread_range (n₀ : Nat) (aF aN aR : Addr) (w : World) (hS : Sent n₀ w aF aN aR) (hn : n₀ ≤ w.heap.size) (B : Nat) (lb : Option Nat) (xs : List ByteArray) (hB : IsBuf w B lb xs) (a m : Int) (h : okSpan (text xs).length a m = false) :
    Calls Tryd.prog 18 #[.pointer (some ⟨B, 0, none⟩), .int .i64 a, .int .i64 m] w fun e W' => e = .returned (.tuple #[.string ⟨#[]⟩, .int .i64 10]) ∧ Below w.heap.size w W' := by
  have HS := Lib.hid hS
  have HB := Lib.hid hB
  clear hS hB
  go_enter Tryd.func18, Tryd.ntmps18
  go_wp2_with fail
  refine (span_range n₀ aF aN aR _ HS.out hn B lb xs HB.out a m h).mono ?_
  rintro e w1 ⟨rfl, hb1⟩
  have HS1 := Lib.hid (HS.out.below hb1 hn)
  have HB1 := Lib.hid hb1
  clear hb1
  go_wp2_with fail
  refine (number_range n₀ _ aF aN aR HS1.out).mono ?_
  rintro e w' ⟨rfl, rfl⟩
  go_wp2
  go_ret2
  exact ⟨rfl, HB1.out⟩

set_option maxHeartbeats 1000000 in
set_option maxRecDepth 100000 in
theorem bread_ok (w : World) (B : Nat) (lb : Option Nat) (xs : List ByteArray) (hB : IsBuf w B lb xs) (a m : Nat) (h : a + m ≤ (text xs).length) :
    Calls Tryd.prog 18 #[.pointer (some ⟨B, 0, none⟩), .int .i64 (a : Int), .int .i64 (m : Int)] w fun e W' => e = .returned (.tuple #[.string ⟨(((text xs).drop a).take m).toArray⟩, .int .i64 0]) ∧ Below w.heap.size w W' := by
  have hok : okSpan (text xs).length (a : Int) (m : Int) = true := by unfold okSpan; exact decide_eq_true ⟨by omega, by omega, by omega, by omega⟩
  have HB := Lib.hid hB
  clear hB
  go_enter Tryd.func18, Tryd.ntmps18
  go_wp2_with fail
  refine (span_ok _ B lb xs HB.out _ _ hok).mono ?_
  rintro e w1 ⟨rfl, hb1⟩
  have H1 := Lib.hid (HB.out.below hb1)
  have hs1 := hb1.size
  have HB1 := Lib.hid hb1
  clear hb1
  go_wp2_with fail
  refine (read_b _ B lb xs H1.out a m h).mono ?_
  rintro e w2 ⟨rfl, hb2⟩
  have HB2 := Lib.hid hb2
  clear hb2
  go_wp2
  go_ret2
  exact ⟨rfl, HB1.out.trans (HB2.out.mono hs1)⟩

/-- (*Buffer).Read, OF ANY NUMBERS. -/
theorem bread (n₀ : Nat) (aF aN aR : Addr) (w : World) (hS : Sent n₀ w aF aN aR) (hn : n₀ ≤ w.heap.size) (B : Nat) (lb : Option Nat) (xs : List ByteArray) (hB : IsBuf w B lb xs) (a m : Int) :
    Calls Tryd.prog 18 #[.pointer (some ⟨B, 0, none⟩), .int .i64 a, .int .i64 m] w fun e W' => e = .returned (.tuple #[.string ⟨(rdT (text xs) a m).toArray⟩, .int .i64 (rdE (text xs).length a m)]) ∧ Below w.heap.size w W' := by
  cases hok : okSpan (text xs).length a m with
  | false =>
    refine (bread_range n₀ aF aN aR w hS hn B lb xs hB a m hok).mono ?_
    rintro e W' ⟨rfl, hb⟩
    exact ⟨by unfold rdT rdE; rw [hok]; rfl, hb⟩
  | true =>
    have hok' := hok
    unfold okSpan at hok'
    obtain ⟨h1, h2, h3, h4⟩ := of_decide_eq_true hok'
    obtain ⟨A, rfl⟩ := Int.eq_ofNat_of_zero_le h1
    obtain ⟨M, rfl⟩ := Int.eq_ofNat_of_zero_le h3
    refine (bread_ok w B lb xs hB A M (by omega)).mono ?_
    rintro e W' ⟨rfl, hb⟩
    exact ⟨by unfold rdT rdE; rw [hok]; rfl, hb⟩

set_option maxHeartbeats 2000000 in
set_option maxRecDepth 100000 in
theorem btext (w : World) (B : Nat) (lb : Option Nat) (xs : List ByteArray) (hB : IsBuf w B lb xs) :
    Calls Tryd.prog 16 #[.pointer (some ⟨B, 0, none⟩)] w fun e W' => e = .returned (.string ⟨(text xs).toArray⟩) ∧ Below w.heap.size w W' := by
  have HB := Lib.hid hB
  have HD := Lib.hid (Below.refl w.heap.size w).drew
  clear hB
  go_enter Tryd.func16, Tryd.ntmps16
  go_wp2_with fail
  go_region_with (first
    | (go_at_call 27; refine (size_b _ B lb xs (HB.out.below HD.out)).mono ?_; rintro e w1 ⟨rfl, hb1⟩; have HB1 := Lib.hid hb1; clear hb1)
    | (go_at_call 29; refine (read_b _ B lb xs ((HB.out.below HD.out).below HB1.out) 0 (text xs).length (by omega)).mono ?_; rintro e w2 ⟨rfl, hb2⟩; have HB2 := Lib.hid hb2; clear hb2))
  all_goals
    go_wp2
    go_ret
    exact ⟨rfl, HD.out.trans (HB1.out.trans (HB2.out.mono HB1.out.size))⟩
end Go.Proofs.YtajbcaggpfopnaaDoor
