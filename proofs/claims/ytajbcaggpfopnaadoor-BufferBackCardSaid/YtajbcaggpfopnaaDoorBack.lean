/- A splice is taken back by another one. -/
import Derived.Test.YtajbcaggpfopnaaDoorLists
namespace Go.Proofs.YtajbcaggpfopnaaDoor
open Go Go.RowKit

set_option maxHeartbeats 2000000 in
set_option maxRecDepth 100000 in
theorem back_full (n₀ : Nat) (aF aN aR : Addr) (w : World) (hS : Sent n₀ w aF aN aR) (hn : n₀ ≤ w.heap.size) (s : ByteArray) (a m : Int) (x : ByteArray) (h : 4000 < (cut s).size) :
    Calls Tryd.prog 6 #[.string s, .int .i64 a, .int .i64 m, .string x] w fun e W' => e = .returned (.bool true) ∧ Below w.heap.size w W' := by
  have HS := Lib.hid hS
  clear hS
  go_enter Tryd.func6, Tryd.ntmps6
  go_wp2_with fail
  refine (shown_true n₀ aF aN aR _ HS.out hn).mono ?_
  rintro e w1 ⟨rfl, hb1⟩
  have HS1 := Lib.hid (HS.out.below hb1 hn)
  have HB1 := Lib.hid hb1
  clear hb1
  go_wp2_with fail
  refine (cut_any _ s).mono ?_
  rintro e w2 ⟨rfl, rfl⟩
  go_wp2_with fail
  refine (cut_any _ x).mono ?_
  rintro e w3 ⟨rfl, rfl⟩
  go_wp2_with fail
  refine (new_full n₀ aF aN aR _ HS1.out _ h).mono ?_
  rintro e w4 ⟨rfl, rfl⟩
  go_wp2
  go_ret
  exact ⟨rfl, HB1.out⟩

set_option maxHeartbeats 4000000 in
set_option maxRecDepth 100000 in
/-- A splice that is refused. -/
theorem back_no (n₀ : Nat) (aF aN aR : Addr) (w : World) (hS : Sent n₀ w aF aN aR) (hn : n₀ ≤ w.heap.size) (s : ByteArray) (a m : Int) (x : ByteArray) (h : (cut s).size ≤ 4000) (g f : Int) (hgf : (g = 10 ∧ f = 10) ∨ (g = 11 ∧ f = 0))
    (hg : spE (cut s).size a m (cut x).size = g) (hf : rdE (cut s).size a m = f) :
    Calls Tryd.prog 6 #[.string s, .int .i64 a, .int .i64 m, .string x] w fun e W' => e = .returned (.bool true) ∧ Below w.heap.size w W' := by
  have HS := Lib.hid hS
  have HG := Lib.hid hg
  have HFF := Lib.hid hf
  have HX : Hid (spE (cut s).size a m (cut x).size ≠ 0) := Lib.hid (by rw [hg]; rcases hgf with ⟨e, _⟩ | ⟨e, _⟩ <;> rw [e] <;> decide)
  clear hS hg hf
  rcases hgf with ⟨rfl, rfl⟩ | ⟨rfl, rfl⟩
  all_goals
    go_enter Tryd.func6, Tryd.ntmps6
    go_wp2_with fail
    refine (shown_true n₀ aF aN aR _ HS.out hn).mono ?_
    rintro e w1 ⟨rfl, hb1⟩
    have hs1 := hb1.size
    have HS1 := Lib.hid (HS.out.below hb1 hn)
    have HB1 := Lib.hid hb1
    clear hb1
    go_wp2_with fail
    refine (cut_any _ s).mono ?_
    rintro e w2 ⟨rfl, rfl⟩
    go_wp2_with fail
    refine (cut_any _ x).mono ?_
    rintro e w3 ⟨rfl, rfl⟩
    go_wp2_with fail
    refine (new_ok _ _ h).mono ?_
    rintro e w4 ⟨B, rfl, lb, xs, hB, ht, hl, hb4, hBw, hlb⟩
    have hb4' := HB1.out.trans (hb4.mono hs1)
    have hs4 := hb4'.size
    have HS4 := Lib.hid (HS.out.below hb4' hn)
    have H4 := Lib.hid hB
    have T4 := Lib.hid ht
    have TL4 : Hid ((text xs).length = (cut s).size) := Lib.hid (by rw [ht, Lib.size_eq])
    have HB4 := Lib.hid hb4'
    clear hB ht hb4 hb4' hlb hl
    go_wp2_with fail
    refine (bread n₀ aF aN aR _ HS4.out (by omega) B lb xs H4.out a m).mono ?_
    rw [TL4.out, HFF.out]
    rintro e w5 ⟨rfl, hb5⟩
    have hb5' := HB4.out.trans (hb5.mono hs4)
    have hs5 := hb5'.size
    have HS5 := Lib.hid (HS.out.below hb5' hn)
    have H5 := Lib.hid (H4.out.below hb5)
    have HB5 := Lib.hid hb5'
    clear hb5 hb5'
    go_wp2_with fail
    refine (bsplice n₀ aF aN aR _ HS5.out (by omega) B lb xs H5.out a m (cut x)).mono ?_
    rw [TL4.out, HG.out]
    rintro e w6 ⟨rfl, lb6, xs6, hB6, ht6, hl6, hg6, hlb6⟩
    have hb6 := below_grown HB5.out hg6 (by omega)
    have hs6 := hb6.size
    have H6 := Lib.hid hB6
    have T6 : Hid ((⟨(text xs6).toArray⟩ : ByteArray) = cut s) := Lib.hid (bytes_eq (by rw [ht6, spT_ne (by rw [← Lib.size_eq, TL4.out]; exact HX.out), T4.out]))
    have HB6 := Lib.hid hb6
    clear hB6 ht6 hl6 hg6 hlb6 hb6
    go_wp2_with fail
    refine (btext _ B lb6 xs6 H6.out).mono ?_
    rw [T6.out]
    rintro e w7 ⟨rfl, hb7⟩
    have hb7' := HB6.out.trans (hb7.mono hs6)
    have HB7 := Lib.hid hb7'
    clear hb7 hb7'
    go_wp2
    go_ret
    exact ⟨rfl, HB7.out⟩

set_option maxHeartbeats 8000000 in
set_option maxRecDepth 100000 in
/-- A splice that is made. -/
theorem back_ok (n₀ : Nat) (aF aN aR : Addr) (w : World) (hS : Sent n₀ w aF aN aR) (hn : n₀ ≤ w.heap.size) (s : ByteArray) (a m : Nat) (x : ByteArray) (h : (cut s).size ≤ 4000) (ham : a + m ≤ (cut s).size) (hfit : (cut s).size - m + (cut x).size ≤ 4000) :
    Calls Tryd.prog 6 #[.string s, .int .i64 (a : Int), .int .i64 (m : Int), .string x] w fun e W' => e = .returned (.bool true) ∧ Below w.heap.size w W' := by
  have HS := Lib.hid hS
  clear hS
  have hxs : (cut x).size ≤ 4000 := by omega
  go_enter Tryd.func6, Tryd.ntmps6
  go_wp2_with fail
  refine (shown_true n₀ aF aN aR _ HS.out hn).mono ?_
  rintro e w1 ⟨rfl, hb1⟩
  have hs1 := hb1.size
  have HS1 := Lib.hid (HS.out.below hb1 hn)
  have HB1 := Lib.hid hb1
  clear hb1
  go_wp2_with fail
  refine (cut_any _ s).mono ?_
  rintro e w2 ⟨rfl, rfl⟩
  go_wp2_with fail
  refine (cut_any _ x).mono ?_
  rintro e w3 ⟨rfl, rfl⟩
  go_wp2_with fail
  refine (new_ok _ _ h).mono ?_
  rintro e w4 ⟨B, rfl, lb, xs, hB, ht, hl, hb4, hBw, hlb⟩
  have hb4' := HB1.out.trans (hb4.mono hs1)
  have hs4 := hb4'.size
  have HS4 := Lib.hid (HS.out.below hb4' hn)
  have H4 := Lib.hid hB
  have T4 := Lib.hid ht
  have TL4 : Hid ((text xs).length = (cut s).size) := Lib.hid (by rw [ht, Lib.size_eq])
  have HB4 := Lib.hid hb4'
  clear hB ht hb4 hb4' hlb hl
  obtain ⟨was, hwas⟩ : ∃ was : ByteArray, was = ⟨(((cut s).data.toList.drop a).take m).toArray⟩ := ⟨_, rfl⟩
  have hwd : was.data.toList = ((cut s).data.toList.drop a).take m := by rw [hwas]
  have hwl : was.size = m := by rw [Lib.size_eq, hwd, List.length_take, List.length_drop, ← Lib.size_eq]; omega
  have HW1 := Lib.hid hwas
  have HW2 := Lib.hid hwd
  have HW3 := Lib.hid hwl
  clear hwas hwd hwl
  go_wp2_with fail
  refine (bread n₀ aF aN aR _ HS4.out (by omega) B lb xs H4.out a m).mono ?_
  rw [TL4.out, T4.out, rdE_of ham, rdT_of (by rw [← Lib.size_eq]; exact ham), ← HW1.out]
  rintro e w5 ⟨rfl, hb5⟩
  have hb5' := HB4.out.trans (hb5.mono hs4)
  have hs5 := hb5'.size
  have HS5 := Lib.hid (HS.out.below hb5' hn)
  have H5 := Lib.hid (H4.out.below hb5)
  have HB5 := Lib.hid hb5'
  clear hb5 hb5'
  go_wp2_with fail
  refine (bsplice n₀ aF aN aR _ HS5.out (by omega) B lb xs H5.out a m (cut x)).mono ?_
  rw [TL4.out, spE_of ham hfit]
  rintro e w6 ⟨rfl, lb6, xs6, hB6, ht6, hl6, hg6, hlb6⟩
  have hb6 := below_grown HB5.out hg6 (by omega)
  have hs6 := hb6.size
  have HS6 := Lib.hid (HS.out.below hb6 hn)
  have H6 := Lib.hid hB6
  have ht6' : text xs6 = (cut s).data.toList.take a ++ (cut x).data.toList ++ (cut s).data.toList.drop (a + m) := by
    rw [ht6, T4.out, spT_of (by rw [← Lib.size_eq]; exact ham) (by rw [← Lib.size_eq, ← Lib.size_eq]; exact hfit)]
  have htl6 : (text xs6).length = (cut s).size - m + (cut x).size := by rw [ht6', mid_len (by rw [← Lib.size_eq]; exact ham), ← Lib.size_eq, ← Lib.size_eq]
  have T6 := Lib.hid ht6'
  have TL6 := Lib.hid htl6
  have HB6 := Lib.hid hb6
  clear hB6 ht6 hl6 hg6 hlb6 hb6 ht6' htl6
  go_wp2_with fail
  refine (bread n₀ aF aN aR _ HS6.out (by omega) B lb6 xs6 H6.out a ((cut x).size : Nat)).mono ?_
  rw [TL6.out, rdE_of (by omega), rdT_of (by rw [TL6.out]; omega), bytes_eq (s := cut x) (by rw [T6.out, Lib.size_eq (cut x), back_text (by rw [← Lib.size_eq]; exact ham)])]
  rintro e w7 ⟨rfl, hb7⟩
  have hb7' := HB6.out.trans (hb7.mono hs6)
  have hs7 := hb7'.size
  have HS7 := Lib.hid (HS.out.below hb7' hn)
  have H7 := Lib.hid (H6.out.below hb7)
  have HB7 := Lib.hid hb7'
  clear hb7 hb7'
  go_wp2_with fail
  refine (bsplice n₀ aF aN aR _ HS7.out (by omega) B lb6 xs6 H7.out a ((cut x).size : Nat) was).mono ?_
  rw [TL6.out, HW3.out, spE_of (by omega) (by omega)]
  rintro e w8 ⟨rfl, lb8, xs8, hB8, ht8, hl8, hg8, hlb8⟩
  have hb8 := below_grown HB7.out hg8 (by omega)
  have hs8 := hb8.size
  have H8 := Lib.hid hB8
  have T8 : Hid ((⟨(text xs8).toArray⟩ : ByteArray) = cut s) := Lib.hid <| bytes_eq (by
    have hw : was.data.toList.length = m := by rw [← Lib.size_eq]; exact HW3.out
    rw [ht8, spT_of (by rw [TL6.out]; omega) (by rw [TL6.out, hw]; omega), HW2.out, T6.out, Lib.size_eq (cut x), back_whole (by rw [← Lib.size_eq]; exact ham)])
  have HB8 := Lib.hid hb8
  clear hB8 ht8 hl8 hg8 hlb8 hb8
  go_wp2_with fail
  refine (btext _ B lb8 xs8 H8.out).mono ?_
  rw [T8.out]
  rintro e w9 ⟨rfl, hb9⟩
  have hb9' := HB8.out.trans (hb9.mono hs8)
  have HB9 := Lib.hid hb9'
  clear hb9 hb9'
  go_wp2
  go_ret
  exact ⟨rfl, HB9.out⟩

/-- FOR EVERY INPUT. -/
theorem back_true (n₀ : Nat) (aF aN aR : Addr) (w : World) (hS : Sent n₀ w aF aN aR) (hn : n₀ ≤ w.heap.size) (s : ByteArray) (a m : Int) (x : ByteArray) :
    Calls Tryd.prog 6 #[.string s, .int .i64 a, .int .i64 m, .string x] w fun e W' => e = .returned (.bool true) ∧ Below w.heap.size w W' := by
  by_cases h : (cut s).size ≤ 4000
  · by_cases hg : spE (cut s).size a m (cut x).size = 0
    · obtain ⟨A, M, rfl, rfl, hAM, hfit⟩ := spE_nat hg
      exact back_ok n₀ aF aN aR w hS hn s A M x h hAM hfit
    · rcases spE_or hg with ⟨e1, e2⟩ | ⟨e1, e2⟩
      · exact back_no n₀ aF aN aR w hS hn s a m x h 10 10 (.inl ⟨rfl, rfl⟩) e1 (by unfold rdE; rw [e2]; rfl)
      · exact back_no n₀ aF aN aR w hS hn s a m x h 11 0 (.inr ⟨rfl, rfl⟩) e1 (by unfold rdE; rw [e2]; rfl)
  · exact back_full n₀ aF aN aR w hS hn s a m x (by omega)
end Go.Proofs.YtajbcaggpfopnaaDoor
