/- What is read behind some splices. -/
import Derived.Test.YtajbcaggpfopnaaDoorInv
namespace Go.Proofs.YtajbcaggpfopnaaDoor
open Go Go.RowKit

set_option maxHeartbeats 2000000 in
set_option maxRecDepth 100000 in
theorem reads_full (n₀ : Nat) (aF aN aR : Addr) (w : World) (hS : Sent n₀ w aF aN aR) (hn : n₀ ≤ w.heap.size) (s : ByteArray) (v : Value) (a : Int) (m : Int) (h : 4000 < (cut s).size) :
    Calls Tryd.prog 4 #[.string s, v, .int .i64 a, .int .i64 m] w fun e W' => e = .returned (.bool true) ∧ Below w.heap.size w W' := by
  have HS := Lib.hid hS
  clear hS
  go_enter Tryd.func4, Tryd.ntmps4
  go_wp2_with fail
  refine (shown_true n₀ aF aN aR _ HS.out hn).mono ?_
  rintro e w1 ⟨rfl, hb1⟩
  have HS1 := Lib.hid (HS.out.below hb1 hn)
  have HB1 := Lib.hid hb1
  clear hb1
  go_wp2_with fail
  refine (cut_any _ s).mono ?_
  rintro e w2 ⟨rfl, rfl⟩
  go_wp2_with fail
  refine (new_full n₀ aF aN aR _ HS1.out _ h).mono ?_
  rintro e w4 ⟨rfl, rfl⟩
  go_wp2
  go_ret
  exact ⟨rfl, HB1.out⟩

set_option maxHeartbeats 16000000 in
set_option maxRecDepth 100000 in
theorem reads_ok (n₀ : Nat) (aF aN aR : Addr) (w : World) (hS : Sent n₀ w aF aN aR) (hn : n₀ ≤ w.heap.size) (s : ByteArray) (v : Value) (a : Int) (m : Int) (A : Nat → Int × Int × ByteArray) (len : Nat) (hA : ActsIn 0 w.heap.size w v A len) (h : (cut s).size ≤ 4000) :
    Calls Tryd.prog 4 #[.string s, v, .int .i64 a, .int .i64 m] w fun e W' => e = .returned (.bool true) ∧ Below w.heap.size w W' := by
  have HS := Lib.hid hS
  have HA := Lib.hid hA
  clear hS hA
  go_enter Tryd.func4, Tryd.ntmps4
  go_wp2_with fail
  refine (shown_true n₀ aF aN aR _ HS.out hn).mono ?_
  rintro e w1 ⟨rfl, hb1⟩
  have hs1 := hb1.size
  have HB1 := Lib.hid hb1
  clear hb1
  go_wp2_with fail
  refine (cut_any _ s).mono ?_
  rintro e w2 ⟨rfl, rfl⟩
  go_wp2_with fail
  refine (new_ok _ _ h).mono ?_
  rintro e w4 ⟨B, rfl, lb, xs, hB, ht, hl, hb4, hBw, hlb⟩
  have hb4' := HB1.out.trans (hb4.mono hs1)
  have hs4 := hb4'.size
  have H4 := Lib.hid hB
  have T4 := Lib.hid ht
  have HB4 := Lib.hid hb4'
  clear hB ht hb4 hb4' hlb hl
  go_wp2_with fail
  refine (few_any _ v A len 40 (by omega) ((HA.out.below HB4.out (Nat.le_refl _)).wider hs4)).mono ?_
  rintro e w5 ⟨v5, rfl, hA5, hb5⟩
  have hs45 := hb5.size
  have hBlt := H4.out.lt
  have hB0 : w.heap.size ≤ B := by omega
  obtain ⟨m5, hm5⟩ : ∃ m5, m5 = min len 40 := ⟨_, rfl⟩
  have hm5' : m5 ≤ 40 := by omega
  rw [← hm5] at hA5
  have HI5 : Hid (Inv w w4.heap.size w5.heap.size B v5 (cutA A) m5 w5 lb xs) := Lib.hid ⟨H4.out.below hb5, HB4.out.trans (hb5.mono hs4), Nat.le_refl _, hA5⟩
  obtain ⟨a5, c5, rfl, hlen5, _⟩ := hA5
  unfold maxLen at hlen5
  clear hb5 HA H4 HB4 HB1
  go_wp2
  go_loopw [0, 12] (fun u i wr => ∃ (k : Nat) (t : ByteArray), k ≤ m5 ∧ u = .string t ∧ i = .int .i64 k ∧ ∃ lb xs, Inv w w4.heap.size w5.heap.size B (.slice a5 m5 c5) (cutA A) m5 wr lb xs ∧ text xs = t.data.toList)
    (fun _ i _ => m5 - (intOf i).toNat)
  case atStart => exact ⟨0, cut s, Nat.zero_le _, rfl, rfl, _, _, HI5.out, T4.out⟩
  case round =>
    obtain ⟨k, t, hk, rfl, rfl, lbk, xsk, hIk, htk⟩ := hrel
    have HIK := Lib.hid hIk
    have HTK := Lib.hid htk
    have hswk : w.heap.size ≤ wr.heap.size := hIk.2.1.size
    have hsk : w5.heap.size ≤ wr.heap.size := hIk.2.2.1
    have HSK := Lib.hid (HS.out.below hIk.2.1 hn)
    have hts : t.size ≤ 4000 := by rw [← txt_size htk]; exact hIk.1.len.1
    clear htk
    by_cases hlt : k < m5
    · obtain ⟨a6, c6, e6, _, hcs⟩ := hIk.2.2.2
      cases e6
      obtain ⟨b, off, rfl, hblo, hbhi, hcc⟩ := hcs (by omega)
      obtain ⟨e1, e2, e3⟩ := hcc k hlt
      clear hcc hcs hIk
      have hbr : b < wr.heap.size := by omega
      have hbB : b ≠ B := by omega
      have HX := Lib.hid (And.intro e1 (And.intro e2 e3))
      go_wp2_with fail
      go_region_held_law (fun w' => w'.cell? ⟨b, off + k * 3, none⟩ = some (.int .i64 (cutA A k).1) ∧ w'.cell? ⟨b, off + k * 3 + 1, none⟩ = some (.int .i64 (cutA A k).2.1) ∧ w'.cell? ⟨b, off + k * 3 + 2, none⟩ = some (.string (cutA A k).2.2))
        (first
          | exact ⟨acts_cell HG6.out hbr hbB _ _ HX.out.1, acts_cell HG6.out hbr hbB _ _ HX.out.2.1, acts_cell HG6.out hbr hbB _ _ HX.out.2.2⟩
          | go_keep)
        ((go_at_call 15; refine (bsplice n₀ aF aN aR _ (HSK.out.below (Below.refl n₀ wr).drew (Nat.le_refl _)) (Nat.le_trans hn hswk) B lbk xsk (HIK.out.1.below (Below.refl wr.heap.size wr).drew) (cutA A k).1 (cutA A k).2.1 (cutA A k).2.2).mono ?_; rintro e w6 ⟨rfl, lb6, xs6, hB6, ht6, hl6, hg6, hlb6⟩; have HG6 := Lib.hid hg6; have H6 := Lib.hid hB6; have T6 := Lib.hid ht6; have L6 := Lib.hid hl6; clear hB6 ht6 hl6 hg6 hlb6))
      have hI6 := HIK.out.drew.after hB0 hBlt HG6.out H6.out
      have HI6 := Lib.hid hI6
      have hbr6 : b < w6.heap.size := by have := hI6.2.2.1; omega
      have f1 := acts_cell HG6.out hbr hbB _ _ HX.out.1
      have f2 := acts_cell HG6.out hbr hbB _ _ HX.out.2.1
      have f3 := acts_cell HG6.out hbr hbB _ _ HX.out.2.2
      have HX6 := Lib.hid (And.intro f1 (And.intro f2 f3))
      obtain ⟨t', ht'⟩ : ∃ t' : ByteArray, t' = ⟨(spT t.data.toList (cutA A k).1 (cutA A k).2.1 (cutA A k).2.2.data.toList).toArray⟩ := ⟨_, rfl⟩
      have HT' := Lib.hid ht'
      have HT6 : Hid (text xs6 = t'.data.toList) := Lib.hid (by rw [T6.out, HTK.out, ht'])
      clear hI6 HG6 T6 L6 HX e1 e2 e3 HIK H6 ht'
      go_wp2_with fail
      go_region_held_law (fun w' => w'.cell? ⟨b, off + k * 3, none⟩ = some (.int .i64 (cutA A k).1) ∧ w'.cell? ⟨b, off + k * 3 + 1, none⟩ = some (.int .i64 (cutA A k).2.1) ∧ w'.cell? ⟨b, off + k * 3 + 2, none⟩ = some (.string (cutA A k).2.2))
        (first
          | exact ⟨acts_cell HG7.out hbr6 hbB _ _ HX6.out.1, acts_cell HG7.out hbr6 hbB _ _ HX6.out.2.1, acts_cell HG7.out hbr6 hbB _ _ HX6.out.2.2⟩
          | go_keep)
        ((go_at_call 14; refine (rsplice _ t (cutA A k).1 (cutA A k).2.1 (cutA A k).2.2 (by omega) (cut_size _)).mono ?_; rw [← HT'.out]; rintro e w7 ⟨rfl, hb7⟩; have HG7 := Lib.hid (grown_of_below hb7 (some B)); have HB7 := Lib.hid hb7; clear hb7))
      have HI7 := Lib.hid (HI6.out.drew.still HB7.out)
      clear HI6 HG7 HB7 HX6 f1 f2 f3 HT' HTK HSK
      go_wp2
      go_roundw
      case rel => exact ⟨k + 1, t', by omega, rfl, by go_num, _, _, HI7.out, HT6.out⟩
      case measure => simp [intOf]; omega
    · obtain rfl : k = m5 := by omega
      clear hIk
      obtain ⟨rT, hrT⟩ : ∃ rT : ByteArray, rT = ⟨(rdT t.data.toList a m).toArray⟩ := ⟨_, rfl⟩
      obtain ⟨rE, hrE⟩ : ∃ rE : Int, rE = rdE t.size a m := ⟨_, rfl⟩
      have HRT := Lib.hid hrT
      have HRE := Lib.hid hrE
      clear hrT hrE
      go_wp2_with fail
      refine (bread n₀ aF aN aR _ HSK.out (Nat.le_trans hn hswk) B lbk xsk HIK.out.1 a m).mono ?_
      rw [txt_size HTK.out, HTK.out, ← HRT.out, ← HRE.out]
      rintro e w6 ⟨rfl, hb6⟩
      have HI6 := Lib.hid (HIK.out.still hb6)
      clear hb6
      go_wp2_with fail
      refine (rread _ t a m (by omega)).mono ?_
      rw [← HRT.out, ← HRE.out]
      rintro e w7 ⟨rfl, rfl⟩
      go_wp2
      go_ret
      exact ⟨rfl, HI6.out.2.1⟩

/-- FOR EVERY INPUT. -/
theorem reads_true (n₀ : Nat) (aF aN aR : Addr) (w : World) (hS : Sent n₀ w aF aN aR) (hn : n₀ ≤ w.heap.size) (s : ByteArray) (v : Value) (A : Nat → Int × Int × ByteArray) (len : Nat) (hA : ActsIn 0 w.heap.size w v A len) (a m : Int) :
    Calls Tryd.prog 4 #[.string s, v, .int .i64 a, .int .i64 m] w fun e W' => e = .returned (.bool true) ∧ Below w.heap.size w W' := by
  by_cases h : (cut s).size ≤ 4000
  · exact reads_ok n₀ aF aN aR w hS hn s v a m A len hA h
  · exact reads_full n₀ aF aN aR w hS hn s v a m (by omega)
end Go.Proofs.YtajbcaggpfopnaaDoor
