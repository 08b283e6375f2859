/- In how many pieces a text lies. -/
import Derived.Test.YtajbcaggpfopnaaDoorInv
namespace Go.Proofs.YtajbcaggpfopnaaDoor
open Go Go.RowKit

theorem pieces_zero {W : World} {B : Nat} {lb : Option Nat} {xs : List ByteArray} (h : IsBuf W B lb xs) : xs.length ≤ (text xs).length ∧ (xs.length = 0 ↔ (text xs).length = 0) := by
  obtain ⟨v, _, _, _, _, hf, _⟩ := h
  have h1 := hf.len
  refine ⟨h1, fun e => ?_, fun e => by omega⟩
  obtain rfl := List.length_eq_zero_iff.1 e
  rfl

set_option maxHeartbeats 2000000 in
set_option maxRecDepth 100000 in
theorem pieces_full (n₀ : Nat) (aF aN aR : Addr) (w : World) (hS : Sent n₀ w aF aN aR) (hn : n₀ ≤ w.heap.size) (s : ByteArray) (v : Value) (h : 4000 < (cut s).size) :
    Calls Tryd.prog 5 #[.string s, v] w fun e W' => e = .returned (.bool true) ∧ Below w.heap.size w W' := by
  have HS := Lib.hid hS
  clear hS
  go_enter Tryd.func5, Tryd.ntmps5
  go_wp2_with fail
  refine (shown_true n₀ aF aN aR _ HS.out hn).mono ?_
  rintro e w1 ⟨rfl, hb1⟩
  have HS1 := Lib.hid (HS.out.below hb1 hn)
  have HB1 := Lib.hid hb1
  clear hb1
  go_wp2_with fail
  refine (cut_any _ s).mono ?_
  rintro e w2 ⟨rfl, rfl⟩
  go_wp2_with fail
  refine (new_full n₀ aF aN aR _ HS1.out _ h).mono ?_
  rintro e w4 ⟨rfl, rfl⟩
  go_wp2
  go_ret
  exact ⟨rfl, HB1.out⟩

set_option maxHeartbeats 16000000 in
set_option maxRecDepth 100000 in
theorem pieces_ok (n₀ : Nat) (aF aN aR : Addr) (w : World) (hS : Sent n₀ w aF aN aR) (hn : n₀ ≤ w.heap.size) (s : ByteArray) (v : Value) (A : Nat → Int × Int × ByteArray) (len : Nat) (hA : ActsIn 0 w.heap.size w v A len) (h : (cut s).size ≤ 4000) :
    Calls Tryd.prog 5 #[.string s, v] w fun e W' => e = .returned (.bool true) ∧ Below w.heap.size w W' := by
  have HS := Lib.hid hS
  have HA := Lib.hid hA
  clear hS hA
  go_enter Tryd.func5, Tryd.ntmps5
  go_wp2_with fail
  refine (shown_true n₀ aF aN aR _ HS.out hn).mono ?_
  rintro e w1 ⟨rfl, hb1⟩
  have hs1 := hb1.size
  have HB1 := Lib.hid hb1
  clear hb1
  go_wp2_with fail
  refine (cut_any _ s).mono ?_
  rintro e w2 ⟨rfl, rfl⟩
  go_wp2_with fail
  refine (new_ok _ _ h).mono ?_
  rintro e w4 ⟨B, rfl, lb, xs, hB, ht, hl, hb4, hBw, hlb⟩
  have hb4' := HB1.out.trans (hb4.mono hs1)
  have hs4 := hb4'.size
  have H4 := Lib.hid hB
  have T4 := Lib.hid ht
  have HB4 := Lib.hid hb4'
  clear hB ht hb4 hb4' hlb hl
  go_wp2_with fail
  refine (few_any _ v A len 40 (by omega) ((HA.out.below HB4.out (Nat.le_refl _)).wider hs4)).mono ?_
  rintro e w5 ⟨v5, rfl, hA5, hb5⟩
  have hs45 := hb5.size
  have hBlt := H4.out.lt
  have hB0 : w.heap.size ≤ B := by omega
  obtain ⟨m5, hm5⟩ : ∃ m5, m5 = min len 40 := ⟨_, rfl⟩
  have hm5' : m5 ≤ 40 := by omega
  rw [← hm5] at hA5
  have HI5 : Hid (Inv w w4.heap.size w5.heap.size B v5 (cutA A) m5 w5 lb xs) := Lib.hid ⟨H4.out.below hb5, HB4.out.trans (hb5.mono hs4), Nat.le_refl _, hA5⟩
  obtain ⟨a5, c5, rfl, hlen5, _⟩ := hA5
  unfold maxLen at hlen5
  clear hb5 HA H4 HB4 HB1
  go_wp2
  go_loopw [8] (fun i wr => ∃ k : Nat, k ≤ m5 ∧ i = .int .i64 k ∧ ∃ lb xs, Inv w w4.heap.size w5.heap.size B (.slice a5 m5 c5) (cutA A) m5 wr lb xs)
    (fun i _ => m5 - (intOf i).toNat)
  case atStart => exact ⟨0, Nat.zero_le _, rfl, _, _, HI5.out⟩
  case round =>
    obtain ⟨k, hk, rfl, lbk, xsk, hIk⟩ := hrel
    have HIK := Lib.hid hIk
    have hswk : w.heap.size ≤ wr.heap.size := hIk.2.1.size
    have hsk : w5.heap.size ≤ wr.heap.size := hIk.2.2.1
    have HSK := Lib.hid (HS.out.below hIk.2.1 hn)
    have hxl := hIk.1.len.2
    by_cases hlt : k < m5
    · obtain ⟨a6, c6, e6, _, hcs⟩ := hIk.2.2.2
      cases e6
      obtain ⟨b, off, rfl, hblo, hbhi, hcc⟩ := hcs (by omega)
      obtain ⟨e1, e2, e3⟩ := hcc k hlt
      clear hcc hcs hIk
      have hbr : b < wr.heap.size := by omega
      have hbB : b ≠ B := by omega
      have HX := Lib.hid (And.intro e1 (And.intro e2 e3))
      go_wp2_with fail
      refine (bpieces _ B lbk xsk HIK.out.1).mono ?_
      rintro e wp ⟨rfl, rfl⟩
      go_wp2_with fail
      go_region_held_law (fun w' => w'.cell? ⟨b, off + k * 3, none⟩ = some (.int .i64 (cutA A k).1) ∧ w'.cell? ⟨b, off + k * 3 + 1, none⟩ = some (.int .i64 (cutA A k).2.1) ∧ w'.cell? ⟨b, off + k * 3 + 2, none⟩ = some (.string (cutA A k).2.2))
        (first
          | exact ⟨acts_cell HG6.out hbr hbB _ _ HX.out.1, acts_cell HG6.out hbr hbB _ _ HX.out.2.1, acts_cell HG6.out hbr hbB _ _ HX.out.2.2⟩
          | go_keep)
        ((go_at_call 15; refine (bsplice n₀ aF aN aR _ (HSK.out.below (Below.refl n₀ wr).drew (Nat.le_refl _)) (Nat.le_trans hn hswk) B lbk xsk (HIK.out.1.below (Below.refl wr.heap.size wr).drew) (cutA A k).1 (cutA A k).2.1 (cutA A k).2.2).mono ?_; rintro e w6 ⟨rfl, lb6, xs6, hB6, ht6, hl6, hg6, hlb6⟩; have HG6 := Lib.hid hg6; have H6 := Lib.hid hB6; have T6 := Lib.hid ht6; have L6 := Lib.hid hl6; clear hB6 ht6 hl6 hg6 hlb6))
      have hI6 := HIK.out.drew.after hB0 hBlt HG6.out H6.out
      have HI6 := Lib.hid hI6
      have hl6 := L6.out
      obtain ⟨z1, z2⟩ := pieces_zero hI6.1
      have hx6 := hI6.1.len
      clear hI6 HG6 T6 L6 HX e1 e2 e3 HIK H6
      go_wp2_with fail
      refine (bpieces _ B lb6 xs6 HI6.out.1).mono ?_
      rintro e wp ⟨rfl, rfl⟩
      have t1 : decide ((xsk.length : Int) + 2 < (xs6.length : Int)) = false := decide_eq_false (by omega)
      have t2 : decide (((text xs6).length : Int) < (xs6.length : Int)) = false := decide_eq_false (by omega)
      have t3 : decide ((text xs6).length < xs6.length) = false := decide_eq_false (by omega)
      go_wp2_with fail
      refine (blen _ B lb6 xs6 HI6.out.1).mono ?_
      rintro e w7 ⟨rfl, hb7⟩
      have HI7 := Lib.hid (HI6.out.still hb7)
      clear hb7
      go_wp2_with fail
      refine (blen _ B lb6 xs6 HI7.out.1).mono ?_
      rintro e w8 ⟨rfl, hb8⟩
      have HI8 := Lib.hid (HI7.out.still hb8)
      clear hb8
      have t4 : (((xs6.length : Int) == 0) = ((((text xs6).length : Int)) == 0)) := by
        by_cases hz : xs6.length = 0
        · rw [hz, z2.1 hz]
        · have hz' : (text xs6).length ≠ 0 := fun e => hz (z2.2 e)
          rw [beq_eq_false_iff_ne.2 (by omega), beq_eq_false_iff_ne.2 (by omega)]
      clear HI6 HI7
      go_wp2
      go_roundw
      case rel => exact ⟨k + 1, by omega, by go_num, _, _, HI8.out⟩
      case measure => simp [intOf]; omega
    · obtain rfl : k = m5 := by omega
      clear hIk
      obtain ⟨r, hr⟩ : ∃ r : ByteArray, r = ⟨(text xsk).toArray⟩ := ⟨_, rfl⟩
      have hrs : r.size = (text xsk).length := by rw [hr, Lib.size_eq]
      have hr4 : r.size ≤ 4000 := by rw [hrs]; exact HIK.out.1.len.1
      obtain ⟨P, hP⟩ : ∃ P : Nat, P = min 1 (text xsk).length := ⟨_, rfl⟩
      have tm : min (1 : Int) (r.size : Int) = (P : Int) := by omega
      have HR := Lib.hid hr
      have HP := Lib.hid hP
      clear hr hrs hP
      go_wp2_with fail
      refine (btext _ B lbk xsk HIK.out.1).mono ?_
      rw [← HR.out]
      rintro e w6 ⟨rfl, hb6⟩
      have HI6 := Lib.hid (HIK.out.still hb6)
      clear hb6
      go_wp2_with fail
      refine (bcompact _ B lbk xsk HI6.out.1).mono ?_
      rintro e w7 ⟨⟨v7, rfl⟩, lb7, xs7, hB7, ht7, hl7, hg7, _⟩
      have HI7 := Lib.hid (HI6.out.after hB0 hBlt hg7 hB7)
      have T7 := Lib.hid ht7
      have L7 := Lib.hid (hl7.trans HP.out.symm)
      clear hB7 ht7 hl7 hg7
      go_wp2_with fail
      refine (btext _ B lb7 xs7 HI7.out.1).mono ?_
      rw [T7.out, ← HR.out]
      rintro e w8 ⟨rfl, hb8⟩
      have HI8 := Lib.hid (HI7.out.still hb8)
      clear hb8
      go_wp2_with fail
      refine (bpieces _ B lb7 xs7 HI8.out.1).mono ?_
      rw [L7.out]
      rintro e w9 ⟨rfl, rfl⟩
      go_wp2
      go_ret
      exact ⟨rfl, HI8.out.2.1⟩

/-- FOR EVERY INPUT. -/
theorem pieces_true (n₀ : Nat) (aF aN aR : Addr) (w : World) (hS : Sent n₀ w aF aN aR) (hn : n₀ ≤ w.heap.size) (s : ByteArray) (v : Value) (A : Nat → Int × Int × ByteArray) (len : Nat) (hA : ActsIn 0 w.heap.size w v A len) :
    Calls Tryd.prog 5 #[.string s, v] w fun e W' => e = .returned (.bool true) ∧ Below w.heap.size w W' := by
  by_cases h : (cut s).size ≤ 4000
  · exact pieces_ok n₀ aF aN aR w hS hn s v A len hA h
  · exact pieces_full n₀ aF aN aR w hS hn s v (by omega)
end Go.Proofs.YtajbcaggpfopnaaDoor
