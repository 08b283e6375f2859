/- What is read in two parts is what is read at once. -/
import Derived.Test.YtajbcaggpfopnaaDoorLists
import Derived.Test.YtajbcaggpfopnaaDoorFew
namespace Go.Proofs.YtajbcaggpfopnaaDoor
open Go Go.RowKit

/-- Behind a splice of the buffer the splices' cells are as they were. -/
theorem acts_cell {w w1 : World} {B : Nat} (hg : w.grownBy w1 (some B)) {b : Nat} (hlt : b < w.heap.size) (hne : b ≠ B) (off : Nat) (x : Value) (hc : w.cell? ⟨b, off, none⟩ = some x) : w1.cell? ⟨b, off, none⟩ = some x :=
  (hg.cell_far ⟨b, off, none⟩ hlt (fun e => hne (by cases e; rfl))).trans hc

set_option maxHeartbeats 2000000 in
set_option maxRecDepth 100000 in
theorem parts_full (n₀ : Nat) (aF aN aR : Addr) (w : World) (hS : Sent n₀ w aF aN aR) (hn : n₀ ≤ w.heap.size) (s : ByteArray) (v : Value) (a : Int) (h : 4000 < (cut s).size) :
    Calls Tryd.prog 7 #[.string s, v, .int .i64 a] w fun e W' => e = .returned (.bool true) ∧ Below w.heap.size w W' := by
  have HS := Lib.hid hS
  clear hS
  go_enter Tryd.func7, Tryd.ntmps7
  go_wp2_with fail
  refine (shown_true n₀ aF aN aR _ HS.out hn).mono ?_
  rintro e w1 ⟨rfl, hb1⟩
  have HS1 := Lib.hid (HS.out.below hb1 hn)
  have HB1 := Lib.hid hb1
  clear hb1
  go_wp2_with fail
  refine (cut_any _ s).mono ?_
  rintro e w2 ⟨rfl, rfl⟩
  go_wp2_with fail
  refine (new_full n₀ aF aN aR _ HS1.out _ h).mono ?_
  rintro e w4 ⟨rfl, rfl⟩
  go_wp2
  go_ret
  exact ⟨rfl, HB1.out⟩

set_option maxHeartbeats 8000000 in
set_option maxRecDepth 100000 in
theorem parts_ok (n₀ : Nat) (aF aN aR : Addr) (w : World) (hS : Sent n₀ w aF aN aR) (hn : n₀ ≤ w.heap.size) (s : ByteArray) (v : Value) (A : Nat → Int × Int × ByteArray) (len : Nat) (hA : ActsIn 0 w.heap.size w v A len) (a : Int) (h : (cut s).size ≤ 4000) :
    Calls Tryd.prog 7 #[.string s, v, .int .i64 a] w fun e W' => e = .returned (.bool true) ∧ Below w.heap.size w W' := by
  have HS := Lib.hid hS
  have HA := Lib.hid hA
  clear hS hA
  go_enter Tryd.func7, Tryd.ntmps7
  go_wp2_with fail
  refine (shown_true n₀ aF aN aR _ HS.out hn).mono ?_
  rintro e w1 ⟨rfl, hb1⟩
  have hs1 := hb1.size
  have HB1 := Lib.hid hb1
  clear hb1
  go_wp2_with fail
  refine (cut_any _ s).mono ?_
  rintro e w2 ⟨rfl, rfl⟩
  go_wp2_with fail
  refine (new_ok _ _ h).mono ?_
  rintro e w4 ⟨B, rfl, lb, xs, hB, ht, hl, hb4, hBw, hlb⟩
  have hb4' := HB1.out.trans (hb4.mono hs1)
  have hs4 := hb4'.size
  have H4 := Lib.hid hB
  have HB4 := Lib.hid hb4'
  clear hB ht hb4 hb4' hlb hl
  go_wp2_with fail
  refine (few_any _ v A len 20 (by omega) ((HA.out.below HB4.out (Nat.le_refl _)).wider hs4)).mono ?_
  rintro e w5 ⟨v5, rfl, hA5, hb5⟩
  have hb5' := HB4.out.trans (hb5.mono hs4)
  have hs5 := hb5'.size
  have hs45 := hb5.size
  have hBlt := H4.out.lt
  have H5 := Lib.hid (H4.out.below hb5)
  have HA5 := Lib.hid hA5
  have HB5 := Lib.hid hb5'
  obtain ⟨a5, c5, rfl, hlen5, _⟩ := hA5
  unfold maxLen at hlen5
  clear hb5 hb5'
  obtain ⟨m5, hm5⟩ : ∃ m5, m5 = min len 20 := ⟨_, rfl⟩
  have hm5' : m5 ≤ 20 := by omega
  rw [← hm5] at HA5 hlen5
  rw [← hm5]
  go_wp2
  go_loopw [10] (fun i wr => ∃ k : Nat, k ≤ m5 ∧ i = .int .i64 k ∧ (∃ lb xs, IsBuf wr B lb xs) ∧ Below w.heap.size w wr ∧ w5.heap.size ≤ wr.heap.size ∧ ActsIn w4.heap.size w5.heap.size wr (.slice a5 m5 c5) (cutA A) m5)
    (fun i _ => m5 - (intOf i).toNat)
  case atStart => exact ⟨0, Nat.zero_le _, rfl, ⟨_, _, H5.out⟩, HB5.out, Nat.le_refl _, HA5.out⟩
  case round =>
    obtain ⟨k, hk, rfl, ⟨lbk, xsk, hBk⟩, hbk, hsk, hAk⟩ := hrel
    have HK := Lib.hid hBk
    have HBK := Lib.hid hbk
    have HAK := Lib.hid hAk
    have hswk : w.heap.size ≤ wr.heap.size := hbk.size
    have HSK := Lib.hid (HS.out.below hbk hn)
    clear hBk hbk
    by_cases hlt : k < m5
    · obtain ⟨a6, c6, e6, _, hcs⟩ := hAk
      cases e6
      obtain ⟨b, off, rfl, hblo, hbhi, hcc⟩ := hcs (by omega)
      obtain ⟨e1, e2, e3⟩ := hcc k hlt
      clear hcc hcs
      have hbr : b < wr.heap.size := by omega
      have hbB : b ≠ B := by omega
      have HX := Lib.hid (And.intro e1 (And.intro e2 e3))
      go_wp2_with fail
      go_region_held_law (fun w' => w'.cell? ⟨b, off + k * 3, none⟩ = some (.int .i64 (cutA A k).1) ∧ w'.cell? ⟨b, off + k * 3 + 1, none⟩ = some (.int .i64 (cutA A k).2.1) ∧ w'.cell? ⟨b, off + k * 3 + 2, none⟩ = some (.string (cutA A k).2.2))
        (first
          | exact ⟨acts_cell HG.out hbr hbB _ _ HX.out.1, acts_cell HG.out hbr hbB _ _ HX.out.2.1, acts_cell HG.out hbr hbB _ _ HX.out.2.2⟩
          | go_keep)
        ((go_at_call 15; refine (bsplice n₀ aF aN aR _ (HSK.out.below (Below.refl n₀ wr).drew (Nat.le_refl _)) (Nat.le_trans hn hswk) B lbk xsk (HK.out.below (Below.refl wr.heap.size wr).drew) (cutA A k).1 (cutA A k).2.1 (cutA A k).2.2).mono ?_; rintro e w6 ⟨rfl, lb6, xs6, hB6, ht6, hl6, hg6, hlb6⟩; have HG := Lib.hid hg6; have H6 := Lib.hid hB6; clear hB6 ht6 hl6 hg6 hlb6))
      have hN : (∃ lb xs, IsBuf w6 B lb xs) ∧ Below w.heap.size w w6 ∧ w5.heap.size ≤ w6.heap.size ∧ ActsIn w4.heap.size w5.heap.size w6 (.slice (some ⟨b, off, none⟩) m5 c5) (cutA A) m5 := by
        have hg := HG.out
        exact ⟨⟨_, _, H6.out⟩, HBK.out.drew.grown hg hswk (fun j e => by cases e; omega), Nat.le_trans hsk hg.size, (HAK.out.below (n₁ := wr.heap.size) (Below.refl _ wr).drew hsk).kept hg (fun j e => by cases e; exact hBlt) hsk⟩
      have HN := Lib.hid hN
      clear hN HX HG H6 HK HAK HSK HBK e1 e2 e3
      go_wp2
      go_roundw
      case rel => exact ⟨k + 1, by omega, by go_num, HN.out.1, HN.out.2.1, HN.out.2.2.1, HN.out.2.2.2⟩
      case measure => simp [intOf]; omega
    · obtain rfl : k = m5 := by omega
      clear HAK hAk
      obtain ⟨L, hL⟩ : ∃ L, L = (text xsk).length := ⟨_, rfl⟩
      have hL4 : L ≤ 4000 := by rw [hL]; exact HK.out.len.1
      have HL := Lib.hid hL
      clear hL
      by_cases hout : a < 0 ∨ (L : Int) < a
      · have ho : okSpan L a 0 = false := by unfold okSpan; exact decide_eq_false (by omega)
        have HO := Lib.hid ho
        clear ho
        rcases hout with h1 | h1
        · have t1 : decide (a < 0) = true := decide_eq_true h1
          go_wp2_with fail
          refine (blen _ B lbk xsk HK.out).mono ?_
          rw [← HL.out]
          rintro e w6 ⟨rfl, hb6⟩
          have hb6' := HBK.out.trans (hb6.mono hswk)
          have HS6 := Lib.hid (HS.out.below hb6' hn)
          have H6 := Lib.hid (HK.out.below hb6)
          have hs6 := hb6'.size
          have HB6 := Lib.hid hb6'
          clear hb6 hb6'
          go_wp2_with fail
          refine (bread n₀ aF aN aR _ HS6.out (by omega) B lbk xsk H6.out a 0).mono ?_
          rw [show rdE (text xsk).length a 0 = 10 by unfold rdE; rw [← HL.out, HO.out]; rfl]
          rintro e w7 ⟨rfl, hb7⟩
          have HB7 := Lib.hid (HB6.out.trans (hb7.mono hs6))
          clear hb7
          go_wp2
          go_ret
          exact ⟨rfl, HB7.out⟩
        · by_cases h0 : a < 0
          · omega
          have t1 : decide (a < 0) = false := decide_eq_false h0
          have t2 : decide ((L : Int) < a) = true := decide_eq_true h1
          go_wp2_with fail
          refine (blen _ B lbk xsk HK.out).mono ?_
          rw [← HL.out]
          rintro e w6 ⟨rfl, hb6⟩
          have hb6' := HBK.out.trans (hb6.mono hswk)
          have HS6 := Lib.hid (HS.out.below hb6' hn)
          have H6 := Lib.hid (HK.out.below hb6)
          have hs6 := hb6'.size
          have HB6 := Lib.hid hb6'
          clear hb6 hb6'
          go_wp2_with fail
          refine (bread n₀ aF aN aR _ HS6.out (by omega) B lbk xsk H6.out a 0).mono ?_
          rw [show rdE (text xsk).length a 0 = 10 by unfold rdE; rw [← HL.out, HO.out]; rfl]
          rintro e w7 ⟨rfl, hb7⟩
          have HB7 := Lib.hid (HB6.out.trans (hb7.mono hs6))
          clear hb7
          go_wp2
          go_ret
          exact ⟨rfl, HB7.out⟩
      · have h0 : ¬ a < 0 := fun e => hout (.inl e)
        have h1 : ¬ (L : Int) < a := fun e => hout (.inr e)
        obtain ⟨A', rfl⟩ := Int.eq_ofNat_of_zero_le (by omega : 0 ≤ a)
        have t2 : decide ((L : Int) < (A' : Int)) = false := decide_eq_false h1
        have t3 : decide (L < A') = false := decide_eq_false (by omega)
        have hAL : A' ≤ L := by omega
        obtain ⟨p, hp⟩ : ∃ p : ByteArray, p = ⟨((text xsk).take A').toArray⟩ := ⟨_, rfl⟩
        obtain ⟨q, hq⟩ : ∃ q : ByteArray, q = ⟨((text xsk).drop A').toArray⟩ := ⟨_, rfl⟩
        obtain ⟨r, hr⟩ : ∃ r : ByteArray, r = ⟨(text xsk).toArray⟩ := ⟨_, rfl⟩
        have hpq : p ++ q = r := by
          rw [hp, hq, hr]
          apply ByteArray.ext
          apply Array.ext'
          simp only [ByteArray.data_append, Array.toList_append]
          exact List.take_append_drop A' (text xsk)
        have hps : p.size ≤ 4000 := by rw [hp, Lib.size_eq]; show ((text xsk).take A').length ≤ _; rw [List.length_take, ← HL.out]; omega
        have hqs : q.size ≤ 4000 := by rw [hq, Lib.size_eq]; show ((text xsk).drop A').length ≤ _; rw [List.length_drop, ← HL.out]; omega
        have e1 : (⟨(rdT (text xsk) (0 : Int) (A' : Int)).toArray⟩ : ByteArray) = p := by
          rw [hp, show (0 : Int) = ((0 : Nat) : Int) from rfl, rdT_of (by rw [← HL.out]; omega), List.drop_zero]
        have e2 : (⟨(rdT (text xsk) (A' : Int) ((L : Int) - (A' : Int))).toArray⟩ : ByteArray) = q := by
          rw [hq, show (L : Int) - (A' : Int) = ((L - A' : Nat) : Int) by omega, rdT_of (by rw [← HL.out]; omega), List.take_of_length_le (by rw [List.length_drop, ← HL.out]; omega)]
        have e3 : rdE (text xsk).length (0 : Int) (A' : Int) = 0 := by
          rw [show (0 : Int) = ((0 : Nat) : Int) from rfl, rdE_of (by rw [← HL.out]; omega)]; rfl
        have e4 : rdE (text xsk).length (A' : Int) ((L : Int) - (A' : Int)) = 0 := by
          rw [show (L : Int) - (A' : Int) = ((L - A' : Nat) : Int) by omega, rdE_of (by rw [← HL.out]; omega)]
        have E1 := Lib.hid e1
        have E2 := Lib.hid e2
        have E3 := Lib.hid e3
        have E4 := Lib.hid e4
        have HR := Lib.hid hr
        clear e1 e2 e3 e4 hp hq hr hout
        go_wp2_with fail
        refine (blen _ B lbk xsk HK.out).mono ?_
        rw [← HL.out]
        rintro e w6 ⟨rfl, hb6⟩
        have hb6' := HBK.out.trans (hb6.mono hswk)
        have HS6 := Lib.hid (HS.out.below hb6' hn)
        have H6 := Lib.hid (HK.out.below hb6)
        have hs6 := hb6'.size
        have HB6 := Lib.hid hb6'
        clear hb6 hb6'
        go_wp2_with fail
        refine (bread n₀ aF aN aR _ HS6.out (by omega) B lbk xsk H6.out 0 (A' : Int)).mono ?_
        rw [E1.out, E3.out]
        rintro e w7 ⟨rfl, hb7⟩
        have hb7' := HB6.out.trans (hb7.mono hs6)
        have HS7 := Lib.hid (HS.out.below hb7' hn)
        have H7 := Lib.hid (H6.out.below hb7)
        have hs7 := hb7'.size
        have HB7 := Lib.hid hb7'
        clear hb7 hb7'
        go_wp2_with fail
        refine (bread n₀ aF aN aR _ HS7.out (by omega) B lbk xsk H7.out (A' : Int) ((L : Int) - (A' : Int))).mono ?_
        rw [E2.out, E4.out]
        rintro e w8 ⟨rfl, hb8⟩
        have hb8' := HB7.out.trans (hb8.mono hs7)
        have H8 := Lib.hid (H7.out.below hb8)
        have hs8 := hb8'.size
        have HB8 := Lib.hid hb8'
        clear hb8 hb8'
        go_wp2_with fail
        refine (btext _ B lbk xsk H8.out).mono ?_
        rw [← HR.out]
        rintro e w9 ⟨rfl, hb9⟩
        have HB9 := Lib.hid (HB8.out.trans (hb9.mono hs8))
        clear hb9
        go_wp2
        go_ret
        exact ⟨rfl, HB9.out⟩

/-- FOR EVERY INPUT. -/
theorem parts_true (n₀ : Nat) (aF aN aR : Addr) (w : World) (hS : Sent n₀ w aF aN aR) (hn : n₀ ≤ w.heap.size) (s : ByteArray) (v : Value) (A : Nat → Int × Int × ByteArray) (len : Nat) (hA : ActsIn 0 w.heap.size w v A len) (a : Int) :
    Calls Tryd.prog 7 #[.string s, v, .int .i64 a] w fun e W' => e = .returned (.bool true) ∧ Below w.heap.size w W' := by
  by_cases h : (cut s).size ≤ 4000
  · exact parts_ok n₀ aF aN aR w hS hn s v A len hA a h
  · exact parts_full n₀ aF aN aR w hS hn s v a (by omega)
end Go.Proofs.YtajbcaggpfopnaaDoor
