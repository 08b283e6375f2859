/- Made one piece behind each splice, a buffer has the same text. -/
import Derived.Test.YtajbcaggpfopnaaDoorInv
namespace Go.Proofs.YtajbcaggpfopnaaDoor
open Go Go.RowKit

theorem IsBuf.lb_lt {W : World} {B : Nat} {lb : Option Nat} {xs : List ByteArray} (h : IsBuf W B lb xs) : ∀ k, lb = some k → k < W.heap.size := by
  obtain ⟨v, _, hh, h3, _⟩ := h
  rintro k rfl
  rcases hh with ⟨rfl, _⟩ | ⟨b, off, cap, rfl, _, _, hb, _⟩
  · cases h3
  · cases h3; exact hb

/-- Two buffers of one text, apart from each other. -/
def Two (w : World) (lo hi Ba Bb : Nat) (v : Value) (A : Nat → Int × Int × ByteArray) (m : Nat) (W : World) (la : Option Nat) (xa : List ByteArray) (lb : Option Nat) (xb : List ByteArray) : Prop :=
  IsBuf W Ba la xa ∧ IsBuf W Bb lb xb ∧ Below w.heap.size w W ∧ hi ≤ W.heap.size ∧ ActsIn lo hi W v A m ∧ la ≠ some Bb ∧ lb ≠ some Ba
theorem Two.still {w : World} {lo hi Ba Bb : Nat} {v : Value} {A : Nat → Int × Int × ByteArray} {m : Nat} {W W' : World} {la lb : Option Nat} {xa xb : List ByteArray}
    (h : Two w lo hi Ba Bb v A m W la xa lb xb) (hb : Below W.heap.size W W') : Two w lo hi Ba Bb v A m W' la xa lb xb :=
  ⟨h.1.below hb, h.2.1.below hb, h.2.2.1.trans (hb.mono h.2.2.1.size), Nat.le_trans h.2.2.2.1 hb.size, h.2.2.2.2.1.below hb h.2.2.2.1, h.2.2.2.2.2.1, h.2.2.2.2.2.2⟩
theorem Two.drew {w : World} {lo hi Ba Bb : Nat} {v : Value} {A : Nat → Int × Int × ByteArray} {m : Nat} {W : World} {la lb : Option Nat} {xa xb : List ByteArray}
    (h : Two w lo hi Ba Bb v A m W la xa lb xb) : Two w lo hi Ba Bb v A m W.drew la xa lb xb := h.still (Below.refl _ W).drew
theorem Two.swap {w : World} {lo hi Ba Bb : Nat} {v : Value} {A : Nat → Int × Int × ByteArray} {m : Nat} {W : World} {la lb : Option Nat} {xa xb : List ByteArray}
    (h : Two w lo hi Ba Bb v A m W la xa lb xb) : Two w lo hi Bb Ba v A m W lb xb la xa :=
  ⟨h.2.1, h.1, h.2.2.1, h.2.2.2.1, h.2.2.2.2.1, h.2.2.2.2.2.2, h.2.2.2.2.2.1⟩
/-- What turns the first alone. -/
theorem Two.first {w : World} {lo hi Ba Bb : Nat} {v : Value} {A : Nat → Int × Int × ByteArray} {m : Nat} {W W' : World} {la la' lb : Option Nat} {xa xa' xb : List ByteArray}
    (h : Two w lo hi Ba Bb v A m W la xa lb xb) (h0 : w.heap.size ≤ Ba) (h1 : Ba < lo) (hne : Ba ≠ Bb) (hg : W.grownBy W' (some Ba)) (hA : IsBuf W' Ba la' xa') (hl : la' = la ∨ ∀ k, la' = some k → W.heap.size ≤ k) : Two w lo hi Ba Bb v A m W' la' xa' lb xb := by
  obtain ⟨i1, i2, i3, i4, i5, i6, i7⟩ := h
  refine ⟨hA, i2.kept hg (fun e => hne (by cases e; rfl)) (.inr i7), i3.grown hg i3.size (fun k e => by cases e; exact h0), Nat.le_trans i4 hg.size, i5.kept hg (fun k e => by cases e; exact h1) i4, ?_, i7⟩
  rcases hl with rfl | hl
  · exact i6
  · intro e
    have := hl _ e
    have := i2.lt
    omega

set_option maxHeartbeats 2000000 in
set_option maxRecDepth 100000 in
theorem compacts_full (n₀ : Nat) (aF aN aR : Addr) (w : World) (hS : Sent n₀ w aF aN aR) (hn : n₀ ≤ w.heap.size) (s : ByteArray) (v : Value) (h : 4000 < (cut s).size) :
    Calls Tryd.prog 9 #[.string s, v] w fun e W' => e = .returned (.bool true) ∧ Below w.heap.size w W' := by
  have HS := Lib.hid hS
  clear hS
  go_enter Tryd.func9, Tryd.ntmps9
  go_wp2_with fail
  refine (shown_true n₀ aF aN aR _ HS.out hn).mono ?_
  rintro e w1 ⟨rfl, hb1⟩
  have HS1 := Lib.hid (HS.out.below hb1 hn)
  have HB1 := Lib.hid hb1
  clear hb1
  go_wp2_with fail
  refine (cut_any _ s).mono ?_
  rintro e w2 ⟨rfl, rfl⟩
  go_wp2_with fail
  refine (new_full n₀ aF aN aR _ HS1.out _ h).mono ?_
  rintro e w4 ⟨rfl, rfl⟩
  go_wp2_with fail
  refine (cut_any _ s).mono ?_
  rintro e w2 ⟨rfl, rfl⟩
  go_wp2_with fail
  refine (new_full n₀ aF aN aR _ HS1.out _ h).mono ?_
  rintro e w4 ⟨rfl, rfl⟩
  go_wp2
  go_ret
  exact ⟨rfl, HB1.out⟩

set_option maxHeartbeats 16000000 in
set_option maxRecDepth 100000 in
theorem compacts_ok (n₀ : Nat) (aF aN aR : Addr) (w : World) (hS : Sent n₀ w aF aN aR) (hn : n₀ ≤ w.heap.size) (s : ByteArray) (v : Value) (A : Nat → Int × Int × ByteArray) (len : Nat) (hA : ActsIn 0 w.heap.size w v A len) (h : (cut s).size ≤ 4000) :
    Calls Tryd.prog 9 #[.string s, v] w fun e W' => e = .returned (.bool true) ∧ Below w.heap.size w W' := by
  have HS := Lib.hid hS
  have HA := Lib.hid hA
  clear hS hA
  go_enter Tryd.func9, Tryd.ntmps9
  go_wp2_with fail
  refine (shown_true n₀ aF aN aR _ HS.out hn).mono ?_
  rintro e w1 ⟨rfl, hb1⟩
  have hs1 := hb1.size
  have HB1 := Lib.hid hb1
  clear hb1
  go_wp2_with fail
  refine (cut_any _ s).mono ?_
  rintro e w2 ⟨rfl, rfl⟩
  go_wp2_with fail
  refine (new_ok _ _ h).mono ?_
  rintro e w3 ⟨Ba, rfl, la, xa, hBa, hta, hla, hb3, hBaw, hlba⟩
  have hb3' := HB1.out.trans (hb3.mono hs1)
  have hs3 := hb3'.size
  have H3 := Lib.hid hBa
  have T3 := Lib.hid hta
  have HB3 := Lib.hid hb3'
  have hBa3 := hBa.lt
  clear hBa hta hb3 hb3' hlba hla
  go_wp2_with fail
  refine (cut_any _ s).mono ?_
  rintro e w2 ⟨rfl, rfl⟩
  go_wp2_with fail
  refine (new_ok _ _ h).mono ?_
  rintro e w4 ⟨Bb, rfl, lb, xb, hBb, htb, hlb, hb4, hBbw, hlbb⟩
  have hb4' := HB3.out.trans (hb4.mono hs3)
  have hs4 := hb4'.size
  have hs34 := hb4.size
  have hBb4 := hBb.lt
  have H4 := Lib.hid (And.intro (H3.out.below hb4) hBb)
  have T4 := Lib.hid (T3.out.trans htb.symm)
  have HB4 := Lib.hid hb4'
  have HN4 : Hid (la ≠ some Bb ∧ lb ≠ some Ba) := Lib.hid ⟨fun e => by have := H3.out.lb_lt _ e; omega, fun e => by have := hlbb _ e; omega⟩
  clear hBb htb hb4 hb4' hlbb hlb H3 T3
  go_wp2_with fail
  refine (few_any _ v A len 20 (by omega) ((HA.out.below HB4.out (Nat.le_refl _)).wider hs4)).mono ?_
  rintro e w5 ⟨v5, rfl, hA5, hb5⟩
  have hs45 := hb5.size
  have ha0 : w.heap.size ≤ Ba := by omega
  have hb0 : w.heap.size ≤ Bb := by omega
  have ha4 : Ba < w4.heap.size := by omega
  have hab : Ba ≠ Bb := by omega
  obtain ⟨m5, hm5⟩ : ∃ m5, m5 = min len 20 := ⟨_, rfl⟩
  have hm5' : m5 ≤ 20 := by omega
  rw [← hm5] at hA5
  have HI5 : Hid (Two w w4.heap.size w5.heap.size Ba Bb v5 (cutA A) m5 w5 la xa lb xb) := Lib.hid ⟨H4.out.1.below hb5, H4.out.2.below hb5, HB4.out.trans (hb5.mono hs4), Nat.le_refl _, hA5, HN4.out⟩
  obtain ⟨a5, c5, rfl, hlen5, _⟩ := hA5
  unfold maxLen at hlen5
  clear hm5 hb5 HA H4 HB4 HB3 HB1 HN4
  go_wp2
  go_loopw [10] (fun i wr => ∃ k : Nat, k ≤ m5 ∧ i = .int .i64 k ∧ ∃ la xa lb xb, Two w w4.heap.size w5.heap.size Ba Bb (.slice a5 m5 c5) (cutA A) m5 wr la xa lb xb ∧ text xa = text xb)
    (fun i _ => m5 - (intOf i).toNat)
  case atStart => exact ⟨0, Nat.zero_le _, rfl, _, _, _, _, HI5.out, T4.out⟩
  case round =>
    obtain ⟨k, hk, rfl, lak, xak, lbk, xbk, hIk, htk⟩ := hrel
    have HIK := Lib.hid hIk
    have HTK := Lib.hid htk
    have hswk : w.heap.size ≤ wr.heap.size := hIk.2.2.1.size
    have hsk : w5.heap.size ≤ wr.heap.size := hIk.2.2.2.1
    have HSK := Lib.hid (HS.out.below hIk.2.2.1 hn)
    clear htk HI5 T4
    by_cases hlt : k < m5
    · obtain ⟨a6, c6, e6, _, hcs⟩ := hIk.2.2.2.2.1
      cases e6
      obtain ⟨b, off, rfl, hblo, hbhi, hcc⟩ := hcs (by omega)
      obtain ⟨e1, e2, e3⟩ := hcc k hlt
      clear hcc hcs hIk
      have hbr : b < wr.heap.size := by omega
      have hba : b ≠ Ba := by omega
      have hbb : b ≠ Bb := by omega
      have HX := Lib.hid (And.intro e1 (And.intro e2 e3))
      obtain ⟨E, hE⟩ : ∃ E : Int, E = spE (text xak).length (cutA A k).1 (cutA A k).2.1 (cutA A k).2.2.size := ⟨_, rfl⟩
      have HE := Lib.hid hE
      clear hE
      go_wp2_with fail
      go_region_held_law (fun w' => w'.cell? ⟨b, off + k * 3, none⟩ = some (.int .i64 (cutA A k).1) ∧ w'.cell? ⟨b, off + k * 3 + 1, none⟩ = some (.int .i64 (cutA A k).2.1) ∧ w'.cell? ⟨b, off + k * 3 + 2, none⟩ = some (.string (cutA A k).2.2))
        (first
          | exact ⟨acts_cell HG6.out hbr hba _ _ HX.out.1, acts_cell HG6.out hbr hba _ _ HX.out.2.1, acts_cell HG6.out hbr hba _ _ HX.out.2.2⟩
          | go_keep)
        ((go_at_call 15; refine (bsplice n₀ aF aN aR _ (HSK.out.below (Below.refl n₀ wr).drew (Nat.le_refl _)) (Nat.le_trans hn hswk) Ba lak xak (HIK.out.1.below (Below.refl wr.heap.size wr).drew) (cutA A k).1 (cutA A k).2.1 (cutA A k).2.2).mono ?_; rw [← HE.out]; rintro e w6 ⟨rfl, la6, xa6, hB6, ht6, hl6, hg6, hlb6⟩; have HG6 := Lib.hid hg6; have H6 := Lib.hid hB6; have T6 := Lib.hid ht6; have L6 := Lib.hid hlb6; clear hB6 ht6 hl6 hg6 hlb6))
      have hI6 := HIK.out.drew.first ha0 ha4 hab HG6.out H6.out L6.out
      have hs6 : w.heap.size ≤ w6.heap.size := hI6.2.2.1.size
      have HS6 := Lib.hid (HS.out.below hI6.2.2.1 hn)
      have HI6 := Lib.hid hI6
      have hbr6 : b < w6.heap.size := by have := hI6.2.2.2.1; omega
      have f1 := acts_cell HG6.out hbr hba _ _ HX.out.1
      have f2 := acts_cell HG6.out hbr hba _ _ HX.out.2.1
      have f3 := acts_cell HG6.out hbr hba _ _ HX.out.2.2
      have HX6 := Lib.hid (And.intro f1 (And.intro f2 f3))
      have HE6 : Hid (E = spE (text xbk).length (cutA A k).1 (cutA A k).2.1 (cutA A k).2.2.size) := Lib.hid (by rw [← HTK.out]; exact HE.out)
      clear hI6 HG6 HX e1 e2 e3 HIK H6 HSK L6 HE
      go_wp2_with fail
      go_region_held_law (fun w' => w'.cell? ⟨b, off + k * 3, none⟩ = some (.int .i64 (cutA A k).1) ∧ w'.cell? ⟨b, off + k * 3 + 1, none⟩ = some (.int .i64 (cutA A k).2.1) ∧ w'.cell? ⟨b, off + k * 3 + 2, none⟩ = some (.string (cutA A k).2.2))
        (first
          | exact ⟨acts_cell HG7.out hbr6 hbb _ _ HX6.out.1, acts_cell HG7.out hbr6 hbb _ _ HX6.out.2.1, acts_cell HG7.out hbr6 hbb _ _ HX6.out.2.2⟩
          | go_keep)
        ((go_at_call 15; refine (bsplice n₀ aF aN aR _ (HS6.out.below (Below.refl n₀ w6).drew (Nat.le_refl _)) (Nat.le_trans hn hs6) Bb lbk xbk (HI6.out.2.1.below (Below.refl w6.heap.size w6).drew) (cutA A k).1 (cutA A k).2.1 (cutA A k).2.2).mono ?_; rw [← HE6.out]; rintro e w7 ⟨rfl, lb7, xb7, hB7, ht7, hl7, hg7, hlb7⟩; have HG7 := Lib.hid hg7; have H7 := Lib.hid hB7; have T7 := Lib.hid ht7; have L7 := Lib.hid hlb7; clear hB7 ht7 hl7 hg7 hlb7))
      have hI7 := HI6.out.drew.swap.first hb0 hBb4 hab.symm HG7.out H7.out L7.out
      have HI7 := Lib.hid hI7.swap
      have HT7 : Hid (text xa6 = text xb7) := Lib.hid (by rw [T6.out, T7.out, HTK.out])
      clear hI7 HG7 HX6 f1 f2 f3 HI6 H7 HS6 L7 HE6 T6 T7 HTK
      go_wp2_with fail
      refine (bcompact _ Bb lb7 xb7 HI7.out.2.1).mono ?_
      rintro e w8 ⟨⟨v8, rfl⟩, lb8, xb8, hB8, ht8, hl8, hg8, hlb8⟩
      have HI8 := Lib.hid (HI7.out.swap.first hb0 hBb4 hab.symm hg8 hB8 (.inr hlb8)).swap
      have HT8 : Hid (text xa6 = text xb8) := Lib.hid (by rw [HT7.out, ht8])
      have hx8 : xb8.length ≤ 1 := by omega
      obtain ⟨r, hr⟩ : ∃ r : ByteArray, r = ⟨(text xa6).toArray⟩ := ⟨_, rfl⟩
      have HR := Lib.hid hr
      clear HI7 HT7 hB8 ht8 hl8 hg8 hlb8 hr
      go_wp2_with fail
      refine (btext _ Ba la6 xa6 HI8.out.1).mono ?_
      rw [← HR.out]
      rintro e w9 ⟨rfl, hb9⟩
      have HI9 := Lib.hid (HI8.out.still hb9)
      clear hb9 HI8
      go_wp2_with fail
      refine (btext _ Bb lb8 xb8 HI9.out.2.1).mono ?_
      rw [← HT8.out, ← HR.out]
      rintro e w10 ⟨rfl, hb10⟩
      have HI10 := Lib.hid (HI9.out.still hb10)
      clear hb10 HI9
      go_wp2_with fail
      refine (bpieces _ Bb lb8 xb8 HI10.out.2.1).mono ?_
      rintro e w11 ⟨rfl, rfl⟩
      have t1 : decide ((1 : Int) < (xb8.length : Int)) = false := decide_eq_false (by omega)
      have t2 : decide (1 < xb8.length) = false := decide_eq_false (by omega)
      go_wp2
      go_roundw
      case rel => exact ⟨k + 1, by omega, by go_num, _, _, _, _, HI10.out, HT8.out⟩
      case measure => simp [intOf]; omega
    · obtain rfl : k = m5 := by omega
      clear hIk
      obtain ⟨L, hL⟩ : ∃ L, L = (text xak).length := ⟨_, rfl⟩
      have HL := Lib.hid hL
      clear hL
      go_wp2_with fail
      refine (blen _ Ba lak xak HIK.out.1).mono ?_
      rw [← HL.out]
      rintro e w6 ⟨rfl, hb6⟩
      have HI6 := Lib.hid (HIK.out.still hb6)
      clear hb6 HIK
      go_wp2_with fail
      refine (blen _ Bb lbk xbk HI6.out.2.1).mono ?_
      rw [← HTK.out, ← HL.out]
      rintro e w7 ⟨rfl, hb7⟩
      have HI7 := Lib.hid (HI6.out.still hb7)
      clear hb7
      go_wp2
      go_ret
      exact ⟨rfl, HI7.out.2.2.1⟩

/-- FOR EVERY INPUT. -/
theorem compacts_true (n₀ : Nat) (aF aN aR : Addr) (w : World) (hS : Sent n₀ w aF aN aR) (hn : n₀ ≤ w.heap.size) (s : ByteArray) (v : Value) (A : Nat → Int × Int × ByteArray) (len : Nat) (hA : ActsIn 0 w.heap.size w v A len) :
    Calls Tryd.prog 9 #[.string s, v] w fun e W' => e = .returned (.bool true) ∧ Below w.heap.size w W' := by
  by_cases h : (cut s).size ≤ 4000
  · exact compacts_ok n₀ aF aN aR w hS hn s v A len hA h
  · exact compacts_full n₀ aF aN aR w hS hn s v (by omega)
end Go.Proofs.YtajbcaggpfopnaaDoor
