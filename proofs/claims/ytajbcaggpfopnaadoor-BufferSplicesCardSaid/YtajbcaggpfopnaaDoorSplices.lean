/- The text behind each of some splices. -/
import Derived.Test.YtajbcaggpfopnaaDoorInv
namespace Go.Proofs.YtajbcaggpfopnaaDoor
open Go Go.RowKit

set_option maxHeartbeats 2000000 in
set_option maxRecDepth 100000 in
theorem splices_full (n₀ : Nat) (aF aN aR : Addr) (w : World) (hS : Sent n₀ w aF aN aR) (hn : n₀ ≤ w.heap.size) (s : ByteArray) (v : Value) (h : 4000 < (cut s).size) :
    Calls Tryd.prog 3 #[.string s, v] w fun e W' => e = .returned (.bool true) ∧ Below w.heap.size w W' := by
  have HS := Lib.hid hS
  clear hS
  go_enter Tryd.func3, Tryd.ntmps3
  go_wp2_with fail
  refine (shown_true n₀ aF aN aR _ HS.out hn).mono ?_
  rintro e w1 ⟨rfl, hb1⟩
  have HS1 := Lib.hid (HS.out.below hb1 hn)
  have HB1 := Lib.hid hb1
  clear hb1
  go_wp2_with fail
  refine (cut_any _ s).mono ?_
  rintro e w2 ⟨rfl, rfl⟩
  go_wp2_with fail
  refine (new_full n₀ aF aN aR _ HS1.out _ h).mono ?_
  rintro e w4 ⟨rfl, rfl⟩
  go_wp2
  go_ret
  exact ⟨rfl, HB1.out⟩

set_option maxHeartbeats 16000000 in
set_option maxRecDepth 100000 in
theorem splices_ok (n₀ : Nat) (aF aN aR : Addr) (w : World) (hS : Sent n₀ w aF aN aR) (hn : n₀ ≤ w.heap.size) (s : ByteArray) (v : Value) (A : Nat → Int × Int × ByteArray) (len : Nat) (hA : ActsIn 0 w.heap.size w v A len) (h : (cut s).size ≤ 4000) :
    Calls Tryd.prog 3 #[.string s, v] w fun e W' => e = .returned (.bool true) ∧ Below w.heap.size w W' := by
  have HS := Lib.hid hS
  have HA := Lib.hid hA
  clear hS hA
  go_enter Tryd.func3, Tryd.ntmps3
  go_wp2_with fail
  refine (shown_true n₀ aF aN aR _ HS.out hn).mono ?_
  rintro e w1 ⟨rfl, hb1⟩
  have hs1 := hb1.size
  have HB1 := Lib.hid hb1
  clear hb1
  go_wp2_with fail
  refine (cut_any _ s).mono ?_
  rintro e w2 ⟨rfl, rfl⟩
  go_wp2_with fail
  refine (new_ok _ _ h).mono ?_
  rintro e w4 ⟨B, rfl, lb, xs, hB, ht, hl, hb4, hBw, hlb⟩
  have hb4' := HB1.out.trans (hb4.mono hs1)
  have hs4 := hb4'.size
  have H4 := Lib.hid hB
  have T4 := Lib.hid ht
  have HB4 := Lib.hid hb4'
  clear hB ht hb4 hb4' hlb hl
  go_wp2_with fail
  refine (few_any _ v A len 40 (by omega) ((HA.out.below HB4.out (Nat.le_refl _)).wider hs4)).mono ?_
  rintro e w5 ⟨v5, rfl, hA5, hb5⟩
  have hs45 := hb5.size
  have hBlt := H4.out.lt
  have hB0 : w.heap.size ≤ B := by omega
  obtain ⟨m5, hm5⟩ : ∃ m5, m5 = min len 40 := ⟨_, rfl⟩
  have hm5' : m5 ≤ 40 := by omega
  rw [← hm5] at hA5
  have HI5 : Hid (Inv w w4.heap.size w5.heap.size B v5 (cutA A) m5 w5 lb xs) := Lib.hid ⟨H4.out.below hb5, HB4.out.trans (hb5.mono hs4), Nat.le_refl _, hA5⟩
  obtain ⟨a5, c5, rfl, hlen5, _⟩ := hA5
  unfold maxLen at hlen5
  clear hm5 hb5 HA H4 HB4 HB1
  go_wp2
  go_loopw [0, 8] (fun u i wr => ∃ (k : Nat) (t : ByteArray), k ≤ m5 ∧ u = .string t ∧ i = .int .i64 k ∧ ∃ lb xs, Inv w w4.heap.size w5.heap.size B (.slice a5 m5 c5) (cutA A) m5 wr lb xs ∧ text xs = t.data.toList)
    (fun _ i _ => m5 - (intOf i).toNat)
  case atStart => exact ⟨0, cut s, Nat.zero_le _, rfl, rfl, _, _, HI5.out, T4.out⟩
  case round =>
    obtain ⟨k, t, hk, rfl, rfl, lbk, xsk, hIk, htk⟩ := hrel
    have HIK := Lib.hid hIk
    have HTK := Lib.hid htk
    have hswk : w.heap.size ≤ wr.heap.size := hIk.2.1.size
    have hsk : w5.heap.size ≤ wr.heap.size := hIk.2.2.1
    have HSK := Lib.hid (HS.out.below hIk.2.1 hn)
    have hts : t.size ≤ 4000 := by rw [← txt_size htk]; exact hIk.1.len.1
    clear htk
    by_cases hlt : k < m5
    · obtain ⟨a6, c6, e6, _, hcs⟩ := hIk.2.2.2
      cases e6
      obtain ⟨b, off, rfl, hblo, hbhi, hcc⟩ := hcs (by omega)
      obtain ⟨e1, e2, e3⟩ := hcc k hlt
      clear hcc hcs hIk
      have hbr : b < wr.heap.size := by omega
      have hbB : b ≠ B := by omega
      obtain ⟨oA, hoA⟩ : ∃ oA : Obj, oA = .cells #[.int .i64 (cutA A k).1, .int .i64 (cutA A k).2.1, .string (cutA A k).2.2] 31 := ⟨_, rfl⟩
      have hwa : Below wr.heap.size wr (wr.alloc oA) := (Below.refl _ wr).alloc (Nat.le_refl _) _
      have hIa := HIK.out.still hwa
      obtain ⟨t', ht'⟩ : ∃ t' : ByteArray, t' = ⟨(spT t.data.toList (cutA A k).1 (cutA A k).2.1 (cutA A k).2.2.data.toList).toArray⟩ := ⟨_, rfl⟩
      obtain ⟨E, hE⟩ : ∃ E : Int, E = spE t.size (cutA A k).1 (cutA A k).2.1 (cutA A k).2.2.size := ⟨_, rfl⟩
      have hca : ∀ (j : Nat) (u : Value), (acCells (cutA A k))[j]? = some u → (wr.alloc oA).cell? ((⟨wr.heap.size, 0, none⟩ : Addr).add j) = some u := by
        rw [hoA]
        exact World.news_of_block (World.alloc_heap_new wr (.cells #[.int .i64 (cutA A k).1, .int .i64 (cutA A k).2.1, .string (cutA A k).2.2] 31))
      have hsa : wr.heap.size < (wr.alloc oA).heap.size := by rw [World.size_alloc]; omega
      have HOA := Lib.hid hoA
      have HIA := Lib.hid hIa
      have HT' := Lib.hid ht'
      have HE := Lib.hid hE
      have HCA := Lib.hid hca
      have HSA := Lib.hid hsa
      clear hwa hIa ht' hE hca hsa hoA
      go_wp2_with fail
      rw [← HOA.out]
      refine (rsplice _ t (cutA A k).1 (cutA A k).2.1 (cutA A k).2.2 (by omega) (cut_size _)).mono ?_
      rw [← HT'.out, ← HE.out]
      rintro e w6 ⟨rfl, hb6⟩
      have hI6 := HIA.out.still hb6
      have hc6 : ∀ (j : Nat) (u : Value), (acCells (cutA A k))[j]? = some u → w6.cell? ((⟨wr.heap.size, 0, none⟩ : Addr).add j) = some u := fun j u hu => by
        rw [hb6.cell (by unfold Addr.add; split <;> exact HSA.out)]
        exact HCA.out j u hu
      have g0 : w6.cell? ⟨wr.heap.size, 0, none⟩ = some (.int .i64 (cutA A k).1) := hc6 0 _ rfl
      have g1 : w6.cell? ⟨wr.heap.size, 1, none⟩ = some (.int .i64 (cutA A k).2.1) := hc6 1 _ rfl
      have g2 : w6.cell? ⟨wr.heap.size, 2, none⟩ = some (.string (cutA A k).2.2) := hc6 2 _ rfl
      have hsw6 : w.heap.size ≤ w6.heap.size := hI6.2.1.size
      have HS6 := Lib.hid (HS.out.below hI6.2.1 hn)
      have HI6 := Lib.hid hI6
      clear hb6 hI6 hc6 HCA HIA HSK HSA e1 e2 e3
      go_wp2_with fail
      refine (bsplice n₀ aF aN aR _ HS6.out (Nat.le_trans hn hsw6) B lbk xsk HI6.out.1 (cutA A k).1 (cutA A k).2.1 (cutA A k).2.2).mono ?_
      rw [txt_size HTK.out, ← HE.out]
      rintro e w7 ⟨rfl, lb7, xs7, hB7, ht7, hl7, hg7, hlb7⟩
      have HI7 := Lib.hid (HI6.out.after hB0 hBlt hg7 hB7)
      have ht7' : text xs7 = t'.data.toList := by rw [ht7, HTK.out, HT'.out]
      have HT7 := Lib.hid ht7'
      clear g0 g1 g2 HI6 HIK hB7 ht7 hl7 hg7 hlb7 ht7'
      go_wp2_with fail
      refine (btext _ B lb7 xs7 HI7.out.1).mono ?_
      rw [bytes_eq HT7.out]
      rintro e w8 ⟨rfl, hb8⟩
      have HI8 := Lib.hid (HI7.out.still hb8)
      clear hb8
      go_wp2_with fail
      refine (blen _ B lb7 xs7 HI8.out.1).mono ?_
      rw [txt_size HT7.out]
      rintro e w9 ⟨rfl, hb9⟩
      have HI9 := Lib.hid (HI8.out.still hb9)
      clear hb9 HI7 HI8
      go_wp2
      go_roundw
      case rel => exact ⟨k + 1, t', by omega, rfl, by go_num, _, _, HI9.out, HT7.out⟩
      case measure => simp [intOf]; omega
    · obtain rfl : k = m5 := by omega
      clear hIk
      go_wp2
      go_ret
      exact ⟨rfl, HIK.out.2.1⟩

/-- FOR EVERY INPUT. -/
theorem splices_true (n₀ : Nat) (aF aN aR : Addr) (w : World) (hS : Sent n₀ w aF aN aR) (hn : n₀ ≤ w.heap.size) (s : ByteArray) (v : Value) (A : Nat → Int × Int × ByteArray) (len : Nat) (hA : ActsIn 0 w.heap.size w v A len) :
    Calls Tryd.prog 3 #[.string s, v] w fun e W' => e = .returned (.bool true) ∧ Below w.heap.size w W' := by
  by_cases h : (cut s).size ≤ 4000
  · exact splices_ok n₀ aF aN aR w hS hn s v A len hA h
  · exact splices_full n₀ aF aN aR w hS hn s v (by omega)
end Go.Proofs.YtajbcaggpfopnaaDoor
