/- The buffer's own calls. -/
import Derived.Test.YtajbcaggpfopnaaDoorErr
import Derived.RegionCalls
import Derived.Deep.RegionWith
import Derived.Outline
namespace Go.Proofs.YtajbcaggpfopnaaDoor
open Go Go.RowKit

/-- What New leaves: a buffer of the text, all of it new. -/
def NewTo (w : World) (s : ByteArray) (B : Nat) (W' : World) : Prop :=
  ∃ lb xs, IsBuf W' B lb xs ∧ text xs = s.data.toList ∧ xs.length ≤ 1 ∧ Below w.heap.size w W' ∧ w.heap.size ≤ B ∧ (∀ k, lb = some k → w.heap.size ≤ k)

set_option maxHeartbeats 2000000 in
set_option maxRecDepth 100000 in
theorem new_ok (w : World) (s : ByteArray) (h : s.size ≤ 4000) :
    Calls Tryd.prog 12 #[.string s] w fun e W' => ∃ B, e = .returned (.tuple #[.pointer (some ⟨B, 0, none⟩), .int .i64 0]) ∧ NewTo w s B W' := by
  go_enter Tryd.func12, Tryd.ntmps12
  go_wp2_with fail
  refine (room_ok 0 s _ (by omega) (by omega)).mono ?_
  rintro e w' ⟨rfl, rfl⟩
  go_wp2_with fail
  refine (own_any s _ (by omega)).mono ?_
  rintro e w1 ⟨rfl, hb1⟩
  have hs1 := hb1.size
  have HB1 := Lib.hid hb1
  clear hb1
  go_wp2_with fail
  refine (join_any w1.heap.size _ _ [] (sj [s]) 1 (by simp) _ (World.ownsRow_nil _ _ _ _) (by simp) ?_).mono ?_
  · refine .inr ⟨w1.heap.size, 0, 1, rfl, Nat.le_refl _, by unfold maxLen; omega, by simp, by simp [Value.ownBlock], fun j hj => ?_⟩
    have h9 := World.alloc_heap_new w1 (.cells #[.string s] 51)
    rw [cell_of_row _ _ _ _ _ (0, 0) h9, Nat.zero_add]
    match j, hj with
    | 0, _ => rfl
  rintro e w3 ⟨v3, he3, ho3, hb3⟩
  obtain ⟨a3, l3, c3, rfl⟩ := ownsRow_slice ho3
  subst he3
  have hs3 := hb3.size
  rw [World.size_alloc] at hs3
  have HF : Hid (NewTo w s w3.heap.size (w3.alloc (.cells #[.slice a3 l3 c3] 56))) := by
    rw [List.nil_append] at ho3
    have ht : text (keep (sj [s]) 1) = s.data.toList := by rw [text_keep]; simp [txt, sj]
    have hrow : ∀ k, (Value.slice a3 l3 c3).ownBlock = some k → w1.heap.size ≤ k ∧ k < w3.heap.size := fun k e => ho3.lt k e
    have hb03 : Below w.heap.size w w3 := HB1.out.trans ((((Below.refl _ w1).alloc (Nat.le_refl _) _).trans hb3).mono hs1)
    refine ⟨(Value.slice a3 l3 c3).ownBlock, keep (sj [s]) 1, ⟨.slice a3 l3 c3, Boxed.new _ _ _, holds_of_owns (ho3.alloc _), rfl, fun e => by have := (hrow _ e).2; omega, keep_full _ _, ?_⟩, ht, keep_len _ _, hb03.alloc (by omega) _, by omega, fun k e => by have := (hrow k e).1; omega⟩
    rw [ht, ← Lib.size_eq]; exact h
  clear ho3 hb3 HB1 hs1 hs3
  go_wp2
  go_ret2
  exact ⟨_, rfl, HF.out⟩

set_option maxRecDepth 100000 in
theorem new_full (n₀ : Nat) (aF aN aR : Addr) (w : World) (hS : Sent n₀ w aF aN aR) (s : ByteArray) (h : 4000 < s.size) :
    Calls Tryd.prog 12 #[.string s] w fun e W' => e = .returned (.tuple #[.pointer none, .int .i64 11]) ∧ w = W' := by
  have HS := Lib.hid hS
  clear hS
  go_enter Tryd.func12, Tryd.ntmps12
  go_wp2_with fail
  refine (room_full n₀ aF aN aR 0 s _ HS.out (by omega) (by omega)).mono ?_
  rintro e w' ⟨rfl, rfl⟩
  go_wp2_with fail
  refine (number_full n₀ _ aF aN aR HS.out).mono ?_
  rintro e w' ⟨rfl, rfl⟩
  go_wp2
  go_ret2
  exact ⟨rfl, rfl⟩

/-- What a splice tells. -/
def spE (L : Nat) (a m : Int) (sz : Nat) : Int := if okSpan L a m = true then (if (L : Int) - m + (sz : Int) ≤ 4000 then 0 else 11) else 10
/-- What a splice makes of a text. -/
def spT (T : List UInt8) (a m : Int) (s : List UInt8) : List UInt8 := if spE T.length a m s.length = 0 then T.take a.toNat ++ s ++ T.drop (a.toNat + m.toNat) else T
/-- What a splice of a buffer leaves. -/
def SplTo (w : World) (B : Nat) (lb : Option Nat) (xs : List ByteArray) (a m : Int) (s : ByteArray) (W' : World) : Prop :=
  ∃ lb' xs', IsBuf W' B lb' xs' ∧ text xs' = spT (text xs) a m s.data.toList ∧ xs'.length ≤ xs.length + 2 ∧ w.grownBy W' (some B) ∧ (lb' = lb ∨ ∀ k, lb' = some k → w.heap.size ≤ k)

theorem grown_of_below {w w' : World} (hb : Below w.heap.size w w') (row : Option Nat) : w.grownBy w' row := ⟨hb.os, hb.tape, hb.output, hb.size, fun k hk _ => hb.block k hk⟩

theorem splTo_still {w : World} {B : Nat} {lb : Option Nat} {xs : List ByteArray} {a m : Int} {s : ByteArray} {W' : World} (h : IsBuf w B lb xs) (hb : Below w.heap.size w W') (he : spE (text xs).length a m s.size ≠ 0) : SplTo w B lb xs a m s W' := by
  refine ⟨lb, xs, h.below hb, ?_, by omega, grown_of_below hb _, .inl rfl⟩
  unfold spT
  rw [← Lib.size_eq, if_neg he]

set_option maxHeartbeats 1000000 in
set_option maxRecDepth 100000 in
theorem bsplice_range (n₀ : Nat) (aF aN aR : Addr) (w : World) (hS : Sent n₀ w aF aN aR) (hn : n₀ ≤ w.heap.size) (B : Nat) (lb : Option Nat) (xs : List ByteArray) (hB : IsBuf w B lb xs) (a m : Int) (s : ByteArray) (h : okSpan (text xs).length a m = false) :
    Calls Tryd.prog 15 #[.pointer (some ⟨B, 0, none⟩), .int .i64 a, .int .i64 m, .string s] w fun e W' => e = .returned (.int .i64 10) ∧ Below w.heap.size w W' := by
  have HS := Lib.hid hS
  have HB := Lib.hid hB
  clear hS hB
  go_enter Tryd.func15, Tryd.ntmps15
  go_wp2_with fail
  refine (span_range n₀ aF aN aR _ HS.out hn B lb xs HB.out a m h).mono ?_
  rintro e w1 ⟨rfl, hb1⟩
  have HS1 := Lib.hid (HS.out.below hb1 hn)
  have HB1 := Lib.hid hb1
  clear hb1
  go_wp2_with fail
  refine (number_range n₀ _ aF aN aR HS1.out).mono ?_
  rintro e w' ⟨rfl, rfl⟩
  go_wp2
  go_ret
  exact ⟨rfl, HB1.out⟩

set_option maxRecDepth 100000 in
theorem bsplice_nil (n₀ : Nat) (aF aN aR : Addr) (w : World) (hS : Sent n₀ w aF aN aR) (a m : Int) (s : ByteArray) :
    Calls Tryd.prog 15 #[.pointer none, .int .i64 a, .int .i64 m, .string s] w fun e W' => e = .returned (.int .i64 1) ∧ w = W' := by
  have HS := Lib.hid hS
  clear hS
  go_enter Tryd.func15, Tryd.ntmps15
  go_wp2_with fail
  refine (span_nil n₀ aF aN aR _ HS.out a m).mono ?_
  rintro e w1 ⟨rfl, rfl⟩
  go_wp2_with fail
  refine (number_nil n₀ _ aF aN aR HS.out).mono ?_
  rintro e w' ⟨rfl, rfl⟩
  go_wp2
  go_ret
  exact ⟨rfl, rfl⟩

set_option maxHeartbeats 2000000 in
set_option maxRecDepth 100000 in
theorem bsplice_full (n₀ : Nat) (aF aN aR : Addr) (w : World) (hS : Sent n₀ w aF aN aR) (hn : n₀ ≤ w.heap.size) (B : Nat) (lb : Option Nat) (xs : List ByteArray) (hB : IsBuf w B lb xs) (a m : Nat) (s : ByteArray) (h : a + m ≤ (text xs).length) (hf : 4000 < (text xs).length - m + s.size) :
    Calls Tryd.prog 15 #[.pointer (some ⟨B, 0, none⟩), .int .i64 (a : Int), .int .i64 (m : Int), .string s] w fun e W' => e = .returned (.int .i64 11) ∧ Below w.heap.size w W' := by
  have hl := hB.len.1
  have HS := Lib.hid hS
  have HB := Lib.hid hB
  clear hS hB
  have hok : okSpan (text xs).length (a : Int) (m : Int) = true := by unfold okSpan; exact decide_eq_true ⟨by omega, by omega, by omega, by omega⟩
  have ew : (((text xs).length : Int) - (m : Int)) = (((text xs).length - m : Nat) : Int) := by omega
  go_enter Tryd.func15, Tryd.ntmps15
  go_wp2_with fail
  refine (span_ok _ B lb xs HB.out _ _ hok).mono ?_
  rintro e w1 ⟨rfl, hb1⟩
  have HS1 := Lib.hid (HS.out.below hb1 hn)
  have H1 := Lib.hid (HB.out.below hb1)
  have hs1 := hb1.size
  have HB1 := Lib.hid hb1
  clear hb1
  go_wp2_with fail
  refine (size_b _ B lb xs H1.out).mono ?_
  rintro e w2 ⟨rfl, hb2⟩
  have hs2 := hb2.size
  have HS2 := Lib.hid (HS1.out.below hb2 (by omega))
  have HB2 := Lib.hid hb2
  clear hb2
  go_wp2_with fail
  refine (room_full n₀ aF aN aR _ s _ HS2.out (by omega) (by omega)).mono ?_
  rintro e w3 ⟨rfl, rfl⟩
  go_wp2_with fail
  refine (number_full n₀ _ aF aN aR HS2.out).mono ?_
  rintro e w' ⟨rfl, rfl⟩
  go_wp2
  go_ret
  exact ⟨rfl, HB1.out.trans (HB2.out.mono hs1)⟩

set_option maxHeartbeats 2000000 in
set_option maxRecDepth 100000 in
theorem bsplice_ok (w : World) (B : Nat) (lb : Option Nat) (xs : List ByteArray) (hB : IsBuf w B lb xs) (a m : Nat) (s : ByteArray) (h : a + m ≤ (text xs).length) (hf : (text xs).length - m + s.size ≤ 4000) :
    Calls Tryd.prog 15 #[.pointer (some ⟨B, 0, none⟩), .int .i64 (a : Int), .int .i64 (m : Int), .string s] w fun e W' => e = .returned (.int .i64 0) ∧ SpliceTo w B lb xs a m s W' := by
  have hl := hB.len.1
  have HB := Lib.hid hB
  clear hB
  have hok : okSpan (text xs).length (a : Int) (m : Int) = true := by unfold okSpan; exact decide_eq_true ⟨by omega, by omega, by omega, by omega⟩
  have ew : (((text xs).length : Int) - (m : Int)) = (((text xs).length - m : Nat) : Int) := by omega
  go_enter Tryd.func15, Tryd.ntmps15
  go_wp2_with fail
  refine (span_ok _ B lb xs HB.out _ _ hok).mono ?_
  rintro e w1 ⟨rfl, hb1⟩
  have H1 := Lib.hid (HB.out.below hb1)
  have hs1 := hb1.size
  have HB1 := Lib.hid hb1
  clear hb1
  go_wp2_with fail
  refine (size_b _ B lb xs H1.out).mono ?_
  rintro e w2 ⟨rfl, hb2⟩
  have hs2 := hb2.size
  have H2 := Lib.hid (H1.out.below hb2)
  have HB2 := Lib.hid (HB1.out.trans (hb2.mono hs1))
  clear hb2
  go_wp2_with fail
  refine (room_ok _ s _ (by omega) (by omega)).mono ?_
  rintro e w3 ⟨rfl, rfl⟩
  go_wp2_with fail
  have hk : Calls Tryd.prog 28 #[.pointer (some ⟨B, 0, none⟩), .int .i64 (a : Int), .int .i64 (m : Int), .string s] w2 fun e W' => (∃ v, e = .returned v) ∧ SpliceTo w2 B lb xs a m s W' := by
    by_cases hz : m = 0 ∧ s.size = 0
    · obtain ⟨rfl, hz⟩ := hz
      have e0 : s = ⟨#[]⟩ := by
        cases s with
        | mk d => exact congrArg ByteArray.mk (Array.size_eq_zero_iff.1 hz)
      rw [e0]
      exact splice_none _ B lb xs H2.out a
    · exact splice_some _ B lb xs H2.out a m s h hf hz
  refine hk.mono ?_
  rintro e w4 ⟨⟨v, rfl⟩, lb', xs', hB', ht, hlen, hg, hlb⟩
  have hlb' : lb' = lb ∨ ∀ k, lb' = some k → w.heap.size ≤ k := hlb.imp id (fun h k e => by have := h k e; omega)
  have HF : Hid (SpliceTo w B lb xs a m s w4) := ⟨lb', xs', hB', ht, hlen, (grown_of_below HB2.out _).trans hg, hlb'⟩
  clear hB' ht hlen hg hlb hlb'
  go_wp2
  go_ret
  exact ⟨rfl, HF.out⟩

/-- (*Buffer).Splice, OF ANY NUMBERS. -/
theorem bsplice (n₀ : Nat) (aF aN aR : Addr) (w : World) (hS : Sent n₀ w aF aN aR) (hn : n₀ ≤ w.heap.size) (B : Nat) (lb : Option Nat) (xs : List ByteArray) (hB : IsBuf w B lb xs) (a m : Int) (s : ByteArray) :
    Calls Tryd.prog 15 #[.pointer (some ⟨B, 0, none⟩), .int .i64 a, .int .i64 m, .string s] w fun e W' => e = .returned (.int .i64 (spE (text xs).length a m s.size)) ∧ SplTo w B lb xs a m s W' := by
  cases hok : okSpan (text xs).length a m with
  | false =>
    refine (bsplice_range n₀ aF aN aR w hS hn B lb xs hB a m s hok).mono ?_
    rintro e W' ⟨rfl, hb⟩
    have he : spE (text xs).length a m s.size = 10 := by unfold spE; rw [hok]; rfl
    exact ⟨by rw [he], splTo_still hB hb (by rw [he]; omega)⟩
  | true =>
    have hok' := hok
    unfold okSpan at hok'
    obtain ⟨h1, h2, h3, h4⟩ := of_decide_eq_true hok'
    obtain ⟨A, rfl⟩ := Int.eq_ofNat_of_zero_le h1
    obtain ⟨M, rfl⟩ := Int.eq_ofNat_of_zero_le h3
    by_cases hf : (text xs).length - M + s.size ≤ 4000
    · refine (bsplice_ok w B lb xs hB A M s (by omega) hf).mono ?_
      rintro e W' ⟨rfl, lb', xs', hB', ht, hlen, hg, hlb⟩
      have he : spE (text xs).length (A : Int) (M : Int) s.size = 0 := by unfold spE; rw [hok, if_pos rfl, if_pos (by omega)]
      refine ⟨by rw [he], lb', xs', hB', ?_, hlen, hg, hlb⟩
      rw [ht]
      unfold spT
      rw [← Lib.size_eq, he, if_pos rfl]
      rfl
    · refine (bsplice_full n₀ aF aN aR w hS hn B lb xs hB A M s (by omega) (by omega)).mono ?_
      rintro e W' ⟨rfl, hb⟩
      have he : spE (text xs).length (A : Int) (M : Int) s.size = 11 := by unfold spE; rw [hok, if_pos rfl, if_neg (by omega)]
      exact ⟨by rw [he], splTo_still hB hb (by rw [he]; omega)⟩
end Go.Proofs.YtajbcaggpfopnaaDoor
