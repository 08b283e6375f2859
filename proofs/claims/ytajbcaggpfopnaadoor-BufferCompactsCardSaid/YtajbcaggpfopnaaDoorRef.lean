/- The statements' own helpers and the plain answers. -/
import Derived.Test.YtajbcaggpfopnaaDoorCalls
namespace Go.Proofs.YtajbcaggpfopnaaDoor
open Go Go.RowKit

/-- The first four thousand and ten bytes. -/
def cut (s : ByteArray) : ByteArray := s.extract 0 4010
theorem ext_data (s : ByteArray) (i j : Nat) : (s.extract i j).data.toList = (s.data.toList.drop i).take (j - i) := by
  simp [ByteArray.data_extract, Array.toList_extract, List.extract]
theorem cut_size (s : ByteArray) : (cut s).size ≤ 4010 := by
  rw [Lib.size_eq, cut, ext_data, List.length_take]
  omega

set_option maxRecDepth 100000 in
theorem cut_any (w : World) (s : ByteArray) :
    Calls Tryd.prog 11 #[.string s] w fun e W' => e = .returned (.string (cut s)) ∧ w = W' := by
  by_cases h : s.size ≤ 4010
  · have t1 : min (s.size : Int) 4010 = (s.size : Int) := by omega
    have e0 : cut s = s := by
      have h1 : s.data.toList.length ≤ 4010 := by rw [← Lib.size_eq]; exact h
      apply ByteArray.ext
      apply Array.ext'
      rw [cut, ext_data, List.drop_zero, List.take_of_length_le h1]
    rw [e0]
    go_enter Tryd.func11, Tryd.ntmps11
    go_wp2
    go_ret
    exact ⟨rfl, rfl⟩
  · have t1 : min (s.size : Int) 4010 = 4010 := by omega
    go_enter Tryd.func11, Tryd.ntmps11
    go_wp2
    go_ret
    exact ⟨rfl, rfl⟩

set_option maxHeartbeats 1000000 in
set_option maxRecDepth 100000 in
theorem rread_range (w : World) (t : ByteArray) (a m : Int) (h0 : t.size ≤ 4010) (h : okSpan t.size a m = false) :
    Calls Tryd.prog 19 #[.string t, .int .i64 a, .int .i64 m] w fun e W' => e = .returned (.tuple #[.string ⟨#[]⟩, .int .i64 10]) ∧ w = W' := by
  unfold okSpan at h
  have h' := of_decide_eq_false h
  clear h
  by_cases p1 : a < 0
  · have t1 : decide (a < 0) = true := by simp; omega
    clear h'
    go_enter Tryd.func19, Tryd.ntmps19
    go_wp2
    go_ret2
    exact ⟨rfl, rfl⟩
  · have t1 : decide (a < 0) = false := by simp; omega
    by_cases p2 : (t.size : Int) < a
    · have t2 : decide ((t.size : Int) < a) = true := by simp; omega
      clear h'
      go_enter Tryd.func19, Tryd.ntmps19
      go_wp2
      go_ret2
      exact ⟨rfl, rfl⟩
    · have t2 : decide ((t.size : Int) < a) = false := by simp; omega
      by_cases p3 : m < 0
      · have t3 : decide (m < 0) = true := by simp; omega
        clear h'
        go_enter Tryd.func19, Tryd.ntmps19
        go_wp2
        go_ret2
        exact ⟨rfl, rfl⟩
      · have t3 : decide (m < 0) = false := by simp; omega
        have p4 : (t.size : Int) - a < m := by omega
        have t4 : decide ((t.size : Int) - a < m) = true := by simp; omega
        clear h'
        go_enter Tryd.func19, Tryd.ntmps19
        go_wp2
        go_ret2
        exact ⟨rfl, rfl⟩

set_option maxRecDepth 100000 in
theorem rread_ok (w : World) (t : ByteArray) (a m b : Nat) (es : (a : Int) + (m : Int) = (b : Int)) (h1 : a ≤ b) (h : b ≤ t.size) (h2 : a ≤ t.size) (h0 : t.size ≤ 4010) :
    Calls Tryd.prog 19 #[.string t, .int .i64 (a : Int), .int .i64 (m : Int)] w fun e W' => e = .returned (.tuple #[.string (t.extract a b), .int .i64 0]) ∧ w = W' := by
  have t1 : decide ((a : Int) < 0) = false := by simp
  have t2 : decide ((t.size : Int) < (a : Int)) = false := by simp; omega
  have t2' : decide (t.size < a) = false := by simp; omega
  have t3 : decide ((m : Int) < 0) = false := by simp
  have t4 : decide ((t.size : Int) - (a : Int) < (m : Int)) = false := by simp; omega
  go_enter Tryd.func19, Tryd.ntmps19
  go_wp2
  go_ret2
  exact ⟨rfl, rfl⟩

/-- The plain answer, read. -/
theorem rread (w : World) (t : ByteArray) (a m : Int) (h0 : t.size ≤ 4010) :
    Calls Tryd.prog 19 #[.string t, .int .i64 a, .int .i64 m] w fun e W' => e = .returned (.tuple #[.string ⟨(rdT t.data.toList a m).toArray⟩, .int .i64 (rdE t.size a m)]) ∧ w = W' := by
  cases hok : okSpan t.size a m with
  | false =>
    refine (rread_range w t a m h0 hok).mono ?_
    rintro e W' ⟨rfl, hb⟩
    exact ⟨by unfold rdT rdE; rw [← Lib.size_eq, hok]; rfl, hb⟩
  | true =>
    have hok' := hok
    unfold okSpan at hok'
    obtain ⟨h1, h2, h3, h4⟩ := of_decide_eq_true hok'
    obtain ⟨A, rfl⟩ := Int.eq_ofNat_of_zero_le h1
    obtain ⟨M, rfl⟩ := Int.eq_ofNat_of_zero_le h3
    refine (rread_ok w t A M (A + M) (by omega) (by omega) (by omega) (by omega) h0).mono ?_
    rintro e W' ⟨rfl, hb⟩
    have e1 : t.extract A (A + M) = ⟨(rdT t.data.toList (A : Int) (M : Int)).toArray⟩ := by
      apply ByteArray.ext
      apply Array.ext'
      rw [ext_data]
      unfold rdT
      rw [← Lib.size_eq, hok, if_pos rfl, Nat.add_sub_cancel_left]
      rfl
    exact ⟨by rw [e1]; unfold rdE; rw [hok, if_pos rfl], hb⟩

set_option maxHeartbeats 1000000 in
set_option maxRecDepth 100000 in
theorem rsplice_range (w : World) (t : ByteArray) (a m : Int) (s : ByteArray) (h0 : t.size ≤ 4010) (h : okSpan t.size a m = false) :
    Calls Tryd.prog 14 #[.string t, .int .i64 a, .int .i64 m, .string s] w fun e W' => e = .returned (.tuple #[.string t, .int .i64 10]) ∧ w = W' := by
  unfold okSpan at h
  have h' := of_decide_eq_false h
  clear h
  by_cases p1 : a < 0
  · have t1 : decide (a < 0) = true := by simp; omega
    clear h'
    go_enter Tryd.func14, Tryd.ntmps14
    go_wp2
    go_ret2
    exact ⟨rfl, rfl⟩
  · have t1 : decide (a < 0) = false := by simp; omega
    by_cases p2 : (t.size : Int) < a
    · have t2 : decide ((t.size : Int) < a) = true := by simp; omega
      clear h'
      go_enter Tryd.func14, Tryd.ntmps14
      go_wp2
      go_ret2
      exact ⟨rfl, rfl⟩
    · have t2 : decide ((t.size : Int) < a) = false := by simp; omega
      by_cases p3 : m < 0
      · have t3 : decide (m < 0) = true := by simp; omega
        clear h'
        go_enter Tryd.func14, Tryd.ntmps14
        go_wp2
        go_ret2
        exact ⟨rfl, rfl⟩
      · have t3 : decide (m < 0) = false := by simp; omega
        have p4 : (t.size : Int) - a < m := by omega
        have t4 : decide ((t.size : Int) - a < m) = true := by simp; omega
        clear h'
        go_enter Tryd.func14, Tryd.ntmps14
        go_wp2
        go_ret2
        exact ⟨rfl, rfl⟩

set_option maxHeartbeats 1000000 in
set_option maxRecDepth 100000 in
theorem rsplice_full (w : World) (t : ByteArray) (a m : Nat) (s : ByteArray) (h : a + m ≤ t.size) (h0 : t.size ≤ 4010) (hs : s.size ≤ 4010) (hf : 4000 < t.size - m + s.size) :
    Calls Tryd.prog 14 #[.string t, .int .i64 (a : Int), .int .i64 (m : Int), .string s] w fun e W' => e = .returned (.tuple #[.string t, .int .i64 11]) ∧ w = W' := by
  have t1 : decide ((a : Int) < 0) = false := by simp
  have t2 : decide ((t.size : Int) < (a : Int)) = false := by simp; omega
  have t2' : decide (t.size < a) = false := by simp; omega
  have t3 : decide ((m : Int) < 0) = false := by simp
  have t4 : decide ((t.size : Int) - (a : Int) < (m : Int)) = false := by simp; omega
  have t5 : decide ((4000 : Int) < (t.size : Int) - (m : Int) + (s.size : Int)) = true := by simp; omega
  go_enter Tryd.func14, Tryd.ntmps14
  go_wp2
  go_ret2
  exact ⟨rfl, rfl⟩

set_option maxHeartbeats 1000000 in
set_option maxRecDepth 100000 in
theorem rsplice_ok (w : World) (t : ByteArray) (a m b : Nat) (s : ByteArray) (es : (a : Int) + (m : Int) = (b : Int)) (h : b ≤ t.size) (h2 : a ≤ t.size) (h0 : t.size ≤ 4010) (hs : s.size ≤ 4010) (hf : t.size - m + s.size ≤ 4000) :
    Calls Tryd.prog 14 #[.string t, .int .i64 (a : Int), .int .i64 (m : Int), .string s] w fun e W' => e = .returned (.tuple #[.string (t.extract 0 a ++ s ++ t.extract b t.size), .int .i64 0]) ∧ Below w.heap.size w W' := by
  have t1 : decide ((a : Int) < 0) = false := by simp
  have t2 : decide ((t.size : Int) < (a : Int)) = false := by simp; omega
  have t2' : decide (t.size < a) = false := by simp; omega
  have t3 : decide ((m : Int) < 0) = false := by simp
  have t4 : decide ((t.size : Int) - (a : Int) < (m : Int)) = false := by simp; omega
  have t5 : decide ((4000 : Int) < (t.size : Int) - (m : Int) + (s.size : Int)) = false := by simp; omega
  have HD := Lib.hid (Below.refl w.heap.size w).drew
  go_enter Tryd.func14, Tryd.ntmps14
  go_wp2_with fail
  go_region
  all_goals
    go_wp2
    go_ret2
    exact ⟨rfl, HD.out⟩

/-- The plain answer, of a splice. -/
theorem rsplice (w : World) (t : ByteArray) (a m : Int) (s : ByteArray) (h0 : t.size ≤ 4010) (hs : s.size ≤ 4010) :
    Calls Tryd.prog 14 #[.string t, .int .i64 a, .int .i64 m, .string s] w fun e W' => e = .returned (.tuple #[.string ⟨(spT t.data.toList a m s.data.toList).toArray⟩, .int .i64 (spE t.size a m s.size)]) ∧ Below w.heap.size w W' := by
  cases hok : okSpan t.size a m with
  | false =>
    refine (rsplice_range w t a m s h0 hok).mono ?_
    rintro e W' ⟨rfl, rfl⟩
    have he : spE t.size a m s.size = 10 := by unfold spE; rw [hok]; rfl
    have ht : spT t.data.toList a m s.data.toList = t.data.toList := by unfold spT; rw [← Lib.size_eq, ← Lib.size_eq, he]; rfl
    exact ⟨by rw [he, ht], Below.refl _ _⟩
  | true =>
    have hok' := hok
    unfold okSpan at hok'
    obtain ⟨h1, h2, h3, h4⟩ := of_decide_eq_true hok'
    obtain ⟨A, rfl⟩ := Int.eq_ofNat_of_zero_le h1
    obtain ⟨M, rfl⟩ := Int.eq_ofNat_of_zero_le h3
    by_cases hf : t.size - M + s.size ≤ 4000
    · refine (rsplice_ok w t A M (A + M) s (by omega) (by omega) (by omega) h0 hs hf).mono ?_
      rintro e W' ⟨rfl, hb⟩
      have he : spE t.size (A : Int) (M : Int) s.size = 0 := by unfold spE; rw [hok, if_pos rfl, if_pos (by omega)]
      have ht : t.extract 0 A ++ s ++ t.extract (A + M) t.size = ⟨(spT t.data.toList (A : Int) (M : Int) s.data.toList).toArray⟩ := by
        apply ByteArray.ext
        apply Array.ext'
        unfold spT
        rw [← Lib.size_eq, ← Lib.size_eq, he, if_pos rfl]
        simp only [ByteArray.data_append, Array.toList_append, ext_data, List.drop_zero, Nat.sub_zero]
        rw [List.take_of_length_le (i := t.size - (A + M)) (l := List.drop (A + M) t.data.toList) (by rw [List.length_drop, Lib.size_eq]; omega)]
        rfl
      exact ⟨by rw [he, ht], hb⟩
    · refine (rsplice_full w t A M s (by omega) h0 hs (by omega)).mono ?_
      rintro e W' ⟨rfl, rfl⟩
      have he : spE t.size (A : Int) (M : Int) s.size = 11 := by unfold spE; rw [hok, if_pos rfl, if_neg (by omega)]
      have ht : spT t.data.toList (A : Int) (M : Int) s.data.toList = t.data.toList := by unfold spT; rw [← Lib.size_eq, ← Lib.size_eq, he]; rfl
      exact ⟨by rw [he, ht], Below.refl _ _⟩
end Go.Proofs.YtajbcaggpfopnaaDoor
