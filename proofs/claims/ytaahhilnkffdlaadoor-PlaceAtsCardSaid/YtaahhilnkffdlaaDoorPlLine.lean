/- The plain answer of place: a line's bytes. -/
import Derived.Test.YtaahhilnkffdlaaDoorPlLines
import Derived.Lib.Strings
namespace Go.Proofs.YtaahhilnkffdlaaDoor
open Go Go.RowKit

/-- Where line n begins, and where it ends. -/
def lineAt (T : List UInt8) (n : Nat) : Nat := (starts T T.length).getD n 0
def lineEnd (T : List UInt8) (n : Nat) : Nat := if n + 1 < (starts T T.length).length then lineAt T (n + 1) - 1 else T.length

/-- Each is behind the one ahead; all lie within the text. -/
theorem starts_le (T : List UInt8) : ∀ k, ∀ x ∈ starts T k, x ≤ k
  | 0, x, h => by simp [starts] at h; omega
  | k + 1, x, h => by
    unfold starts at h
    split at h
    · rcases List.mem_append.1 h with h | h
      · have := starts_le T k x h; omega
      · simp at h; omega
    · have := starts_le T k x h; omega
theorem starts_up (T : List UInt8) : ∀ k i j, i < j → j < (starts T k).length → (starts T k).getD i 0 < (starts T k).getD j 0
  | 0, i, j, h, hj => by simp [starts] at hj; omega
  | k + 1, i, j, h, hj => by
    unfold starts at hj ⊢
    split
    · rename_i h10
      rw [if_pos h10, List.length_append, List.length_singleton] at hj
      by_cases hjl : j < (starts T k).length
      · have := starts_up T k i j h hjl
        simp only [List.getD_eq_getElem?_getD] at this ⊢
        rw [List.getElem?_append_left (by omega), List.getElem?_append_left hjl]
        exact this
      · obtain rfl : j = (starts T k).length := by omega
        simp only [List.getD_eq_getElem?_getD]
        rw [List.getElem?_append_left h, List.getElem?_append_right (Nat.le_refl _), Nat.sub_self]
        have hm : (starts T k)[i]? = some ((starts T k)[i]'h) := List.getElem?_eq_getElem h
        rw [hm]
        have := starts_le T k _ (List.getElem_mem h)
        show _ < k + 1
        simp
        omega
    · rename_i h10
      rw [if_neg h10] at hj
      exact starts_up T k i j h hj

/-- The cells of a slice of numbers that the call owns. -/
theorem own_form {W : World} {base : Nat} {v : Value} {L : List Nat} (h : Own W base v L) (h0 : 0 < L.length) :
    ∃ g cap, v = .slice (some ⟨g, 0, none⟩) L.length cap ∧ base ≤ g ∧ g < W.heap.size ∧ ∀ j, j < L.length → W.cell? ⟨g, j, none⟩ = some (.int .i64 ((L.getD j 0 : Nat) : Int)) := by
  obtain ⟨g, cap, rfl, hb, hlt⟩ := h.form h0
  refine ⟨g, cap, rfl, hb, hlt, fun j hj => ?_⟩
  rw [h.cellAt j (by omega)]
  simp [ints, hj]

set_option maxHeartbeats 2000000 in
set_option maxRecDepth 100000 in
theorem rline_no (w : World) (s : ByteArray) (n : Int) (hs : s.size ≤ 600) (hn : n < 0 ∨ ((starts s.data.toList s.size).length : Int) ≤ n) :
    Calls Tryd.prog 13 #[.string s, .int .i64 n] w fun e W' => e = .returned (.tuple #[.string ⟨#[]⟩, .int .i64 20]) ∧ Below w.heap.size w W' := by
  have hl := starts_len s.data.toList s.size
  obtain ⟨L, hL⟩ : ∃ L, L = starts s.data.toList s.size := ⟨_, rfl⟩
  have HL := Lib.hid hL
  rw [← hL] at hl hn
  clear hL
  have h1 : 0 < L.length := by omega
  have h2 : L.length ≤ 601 := by omega
  by_cases c1 : n < 0
  · clear hn
    go_enter Tryd.func13, Tryd.ntmps13
    go_wp2_with fail
    refine (rlines _ s hs).mono ?_
    rw [← HL.out]
    rintro e w1 ⟨v, rfl, ho, hb⟩
    obtain ⟨g, cap, rfl, _, _, _⟩ := own_form ho h1
    have HB := Lib.hid hb
    clear hb ho
    go_wp2
    go_ret2
    exact ⟨rfl, HB.out⟩
  · have c2 : (L.length : Int) ≤ n := by omega
    clear hn
    go_enter Tryd.func13, Tryd.ntmps13
    go_wp2_with fail
    refine (rlines _ s hs).mono ?_
    rw [← HL.out]
    rintro e w1 ⟨v, rfl, ho, hb⟩
    obtain ⟨g, cap, rfl, _, _, _⟩ := own_form ho h1
    have HB := Lib.hid hb
    clear hb ho
    go_wp2
    go_ret2
    exact ⟨rfl, HB.out⟩

set_option maxHeartbeats 2000000 in
set_option maxRecDepth 100000 in
theorem rline_ok (w : World) (s : ByteArray) (n : Nat) (hs : s.size ≤ 600) (hn : n < (starts s.data.toList s.size).length) :
    Calls Tryd.prog 13 #[.string s, .int .i64 (n : Int)] w fun e W' => e = .returned (.tuple #[.string (s.extract (lineAt s.data.toList n) (lineEnd s.data.toList n)), .int .i64 0]) ∧ Below w.heap.size w W' := by
  have hT : s.data.toList.length = s.size := (Lib.size_eq s).symm
  have hl := starts_len s.data.toList s.size
  have hup := starts_up s.data.toList s.size
  have hle := starts_le s.data.toList s.size
  unfold lineEnd lineAt
  rw [hT]
  obtain ⟨L, hL⟩ : ∃ L, L = starts s.data.toList s.size := ⟨_, rfl⟩
  have HL := Lib.hid hL
  rw [← hL] at hl hn hup hle
  rw [← hL]
  clear hL hT
  have h1 : 0 < L.length := by omega
  have h2 : L.length ≤ 601 := by omega
  have hmem : ∀ j, j < L.length → L.getD j 0 ≤ s.size := fun j hj => hle _ (by rw [List.getD_eq_getElem?_getD, List.getElem?_eq_getElem hj]; exact List.getElem_mem hj)
  obtain ⟨a, ha⟩ : ∃ a, a = L.getD n 0 := ⟨_, rfl⟩
  have ha1 : a ≤ s.size := by rw [ha]; exact hmem n hn
  obtain ⟨n1, hn1⟩ : ∃ n1 : Nat, (n : Int) + 1 = (n1 : Int) := ⟨n + 1, by omega⟩
  have hn1' : n1 = n + 1 := by omega
  rw [← hn1', ← ha]
  have c0 : ¬ (n : Int) < 0 := by omega
  have c1 : ¬ (L.length : Int) ≤ (n : Int) := by omega
  have c1' : ¬ L.length ≤ n := by omega
  by_cases hlast : n1 < L.length
  · rw [if_pos hlast]
    obtain ⟨b, hb⟩ : ∃ b, b = L.getD n1 0 := ⟨_, rfl⟩
    have hb1 : b ≤ s.size := by rw [hb]; exact hmem n1 hlast
    have hab : a < b := by rw [ha, hb]; exact hup n n1 (by omega) hlast
    obtain ⟨e, he⟩ : ∃ e : Nat, (b : Int) - 1 = (e : Int) := ⟨b - 1, by omega⟩
    have he' : b - 1 = e := by omega
    have hae : a ≤ e := by omega
    have hes : e ≤ s.size := by omega
    rw [← hb, he']
    have c2 : (n1 : Int) < (L.length : Int) := by omega
    have HA := Lib.hid ha
    have HBB := Lib.hid hb
    have HM := Lib.hid hn1'
    clear ha hb hn1' hl hup hle hmem he' hab
    go_enter Tryd.func13, Tryd.ntmps13
    go_wp2_with fail
    refine (rlines _ s hs).mono ?_
    rw [← HL.out]
    rintro e w1 ⟨v, rfl, ho, hb⟩
    obtain ⟨g, cap, rfl, _, _, hcell⟩ := own_form ho h1
    have d0 := hcell n hn
    have d1 := hcell n1 hlast
    rw [← HA.out] at d0
    rw [← HBB.out] at d1
    have HB := Lib.hid hb
    clear hb ho hcell
    go_wp2
    go_ret2
    exact ⟨rfl, HB.out⟩
  · rw [if_neg hlast]
    have c2 : ¬ (n1 : Int) < (L.length : Int) := by omega
    have HA := Lib.hid ha
    have HM := Lib.hid hn1'
    clear ha hn1' hl hup hle hmem
    go_enter Tryd.func13, Tryd.ntmps13
    go_wp2_with fail
    refine (rlines _ s hs).mono ?_
    rw [← HL.out]
    rintro e w1 ⟨v, rfl, ho, hb⟩
    obtain ⟨g, cap, rfl, _, _, hcell⟩ := own_form ho h1
    have d0 := hcell n hn
    rw [← HA.out] at d0
    have HB := Lib.hid hb
    clear hb ho hcell
    go_wp2
    go_ret2
    exact ⟨rfl, HB.out⟩
end Go.Proofs.YtaahhilnkffdlaaDoor
