/- What is wrong: the three sentinels, their numbers; room, span. -/
import Derived.Test.YtajbcaggpfopnaaDoorIs
import Derived.Test.YtajbcaggpfopnaaDoorCompact
import Derived.Outline
namespace Go.Proofs.YtajbcaggpfopnaaDoor
open Go Go.RowKit

/-- THE SENTINELS LIE BELOW n₀, each its own. -/
def Sent (n₀ : Nat) (w : World) (aF aN aR : Addr) : Prop :=
  (w.cell? ⟨0, 0, none⟩ = some (.iface 85 (.pointer (some aF))) ∧ w.cell? ⟨1, 0, none⟩ = some (.iface 85 (.pointer (some aN))) ∧ w.cell? ⟨2, 0, none⟩ = some (.iface 85 (.pointer (some aR)))) ∧
  (aF ≠ aN ∧ aF ≠ aR ∧ aN ≠ aR) ∧
  ((∃ c t, w.heap[aF.block]? = some (.cells c t (0, 0))) ∧ (∃ c t, w.heap[aN.block]? = some (.cells c t (0, 0))) ∧ (∃ c t, w.heap[aR.block]? = some (.cells c t (0, 0)))) ∧
  (3 ≤ n₀ ∧ aF.block < n₀ ∧ aN.block < n₀ ∧ aR.block < n₀)
theorem Sent.below {n₀ n₁ : Nat} {w w' : World} {aF aN aR : Addr} (h : Sent n₀ w aF aN aR) (hb : Below n₁ w w') (hn : n₀ ≤ n₁) : Sent n₀ w' aF aN aR := by
  obtain ⟨⟨c1, c2, c3⟩, hd, ⟨⟨x1, t1, b1⟩, ⟨x2, t2, b2⟩, ⟨x3, t3, b3⟩⟩, h0, h1, h2, h3⟩ := h
  refine ⟨⟨?_, ?_, ?_⟩, hd, ⟨⟨x1, t1, ?_⟩, ⟨x2, t2, ?_⟩, ⟨x3, t3, ?_⟩⟩, h0, h1, h2, h3⟩
  · rw [hb.cell (p := ⟨0, 0, none⟩) (by dsimp only; omega)]; exact c1
  · rw [hb.cell (p := ⟨1, 0, none⟩) (by dsimp only; omega)]; exact c2
  · rw [hb.cell (p := ⟨2, 0, none⟩) (by dsimp only; omega)]; exact c3
  · rw [hb.block _ (by omega)]; exact b1
  · rw [hb.block _ (by omega)]; exact b2
  · rw [hb.block _ (by omega)]; exact b3

/-- An error value of the sentinels' type. -/
abbrev errV (a : Addr) : Value := .iface 85 (.pointer (some a))

set_option maxRecDepth 100000 in
theorem number_nil (n₀ : Nat) (w : World) (aF aN aR : Addr) (h : Sent n₀ w aF aN aR) :
    Calls Tryd.prog 23 #[errV aN] w fun e w' => e = .returned (.int .i64 1) ∧ w = w' := by
  obtain ⟨⟨c1, c2, c3⟩, ⟨d1, d2, d3⟩, ⟨⟨x1, t1, b1⟩, ⟨x2, t2, b2⟩, ⟨x3, t3, b3⟩⟩, h0, h1, h2, h3⟩ := h
  clear d1 d2 d3 h1 h2 h3
  go_enter Tryd.func23, Tryd.ntmps23
  go_wp2_with (go_at_call 31; refine (is_same aN _).mono ?_; rintro e w' ⟨rfl, rfl⟩)
  go_ret
  exact ⟨rfl, rfl⟩

set_option maxRecDepth 100000 in
theorem number_range (n₀ : Nat) (w : World) (aF aN aR : Addr) (h : Sent n₀ w aF aN aR) :
    Calls Tryd.prog 23 #[errV aR] w fun e w' => e = .returned (.int .i64 10) ∧ w = w' := by
  obtain ⟨⟨c1, c2, c3⟩, ⟨d1, d2, d3⟩, ⟨⟨x1, t1, b1⟩, ⟨x2, t2, b2⟩, ⟨x3, t3, b3⟩⟩, h0, h1, h2, h3⟩ := h
  have i1 := is_other aR aN x3 x2 t3 t2 w (fun e => d3 e.symm) b3 b2
  have I1 := Lib.hid i1
  clear i1 d1 d2 d3 h1 h2 h3 b1 b2 b3
  go_enter Tryd.func23, Tryd.ntmps23
  go_wp2_with fail
  refine I1.out.mono ?_
  rintro e w' ⟨rfl, rfl⟩
  go_wp2_with fail
  refine (is_same aR _).mono ?_
  rintro e w' ⟨rfl, rfl⟩
  go_wp2
  go_ret
  exact ⟨rfl, rfl⟩

set_option maxRecDepth 100000 in
theorem number_full (n₀ : Nat) (w : World) (aF aN aR : Addr) (h : Sent n₀ w aF aN aR) :
    Calls Tryd.prog 23 #[errV aF] w fun e w' => e = .returned (.int .i64 11) ∧ w = w' := by
  obtain ⟨⟨c1, c2, c3⟩, ⟨d1, d2, d3⟩, ⟨⟨x1, t1, b1⟩, ⟨x2, t2, b2⟩, ⟨x3, t3, b3⟩⟩, h0, h1, h2, h3⟩ := h
  have i1 := is_other aF aN x1 x2 t1 t2 w d1 b1 b2
  have i2 := is_other aF aR x1 x3 t1 t3 w d2 b1 b3
  have I1 := Lib.hid i1
  have I2 := Lib.hid i2
  clear i1 i2 d1 d2 d3 h1 h2 h3 b1 b2 b3
  go_enter Tryd.func23, Tryd.ntmps23
  go_wp2_with fail
  refine I1.out.mono ?_
  rintro e w' ⟨rfl, rfl⟩
  go_wp2_with fail
  refine I2.out.mono ?_
  rintro e w' ⟨rfl, rfl⟩
  go_wp2_with fail
  refine (is_same aF _).mono ?_
  rintro e w' ⟨rfl, rfl⟩
  go_wp2
  go_ret
  exact ⟨rfl, rfl⟩

set_option maxRecDepth 100000 in
/-- room(stay, s): nothing is wrong. -/
theorem room_ok (stay : Nat) (s : ByteArray) (w : World) (h0 : stay ≤ 4000) (h : s.size + stay ≤ 4000) :
    Calls Tryd.prog 22 #[.int .i64 (stay : Int), .string s] w fun e w' => e = .returned .nilIface ∧ w = w' := by
  have ht : ¬ ((4000 : Int) - (stay : Int) < (s.size : Int)) := by omega
  go_enter Tryd.func22, Tryd.ntmps22
  go_wp2
  go_ret
  exact ⟨rfl, rfl⟩
set_option maxRecDepth 100000 in
/-- room(stay, s): there would be too many bytes. -/
theorem room_full (n₀ : Nat) (aF aN aR : Addr) (stay : Nat) (s : ByteArray) (w : World) (hS : Sent n₀ w aF aN aR) (h0 : stay ≤ 4000) (h : 4000 < s.size + stay) :
    Calls Tryd.prog 22 #[.int .i64 (stay : Int), .string s] w fun e w' => e = .returned (errV aF) ∧ w = w' := by
  obtain ⟨⟨c1, c2, c3⟩, _⟩ := hS
  have ht : ((4000 : Int) - (stay : Int) < (s.size : Int)) := by omega
  go_enter Tryd.func22, Tryd.ntmps22
  go_wp2
  go_ret
  exact ⟨rfl, rfl⟩

/-- May n bytes be taken from a place on, of L? -/
def okSpan (L : Nat) (a m : Int) : Bool := decide (0 ≤ a ∧ a ≤ (L : Int) ∧ 0 ≤ m ∧ m ≤ (L : Int) - a)

set_option maxRecDepth 100000 in
theorem span_nil (n₀ : Nat) (aF aN aR : Addr) (w : World) (hS : Sent n₀ w aF aN aR) (a m : Int) :
    Calls Tryd.prog 26 #[.pointer none, .int .i64 a, .int .i64 m] w fun e w' => e = .returned (errV aN) ∧ w = w' := by
  obtain ⟨⟨c1, c2, c3⟩, _⟩ := hS
  go_enter Tryd.func26, Tryd.ntmps26
  go_wp2
  go_ret
  exact ⟨rfl, rfl⟩

set_option maxHeartbeats 1000000 in
set_option maxRecDepth 100000 in
/-- span, where all is right. -/
theorem span_ok (w : World) (B : Nat) (lb : Option Nat) (xs : List ByteArray) (hB : IsBuf w B lb xs) (a m : Int) (h : okSpan (text xs).length a m = true) :
    Calls Tryd.prog 26 #[.pointer (some ⟨B, 0, none⟩), .int .i64 a, .int .i64 m] w fun e w' => e = .returned .nilIface ∧ Below w.heap.size w w' := by
  unfold okSpan at h
  have h' := of_decide_eq_true h
  obtain ⟨h1, h2, h3, h4⟩ := h'
  have hl := hB.len.1
  have HB := Lib.hid hB
  clear hB h
  have t1 : decide (a < 0) = false := by simp; omega
  have t2 : decide (((text xs).length : Int) < a) = false := by simp; omega
  have t3 : decide (m < 0) = false := by simp; omega
  have t4 : decide (((text xs).length : Int) - a < m) = false := by simp; omega
  go_enter Tryd.func26, Tryd.ntmps26
  go_wp2_with fail
  refine (size_b _ B lb xs HB.out).mono ?_
  rintro e w1 ⟨rfl, hb1⟩
  have H1 := Lib.hid (HB.out.below hb1)
  have hs1 := hb1.size
  have HB1 := Lib.hid hb1
  clear hb1
  go_wp2_with fail
  refine (size_b _ B lb xs H1.out).mono ?_
  rintro e w2 ⟨rfl, hb2⟩
  have HB2 := Lib.hid hb2
  clear hb2
  go_wp2
  go_ret
  exact ⟨rfl, HB1.out.trans (HB2.out.mono hs1)⟩

set_option maxHeartbeats 2000000 in
set_option maxRecDepth 100000 in
/-- span, where there are no such bytes. -/
theorem span_range (n₀ : Nat) (aF aN aR : Addr) (w : World) (hS : Sent n₀ w aF aN aR) (hn : n₀ ≤ w.heap.size) (B : Nat) (lb : Option Nat) (xs : List ByteArray) (hB : IsBuf w B lb xs) (a m : Int) (h : okSpan (text xs).length a m = false) :
    Calls Tryd.prog 26 #[.pointer (some ⟨B, 0, none⟩), .int .i64 a, .int .i64 m] w fun e w' => e = .returned (errV aR) ∧ Below w.heap.size w w' := by
  unfold okSpan at h
  have h' := of_decide_eq_false h
  have hl := hB.len.1
  have HB := Lib.hid hB
  have HS := Lib.hid hS
  clear hB h hS
  by_cases p1 : a < 0
  · have t1 : decide (a < 0) = true := by simp; omega
    obtain ⟨⟨c1, c2, c3⟩, _⟩ := HS.out
    clear h'
    go_enter Tryd.func26, Tryd.ntmps26
    go_wp2
    go_ret
    exact ⟨rfl, Below.refl _ _⟩
  · have t1 : decide (a < 0) = false := by simp; omega
    by_cases p2 : ((text xs).length : Int) < a
    · have t2 : decide (((text xs).length : Int) < a) = true := by simp; omega
      clear h'
      go_enter Tryd.func26, Tryd.ntmps26
      go_wp2_with fail
      refine (size_b _ B lb xs HB.out).mono ?_
      rintro e w1 ⟨rfl, hb1⟩
      obtain ⟨⟨c1, c2, c3⟩, _⟩ := HS.out.below hb1 hn
      have HB1 := Lib.hid hb1
      clear hb1
      go_wp2
      go_ret
      exact ⟨rfl, HB1.out⟩
    · have t2 : decide (((text xs).length : Int) < a) = false := by simp; omega
      by_cases p3 : m < 0
      · have t3 : decide (m < 0) = true := by simp; omega
        clear h'
        go_enter Tryd.func26, Tryd.ntmps26
        go_wp2_with fail
        refine (size_b _ B lb xs HB.out).mono ?_
        rintro e w1 ⟨rfl, hb1⟩
        obtain ⟨⟨c1, c2, c3⟩, _⟩ := HS.out.below hb1 hn
        have HB1 := Lib.hid hb1
        clear hb1
        go_wp2
        go_ret
        exact ⟨rfl, HB1.out⟩
      · have t3 : decide (m < 0) = false := by simp; omega
        have p4 : ((text xs).length : Int) - a < m := by omega
        have t4 : decide (((text xs).length : Int) - a < m) = true := by simp; omega
        clear h'
        go_enter Tryd.func26, Tryd.ntmps26
        go_wp2_with fail
        refine (size_b _ B lb xs HB.out).mono ?_
        rintro e w1 ⟨rfl, hb1⟩
        have H1 := Lib.hid (HB.out.below hb1)
        have hs1 := hb1.size
        have HB1 := Lib.hid hb1
        clear hb1
        go_wp2_with fail
        refine (size_b _ B lb xs H1.out).mono ?_
        rintro e w2 ⟨rfl, hb2⟩
        obtain ⟨⟨c1, c2, c3⟩, _⟩ := HS.out.below (HB1.out.trans (hb2.mono hs1)) hn
        have HB2 := Lib.hid hb2
        clear hb2
        go_wp2
        go_ret
        exact ⟨rfl, HB1.out.trans (HB2.out.mono hs1)⟩
end Go.Proofs.YtajbcaggpfopnaaDoor
