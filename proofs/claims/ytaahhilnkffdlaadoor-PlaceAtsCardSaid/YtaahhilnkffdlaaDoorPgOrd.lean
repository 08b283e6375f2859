/- The comparisons that place's calls look by; what they tell, said of lines and rounds. -/
import Derived.Test.YtaahhilnkffdlaaDoorPgWL
namespace Go.Proofs.YtaahhilnkffdlaaDoor
open Go Go.RowKit

/-- A line's bytes. -/
def lineT (T : List UInt8) (k : Nat) : List UInt8 := (T.drop (lineAt T k)).take (lineEnd T k - lineAt T k)
theorem lineT_ext (s : ByteArray) (k a b : Nat) (ha : a = lineAt s.data.toList k) (hb : b = lineEnd s.data.toList k) : lineT s.data.toList k = (s.extract a b).data.toList := by
  rw [ByteArray.data_extract, Array.toList_extract]
  simp only [List.extract]
  rw [ha, hb]
  rfl
/-- How many rounds a line has. -/
noncomputable def rnds (T : List UInt8) (u : Int) : Nat := Classical.choose (rounds_of T u)
theorem rnds_end (T : List UInt8) (u : Int) : posK T u (rnds T u) = T.length := (Classical.choose_spec (rounds_of T u)).1
theorem rnds_lt (T : List UInt8) (u : Int) : ∀ q, q < rnds T u → posK T u q < T.length := (Classical.choose_spec (rounds_of T u)).2
theorem rnds_of {T : List UInt8} {u : Int} {R : Nat} (h1 : posK T u R = T.length) (h2 : ∀ q, q < R → posK T u q < T.length) : R = rnds T u := by
  rcases Nat.lt_trichotomy R (rnds T u) with h | h | h
  · have := rnds_lt T u R h; omega
  · exact h
  · have := h2 _ h; have := rnds_end T u; omega

theorem cmp_if (x y : Int) : Lib.compareInt x y = if x < y then -1 else if x = y then 0 else 1 := by
  unfold Lib.compareInt
  repeat' split
  all_goals first | rfl | omega

set_option maxRecDepth 100000 in
theorem ordAt_c (p c v : Int) (Bv : Nat) (W : World) (hv : W.cell? ⟨Bv, 0, none⟩ = some (.int .i64 v)) :
    Calls Tryd.prog 36 #[.agg #[.int .i64 p, .int .i64 c], .pointer (some ⟨Bv, 0, none⟩)] W fun e W' => e = .returned (.int .i64 (if p < v then -1 else if p = v then 0 else 1)) ∧ Below W.heap.size W W' := by
  have hb : Bv < W.heap.size := by
    rcases Nat.lt_or_ge Bv W.heap.size with h | h
    · exact h
    · simp [World.cell?, Array.getElem?_eq_none h] at hv
  have hc := fun W => Tryd.cmp_Compare_int p v W
  rw [cmp_if] at hc
  obtain ⟨o, ho⟩ : ∃ o : Int, o = if p < v then -1 else if p = v then 0 else 1 := ⟨_, rfl⟩
  rw [← ho] at hc ⊢
  have HC := Lib.hid hc
  clear hc ho
  go_enter Tryd.func36, Tryd.ntmps36
  go_wp2_with (go_at_call 29; refine (HC.out _).mono ?_; rintro e w' ⟨rfl, rfl⟩)
  go_ret
  exact ⟨rfl, (Below.refl _ _).alloc (Nat.le_refl _) _⟩
set_option maxRecDepth 100000 in
theorem ordCol_c (p c v : Int) (Bv : Nat) (W : World) (hv : W.cell? ⟨Bv, 0, none⟩ = some (.int .i64 v)) :
    Calls Tryd.prog 37 #[.agg #[.int .i64 p, .int .i64 c], .pointer (some ⟨Bv, 0, none⟩)] W fun e W' => e = .returned (.int .i64 (if c < v then -1 else if c = v then 0 else 1)) ∧ Below W.heap.size W W' := by
  have hb : Bv < W.heap.size := by
    rcases Nat.lt_or_ge Bv W.heap.size with h | h
    · exact h
    · simp [World.cell?, Array.getElem?_eq_none h] at hv
  have hc := fun W => Tryd.cmp_Compare_int c v W
  rw [cmp_if] at hc
  obtain ⟨o, ho⟩ : ∃ o : Int, o = if c < v then -1 else if c = v then 0 else 1 := ⟨_, rfl⟩
  rw [← ho] at hc ⊢
  have HC := Lib.hid hc
  clear hc ho
  go_enter Tryd.func37, Tryd.ntmps37
  go_wp2_with (go_at_call 29; refine (HC.out _).mono ?_; rintro e w' ⟨rfl, rfl⟩)
  go_ret
  exact ⟨rfl, (Below.refl _ _).alloc (Nat.le_refl _) _⟩
set_option maxRecDepth 100000 in
theorem ordEnd_c (p c v : Int) (Bv : Nat) (W : World) (hv : W.cell? ⟨Bv, 1, none⟩ = some (.int .i64 v)) :
    Calls Tryd.prog 28 #[.agg #[.int .i64 p, .int .i64 c], .pointer (some ⟨Bv, 0, none⟩)] W fun e W' => e = .returned (.int .i64 (if p < v then -1 else if p = v then 0 else 1)) ∧ Below W.heap.size W W' := by
  have hb : Bv < W.heap.size := by
    rcases Nat.lt_or_ge Bv W.heap.size with h | h
    · exact h
    · simp [World.cell?, Array.getElem?_eq_none h] at hv
  have hc := fun W => Tryd.cmp_Compare_int p v W
  rw [cmp_if] at hc
  obtain ⟨o, ho⟩ : ∃ o : Int, o = if p < v then -1 else if p = v then 0 else 1 := ⟨_, rfl⟩
  rw [← ho] at hc ⊢
  have HC := Lib.hid hc
  clear hc ho
  go_enter Tryd.func28, Tryd.ntmps28
  go_wp2_with (go_at_call 29; refine (HC.out _).mono ?_; rintro e w' ⟨rfl, rfl⟩)
  go_ret
  exact ⟨rfl, (Below.refl _ _).alloc (Nat.le_refl _) _⟩

theorem order_at (w : World) (Bv : Nat) (v : Int) (R a : Nat) (T : List UInt8) (u : Int) (hv : w.cell? ⟨Bv, 0, none⟩ = some (.int .i64 v)) (hb : Bv < w.heap.size) :
    Order w 36 #[.pointer (some ⟨Bv, 0, none⟩)] (fun r => ((a + posK T u r : Nat) : Int)) v R a T u :=
  ⟨Go.Proofs.enters_of Tryd.func36 (by kernel_rfl) rfl, fun r W _ hW => ordAt_c _ _ v Bv W ((hW.cell (p := ⟨Bv, 0, none⟩) hb).trans hv)⟩
theorem order_col (w : World) (Bv : Nat) (v : Int) (R a : Nat) (T : List UInt8) (u : Int) (hv : w.cell? ⟨Bv, 0, none⟩ = some (.int .i64 v)) (hb : Bv < w.heap.size) :
    Order w 37 #[.pointer (some ⟨Bv, 0, none⟩)] (fun r => ((colK T u r : Nat) : Int)) v R a T u :=
  ⟨Go.Proofs.enters_of Tryd.func37 (by kernel_rfl) rfl, fun r W _ hW => ordCol_c _ _ v Bv W ((hW.cell (p := ⟨Bv, 0, none⟩) hb).trans hv)⟩
theorem order_end (w : World) (Bv : Nat) (v : Int) (R a : Nat) (T : List UInt8) (u : Int) (hv : w.cell? ⟨Bv, 1, none⟩ = some (.int .i64 v)) (hb : Bv < w.heap.size) :
    Order w 28 #[.pointer (some ⟨Bv, 0, none⟩)] (fun r => ((a + posK T u r : Nat) : Int)) v R a T u :=
  ⟨Go.Proofs.enters_of Tryd.func28 (by kernel_rfl) rfl, fun r W _ hW => ordEnd_c _ _ v Bv W ((hW.cell (p := ⟨Bv, 1, none⟩) hb).trans hv)⟩

/-- The tables of the library and the type of errors lie where the program's start lays them. -/
def Ground (w : World) : Prop := Tabs w ∧ ErrT w ∧ 4 ≤ w.heap.size
theorem Ground.below {n : Nat} {w w' : World} (h : Ground w) (hb : Below n w w') (hn : 4 ≤ n) : Ground w' :=
  ⟨h.1.below hb (by omega) (by omega), h.2.1.below hb (by omega), Nat.le_trans h.2.2 hb.size⟩
end Go.Proofs.YtaahhilnkffdlaaDoor
