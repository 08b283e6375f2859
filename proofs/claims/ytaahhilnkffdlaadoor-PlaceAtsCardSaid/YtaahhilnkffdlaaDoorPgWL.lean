/- place.walkLine: the walker of a text and a unit, and the line of a number. -/
import Derived.Test.YtaahhilnkffdlaaDoorPgWalk
import Derived.Test.YtaahhilnkffdlaaDoorPgLine
import Derived.Laws.EntriesVeiled
namespace Go.Proofs.YtaahhilnkffdlaaDoor
open Go Go.RowKit

set_option maxHeartbeats 1000000 in
set_option maxRecDepth 100000 in
theorem walkLine_no (s : ByteArray) (n u : Int) (hu : isUnit u = false) (w : World) :
    Calls Tryd.prog 26 #[.string s, .int .i64 n, .int .i64 u] w fun e W' => e = .returned (.tuple #[.agg #[.string ⟨#[]⟩, .nilFunc, .nilFunc], .agg #[.int .i64 0, .int .i64 0], faultV 2 wordsU]) ∧ Below w.heap.size w W' := by
  have HW := fun w => Lib.hid (walk_no s u hu w)
  have hr6 : Row ((w.alloc (.cells #[.string ⟨#[]⟩, .nilFunc, .nilFunc] 54)).alloc (.cells #[.int .i64 0, .int .i64 0] 41)) w.heap.size 54 #[.string ⟨#[]⟩, .nilFunc, .nilFunc] := (Row.new _ _ _).alloc _
  have hr7 : Row ((w.alloc (.cells #[.string ⟨#[]⟩, .nilFunc, .nilFunc] 54)).alloc (.cells #[.int .i64 0, .int .i64 0] 41)) (w.heap.size + 1) 41 #[.int .i64 0, .int .i64 0] := Row.at _ _ _ _ (by simp)
  have hB : Below w.heap.size w ((w.alloc (.cells #[.string ⟨#[]⟩, .nilFunc, .nilFunc] 54)).alloc (.cells #[.int .i64 0, .int .i64 0] 41)) := ((Below.refl _ w).alloc (Nat.le_refl _) _).alloc (by simp) _
  have HR6 := Lib.hid hr6
  have HR7 := Lib.hid hr7
  have HB0 := Lib.hid hB
  clear hr6 hr7 hB
  clear hu
  go_enter Tryd.func26, Tryd.ntmps26
  go_wp2_with (go_at_call 34; refine (HW _).out.mono ?_; rintro e w1 ⟨rfl, hb1⟩; have hz1 : w.heap.size + 1 < w1.heap.size := (by have := hb1.size; simp at this; omega); have hz0 : w.heap.size < w1.heap.size := (by omega); have r6 := HR6.out.below hb1 HR6.out.lt; have r7 := HR7.out.below hb1 HR7.out.lt; have c60 := r6.cell 0; have c61 := r6.cell 1; have c62 := r6.cell 2; have c70 := r7.cell 0; have c71 := r7.cell 1; have f60 := r6.frozen 0; have f61 := r6.frozen 1; have f62 := r6.frozen 2; have f70 := r7.frozen 0; have f71 := r7.frozen 1; simp at c60 c61 c62 c70 c71; have HQ6 := Lib.hid r6; have HQ7 := Lib.hid r7; clear r6 r7; have HB1 := Lib.hid hb1; clear hb1)
  have g6 := ((((HQ6.out.set 0 (.string ⟨#[]⟩)).set 1 .nilFunc).set 2 .nilFunc).other (show w.heap.size ≠ w.heap.size + 1 by omega) (i := 0) (.int .i64 0)).other (show w.heap.size ≠ w.heap.size + 1 by omega) (i := 1) (.int .i64 0)
  have g7 := ((((HQ7.out.other (show w.heap.size + 1 ≠ w.heap.size by omega) (i := 0) (.string ⟨#[]⟩)).other (show w.heap.size + 1 ≠ w.heap.size by omega) (i := 1) .nilFunc).other (show w.heap.size + 1 ≠ w.heap.size by omega) (i := 2) .nilFunc).set 0 (.int .i64 0)).set 1 (.int .i64 0)
  have hf : Below w.heap.size w _ := (((((HB0.out.trans (HB1.out.mono (by simp; omega))).setCell (p := ⟨w.heap.size, 0, none⟩) (Nat.le_refl _) (.string ⟨#[]⟩)).setCell (p := ⟨w.heap.size, 1, none⟩) (Nat.le_refl _) .nilFunc).setCell (p := ⟨w.heap.size, 2, none⟩) (Nat.le_refl _) .nilFunc).setCell (p := ⟨w.heap.size + 1, 0, none⟩) (by dsimp only; omega) (.int .i64 0)).setCell (p := ⟨w.heap.size + 1, 1, none⟩) (by dsimp only; omega) (.int .i64 0)
  obtain ⟨V, hV⟩ : ∃ V, V = (((((w1.setCell ⟨w.heap.size, 0, none⟩ (.string ⟨#[]⟩)).setCell ⟨w.heap.size, 1, none⟩ .nilFunc).setCell ⟨w.heap.size, 2, none⟩ .nilFunc).setCell ⟨w.heap.size + 1, 0, none⟩ (.int .i64 0)).setCell ⟨w.heap.size + 1, 1, none⟩ (.int .i64 0)) := ⟨_, rfl⟩
  rw [← hV] at g6 g7 hf ⊢
  have d60 := (g6.alloc (.cells #[.string ⟨#[]⟩, .nilFunc, .nilFunc] 54)).cell 0
  have d61 := (g6.alloc (.cells #[.string ⟨#[]⟩, .nilFunc, .nilFunc] 54)).cell 1
  have d62 := (g6.alloc (.cells #[.string ⟨#[]⟩, .nilFunc, .nilFunc] 54)).cell 2
  have d70 := (g7.alloc (.cells #[.string ⟨#[]⟩, .nilFunc, .nilFunc] 54)).cell 0
  have d71 := (g7.alloc (.cells #[.string ⟨#[]⟩, .nilFunc, .nilFunc] 54)).cell 1
  have hVs := hf.size
  refine bodyPost_ret (v := .tuple #[.agg #[.string ⟨#[]⟩, .nilFunc, .nilFunc], .agg #[.int .i64 0, .int .i64 0], faultV 2 wordsU]) ?_ rfl ⟨rfl, hf.alloc hVs _⟩
  simp at d60 d61 d62 d70 d71
  simp [results, Tryd.f26, go_sem, d60, d61, d62, d70, d71]

set_option maxHeartbeats 1000000 in
set_option maxRecDepth 100000 in
theorem walkLine_any (s : ByteArray) (n a b : Int) (er : Value) (hl : ∀ w, Calls Tryd.prog 23 #[.agg #[.string s], .int .i64 n] w fun e W' => e = .returned (.tuple #[.agg #[.int .i64 a, .int .i64 b], er]) ∧ Below w.heap.size w W') (u : Int) (fs fw : Nat) (hu : UnitOf u fs fw) (w : World) :
    Calls Tryd.prog 26 #[.string s, .int .i64 n, .int .i64 u] w fun e W' => e = .returned (.tuple #[walkV s fs fw, .agg #[.int .i64 a, .int .i64 b], er]) ∧ Below w.heap.size w W' := by
  have HW := fun w => Lib.hid (walk_ok s u fs fw hu w)
  have HL := fun w => Lib.hid (hl w)
  have hr6 : Row ((w.alloc (.cells #[.string ⟨#[]⟩, .nilFunc, .nilFunc] 54)).alloc (.cells #[.int .i64 0, .int .i64 0] 41)) w.heap.size 54 #[.string ⟨#[]⟩, .nilFunc, .nilFunc] := (Row.new _ _ _).alloc _
  have hr7 : Row ((w.alloc (.cells #[.string ⟨#[]⟩, .nilFunc, .nilFunc] 54)).alloc (.cells #[.int .i64 0, .int .i64 0] 41)) (w.heap.size + 1) 41 #[.int .i64 0, .int .i64 0] := Row.at _ _ _ _ (by simp)
  have hB : Below w.heap.size w ((w.alloc (.cells #[.string ⟨#[]⟩, .nilFunc, .nilFunc] 54)).alloc (.cells #[.int .i64 0, .int .i64 0] 41)) := ((Below.refl _ w).alloc (Nat.le_refl _) _).alloc (by simp) _
  have HR6 := Lib.hid hr6
  have HR7 := Lib.hid hr7
  have HB0 := Lib.hid hB
  clear hr6 hr7 hB
  clear hu hl
  go_enter Tryd.func26, Tryd.ntmps26
  go_wp2_with (go_at_call 34; refine (HW _).out.mono ?_; rintro e w1 ⟨rfl, hb1⟩; have hz1 : w.heap.size + 1 < w1.heap.size := (by have := hb1.size; simp at this; omega); have hz0 : w.heap.size < w1.heap.size := (by omega); have r6 := HR6.out.below hb1 HR6.out.lt; have r7 := HR7.out.below hb1 HR7.out.lt; have c60 := r6.cell 0; have c61 := r6.cell 1; have c62 := r6.cell 2; have c70 := r7.cell 0; have c71 := r7.cell 1; have f60 := r6.frozen 0; have f61 := r6.frozen 1; have f62 := r6.frozen 2; have f70 := r7.frozen 0; have f71 := r7.frozen 1; simp at c60 c61 c62 c70 c71; have HQ6 := Lib.hid r6; have HQ7 := Lib.hid r7; clear r6 r7; have HB1 := Lib.hid hb1; clear hb1)
  refine (HL _).out.mono ?_
  rintro e w2 ⟨rfl, hb2⟩
  have hz2 : w1.heap.size + 1 ≤ w2.heap.size := (by have := hb2.size; rw [World.size_alloc] at this; exact this)
  have r6 := (HQ6.out.alloc (.cells #[.string s, .func (.func fs) #[] #[], .func (.func fw) #[] #[]] 54)).below hb2 (by rw [World.size_alloc]; omega)
  have r7 := (HQ7.out.alloc (.cells #[.string s, .func (.func fs) #[] #[], .func (.func fw) #[] #[]] 54)).below hb2 (by rw [World.size_alloc]; omega)
  have r9 := (Row.new w1 54 #[.string s, .func (.func fs) #[] #[], .func (.func fw) #[] #[]]).below hb2 (by rw [World.size_alloc]; omega)
  clear c60 c61 c62 c70 c71 f60 f61 f62 f70 f71
  have c60 := r6.cell 0
  have c61 := r6.cell 1
  have c62 := r6.cell 2
  have c70 := r7.cell 0
  have c71 := r7.cell 1
  have f60 := r6.frozen 0
  have f61 := r6.frozen 1
  have f62 := r6.frozen 2
  have f70 := r7.frozen 0
  have f71 := r7.frozen 1
  have c90 := r9.cell 0
  have c91 := r9.cell 1
  have c92 := r9.cell 2
  simp at c60 c61 c62 c70 c71 c90 c91 c92
  have HT6 := Lib.hid r6
  have HT7 := Lib.hid r7
  clear r6 r7 r9
  have HB2 := Lib.hid hb2
  clear hb2
  have hz3 : w.heap.size < w2.heap.size := (by omega)
  have hz4 : w.heap.size + 1 < w2.heap.size := (by omega)
  have hz5 : w1.heap.size < w2.heap.size := (by omega)
  go_wp2
  go_region
  all_goals go_wp2
  have g6 := ((((HT6.out.set 0 (.string s)).set 1 (.func (.func fs) #[] #[])).set 2 (.func (.func fw) #[] #[])).other (show w.heap.size ≠ w.heap.size + 1 by omega) (i := 0) (.int .i64 a)).other (show w.heap.size ≠ w.heap.size + 1 by omega) (i := 1) (.int .i64 b)
  have g7 := ((((HT7.out.other (show w.heap.size + 1 ≠ w.heap.size by omega) (i := 0) (.string s)).other (show w.heap.size + 1 ≠ w.heap.size by omega) (i := 1) (.func (.func fs) #[] #[])).other (show w.heap.size + 1 ≠ w.heap.size by omega) (i := 2) (.func (.func fw) #[] #[])).set 0 (.int .i64 a)).set 1 (.int .i64 b)
  have hf0 : Below w.heap.size w w2 := ((HB0.out.trans (HB1.out.mono (by simp; omega))).alloc (by omega) _).trans (HB2.out.mono (by rw [World.size_alloc]; omega))
  have hf : Below w.heap.size w _ := ((((hf0.setCell (p := ⟨w.heap.size, 0, none⟩) (Nat.le_refl _) (.string s)).setCell (p := ⟨w.heap.size, 1, none⟩) (Nat.le_refl _) (.func (.func fs) #[] #[])).setCell (p := ⟨w.heap.size, 2, none⟩) (Nat.le_refl _) (.func (.func fw) #[] #[])).setCell (p := ⟨w.heap.size + 1, 0, none⟩) (by dsimp only; omega) (.int .i64 a)).setCell (p := ⟨w.heap.size + 1, 1, none⟩) (by dsimp only; omega) (.int .i64 b)
  obtain ⟨V, hV⟩ : ∃ V, V = (((((w2.setCell ⟨w.heap.size, 0, none⟩ (.string s)).setCell ⟨w.heap.size, 1, none⟩ (.func (.func fs) #[] #[])).setCell ⟨w.heap.size, 2, none⟩ (.func (.func fw) #[] #[])).setCell ⟨w.heap.size + 1, 0, none⟩ (.int .i64 a)).setCell ⟨w.heap.size + 1, 1, none⟩ (.int .i64 b)) := ⟨_, rfl⟩
  rw [← hV] at g6 g7 hf ⊢
  have d60 := ((g6.alloc (.cells #[.int .i64 a, .int .i64 b] 41)).drew).cell 0
  have d61 := ((g6.alloc (.cells #[.int .i64 a, .int .i64 b] 41)).drew).cell 1
  have d62 := ((g6.alloc (.cells #[.int .i64 a, .int .i64 b] 41)).drew).cell 2
  have d70 := ((g7.alloc (.cells #[.int .i64 a, .int .i64 b] 41)).drew).cell 0
  have d71 := ((g7.alloc (.cells #[.int .i64 a, .int .i64 b] 41)).drew).cell 1
  have hVs := hf.size
  refine bodyPost_ret (v := .tuple #[walkV s fs fw, .agg #[.int .i64 a, .int .i64 b], er]) ?_ rfl ⟨rfl, (hf.alloc hVs _).drew⟩
  simp at d60 d61 d62 d70 d71
  simp [results, Tryd.f26, go_sem, d60, d61, d62, d70, d71]

theorem walkLine_ok (s : ByteArray) (hs : s.size ≤ 600) (k a b : Nat) (hk : k < nlines s.data.toList) (ha : a = lineAt s.data.toList k) (hb : b = lineEnd s.data.toList k) (u : Int) (fs fw : Nat) (hu : UnitOf u fs fw) (w : World) :
    Calls Tryd.prog 26 #[.string s, .int .i64 (k : Int), .int .i64 u] w fun e W' => e = .returned (.tuple #[walkV s fs fw, .agg #[.int .i64 (a : Int), .int .i64 (b : Int)], .nilIface]) ∧ Below w.heap.size w W' :=
  walkLine_any s k a b .nilIface (fun w => line_at s hs k a b hk ha hb w) u fs fw hu w
theorem walkLine_none (s : ByteArray) (hs : s.size ≤ 600) (n : Int) (hn : n < 0 ∨ (nlines s.data.toList : Int) ≤ n) (u : Int) (fs fw : Nat) (hu : UnitOf u fs fw) (w : World) :
    Calls Tryd.prog 26 #[.string s, .int .i64 n, .int .i64 u] w fun e W' => e = .returned (.tuple #[walkV s fs fw, .agg #[.int .i64 0, .int .i64 0], faultV 20 wordsP]) ∧ Below w.heap.size w W' :=
  walkLine_any s n 0 0 _ (fun w => line_none s hs n hn w) u fs fw hu w
end Go.Proofs.YtaahhilnkffdlaaDoor
