/- The program: the forms of all kinds, and whether a node is of its own. -/
import Derived.Test.YtbegplfijjbpcaaDoorNoA
import Derived.Maps.Own
import Derived.Laws.StructEq
namespace Go.Proofs.YtbegplfijjbpcaaDoor.No
open Go Go.RowKit Go.Shelf
attribute [local go_sem] Oper.semAt_some

/-- The map's entries, the first k of them. -/
def entF (k : Nat) : Array MapEntry := (#[⟨.int .i64 1, .agg #[.int .i64 0, .bool true], 0⟩, ⟨.int .i64 2, .agg #[.int .i64 0, .bool true], 1⟩, ⟨.int .i64 3, .agg #[.int .i64 0, .bool true], 2⟩, ⟨.int .i64 4, .agg #[.int .i64 0, .bool true], 3⟩, ⟨.int .i64 9, .agg #[.int .i64 0, .bool true], 4⟩, ⟨.int .i64 14, .agg #[.int .i64 0, .bool true], 5⟩, ⟨.int .i64 13, .agg #[.int .i64 0, .bool true], 6⟩, ⟨.int .i64 5, .agg #[.int .i64 1, .bool false], 7⟩, ⟨.int .i64 8, .agg #[.int .i64 1, .bool true], 8⟩, ⟨.int .i64 10, .agg #[.int .i64 1, .bool true], 9⟩, ⟨.int .i64 6, .agg #[.int .i64 2, .bool false], 10⟩, ⟨.int .i64 12, .agg #[.int .i64 2, .bool false], 11⟩, ⟨.int .i64 7, .agg #[.int .i64 3, .bool false], 12⟩, ⟨.int .i64 11, .agg #[.int .i64 (-1), .bool false], 13⟩] : Array MapEntry).extract 0 k
theorem heapF (w : World) (o o' : Obj) : { (w.alloc o) with heap := (w.alloc o).heap.setIfInBounds w.heap.size o' } = w.alloc o' := by
  simp only [World.alloc]
  congr 1
  apply Array.ext'
  simp [Array.setIfInBounds, Array.toList_push]
theorem checkF (W : World) (e : Bool) (x : Int) : (Instr.checkKey e 10000 3 (.int .i64 x)).run Tryd.prog W = .ok () W :=
  Go.MapKept.run_checkKey (n := 9999) Tryd.underlying3 (by first | exact rfl | exact trivial | exact ⟨_, rfl⟩ | simp [Go.MapKept.IsKey]) e
theorem findF (W : World) (x : Int) (es : List MapEntry) (r : Option (Nat × Value)) (h : Instr.findNow (.int .i64) (.int .i64 x) es 0 = some r) : (Instr.findKey 3 (.int .i64 x) es).run Tryd.prog W = .ok r W := by
  simp [Instr.findKey, run_underlying Tryd.underlying3, h, Result.andThen]
theorem insF (w : World) (k : Nat) (x y : Int) (b : Bool) (hf : Instr.findNow (.int .i64) (.int .i64 x) (entF k).toList 0 = some none) (hp : (entF k).push ⟨.int .i64 x, .agg #[.int .i64 y, .bool b], k⟩ = entF (k + 1)) :
    (Instr.mapUpdate 71 (.map (some w.heap.size)) (.int .i64 x) (.agg #[.int .i64 y, .bool b])).run Tryd.prog (w.alloc (.map (entF k) k)) = .ok () (w.alloc (.map (entF (k + 1)) (k + 1))) := by
  have hb : (w.alloc (.map (entF k) k)).heap[w.heap.size]? = some (.map (entF k) k) := World.alloc_heap_new w _
  have h1 := findF (w.alloc (.map (entF k) k)) x (entF k).toList none hf
  simp [Instr.mapUpdate, run_underlying Tryd.underlying71, Go.MapKept.run_getObj_map hb, checkF, h1, Go.MapKept.run_setObj_map _ hb, Result.andThen, hp]
  exact heapF w _ _
/-- THE MAP LIES. -/
def FormsAt (W : World) (b : Nat) : Prop := W.heap[b]? = some (.map (entF 14) 14)
theorem FormsAt.below {W W' : World} {b : Nat} (h : FormsAt W b) (hb : Below W.heap.size W W') : FormsAt W' b := (hb.block b (Array.getElem?_eq_some_iff.1 h).1).trans h
/-- What it answers of a kind: how many kids, whether with a text, whether there is such a kind. -/
def wantA (k : Int) : Int × Bool × Bool :=
  if k = 1 then (0, true, true) else
  if k = 2 then (0, true, true) else
  if k = 3 then (0, true, true) else
  if k = 4 then (0, true, true) else
  if k = 9 then (0, true, true) else
  if k = 14 then (0, true, true) else
  if k = 13 then (0, true, true) else
  if k = 5 then (1, false, true) else
  if k = 8 then (1, true, true) else
  if k = 10 then (1, true, true) else
  if k = 6 then (2, false, true) else
  if k = 12 then (2, false, true) else
  if k = 7 then (3, false, true) else
  if k = 11 then ((-1), false, true) else
  (0, false, false)
theorem lookF (W : World) (b : Nat) (k : Int) (hb : FormsAt W b) :
    (Instr.lookup 71 (.map (some b)) (.int .i64 k) true).run Tryd.prog W = .ok (.tuple #[.agg #[.int .i64 (wantA k).1, .bool (wantA k).2.1], .bool (wantA k).2.2]) W := by
  have hs : ∀ (x y : Int) (c : Bool) (j : Nat), Instr.findNow (.int .i64) (.int .i64 x) (entF 14).toList 0 = some (some (j, .agg #[.int .i64 y, .bool c])) → wantA x = (y, c, true) →
      (Instr.lookup 71 (.map (some b)) (.int .i64 x) true).run Tryd.prog W = .ok (.tuple #[.agg #[.int .i64 (wantA x).1, .bool (wantA x).2.1], .bool (wantA x).2.2]) W := fun x y c j hf hw => by
    have h1 := findF W x (entF 14).toList _ hf
    rw [hw]
    simp [Instr.lookup, run_underlying Tryd.underlying71, Go.MapKept.run_getObj_map hb, checkF, h1, Result.andThen]
  have hk14 : k = 1 ∨ k = 2 ∨ k = 3 ∨ k = 4 ∨ k = 5 ∨ k = 6 ∨ k = 7 ∨ k = 8 ∨ k = 9 ∨ k = 10 ∨ k = 11 ∨ k = 12 ∨ k = 13 ∨ k = 14 ∨ (¬ k = 1 ∧ ¬ k = 2 ∧ ¬ k = 3 ∧ ¬ k = 4 ∧ ¬ k = 5 ∧ ¬ k = 6 ∧ ¬ k = 7 ∧ ¬ k = 8 ∧ ¬ k = 9 ∧ ¬ k = 10 ∧ ¬ k = 11 ∧ ¬ k = 12 ∧ ¬ k = 13 ∧ ¬ k = 14) := by omega
  obtain rfl | rfl | rfl | rfl | rfl | rfl | rfl | rfl | rfl | rfl | rfl | rfl | rfl | rfl | hno := hk14
  · exact hs 1 0 true 0 rfl rfl
  · exact hs 2 0 true 1 rfl rfl
  · exact hs 3 0 true 2 rfl rfl
  · exact hs 4 0 true 3 rfl rfl
  · exact hs 5 1 false 7 rfl rfl
  · exact hs 6 2 false 10 rfl rfl
  · exact hs 7 3 false 12 rfl rfl
  · exact hs 8 1 true 8 rfl rfl
  · exact hs 9 0 true 4 rfl rfl
  · exact hs 10 1 true 9 rfl rfl
  · exact hs 11 (-1) false 13 rfl rfl
  · exact hs 12 2 false 11 rfl rfl
  · exact hs 13 0 true 6 rfl rfl
  · exact hs 14 0 true 5 rfl rfl
  · have hf : Instr.findNow (.int .i64) (.int .i64 k) (entF 14).toList 0 = some none := by
      obtain ⟨n1, n2, n3, n4, n5, n6, n7, n8, n9, n10, n11, n12, n13, n14⟩ := hno
      have e1 : (k == 1) = false := by simpa using n1
      have e2 : (k == 2) = false := by simpa using n2
      have e3 : (k == 3) = false := by simpa using n3
      have e4 : (k == 4) = false := by simpa using n4
      have e5 : (k == 5) = false := by simpa using n5
      have e6 : (k == 6) = false := by simpa using n6
      have e7 : (k == 7) = false := by simpa using n7
      have e8 : (k == 8) = false := by simpa using n8
      have e9 : (k == 9) = false := by simpa using n9
      have e10 : (k == 10) = false := by simpa using n10
      have e11 : (k == 11) = false := by simpa using n11
      have e12 : (k == 12) = false := by simpa using n12
      have e13 : (k == 13) = false := by simpa using n13
      have e14 : (k == 14) = false := by simpa using n14
      simp [entF, Instr.findNow, Instr.sameNow, e1, e2, e3, e4, e5, e6, e7, e8, e9, e10, e11, e12, e13, e14]
    have hw : wantA k = (0, false, false) := by
      obtain ⟨n1, n2, n3, n4, n5, n6, n7, n8, n9, n10, n11, n12, n13, n14⟩ := hno
      simp [wantA, n1, n2, n3, n4, n5, n6, n7, n8, n9, n10, n11, n12, n13, n14]
    have h1 := findF W k (entF 14).toList _ hf
    rw [hw]
    simp [Instr.lookup, run_underlying Tryd.underlying71, Go.MapKept.run_getObj_map hb, checkF, h1, Result.andThen, Tryd.zeroValue91]
/-- A node is of its kind's form. -/
theorem formB_want (x : Nd) : formB x = ((wantA x.kind).2.2 && if (wantA x.kind).1 = -1 ∧ 0 < x.kids.length then (!(wantA x.kind).2.1) == decide (x.text = []) else decide ((x.kids.length : Int) = (wantA x.kind).1) && ((!(wantA x.kind).2.1) == decide (x.text = []))) := by
  obtain ⟨k, t, A⟩ := x
  have hk14 : k = 1 ∨ k = 2 ∨ k = 3 ∨ k = 4 ∨ k = 5 ∨ k = 6 ∨ k = 7 ∨ k = 8 ∨ k = 9 ∨ k = 10 ∨ k = 11 ∨ k = 12 ∨ k = 13 ∨ k = 14 ∨ (¬ k = 1 ∧ ¬ k = 2 ∧ ¬ k = 3 ∧ ¬ k = 4 ∧ ¬ k = 5 ∧ ¬ k = 6 ∧ ¬ k = 7 ∧ ¬ k = 8 ∧ ¬ k = 9 ∧ ¬ k = 10 ∧ ¬ k = 11 ∧ ¬ k = 12 ∧ ¬ k = 13 ∧ ¬ k = 14) := by omega
  obtain rfl | rfl | rfl | rfl | rfl | rfl | rfl | rfl | rfl | rfl | rfl | rfl | rfl | rfl | hno := hk14
  all_goals
    try simp only [formB, wantA]
    try (by_cases ht : t = [] <;> rcases (show A.length = 0 ∨ A.length = 1 ∨ A.length = 2 ∨ A.length = 3 ∨ 3 < A.length by omega) with h | h | h | h | h <;> (try simp [ht, h]) <;> (try omega))
  all_goals
    obtain ⟨n1, n2, n3, n4, n5, n6, n7, n8, n9, n10, n11, n12, n13, n14⟩ := hno
    simp [n1, n2, n3, n4, n5, n6, n7, n8, n9, n10, n11, n12, n13, n14]

set_option maxRecDepth 100000 in
set_option maxHeartbeats 4000000 in
/-- forms(). -/
theorem forms_c (w : World) :
    Calls Tryd.prog 44 #[] w fun e W' => ∃ m, e = .returned (.map (some m)) ∧ FormsAt W' m ∧ w.heap.size ≤ m ∧ Below w.heap.size w W' := by
  obtain ⟨W2, hW2⟩ : ∃ W, W = (w.alloc (.cells #[.int .i64 0, .bool true] 91)).alloc (.cells #[.int .i64 1, .bool false] 91) := ⟨_, rfl⟩
  have hmm : (Instr.makeMap 71 none).run Tryd.prog ((w.alloc (.cells #[.int .i64 0, .bool true] 91)).alloc (.cells #[.int .i64 1, .bool false] 91)) = .ok (.map (some W2.heap.size)) (W2.alloc (.map (entF 0) 0)) := by rw [← hW2]; exact run_makeMap _ W2
  have i0 := insF W2 0 1 0 true rfl rfl
  have i1 := insF W2 1 2 0 true rfl rfl
  have i2 := insF W2 2 3 0 true rfl rfl
  have i3 := insF W2 3 4 0 true rfl rfl
  have i4 := insF W2 4 9 0 true rfl rfl
  have i5 := insF W2 5 14 0 true rfl rfl
  have i6 := insF W2 6 13 0 true rfl rfl
  have i7 := insF W2 7 5 1 false rfl rfl
  have i8 := insF W2 8 8 1 true rfl rfl
  have i9 := insF W2 9 10 1 true rfl rfl
  have i10 := insF W2 10 6 2 false rfl rfl
  have i11 := insF W2 11 12 2 false rfl rfl
  have i12 := insF W2 12 7 3 false rfl rfl
  have i13 := insF W2 13 11 (-1) false rfl rfl
  simp only [Nat.reduceAdd] at i0 i1 i2 i3 i4 i5 i6 i7 i8 i9 i10 i11 i12 i13
  have l1 : ∀ k, (W2.alloc (.map (entF k) k)).cell? ⟨w.heap.size, 0, none⟩ = some (.int .i64 0) ∧ (W2.alloc (.map (entF k) k)).cell? ⟨w.heap.size, 1, none⟩ = some (.bool true) ∧ (W2.alloc (.map (entF k) k)).cell? ⟨w.heap.size + 1, 0, none⟩ = some (.int .i64 1) ∧ (W2.alloc (.map (entF k) k)).cell? ⟨w.heap.size + 1, 1, none⟩ = some (.bool false) := fun k => by
    have r1 : Row (W2.alloc (.map (entF k) k)) w.heap.size 91 #[.int .i64 0, .bool true] := by rw [hW2]; exact ((Row.new w _ _).alloc _).alloc _
    have r2 : Row (W2.alloc (.map (entF k) k)) (w.heap.size + 1) 91 #[.int .i64 1, .bool false] := by rw [hW2]; exact (Row.at _ _ _ _ (by simp)).alloc _
    exact ⟨r1.cell 0, r1.cell 1, r2.cell 0, r2.cell 1⟩
  obtain ⟨a0, b0, c0, d0⟩ := l1 0
  obtain ⟨a1, b1, c1, d1⟩ := l1 1
  obtain ⟨a2, b2, c2, d2⟩ := l1 2
  obtain ⟨a3, b3, c3, d3⟩ := l1 3
  obtain ⟨a4, b4, c4, d4⟩ := l1 4
  obtain ⟨a5, b5, c5, d5⟩ := l1 5
  obtain ⟨a6, b6, c6, d6⟩ := l1 6
  obtain ⟨a7, b7, c7, d7⟩ := l1 7
  obtain ⟨a8, b8, c8, d8⟩ := l1 8
  obtain ⟨a9, b9, c9, d9⟩ := l1 9
  obtain ⟨a10, b10, c10, d10⟩ := l1 10
  obtain ⟨a11, b11, c11, d11⟩ := l1 11
  obtain ⟨a12, b12, c12, d12⟩ := l1 12
  obtain ⟨a13, b13, c13, d13⟩ := l1 13
  have HF : Hid (FormsAt (W2.alloc (.map (entF 14) 14)) W2.heap.size ∧ w.heap.size ≤ W2.heap.size ∧ Below w.heap.size w (W2.alloc (.map (entF 14) 14))) := Lib.hid (by
    refine ⟨World.alloc_heap_new W2 _, by rw [hW2]; simp; omega, ?_⟩
    have h : Below w.heap.size w W2 := by rw [hW2]; exact ((Below.refl _ w).alloc (Nat.le_refl _) _).alloc (by simp) _
    exact h.alloc (by rw [hW2]; simp; omega) _)
  clear l1 hW2
  go_enter Tryd.func44, Tryd.ntmps44
  go_wp2
  go_ret
  exact ⟨_, rfl, HF.out.1, HF.out.2.1, HF.out.2.2⟩

set_option maxRecDepth 100000 in
set_option maxHeartbeats 8000000 in
/-- fits(x, known). -/
theorem fits_c (a : Nd) (ka : Value) (m : Nat) (w : World) (hA : KL w ka a.kids) (hM : FormsAt w m) :
    Calls Tryd.prog 47 #[.agg #[.int .i64 a.kind, .string (bs a.text), ka], .map (some m)] w fun e W' => e = .returned (.bool (formB a)) ∧ Below w.heap.size w W' := by
  have ht : (bs a.text).toList.isEmpty = decide (a.text = []) := by
    rw [ByteArray.toList_eq, bs_list]
    cases a.text <;> simp
  have ht2 : ((bs a.text).toList == []) = decide (a.text = []) := by
    rw [ByteArray.toList_eq, bs_list]
    cases a.text <;> simp
  obtain ⟨a1, c1, rfl, hl1, hl2⟩ := hA.form
  unfold maxLen at hl2
  have hlt := (Array.getElem?_eq_some_iff.1 hM).1
  have hLK : ∀ W, Below w.heap.size w W → (Instr.lookup 71 (.map (some m)) (.int .i64 a.kind) true).run Tryd.prog W = .ok (.tuple #[.agg #[.int .i64 (wantA a.kind).1, .bool (wantA a.kind).2.1], .bool (wantA a.kind).2.2]) W := fun W hW => lookF W m a.kind ((hW.block m hlt).trans hM)
  obtain ⟨R, hR⟩ : ∃ R, R = formB a := ⟨_, rfl⟩
  rw [← hR]
  rw [formB_want] at hR
  obtain ⟨n, hn⟩ : ∃ n, n = a.kids.length := ⟨_, rfl⟩
  rw [← hn] at hl1 hR ⊢
  obtain ⟨d, hd⟩ : ∃ d, d = decide (a.text = []) := ⟨_, rfl⟩
  rw [← hd] at ht ht2 hR
  obtain ⟨s, hs⟩ : ∃ s, s = bs a.text := ⟨_, rfl⟩
  rw [← hs] at ht ht2 ⊢
  obtain ⟨k, hk⟩ : ∃ k, k = a.kind := ⟨_, rfl⟩
  rw [← hk] at hLK hR ⊢
  obtain ⟨wk, hwk⟩ : ∃ x, x = (wantA k).1 := ⟨_, rfl⟩
  obtain ⟨wb, hwb⟩ : ∃ x, x = (wantA k).2.1 := ⟨_, rfl⟩
  obtain ⟨ok, hok⟩ : ∃ x, x = (wantA k).2.2 := ⟨_, rfl⟩
  rw [← hwk, ← hwb, ← hok] at hLK hR
  have HR := Lib.hid hR
  have e1 := hLK (w.alloc (.cells #[.int .i64 k, .string s, .slice a1 n c1] 42)) ((Below.refl _ w).alloc (Nat.le_refl _) _)
  have hB1 : ∀ a b c, Below w.heap.size w (((w.alloc a).alloc b).alloc c) := fun a b c => (((Below.refl _ w).alloc (Nat.le_refl _) _).alloc (by simp) _).alloc (by simp; omega) _
  have HB1 := Lib.hid hB1
  clear hA hM hn hd hs hk hwk hwb hok hlt hLK hB1 hR
  by_cases hq : wk = -1
  · subst hq
    by_cases h0 : 0 < n
    · have g1 : (0 : Int) < (n : Int) := by omega
      cases ok with
      | false =>
        go_enter Tryd.func47, Tryd.ntmps47
        go_wp2
        go_ret
        exact ⟨by rw [HR.out]; simp [h0], HB1.out _ _ _⟩
      | true =>
        cases wb <;> cases d
        all_goals
          go_enter Tryd.func47, Tryd.ntmps47
          go_wp2
          go_ret
          exact ⟨by rw [HR.out]; simp [h0], HB1.out _ _ _⟩
    · obtain rfl : n = 0 := by omega
      cases ok with
      | false =>
        go_enter Tryd.func47, Tryd.ntmps47
        go_wp2
        go_ret
        exact ⟨by rw [HR.out]; simp, HB1.out _ _ _⟩
      | true =>
        cases wb <;> cases d
        all_goals
          go_enter Tryd.func47, Tryd.ntmps47
          go_wp2
          go_ret
          exact ⟨by rw [HR.out]; simp, HB1.out _ _ _⟩
  · have g1 : (wk == -1) = false := by simpa using hq
    by_cases h0 : (n : Int) = wk
    · subst h0
      cases ok with
      | false =>
        go_enter Tryd.func47, Tryd.ntmps47
        go_wp2
        go_ret
        exact ⟨by rw [HR.out]; simp [hq], HB1.out _ _ _⟩
      | true =>
        cases wb <;> cases d
        all_goals
          go_enter Tryd.func47, Tryd.ntmps47
          go_wp2
          go_ret
          exact ⟨by rw [HR.out]; simp [hq], HB1.out _ _ _⟩
    · have g2 : ((n : Int) == wk) = false := by simpa using h0
      cases ok
      all_goals
        go_enter  Tryd.func47, Tryd.ntmps47
        go_wp2
        go_ret
        exact ⟨by rw [HR.out]; simp [hq, h0], HB1.out _ _ _⟩
end Go.Proofs.YtbegplfijjbpcaaDoor.No
