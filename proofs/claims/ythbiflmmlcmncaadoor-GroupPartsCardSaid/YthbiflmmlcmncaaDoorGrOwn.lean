/- own: tokens in new memory (by wip/gen/gr_own.py). -/
import Derived.Test.YthbiflmmlcmncaaDoorGyG
namespace Go.Proofs.YthbiflmmlcmncaaDoor.Ti
open Go Go.RowKit Go.Shelf
attribute [local go_sem] Oper.semAt_some

theorem gclone_c (s : ByteArray) (w : World) (hs : s.size ≤ 10000) :
    Calls Tryd.prog 45 #[.string s] w fun e W' => e = .returned (.string s) ∧ Below w.heap.size w W' := by
  have H := Lib.hid (Tryd.stringslite_Clone s w (by omega))
  go_enter Tryd.func45, Tryd.ntmps45
  go_wp2_with (go_at_call 64; refine H.out.mono ?_; rintro e w1 ⟨rfl, hb1⟩; have HB := Lib.hid hb1; clear hb1)
  go_ret
  exact ⟨rfl, HB.out⟩
/-- The first k tokens lie in the row g. -/
def Fl3 (W : World) (g n : Nat) (L : List Tk) (k : Nat) : Prop := ∃ cs : Array Value, Row W g 31 cs ∧ cs.size = n * 3 ∧ ∀ j t, j < k → L[j]? = some t → cs[j * 3]? = some (.int .i64 t.kind) ∧ cs[j * 3 + 1]? = some (.string (bs t.text)) ∧ cs[j * 3 + 2]? = some (.string (bs t.glyph))
theorem Fl3.kept {W W' : World} {g n : Nat} {L : List Tk} {k : Nat} (h : Fl3 W g n L k) (hg : W'.heap[g]? = W.heap[g]?) : Fl3 W' g n L k := by
  obtain ⟨cs, h1, h2, h3⟩ := h
  exact ⟨cs, hg.trans h1, h2, h3⟩
theorem Fl3.put {W : World} {g n : Nat} {L : List Tk} {k : Nat} {t : Tk} (h : Fl3 W g n L k) (hk : k < n) (ht : L[k]? = some t) :
    Fl3 (((W.setCell ⟨g, k * 3, none⟩ (.int .i64 t.kind)).setCell ⟨g, k * 3 + 1, none⟩ (.string (bs t.text))).setCell ⟨g, k * 3 + 2, none⟩ (.string (bs t.glyph))) g n L (k + 1) := by
  obtain ⟨cs, h1, h2, h3⟩ := h
  refine ⟨_, ((h1.set _ _).set _ _).set _ _, by simp [h2], fun j u hj hu => ?_⟩
  simp only [Array.getElem?_setIfInBounds]
  by_cases hjk : j = k
  · subst hjk
    rw [ht] at hu
    cases hu
    simp [h2]
    omega
  · obtain ⟨e1, e2, e3⟩ := h3 j u (by omega) hu
    refine ⟨?_, ?_, ?_⟩
    · rw [if_neg (by omega), if_neg (by omega), if_neg (by omega)]; exact e1
    · rw [if_neg (by omega), if_neg (by omega), if_neg (by omega)]; exact e2
    · rw [if_neg (by omega), if_neg (by omega), if_neg (by omega)]; exact e3
theorem Fl3.tl {W : World} {g n : Nat} {L : List Tk} (h : Fl3 W g n L n) (hL : L.length = n) (hn : n ≤ 1000) (hg : g < W.heap.size) : TL W (.slice (some ⟨g, 0, none⟩) n n) L := by
  obtain ⟨cs, h1, h2, h3⟩ := h
  refine ⟨⟨_, n, by rw [hL], by omega, by unfold maxLen; omega⟩, fun h0 => ⟨g, 0, n, by rw [hL], hg, fun j t hj => ?_⟩⟩
  have hjl : j < n := by rw [← hL]; exact (List.getElem?_eq_some_iff.1 hj).1
  obtain ⟨e1, e2, e3⟩ := h3 j t hjl hj
  rw [Nat.zero_add]
  exact ⟨(h1.cell _).trans e1, (h1.cell _).trans e2, (h1.cell _).trans e3⟩

set_option maxRecDepth 100000 in
set_option maxHeartbeats 8000000 in
/-- own(l). -/
theorem own_c (w : World) (v : Value) (L : List Tk) (hT : TL w v L) (hl : L.length ≤ 1000) (hbt : ∀ t ∈ L, t.text.length ≤ 10000 ∧ t.glyph.length ≤ 10000) :
    Calls Tryd.prog 35 #[v] w fun e W' => e = .returned (.slice (some ⟨w.heap.size, 0, none⟩) L.length L.length) ∧ TL W' (.slice (some ⟨w.heap.size, 0, none⟩) L.length L.length) L ∧ Below w.heap.size w W' ∧ w.heap.size < W'.heap.size := by
  obtain ⟨a0, c0, rfl, hc1, hc2⟩ := hT.form
  obtain ⟨i0, hi, hz0, hz1, hz2⟩ := info_tok
  have hcl := hT.cells
  obtain ⟨n, hn⟩ : ∃ n, n = L.length := ⟨_, rfl⟩
  rw [← hn] at hl hc1 hcl ⊢
  have HN := Lib.hid hn.symm
  have HBT := Lib.hid hbt
  have HCL := Lib.hid hcl
  unfold maxLen at hc2
  have hmk : (Instr.makeSlice 22 (.int .i64 (n : Int)) (.int .i64 (n : Int))).run Tryd.prog w = .ok (.slice (some ⟨w.heap.size, 0, none⟩) n n) (w.alloc (.cells (madeCells (Value.agg #[.int .i64 0, .string ⟨#[]⟩, .string ⟨#[]⟩]).cells (n * 3)) 31)) := by
    have h := run_make (P := Tryd.prog) w 22 31 i0 _ Tryd.underlying22 hi hz0 .i64 .i64 (n : Int) (n : Int) (by omega) (by omega) (by rw [hz2]; omega) (by omega)
    rw [hz1] at h
    exact h
  obtain ⟨W0, hW0⟩ : ∃ W0, W0 = w.alloc (.cells (madeCells (Value.agg #[.int .i64 0, .string ⟨#[]⟩, .string ⟨#[]⟩]).cells (n * 3)) 31) := ⟨_, rfl⟩
  have hfl : Fl3 W0 w.heap.size n L 0 := by rw [hW0]; exact ⟨_, Row.new _ _ _, by rw [size_madeCells], fun j t hj => by omega⟩
  have hb0 : Below w.heap.size w W0 := by rw [hW0]; exact (Below.refl _ w).alloc (Nat.le_refl _) _
  have hz : w.heap.size < W0.heap.size := by rw [hW0]; simp
  rw [← hW0] at hmk
  have HFL := Lib.hid hfl
  have HB0 := Lib.hid hb0
  have HZ0 := Lib.hid hz
  clear hT hcl hn hbt hW0 hfl hb0 hz
  refine (callsIn_wide (n := 5)).1 ?_
  refine callsIn_of_wp_marks Tryd.func35 rfl trivial ?_ rfl
  simp only [Tryd.ntmps35, List.size_toArray, List.length_cons, List.length_nil, Nat.reduceAdd, Nat.reduceSub, Array.replicate_succ, Array.replicate_zero, List.push_toArray, List.append_toArray, List.nil_append, List.cons_append]
  gi_wp2
  gi_loopw [4, 5, 11] (fun _ _ i wr => ∃ k : Nat, k ≤ n ∧ i = .int .i64 k ∧ Fl3 wr w.heap.size n L k ∧ Below w.heap.size w wr ∧ w.heap.size < wr.heap.size)
    (fun _ _ i _ => n - (intOf i).toNat)
  case atStart => exact ⟨0, Nat.zero_le _, rfl, HFL.out, HB0.out, HZ0.out⟩
  case round =>
    obtain ⟨k, hk, rfl, hfl, hB, hz⟩ := hrel
    by_cases hlt : k < n
    · obtain ⟨q, o, c1, e1, hq, hcc⟩ := HCL.out (by omega)
      have ht : L[k]? = some (tokAt L k) := tokAt_of (by rw [HN.out]; exact hlt)
      obtain ⟨x0, x1, x2⟩ := hcc k _ ht
      have hmem : tokAt L k ∈ L := List.mem_of_getElem? ht
      obtain ⟨hbt1, hbt2⟩ := HBT.out _ hmem
      obtain ⟨U, hU⟩ : ∃ U, U = bs (tokAt L k).text := ⟨_, rfl⟩
      obtain ⟨G, hG⟩ : ∃ S, S = bs (tokAt L k).glyph := ⟨_, rfl⟩
      obtain ⟨kd, hkd⟩ : ∃ a, a = (tokAt L k).kind := ⟨_, rfl⟩
      have hUs : U.size ≤ 10000 := by rw [hU, bs_size]; exact hbt1
      have hGs : G.size ≤ 10000 := by rw [hG, bs_size]; exact hbt2
      rw [← hkd] at x0
      rw [← hU] at x1
      rw [← hG] at x2
      have y0 := (hB.cell (p := ⟨q, o + k * 3, none⟩) hq).trans x0
      have y1 := (hB.cell (p := ⟨q, o + k * 3 + 1, none⟩) hq).trans x1
      have y2 := (hB.cell (p := ⟨q, o + k * 3 + 2, none⟩) hq).trans x2
      obtain ⟨rfl, rfl⟩ : a0 = some ⟨q, o, none⟩ ∧ c1 = c0 := by
        injection e1 with z1 _ z3
        exact ⟨z1, z3.symm⟩
      obtain ⟨Bx, hBx⟩ : ∃ B, B = wr.heap.size := ⟨_, rfl⟩
      obtain ⟨W2, hW2⟩ : ∃ W, W = wr.alloc (.cells #[.int .i64 kd, .string U, .string G] 31) := ⟨_, rfl⟩
      have r2 : Row W2 Bx 31 #[.int .i64 kd, .string U, .string G] := by rw [hW2, hBx]; exact Row.new _ _ _
      have hb2 : Below wr.heap.size wr W2 := by rw [hW2]; exact (Below.refl _ _).alloc (Nat.le_refl _) _
      have hfl2 : Fl3 W2 w.heap.size n L k := hfl.kept (hb2.block _ hz)
      have hB2 : Below w.heap.size w W2 := hB.trans (hb2.mono (by omega))
      have hz2 : W2.heap.size = wr.heap.size + 1 := by rw [hW2]; simp
      obtain ⟨J0, hJ0⟩ : ∃ J0 : Bool → World → Prop, J0 = fun b X => (b = false ∧ (Fl3 X w.heap.size n L k ∧ Row X Bx 31 #[.int .i64 kd, .string U, .string G] ∧ Below w.heap.size w X ∧ w.heap.size < X.heap.size ∧ Bx < X.heap.size)) ∨ (b = true ∧ (Fl3 X w.heap.size n L (k + 1) ∧ Row X Bx 31 #[.int .i64 kd, .string U, .string G] ∧ Below w.heap.size w X ∧ w.heap.size < X.heap.size ∧ Bx < X.heap.size)) := ⟨_, rfl⟩
      have HJ0 : Hid (∀ b X, J0 b X ↔ (b = false ∧ (Fl3 X w.heap.size n L k ∧ Row X Bx 31 #[.int .i64 kd, .string U, .string G] ∧ Below w.heap.size w X ∧ w.heap.size < X.heap.size ∧ Bx < X.heap.size)) ∨ (b = true ∧ (Fl3 X w.heap.size n L (k + 1) ∧ Row X Bx 31 #[.int .i64 kd, .string U, .string G] ∧ Below w.heap.size w X ∧ w.heap.size < X.heap.size ∧ Bx < X.heap.size))) := Lib.hid (fun b X => by rw [hJ0])
      have HJB : Hid (∀ b X Y, J0 b X → Below X.heap.size X Y → J0 b Y) := Lib.hid (fun b X Y hj hXY => by
        have hs := hXY.size
        rcases (HJ0.out _ _).1 hj with ⟨z, m1, m2, m3, m4, m5⟩ | ⟨z, m1, m2, m3, m4, m5⟩
        · exact (HJ0.out _ _).2 (.inl ⟨z, m1.kept (hXY.block _ m4), m2.below hXY m5, m3.trans (hXY.mono (by omega)), by omega, by omega⟩)
        · exact (HJ0.out _ _).2 (.inr ⟨z, m1.kept (hXY.block _ m4), m2.below hXY m5, m3.trans (hXY.mono (by omega)), by omega, by omega⟩))
      have HC : Hid (∀ b X, J0 b X → X.cell? ⟨Bx, 0, none⟩ = some (.int .i64 kd) ∧ X.cell? ⟨Bx, 1, none⟩ = some (.string U) ∧ X.cell? ⟨Bx, 2, none⟩ = some (.string G)) := Lib.hid (fun b X hj => by
        rcases (HJ0.out _ _).1 hj with ⟨_, _, m2, _⟩ | ⟨_, _, m2, _⟩
        · obtain ⟨z0, z1, z2, _⟩ := Rs.tok_cells m2
          exact ⟨z0, z1, z2⟩
        · obtain ⟨z0, z1, z2, _⟩ := Rs.tok_cells m2
          exact ⟨z0, z1, z2⟩)
      have hne : w.heap.size ≠ Bx := by omega
      have HSTO : Hid (∀ X, (Fl3 X w.heap.size n L k ∧ Row X Bx 31 #[.int .i64 kd, .string U, .string G] ∧ Below w.heap.size w X ∧ w.heap.size < X.heap.size ∧ Bx < X.heap.size) →
          ((∃ v0 v1 v2, X.cell? ⟨w.heap.size, k * 3, none⟩ = some v0 ∧ X.cell? ⟨w.heap.size, k * 3 + 1, none⟩ = some v1 ∧ X.cell? ⟨w.heap.size, k * 3 + 2, none⟩ = some v2) ∧ X.frozen? ⟨w.heap.size, k * 3, none⟩ = false ∧ X.frozen? ⟨w.heap.size, k * 3 + 1, none⟩ = false ∧ X.frozen? ⟨w.heap.size, k * 3 + 2, none⟩ = false) ∧
          (Fl3 (((X.setCell ⟨w.heap.size, k * 3, none⟩ (.int .i64 kd)).setCell ⟨w.heap.size, k * 3 + 1, none⟩ (.string U)).setCell ⟨w.heap.size, k * 3 + 2, none⟩ (.string G)) w.heap.size n L (k + 1) ∧ Row (((X.setCell ⟨w.heap.size, k * 3, none⟩ (.int .i64 kd)).setCell ⟨w.heap.size, k * 3 + 1, none⟩ (.string U)).setCell ⟨w.heap.size, k * 3 + 2, none⟩ (.string G)) Bx 31 #[.int .i64 kd, .string U, .string G] ∧ Below w.heap.size w (((X.setCell ⟨w.heap.size, k * 3, none⟩ (.int .i64 kd)).setCell ⟨w.heap.size, k * 3 + 1, none⟩ (.string U)).setCell ⟨w.heap.size, k * 3 + 2, none⟩ (.string G)) ∧ w.heap.size < (((X.setCell ⟨w.heap.size, k * 3, none⟩ (.int .i64 kd)).setCell ⟨w.heap.size, k * 3 + 1, none⟩ (.string U)).setCell ⟨w.heap.size, k * 3 + 2, none⟩ (.string G)).heap.size ∧ Bx < (((X.setCell ⟨w.heap.size, k * 3, none⟩ (.int .i64 kd)).setCell ⟨w.heap.size, k * 3 + 1, none⟩ (.string U)).setCell ⟨w.heap.size, k * 3 + 2, none⟩ (.string G)).heap.size)) := Lib.hid (fun X ⟨m1, m2, m3, m4, m5⟩ => by
        have hput := m1.put hlt ht
        rw [← hkd, ← hU, ← hG] at hput
        obtain ⟨cs, g1, g2, _⟩ := m1
        refine ⟨⟨⟨cs[k * 3]'(by omega), cs[k * 3 + 1]'(by omega), cs[k * 3 + 2]'(by omega), ?_, ?_, ?_⟩, g1.frozen _, g1.frozen _, g1.frozen _⟩, hput, ((m2.other (Ne.symm hne) _).other (Ne.symm hne) _).other (Ne.symm hne) _, ((m3.setCell (by dsimp only; omega) _).setCell (by dsimp only; omega) _).setCell (by dsimp only; omega) _, by simp only [World.size_setCell]; exact m4, by simp only [World.size_setCell]; exact m5⟩
        · rw [g1.cell]; exact Array.getElem?_eq_getElem _
        · rw [g1.cell]; exact Array.getElem?_eq_getElem _
        · rw [g1.cell]; exact Array.getElem?_eq_getElem _)
      have HJ2 : Hid (J0 false W2.drew) := Lib.hid (HJB.out _ _ _ ((HJ0.out _ _).2 (.inl ⟨rfl, hfl2, r2, hB2, by omega, by omega⟩)) (Below.refl _ _).drew)
      rw [hW2] at HJ2
      rw [hBx] at HJ0 HC HSTO
      have HLT := Lib.hid hlt
      have t1 : (k : Int) < (n : Int) := by omega
      clear hfl hB x0 x1 x2 hcc hU hG hkd ht hmem hbt1 hbt2 r2 hb2 hfl2 hB2 hz2 hJ0 hW2 hne hz hBx Bx W2
      gi_wp2
      refine wpIn_region_shape (by kernel_rfl) (by kernel_rfl) (fun i => [Value.slice (some ⟨w.heap.size, 0, none⟩) n n, .int .i64 (k : Int), .pointer (some ⟨wr.heap.size, 0, none⟩), .int .i64 kd, .pointer (some ⟨wr.heap.size, 1, none⟩), .string U, .string U, .pointer (some ⟨wr.heap.size, 2, none⟩), .string G, .string G, .agg #[.int .i64 kd, .string U, .string G], .pointer (some ⟨w.heap.size, k * 3, none⟩), undef].getD i undef) { tmps := #[.slice (some ⟨q, o, none⟩) n c1, undef, .slice none 0 0, .slice (some ⟨w.heap.size, 0, none⟩) n n, .int .i64 (k : Int), .pointer (some ⟨wr.heap.size, 0, none⟩), .slice (some ⟨q, o, none⟩) n c1, .int .i64 (n : Int), .slice (some ⟨w.heap.size, 0, none⟩) n n, .slice (some ⟨q, o, none⟩) n c1, .int .i64 (n : Int), .int .i64 (k : Int), .bool true, .int .i64 (k : Int), .pointer (some ⟨q, o + k * 3, none⟩), .agg #[.int .i64 kd, .string U, .string G], Value.slice (some ⟨w.heap.size, 0, none⟩) n n, .int .i64 (k : Int), .pointer (some ⟨wr.heap.size, 0, none⟩), .int .i64 kd, .pointer (some ⟨wr.heap.size, 1, none⟩), .string U, .string U, .pointer (some ⟨wr.heap.size, 2, none⟩), .string G, .string G, .agg #[.int .i64 kd, .string U, .string G], .pointer (some ⟨w.heap.size, k * 3, none⟩), u28, undef], defers := [] } ?_ (fun listed X => J0 (listed.getD 12 false) X) HJ2.out ?_ ?_
      · kernel_rfl
      · intro i o listed a' w' ho hsz hu haf hS hJ
        have hnx5 : ∀ i, i < 13 → i ≠ 12 → ∀ X, Below w'.heap.size w' X → J0 ((listed.setIfInBounds i true).getD 12 false) X := fun i hi h1 X hX => by
          rw [getD_set _ _ _ _ (by rw [hsz]; exact hi), if_neg h1]
          exact HJB.out _ _ _ hJ hX
        have hnx : ∀ i, i < 13 → i ≠ 12 → J0 ((listed.setIfInBounds i true).getD 12 false) w' := fun i hi h1 => hnx5 i hi h1 w' (Below.refl _ _)
        have hi : i < 13 := (Array.getElem?_eq_some_iff.1 ho).1
        obtain rfl | rfl | rfl | rfl | rfl | rfl | rfl | rfl | rfl | rfl | rfl | rfl | rfl : i = 0 ∨ i = 1 ∨ i = 2 ∨ i = 3 ∨ i = 4 ∨ i = 5 ∨ i = 6 ∨ i = 7 ∨ i = 8 ∨ i = 9 ∨ i = 10 ∨ i = 11 ∨ i = 12 := by omega
        · cases ho
          have q3 : a'.tmps[3]? = some (.slice (some ⟨w.heap.size, 0, none⟩) n n) := (hS.tmpBase 3 (by kernel_rfl)).trans rfl
          refine op_val (Value.slice (some ⟨w.heap.size, 0, none⟩) n n) w' (fun _ _ => trivial) ?_ ⟨rfl, hnx 0 (by omega) (by omega)⟩
          rw [Oper.semAt_plain _ _ _ (by intro c h; cases h)]
          simp [execOp, q3, go_sem]
        · cases ho
          have q4 : a'.tmps[4]? = some (.int .i64 (k : Int)) := (hS.tmpBase 4 (by kernel_rfl)).trans rfl
          refine op_val (.int .i64 (k : Int)) w' (fun _ _ => trivial) ?_ ⟨rfl, hnx 1 (by omega) (by omega)⟩
          rw [Oper.semAt_plain _ _ _ (by intro c h; cases h)]
          simp [execOp, q4, go_sem]
        · cases ho
          have q5 : a'.tmps[5]? = some (.pointer (some ⟨wr.heap.size, 0, none⟩)) := (hS.tmpBase 5 (by kernel_rfl)).trans rfl
          refine op_val (.pointer (some ⟨wr.heap.size, 0, none⟩)) w' (fun _ _ => trivial) ?_ ⟨rfl, hnx 2 (by omega) (by omega)⟩
          rw [Oper.semAt_plain _ _ _ (by intro c h; cases h)]
          simp [execOp, q5, go_sem]
        · cases ho
          have q18 : a'.tmps[18]? = some (.pointer (some ⟨wr.heap.size, 0, none⟩)) := hS.tmpSet 2 _ 18 rfl rfl (by simp) (haf ⟨2, .data⟩ (Array.mem_of_getElem? (i := 0) rfl) rfl)
          obtain ⟨k0, _, _⟩ := HC.out _ _ hJ
          refine op_val (.int .i64 kd) w' (fun _ _ => trivial) ?_ ⟨rfl, hnx 3 (by omega) (by omega)⟩
          rw [Oper.semAt_plain _ _ _ (by intro c h; cases h)]
          simp [execOp, q18, k0, go_sem]
        · cases ho
          have q5 : a'.tmps[5]? = some (.pointer (some ⟨wr.heap.size, 0, none⟩)) := (hS.tmpBase 5 (by kernel_rfl)).trans rfl
          refine op_val (.pointer (some ⟨wr.heap.size, 1, none⟩)) w' (fun _ _ => trivial) ?_ ⟨rfl, hnx 4 (by omega) (by omega)⟩
          rw [Oper.semAt_plain _ _ _ (by intro c h; cases h)]
          simp [execOp, q5, go_sem]
        · cases ho
          have q20 : a'.tmps[20]? = some (.pointer (some ⟨wr.heap.size, 1, none⟩)) := hS.tmpSet 4 _ 20 rfl rfl (by simp) (haf ⟨4, .data⟩ (Array.mem_of_getElem? (i := 0) rfl) rfl)
          obtain ⟨_, k1, _⟩ := HC.out _ _ hJ
          refine op_val (.string U) w' (fun _ _ => trivial) ?_ ⟨rfl, hnx 5 (by omega) (by omega)⟩
          rw [Oper.semAt_plain _ _ _ (by intro c h; cases h)]
          simp [execOp, q20, k1, go_sem]
        · cases ho
          have q21 : a'.tmps[21]? = some (.string U) := hS.tmpSet 5 _ 21 rfl rfl (by simp) (haf ⟨5, .data⟩ (Array.mem_of_getElem? (i := 0) rfl) rfl)
          refine op_call 45 #[.string U] (fun _ _ => trivial) ?_ (by omega) ((callsIn_wide.2 (gclone_c U w' (by omega))).mono ?_)
          · rw [Oper.semAt_plain _ _ _ (by intro c h; cases h)]
            simp [execOp, q21, go_sem]
          · rintro e w5 ⟨rfl, hst⟩
            exact ⟨_, rfl, rfl, hnx5 6 (by omega) (by omega) w5 hst⟩
        · cases ho
          have q5 : a'.tmps[5]? = some (.pointer (some ⟨wr.heap.size, 0, none⟩)) := (hS.tmpBase 5 (by kernel_rfl)).trans rfl
          refine op_val (.pointer (some ⟨wr.heap.size, 2, none⟩)) w' (fun _ _ => trivial) ?_ ⟨rfl, hnx 7 (by omega) (by omega)⟩
          rw [Oper.semAt_plain _ _ _ (by intro c h; cases h)]
          simp [execOp, q5, go_sem]
        · cases ho
          have q23 : a'.tmps[23]? = some (.pointer (some ⟨wr.heap.size, 2, none⟩)) := hS.tmpSet 7 _ 23 rfl rfl (by simp) (haf ⟨7, .data⟩ (Array.mem_of_getElem? (i := 0) rfl) rfl)
          obtain ⟨_, _, k2⟩ := HC.out _ _ hJ
          refine op_val (.string G) w' (fun _ _ => trivial) ?_ ⟨rfl, hnx 8 (by omega) (by omega)⟩
          rw [Oper.semAt_plain _ _ _ (by intro c h; cases h)]
          simp [execOp, q23, k2, go_sem]
        · cases ho
          have q24 : a'.tmps[24]? = some (.string G) := hS.tmpSet 8 _ 24 rfl rfl (by simp) (haf ⟨8, .data⟩ (Array.mem_of_getElem? (i := 0) rfl) rfl)
          refine op_call 45 #[.string G] (fun _ _ => trivial) ?_ (by omega) ((callsIn_wide.2 (gclone_c G w' (by omega))).mono ?_)
          · rw [Oper.semAt_plain _ _ _ (by intro c h; cases h)]
            simp [execOp, q24, go_sem]
          · rintro e w5 ⟨rfl, hst⟩
            exact ⟨_, rfl, rfl, hnx5 9 (by omega) (by omega) w5 hst⟩
        · cases ho
          have q19 : a'.tmps[19]? = some (.int .i64 kd) := hS.tmpSet 3 _ 19 rfl rfl (by simp) (haf ⟨3, .data⟩ (Array.mem_of_getElem? (i := 0) rfl) rfl)
          have q22 : a'.tmps[22]? = some (.string U) := hS.tmpSet 6 _ 22 rfl rfl (by simp) (haf ⟨6, .data⟩ (Array.mem_of_getElem? (i := 1) rfl) rfl)
          have q25 : a'.tmps[25]? = some (.string G) := hS.tmpSet 9 _ 25 rfl rfl (by simp) (haf ⟨9, .data⟩ (Array.mem_of_getElem? (i := 2) rfl) rfl)
          refine op_val (.agg #[.int .i64 kd, .string U, .string G]) w' (fun _ _ => trivial) ?_ ⟨rfl, hnx 10 (by omega) (by omega)⟩
          rw [Oper.semAt_plain _ _ _ (by intro c h; cases h)]
          simp [execOp, q19, q22, q25, go_sem]
        · cases ho
          have q16 : a'.tmps[16]? = some (Value.slice (some ⟨w.heap.size, 0, none⟩) n n) := hS.tmpSet 0 _ 16 rfl rfl (by simp) (haf ⟨0, .data⟩ (Array.mem_of_getElem? (i := 0) rfl) rfl)
          have q17 : a'.tmps[17]? = some (.int .i64 (k : Int)) := hS.tmpSet 1 _ 17 rfl rfl (by simp) (haf ⟨1, .data⟩ (Array.mem_of_getElem? (i := 1) rfl) rfl)
          refine op_val (.pointer (some ⟨w.heap.size, k * 3, none⟩)) w' (fun _ _ => trivial) ?_ ⟨rfl, hnx 11 (by omega) (by omega)⟩
          rw [Oper.semAt_plain _ _ _ (by intro c h; cases h)]
          simp [execOp, q16, q17, hlt, go_sem]
        · cases ho
          have q27 : a'.tmps[27]? = some (.pointer (some ⟨w.heap.size, k * 3, none⟩)) := hS.tmpSet 11 _ 27 rfl rfl (by simp) (haf ⟨11, .data⟩ (Array.mem_of_getElem? (i := 0) rfl) rfl)
          have q26 : a'.tmps[26]? = some (.agg #[.int .i64 kd, .string U, .string G]) := hS.tmpSet 10 _ 26 rfl rfl (by simp) (haf ⟨10, .data⟩ (Array.mem_of_getElem? (i := 1) rfl) rfl)
          rcases (HJ0.out _ _).1 hJ with ⟨q, hb⟩ | ⟨q, _⟩
          · obtain ⟨⟨⟨v0, v1, v2, y0, y1, y2⟩, z0, z1, z2⟩, hfin⟩ := HSTO.out w' hb
            refine op_skip _ (fun _ _ => trivial) ?_ ⟨rfl, (HJ0.out _ _).2 (.inr ⟨by rw [getD_set _ _ _ _ (by rw [hsz]; decide), if_pos rfl], hfin⟩)⟩
            rw [Oper.semAt_plain _ _ _ (by intro c h; cases h)]
            simp [execOp, q27, q26, y0, y1, y2, z0, z1, z2, go_sem]
          · rw [hu] at q; cases q
      · intro listed X hl2 hJ
        have hend : Fl3 X w.heap.size n L (k + 1) ∧ Below w.heap.size w X ∧ w.heap.size < X.heap.size := by
          have h9 := hl2 12 (by decide)
          rcases (HJ0.out _ _).1 hJ with ⟨q, _⟩ | ⟨_, m1, _, m3, m4, _⟩
          · rw [h9] at q; cases q
          · exact ⟨m1, m3, m4⟩
        have HEND := Lib.hid hend
        clear hend hJ hl2 HJ0 HJB HC HSTO HJ2
        gi_wp2
        go_roundw
        case rel => exact ⟨k + 1, HLT.out, by simp, HEND.out⟩
        case measure => have := HLT.out; simp [intOf]; omega
    · obtain rfl : k = n := by omega
      have HTL := Lib.hid (hfl.tl HN.out hl hz)
      have HB := Lib.hid hB
      have HZ := Lib.hid hz
      clear hfl hB hz
      gi_wp2
      refine ⟨.slice (some ⟨w.heap.size, 0, none⟩) k k, ?_, rfl, HTL.out, HB.out, HZ.out⟩
      simp [results, Tryd.f35, go_sem]
end Go.Proofs.YthbiflmmlcmncaaDoor.Ti
