/- Nodes in memory. -/
import Derived.Test.YtbegplfijjbpcaaDoorNoMath
namespace Go.Proofs.YtbegplfijjbpcaaDoor.No
open Go Go.RowKit Go.Shelf
attribute [local go_sem] Oper.semAt_some

/-- Numbers in memory, wherever they begin. -/
structure KL (W : World) (v : Value) (A : List Int) : Prop where
  form : ∃ a0 c0, v = .slice a0 A.length c0 ∧ A.length ≤ c0 ∧ c0 ≤ maxLen
  cells : 0 < A.length → ∃ g o c0, v = .slice (some ⟨g, o, none⟩) A.length c0 ∧ g < W.heap.size ∧ ∀ j x, A[j]? = some x → W.cell? ⟨g, o + j, none⟩ = some (.int .i64 x)
theorem KL.below {W W' : World} {v : Value} {A : List Int} (h : KL W v A) (hb : Below W.heap.size W W') : KL W' v A := by
  refine ⟨h.form, fun h0 => ?_⟩
  obtain ⟨g, o, c0, hv, hg, hc⟩ := h.cells h0
  exact ⟨g, o, c0, hv, Nat.lt_of_lt_of_le hg hb.size, fun j x hj => (hb.cell (p := ⟨g, o + j, none⟩) hg).trans (hc j x hj)⟩
theorem KL.nil (W : World) : KL W (.slice none 0 0) [] := ⟨⟨none, 0, rfl, Nat.le_refl _, Nat.zero_le _⟩, fun h => by simp at h⟩
/-- Numbers as cells; v owns them. -/
def nums (L : List Int) : List Value := L.map fun x => Value.int .i64 x
theorem nums_len (L : List Int) : (nums L).length = L.length := by simp [nums]
theorem nums_snoc (L : List Int) (x : Int) : nums (L ++ [x]) = nums L ++ [.int .i64 x] := by simp [nums]
theorem nums_at {L : List Int} {k : Nat} {x : Int} (h : L[k]? = some x) : (nums L)[k]? = some (.int .i64 x) := by simp [nums, h]
abbrev IOwn (W : World) (base : Nat) (v : Value) (L : List Int) : Prop := W.ownsRow base 3 1 v L.length (nums L)
theorem IOwn.nil (W : World) (base : Nat) : IOwn W base (.slice none 0 0) [] := World.ownsRow_nil _ _ _ _
theorem IOwn.kl {W : World} {base : Nat} {v : Value} {L : List Int} (h : IOwn W base v L) : KL W v L := by
  have h' := h
  rcases h.2 with ⟨hv, h0⟩ | ⟨g, cap, cur, hv, hg, hh, h1, h2, h3, h4⟩
  · refine ⟨⟨none, 0, by rw [hv, h0], by rw [h0]; exact Nat.le_refl _, Nat.zero_le _⟩, fun h => by omega⟩
  · subst hv
    refine ⟨⟨_, cap, rfl, h1, h2⟩, fun _ => ⟨g, 0, cap, rfl, (Array.getElem?_eq_some_iff.1 hh).1, fun j x hj => ?_⟩⟩
    have hjl : j < L.length := (List.getElem?_eq_some_iff.1 hj).1
    rw [Nat.zero_add, World.ownsRow.cellAt h' j (by omega)]
    exact nums_at hj
/-- A node in memory, cell by cell. -/
def NodeAt (W : World) (g o : Nat) (x : Nd) : Prop := W.cell? ⟨g, o, none⟩ = some (.int .i64 x.kind) ∧ W.cell? ⟨g, o + 1, none⟩ = some (.string (bs x.text)) ∧ ∃ kv, W.cell? ⟨g, o + 2, none⟩ = some kv ∧ KL W kv x.kids
theorem NodeAt.below {W W' : World} {g o : Nat} {x : Nd} (h : NodeAt W g o x) (hb : Below W.heap.size W W') (hg : g < W.heap.size) : NodeAt W' g o x := by
  obtain ⟨h1, h2, kv, h3, h4⟩ := h
  exact ⟨(hb.cell (p := ⟨g, o, none⟩) hg).trans h1, (hb.cell (p := ⟨g, o + 1, none⟩) hg).trans h2, kv, (hb.cell (p := ⟨g, o + 2, none⟩) hg).trans h3, h4.below hb⟩
/-- THE SLICE VALUE v IS THE LIST OF NODES T. -/
structure NL (W : World) (v : Value) (T : List Nd) : Prop where
  form : ∃ a0 c0, v = .slice a0 T.length c0 ∧ T.length ≤ c0 ∧ c0 ≤ maxLen
  cells : 0 < T.length → ∃ g o c0, v = .slice (some ⟨g, o, none⟩) T.length c0 ∧ g < W.heap.size ∧ ∀ j x, T[j]? = some x → NodeAt W g (o + j * 3) x
theorem NL.below {W W' : World} {v : Value} {T : List Nd} (h : NL W v T) (hb : Below W.heap.size W W') : NL W' v T := by
  refine ⟨h.form, fun h0 => ?_⟩
  obtain ⟨g, o, c0, hv, hg, hc⟩ := h.cells h0
  exact ⟨g, o, c0, hv, Nat.lt_of_lt_of_le hg hb.size, fun j x hj => (hc j x hj).below hb hg⟩
theorem NL.nil (W : World) : NL W (.slice none 0 0) [] := ⟨⟨none, 0, rfl, Nat.le_refl _, Nat.zero_le _⟩, fun h => by simp at h⟩
theorem info_parts {o : Option TypeInfo} {z : Option Value} {s b : Nat} (h : o.map (fun i => (i.zero, i.size, i.bytes)) = some (z, s, b)) : ∃ i, o = some i ∧ i.zero = z ∧ i.size = s ∧ i.bytes = b := by
  cases o with
  | none => cases h
  | some i =>
    simp at h
    exact ⟨i, rfl, h.1, h.2.1, h.2.2⟩
theorem infoN : ∃ i, Tryd.prog.info? 42 = some i ∧ i.zero = some (.agg #[.int .i64 0, .string ⟨#[]⟩, .slice none 0 0]) ∧ i.size = 3 ∧ i.bytes = 48 :=
  info_parts (show (Tryd.prog.info? 42).map (fun i => (i.zero, i.size, i.bytes)) = some (some (.agg #[.int .i64 0, .string ⟨#[]⟩, .slice none 0 0]), 3, 48) by kernel_rfl)
theorem infoI : ∃ i, Tryd.prog.info? 3 = some i ∧ i.zero = some (.int .i64 0) ∧ i.size = 1 ∧ i.bytes = 8 :=
  info_parts (show (Tryd.prog.info? 3).map (fun i => (i.zero, i.size, i.bytes)) = some (some (.int .i64 0), 1, 8) by kernel_rfl)
/-- A box of a node. -/
theorem node_cells {W : World} {h : Nat} {t : TypeId} {a b c : Value} (r : Row W h t #[a, b, c]) :
    W.cell? ⟨h, 0, none⟩ = some a ∧ W.cell? ⟨h, 1, none⟩ = some b ∧ W.cell? ⟨h, 2, none⟩ = some c ∧ W.frozen? ⟨h, 0, none⟩ = false ∧ W.frozen? ⟨h, 1, none⟩ = false ∧ W.frozen? ⟨h, 2, none⟩ = false := by
  have c0 := r.cell 0
  have c1 := r.cell 1
  have c2 := r.cell 2
  simp at c0 c1 c2
  exact ⟨c0, c1, c2, r.frozen 0, r.frozen 1, r.frozen 2⟩

theorem sameK {A B : List Int} (hl : A.length = B.length) (h : ∀ j, j < A.length → A[j]? = B[j]?) : A = B :=
  List.ext_getElem? fun j => by
    rcases Nat.lt_or_ge j A.length with h1 | h1
    · exact h j h1
    · rw [List.getElem?_eq_none h1, List.getElem?_eq_none (by omega)]

set_option maxHeartbeats 4000000 in
set_option maxRecDepth 100000 in
/-- Ints(a, b). -/
theorem ints_c (v u : Value) (A B : List Int) (w : World) (hA : KL w v A) (hB : KL w u B) :
    Calls Tryd.prog 53 #[v, u] w fun e W' => e = .returned (.bool (decide (A = B))) ∧ Below w.heap.size w W' := by
  obtain ⟨a0, c0, rfl, hc1, hc2⟩ := hA.form
  obtain ⟨b0, d0, rfl, hd1, hd2⟩ := hB.form
  unfold maxLen at hc2 hd2
  have HCA := Lib.hid hA.cells
  have HCB := Lib.hid hB.cells
  obtain ⟨n, hn⟩ : ∃ n, n = A.length := ⟨_, rfl⟩
  obtain ⟨m, hm⟩ : ∃ n, n = B.length := ⟨_, rfl⟩
  rw [← hn] at hc1 HCA ⊢
  rw [← hm] at hd1 HCB ⊢
  have HN := Lib.hid hn
  have HM := Lib.hid hm
  have HD := Lib.hid (Below.refl w.heap.size w)
  clear hA hB hn hm
  by_cases hnm : n = m
  · subst hnm
    go_enter Tryd.func53, Tryd.ntmps53
    go_wp2
    go_loopw [5] (fun i wr => ∃ k : Nat, k ≤ n ∧ i = .int .i64 k ∧ Below w.heap.size w wr ∧ ∀ j, j < k → A[j]? = B[j]?) (fun i _ => n - (intOf i).toNat)
    case atStart => exact ⟨0, Nat.zero_le _, rfl, HD.out, fun j hj => by omega⟩
    case round =>
      obtain ⟨k, hk, rfl, hB, hall⟩ := hrel
      have HB := Lib.hid hB
      have HALL := Lib.hid hall
      by_cases hlt : k < n
      · obtain ⟨g, o, c1, hv, hg, hcs⟩ := HCA.out (by omega)
        obtain ⟨g2, o2, c2, hv2, hg2, hcs2⟩ := HCB.out (by omega)
        obtain rfl : a0 = some ⟨g, o, none⟩ := by injection hv
        obtain rfl : b0 = some ⟨g2, o2, none⟩ := by injection hv2
        obtain ⟨x, hx⟩ : ∃ x, A[k]? = some x := ⟨_, List.getElem?_eq_getElem (by rw [← HN.out]; exact hlt)⟩
        obtain ⟨y, hy⟩ : ∃ x, B[k]? = some x := ⟨_, List.getElem?_eq_getElem (by rw [← HM.out]; exact hlt)⟩
        have e1 := (hB.cell (p := ⟨g, o + k, none⟩) hg).trans (hcs k x hx)
        have e2 := (hB.cell (p := ⟨g2, o2 + k, none⟩) hg2).trans (hcs2 k y hy)
        have HXY := Lib.hid (And.intro hx hy)
        clear hB hcs hcs2 hv hv2 hg hg2 hx hy hall
        by_cases hxy : x = y
        · subst hxy
          have t1 : (x != x) = false := by simp
          go_wp2_with fail
          go_quiet (fail)
          have HBD := Lib.hid (below_dn HB.out nq)
          clear e1 e2 HB
          go_wp2
          go_roundw
          case rel =>
            refine ⟨k + 1, by omega, by go_num, HBD.out, fun j hj => ?_⟩
            rcases Nat.lt_or_ge j k with h1 | h1
            · exact HALL.out j h1
            · obtain rfl : j = k := by omega
              rw [HXY.out.1, HXY.out.2]
          case measure => simp [intOf]; omega
        · have HNE : Hid (A ≠ B) := Lib.hid (fun e => by
            have h1 := HXY.out.1
            rw [e, HXY.out.2] at h1
            injection h1 with h1
            exact hxy h1.symm)
          have t1 : (x != y) = true := by simp; exact hxy
          clear hxy
          go_wp2_with fail
          go_quiet (fail)
          have HBD := Lib.hid (below_dn HB.out nq)
          clear e1 e2 HB
          go_wp2
          go_ret
          exact ⟨by rw [decide_eq_false HNE.out]; rfl, HBD.out⟩
      · obtain rfl : k = n := by omega
        have HE : Hid (A = B) := Lib.hid (sameK (by rw [← HN.out, ← HM.out]) (fun j hj => hall j (by rw [HN.out]; exact hj)))
        clear hB hall
        go_wp2
        go_ret
        exact ⟨by rw [decide_eq_true HE.out]; rfl, HB.out⟩
  · have HNE : Hid (A ≠ B) := Lib.hid (fun e => hnm (by rw [HN.out, HM.out, e]))
    have t1 : ((n : Int) != (m : Int)) = true := by simp; omega
    go_enter Tryd.func53, Tryd.ntmps53
    go_wp2
    go_ret
    exact ⟨by rw [decide_eq_false HNE.out]; rfl, HD.out⟩
end Go.Proofs.YtbegplfijjbpcaaDoor.No
