/- Lists of tokens, one appended to the other, whatever holds them. -/
import Derived.Test.YthbiflmmlcmncaaDoorGyA
import Derived.Laws.AppendOwnNone
import Derived.Laws.AppendOwn
namespace Go.Proofs.YthbiflmmlcmncaaDoor.Ti
open Go Go.RowKit Go.Shelf
attribute [local go_sem] Oper.semAt_some

theorem cellsL_app (A B : List Tk) : cellsL (A ++ B) = cellsL A ++ cellsL B := by simp [cellsL]
theorem cellsL_one (L : List Tk) : ∀ u ∈ cellsL L, u.oneCell' = true := fun u hu => by
  obtain ⟨t, _, h⟩ := List.mem_flatMap.1 hu
  exact tokL_one t u h
/-- What may be appended: nothing, or a list that lies somewhere. -/
def Ap (W : World) (u : Value) (B : List Tk) : Prop := (u = .slice none 0 0 ∧ B = []) ∨ ∃ ad cap, u = .slice (some ad) B.length cap ∧ ∀ (j : Nat) (z : Value), (cellsL B)[j]? = some z → W.cell? (ad.add j) = some z
theorem Ap.below {W W' : World} {u : Value} {B : List Tk} (h : Ap W u B) (hb : Below W.heap.size W W') : Ap W' u B := by
  rcases h with h | ⟨ad, cap, h1, h2⟩
  · exact .inl h
  · refine .inr ⟨ad, cap, h1, fun j z hz => ?_⟩
    have h3 := h2 j z hz
    exact (hb.cell (World.block_lt_of_cell? W _ h3)).trans h3
theorem OwnL.ap {W : World} {base : Nat} {v : Value} {L : List Tk} (h : OwnL W base v L) : Ap W v L := by
  rcases h.2 with ⟨hv, h0⟩ | ⟨g, cap, cur, hv, hg, hh, h1, h2, h3, h4⟩
  · exact .inl ⟨hv, List.length_eq_zero_iff.1 h0⟩
  · subst hv
    refine .inr ⟨_, cap, rfl, fun j z hz => ?_⟩
    have hj : j < L.length * 3 := by rw [← cellsL_len]; exact (List.getElem?_eq_some_iff.1 hz).1
    have := World.ownsRow.cellAt h j hj
    have e1 : (⟨g, 0, none⟩ : Addr).add j = ⟨g, j, none⟩ := by by_cases hj0 : j = 0 <;> simp [Addr.add, hj0]
    rw [e1]
    exact this.trans hz
theorem TL.ap {W : World} {ad : Addr} {l c : Nat} {B : List Tk} (h : TL W (.slice (some ad) l c) B) : Ap W (.slice (some ad) l c) B := by
  obtain ⟨a0, c0, e, _, _⟩ := h.form
  cases e
  refine .inr ⟨ad, c, rfl, fun j z hz => ?_⟩
  have hj : j < B.length * 3 := by rw [← cellsL_len]; exact (List.getElem?_eq_some_iff.1 hz).1
  obtain ⟨g, o, c', e, hg, hc⟩ := h.cells (by omega)
  cases e
  obtain ⟨t, ht⟩ : ∃ t, B[j / 3]? = some t := ⟨_, List.getElem?_eq_getElem (by omega)⟩
  obtain ⟨x0, x1, x2⟩ := hc _ t ht
  have hjj : j / 3 * 3 + j % 3 = j := by omega
  have hz2 := cellsL_get B (j / 3) (j % 3) t ht (by omega)
  rw [hjj, hz] at hz2
  have h3 : j % 3 = 0 ∨ j % 3 = 1 ∨ j % 3 = 2 := by omega
  have e1 : (⟨g, o, none⟩ : Addr).add j = ⟨g, o + j, none⟩ := by simp [Addr.add]
  rw [e1]
  rcases h3 with h3 | h3 | h3
  · rw [h3] at hz2
    rw [show o + j = o + j / 3 * 3 by omega, x0]
    exact hz2.symm
  · rw [h3] at hz2
    rw [show o + j = o + j / 3 * 3 + 1 by omega, x1]
    exact hz2.symm
  · rw [h3] at hz2
    rw [show o + j = o + j / 3 * 3 + 2 by omega, x2]
    exact hz2.symm
/-- One token, in new memory. -/
theorem Ap.one (W : World) (t : Tk) : Ap (W.alloc (.cells (tokL t).toArray 31)) (.slice (some ⟨W.heap.size, 0, none⟩) 1 1) [t] := by
  refine .inr ⟨_, 1, rfl, ?_⟩
  have h := World.news_of_block (World.alloc_heap_new W (.cells (tokL t).toArray 31))
  intro j z hz
  refine h j z ?_
  simpa [cellsL] using hz
theorem append_two {w : World} {ops : Array Oper} {rest : List Oper} {o : Oper} {a : Act} {Q : Exit → Act → World → Prop} (hgd : o.guard = none) (s x : Operand)
    (ho : o.op = .call { callee := .builtin .append, args := #[s, x], argTypes := #[22, 22] }) (base : Nat) (v u : Value) (A B : List Tk) (hs : a.eval s = v) (hx : a.eval x = u)
    (hA : OwnL w base v A) (hB : Ap w u B) (hl : A.length + B.length ≤ 1000) (hbase : base ≤ w.heap.size)
    (h : ∀ v' w', OwnL w' base v' (A ++ B) → Below base w w' → wpList Tryd.prog ops Q rest (a.put o.dst v') w') : wpList Tryd.prog ops Q (o :: rest) a w := by
  obtain ⟨i0, hi, hz0, hz1, hz2⟩ := info_tok
  rcases hB with ⟨rfl, rfl⟩ | ⟨ad, cap, rfl, hc⟩
  · refine wpList_append_own_none hgd s x 22 ho base 31 i0 3 Tryd.underlying22 hi v _ (cellsL A) hs hA hx ?_
    refine h v w ?_ (Below.refl _ _)
    rw [List.append_nil]
    exact hA
  · refine wpList_append_own _ hgd s x 22 ho base 31 i0 (.agg #[.int .i64 0, .string ⟨#[]⟩, .string ⟨#[]⟩]) 3 40 Tryd.underlying22 hi hz0 hz1 hz2 rfl (by decide) v _ (cellsL A) hs hA ad B.length cap (cellsL B) hx (cellsL_len B) hc (cellsL_one B) (by unfold maxLen; omega) (by omega) hbase ?_
    intro v' w' h1 h2 _
    refine h v' w' ?_ ((Below.refl base w).grown h2 hbase (fun j e => (hA.lt j e).1))
    show World.ownsRow _ _ _ _ _ _ _
    rw [List.length_append, cellsL_app]
    exact h1
end Go.Proofs.YthbiflmmlcmncaaDoor.Ti
