/- Lists of nodes that own their cells, and their kids' rows as well. -/
import Derived.Test.YtbegplfijjbpcaaDoorNoOne
namespace Go.Proofs.YtbegplfijjbpcaaDoor.No
open Go Go.RowKit Go.Shelf

/-- A node's cells, of it and of its kids' value. -/
def nodC (p : Nd × Value) : List Value := [.int .i64 p.1.kind, .string (bs p.1.text), p.2]
def cellsN (L : List (Nd × Value)) : List Value := L.flatMap nodC
theorem cellsN_len : ∀ L, (cellsN L).length = L.length * 3
  | [] => rfl
  | t :: L => by
    show (nodC t ++ cellsN L).length = _
    rw [List.length_append, cellsN_len L]
    simp [nodC]
    omega
theorem cellsN_snoc (L : List (Nd × Value)) (t : Nd × Value) : cellsN (L ++ [t]) = cellsN L ++ nodC t := by simp [cellsN]
theorem cellsN_app (L M : List (Nd × Value)) : cellsN (L ++ M) = cellsN L ++ cellsN M := by simp [cellsN]
theorem cellsN_get : ∀ (L : List (Nd × Value)) (j i : Nat) (t : Nd × Value), L[j]? = some t → i < 3 → (cellsN L)[j * 3 + i]? = (nodC t)[i]?
  | [], _, _, _, h, _ => by simp at h
  | x :: L, 0, i, t, h, hi => by
    obtain rfl : x = t := by simpa using h
    show (nodC x ++ cellsN L)[0 * 3 + i]? = _
    rw [List.getElem?_append_left (by simp [nodC]; omega)]
    simp
  | x :: L, j + 1, i, t, h, hi => by
    show (nodC x ++ cellsN L)[(j + 1) * 3 + i]? = _
    rw [List.getElem?_append_right (by simp [nodC]; omega)]
    have e : (j + 1) * 3 + i - (nodC x).length = j * 3 + i := by simp [nodC]; omega
    rw [e]
    exact cellsN_get L j i t (by simpa using h) hi
/-- THE SLICE VALUE v OWNS THE NODES L, and each kids' value owns its row. -/
structure NOwn (W : World) (base : Nat) (v : Value) (L : List (Nd × Value)) : Prop where
  row : W.ownsRow base 42 3 v L.length (cellsN L)
  kid : ∀ p ∈ L, IOwn W base p.2 p.1.kids
theorem NOwn.nil (W : World) (base : Nat) : NOwn W base (.slice none 0 0) [] := ⟨World.ownsRow_nil _ _ _ _, fun _ h => by cases h⟩
theorem NOwn.below {W W' : World} {base : Nat} {v : Value} {L : List (Nd × Value)} (h : NOwn W base v L) (hb : Below W.heap.size W W') : NOwn W' base v L := ⟨own_kept h.row hb, fun p hp => own_kept (h.kid p hp) hb⟩
/-- Rows of other things have other blocks. -/
theorem own_apart {W : World} {b b' : Nat} {e t : TypeId} {s r : Nat} {v u : Value} {n m : Nat} {xs ys : List Value} (h : W.ownsRow b e s v n xs) (h2 : W.ownsRow b' t r u m ys) (hne : e ≠ t) : v.ownBlock = none ∨ v.ownBlock ≠ u.ownBlock := by
  rcases h.2 with ⟨rfl, _⟩ | ⟨g, cap, cur, rfl, _, hg, _⟩
  · exact .inl rfl
  · rcases h2.2 with ⟨rfl, _⟩ | ⟨g2, cap2, cur2, rfl, _, hg2, _⟩
    · exact .inr (fun e => by cases e)
    · refine .inr (fun e => ?_)
      have e' : g = g2 := by simpa [Value.ownBlock] using e
      subst e'
      rw [hg] at hg2
      cases hg2
      exact hne rfl
/-- One list has grown: the kids' rows are kept. -/
theorem NOwn.grow {W W' : World} {base : Nat} {v u : Value} {L M : List (Nd × Value)} (h : NOwn W base v L) (hg : W.grownBy W' v.ownBlock) (hr : W'.ownsRow base 42 3 u (L ++ M).length (cellsN (L ++ M))) (hm : ∀ p ∈ M, IOwn W base p.2 p.1.kids) : NOwn W' base u (L ++ M) := by
  have key : ∀ (q : Value) (A : List Int), IOwn W base q A → IOwn W' base q A := fun q A hq => World.ownsRow.kept hq hg (own_apart hq h.row (by decide))
  refine ⟨hr, fun p hp => ?_⟩
  rcases List.mem_append.1 hp with hp | hp
  · exact key _ _ (h.kid p hp)
  · exact key _ _ (hm p hp)
/-- An owned list is a list. -/
theorem NOwn.nl {W : World} {base : Nat} {v : Value} {L : List (Nd × Value)} (h : NOwn W base v L) : NL W v (L.map (·.1)) := by
  have hlen : (L.map (·.1)).length = L.length := List.length_map ..
  have h' := h.row
  rcases h.row.2 with ⟨hv, h0⟩ | ⟨g, cap, cur, hv, hg, hh, h1, h2, h3, h4⟩
  · have : L = [] := List.length_eq_zero_iff.1 h0
    subst this
    rw [hv]
    exact NL.nil W
  · subst hv
    have hlt := (Array.getElem?_eq_some_iff.1 hh).1
    refine ⟨⟨_, cap, by rw [hlen], by rw [hlen]; exact h1, h2⟩, fun _ => ⟨g, 0, cap, by rw [hlen], hlt, fun j x hj => ?_⟩⟩
    rw [List.getElem?_map] at hj
    obtain ⟨p, hp, rfl⟩ : ∃ p, L[j]? = some p ∧ p.1 = x := by
      cases hq : L[j]? with
      | none => rw [hq] at hj; cases hj
      | some p =>
        rw [hq] at hj
        injection hj with hj
        exact ⟨p, rfl, hj⟩
    have hjl : j < L.length := (List.getElem?_eq_some_iff.1 hp).1
    have key : ∀ i, i < 3 → W.cell? ⟨g, j * 3 + i, none⟩ = (nodC p)[i]? := fun i hi => by
      rw [World.ownsRow.cellAt h' (j * 3 + i) (by omega)]
      exact cellsN_get L j i p hp hi
    rw [Nat.zero_add]
    exact ⟨key 0 (by omega), key 1 (by omega), p.2, key 2 (by omega), (h.kid p (List.mem_of_getElem? hp)).kl⟩
theorem NOwn.mono {W : World} {base base' : Nat} {v : Value} {L : List (Nd × Value)} (h : NOwn W base v L) (hb : base' ≤ base) : NOwn W base' v L := ⟨own_mono h.row hb, fun p hp => own_mono (h.kid p hp) hb⟩
end Go.Proofs.YtbegplfijjbpcaaDoor.No
