/- Tokens in memory, of any kind, on a base of its own (by wip/gen/gr_base.py). -/
import Derived.Test.YthbiflmmlcmncaaDoorRsBase
namespace Go.Proofs.YthbiflmmlcmncaaDoor.Ti
open Go Go.RowKit Go.Shelf
attribute [local go_sem] Oper.semAt_some

/-- A token of any kind. -/
structure Tk where
  kind : Int
  text : List UInt8
  glyph : List UInt8
deriving DecidableEq
/-- A token's cells, as a list; some tokens' cells. -/
def tokL (t : Tk) : List Value := [.int .i64 t.kind, .string (bs t.text), .string (bs t.glyph)]
def cellsL (L : List Tk) : List Value := L.flatMap tokL
theorem cellsL_len : ∀ L : List Tk, (cellsL L).length = L.length * 3
  | [] => rfl
  | t :: L => by
    show (tokL t ++ cellsL L).length = _
    rw [List.length_append, cellsL_len L]
    simp [tokL]
    omega
theorem cellsL_snoc (L : List Tk) (t : Tk) : cellsL (L ++ [t]) = cellsL L ++ tokL t := by simp [cellsL]
theorem cellsL_get : ∀ (L : List Tk) (j i : Nat) (t : Tk), L[j]? = some t → i < 3 → (cellsL L)[j * 3 + i]? = (tokL t)[i]?
  | [], _, _, _, h, _ => by simp at h
  | x :: L, 0, i, t, h, hi => by
    obtain rfl : x = t := by simpa using h
    show (tokL x ++ cellsL L)[0 * 3 + i]? = _
    rw [List.getElem?_append_left (by simp [tokL]; omega)]
    simp
  | x :: L, j + 1, i, t, h, hi => by
    show (tokL x ++ cellsL L)[(j + 1) * 3 + i]? = _
    rw [List.getElem?_append_right (by simp [tokL]; omega)]
    have e : (j + 1) * 3 + i - (tokL x).length = j * 3 + i := by simp [tokL]; omega
    rw [e]
    exact cellsL_get L j i t (by simpa using h) hi
theorem tokL_one (t : Tk) : ∀ u ∈ tokL t, u.oneCell' = true := by
  intro u hu
  simp [tokL] at hu
  rcases hu with rfl | rfl | rfl <;> rfl
/-- THE SLICE VALUE v IS THE LIST L: where it is, and what its cells hold. -/
structure TL (W : World) (v : Value) (L : List Tk) : Prop where
  form : ∃ a0 c0, v = .slice a0 L.length c0 ∧ L.length ≤ c0 ∧ c0 ≤ maxLen
  cells : 0 < L.length → ∃ g o c0, v = .slice (some ⟨g, o, none⟩) L.length c0 ∧ g < W.heap.size ∧ ∀ j t, L[j]? = some t →
    W.cell? ⟨g, o + j * 3, none⟩ = some (.int .i64 t.kind) ∧ W.cell? ⟨g, o + j * 3 + 1, none⟩ = some (.string (bs t.text)) ∧ W.cell? ⟨g, o + j * 3 + 2, none⟩ = some (.string (bs t.glyph))
theorem TL.below {W W' : World} {v : Value} {L : List Tk} (h : TL W v L) (hb : Below W.heap.size W W') : TL W' v L := by
  refine ⟨h.form, fun h0 => ?_⟩
  obtain ⟨g, o, c0, hv, hg, hc⟩ := h.cells h0
  refine ⟨g, o, c0, hv, Nat.lt_of_lt_of_le hg hb.size, fun j t hj => ?_⟩
  have hb2 : ∀ i, W'.cell? ⟨g, i, none⟩ = W.cell? ⟨g, i, none⟩ := fun i => hb.cell (p := ⟨g, i, none⟩) hg
  rw [hb2, hb2, hb2]
  exact hc j t hj
theorem TL.nil (W : World) : TL W (.slice none 0 0) [] := ⟨⟨none, 0, rfl, Nat.le_refl _, Nat.zero_le _⟩, fun h => by simp at h⟩
/-- v owns the list L, in a block from base on. -/
abbrev OwnL (W : World) (base : Nat) (v : Value) (L : List Tk) : Prop := W.ownsRow base 31 3 v L.length (cellsL L)
theorem OwnL.tl {W : World} {base : Nat} {v : Value} {L : List Tk} (hl : L.length ≤ maxLen) (h : OwnL W base v L) : TL W v L := by
  rcases h.2 with ⟨hv, h0⟩ | ⟨g, cap, cur, hv, hg, hh, h1, h2, h3, h4⟩
  · have : L = [] := List.length_eq_zero_iff.1 h0
    subst this
    rw [hv]
    exact TL.nil W
  · subst hv
    have hlt := (Array.getElem?_eq_some_iff.1 hh).1
    refine ⟨⟨_, cap, rfl, h1, h2⟩, fun _ => ⟨g, 0, cap, rfl, hlt, fun j t hj => ?_⟩⟩
    have hjl : j < L.length := (List.getElem?_eq_some_iff.1 hj).1
    have key : ∀ i, i < 3 → W.cell? ⟨g, j * 3 + i, none⟩ = (tokL t)[i]? := fun i hi => by
      rw [World.ownsRow.cellAt h (j * 3 + i) (by omega)]
      exact cellsL_get L j i t hj hi
    refine ⟨?_, ?_, ?_⟩
    · rw [Nat.zero_add]; exact key 0 (by omega)
    · rw [Nat.zero_add]; exact key 1 (by omega)
    · rw [Nat.zero_add]; exact key 2 (by omega)
theorem info_tok : ∃ i, Tryd.prog.info? 31 = some i ∧ i.zero = some (.agg #[.int .i64 0, .string ⟨#[]⟩, .string ⟨#[]⟩]) ∧ i.size = 3 ∧ i.bytes = 40 := Rs.info_tok
theorem ext_take (T : List UInt8) (n : Nat) : (bs T).extract 0 n = bs (T.take n) := Rs.ext_take T n
/-- The first three hundred bytes. -/
def cutT (T : List UInt8) : List UInt8 := T.take 300
theorem cutT_len (T : List UInt8) : (cutT T).length ≤ 300 := by unfold cutT; rw [List.length_take]; omega
theorem tk_ext {t u : Tk} (h1 : t.kind = u.kind) (h2 : t.text = u.text) (h3 : t.glyph = u.glyph) : t = u := by
  cases t; cases u; simp_all
theorem bs_ne {a b : List UInt8} (h : a ≠ b) : ((bs a).toList == (bs b).toList) = false := by
  rw [ByteArray.toList_eq, ByteArray.toList_eq, bs_list, bs_list]
  simpa using h
theorem sameUpTo {L M : List Tk} (hl : L.length = M.length) (h : ∀ j, j < L.length → L[j]? = M[j]?) : L = M :=
  List.ext_getElem? fun j => by
    rcases Nat.lt_or_ge j L.length with h1 | h1
    · exact h j h1
    · rw [List.getElem?_eq_none h1, List.getElem?_eq_none (by omega)]
end Go.Proofs.YthbiflmmlcmncaaDoor.Ti
