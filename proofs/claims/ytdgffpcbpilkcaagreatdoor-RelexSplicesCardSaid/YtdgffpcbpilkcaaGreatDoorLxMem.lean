/- Tokens in memory. -/
import Derived.Test.YtdgffpcbpilkcaaGreatDoorLxTokens
import Derived.OwnWalkIn
import Derived.Maps.AppendAt
import Derived.Deep.AppendLies
namespace Go.Proofs.YtdgffpcbpilkcaaGreatDoor
open Go Go.RowKit Go.Shelf
attribute [local go_sem] Oper.semAt_some

/-- A token's cells, as a list; some tokens' cells. -/
def tokL (t : Tk) : List Value := [.int .i64 ((t.kind : Nat) : Int), .string (bs t.text), .string (bs t.glyph)]
def cellsL (L : List Tk) : List Value := L.flatMap tokL
theorem cellsL_len : ∀ L : List Tk, (cellsL L).length = L.length * 3
  | [] => rfl
  | t :: L => by
    show (tokL t ++ cellsL L).length = _
    rw [List.length_append, cellsL_len L]
    simp [tokL]
    omega
theorem cellsL_snoc (L : List Tk) (t : Tk) : cellsL (L ++ [t]) = cellsL L ++ tokL t := by simp [cellsL]
theorem cellsL_get : ∀ (L : List Tk) (j i : Nat) (t : Tk), L[j]? = some t → i < 3 → (cellsL L)[j * 3 + i]? = (tokL t)[i]?
  | [], _, _, _, h, _ => by simp at h
  | x :: L, 0, i, t, h, hi => by
    obtain rfl : x = t := by simpa using h
    show (tokL x ++ cellsL L)[0 * 3 + i]? = _
    rw [List.getElem?_append_left (by simp [tokL]; omega)]
    simp
  | x :: L, j + 1, i, t, h, hi => by
    show (tokL x ++ cellsL L)[(j + 1) * 3 + i]? = _
    rw [List.getElem?_append_right (by simp [tokL]; omega)]
    have e : (j + 1) * 3 + i - (tokL x).length = j * 3 + i := by simp [tokL]; omega
    rw [e]
    exact cellsL_get L j i t (by simpa using h) hi
theorem tokL_one (t : Tk) : ∀ u ∈ tokL t, u.oneCell' = true := by
  intro u hu
  simp [tokL] at hu
  rcases hu with rfl | rfl | rfl <;> rfl

/-- THE SLICE VALUE v IS THE LIST L: where it is, and what its cells hold. -/
structure TL (W : World) (v : Value) (L : List Tk) : Prop where
  form : ∃ a0 c0, v = .slice a0 L.length c0 ∧ L.length ≤ c0 ∧ c0 ≤ maxLen
  cells : 0 < L.length → ∃ g o c0, v = .slice (some ⟨g, o, none⟩) L.length c0 ∧ g < W.heap.size ∧ ∀ j t, L[j]? = some t →
    W.cell? ⟨g, o + j * 3, none⟩ = some (.int .i64 ((t.kind : Nat) : Int)) ∧ W.cell? ⟨g, o + j * 3 + 1, none⟩ = some (.string (bs t.text)) ∧ W.cell? ⟨g, o + j * 3 + 2, none⟩ = some (.string (bs t.glyph))
theorem TL.below {W W' : World} {v : Value} {L : List Tk} (h : TL W v L) (hb : Below W.heap.size W W') : TL W' v L := by
  refine ⟨h.form, fun h0 => ?_⟩
  obtain ⟨g, o, c0, hv, hg, hc⟩ := h.cells h0
  refine ⟨g, o, c0, hv, Nat.lt_of_lt_of_le hg hb.size, fun j t hj => ?_⟩
  have hb2 : ∀ i, W'.cell? ⟨g, i, none⟩ = W.cell? ⟨g, i, none⟩ := fun i => hb.cell (p := ⟨g, i, none⟩) hg
  rw [hb2, hb2, hb2]
  exact hc j t hj
theorem TL.nil (W : World) : TL W (.slice none 0 0) [] := ⟨⟨none, 0, rfl, Nat.le_refl _, Nat.zero_le _⟩, fun h => by simp at h⟩

/-- v owns the list L, in a block from base on. -/
abbrev OwnL (W : World) (base : Nat) (v : Value) (L : List Tk) : Prop := W.ownsRow base 55 3 v L.length (cellsL L)
theorem OwnL.tl {W : World} {base : Nat} {v : Value} {L : List Tk} (hl : L.length ≤ maxLen) (h : OwnL W base v L) : TL W v L := by
  rcases h.2 with ⟨hv, h0⟩ | ⟨g, cap, cur, hv, hg, hh, h1, h2, h3, h4⟩
  · have : L = [] := List.length_eq_zero_iff.1 h0
    subst this
    rw [hv]
    exact TL.nil W
  · subst hv
    have hlt := (Array.getElem?_eq_some_iff.1 hh).1
    refine ⟨⟨_, cap, rfl, h1, h2⟩, fun _ => ⟨g, 0, cap, rfl, hlt, fun j t hj => ?_⟩⟩
    have hjl : j < L.length := (List.getElem?_eq_some_iff.1 hj).1
    have key : ∀ i, i < 3 → W.cell? ⟨g, j * 3 + i, none⟩ = (tokL t)[i]? := fun i hi => by
      rw [World.ownsRow.cellAt h (j * 3 + i) (by omega)]
      exact cellsL_get L j i t hj hi
    refine ⟨?_, ?_, ?_⟩
    · rw [Nat.zero_add]; exact key 0 (by omega)
    · rw [Nat.zero_add]; exact key 1 (by omega)
    · rw [Nat.zero_add]; exact key 2 (by omega)

theorem Tryz.infoTok : (Tryz.prog.info? 55).map (fun i => (i.zero, i.size, i.bytes)) = some (some (.agg #[.int .i64 0, .string ⟨#[]⟩, .string ⟨#[]⟩]), 3, 40) := by kernel_rfl
theorem info_tok : ∃ i, Tryz.prog.info? 55 = some i ∧ i.zero = some (.agg #[.int .i64 0, .string ⟨#[]⟩, .string ⟨#[]⟩]) ∧ i.size = 3 ∧ i.bytes = 40 := by
  have h := Tryz.infoTok
  cases hi : Tryz.prog.info? 55 with
  | none => rw [hi] at h; cases h
  | some i =>
    rw [hi] at h
    simp at h
    exact ⟨i, rfl, h.1, h.2.1, h.2.2⟩

/-! ### An owned list over the steps of others -/
theorem ownL_step {t : TypeId} (ht : t ≠ 55) {n base : Nat} {X Y : World} {v : Value} {k : Nat} {xs : List Value} (h : X.ownsRow base 55 3 v k xs) (hb : StepT t n X Y) : Y.ownsRow base 55 3 v k xs := by
  refine ⟨h.1, ?_⟩
  rcases h.2 with hn | ⟨g, cap, cur, e1, e2, e3, e4⟩
  · exact .inl hn
  · exact .inr ⟨g, cap, cur, e1, e2, hb.2 g _ e3 (fun c e => by cases e; exact ht rfl), e4⟩
theorem ownL_put {base l : Nat} {X : World} {r r' : Loop} {v : Value} {k : Nat} {xs : List Value} (h : X.ownsRow base 55 3 v k xs) (hl : X.heap[l]? = some (.loop r)) : (X.putObj l (.loop r')).ownsRow base 55 3 v k xs := by
  refine ⟨h.1, ?_⟩
  rcases h.2 with hn | ⟨g, cap, cur, e1, e2, e3, e4⟩
  · exact .inl hn
  · refine .inr ⟨g, cap, cur, e1, e2, ?_, e4⟩
    have hne : g ≠ l := fun e => by rw [e, hl] at e3; cases e3
    exact (World.putObj_heap_other hne).trans e3
theorem below_put {n l : Nat} {w X : World} {r r' : Loop} (h : Below n w X) (hn : n ≤ l) (hl : X.heap[l]? = some (.loop r)) : Below n w (X.putObj l (.loop r')) :=
  h.trans ((Below.refl n X).grown (grownBy_putObj' X l _) (by have := (Array.getElem?_eq_some_iff.1 hl).1; omega) (fun k e => by cases e; exact hn))
theorem keepT_alloc {t ts : TypeId} {n : Nat} {W : World} (hn : n ≤ W.heap.size) (o : Obj) : KeepT t ts n W (W.alloc o) :=
  ⟨(Below.refl n W).alloc hn o, fun k _ ho _ => (Below.heap_alloc W o k (Array.getElem?_eq_some_iff.1 ho).1).trans ho⟩

/-- The tokens that were gone through. -/
def tksOf (T : List UInt8) (pre : List (Ix (nT T))) : List Tk := pre.map fun x => tkAt T x.1
theorem tksOf_len (T : List UInt8) (pre : List (Ix (nT T))) : (tksOf T pre).length = pre.length := by simp [tksOf]
theorem tksOf_all {T : List UInt8} {zs : List (Ix (nT T))} (h : zs.map (·.1) = List.range (nT T)) : tksOf T zs = toks st T 0 := by
  have e : tksOf T zs = (zs.map (·.1)).map (tkAt T) := by simp [tksOf]
  rw [e, h]
  refine List.ext_getElem (by simp [nT]) (fun i h1 h2 => ?_)
  simp only [List.getElem_map, List.getElem_range]
  unfold tkAt
  rw [List.getD_eq_getElem?_getD, List.getElem?_eq_getElem h2]
  rfl
end Go.Proofs.YtdgffpcbpilkcaaGreatDoor
