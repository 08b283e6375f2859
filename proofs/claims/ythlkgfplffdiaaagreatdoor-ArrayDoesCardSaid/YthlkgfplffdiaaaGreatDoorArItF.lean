/- One item of each of two arrays, and what comes of them: plain facts; a slice of one item. -/
import Derived.Test.YthlkgfplffdiaaaGreatDoorArBox
import Derived.Test.YthlkgfplffdiaaaGreatDoorArEq
namespace Go.Proofs.YthlkgfplffdiaaaGreatDoor.Ar
open Go Go.RowKit Go.Shelf

/-- The item at a place of a list, or the only one: as a slice. -/
def cutI (L : Bool) (X : List Int) (k : Nat) : List Int := if L then (X.drop k).take 1 else X.take 1
theorem cut_item {a : Ary} {k : Nat} (h : if a.list then k < a.n.length else 0 < a.n.length) : cutI a.list a.n k = [itemA a k] := by
  obtain ⟨L, R, N⟩ := a
  unfold cutI itemA
  cases L
  · cases N with
    | nil => simp at h
    | cons x xs => rfl
  · dsimp only at h ⊢
    rw [if_pos rfl] at h
    rw [if_pos rfl, if_pos rfl, List.drop_eq_getElem_cons h, List.getD_eq_getElem?_getD, List.getElem?_eq_getElem h]
    rfl
theorem lens_at {g : ByteArray} {a b : Ary} (h : dyE g a b = 0) {k : Nat} (hk : k < (dyZ g a b).n.length) : (if a.list then k < a.n.length else 0 < a.n.length) ∧ (if b.list then k < b.n.length else 0 < b.n.length) := by
  obtain ⟨h1, h2, h3, -⟩ := dyE_ok h
  rw [(dyZ_right h).2.1] at hk
  have r1 := (right_cnt h1).2
  have r2 := (right_cnt h2).2
  obtain ⟨L, R, N⟩ := a
  obtain ⟨L2, R2, N2⟩ := b
  unfold lenP at hk
  unfold differA at h3
  dsimp only at *
  cases L <;> cases L2 <;> simp at * <;> omega
theorem item_mem {a : Ary} {k : Nat} (h : if a.list then k < a.n.length else 0 < a.n.length) : itemA a k ∈ a.n := by
  unfold itemA
  split at h
  · rename_i hl
    rw [if_pos hl, List.getD_eq_getElem?_getD, List.getElem?_eq_getElem h]
    exact List.getElem_mem h
  · rename_i hl
    rw [if_neg hl, List.getD_eq_getElem?_getD, List.getElem?_eq_getElem h]
    exact List.getElem_mem h
theorem right_one {a : Ary} {k : Nat} (hr : rightA a = true) (h : if a.list then k < a.n.length else 0 < a.n.length) : rightA ⟨false, a.runes, [itemA a k]⟩ = true := by
  have hm := item_mem h
  unfold rightA at hr ⊢
  rw [Bool.and_eq_true] at hr
  rw [Bool.and_eq_true]
  refine ⟨rfl, ?_⟩
  have h2 := hr.2
  cases ha : a.runes with
  | false => rfl
  | true =>
    rw [ha] at h2
    have h3 : a.n.all runeN = true := h2
    show (!true || [itemA a k].all runeN) = true
    simp only [List.all_cons, List.all_nil, Bool.and_true, Bool.not_true, Bool.false_or]
    exact List.all_eq_true.1 h3 _ hm
theorem has_one {a : Ary} {k : Nat} (h : if a.list then k < a.n.length else 0 < a.n.length) : hasR ⟨false, a.runes, [itemA a k]⟩ = hasR a := by
  have h0 : 0 < a.n.length := by split at h <;> omega
  unfold hasR
  rw [decide_eq_true h0]
  rfl
theorem one_of {g : ByteArray} {a b : Ary} (h : dyE g a b = 0) {k : Nat} (hk : k < (dyZ g a b).n.length) :
    dyE g ⟨false, a.runes, cutI a.list a.n k⟩ ⟨false, b.runes, cutI b.list b.n k⟩ = 0 ∧ ∃ v, dyZ g ⟨false, a.runes, cutI a.list a.n k⟩ ⟨false, b.runes, cutI b.list b.n k⟩ = ⟨false, false, [v]⟩ ∧ (dyZ g a b).n[k]? = some v := by
  obtain ⟨p, q⟩ := lens_at h hk
  rw [cut_item p, cut_item q]
  obtain ⟨h1, h2, h3, h4, h5, h6⟩ := dyE_ok h
  have hlen := hk
  rw [(dyZ_right h).2.1] at hlen
  have hp := pairs_at hlen
  have h0 := thrE_none h6 _ (List.mem_of_getElem? hp)
  have key : dyE g ⟨false, a.runes, [itemA a k]⟩ ⟨false, b.runes, [itemA b k]⟩ = 0 := by
    unfold dyE
    rw [right_one h1 p, right_one h2 q, if_pos (by rfl), if_pos (decide_eq_true h4), if_neg (by simp [differA]), has_one p, has_one q, h5, if_neg (by decide)]
    refine thrE_ok fun x hx => ?_
    have e : x = (itemA a k, itemA b k) := by
      have hx' : x ∈ [(itemA a k, itemA b k)] := hx
      simpa using hx'
    rw [e]
    exact h0
  refine ⟨key, (fnA g a b (itemA a k) (itemA b k)).1, ?_, ?_⟩
  · unfold dyZ
    rw [if_pos key]
    rfl
  · unfold dyZ
    rw [if_pos h]
    show (dyL g a b)[k]? = _
    unfold dyL thrN
    rw [List.getElem?_map, hp]
    rfl
theorem KL.sub {W : World} {g o n c : Nat} {A : List Int} (h : KL W (.slice (some ⟨g, o, none⟩) n c) A) (k : Nat) (hk : k < n) : KL W (.slice (some ⟨g, o + k, none⟩) 1 (c - k)) ((A.drop k).take 1) := by
  obtain ⟨a0, c0, e, h1, h2⟩ := h.form
  injection e with e1 e2 e3
  subst e3
  have hl : ((A.drop k).take 1).length = 1 := by rw [List.length_take, List.length_drop]; omega
  refine ⟨⟨_, c - k, by rw [hl], by rw [hl]; omega, by omega⟩, fun h0 => ?_⟩
  obtain ⟨g', o', c', e', hg, hc⟩ := h.cells (by omega)
  injection e' with e1' e2' e3'
  injection e1' with e1'
  injection e1' with g1 g2 _
  subst g1
  subst g2
  rw [hl]
  refine ⟨g, o + k, c - k, rfl, hg, fun j x hj => ?_⟩
  have hj1 : j < 1 := by
    have := (List.getElem?_eq_some_iff.1 hj).1
    rw [hl] at this
    exact this
  rw [List.getElem?_take, if_pos hj1, List.getElem?_drop] at hj
  have := hc (k + j) x hj
  rw [← Nat.add_assoc] at this
  exact this
/-- A box of an array. -/
def StX (base : Nat) (x y s : Value) (u : Value) (W : World) : Prop := ∃ b, u = .pointer (some ⟨b, 0, none⟩) ∧ base ≤ b ∧ Row W b 24 #[x, y, s]
theorem StX.below {base : Nat} {x y s u : Value} {W W' : World} (hb : Below W.heap.size W W') (h : StX base x y s u W) : StX base x y s u W' := by
  obtain ⟨b, h1, h2, h3⟩ := h
  exact ⟨b, h1, h2, Row.below h3 hb (Row.lt h3)⟩
end Go.Proofs.YthlkgfplffdiaaaGreatDoor.Ar
