/- The functions that go through pairs; glyphs' functions of one. -/
import Derived.Test.YteclpoooggcdoaaGreatDoorArThru
import Derived.Test.YteclpoooggcdoaaGreatDoorArA
namespace Go.Proofs.YteclpoooggcdoaaGreatDoor.Ar
open Go Go.RowKit Go.Shelf
attribute [local go_sem] Oper.semAt_some

/-- A pair's function of two. -/
def fnA (g : ByteArray) (a b : Ary) (x y : Int) : Int × Int := if a.runes = b.runes then Nu.dyN (Nu.whichD g) x y else Nu.dyN (Nu.whichD g) 0 1
theorem right_cnt {a : Ary} (h : rightA a = true) : a.n.length ≤ 200 ∧ (a.list = false → a.n.length = 1) := by
  obtain ⟨L, R, N⟩ := a
  simp only [rightA, cntA, Bool.and_eq_true] at h
  obtain ⟨h, -⟩ := h
  cases L
  · simp at h
    exact ⟨by rw [h]; decide, fun _ => h⟩
  · simp at h
    exact ⟨h, fun e => by cases e⟩
theorem lenP_le {a b : Ary} (ha : rightA a = true) (hb : rightA b = true) : lenP a b ≤ 200 := by
  unfold lenP
  split
  · exact (right_cnt ha).1
  · exact (right_cnt hb).1
end Go.Proofs.YteclpoooggcdoaaGreatDoor.Ar
