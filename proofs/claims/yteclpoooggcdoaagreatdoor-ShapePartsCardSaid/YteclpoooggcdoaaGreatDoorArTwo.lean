/- Glyphs' functions of two, through two arrays (by wip/gen/mkartwo.py). -/
import Derived.Test.YteclpoooggcdoaaGreatDoorArOne
import Derived.Deep.RegionHeldLaw
namespace Go.Proofs.YteclpoooggcdoaaGreatDoor.Ar
open Go Go.RowKit Go.Shelf
attribute [local go_sem] Oper.semAt_some

/-- What a glyph's function of two comes to. -/
def dyE (g : ByteArray) (a b : Ary) : Int := if rightA a && rightA b then (if decide (Nu.whichD g < 15) then (if differA a b then 110 else (if !takesA g && (hasR a || hasR b) then 102 else thrE (fnA g a b) (pairsA a b))) else 102) else 114
def dyL (g : ByteArray) (a b : Ary) : List Int := thrN (fnA g a b) (pairsA a b)
theorem fits_of {a b : Ary} (ha : rightA a = true) (hb : rightA b = true) (hd : differA a b = false) : Fits a b :=
  ⟨(right_cnt ha).2, (right_cnt hb).2, fun h1 h2 => by
    unfold differA at hd
    rw [h1, h2] at hd
    simpa using hd⟩
theorem row6 {W : World} {k : Nat} {t : TypeId} {a b c d e f : Value} (r : Row W k t #[a, b, c, d, e, f]) : W.cell? ⟨k, 0, none⟩ = some a ∧ W.cell? ⟨k, 1, none⟩ = some b ∧ W.cell? ⟨k, 2, none⟩ = some c ∧ W.cell? ⟨k, 3, none⟩ = some d ∧ W.cell? ⟨k, 4, none⟩ = some e ∧ W.cell? ⟨k, 5, none⟩ = some f := by
  have c0 := r.cell 0
  have c1 := r.cell 1
  have c2 := r.cell 2
  have c3 := r.cell 3
  have c4 := r.cell 4
  have c5 := r.cell 5
  simp at c0 c1 c2 c3 c4 c5
  exact ⟨c0, c1, c2, c3, c4, c5⟩
end Go.Proofs.YteclpoooggcdoaaGreatDoor.Ar
