/- Glyphs' functions of one, through an array. -/
import Derived.Test.YteclpoooggcdoaaGreatDoorArFn
import Derived.Test.YteclpoooggcdoaaGreatDoorArA
namespace Go.Proofs.YteclpoooggcdoaaGreatDoor.Ar
open Go Go.RowKit Go.Shelf
attribute [local go_sem] Oper.semAt_some

theorem arys_one {W : World} {a : Ary} {s : Value} (hs : KL W s a.n) (hi : InL a.n) : ArysAt (W.alloc (.cells #[.bool a.list, .bool a.runes, s] 24)) W.heap.size 0 [a] := by
  refine ⟨by rw [World.size_alloc]; exact Nat.lt_succ_self _, fun j x hj => ?_⟩
  have hjl : j < 1 := (List.getElem?_eq_some_iff.1 hj).1
  obtain rfl : j = 0 := by omega
  obtain rfl : a = x := by simpa using hj
  refine ⟨s, ?_, ?_, ?_, hs.below ((Below.refl _ _).alloc (Nat.le_refl _) _), hi⟩ <;> simp
theorem arys_two {W : World} {a b : Ary} {s t : Value} (hs : KL W s a.n) (ht : KL W t b.n) (hi : InL a.n) (hj : InL b.n) : ArysAt (W.alloc (.cells #[.bool a.list, .bool a.runes, s, .bool b.list, .bool b.runes, t] 24)) W.heap.size 0 [a, b] := by
  refine ⟨by rw [World.size_alloc]; exact Nat.lt_succ_self _, fun j x hx => ?_⟩
  have hjl : j < 2 := (List.getElem?_eq_some_iff.1 hx).1
  have hb := (Below.refl W.heap.size W).alloc (Nat.le_refl _) (.cells #[.bool a.list, .bool a.runes, s, .bool b.list, .bool b.runes, t] 24)
  obtain rfl | rfl : j = 0 ∨ j = 1 := by omega
  · obtain rfl : a = x := by simpa using hx
    refine ⟨s, ?_, ?_, ?_, hs.below hb, hi⟩ <;> simp
  · obtain rfl : b = x := by simpa using hx
    refine ⟨t, ?_, ?_, ?_, ht.below hb, hj⟩ <;> simp
theorem right_1 (a : Ary) (s : Value) (W : World) (hs : KL W s a.n) (hi : InL a.n) : Calls Tryz.prog 41 #[.slice (some ⟨W.heap.size, 0, none⟩) 1 1] (W.alloc (.cells #[.bool a.list, .bool a.runes, s] 24)) fun e w' => e = .returned (.bool (rightA a)) ∧ Below W.heap.size W w' := by
  have hb := (Below.refl W.heap.size W).alloc (Nat.le_refl _) (.cells #[.bool a.list, .bool a.runes, s] 24)
  refine (allRight_c W.heap.size 0 1 [a] _ (arys_one hs hi) (by simp)).mono ?_
  rintro e w' ⟨rfl, h⟩
  exact ⟨by simp, hb.trans (h.mono hb.size)⟩
theorem right_2 (a b : Ary) (s t : Value) (W : World) (hs : KL W s a.n) (ht : KL W t b.n) (hi : InL a.n) (hj : InL b.n) : Calls Tryz.prog 41 #[.slice (some ⟨W.heap.size, 0, none⟩) 2 2] (W.alloc (.cells #[.bool a.list, .bool a.runes, s, .bool b.list, .bool b.runes, t] 24)) fun e w' => e = .returned (.bool (rightA a && rightA b)) ∧ Below W.heap.size W w' := by
  have hb := (Below.refl W.heap.size W).alloc (Nat.le_refl _) (.cells #[.bool a.list, .bool a.runes, s, .bool b.list, .bool b.runes, t] 24)
  refine (allRight_c W.heap.size 0 2 [a, b] _ (arys_two hs ht hi hj) (by simp)).mono ?_
  rintro e w' ⟨rfl, h⟩
  exact ⟨by simp, hb.trans (h.mono hb.size)⟩
/-- An array and a number are told. -/
def OutN (L : Bool) (ns : List Int) (c : Int) (w : World) (e : Ending) (w' : World) : Prop := Below w.heap.size w w' ∧
  ((c = 0 ∧ ∃ v, e = .returned (.tuple #[.agg #[.bool L, .bool false, v], .int .i64 0]) ∧ IOwn w' w.heap.size v ns) ∨ (c ≠ 0 ∧ e = .returned (.tuple #[.agg #[.bool false, .bool false, .slice none 0 0], .int .i64 c])))
/-- What a glyph's function of one comes to. -/
def monE (g : ByteArray) (a : Ary) : Int := if rightA a then (if decide (Nu.whichM g < 8) && !hasR a then thrE (fun _ y => Nu.monN (Nu.whichM g) y) (pairsA a a) else 102) else 114
def monL (g : ByteArray) (a : Ary) : List Int := thrN (fun _ y => Nu.monN (Nu.whichM g) y) (pairsA a a)
end Go.Proofs.YteclpoooggcdoaaGreatDoor.Ar
