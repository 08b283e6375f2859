/- shown(). -/
import Derived.Test.YteclpoooggcdoaaGreatDoorArShown
namespace Go.Proofs.YteclpoooggcdoaaGreatDoor.Ar
open Go Go.RowKit Go.Shelf
attribute [local go_sem] Oper.semAt_some

theorem OutN.ok {L : Bool} {ns : List Int} {c : Int} {w w' : World} {e : Ending} (ho : OutN L ns c w e w') (hz : c = 0) : ∃ va vn vc, e = .returned (.tuple #[.agg #[.bool L, .bool false, .slice va vn vc], .int .i64 0]) ∧ IOwn w' w.heap.size (.slice va vn vc) ns ∧ Below w.heap.size w w' := by
  obtain ⟨hb, ⟨_, v, rfl, hown⟩ | ⟨h1, _⟩⟩ := ho
  · obtain ⟨va, vc, rfl, -, -⟩ := hown.form
    exact ⟨_, _, _, rfl, hown, hb⟩
  · exact absurd hz h1
theorem OutN.bad {L : Bool} {ns : List Int} {c : Int} {w w' : World} {e : Ending} (ho : OutN L ns c w e w') (hz : c ≠ 0) : e = .returned (.tuple #[.agg #[.bool false, .bool false, .slice none 0 0], .int .i64 c]) ∧ Below w.heap.size w w' := by
  obtain ⟨hb, ⟨h1, _⟩ | ⟨_, he⟩⟩ := ho
  · exact absurd h1 hz
  · exact ⟨he, hb⟩
theorem kl_new1 (W : World) (x : Int) : KL (W.alloc (.cells #[.int .i64 x] 2)) (.slice (some ⟨W.heap.size, 0, none⟩) 1 1) [x] := by
  refine ⟨⟨_, 1, rfl, Nat.le_refl _, by decide⟩, fun _ => ⟨_, 0, 1, rfl, by rw [World.size_alloc]; exact Nat.lt_succ_self _, fun j y hj => ?_⟩⟩
  have hjl : j < 1 := (List.getElem?_eq_some_iff.1 hj).1
  obtain rfl : j = 0 := by omega
  obtain rfl : x = y := by simpa using hj
  simp
theorem kl_new2 (W : World) (x y : Int) : KL (W.alloc (.cells #[.int .i64 x, .int .i64 y] 2)) (.slice (some ⟨W.heap.size, 0, none⟩) 2 2) [x, y] := by
  refine ⟨⟨_, 2, rfl, Nat.le_refl _, by decide⟩, fun _ => ⟨_, 0, 2, rfl, by rw [World.size_alloc]; exact Nat.lt_succ_self _, fun j z hj => ?_⟩⟩
  have hjl : j < 2 := (List.getElem?_eq_some_iff.1 hj).1
  obtain rfl | rfl : j = 0 ∨ j = 1 := by omega
  · obtain rfl : x = z := by simpa using hj
    simp
  · obtain rfl : y = z := by simpa using hj
    simp
theorem in_l {L : List Int} (h : L.all (fun x => decide (Nu.In x)) = true) : InL L := fun x hx => by
  rw [List.all_eq_true] at h
  simpa using h x hx
end Go.Proofs.YteclpoooggcdoaaGreatDoor.Ar
