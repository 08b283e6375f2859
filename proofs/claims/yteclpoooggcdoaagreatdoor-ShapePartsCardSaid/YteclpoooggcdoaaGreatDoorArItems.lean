/- The iterator of a pair's items (by wip/gen/mkaritems.py). -/
import Derived.Test.YteclpoooggcdoaaGreatDoorArA
import Derived.Test.YteclpoooggcdoaaGreatDoorRgA
import Derived.RangeFuncNested
import Derived.RangeFuncBound
import Derived.RangeFuncCalls
import Derived.RangeFuncLeaves
import Derived.Shelf.Abstract
import Derived.Shelf.RegionOpen
import Derived.WalkKit
import Derived.OwnWalkIn
import Derived.TacticsInMore
import Derived.LoopNIn
import Derived.LoopIn
import Derived.Outline
namespace Go.Proofs.YteclpoooggcdoaaGreatDoor.Ar
open Go Go.RowKit Go.Shelf
attribute [local go_sem] Oper.semAt_some

/-- What a pair's iterator yields. -/
def pairsA (a b : Ary) : List (Int × Int) := (List.range (lenP a b)).map fun i => (itemA a i, itemA b i)
theorem pairs_len (a b : Ary) : (pairsA a b).length = lenP a b := by simp [pairsA]
theorem pairs_at {a b : Ary} {k : Nat} (h : k < lenP a b) : (pairsA a b)[k]? = some (itemA a k, itemA b k) := by simp [pairsA, h]
/-- They can be gone through. -/
structure Fits (a b : Ary) : Prop where
  one : a.list = false → a.n.length = 1
  two : b.list = false → b.n.length = 1
  both : a.list = true → b.list = true → a.n.length = b.n.length
theorem Fits.left {a b : Ary} (h : Fits a b) {k : Nat} (hk : k < lenP a b) : if a.list then k < a.n.length else 0 < a.n.length := by
  obtain ⟨L, R, N⟩ := a
  obtain ⟨h1, h2, h3⟩ := h
  unfold lenP at hk
  cases L <;> simp_all
theorem Fits.right {a b : Ary} (h : Fits a b) {k : Nat} (hk : k < lenP a b) : if b.list then k < b.n.length else 0 < b.n.length := by
  obtain ⟨L, R, N⟩ := a
  obtain ⟨L2, R2, N2⟩ := b
  obtain ⟨h1, h2, h3⟩ := h
  unfold lenP at hk
  cases L <;> cases L2 <;> simp_all
def encP (x : Int × Int) : Array Value := #[.int .i64 x.1, .int .i64 x.2]
section
variable {F : Fence} {n : Nat} {P : Program}
theorem op_yieldv {o : Oper} {a : Act} {w : World} {Q : Exit → Act → World → Prop} {K : Value → World → Prop} (l : Nat) (args : Array Value) (hrun : ∀ l' fn tmps assign body, (Instr.yield l args).run P w = .ok (.round l' fn tmps assign body) w → (o.semAt F.round a.eval).run P w = .ok (.round l' fn tmps assign body) w) (hab : ∀ f, o.about P w a.eval = some f → F.fn f) (hn : 1 ≤ n) (hc : YieldAt F (n - 1) P l args w fun e w' => ∃ v, e = .returned v ∧ K v w') : o.wpIn F n P a w (fun a'' W'' => ∃ v, a'' = a.put o.dst v ∧ K v W'') Q := by
  obtain ⟨fn, tmps, assign, body, hy, hr⟩ := hc
  refine ⟨hab, ?_⟩
  rw [hrun _ _ _ _ _ hy, Oper.uponIn_round]
  refine ⟨fun _ => hn, hr.mono ?_⟩
  rintro e w' ⟨v, rfl, hk⟩
  exact ⟨v, rfl, hk⟩
end

/-- How far a round is. -/
def PhI (Kp : World → World → Prop) (J Jx : List (Int × Int) → World → Prop) (w : World) (n₀ : Nat) (L L2 : List (Int × Int)) (x y : Int) (ph : Nat) (v4 v8 v9 v10 : Value) (W : World) : Prop := match ph with
  | 0 => Kp w W ∧ J L W ∧ n₀ ≤ W.heap.size
  | 1 => Kp w W ∧ J L W ∧ n₀ ≤ W.heap.size ∧ v4 = .int .i64 x
  | 2 => Kp w W ∧ J L W ∧ n₀ ≤ W.heap.size ∧ v4 = .int .i64 x ∧ v8 = .int .i64 y
  | 3 => (v9 = .bool true ∧ J L2 W ∧ Kp w W ∧ n₀ ≤ W.heap.size) ∨ (v9 = .bool false ∧ Jx L2 W)
  | _ => (v10 = .bool false ∧ J L2 W ∧ Kp w W ∧ n₀ ≤ W.heap.size) ∨ (v10 = .bool true ∧ Jx L2 W)
end Go.Proofs.YteclpoooggcdoaaGreatDoor.Ar
