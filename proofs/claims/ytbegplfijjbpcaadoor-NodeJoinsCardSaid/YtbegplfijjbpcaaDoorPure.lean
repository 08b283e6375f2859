/- Plain facts on pieces: where each begins, what a text is cut into. Nothing of the program stands here. -/
import Derived.Below
import Derived.RangeFuncNested
import Derived.Scope
namespace Go.Proofs.YtbegplfijjbpcaaDoor
open Go Go.RowKit

section
variable {F : Fence} {n : Nat} {P : Program} {b : Frame} {a : Act} {k : List Item} {cs : List Frame} {w : World} {Q : Exit → Act → World → Prop}
theorem stepR_scope {c : Code} : step P (lone (b.atR a (.code (.scope c) :: k)) cs w) = .next (lone (b.atR a (.code c :: .inScope c :: k)) cs w) :=
  step_lone_go (by simp [stepG, stepG.exec, Frame.atR])
theorem stepR_inScope {c : Code} : step P (lone (b.atR a (.inScope c :: k)) cs w) = .next (lone (b.atR a k) cs w) :=
  step_lone_go (by simp [stepG, stepG.exec, Frame.atR])
/-- A scope that no goto leaves or turns back in, inside a fence. -/
theorem wpIn_scope_straight {c : Code} (h : c.wpIn F n P (Exit.noGoto Q) a w) : (Code.scope c).wpIn F n P Q a w := by
  intro b k cs hro hb hr
  have h0 : (lone (b.atR a (.code (.scope c) :: k)) cs w).fenced P F := fenced_calm hb hr rfl
  obtain ⟨e, a₁, w₁, hq, harr⟩ := h b (.inScope c :: k) cs hro hb hr
  cases e with
  | normal => exact ⟨.normal, a₁, w₁, hq, .head h0 stepR_scope (StepsIn.trans harr (.one (fenced_calm hb hr rfl) stepR_inScope))⟩
  | exit id =>
    have hx : exitTo id (.inScope c :: k) = exitTo id k := by simp [exitTo]
    exact ⟨_, a₁, w₁, hq, fun k' hk => .head h0 stepR_scope (harr.1 k' (by rw [hx]; exact hk)),
      fun hr' hk => let ⟨k₁, h1, h2⟩ := harr.2 hr' (by rw [hx]; exact hk); ⟨k₁, h1, .head h0 stepR_scope h2⟩⟩
  | goto l => exact hq.elim
  | ret => exact ⟨_, a₁, w₁, hq, .of_steps (.one h0 stepR_scope) harr⟩
  | panic ch => exact ⟨_, a₁, w₁, hq, .of_steps (.one h0 stepR_scope) harr⟩
  | outgrown => exact ⟨_, a₁, w₁, hq, .of_steps (.one h0 stepR_scope) harr⟩
end

/-- Where piece k begins. -/
def offs (S : Nat → ByteArray) : Nat → Nat
  | 0 => 0
  | k + 1 => offs S k + (S k).size
theorem offs_succ (S : Nat → ByteArray) (k : Nat) : offs S (k + 1) = offs S k + (S k).size := rfl
theorem offs_mono (S : Nat → ByteArray) : ∀ {j k : Nat}, j ≤ k → offs S j ≤ offs S k := by
  intro j k h
  induction k with
  | zero => obtain rfl : j = 0 := by omega
            exact Nat.le_refl _
  | succ k ih =>
    rcases Nat.lt_or_ge j (k + 1) with h1 | h1
    · have := ih (by omega); rw [offs_succ]; omega
    · obtain rfl : j = k + 1 := by omega
      exact Nat.le_refl _

/-- A piece's number. -/
abbrev Ix (len : Nat) : Type := { k : Nat // k < len }
/-- The pieces have come in their order. -/
def InOrder {len : Nat} (pre : List (Ix len)) : Prop := pre.map (·.1) = List.range pre.length
theorem inOrder_nil {len : Nat} : InOrder ([] : List (Ix len)) := rfl
theorem inOrder_snoc {len : Nat} {pre : List (Ix len)} {x : Ix len} : InOrder (pre ++ [x]) ↔ InOrder pre ∧ x.1 = pre.length := by
  unfold InOrder
  rw [List.map_append, List.length_append, List.length_singleton, List.range_succ]
  constructor
  · intro h
    have h' := List.append_inj' h rfl
    exact ⟨h'.1, by simpa using h'.2⟩
  · rintro ⟨h1, h2⟩
    rw [h1]; simp [h2]
theorem inOrder_of {len k : Nat} {pre : List (Ix len)} (h : pre.map (·.1) = List.range k) : InOrder pre ∧ pre.length = k := by
  have hl := congrArg List.length h
  simp at hl
  exact ⟨by unfold InOrder; rw [h, hl], hl⟩
theorem range_snoc {len k : Nat} {pre : List (Ix len)} (h : pre.map (·.1) = List.range k) (hk : k < len) : (pre ++ [(⟨k, hk⟩ : Ix len)]).map (·.1) = List.range (k + 1) := by
  rw [List.map_append, h, List.range_succ]; rfl

/-- WHAT A ROUND KEEPS: what lay below n₀; and the cells that have been laid from n₁ on (the iterator's own boxes among them). -/
structure Keeps (n₀ n₁ : Nat) (W W' : World) : Prop where
  below : Below n₀ W W'
  cells : ∀ (k : Nat) (c : Array Value) (t : TypeId) (m : Nat × Nat), n₁ ≤ k → W.heap[k]? = some (.cells c t m) → W'.heap[k]? = some (.cells c t m)
theorem Keeps.refl (n₀ n₁ : Nat) (W : World) : Keeps n₀ n₁ W W := ⟨Below.refl _ _, fun _ _ _ _ _ h => h⟩
theorem Keeps.trans {n₀ n₁ : Nat} {X Y Z : World} (h : Keeps n₀ n₁ X Y) (k : Keeps n₀ n₁ Y Z) : Keeps n₀ n₁ X Z :=
  ⟨h.below.trans k.below, fun i c t m hi hc => k.cells i c t m hi (h.cells i c t m hi hc)⟩
theorem Keeps.alloc {n₀ n₁ : Nat} (W : World) (h0 : n₀ ≤ W.heap.size) (o : Obj) : Keeps n₀ n₁ W (W.alloc o) :=
  ⟨(Below.refl _ W).alloc h0 o, fun k _ _ _ _ hc => (Below.heap_alloc W o k (Array.getElem?_eq_some_iff.1 hc).1).trans hc⟩
theorem Keeps.setCell {n₀ n₁ : Nat} (W : World) {p : Addr} (h0 : n₀ ≤ p.block) (h1 : p.block < n₁) (u : Value) : Keeps n₀ n₁ W (W.setCell p u) :=
  ⟨(Below.refl _ W).setCell h0 u, fun k _ _ _ hk hc => (Below.heap_setCell W p u k (by omega)).trans hc⟩
theorem Keeps.drew {n₀ n₁ : Nat} (W : World) : Keeps n₀ n₁ W W.drew := ⟨(Below.refl _ W).drew, fun _ _ _ _ _ h => h⟩
theorem Keeps.grown {n₀ n₁ : Nat} {W W' : World} {r : Nat} (hg : W.grownBy W' (some r)) (h0 : n₀ ≤ W.heap.size) (h1 : n₀ ≤ r) (h2 : r < n₁) : Keeps n₀ n₁ W W' :=
  ⟨(Below.refl _ W).grown hg h0 (fun k e => by cases e; exact h1), fun k _ _ _ hk hc => (hg.block k (Array.getElem?_eq_some_iff.1 hc).1 (fun e => by cases e; omega)).trans hc⟩
theorem keeps_t {n₀ n₁ : Nat} {A B C : World} (h : Keeps n₀ n₁ A B) (k : Keeps n₀ n₁ B C) : Keeps n₀ n₁ A C := h.trans k
theorem keeps_b {n₀ n₁ : Nat} {w : World} (hn : n₀ ≤ w.heap.size) (W : World) (l : Nat) (o o' : Obj) (hl : w.heap.size ≤ l) (h : W.heap[l]? = some o) (hc : o.isCells = false) (hw : o.isWalk = false) : Keeps n₀ n₁ W (W.putObj l o') := by
  refine ⟨belowK_b hn W l o o' hl h hc hw, fun k _ _ _ _ hk => ?_⟩
  refine (World.putObj_heap_other (fun e => ?_)).trans hk
  subst e
  rw [hk] at h; cases h; cases hc
theorem Keeps.cell {n₀ n₁ : Nat} {W W' : World} (h : Keeps n₀ n₁ W W') {k : Nat} {t : TypeId} {v : Value} (hk : n₁ ≤ k) (hb : Boxed W k t v) : Boxed W' k t v := h.cells k _ _ _ hk hb

end Go.Proofs.YtbegplfijjbpcaaDoor
