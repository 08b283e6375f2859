/- A region that draws its order within a fence, and writes no old cell: what each operation has told stays told. Nothing of the program stands here. -/
import Derived.Test.YtbegplfijjbpcaaDoorNqVal
import Derived.Test.YtbegplfijjbpcaaDoorPgRow
namespace Go.Proofs.YtbegplfijjbpcaaDoor
open Go Go.RowKit
section
variable {F : Fence} {n : Nat} {P : Program} {ops : Array Oper} {Q : Exit → Act → World → Prop}
theorem wpIn_region_facts {id : Nat} {a : Act} {w : World} (hm : P.follows .mixedOrders = true) (hp : plainOps ops = true) (Ph : Nat → Value → World → Prop) (hPh : ∀ i v W W', Below W.heap.size W W' → Ph i v W → Ph i v W')
    (hstep : ∀ (i : Nat) (o : Oper) (listed : Array Bool) (a' : Act) (W : World) (val : Nat → Value), ops[i]? = some o → (∀ e ∈ o.after, Region.binds .any e = true → listed.getD e.on false = true) → Shape ops a val listed a' → Below w.heap.size w W → (∀ j, listed.getD j false = true → Ph j (val j) W) →
      o.wpIn F n P a' W (fun a'' W'' => ∃ v, a'' = a'.put o.dst v ∧ Below W.heap.size W W'' ∧ Ph i v W'') Q)
    (hend : ∀ (W : World) (val : Nat → Value), Below w.heap.size w W → (∀ i, i < ops.size → Ph i (val i) W) → Q .normal (finAct ops a val ops.size) W) : (Code.region id ops true).wpIn F n P Q a w := by
  refine wpIn_region_vals hm hp (fun listed val W => Below w.heap.size w W ∧ ∀ j, j < ops.size → listed.getD j false = true → Ph j (val j) W) (fun val => ⟨(Below.refl _ _).drew, fun j _ h => absurd h (by rw [rep_getD]; decide)⟩) (fun i o listed a' W val ho hsz hu haf hS hJ => ?_) (fun listed W val hl hJ => hend W val hJ.1 (fun i hi => hJ.2 i hi (hl i hi)))
  have hi := (Array.getElem?_eq_some_iff.1 ho).1
  have hall : ∀ j, listed.getD j false = true → Ph j (val j) W := fun j hj => by
    refine hJ.2 j ?_ hj
    rw [← hsz]
    rcases Nat.lt_or_ge j listed.size with h | h
    · exact h
    · rw [Array.getD_eq_getD_getElem?, Array.getElem?_eq_none h] at hj
      cases hj
  refine Oper.wpIn_mono (fun a'' W'' h' => ?_) (hstep i o listed a' W val ho haf hS hJ.1 hall)
  obtain ⟨v, rfl, hb, hv⟩ := h'
  refine ⟨v, rfl, hJ.1.trans (hb.mono hJ.1.size), fun j hj hlj => ?_⟩
  rw [lset hsz hi] at hlj
  by_cases e : i = j
  · subst e
    simp only [if_pos]
    exact hv
  · rw [if_neg e] at hlj
    simp only [if_neg (Ne.symm e)]
    exact hPh _ _ _ _ hb (hJ.2 j hj hlj)
end
end Go.Proofs.YtbegplfijjbpcaaDoor
