/- A region that draws its order within a fence: calls make memory, and one store writes the box that the region itself has made, behind the box and what it writes. -/
import Derived.Test.YthlkgfplffdiaaaGreatDoorArThru
import Derived.Test.YthlkgfplffdiaaaGreatDoorArFact
namespace Go.Proofs.YthlkgfplffdiaaaGreatDoor.Ar
open Go Go.RowKit
section
variable {F : Fence} {n : Nat} {P : Program} {ops : Array Oper} {Q : Exit → Act → World → Prop}
theorem wpIn_region_boxG {id : Nat} {a : Act} {w : World} (hm : P.follows .mixedOrders = true) (hp : guardOps ops = true) (z bx ar : Nat) (hbk : bx ∈ backOf ops ops.size z ∧ ar ∈ backOf ops ops.size z) (hne : bx ≠ z ∧ ar ≠ z ∧ z < ops.size) (Ph : Nat → Value → World → Prop) (St : Value → Value → World → Prop) (hPh : ∀ i v W W', Below W.heap.size W W' → Ph i v W → Ph i v W') (hSt : ∀ u v W W', Below W.heap.size W W' → St u v W → St u v W')
    (hstep : ∀ (i : Nat) (o : Oper) (listed : Array Bool) (a' : Act) (W : World) (val : Nat → Value), ops[i]? = some o → i < ops.size → i ≠ z → (∀ e ∈ o.after, Region.binds .any e = true → listed.getD e.on false = true) → Shape ops a val listed a' → Below w.heap.size w W → (∀ j, listed.getD j false = true → Ph j (val j) W) →
      wpOpIn F n P ops Q i (fun a'' W'' => ∃ v, a'' = a'.put o.dst v ∧ Below W.heap.size W W'' ∧ Ph i v W'') a' W)
    (hput : ∀ (o : Oper) (listed : Array Bool) (a' : Act) (W : World) (val : Nat → Value), ops[z]? = some o → (∀ e ∈ o.after, Region.binds .any e = true → listed.getD e.on false = true) → Shape ops a val listed a' → Below w.heap.size w W → (∀ j, listed.getD j false = true → Ph j (val j) W) →
      wpOpIn F n P ops Q z (fun a'' W'' => ∃ v, a'' = a'.put o.dst v ∧ Below w.heap.size w W'' ∧ Ph z v W'' ∧ (∀ j, listed.getD j false = true → Ph j (val j) W'') ∧ St (val bx) (val ar) W'') a' W)
    (hend : ∀ (W : World) (val : Nat → Value), Below w.heap.size w W → (∀ j, j < ops.size → Ph j (val j) W) → St (val bx) (val ar) W → Q .normal (finAct ops a val ops.size) W) : (Code.region id ops true).wpIn F n P Q a w := by
  refine wpIn_region_valsG hm hp (fun listed val W => listed.size = ops.size ∧ Closed .any ops listed ∧ Below w.heap.size w W ∧ (∀ j, listed.getD j false = true → Ph j (val j) W) ∧ (listed.getD z false = true → St (val bx) (val ar) W)) (fun val => ⟨by simp, fun j o ho hl => absurd hl (by rw [rep_getD]; decide), (Below.refl _ _).drew, fun j hl => absurd hl (by rw [rep_getD]; decide), fun hl => absurd hl (by rw [rep_getD]; decide)⟩) (fun i o listed a' W val ho hsz hu haf hS hJ => ?_) (fun listed W val hl hJ => ?_)
  · obtain ⟨hs, hcl, hB, hF, hT⟩ := hJ
    have hi := (Array.getElem?_eq_some_iff.1 ho).1
    have hset : ∀ j, (listed.setIfInBounds i true).getD j false = if i = j then true else listed.getD j false := fun j => lset hs hi
    have hcl' : Closed .any ops (listed.setIfInBounds i true) := fun j o' ho' hlj e he hb => by
      rw [hset] at hlj ⊢
      by_cases e1 : i = j
      · subst e1
        rw [ho] at ho'
        cases ho'
        split
        · rfl
        · exact haf e he hb
      · rw [if_neg e1] at hlj
        split
        · rfl
        · exact hcl j o' ho' hlj e he hb
    by_cases hzi : i = z
    · subst hzi
      refine wpOpIn_mono' (fun a'' W'' h' => ?_) (hput o listed a' W val ho haf hS hB hF)
      obtain ⟨v, rfl, hb, hv, hk, hst⟩ := h'
      refine ⟨v, rfl, by simp [hs], hcl', hb, fun j hlj => ?_, fun _ => ?_⟩
      · rw [hset] at hlj
        by_cases e : i = j
        · subst e
          simp only [if_pos]
          exact hv
        · rw [if_neg e] at hlj
          simp only [if_neg (Ne.symm e)]
          exact hk j hlj
      · simp only [if_neg hne.1, if_neg hne.2.1]
        exact hst
    · refine wpOpIn_mono' (fun a'' W'' h' => ?_) (hstep i o listed a' W val ho hi hzi haf hS hB hF)
      obtain ⟨v, rfl, hb, hv⟩ := h'
      refine ⟨v, rfl, by simp [hs], hcl', hB.trans (hb.mono hB.size), fun j hlj => ?_, fun hlz => ?_⟩
      · rw [hset] at hlj
        by_cases e : i = j
        · subst e
          simp only [if_pos]
          exact hv
        · rw [if_neg e] at hlj
          simp only [if_neg (Ne.symm e)]
          exact hPh _ _ _ _ hb (hF j hlj)
      · rw [hset, if_neg hzi] at hlz
        have hoz : ops[z]? = some ops[z] := Array.getElem?_eq_getElem hne.2.2
        have h1 := back_listed hcl _ z _ hoz (fun e he hb => hcl z _ hoz hlz e he hb) bx hbk.1
        have h2 := back_listed hcl _ z _ hoz (fun e he hb => hcl z _ hoz hlz e he hb) ar hbk.2
        have n1 : bx ≠ i := fun e => by rw [e, hu] at h1; cases h1
        have n2 : ar ≠ i := fun e => by rw [e, hu] at h2; cases h2
        simp only [if_neg n1, if_neg n2]
        exact hSt _ _ _ _ hb (hT hlz)
  · obtain ⟨_, _, hB, hF, hT⟩ := hJ
    exact hend W val hB (fun j hj => hF j (hl j hj)) (hT (hl z hne.2.2))
end
/-- What the operations of such a region come to: a value; an answer; its array; a box. -/
inductive PK where
  | val (v : Value)
  | tup
  | arr
  | box
  | any
def PhK (base : Nat) (Z : Ary) (c : Int) : PK → Value → World → Prop
  | .val u, v, _ => v = u
  | .tup, v, W => ∃ va vn vc, v = .tuple #[.agg #[.bool Z.list, .bool false, .slice va vn vc], .int .i64 c] ∧ IOwn W base (.slice va vn vc) Z.n
  | .arr, v, W => ∃ va vn vc, v = .agg #[.bool Z.list, .bool false, .slice va vn vc] ∧ IOwn W base (.slice va vn vc) Z.n
  | .box, v, W => ∃ b x y u, v = .pointer (some ⟨b, 0, none⟩) ∧ base ≤ b ∧ Row W b 24 #[x, y, u]
  | .any, _, _ => True
theorem PhK.below {base : Nat} {Z : Ary} {c : Int} : ∀ {k : PK} {v : Value} {W W' : World}, Below W.heap.size W W' → PhK base Z c k v W → PhK base Z c k v W'
  | .val _, _, _, _, _, h => h
  | .tup, _, _, _, hb, ⟨va, vn, vc, h1, h2⟩ => ⟨va, vn, vc, h1, h2.below hb⟩
  | .arr, _, _, _, hb, ⟨va, vn, vc, h1, h2⟩ => ⟨va, vn, vc, h1, h2.below hb⟩
  | .box, _, _, _, hb, ⟨b, x, y, u, h1, h2, h3⟩ => ⟨b, x, y, u, h1, h2, Row.below h3 hb (Row.lt h3)⟩
  | .any, _, _, _, _, _ => trivial
/-- The box is written. -/
theorem PhK.put {base : Nat} {Z : Ary} {c : Int} {b : Nat} {x y u : Value} (p q r : Value) : ∀ {k : PK} {v : Value} {W : World}, Row W b 24 #[x, y, u] → PhK base Z c k v W → PhK base Z c k v (((W.setCell ⟨b, 0, none⟩ p).setCell ⟨b, 1, none⟩ q).setCell ⟨b, 2, none⟩ r)
  | .val _, _, _, _, h => h
  | .tup, _, _, hr, ⟨va, vn, vc, h1, h2⟩ => ⟨va, vn, vc, h1, own_off3 h2 hr _ _ _⟩
  | .arr, _, _, hr, ⟨va, vn, vc, h1, h2⟩ => ⟨va, vn, vc, h1, own_off3 h2 hr _ _ _⟩
  | .box, _, _, hr, ⟨b', x', y', u', h1, h2, h3⟩ => by
    by_cases e : b' = b
    · subst e
      exact ⟨b', p, q, r, h1, h2, row_set3 h3 p q r⟩
    · exact ⟨b', x', y', u', h1, h2, Row.other (Row.other (Row.other h3 e _) e _) e _⟩
  | .any, _, _, _, _ => trivial
/-- The box holds the answer's array. -/
def StB (base : Nat) (Z : Ary) (u v : Value) (W : World) : Prop := ∃ b va vn vc, u = .pointer (some ⟨b, 0, none⟩) ∧ v = .agg #[.bool Z.list, .bool false, .slice va vn vc] ∧ base ≤ b ∧ Row W b 24 #[.bool Z.list, .bool false, .slice va vn vc] ∧ IOwn W base (.slice va vn vc) Z.n
theorem StB.below {base : Nat} {Z : Ary} {u v : Value} {W W' : World} (hb : Below W.heap.size W W') (h : StB base Z u v W) : StB base Z u v W' := by
  obtain ⟨b, va, vn, vc, h1, h2, h3, h4, h5⟩ := h
  exact ⟨b, va, vn, vc, h1, h2, h3, Row.below h4 hb (Row.lt h4), h5.below hb⟩
end Go.Proofs.YthlkgfplffdiaaaGreatDoor.Ar
