/- What is joined, part by part. Pure. -/
import Derived.Test.YtbegplfijjbpcaaDoorNqKidL
namespace Go.Proofs.YtbegplfijjbpcaaDoor.No
open Go Go.RowKit

def lens (KS : List (List Nd)) : Nat := sumL (KS.map List.length)
theorem lens_snoc (KS : List (List Nd)) (K : List Nd) : lens (KS ++ [K]) = lens KS + K.length := by
  unfold lens
  rw [List.map_append, sumL_app]
  simp [sumL]
theorem lens_take {KS : List (List Nd)} {i : Nat} {K : List Nd} (h : KS[i]? = some K) : lens (KS.take (i + 1)) = lens (KS.take i) + K.length := by
  rw [List.take_add_one, h]
  exact lens_snoc _ _
theorem lens_le (KS : List (List Nd)) (i : Nat) : lens (KS.take i) ≤ lens KS := by
  have e : lens KS = lens (KS.take i) + lens (KS.drop i) := by
    unfold lens
    rw [← sumL_app, ← List.map_append, List.take_append_drop]
  omega
theorem roots_snoc : ∀ (KS : List (List Nd)) (K : List Nd) (off : Nat), rootsL (KS ++ [K]) off = rootsL KS off ++ [((off + lens KS + K.length : Nat) : Int) - 1]
  | [], K, off => by simp [rootsL, lens, sumL]
  | A :: KS, K, off => by
    show _ :: rootsL (KS ++ [K]) (off + A.length) = _
    rw [roots_snoc KS K (off + A.length)]
    have e : off + A.length + lens KS + K.length = off + lens (A :: KS) + K.length := by
      unfold lens
      rw [List.map_cons, sumL_cons]
      omega
    rw [e]
    rfl
theorem parts_snoc : ∀ (KS : List (List Nd)) (K : List Nd) (off : Nat), partsL (KS ++ [K]) off = partsL KS off ++ K.map (movN ((off + lens KS : Nat) : Int))
  | [], K, off => by simp [partsL, lens, sumL]
  | A :: KS, K, off => by
    show A.map _ ++ partsL (KS ++ [K]) (off + A.length) = A.map _ ++ partsL KS (off + A.length) ++ _
    rw [parts_snoc KS K (off + A.length), List.append_assoc]
    have e : off + A.length + lens KS = off + lens (A :: KS) := by
      unfold lens
      rw [List.map_cons, sumL_cons]
      omega
    rw [e]
theorem roots_take {KS : List (List Nd)} {i : Nat} {K : List Nd} (h : KS[i]? = some K) : rootsL (KS.take (i + 1)) 0 = rootsL (KS.take i) 0 ++ [((lens (KS.take i) + K.length : Nat) : Int) - 1] := by
  rw [List.take_add_one, h]
  have := roots_snoc (KS.take i) K 0
  rw [Nat.zero_add] at this
  exact this
theorem parts_take {KS : List (List Nd)} {i : Nat} {K : List Nd} (h : KS[i]? = some K) : partsL (KS.take (i + 1)) 0 = partsL (KS.take i) 0 ++ K.map (movN ((lens (KS.take i) : Nat) : Int)) := by
  rw [List.take_add_one, h]
  have := parts_snoc (KS.take i) K 0
  rw [Nat.zero_add] at this
  exact this
theorem parts_length (KS : List (List Nd)) : (partsL KS 0).length = lens KS := parts_len KS 0
/-- How many kids there are in some trees. -/
def kidsN (KS : List (List Nd)) : Nat := sumL (KS.map fun K => (allKids K).length)
theorem kidsN_take {KS : List (List Nd)} {i : Nat} {K : List Nd} (h : KS[i]? = some K) : kidsN (KS.take (i + 1)) = kidsN (KS.take i) + (allKids K).length := by
  rw [List.take_add_one, h]
  unfold kidsN
  rw [List.map_append, sumL_app]
  simp [sumL]
theorem kidsN_right : ∀ (KS : List (List Nd)), (∀ K ∈ KS, RightT K) → kidsN KS + KS.length = lens KS
  | [], _ => rfl
  | K :: KS, h => by
    have h1 := kidsN_right KS (fun A hA => h A (List.mem_cons_of_mem _ hA))
    have h2 := kids_len (h K List.mem_cons_self)
    have h3 := (h K List.mem_cons_self).pos
    unfold kidsN lens at *
    rw [List.map_cons, sumL_cons, List.map_cons, sumL_cons, List.length_cons]
    omega
theorem kidsN_le (KS : List (List Nd)) (i : Nat) : kidsN (KS.take i) ≤ kidsN KS := by
  have e : kidsN KS = kidsN (KS.take i) + kidsN (KS.drop i) := by
    unfold kidsN
    rw [← sumL_app, ← List.map_append, List.take_append_drop]
  omega
/-- A part that is no tree. -/
theorem join_bad {kind : Int} {text : List UInt8} {KS : List (List Nd)} {K : List Nd} (h : K ∈ KS) (hr : rightB K = false) : joinA kind text KS = ([], 70) := by
  unfold joinA
  have : KS.all rightB = false := by
    rw [List.all_eq_false]
    exact ⟨K, h, by rw [hr]; decide⟩
  rw [this]
  rfl
/-- Too many nodes. -/
theorem join_long {kind : Int} {text : List UInt8} {KS : List (List Nd)} (h : 400 ≤ lens KS) : joinA kind text KS = ([], 70) := by
  unfold joinA
  have : rightB (joinL kind text KS) = false := right_no (fun hr => by
    have := hr.max
    rw [join_len] at this
    unfold lens at h
    omega)
  rw [this, Bool.and_false]
  rfl
theorem join_wrong {kind : Int} {text : List UInt8} {KS : List (List Nd)} (h : rightB (joinL kind text KS) = false) : joinA kind text KS = ([], 70) := by
  unfold joinA
  rw [h, Bool.and_false]
  rfl
theorem join_right {kind : Int} {text : List UInt8} {KS : List (List Nd)} (hK : ∀ K ∈ KS, RightT K) (h : rightB (joinL kind text KS) = true) : joinA kind text KS = (joinL kind text KS, 0) := by
  unfold joinA
  have : KS.all rightB = true := by
    rw [List.all_eq_true]
    exact fun K hm => (right_iff K).2 (hK K hm)
  rw [this, h]
  rfl
theorem mov_zero (x : Nd) : movN 0 x = x := by
  have h : x.kids.map (· + (0 : Int)) = x.kids := by
    have : (fun a : Int => a + 0) = id := funext (fun a => Int.add_zero a)
    rw [this, List.map_id]
  cases x
  simp only [movN] at h ⊢
  rw [h]
end Go.Proofs.YtbegplfijjbpcaaDoor.No
