/- How long a show is. -/
import Derived.Test.YtbegplfijjbpcaaDoorNoWord
namespace Go.Proofs.YtbegplfijjbpcaaDoor.No
open Go Go.RowKit Go.Shelf

def sumL (l : List Nat) : Nat := l.foldr (· + ·) 0
theorem sumL_cons (a : Nat) (l : List Nat) : sumL (a :: l) = a + sumL l := rfl
theorem sumL_app : ∀ (a b : List Nat), sumL (a ++ b) = sumL a + sumL b
  | [], b => by show sumL b = 0 + sumL b; omega
  | x :: a, b => by
    rw [List.cons_append, sumL_cons, sumL_cons, sumL_app a b]
    omega
theorem sumL_le {α : Type} (f g : α → Nat) : ∀ (l : List α), (∀ x ∈ l, f x ≤ g x) → sumL (l.map f) ≤ sumL (l.map g)
  | [], _ => Nat.le_refl _
  | x :: l, h => by
    have h1 := sumL_le f g l (fun y hy => h y (List.mem_cons_of_mem _ hy))
    have h2 := h x (List.mem_cons_self ..)
    simp only [List.map_cons, sumL_cons]
    omega
theorem sumL_add {α : Type} (f g : α → Nat) : ∀ (l : List α), sumL (l.map fun x => f x + g x) = sumL (l.map f) + sumL (l.map g)
  | [] => rfl
  | x :: l => by
    have h1 := sumL_add f g l
    simp only [List.map_cons, sumL_cons] at h1 ⊢
    omega
theorem sumL_const {α : Type} (c : Nat) : ∀ (l : List α), sumL (l.map fun _ => c) = l.length * c
  | [] => by simp [sumL]
  | x :: l => by
    have h1 := sumL_const c l
    simp only [List.map_cons, sumL_cons, List.length_cons] at h1 ⊢
    rw [h1, Nat.add_mul]
    omega
theorem sumR (f : Nat → Nat) (n : Nat) : sumL ((List.range (n + 1)).map f) = sumL ((List.range n).map f) + f n := by
  rw [List.range_succ, List.map_append, sumL_app]
  rfl
/-- A place ahead of n counts once. -/
theorem one_of (f : Nat → Nat) (a : Nat) : ∀ n, a < n → sumL ((List.range n).map fun j => (if a = j then 1 else 0) * f j) = f a := fun n => by
  have z : ∀ n, n ≤ a → sumL ((List.range n).map fun j => (if a = j then 1 else 0) * f j) = 0 := fun n => by
    induction n with
    | zero => intro _; rfl
    | succ n ih =>
      intro h
      rw [sumR, ih (by omega), if_neg (by omega)]
      omega
  induction n with
  | zero => intro h; omega
  | succ n ih =>
    intro h
    rw [sumR]
    by_cases e : a = n
    · subst e
      rw [z _ (Nat.le_refl _), if_pos rfl]
      omega
    · rw [ih (by omega), if_neg e]
      omega
theorem sum_count (f : Nat → Nat) (n : Nat) : ∀ (P : List Int), (∀ a ∈ P, 0 ≤ a ∧ a < (n : Int)) → sumL (P.map fun a => f a.toNat) = sumL ((List.range n).map fun j : Nat => P.count (j : Int) * f j)
  | [], _ => by
    have : sumL ((List.range n).map fun j : Nat => ([] : List Int).count (j : Int) * f j) = sumL ((List.range n).map fun _ => 0) := by simp
    rw [this, sumL_const]
    simp [sumL]
  | a :: P, h => by
    have h1 := sum_count f n P (fun b hb => h b (List.mem_cons_of_mem _ hb))
    have h2 := h a (List.mem_cons_self ..)
    obtain ⟨m, rfl⟩ : ∃ m : Nat, a = (m : Int) := ⟨a.toNat, by omega⟩
    have h3 := one_of f m n (by omega)
    rw [List.map_cons, sumL_cons, h1]
    have e : (fun j : Nat => ((m : Int) :: P).count (j : Int) * f j) = fun j : Nat => P.count (j : Int) * f j + (if m = j then 1 else 0) * f j := by
      funext j
      rw [List.count_cons, Nat.add_mul]
      congr 2
      by_cases e : m = j
      · subst e; simp
      · rw [if_neg e, if_neg]
        intro h
        have := eq_of_beq h
        omega
    rw [e, sumL_add, h3, Int.toNat_natCast]
    omega
/-- Places ahead of n, none twice: no more than all of them. -/
theorem sum_once (f : Nat → Nat) (n : Nat) (P : List Int) (h : ∀ a ∈ P, 0 ≤ a ∧ a < (n : Int)) (h1 : ∀ j : Nat, j < n → P.count (j : Int) ≤ 1) : sumL (P.map fun a => f a.toNat) ≤ sumL ((List.range n).map f) := by
  rw [sum_count f n P h]
  refine sumL_le _ _ _ (fun j hj => ?_)
  have := h1 j (List.mem_range.1 hj)
  calc P.count (j : Int) * f j ≤ 1 * f j := Nat.mul_le_mul_right _ this
    _ = f j := Nat.one_mul _

/-! ### Shows -/
def accS (T : List Nd) (x : Nd) (l : List Int) : List UInt8 := headB x ++ (l.map fun k => val showC [] T k.toNat).flatMap (fun s => 32 :: s)
theorem accS_snoc (T : List Nd) (x : Nd) (l : List Int) (a : Int) : accS T x (l ++ [a]) = accS T x l ++ [32] ++ val showC [] T a.toNat := by simp [accS]
theorem show_eq {T : List Nd} (h : KidsOk T) {i : Nat} {x : Nd} (hx : T[i]? = some x) : val showC [] T i = if x.kids = [] then headB x else [40] ++ accS T x x.kids ++ [41] := by
  rw [val_eq showC [] hx (h i x hx)]
  rfl
def lenS (T : List Nd) (i : Nat) : Nat := (val showC [] T i).length
theorem flat_len (f : Int → List UInt8) : ∀ l : List Int, ((l.map f).flatMap (fun s => 32 :: s)).length = sumL (l.map fun k => (f k).length + 1)
  | [] => rfl
  | a :: l => by
    simp only [List.map_cons, List.flatMap_cons, List.length_append, List.length_cons, sumL_cons]
    rw [flat_len f l]
theorem accS_len (T : List Nd) (x : Nd) (l : List Int) : (accS T x l).length = (headB x).length + sumL (l.map fun k => lenS T k.toNat + 1) := by
  unfold accS
  rw [List.length_append, flat_len]
  rfl
theorem lenS_le {T : List Nd} (h : KidsOk T) {i : Nat} {x : Nd} (hx : T[i]? = some x) : lenS T i ≤ (headB x).length + 2 + sumL (x.kids.map fun k => lenS T k.toNat + 1) := by
  unfold lenS
  rw [show_eq h hx]
  split
  · omega
  · rw [List.length_append, List.length_append, accS_len]
    simp only [List.length_singleton, lenS]
    omega
theorem allKids_app (A B : List Nd) : allKids (A ++ B) = allKids A ++ allKids B := by unfold allKids; rw [List.flatMap_append]
def headN (T : List Nd) (j : Nat) : Nat := match T[j]? with
  | some x => (headB x).length + 2
  | none => 0
theorem sum_shows {T : List Nd} (h : KidsOk T) : ∀ n, n ≤ T.length → sumL ((List.range n).map (lenS T)) ≤ sumL ((List.range n).map (headN T)) + sumL ((allKids (T.take n)).map fun k => lenS T k.toNat + 1) := fun n => by
  induction n with
  | zero => intro _; exact Nat.zero_le _
  | succ n ih =>
    intro hn
    obtain ⟨x, hx⟩ : ∃ x, T[n]? = some x := ⟨_, List.getElem?_eq_getElem (by omega)⟩
    have h1 := ih (by omega)
    have h2 := lenS_le h hx
    have h3 : allKids (T.take (n + 1)) = allKids (T.take n) ++ x.kids := by
      rw [List.take_add_one, hx, allKids_app]
      simp [allKids]
    rw [sumR, sumR, h3, List.map_append, sumL_app]
    have h4 : headN T n = (headB x).length + 2 := by unfold headN; rw [hx]
    omega
theorem count_take (T : List Nd) (n : Nat) (j : Int) : (allKids (T.take n)).count j ≤ (allKids T).count j := by
  have : allKids T = allKids (T.take n) ++ allKids (T.drop n) := by rw [← allKids_app, List.take_append_drop]
  rw [this, List.count_append]
  omega
theorem take_kids {T : List Nd} (h : KidsOk T) (n : Nat) : ∀ a ∈ allKids (T.take (n + 1)), 0 ≤ a ∧ a < (n : Int) := fun a ha => by
  unfold allKids at ha
  obtain ⟨x, hx, hax⟩ := List.mem_flatMap.1 ha
  obtain ⟨k, hk⟩ := List.getElem?_of_mem hx
  rw [List.getElem?_take] at hk
  split at hk
  · have := h k x hk a hax
    omega
  · cases hk
theorem dig_len (k : Int) : (digB k).length ≤ 2 := by
  unfold digB
  split <;> simp
theorem head_le {x : Nd} (h : x.text.length ≤ 10000000) : (headB x).length ≤ 30000003 := by
  have h1 := word_len x.text
  have h2 := dig_len x.kind
  unfold headB
  rw [List.length_append, List.length_cons]
  omega
theorem show_len {T : List Nd} (h : RightT T) (ht : ∀ x ∈ T, x.text.length ≤ 10000000) {i : Nat} (hi : i < T.length) : lenS T i ≤ 100000000000 := by
  have h1 := sum_shows h.kidsOk (i + 1) (by omega)
  have h2 := sum_once (fun k => lenS T k + 1) i (allKids (T.take (i + 1))) (take_kids h.kidsOk i) (fun j hj => by
    have := h.once j (by omega)
    have := count_take T (i + 1) (j : Int)
    omega)
  have h3 := sumL_add (lenS T) (fun _ => 1) (List.range i)
  have h4 := sumL_const 1 (List.range i)
  have h5 : sumL ((List.range (i + 1)).map (headN T)) ≤ sumL ((List.range (i + 1)).map fun _ => 30000005) := by
    refine sumL_le _ _ _ (fun j hj => ?_)
    unfold headN
    split
    · rename_i x hx
      have := head_le (ht x (List.mem_of_getElem? hx))
      omega
    · omega
  rw [sumL_const, List.length_range] at h5
  rw [sumR] at h1
  rw [List.length_range] at h4
  have h6 := h.max
  rw [h3] at h2
  have h7 : (i + 1) * 30000005 ≤ 400 * 30000005 := Nat.mul_le_mul_right _ (by omega)
  omega
end Go.Proofs.YtbegplfijjbpcaaDoor.No
