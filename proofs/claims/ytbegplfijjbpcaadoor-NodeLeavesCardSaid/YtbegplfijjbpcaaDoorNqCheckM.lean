/- Places that are taken one after the other: what is free behind all nodes tells whether they are a tree. Pure. -/
import Derived.Test.YtbegplfijjbpcaaDoorNqTake
import Derived.Test.YtbegplfijjbpcaaDoorNoDeep
namespace Go.Proofs.YtbegplfijjbpcaaDoor.No
open Go Go.RowKit

/-- Which of n places are free, if P are taken. -/
def freeL (n : Nat) (P : List Int) : List Bool := (List.range n).map fun j : Nat => !decide ((j : Int) ∈ P)
theorem free_len (n : Nat) (P : List Int) : (freeL n P).length = n := by simp [freeL]
theorem free_at {n : Nat} (P : List Int) {j : Nat} (h : j < n) : (freeL n P)[j]? = some (!decide ((j : Int) ∈ P)) := by simp [freeL, h]
theorem free_nil (n : Nat) : freeL n [] = List.replicate n true := by
  apply List.ext_getElem?
  intro j
  by_cases hj : j < n
  · rw [free_at _ hj, List.getElem?_replicate, if_pos hj]; simp
  · rw [List.getElem?_eq_none (by rw [free_len]; omega), List.getElem?_eq_none (by simp; omega)]
theorem free_set {n : Nat} (P : List Int) {m : Nat} (h : m < n) : (freeL n P).set m false = freeL n (P ++ [(m : Int)]) := by
  apply List.ext_getElem?
  intro j
  by_cases hj : j < n
  · rw [free_at _ hj, List.getElem?_set]
    split
    · rename_i e
      subst e
      rw [if_pos (by rw [free_len]; exact h)]
      simp
    · rename_i e
      rw [free_at _ hj]
      have : (j : Int) ≠ (m : Int) := by omega
      simp [this]
  · rw [List.getElem?_eq_none (by rw [List.length_set, free_len]; omega), List.getElem?_eq_none (by rw [free_len]; omega)]
theorem take_yes {i n : Nat} (hi : i ≤ n) : ∀ (A : List Int) (lo : Int) (P : List Int), 0 ≤ lo → riseB (i : Int) (lo - 1) A = true → (∀ a ∈ A, a ∉ P) → takeF i lo A (freeL n P) = (true, freeL n (P ++ A))
  | [], _, P, _, _, _ => by rw [List.append_nil]; rfl
  | a :: r, lo, P, h0, h, hd => by
    simp only [riseB, Bool.and_eq_true, decide_eq_true_eq] at h
    obtain ⟨q, rfl⟩ : ∃ q : Nat, a = (q : Int) := ⟨a.toNat, by omega⟩
    have hq : q < n := by omega
    have hnp : (q : Int) ∉ P := hd _ List.mem_cons_self
    rw [takeF, if_pos ⟨by omega, h.1.2, by rw [Int.toNat_natCast, free_at _ hq]; simp [hnp]⟩, Int.toNat_natCast, free_set P hq, take_yes hi r _ _ (by omega) (by rw [show (q : Int) + 1 - 1 = q by omega]; exact h.2) (fun b hb e => ?_), List.append_assoc]
    · rfl
    · have hlt := (rise_mem h.2 b hb).1
      rcases List.mem_append.1 e with e | e
      · exact hd b (List.mem_cons_of_mem _ hb) e
      · have := List.mem_singleton.1 e
        omega
theorem take_only {i n : Nat} (hi : i ≤ n) : ∀ (A : List Int) (lo : Int) (P : List Int), 0 ≤ lo → (takeF i lo A (freeL n P)).1 = true → riseB (i : Int) (lo - 1) A = true ∧ ∀ a ∈ A, a ∉ P
  | [], _, _, _, _ => ⟨rfl, fun _ h => by cases h⟩
  | a :: r, lo, P, h0, h => by
    rw [takeF] at h
    split at h
    · rename_i hc
      obtain ⟨q, rfl⟩ : ∃ q : Nat, a = (q : Int) := ⟨a.toNat, by omega⟩
      have hq : q < n := by omega
      rw [Int.toNat_natCast, free_at _ hq] at hc
      rw [Int.toNat_natCast, free_set P hq] at h
      obtain ⟨h1, h2⟩ := take_only hi r _ _ (by omega) h
      rw [show (q : Int) + 1 - 1 = q by omega] at h1
      have hnp : (q : Int) ∉ P := by
        have := hc.2.2
        simpa using this
      refine ⟨by simp only [riseB, Bool.and_eq_true, decide_eq_true_eq]; exact ⟨⟨by omega, hc.2.1⟩, h1⟩, fun b hb e => ?_⟩
      rcases List.mem_cons.1 hb with rfl | hb
      · exact hnp e
      · exact h2 b hb (List.mem_append.2 (.inl e))
    · cases h
theorem rise_nodup {i : Int} : ∀ {l : List Int} {last : Int}, riseB i last l = true → l.Nodup
  | [], _, _ => List.nodup_nil
  | a :: r, last, h => by
    simp only [riseB, Bool.and_eq_true, decide_eq_true_eq] at h
    refine List.nodup_cons.2 ⟨fun e => ?_, rise_nodup h.2⟩
    have := (rise_mem h.2 a e).1
    omega
theorem kids_take {T : List Nd} {k : Nat} {x : Nd} (hx : T[k]? = some x) : allKids (T.take (k + 1)) = allKids (T.take k) ++ x.kids := by
  rw [List.take_add_one, hx]
  unfold allKids
  rw [List.flatMap_append]
  simp
/-- All nodes up to k are right, and their kids are told once. -/
structure CK (T : List Nd) (k : Nat) : Prop where
  nodes : nodesB T k = true
  nodup : (allKids (T.take k)).Nodup
theorem CK.zero (T : List Nd) : CK T 0 := ⟨rfl, by simp [allKids]⟩
theorem CK.form {T : List Nd} {k : Nat} {x : Nd} (hx : T[k]? = some x) (hf : formB x = false) : rightB T = false := by
  refine right_no (fun h => ?_)
  rw [(h.node k x hx).1] at hf
  cases hf
theorem CK.next {T : List Nd} {k n : Nat} {x : Nd} (h : CK T k) (hx : T[k]? = some x) (hn : k ≤ n) (hf : formB x = true) (ht : (takeF k 0 x.kids (freeL n (allKids (T.take k)))).1 = true) : CK T (k + 1) ∧ (takeF k 0 x.kids (freeL n (allKids (T.take k)))).2 = freeL n (allKids (T.take (k + 1))) := by
  obtain ⟨h1, h2⟩ := take_only hn x.kids 0 _ (Int.le_refl _) ht
  have h3 := take_yes hn x.kids 0 _ (Int.le_refl _) h1 h2
  refine ⟨⟨?_, ?_⟩, by rw [h3, kids_take hx]⟩
  · simp only [nodesB, h.nodes, hx, nodeB, hf, Bool.true_and]
    exact h1
  · rw [kids_take hx, List.nodup_append]
    exact ⟨h.nodup, rise_nodup h1, fun a ha b hb e => h2 b hb (e ▸ ha)⟩
theorem CK.taken {T : List Nd} {k n : Nat} {x : Nd} (hx : T[k]? = some x) (hn : k ≤ n) (ht : (takeF k 0 x.kids (freeL n (allKids (T.take k)))).1 = false) : rightB T = false := by
  refine right_no (fun h => ?_)
  have hr := (h.node k x hx).2
  have hlt : k < T.length := (List.getElem?_eq_some_iff.1 hx).1
  by_cases hd : ∀ a ∈ x.kids, a ∉ allKids (T.take k)
  · rw [take_yes hn x.kids 0 _ (Int.le_refl _) hr hd] at ht
    cases ht
  · have hd : ∃ a, a ∈ x.kids ∧ a ∈ allKids (T.take k) := by
      apply Classical.byContradiction
      intro hno
      exact hd (fun a ha e => hno ⟨a, ha, e⟩)
    obtain ⟨a, ha, he⟩ := hd
    have hb := rise_mem hr a ha
    obtain ⟨q, rfl⟩ : ∃ q : Nat, a = (q : Int) := ⟨a.toNat, by omega⟩
    have h1 := h.once q (by omega)
    have e : allKids T = allKids (T.take k) ++ x.kids ++ allKids (T.drop (k + 1)) := by
      rw [← kids_take hx]
      unfold allKids
      rw [← List.flatMap_append, List.take_append_drop]
    rw [e, List.count_append, List.count_append] at h1
    have c1 := List.count_pos_iff.2 he
    have c2 := List.count_pos_iff.2 ha
    omega
theorem CK.right {T : List Nd} {n : Nat} (hn : T.length = n) (h : CK T n) (hp : 1 ≤ n) (hm : n ≤ 400) (hall : ∀ j : Nat, j + 1 < n → (j : Int) ∈ allKids T) : rightB T = true := by
  subst hn
  refine (right_iff T).2 ⟨hp, hm, fun k x hx => ?_, fun k hk => ?_⟩
  · have := nodes_at h.nodes k x (List.getElem?_eq_some_iff.1 hx).1 hx
    simpa [nodeB] using this
  · have h1 := h.nodup
    rw [List.take_length] at h1
    have h2 := List.count_pos_iff.2 (hall k hk)
    have h3 := List.nodup_iff_count.1 h1 (k : Int)
    omega
theorem CK.lone {T : List Nd} {j : Nat} (hj : j + 1 < T.length) (h : (j : Int) ∉ allKids T) : rightB T = false := by
  refine right_no (fun hr => ?_)
  have h1 := hr.once j hj
  rw [List.count_eq_zero.2 h] at h1
  cases h1
theorem CK.root {T : List Nd} {n : Nat} (hn : T.length = n) (h : CK T n) : ∀ a ∈ allKids T, 0 ≤ a ∧ a + 1 < (n : Int) := fun a ha => by
  subst hn
  obtain ⟨x, hx, hax⟩ := List.mem_flatMap.1 ha
  obtain ⟨k, hk⟩ := List.mem_iff_getElem?.1 hx
  have hlt := (List.getElem?_eq_some_iff.1 hk).1
  have := nodes_at h.nodes k x hlt hk
  simp only [nodeB, Bool.and_eq_true] at this
  have := rise_mem this.2 a hax
  omega
end Go.Proofs.YtbegplfijjbpcaaDoor.No
