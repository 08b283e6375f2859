/- A kid's nodes are a tree just if all from the first one on hang on it. Pure. -/
import Derived.Test.YtbegplfijjbpcaaDoorNqKidM
namespace Go.Proofs.YtbegplfijjbpcaaDoor.No
open Go Go.RowKit

theorem form_mov (b : Int) (x : Nd) : formB (movN b x) = formB x := by
  unfold formB
  have e : (movN b x).kids.length = x.kids.length := by rw [mov_kids, List.length_map]
  rw [e]
  rfl
theorem rise_mov (b : Int) : ∀ (l : List Int) (i last : Int), riseB (i + b) (last + b) (l.map (· + b)) = riseB i last l
  | [], _, _ => rfl
  | a :: l, i, last => by
    simp only [List.map_cons, riseB]
    rw [rise_mov b l i a]
    have e1 : (last + b < a + b) = (last < a) := propext ⟨fun _ => by omega, fun _ => by omega⟩
    have e2 : (a + b < i + b) = (a < i) := propext ⟨fun _ => by omega, fun _ => by omega⟩
    simp only [e1, e2]
theorem rise_low {i last last' : Int} : ∀ {l : List Int}, riseB i last l = true → (∀ a ∈ l, last' < a) → riseB i last' l = true
  | [], _, _ => rfl
  | a :: l, h, h2 => by
    simp only [riseB, Bool.and_eq_true, decide_eq_true_eq] at h ⊢
    exact ⟨⟨h2 a List.mem_cons_self, h.1.2⟩, h.2⟩
theorem kids_mov (b : Int) (L : List Nd) : allKids (L.map (movN b)) = (allKids L).map (· + b) := by
  unfold allKids
  rw [List.flatMap_map, List.map_flatMap]
  rfl
theorem count_mov (b : Int) (L : List Int) (c : Int) : (L.map (· + b)).count (c + b) = L.count c := by
  induction L with
  | nil => rfl
  | cons a l ih =>
    rw [List.map_cons, List.count_cons, List.count_cons, ih]
    have e : ((a + b == c + b) = (a == c)) := by
      by_cases h : a = c
      · subst h; rw [beq_self_eq_true, beq_self_eq_true]
      · have : a + b ≠ c + b := by omega
        rw [beq_eq_false_iff_ne.2 this, beq_eq_false_iff_ne.2 h]
    rw [e]
theorem kidL_get {T : List Nd} {i : Nat} (k : Nat) : (kidL T i)[k]? = if val firstC 0 T i + k ≤ i then (T[val firstC 0 T i + k]?).map (movN (-((val firstC 0 T i : Nat) : Int))) else none := by
  unfold kidL
  rw [List.getElem?_map, List.getElem?_drop, List.getElem?_take]
  by_cases h : val firstC 0 T i + k ≤ i
  · rw [if_pos (by omega), if_pos h]
  · rw [if_neg (by omega), if_neg h]
    rfl
theorem kidL_len {T : List Nd} {i : Nat} (hi : i < T.length) (hf : val firstC 0 T i ≤ i) : (kidL T i).length = i + 1 - val firstC 0 T i := by
  unfold kidL
  rw [List.length_map, List.length_drop, List.length_take]
  omega
theorem kid_right {T : List Nd} (h : RightT T) {i : Nat} (hi : i < T.length) (hw : Whole T i) : RightT (kidL T i) := by
  have hf := first_le h.kidsOk hi
  have hl := kidL_len hi hf
  have hm := h.max
  obtain ⟨f, hfe⟩ : ∃ f, f = val firstC 0 T i := ⟨_, rfl⟩
  have kidf : ∀ (p : Nat) (y : Nd), f ≤ p → p ≤ i → T[p]? = some y → ∀ a ∈ y.kids, (f : Int) ≤ a := fun p y h1 h2 hy a ha => by
    have hk := h.kid hy a ha
    have := (first_in h.kidsOk i hi).2 a.toNat (inD_kid h.kidsOk hy ha i hi (hw p (by omega) h2))
    omega
  refine ⟨by omega, by omega, fun k x hx => ?_, fun k hk => ?_⟩
  · rw [kidL_get, ← hfe] at hx
    split at hx
    · rename_i hle
      obtain ⟨y, hy, rfl⟩ : ∃ y, T[f + k]? = some y ∧ movN (-(f : Int)) y = x := by
        cases hy : T[f + k]? with
        | none => rw [hy] at hx; cases hx
        | some y => rw [hy] at hx; exact ⟨y, rfl, by injection hx⟩
      have hn := h.node _ y hy
      refine ⟨by rw [form_mov]; exact hn.1, ?_⟩
      have h1 := rise_low (last' := -1 + (f : Int)) hn.2 (fun a ha => by have := kidf _ y (by omega) hle hy a ha; omega)
      rw [mov_kids]
      have h2 := rise_mov (-(f : Int)) y.kids ((f + k : Nat) : Int) (-1 + (f : Int))
      rw [h1, show ((f + k : Nat) : Int) + -(f : Int) = (k : Int) by omega, show (-1 : Int) + (f : Int) + -(f : Int) = -1 by omega] at h2
      exact h2
    · cases hx
  · rw [hl] at hk
    have e : allKids (kidL T i) = (allKids ((T.take (i + 1)).drop f)).map (· + -(f : Int)) := by
      unfold kidL
      rw [← hfe, kids_mov]
    rw [e]
    have e2 := count_mov (-(f : Int)) (allKids ((T.take (i + 1)).drop f)) ((f + k : Nat) : Int)
    rw [show ((f + k : Nat) : Int) + -(f : Int) = (k : Int) by omega] at e2
    rw [e2]
    have h1 := h.once (f + k) (by omega)
    have hsub : (allKids ((T.take (i + 1)).drop f)).count ((f + k : Nat) : Int) ≤ (allKids T).count ((f + k : Nat) : Int) := by
      have e3 : allKids T = allKids (T.take f) ++ (allKids ((T.take (i + 1)).drop f) ++ allKids (T.drop (i + 1))) := by
        have e4 : T = T.take f ++ ((T.take (i + 1)).drop f ++ T.drop (i + 1)) := by
          have a1 : (T.take (i + 1)).take f = T.take f := by rw [List.take_take, Nat.min_eq_left (by omega)]
          rw [← List.append_assoc, ← a1, List.take_append_drop, List.take_append_drop]
        have e5 := congrArg allKids e4
        unfold allKids at e5 ⊢
        rw [List.flatMap_append, List.flatMap_append] at e5
        exact e5
      rw [e3, List.count_append, List.count_append]
      omega
    obtain ⟨p, y, hy, hm2, hp⟩ := inD_par h.kidsOk i hi (f + k) (hw (f + k) (by omega) (by omega)) (by omega)
    have hpi := inD_le h.kidsOk i hi p hp
    have hpf := (first_in h.kidsOk i hi).2 p hp
    have hpos : 0 < (allKids ((T.take (i + 1)).drop f)).count ((f + k : Nat) : Int) := List.count_pos_iff.2 (List.mem_flatMap.2 ⟨y, List.mem_of_getElem? (i := p - f) (by rw [List.getElem?_drop, List.getElem?_take, if_pos (by omega), show f + (p - f) = p by omega]; exact hy), hm2⟩)
    omega
theorem kid_whole {T : List Nd} (h : RightT T) {i : Nat} (hi : i < T.length) (hr : RightT (kidL T i)) : Whole T i := by
  have hf := first_le h.kidsOk hi
  have hl := kidL_len hi hf
  obtain ⟨f, hfe⟩ : ∃ f, f = val firstC 0 T i := ⟨_, rfl⟩
  have key : ∀ m j, i - j = m → f ≤ j → j ≤ i → inD T i j = true := fun m => by
    induction m using Nat.strongRecOn with
    | _ m ih =>
      intro j hm h1 h2
      by_cases e : j = i
      · subst e
        exact inD_self h.kidsOk hi
      · have hc := hr.once (j - f) (by omega)
        have hmem : ((j - f : Nat) : Int) ∈ allKids (kidL T i) := List.count_pos_iff.1 (by omega)
        obtain ⟨x, hx, hax⟩ := List.mem_flatMap.1 hmem
        obtain ⟨k, hk⟩ := List.getElem?_of_mem hx
        have hkk := hr.kid hk _ hax
        rw [kidL_get, ← hfe] at hk
        split at hk
        · rename_i hle
          obtain ⟨y, hy, rfl⟩ : ∃ y, T[f + k]? = some y ∧ movN (-(f : Int)) y = x := by
            cases hy : T[f + k]? with
            | none => rw [hy] at hk; cases hk
            | some y => rw [hy] at hk; exact ⟨y, rfl, by injection hk⟩
          rw [mov_kids] at hax
          obtain ⟨b, hb, hbe⟩ := List.mem_map.1 hax
          have hbj : b = ((j : Nat) : Int) := by
            have : b + -(f : Int) = ((j - f : Nat) : Int) := hbe
            omega
          subst hbj
          have := inD_kid h.kidsOk hy hb i hi (ih (i - (f + k)) (by omega) (f + k) rfl (by omega) hle)
          rwa [Int.toNat_natCast] at this
        · cases hk
  intro j h1 h2
  exact key _ j rfl (by omega) h2
/-- THE PROGRAM's QUESTION. -/
theorem kid_iff {T : List Nd} (h : RightT T) {i : Nat} (hi : i < T.length) : rightB (kidL T i) = decide (val sizeC 0 T i = i - val firstC 0 T i + 1) := by
  by_cases hs : val sizeC 0 T i = i - val firstC 0 T i + 1
  · rw [decide_eq_true hs]
    exact (right_iff _).2 (kid_right h hi ((whole_iff h hi).1 hs))
  · rw [decide_eq_false hs]
    exact right_no (fun hr => hs ((whole_iff h hi).2 (kid_whole h hi hr)))
/-- A tree's kids are all nodes but the root. -/
theorem kids_len {T : List Nd} (h : RightT T) : (allKids T).length = T.length - 1 := by
  have hb : ∀ a ∈ allKids T, 0 ≤ a ∧ a < ((T.length - 1 : Nat) : Int) := fun a ha => by
    obtain ⟨x, hx, hax⟩ := List.mem_flatMap.1 ha
    obtain ⟨k, hk⟩ := List.getElem?_of_mem hx
    have := h.kid hk a hax
    have := (List.getElem?_eq_some_iff.1 hk).1
    omega
  have h1 := sum_count (fun _ => 1) (T.length - 1) (allKids T) hb
  have e1 : sumL ((allKids T).map fun a => (fun _ : Nat => 1) a.toNat) = (allKids T).length := by rw [sumL_const]; omega
  have e2 : ((List.range (T.length - 1)).map fun j : Nat => (allKids T).count (j : Int) * (fun _ => 1) j) = (List.range (T.length - 1)).map fun _ => 1 := by
    apply List.map_congr_left
    intro j hj
    have := List.mem_range.1 hj
    show (allKids T).count (j : Int) * 1 = 1
    rw [h.once j (by omega)]
  rw [e1, e2, sumL_const, List.length_range] at h1
  omega
end Go.Proofs.YtbegplfijjbpcaaDoor.No
