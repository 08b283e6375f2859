/- Brackets: one list behind the other, a list in brackets, parts. Nothing of the program stands here. -/
import Derived.Test.YthbiflmmlcmncaaDoorGyA
namespace Go.Proofs.YthbiflmmlcmncaaDoor.Ti
open Go Go.RowKit

/-! ### One behind the other -/
theorem shP_nil (d : Nat) : shP d [] = [] := rfl
theorem shS_nil' (d : Nat) : shS d [] = [] := rfl
/-- Behind a list that matches, a list is as alone. -/
theorem join_at {L M : List Tk} {p : List (Nat × Nat)} (hL : stAt L L.length = some ([], p)) {k : Nat} {s : St} (_ : k ≤ M.length) (hM : stAt M k = some s) : stAt (L ++ M) (L.length + k) = some (shS L.length s.1, shP L.length s.2 ++ p) := by
  have h1 : (L ++ M).take (L.length + k) = L ++ M.take k := by rw [List.take_append, List.take_of_length_le (by omega), Nat.add_sub_cancel_left]
  unfold stAt
  rw [h1, run_append]
  rw [stAt_len] at hL
  rw [hL]
  show run (M.take k) (0 + L.length) ([], p) = _
  have h2 := run_shift (M.take k) 0 ([], []) s L.length [] p hM
  simp only [List.append_nil] at h2
  exact h2
theorem take_at {L M : List Tk} {k : Nat} (hk : k ≤ L.length) : stAt (L ++ M) k = stAt L k := by
  unfold stAt
  rw [List.take_append_of_le_length hk]
theorem dpt_left {L M : List Tk} {k : Nat} (hk : k ≤ L.length) : dpt (L ++ M) k = dpt L k := by unfold dpt; rw [take_at hk]
theorem join_err {L M : List Tk} (hL : errA L = 0) (hM : errA M = 0) : errA (L ++ M) = 0 ∧ ∃ p q, stAt L L.length = some ([], p) ∧ stAt M M.length = some ([], q) ∧ stAt (L ++ M) (L ++ M).length = some ([], shP L.length q ++ p) := by
  obtain ⟨p, h1, _, _⟩ := errA_ok hL
  obtain ⟨q, h2, _, _⟩ := errA_ok hM
  have h3 := join_at h1 (Nat.le_refl _) h2
  rw [← List.length_append] at h3
  refine ⟨errA_zero h3 (fun k t hk ht ho => ?_), p, q, h1, h2, h3⟩
  rcases Nat.lt_or_ge k L.length with hk1 | hk1
  · rw [dpt_left (by omega)]
    rw [List.getElem?_append_left hk1] at ht
    exact errA_depth hL k t hk1 ht ho
  · rw [List.getElem?_append_right hk1] at ht
    rw [List.length_append] at hk
    have h4 := errA_depth hM (k - L.length) t (by omega) ht ho
    obtain ⟨s, hs⟩ := stAt_some h2 (show k - L.length + 1 ≤ M.length by omega)
    have h5 := join_at h1 (by omega) hs
    rw [show L.length + (k - L.length + 1) = k + 1 by omega] at h5
    rw [dpt_some h5]
    rw [dpt_some hs] at h4
    simpa [shS_len] using h4
theorem part_shift (d : Nat) (q : List (Nat × Nat)) (p : List (Nat × Nat)) (k : Nat) (hp : part p (k + d) = -1) : part (shP d q ++ p) (k + d) = if 0 ≤ part q k then part q k + (d : Int) else -1 := by
  induction q with
  | nil => simp [shP, part, hp]
  | cons x r ih =>
    obtain ⟨a, b⟩ := x
    show (if k + d = a + d then ((b + d : Nat) : Int) else if k + d = b + d then ((a + d : Nat) : Int) else part (shP d r ++ p) (k + d)) = if 0 ≤ (if k = a then (b : Int) else if k = b then (a : Int) else part r k) then (if k = a then (b : Int) else if k = b then (a : Int) else part r k) + (d : Int) else -1
    by_cases h1 : k = a
    · simp only [h1, if_true]
      rw [if_pos (by omega)]; omega
    · rw [if_neg (by omega), if_neg h1]
      by_cases h2 : k = b
      · rw [if_pos (by omega), if_pos h2, if_pos (by omega)]; omega
      · rw [if_neg (by omega), if_neg h2]
        exact ih
theorem part_left (d : Nat) (q p : List (Nat × Nat)) (k : Nat) (hk : k < d) : part (shP d q ++ p) k = part p k := by
  induction q with
  | nil => rfl
  | cons x r ih =>
    obtain ⟨a, b⟩ := x
    show (if k = a + d then _ else if k = b + d then _ else part (shP d r ++ p) k) = _
    rw [if_neg (by omega), if_neg (by omega)]
    exact ih
theorem part_ge {L : List Tk} {p : List (Nat × Nat)} {k : Nat} (hL : stAt L L.length = some ([], p)) (hk : L.length ≤ k) : part p k = -1 := by
  have hI := inv_at L L.length _ (Nat.le_refl _) hL
  refine part_out (fun a b hm => ?_)
  have := hI.pair a b hm
  omega
theorem part_range {L : List Tk} {p : List (Nat × Nat)} {k : Nat} (hL : stAt L L.length = some ([], p)) : part p k = -1 ∨ (0 ≤ part p k ∧ part p k < (L.length : Int) ∧ part p k ≠ (k : Int)) := by
  by_cases h : part p k = -1
  · exact .inl h
  · have hI := inv_at L L.length _ (Nat.le_refl _) hL
    obtain ⟨a, b, hm, ⟨e, e2⟩ | ⟨e, e2⟩⟩ := part_mem h
    · have := hI.pair a b hm; right; rw [e2]; omega
    · have := hI.pair a b hm; right; rw [e2]; omega
/-- The partners of both. -/
theorem join_parts {L M : List Tk} (hL : errA L = 0) (hM : errA M = 0) {i : Nat} (hi : i < (L ++ M).length) :
    (matchA (L ++ M)).1[i]? = some (if i < L.length then ((matchA L).1[i]?).getD (-1) else if 0 ≤ ((matchA M).1[i - L.length]?).getD (-1) then ((matchA M).1[i - L.length]?).getD (-1) + (L.length : Int) else -1) := by
  obtain ⟨h0, p, q, h1, h2, h3⟩ := join_err hL hM
  obtain ⟨p', e1, _, m1⟩ := errA_ok hL
  rw [h1] at e1; cases e1
  obtain ⟨q', e2, _, m2⟩ := errA_ok hM
  rw [h2] at e2; cases e2
  obtain ⟨r, e3, _, m3⟩ := errA_ok h0
  rw [h3] at e3; cases e3
  rw [m1, m2, m3, parts_at _ hi]
  congr 1
  rw [List.length_append] at hi
  by_cases hlt : i < L.length
  · rw [if_pos hlt, parts_at _ hlt, part_left _ _ _ _ hlt]; rfl
  · rw [if_neg hlt, parts_at _ (by omega : i - L.length < M.length)]
    have := part_shift L.length q p (i - L.length) (by rw [show i - L.length + L.length = i by omega]; exact part_ge h1 (by omega))
    rw [show i - L.length + L.length = i by omega] at this
    exact this

/-! ### In brackets -/
theorem wrap_at {L : List Tk} {o : Tk} (ho : isO o = true) (M : List Tk) {k : Nat} {s : St} (hk : k ≤ L.length) (hs : stAt L k = some s) : stAt (o :: L ++ M) (k + 1) = some (shS 1 s.1 ++ [(0, o)], shP 1 s.2) := by
  have h1 : (o :: L ++ M).take (k + 1) = o :: L.take k := by
    rw [List.cons_append, List.take_succ_cons, List.take_append_of_le_length hk]
  unfold stAt
  rw [h1]
  show (step1 o 0 ([], [])).bind (run (L.take k) (0 + 1)) = _
  have h2 : step1 o 0 ([], []) = some ([(0, o)], []) := by unfold step1; rw [if_pos ho]
  rw [h2]
  show run (L.take k) (0 + 1) ([(0, o)], []) = _
  have h3 := run_shift (L.take k) 0 ([], []) s 1 [(0, o)] [] hs
  simp only [List.append_nil] at h3
  exact h3
structure Wrap (L W : List Tk) : Prop where
  len : W.length = L.length + 2
  st : stAt W W.length ≠ none → True
theorem wrap_end {L : List Tk} {o c : Tk} (ho : isO o = true) (hc : isC c = true) (hf : fit o c = true) {p : List (Nat × Nat)} (hL : stAt L L.length = some ([], p)) : stAt (o :: L ++ [c]) (L.length + 2) = some ([], (0, L.length + 1) :: shP 1 p) := by
  have h1 := wrap_at ho [c] (Nat.le_refl _) hL
  have h2 : (o :: L ++ [c])[L.length + 1]? = some c := by
    rw [List.getElem?_append_right (by simp)]
    simp
  rw [show L.length + 2 = L.length + 1 + 1 by omega, stAt_succ h2, h1]
  show step1 c (L.length + 1) ([(0, o)], shP 1 p) = _
  unfold step1
  rw [if_neg (fun e => by rw [isO_isC e] at hc; cases hc), if_pos hc]
  show (if fit o c = true then _ else none) = _
  rw [if_pos hf]
theorem wrap_dpt {L : List Tk} {o : Tk} (ho : isO o = true) (M : List Tk) {p : List (Nat × Nat)} (hL : stAt L L.length = some ([], p)) {k : Nat} (hk : k ≤ L.length) : dpt (o :: L ++ M) (k + 1) = dpt L k + 1 := by
  obtain ⟨s, hs⟩ := stAt_some hL hk
  rw [dpt_some hs, dpt_some (wrap_at ho M hk hs)]
  simp [shS_len]
/-- The error of a list in brackets. -/
theorem wrap_err {L : List Tk} {o c : Tk} (ho : isO o = true) (hc : isC c = true) (hf : fit o c = true) (h : errA L = 0) : errA (o :: L ++ [c]) = 0 ∨ errA (o :: L ++ [c]) = 61 := by
  obtain ⟨p, h1, _, _⟩ := errA_ok h
  have h2 := wrap_end ho hc hf h1
  unfold errA
  have hl : (o :: L ++ [c]).length = L.length + 2 := by simp
  rw [← hl] at h2
  by_cases hd : 20 < dmax (o :: L ++ [c]) (o :: L ++ [c]).length
  · rw [matchA_deep h2 rfl hd]; exact .inr rfl
  · rw [matchA_ok h2 rfl hd]; exact .inl rfl
/-- What is too deep is so in brackets. -/
theorem wrap_deep {L : List Tk} {o c : Tk} (ho : isO o = true) (h : errA L = 61) : ¬ errA (o :: L ++ [c]) = 0 := by
  intro h0
  have hd := errA_depth h0
  unfold errA at h
  cases hs : stAt L L.length with
  | none => rw [matchA_none hs] at h; cases h
  | some s =>
    by_cases h1 : s.1 = []
    · by_cases h2 : 20 < dmax L L.length
      · have h3 : dmax L L.length ≤ 20 := (dmax_le_iff L 20 L.length).2 (fun k t hk ht hO => by
          obtain ⟨s1, s2⟩ := s
          dsimp only at h1
          subst h1
          have h4 := hd (k + 1) t (by simp; omega) (by rw [List.cons_append, List.getElem?_cons_succ, List.getElem?_append_left hk]; exact ht) hO
          rw [wrap_dpt ho [c] hs (by omega)] at h4
          omega)
        omega
      · rw [matchA_ok hs h1 h2] at h; cases h
    · rw [matchA_wait hs h1] at h; cases h
theorem wrap_tells {L : List Tk} {o c : Tk} (ho : isO o = true) (hc : isC c = true) (hf : fit o c = true) (h : errA L = 0) (h' : errA (o :: L ++ [c]) = 0) :
    (∀ i, i < L.length → depT (o :: L ++ [c]) (i + 1) = depT L i + 1) ∧ depT (o :: L ++ [c]) 0 = 0 ∧ insideA (o :: L ++ [c]) 0 = (L, 0) := by
  obtain ⟨p, h1, _, _⟩ := errA_ok h
  have h2 := wrap_end ho hc hf h1
  have hl : (o :: L ++ [c]).length = L.length + 2 := by simp
  refine ⟨fun i hi => ?_, ?_, ?_⟩
  · obtain ⟨t, ht⟩ : ∃ t, L[i]? = some t := ⟨_, List.getElem?_eq_getElem hi⟩
    have ht' : (o :: L ++ [c])[i + 1]? = some t := by rw [List.cons_append, List.getElem?_cons_succ, List.getElem?_append_left hi]; exact ht
    rw [depT_at ht, depT_at ht', wrap_dpt ho [c] h1 (by omega), wrap_dpt ho [c] h1 (by omega)]
    split <;> rfl
  · rw [depT_at (t := o) (by simp), isO_isC ho]
    rfl
  · unfold insideA
    rw [if_pos h']
    obtain ⟨r, e3, _, m3⟩ := errA_ok h'
    rw [hl, h2] at e3
    cases e3
    have hp : prt (o :: L ++ [c]) (Int.toNat 0) = ((L.length + 1 : Nat) : Int) := by
      unfold prt
      rw [m3, hl]
      show ((parts (L.length + 2) _)[0]?).getD (-1) = _
      rw [parts_at _ (by omega)]
      show part ((0, L.length + 1) :: shP 1 p) 0 = _
      simp [part]
    rw [hp, if_pos (by rw [hl]; omega)]
    congr 1
    unfold cutL
    rw [Int.toNat_natCast, List.cons_append, List.take_succ_cons]
    show List.drop (0 + 1) _ = _
    rw [List.drop_succ_cons, List.drop_zero, List.take_left']
    rfl
end Go.Proofs.YthbiflmmlcmncaaDoor.Ti
