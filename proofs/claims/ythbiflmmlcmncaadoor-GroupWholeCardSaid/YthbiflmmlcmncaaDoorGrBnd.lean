/- Parts of a list: where each begins and ends, and what it is alone. Nothing of the program stands here. -/
import Derived.Test.YthbiflmmlcmncaaDoorGyA
namespace Go.Proofs.YthbiflmmlcmncaaDoor.Ti
open Go Go.RowKit

/-- Where the parts that end among the first k tokens begin and end; where the next one begins. -/
def splB (L : List Tk) (g : List UInt8) : Nat → List (Nat × Nat) × Nat
  | 0 => ([], 0)
  | k + 1 => if sep L g k then ((splB L g k).1 ++ [((splB L g k).2, k)], k + 1) else splB L g k
def cutB (L : List Tk) (p : Nat × Nat) : List Tk := cutL L p.1 p.2
theorem splK_B (L : List Tk) (g : List UInt8) : ∀ k, splK L g k = ((splB L g k).1.map (cutB L), (splB L g k).2)
  | 0 => rfl
  | k + 1 => by
    have ih := splK_B L g k
    show (if sep L g k then ((splK L g k).1 ++ [cutL L (splK L g k).2 k], k + 1) else splK L g k) = _
    by_cases h : sep L g k = true
    · have e : splB L g (k + 1) = ((splB L g k).1 ++ [((splB L g k).2, k)], k + 1) := by
        show (if sep L g k then _ else _) = _
        rw [if_pos h]
      rw [if_pos h, ih, e]
      simp [cutB]
    · have e : splB L g (k + 1) = splB L g k := by
        show (if sep L g k then _ else _) = _
        rw [if_neg h]
      rw [if_neg h, ih, e]
/-- Where the i-th begins, by where the one ahead ends. -/
def startB (B : List (Nat × Nat)) : Nat → Nat
  | 0 => 0
  | j + 1 => match B[j]? with
    | some p => p.2 + 1
    | none => 0
theorem startB_app (B : List (Nat × Nat)) (p : Nat × Nat) {i : Nat} (h : i ≤ B.length) : startB (B ++ [p]) i = startB B i := by
  cases i with
  | zero => rfl
  | succ j =>
    show (match (B ++ [p])[j]? with | some p => p.2 + 1 | none => 0) = _
    rw [List.getElem?_append_left (by omega)]
    rfl
theorem startB_last (B : List (Nat × Nat)) (p : Nat × Nat) : startB (B ++ [p]) (B.length + 1) = p.2 + 1 := by
  show (match (B ++ [p])[B.length]? with | some p => p.2 + 1 | none => 0) = _
  rw [List.getElem?_append_right (Nat.le_refl _), Nat.sub_self]
  rfl
/-- No sign that parts is between two places that are 0 deep. -/
structure Good (L : List Tk) (g : List UInt8) (a b : Nat) : Prop where
  le : a ≤ b
  da : dpt L a = 0
  db : dpt L b = 0
  no : ∀ j, a ≤ j → j < b → sep L g j = false
structure BI (L : List Tk) (g : List UInt8) (k : Nat) (B : List (Nat × Nat)) (f : Nat) : Prop where
  fk : f ≤ k
  df : dpt L f = 0
  no : ∀ j, f ≤ j → j < k → sep L g j = false
  st : f = startB B B.length
  at_ : ∀ i a b, B[i]? = some (a, b) → a = startB B i ∧ b < k ∧ Good L g a b
theorem bi_at {L : List Tk} {g : List UInt8} {ps : List (Nat × Nat)} (hs : stAt L L.length = some ([], ps)) : ∀ k, k ≤ L.length → BI L g k (splB L g k).1 (splB L g k).2
  | 0, _ => ⟨Nat.le_refl _, rfl, fun j h1 h2 => by omega, rfl, fun i a b h => by cases h⟩
  | k + 1, hk => by
    have ih := bi_at (g := g) hs k (by omega)
    obtain ⟨t, ht⟩ : ∃ t, L[k]? = some t := ⟨_, List.getElem?_eq_getElem (by omega)⟩
    obtain ⟨u, hu⟩ := stAt_some (k := k + 1) hs (by omega)
    by_cases h : sep L g k = true
    · have e : splB L g (k + 1) = ((splB L g k).1 ++ [((splB L g k).2, k)], k + 1) := by
        show (if sep L g k then _ else _) = _
        rw [if_pos h]
      rw [e]
      have hq := sep_at g ht
      rw [h] at hq
      have hq' := hq.symm
      simp only [Bool.and_eq_true, decide_eq_true_eq, Bool.not_eq_true'] at hq'
      obtain ⟨⟨⟨q1, q2⟩, q3⟩, q4⟩ := hq'
      rw [depT_at ht, q4] at q1
      simp only [Bool.false_eq_true, if_false] at q1
      have q5 := (dpt_step ht hu).2.2 q3 q4
      refine ⟨Nat.le_refl _, by dsimp only; omega, fun j h1 h2 => by dsimp only at h1; omega, ?_, fun i a b hi => ?_⟩
      · dsimp only
        rw [List.length_append, List.length_singleton, startB_last]
      · dsimp only at hi ⊢
        by_cases hl : i < (splB L g k).1.length
        · rw [List.getElem?_append_left hl] at hi
          obtain ⟨a1, a2, a3⟩ := ih.at_ i a b hi
          exact ⟨by rw [startB_app _ _ (by omega)]; exact a1, by omega, a3⟩
        · have hil : i = (splB L g k).1.length := by
            have := (List.getElem?_eq_some_iff.1 hi).1
            rw [List.length_append, List.length_singleton] at this
            omega
          subst hil
          rw [List.getElem?_append_right (Nat.le_refl _), Nat.sub_self] at hi
          injection hi with hi
          injection hi with h1 h2
          subst h1 h2
          exact ⟨by rw [startB_app _ _ (Nat.le_refl _)]; exact ih.st, Nat.lt_succ_self _, ⟨ih.fk, ih.df, q1, ih.no⟩⟩
    · have e : splB L g (k + 1) = splB L g k := by
        show (if sep L g k then _ else _) = _
        rw [if_neg h]
      rw [e]
      have h' : sep L g k = false := by simpa using h
      refine ⟨by have := ih.fk; omega, ih.df, fun j h1 h2 => ?_, ih.st, fun i a b hi => ?_⟩
      · rcases Nat.lt_or_ge j k with h3 | h3
        · exact ih.no j h1 h3
        · obtain rfl : j = k := by omega
          exact h'
      · obtain ⟨a1, a2, a3⟩ := ih.at_ i a b hi
        exact ⟨a1, by omega, a3⟩
def fullB (L : List Tk) (g : List UInt8) : List (Nat × Nat) := (splB L g L.length).1 ++ [((splB L g L.length).2, L.length)]
theorem full_facts {L : List Tk} (g : List UInt8) (h0 : errA L = 0) : splitA L g = (fullB L g).map (cutB L) ∧ (∀ i a b, (fullB L g)[i]? = some (a, b) → a = startB (fullB L g) i ∧ b ≤ L.length ∧ Good L g a b) ∧
    startB (fullB L g) (fullB L g).length = L.length + 1 ∧ 0 < (fullB L g).length := by
  obtain ⟨ps, hs, _, _⟩ := errA_ok h0
  have hb := bi_at (g := g) hs L.length (Nat.le_refl _)
  have hd : dpt L L.length = 0 := by rw [dpt_some hs]; rfl
  refine ⟨?_, fun i a b hi => ?_, ?_, ?_⟩
  · unfold splitA fullB
    rw [if_pos h0, splK_B]
    simp [cutB]
  · unfold fullB at hi ⊢
    by_cases hl : i < (splB L g L.length).1.length
    · rw [List.getElem?_append_left hl] at hi
      obtain ⟨a1, a2, a3⟩ := hb.at_ i a b hi
      exact ⟨by rw [startB_app _ _ (by omega)]; exact a1, by omega, a3⟩
    · have hil : i = (splB L g L.length).1.length := by
        have := (List.getElem?_eq_some_iff.1 hi).1
        rw [List.length_append, List.length_singleton] at this
        omega
      subst hil
      rw [List.getElem?_append_right (Nat.le_refl _), Nat.sub_self] at hi
      injection hi with hi
      injection hi with h1 h2
      subst h1 h2
      exact ⟨by rw [startB_app _ _ (Nat.le_refl _)]; exact hb.st, Nat.le_refl _, ⟨hb.fk, hb.df, hd, hb.no⟩⟩
  · unfold fullB
    rw [List.length_append, List.length_singleton, startB_last]
  · unfold fullB
    rw [List.length_append, List.length_singleton]
    omega
/-- Alone a part matches, and no sign parts it. -/
theorem part_alone {L : List Tk} {g : List UInt8} (h0 : errA L = 0) {a b : Nat} (hb : b ≤ L.length) (hg : Good L g a b) : errA (cutL L a b) = 0 ∧ splitA (cutL L a b) g = [cutL L a b] := by
  obtain ⟨ps, hs, _, _⟩ := errA_ok h0
  have hab := hg.le
  have hlen : (cutL L a b).length = b - a := cutL_len L hab hb
  obtain ⟨s, hsa⟩ := stAt_some (k := a) hs (by omega)
  have hsn : s.1 = [] := by
    have := hg.da
    rw [dpt_some hsa] at this
    exact List.length_eq_zero_iff.1 this
  obtain ⟨s1, s2⟩ := s
  dsimp only at hsn
  subst hsn
  have hin := run_inner (f := a) (b := b) (B := []) (Q := s2) hb hsa (fun j _ hj => by
    obtain ⟨u, hu⟩ := stAt_some (k := j) hs (by omega)
    exact ⟨u.1, u.2, by rw [List.append_nil]; exact hu⟩)
  have hdp : ∀ k, a + k ≤ b → dpt (cutL L a b) k = dpt L (a + k) := fun k hk => by
    obtain ⟨S, P, h1, h2⟩ := hin k hk
    rw [dpt_some h1, dpt_some h2]
    simp [shS_len]
  have hend : ∃ P, stAt (cutL L a b) (b - a) = some ([], P) := by
    obtain ⟨S, P, h1, h2⟩ := hin (b - a) (by omega)
    have h3 := hdp (b - a) (by omega)
    rw [show a + (b - a) = b by omega, hg.db, dpt_some h1] at h3
    have hS : S = [] := List.length_eq_zero_iff.1 h3
    subst hS
    exact ⟨P, h1⟩
  obtain ⟨P, hP⟩ := hend
  have he : errA (cutL L a b) = 0 := by
    refine errA_zero (ps := P) (by rw [hlen]; exact hP) (fun k t hk ht ho => ?_)
    rw [hlen] at hk
    rw [cutL_at L (by omega)] at ht
    rw [hdp (k + 1) (by omega), ← Nat.add_assoc]
    exact errA_depth h0 (a + k) t (by omega) ht ho
  refine ⟨he, ?_⟩
  have hsep : ∀ k, k < b - a → sep (cutL L a b) g k = false := fun k hk => by
    obtain ⟨t, ht⟩ : ∃ t, L[a + k]? = some t := ⟨_, List.getElem?_eq_getElem (by omega)⟩
    have ht2 : (cutL L a b)[k]? = some t := by rw [cutL_at L (by omega)]; exact ht
    have hn := hg.no (a + k) (by omega) (by omega)
    rw [sep_at g ht, depT_at ht] at hn
    rw [sep_at g ht2, depT_at ht2, hdp (k + 1) (by omega), hdp k (by omega), ← Nat.add_assoc]
    exact hn
  have hk : ∀ k, k ≤ b - a → splK (cutL L a b) g k = ([], 0) := fun k => by
    induction k with
    | zero => intro _; rfl
    | succ k ih =>
      intro hk
      show (if sep (cutL L a b) g k then _ else _) = _
      rw [if_neg (by rw [hsep k (by omega)]; decide)]
      exact ih (by omega)
  unfold splitA
  rw [if_pos he, hlen, hk _ (Nat.le_refl _)]
  show [] ++ [cutL (cutL L a b) 0 (b - a)] = _
  rw [List.nil_append]
  congr 1
  unfold cutL
  rw [List.drop_zero, List.take_of_length_le]
  rw [List.length_drop, List.length_take]
  omega
theorem take_cut (L : List Tk) {a b : Nat} (h : a ≤ b) : L.take a ++ cutL L a b = L.take b := by
  unfold cutL
  have : L.take a = (L.take b).take a := by rw [List.take_take, Nat.min_eq_left h]
  rw [this, List.take_append_drop]
end Go.Proofs.YthbiflmmlcmncaaDoor.Ti
