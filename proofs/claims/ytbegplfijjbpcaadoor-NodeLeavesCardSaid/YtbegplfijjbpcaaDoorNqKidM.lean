/- How many nodes hang on a node; a kid's nodes stand one behind the other just if they are as many as from the first one on. Pure. -/
import Derived.Test.YtbegplfijjbpcaaDoorNqCheckM
import Derived.Test.YtbegplfijjbpcaaDoorNoBack
namespace Go.Proofs.YtbegplfijjbpcaaDoor.No
open Go Go.RowKit

def sizeC (_ : Nat) (_ : Nd) (l : List Nat) : Nat := l.foldl (· + ·) 1
def accZ (T : List Nd) (l : List Int) : Nat := (l.map fun k => val sizeC 0 T k.toNat).foldl (· + ·) 1
theorem accZ_snoc (T : List Nd) (l : List Int) (a : Int) : accZ T (l ++ [a]) = accZ T l + val sizeC 0 T a.toNat := by simp [accZ]
theorem size_eq {T : List Nd} (h : KidsOk T) {i : Nat} {x : Nd} (hx : T[i]? = some x) : val sizeC 0 T i = accZ T x.kids := val_eq sizeC 0 hx (h i x hx)
/-- Does j hang on i? -/
def inC (i : Nat) (_ : Nd) (l : List (Nat → Bool)) : Nat → Bool := fun j => decide (j = i) || l.any (fun f => f j)
def inD (T : List Nd) (i j : Nat) : Bool := val inC (fun _ => false) T i j
theorem inD_eq {T : List Nd} (h : KidsOk T) {i : Nat} {x : Nd} (hx : T[i]? = some x) (j : Nat) : inD T i j = (decide (j = i) || x.kids.any fun k => inD T k.toNat j) := by
  unfold inD
  rw [val_eq inC (fun _ => false) hx (h i x hx)]
  unfold inC
  rw [List.any_map]
  rfl
theorem inD_self {T : List Nd} (h : KidsOk T) {i : Nat} (hi : i < T.length) : inD T i i = true := by
  rw [inD_eq h (List.getElem?_eq_getElem hi)]
  simp
theorem inD_le {T : List Nd} (h : KidsOk T) : ∀ i, i < T.length → ∀ j, inD T i j = true → j ≤ i := by
  intro i
  induction i using Nat.strongRecOn with
  | _ i ih =>
    intro hi j hj
    have hx := List.getElem?_eq_getElem hi
    rw [inD_eq h hx] at hj
    simp only [Bool.or_eq_true, decide_eq_true_eq, List.any_eq_true] at hj
    rcases hj with rfl | ⟨k, hk, hj⟩
    · exact Nat.le_refl _
    · have h1 := h i _ hx k hk
      have := ih k.toNat (by omega) (by omega) j hj
      omega
theorem inD_kid {T : List Nd} (h : KidsOk T) {p : Nat} {y : Nd} (hy : T[p]? = some y) {a : Int} (ha : a ∈ y.kids) : ∀ i, i < T.length → inD T i p = true → inD T i a.toNat = true := by
  intro i
  induction i using Nat.strongRecOn with
  | _ i ih =>
    intro hi hp
    have hx := List.getElem?_eq_getElem hi
    rw [inD_eq h hx] at hp ⊢
    simp only [Bool.or_eq_true, decide_eq_true_eq, List.any_eq_true] at hp ⊢
    rcases hp with rfl | ⟨k, hk, hj⟩
    · rw [hx] at hy
      cases hy
      have h1 := h p _ hx a ha
      exact .inr ⟨a, ha, inD_self h (by omega)⟩
    · have h1 := h i _ hx k hk
      exact .inr ⟨k, hk, ih k.toNat (by omega) (by omega) hj⟩
theorem inD_par {T : List Nd} (h : KidsOk T) : ∀ i, i < T.length → ∀ j, inD T i j = true → j ≠ i → ∃ p y, T[p]? = some y ∧ (j : Int) ∈ y.kids ∧ inD T i p = true := by
  intro i
  induction i using Nat.strongRecOn with
  | _ i ih =>
    intro hi j hj hne
    have hx := List.getElem?_eq_getElem hi
    have hj' := hj
    rw [inD_eq h hx] at hj
    simp only [Bool.or_eq_true, decide_eq_true_eq, List.any_eq_true] at hj
    rcases hj with rfl | ⟨k, hk, hj⟩
    · exact absurd rfl hne
    · have h1 := h i _ hx k hk
      by_cases e : j = k.toNat
      · exact ⟨i, _, hx, by rw [e]; rwa [Int.toNat_of_nonneg h1.1], inD_self h hi⟩
      · obtain ⟨p, y, hy, hm, hp⟩ := ih k.toNat (by omega) (by omega) j hj e
        refine ⟨p, y, hy, hm, ?_⟩
        rw [inD_eq h hx]
        simp only [Bool.or_eq_true, decide_eq_true_eq, List.any_eq_true]
        exact .inr ⟨k, hk, hp⟩
/-- Each place has one owner. -/
theorem one_par {T : List Nd} (h : RightT T) {j p q : Nat} {x y : Nd} (hx : T[p]? = some x) (hy : T[q]? = some y) (h1 : (j : Int) ∈ x.kids) (h2 : (j : Int) ∈ y.kids) : p = q := by
  have key : ∀ {p q : Nat} {x y : Nd}, T[p]? = some x → T[q]? = some y → (j : Int) ∈ x.kids → (j : Int) ∈ y.kids → ¬ p < q := fun {p q x y} hx hy h1 h2 hlt => by
    have hq := (List.getElem?_eq_some_iff.1 hy).1
    have hj := h.kid hx _ h1
    have hc := h.once j (by omega)
    have e : allKids T = allKids (T.take q) ++ y.kids ++ allKids (T.drop (q + 1)) := by
      rw [← kids_take hy]
      unfold allKids
      rw [← List.flatMap_append, List.take_append_drop]
    rw [e, List.count_append, List.count_append] at hc
    have c1 : 0 < (allKids (T.take q)).count (j : Int) := List.count_pos_iff.2 (List.mem_flatMap.2 ⟨x, List.mem_of_getElem? (i := p) (by rw [List.getElem?_take, if_pos hlt]; exact hx), h1⟩)
    have c2 := List.count_pos_iff.2 h2
    omega
  rcases Nat.lt_trichotomy p q with e | e | e
  · exact absurd e (key hx hy h1 h2)
  · exact e
  · exact absurd e (key hy hx h2 h1)
theorem apart {T : List Nd} (h : RightT T) {c : Nat} {x : Nd} (hx : T[c]? = some x) {a b : Nat} (ha : (a : Int) ∈ x.kids) (hb : (b : Int) ∈ x.kids) (hne : a ≠ b) : ∀ m j, c - j = m → inD T a j = true → inD T b j = true → False := by
  have hc := (List.getElem?_eq_some_iff.1 hx).1
  have ka := h.kid hx _ ha
  have kb := h.kid hx _ hb
  have one : ∀ {a b : Nat}, (a : Int) ∈ x.kids → (b : Int) ∈ x.kids → a ≠ b → inD T b a = true → False := fun {a b} ha hb hne hj => by
    have ka := h.kid hx _ ha
    have kb := h.kid hx _ hb
    obtain ⟨p, y, hy, hm, hp⟩ := inD_par h.kidsOk b (by omega) a hj hne
    have e := one_par h hy hx hm ha
    subst e
    have := inD_le h.kidsOk b (by omega) p hp
    omega
  intro m
  induction m using Nat.strongRecOn with
  | _ m ih =>
    intro j hm h1 h2
    by_cases e1 : j = a
    · subst e1
      exact one ha hb hne h2
    · by_cases e2 : j = b
      · subst e2
        exact one hb ha (Ne.symm hne) h1
      · obtain ⟨p, y, hy, hmm, hp⟩ := inD_par h.kidsOk a (by omega) j h1 e1
        obtain ⟨q, z, hz, hm2, hq⟩ := inD_par h.kidsOk b (by omega) j h2 e2
        have e := one_par h hy hz hmm hm2
        subst e
        have hj := h.kid hy _ hmm
        have := inD_le h.kidsOk a (by omega) p hp
        exact ih (c - p) (by omega) p rfl hp hq
/-! ### How many -/
theorem countP_or (p q : Nat → Bool) : ∀ l : List Nat, (∀ x ∈ l, ¬ (p x = true ∧ q x = true)) → l.countP (fun x => p x || q x) = l.countP p + l.countP q
  | [], _ => rfl
  | a :: l, h => by
    have ih := countP_or p q l (fun x hx => h x (List.mem_cons_of_mem _ hx))
    have ha := h a List.mem_cons_self
    simp only [List.countP_cons, ih]
    cases hp : p a <;> cases hq : q a <;> simp [hp, hq] at ha ⊢ <;> omega
theorem countP_any (n : Nat) (f : Int → Nat → Bool) : ∀ l : List Int, l.Nodup → (∀ a ∈ l, ∀ b ∈ l, a ≠ b → ∀ j, f a j = true → f b j = true → False) → (List.range n).countP (fun j => l.any fun k => f k j) = (l.map fun k => (List.range n).countP (f k)).foldl (· + ·) 0
  | [], _, _ => by simp
  | a :: l, hn, h => by
    have ih := countP_any n f l (List.nodup_cons.1 hn).2 (fun x hx y hy => h x (List.mem_cons_of_mem _ hx) y (List.mem_cons_of_mem _ hy))
    have e : (fun j => (a :: l).any fun k => f k j) = fun j => f a j || l.any fun k => f k j := rfl
    rw [e, countP_or, ih]
    · have key : ∀ (m : List Nat) (b : Nat), m.foldl (· + ·) b = b + m.foldl (· + ·) 0 := fun m => by
        induction m with
        | nil => intro b; rfl
        | cons c m ihm =>
          intro b
          show m.foldl (· + ·) (b + c) = b + m.foldl (· + ·) (0 + c)
          rw [ihm (b + c), ihm (0 + c)]
          omega
      show _ = (l.map fun k => (List.range n).countP (f k)).foldl (· + ·) (0 + (List.range n).countP (f a))
      rw [key _ (0 + _)]
      omega
    · rintro j _ ⟨h1, h2⟩
      obtain ⟨b, hb, h3⟩ := List.any_eq_true.1 h2
      exact h a List.mem_cons_self b (List.mem_cons_of_mem _ hb) (fun e => (List.nodup_cons.1 hn).1 (e ▸ hb)) j h1 h3
theorem count_one {n i : Nat} (h : i < n) : (List.range n).countP (fun j => decide (j = i)) = 1 := by
  have h1 := List.nodup_iff_count.1 (List.nodup_range (n := n)) i
  have h2 : 0 < (List.range n).count i := List.count_pos_iff.2 (List.mem_range.2 h)
  have h3 : (List.range n).count i = (List.range n).countP (fun j => decide (j = i)) := by
    unfold List.count
    congr 1
  omega
def cntD (T : List Nd) (i : Nat) : Nat := (List.range T.length).countP (inD T i)
theorem size_cnt {T : List Nd} (h : RightT T) : ∀ i, i < T.length → val sizeC 0 T i = cntD T i := by
  intro i
  induction i using Nat.strongRecOn with
  | _ i ih =>
    intro hi
    obtain ⟨x, hx⟩ : ∃ x, T[i]? = some x := ⟨_, List.getElem?_eq_getElem hi⟩
    have hk := fun a ha => h.kid hx a ha
    rw [size_eq h.kidsOk hx]
    have e : cntD T i = (List.range T.length).countP (fun j => decide (j = i) || x.kids.any fun k => inD T k.toNat j) := by
      unfold cntD
      congr 1
      funext j
      exact inD_eq h.kidsOk hx j
    rw [e, countP_or, count_one hi, countP_any _ (fun k j => inD T k.toNat j) x.kids (rise_nodup (h.node i x hx).2)]
    · have e2 : (x.kids.map fun k => (List.range T.length).countP ((fun k j => inD T k.toNat j) k)) = x.kids.map fun k => val sizeC 0 T k.toNat := by
        apply List.map_congr_left
        intro a ha
        have := hk a ha
        exact (ih a.toNat (by omega) (by omega)).symm
      rw [e2]
      unfold accZ
      have key : ∀ (m : List Nat) (b : Nat), m.foldl (· + ·) (1 + b) = 1 + m.foldl (· + ·) b := fun m => by
        induction m with
        | nil => intro b; rfl
        | cons c m ihm =>
          intro b
          show m.foldl (· + ·) (1 + b + c) = 1 + m.foldl (· + ·) (b + c)
          rw [← ihm (b + c), Nat.add_assoc]
      exact key _ 0
    · intro a ha b hb hne j h1 h2
      have ka := hk a ha
      have kb := hk b hb
      exact apart h hx (a := a.toNat) (b := b.toNat) (by rwa [Int.toNat_of_nonneg ka.1]) (by rwa [Int.toNat_of_nonneg kb.1]) (by omega) _ j rfl h1 h2
    · rintro j _ ⟨h1, h2⟩
      simp only [decide_eq_true_eq] at h1
      subst h1
      obtain ⟨b, hb, h3⟩ := List.any_eq_true.1 h2
      have kb := hk b hb
      have := inD_le h.kidsOk b.toNat (by omega) j h3
      omega
theorem countP_iff (p q : Nat → Bool) : ∀ l : List Nat, (∀ x ∈ l, p x = true → q x = true) → l.countP p ≤ l.countP q ∧ (l.countP p = l.countP q → ∀ x ∈ l, q x = true → p x = true)
  | [], _ => ⟨Nat.le_refl _, fun _ x hx => by cases hx⟩
  | a :: l, h => by
    obtain ⟨i1, i2⟩ := countP_iff p q l (fun x hx => h x (List.mem_cons_of_mem _ hx))
    have ha := h a List.mem_cons_self
    simp only [List.countP_cons]
    cases hp : p a <;> cases hq : q a <;> simp [hp, hq] at ha ⊢
    · exact ⟨i1, fun e x hx => i2 e x hx⟩
    · exact ⟨by omega, fun e => by omega⟩
    · exact ⟨i1, fun e x hx => i2 (by omega) x hx⟩
theorem count_span (a b : Nat) : ∀ n, b < n → a ≤ b → (List.range n).countP (fun j => decide (a ≤ j) && decide (j ≤ b)) = b - a + 1 := fun n => by
  have key : ∀ n, (List.range n).countP (fun j => decide (a ≤ j) && decide (j ≤ b)) = min n (b + 1) - a := fun n => by
    induction n with
    | zero => simp
    | succ n ih =>
      rw [List.range_succ, List.countP_append, ih]
      by_cases h1 : a ≤ n <;> by_cases h2 : n ≤ b <;> simp [h1, h2] <;> omega
  intro h1 h2
  rw [key]
  omega
theorem size_le {T : List Nd} (h : RightT T) {i : Nat} (hi : i < T.length) : val sizeC 0 T i ≤ i + 1 := by
  rw [size_cnt h i hi]
  have h1 := (countP_iff (inD T i) (fun j => decide (0 ≤ j) && decide (j ≤ i)) (List.range T.length) (fun j _ hj => by
    have := inD_le h.kidsOk i hi j hj
    simp; omega)).1
  rw [count_span 0 i T.length hi (Nat.zero_le _)] at h1
  unfold cntD
  omega
theorem foldl_add_ge : ∀ (l m : List Nat) (a : Nat), l.foldl (· + ·) a ≤ (l ++ m).foldl (· + ·) a := fun l m a => by
  rw [List.foldl_append]
  have : ∀ (m : List Nat) (b : Nat), b ≤ m.foldl (· + ·) b := fun m => by
    induction m with
    | nil => intro b; exact Nat.le_refl _
    | cons c m ih => intro b; exact Nat.le_trans (Nat.le_add_right b c) (ih (b + c))
  exact this m _
theorem accZ_le {T : List Nd} (h : RightT T) {i : Nat} {x : Nd} (hx : T[i]? = some x) (j : Nat) : accZ T (x.kids.take j) ≤ i + 1 := by
  have h1 := size_le h (List.getElem?_eq_some_iff.1 hx).1
  rw [size_eq h.kidsOk hx] at h1
  refine Nat.le_trans ?_ h1
  unfold accZ
  have e : x.kids = x.kids.take j ++ x.kids.drop j := (List.take_append_drop j x.kids).symm
  conv => rhs; rw [e, List.map_append]
  exact foldl_add_ge _ _ _
/-! ### The first one -/
theorem first_in {T : List Nd} (h : KidsOk T) : ∀ i, i < T.length → inD T i (val firstC 0 T i) = true ∧ ∀ j, inD T i j = true → val firstC 0 T i ≤ j := by
  intro i
  induction i using Nat.strongRecOn with
  | _ i ih =>
    intro hi
    obtain ⟨x, hx⟩ : ∃ x, T[i]? = some x := ⟨_, List.getElem?_eq_getElem hi⟩
    constructor
    · have key : ∀ (l : List Nat) (b : Nat), l.foldl min b = b ∨ l.foldl min b ∈ l := fun l => by
        induction l with
        | nil => intro b; exact .inl rfl
        | cons c l ihl =>
          intro b
          show l.foldl min (min b c) = b ∨ l.foldl min (min b c) ∈ c :: l
          rcases ihl (min b c) with e | e
          · rw [e]
            rcases Nat.le_total b c with hbc | hbc
            · exact .inl (Nat.min_eq_left hbc)
            · exact .inr (by rw [Nat.min_eq_right hbc]; exact List.mem_cons_self)
          · exact .inr (List.mem_cons_of_mem _ e)
      rw [first_eq h hx]
      unfold accF
      rcases key (x.kids.map fun k => val firstC 0 T k.toNat) i with e | e
      · rw [e]
        exact inD_self h hi
      · obtain ⟨a, ha, he⟩ := List.mem_map.1 e
        have ka := h i x hx a ha
        rw [← he, inD_eq h hx]
        simp only [Bool.or_eq_true, decide_eq_true_eq, List.any_eq_true]
        exact .inr ⟨a, ha, (ih a.toNat (by omega) (by omega)).1⟩
    · intro j hj
      rw [inD_eq h hx] at hj
      simp only [Bool.or_eq_true, decide_eq_true_eq, List.any_eq_true] at hj
      rcases hj with rfl | ⟨a, ha, hj⟩
      · exact first_le h hi
      · have ka := h i x hx a ha
        exact Nat.le_trans (first_kid h hx ha) ((ih a.toNat (by omega) (by omega)).2 j hj)
/-- All from the first one on hang on it. -/
def Whole (T : List Nd) (i : Nat) : Prop := ∀ j, val firstC 0 T i ≤ j → j ≤ i → inD T i j = true
theorem whole_iff {T : List Nd} (h : RightT T) {i : Nat} (hi : i < T.length) : val sizeC 0 T i = i - val firstC 0 T i + 1 ↔ Whole T i := by
  have hf := first_le h.kidsOk hi
  have hs := count_span (val firstC 0 T i) i T.length hi hf
  have hc := countP_iff (inD T i) (fun j => decide (val firstC 0 T i ≤ j) && decide (j ≤ i)) (List.range T.length) (fun j _ hj => by
    have h1 := inD_le h.kidsOk i hi j hj
    have h2 := (first_in h.kidsOk i hi).2 j hj
    simp; omega)
  rw [size_cnt h i hi]
  constructor
  · intro e j h1 h2
    exact hc.2 (by unfold cntD at e; omega) j (List.mem_range.2 (by omega)) (by simp; omega)
  · intro hw
    have h2 := countP_iff (fun j => decide (val firstC 0 T i ≤ j) && decide (j ≤ i)) (inD T i) (List.range T.length) (fun j _ hj => by
      simp only [Bool.and_eq_true, decide_eq_true_eq] at hj
      exact hw j hj.1 hj.2)
    unfold cntD
    omega
end Go.Proofs.YtbegplfijjbpcaaDoor.No
