/- Merged by gen/nq_merge.py: NqCheckM, NqKidM, NqKidL, NqJoinM. -/
import Derived.Test.YtbegplfijjbpcaaDoorNqTake
import Derived.Test.YtbegplfijjbpcaaDoorNoB
import Derived.Test.YtbegplfijjbpcaaDoorNoC
/- Places that are taken one after the other: what is free behind all nodes tells whether they are a tree. Pure. -/
namespace Go.Proofs.YtbegplfijjbpcaaDoor.No
open Go Go.RowKit

/-- Which of n places are free, if P are taken. -/
def freeL (n : Nat) (P : List Int) : List Bool := (List.range n).map fun j : Nat => !decide ((j : Int) ∈ P)
theorem free_len (n : Nat) (P : List Int) : (freeL n P).length = n := by simp [freeL]
theorem free_at {n : Nat} (P : List Int) {j : Nat} (h : j < n) : (freeL n P)[j]? = some (!decide ((j : Int) ∈ P)) := by simp [freeL, h]
theorem free_nil (n : Nat) : freeL n [] = List.replicate n true := by
  apply List.ext_getElem?
  intro j
  by_cases hj : j < n
  · rw [free_at _ hj, List.getElem?_replicate, if_pos hj]; simp
  · rw [List.getElem?_eq_none (by rw [free_len]; omega), List.getElem?_eq_none (by simp; omega)]
theorem free_set {n : Nat} (P : List Int) {m : Nat} (h : m < n) : (freeL n P).set m false = freeL n (P ++ [(m : Int)]) := by
  apply List.ext_getElem?
  intro j
  by_cases hj : j < n
  · rw [free_at _ hj, List.getElem?_set]
    split
    · rename_i e
      subst e
      rw [if_pos (by rw [free_len]; exact h)]
      simp
    · rename_i e
      rw [free_at _ hj]
      have : (j : Int) ≠ (m : Int) := by omega
      simp [this]
  · rw [List.getElem?_eq_none (by rw [List.length_set, free_len]; omega), List.getElem?_eq_none (by rw [free_len]; omega)]
theorem take_yes {i n : Nat} (hi : i ≤ n) : ∀ (A : List Int) (lo : Int) (P : List Int), 0 ≤ lo → riseB (i : Int) (lo - 1) A = true → (∀ a ∈ A, a ∉ P) → takeF i lo A (freeL n P) = (true, freeL n (P ++ A))
  | [], _, P, _, _, _ => by rw [List.append_nil]; rfl
  | a :: r, lo, P, h0, h, hd => by
    simp only [riseB, Bool.and_eq_true, decide_eq_true_eq] at h
    obtain ⟨q, rfl⟩ : ∃ q : Nat, a = (q : Int) := ⟨a.toNat, by omega⟩
    have hq : q < n := by omega
    have hnp : (q : Int) ∉ P := hd _ List.mem_cons_self
    rw [takeF, if_pos ⟨by omega, h.1.2, by rw [Int.toNat_natCast, free_at _ hq]; simp [hnp]⟩, Int.toNat_natCast, free_set P hq, take_yes hi r _ _ (by omega) (by rw [show (q : Int) + 1 - 1 = q by omega]; exact h.2) (fun b hb e => ?_), List.append_assoc]
    · rfl
    · have hlt := (rise_mem h.2 b hb).1
      rcases List.mem_append.1 e with e | e
      · exact hd b (List.mem_cons_of_mem _ hb) e
      · have := List.mem_singleton.1 e
        omega
theorem take_only {i n : Nat} (hi : i ≤ n) : ∀ (A : List Int) (lo : Int) (P : List Int), 0 ≤ lo → (takeF i lo A (freeL n P)).1 = true → riseB (i : Int) (lo - 1) A = true ∧ ∀ a ∈ A, a ∉ P
  | [], _, _, _, _ => ⟨rfl, fun _ h => by cases h⟩
  | a :: r, lo, P, h0, h => by
    rw [takeF] at h
    split at h
    · rename_i hc
      obtain ⟨q, rfl⟩ : ∃ q : Nat, a = (q : Int) := ⟨a.toNat, by omega⟩
      have hq : q < n := by omega
      rw [Int.toNat_natCast, free_at _ hq] at hc
      rw [Int.toNat_natCast, free_set P hq] at h
      obtain ⟨h1, h2⟩ := take_only hi r _ _ (by omega) h
      rw [show (q : Int) + 1 - 1 = q by omega] at h1
      have hnp : (q : Int) ∉ P := by
        have := hc.2.2
        simpa using this
      refine ⟨by simp only [riseB, Bool.and_eq_true, decide_eq_true_eq]; exact ⟨⟨by omega, hc.2.1⟩, h1⟩, fun b hb e => ?_⟩
      rcases List.mem_cons.1 hb with rfl | hb
      · exact hnp e
      · exact h2 b hb (List.mem_append.2 (.inl e))
    · cases h
theorem rise_nodup {i : Int} : ∀ {l : List Int} {last : Int}, riseB i last l = true → l.Nodup
  | [], _, _ => List.nodup_nil
  | a :: r, last, h => by
    simp only [riseB, Bool.and_eq_true, decide_eq_true_eq] at h
    refine List.nodup_cons.2 ⟨fun e => ?_, rise_nodup h.2⟩
    have := (rise_mem h.2 a e).1
    omega
theorem kids_take {T : List Nd} {k : Nat} {x : Nd} (hx : T[k]? = some x) : allKids (T.take (k + 1)) = allKids (T.take k) ++ x.kids := by
  rw [List.take_add_one, hx]
  unfold allKids
  rw [List.flatMap_append]
  simp
/-- All nodes up to k are right, and their kids are told once. -/
structure CK (T : List Nd) (k : Nat) : Prop where
  nodes : nodesB T k = true
  nodup : (allKids (T.take k)).Nodup
theorem CK.zero (T : List Nd) : CK T 0 := ⟨rfl, by simp [allKids]⟩
theorem CK.form {T : List Nd} {k : Nat} {x : Nd} (hx : T[k]? = some x) (hf : formB x = false) : rightB T = false := by
  refine right_no (fun h => ?_)
  rw [(h.node k x hx).1] at hf
  cases hf
theorem CK.next {T : List Nd} {k n : Nat} {x : Nd} (h : CK T k) (hx : T[k]? = some x) (hn : k ≤ n) (hf : formB x = true) (ht : (takeF k 0 x.kids (freeL n (allKids (T.take k)))).1 = true) : CK T (k + 1) ∧ (takeF k 0 x.kids (freeL n (allKids (T.take k)))).2 = freeL n (allKids (T.take (k + 1))) := by
  obtain ⟨h1, h2⟩ := take_only hn x.kids 0 _ (Int.le_refl _) ht
  have h3 := take_yes hn x.kids 0 _ (Int.le_refl _) h1 h2
  refine ⟨⟨?_, ?_⟩, by rw [h3, kids_take hx]⟩
  · simp only [nodesB, h.nodes, hx, nodeB, hf, Bool.true_and]
    exact h1
  · rw [kids_take hx, List.nodup_append]
    exact ⟨h.nodup, rise_nodup h1, fun a ha b hb e => h2 b hb (e ▸ ha)⟩
theorem CK.taken {T : List Nd} {k n : Nat} {x : Nd} (hx : T[k]? = some x) (hn : k ≤ n) (ht : (takeF k 0 x.kids (freeL n (allKids (T.take k)))).1 = false) : rightB T = false := by
  refine right_no (fun h => ?_)
  have hr := (h.node k x hx).2
  have hlt : k < T.length := (List.getElem?_eq_some_iff.1 hx).1
  by_cases hd : ∀ a ∈ x.kids, a ∉ allKids (T.take k)
  · rw [take_yes hn x.kids 0 _ (Int.le_refl _) hr hd] at ht
    cases ht
  · have hd : ∃ a, a ∈ x.kids ∧ a ∈ allKids (T.take k) := by
      apply Classical.byContradiction
      intro hno
      exact hd (fun a ha e => hno ⟨a, ha, e⟩)
    obtain ⟨a, ha, he⟩ := hd
    have hb := rise_mem hr a ha
    obtain ⟨q, rfl⟩ : ∃ q : Nat, a = (q : Int) := ⟨a.toNat, by omega⟩
    have h1 := h.once q (by omega)
    have e : allKids T = allKids (T.take k) ++ x.kids ++ allKids (T.drop (k + 1)) := by
      rw [← kids_take hx]
      unfold allKids
      rw [← List.flatMap_append, List.take_append_drop]
    rw [e, List.count_append, List.count_append] at h1
    have c1 := List.count_pos_iff.2 he
    have c2 := List.count_pos_iff.2 ha
    omega
theorem CK.right {T : List Nd} {n : Nat} (hn : T.length = n) (h : CK T n) (hp : 1 ≤ n) (hm : n ≤ 400) (hall : ∀ j : Nat, j + 1 < n → (j : Int) ∈ allKids T) : rightB T = true := by
  subst hn
  refine (right_iff T).2 ⟨hp, hm, fun k x hx => ?_, fun k hk => ?_⟩
  · have := nodes_at h.nodes k x (List.getElem?_eq_some_iff.1 hx).1 hx
    simpa [nodeB] using this
  · have h1 := h.nodup
    rw [List.take_length] at h1
    have h2 := List.count_pos_iff.2 (hall k hk)
    have h3 := List.nodup_iff_count.1 h1 (k : Int)
    omega
theorem CK.lone {T : List Nd} {j : Nat} (hj : j + 1 < T.length) (h : (j : Int) ∉ allKids T) : rightB T = false := by
  refine right_no (fun hr => ?_)
  have h1 := hr.once j hj
  rw [List.count_eq_zero.2 h] at h1
  cases h1
theorem CK.root {T : List Nd} {n : Nat} (hn : T.length = n) (h : CK T n) : ∀ a ∈ allKids T, 0 ≤ a ∧ a + 1 < (n : Int) := fun a ha => by
  subst hn
  obtain ⟨x, hx, hax⟩ := List.mem_flatMap.1 ha
  obtain ⟨k, hk⟩ := List.mem_iff_getElem?.1 hx
  have hlt := (List.getElem?_eq_some_iff.1 hk).1
  have := nodes_at h.nodes k x hlt hk
  simp only [nodeB, Bool.and_eq_true] at this
  have := rise_mem this.2 a hax
  omega
end Go.Proofs.YtbegplfijjbpcaaDoor.No
/- How many nodes hang on a node; a kid's nodes stand one behind the other just if they are as many as from the first one on. Pure. -/
namespace Go.Proofs.YtbegplfijjbpcaaDoor.No
open Go Go.RowKit

def sizeC (_ : Nat) (_ : Nd) (l : List Nat) : Nat := l.foldl (· + ·) 1
def accZ (T : List Nd) (l : List Int) : Nat := (l.map fun k => val sizeC 0 T k.toNat).foldl (· + ·) 1
theorem accZ_snoc (T : List Nd) (l : List Int) (a : Int) : accZ T (l ++ [a]) = accZ T l + val sizeC 0 T a.toNat := by simp [accZ]
theorem size_eq {T : List Nd} (h : KidsOk T) {i : Nat} {x : Nd} (hx : T[i]? = some x) : val sizeC 0 T i = accZ T x.kids := val_eq sizeC 0 hx (h i x hx)
/-- Does j hang on i? -/
def inC (i : Nat) (_ : Nd) (l : List (Nat → Bool)) : Nat → Bool := fun j => decide (j = i) || l.any (fun f => f j)
def inD (T : List Nd) (i j : Nat) : Bool := val inC (fun _ => false) T i j
theorem inD_eq {T : List Nd} (h : KidsOk T) {i : Nat} {x : Nd} (hx : T[i]? = some x) (j : Nat) : inD T i j = (decide (j = i) || x.kids.any fun k => inD T k.toNat j) := by
  unfold inD
  rw [val_eq inC (fun _ => false) hx (h i x hx)]
  unfold inC
  rw [List.any_map]
  rfl
theorem inD_self {T : List Nd} (h : KidsOk T) {i : Nat} (hi : i < T.length) : inD T i i = true := by
  rw [inD_eq h (List.getElem?_eq_getElem hi)]
  simp
theorem inD_le {T : List Nd} (h : KidsOk T) : ∀ i, i < T.length → ∀ j, inD T i j = true → j ≤ i := by
  intro i
  induction i using Nat.strongRecOn with
  | _ i ih =>
    intro hi j hj
    have hx := List.getElem?_eq_getElem hi
    rw [inD_eq h hx] at hj
    simp only [Bool.or_eq_true, decide_eq_true_eq, List.any_eq_true] at hj
    rcases hj with rfl | ⟨k, hk, hj⟩
    · exact Nat.le_refl _
    · have h1 := h i _ hx k hk
      have := ih k.toNat (by omega) (by omega) j hj
      omega
theorem inD_kid {T : List Nd} (h : KidsOk T) {p : Nat} {y : Nd} (hy : T[p]? = some y) {a : Int} (ha : a ∈ y.kids) : ∀ i, i < T.length → inD T i p = true → inD T i a.toNat = true := by
  intro i
  induction i using Nat.strongRecOn with
  | _ i ih =>
    intro hi hp
    have hx := List.getElem?_eq_getElem hi
    rw [inD_eq h hx] at hp ⊢
    simp only [Bool.or_eq_true, decide_eq_true_eq, List.any_eq_true] at hp ⊢
    rcases hp with rfl | ⟨k, hk, hj⟩
    · rw [hx] at hy
      cases hy
      have h1 := h p _ hx a ha
      exact .inr ⟨a, ha, inD_self h (by omega)⟩
    · have h1 := h i _ hx k hk
      exact .inr ⟨k, hk, ih k.toNat (by omega) (by omega) hj⟩
theorem inD_par {T : List Nd} (h : KidsOk T) : ∀ i, i < T.length → ∀ j, inD T i j = true → j ≠ i → ∃ p y, T[p]? = some y ∧ (j : Int) ∈ y.kids ∧ inD T i p = true := by
  intro i
  induction i using Nat.strongRecOn with
  | _ i ih =>
    intro hi j hj hne
    have hx := List.getElem?_eq_getElem hi
    have hj' := hj
    rw [inD_eq h hx] at hj
    simp only [Bool.or_eq_true, decide_eq_true_eq, List.any_eq_true] at hj
    rcases hj with rfl | ⟨k, hk, hj⟩
    · exact absurd rfl hne
    · have h1 := h i _ hx k hk
      by_cases e : j = k.toNat
      · exact ⟨i, _, hx, by rw [e]; rwa [Int.toNat_of_nonneg h1.1], inD_self h hi⟩
      · obtain ⟨p, y, hy, hm, hp⟩ := ih k.toNat (by omega) (by omega) j hj e
        refine ⟨p, y, hy, hm, ?_⟩
        rw [inD_eq h hx]
        simp only [Bool.or_eq_true, decide_eq_true_eq, List.any_eq_true]
        exact .inr ⟨k, hk, hp⟩
/-- Each place has one owner. -/
theorem one_par {T : List Nd} (h : RightT T) {j p q : Nat} {x y : Nd} (hx : T[p]? = some x) (hy : T[q]? = some y) (h1 : (j : Int) ∈ x.kids) (h2 : (j : Int) ∈ y.kids) : p = q := by
  have key : ∀ {p q : Nat} {x y : Nd}, T[p]? = some x → T[q]? = some y → (j : Int) ∈ x.kids → (j : Int) ∈ y.kids → ¬ p < q := fun {p q x y} hx hy h1 h2 hlt => by
    have hq := (List.getElem?_eq_some_iff.1 hy).1
    have hj := h.kid hx _ h1
    have hc := h.once j (by omega)
    have e : allKids T = allKids (T.take q) ++ y.kids ++ allKids (T.drop (q + 1)) := by
      rw [← kids_take hy]
      unfold allKids
      rw [← List.flatMap_append, List.take_append_drop]
    rw [e, List.count_append, List.count_append] at hc
    have c1 : 0 < (allKids (T.take q)).count (j : Int) := List.count_pos_iff.2 (List.mem_flatMap.2 ⟨x, List.mem_of_getElem? (i := p) (by rw [List.getElem?_take, if_pos hlt]; exact hx), h1⟩)
    have c2 := List.count_pos_iff.2 h2
    omega
  rcases Nat.lt_trichotomy p q with e | e | e
  · exact absurd e (key hx hy h1 h2)
  · exact e
  · exact absurd e (key hy hx h2 h1)
theorem apart {T : List Nd} (h : RightT T) {c : Nat} {x : Nd} (hx : T[c]? = some x) {a b : Nat} (ha : (a : Int) ∈ x.kids) (hb : (b : Int) ∈ x.kids) (hne : a ≠ b) : ∀ m j, c - j = m → inD T a j = true → inD T b j = true → False := by
  have hc := (List.getElem?_eq_some_iff.1 hx).1
  have ka := h.kid hx _ ha
  have kb := h.kid hx _ hb
  have one : ∀ {a b : Nat}, (a : Int) ∈ x.kids → (b : Int) ∈ x.kids → a ≠ b → inD T b a = true → False := fun {a b} ha hb hne hj => by
    have ka := h.kid hx _ ha
    have kb := h.kid hx _ hb
    obtain ⟨p, y, hy, hm, hp⟩ := inD_par h.kidsOk b (by omega) a hj hne
    have e := one_par h hy hx hm ha
    subst e
    have := inD_le h.kidsOk b (by omega) p hp
    omega
  intro m
  induction m using Nat.strongRecOn with
  | _ m ih =>
    intro j hm h1 h2
    by_cases e1 : j = a
    · subst e1
      exact one ha hb hne h2
    · by_cases e2 : j = b
      · subst e2
        exact one hb ha (Ne.symm hne) h1
      · obtain ⟨p, y, hy, hmm, hp⟩ := inD_par h.kidsOk a (by omega) j h1 e1
        obtain ⟨q, z, hz, hm2, hq⟩ := inD_par h.kidsOk b (by omega) j h2 e2
        have e := one_par h hy hz hmm hm2
        subst e
        have hj := h.kid hy _ hmm
        have := inD_le h.kidsOk a (by omega) p hp
        exact ih (c - p) (by omega) p rfl hp hq
/-! ### How many -/
theorem countP_or (p q : Nat → Bool) : ∀ l : List Nat, (∀ x ∈ l, ¬ (p x = true ∧ q x = true)) → l.countP (fun x => p x || q x) = l.countP p + l.countP q
  | [], _ => rfl
  | a :: l, h => by
    have ih := countP_or p q l (fun x hx => h x (List.mem_cons_of_mem _ hx))
    have ha := h a List.mem_cons_self
    simp only [List.countP_cons, ih]
    cases hp : p a <;> cases hq : q a <;> simp [hp, hq] at ha ⊢ <;> omega
theorem countP_any (n : Nat) (f : Int → Nat → Bool) : ∀ l : List Int, l.Nodup → (∀ a ∈ l, ∀ b ∈ l, a ≠ b → ∀ j, f a j = true → f b j = true → False) → (List.range n).countP (fun j => l.any fun k => f k j) = (l.map fun k => (List.range n).countP (f k)).foldl (· + ·) 0
  | [], _, _ => by simp
  | a :: l, hn, h => by
    have ih := countP_any n f l (List.nodup_cons.1 hn).2 (fun x hx y hy => h x (List.mem_cons_of_mem _ hx) y (List.mem_cons_of_mem _ hy))
    have e : (fun j => (a :: l).any fun k => f k j) = fun j => f a j || l.any fun k => f k j := rfl
    rw [e, countP_or, ih]
    · have key : ∀ (m : List Nat) (b : Nat), m.foldl (· + ·) b = b + m.foldl (· + ·) 0 := fun m => by
        induction m with
        | nil => intro b; rfl
        | cons c m ihm =>
          intro b
          show m.foldl (· + ·) (b + c) = b + m.foldl (· + ·) (0 + c)
          rw [ihm (b + c), ihm (0 + c)]
          omega
      show _ = (l.map fun k => (List.range n).countP (f k)).foldl (· + ·) (0 + (List.range n).countP (f a))
      rw [key _ (0 + _)]
      omega
    · rintro j _ ⟨h1, h2⟩
      obtain ⟨b, hb, h3⟩ := List.any_eq_true.1 h2
      exact h a List.mem_cons_self b (List.mem_cons_of_mem _ hb) (fun e => (List.nodup_cons.1 hn).1 (e ▸ hb)) j h1 h3
theorem count_one {n i : Nat} (h : i < n) : (List.range n).countP (fun j => decide (j = i)) = 1 := by
  have h1 := List.nodup_iff_count.1 (List.nodup_range (n := n)) i
  have h2 : 0 < (List.range n).count i := List.count_pos_iff.2 (List.mem_range.2 h)
  have h3 : (List.range n).count i = (List.range n).countP (fun j => decide (j = i)) := by
    unfold List.count
    congr 1
  omega
def cntD (T : List Nd) (i : Nat) : Nat := (List.range T.length).countP (inD T i)
theorem size_cnt {T : List Nd} (h : RightT T) : ∀ i, i < T.length → val sizeC 0 T i = cntD T i := by
  intro i
  induction i using Nat.strongRecOn with
  | _ i ih =>
    intro hi
    obtain ⟨x, hx⟩ : ∃ x, T[i]? = some x := ⟨_, List.getElem?_eq_getElem hi⟩
    have hk := fun a ha => h.kid hx a ha
    rw [size_eq h.kidsOk hx]
    have e : cntD T i = (List.range T.length).countP (fun j => decide (j = i) || x.kids.any fun k => inD T k.toNat j) := by
      unfold cntD
      congr 1
      funext j
      exact inD_eq h.kidsOk hx j
    rw [e, countP_or, count_one hi, countP_any _ (fun k j => inD T k.toNat j) x.kids (rise_nodup (h.node i x hx).2)]
    · have e2 : (x.kids.map fun k => (List.range T.length).countP ((fun k j => inD T k.toNat j) k)) = x.kids.map fun k => val sizeC 0 T k.toNat := by
        apply List.map_congr_left
        intro a ha
        have := hk a ha
        exact (ih a.toNat (by omega) (by omega)).symm
      rw [e2]
      unfold accZ
      have key : ∀ (m : List Nat) (b : Nat), m.foldl (· + ·) (1 + b) = 1 + m.foldl (· + ·) b := fun m => by
        induction m with
        | nil => intro b; rfl
        | cons c m ihm =>
          intro b
          show m.foldl (· + ·) (1 + b + c) = 1 + m.foldl (· + ·) (b + c)
          rw [← ihm (b + c), Nat.add_assoc]
      exact key _ 0
    · intro a ha b hb hne j h1 h2
      have ka := hk a ha
      have kb := hk b hb
      exact apart h hx (a := a.toNat) (b := b.toNat) (by rwa [Int.toNat_of_nonneg ka.1]) (by rwa [Int.toNat_of_nonneg kb.1]) (by omega) _ j rfl h1 h2
    · rintro j _ ⟨h1, h2⟩
      simp only [decide_eq_true_eq] at h1
      subst h1
      obtain ⟨b, hb, h3⟩ := List.any_eq_true.1 h2
      have kb := hk b hb
      have := inD_le h.kidsOk b.toNat (by omega) j h3
      omega
theorem countP_iff (p q : Nat → Bool) : ∀ l : List Nat, (∀ x ∈ l, p x = true → q x = true) → l.countP p ≤ l.countP q ∧ (l.countP p = l.countP q → ∀ x ∈ l, q x = true → p x = true)
  | [], _ => ⟨Nat.le_refl _, fun _ x hx => by cases hx⟩
  | a :: l, h => by
    obtain ⟨i1, i2⟩ := countP_iff p q l (fun x hx => h x (List.mem_cons_of_mem _ hx))
    have ha := h a List.mem_cons_self
    simp only [List.countP_cons]
    cases hp : p a <;> cases hq : q a <;> simp [hp, hq] at ha ⊢
    · exact ⟨i1, fun e x hx => i2 e x hx⟩
    · exact ⟨by omega, fun e => by omega⟩
    · exact ⟨i1, fun e x hx => i2 (by omega) x hx⟩
theorem count_span (a b : Nat) : ∀ n, b < n → a ≤ b → (List.range n).countP (fun j => decide (a ≤ j) && decide (j ≤ b)) = b - a + 1 := fun n => by
  have key : ∀ n, (List.range n).countP (fun j => decide (a ≤ j) && decide (j ≤ b)) = min n (b + 1) - a := fun n => by
    induction n with
    | zero => simp
    | succ n ih =>
      rw [List.range_succ, List.countP_append, ih]
      by_cases h1 : a ≤ n <;> by_cases h2 : n ≤ b <;> simp [h1, h2] <;> omega
  intro h1 h2
  rw [key]
  omega
theorem size_le {T : List Nd} (h : RightT T) {i : Nat} (hi : i < T.length) : val sizeC 0 T i ≤ i + 1 := by
  rw [size_cnt h i hi]
  have h1 := (countP_iff (inD T i) (fun j => decide (0 ≤ j) && decide (j ≤ i)) (List.range T.length) (fun j _ hj => by
    have := inD_le h.kidsOk i hi j hj
    simp; omega)).1
  rw [count_span 0 i T.length hi (Nat.zero_le _)] at h1
  unfold cntD
  omega
theorem foldl_add_ge : ∀ (l m : List Nat) (a : Nat), l.foldl (· + ·) a ≤ (l ++ m).foldl (· + ·) a := fun l m a => by
  rw [List.foldl_append]
  have : ∀ (m : List Nat) (b : Nat), b ≤ m.foldl (· + ·) b := fun m => by
    induction m with
    | nil => intro b; exact Nat.le_refl _
    | cons c m ih => intro b; exact Nat.le_trans (Nat.le_add_right b c) (ih (b + c))
  exact this m _
theorem accZ_le {T : List Nd} (h : RightT T) {i : Nat} {x : Nd} (hx : T[i]? = some x) (j : Nat) : accZ T (x.kids.take j) ≤ i + 1 := by
  have h1 := size_le h (List.getElem?_eq_some_iff.1 hx).1
  rw [size_eq h.kidsOk hx] at h1
  refine Nat.le_trans ?_ h1
  unfold accZ
  have e : x.kids = x.kids.take j ++ x.kids.drop j := (List.take_append_drop j x.kids).symm
  conv => rhs; rw [e, List.map_append]
  exact foldl_add_ge _ _ _
/-! ### The first one -/
theorem first_in {T : List Nd} (h : KidsOk T) : ∀ i, i < T.length → inD T i (val firstC 0 T i) = true ∧ ∀ j, inD T i j = true → val firstC 0 T i ≤ j := by
  intro i
  induction i using Nat.strongRecOn with
  | _ i ih =>
    intro hi
    obtain ⟨x, hx⟩ : ∃ x, T[i]? = some x := ⟨_, List.getElem?_eq_getElem hi⟩
    constructor
    · have key : ∀ (l : List Nat) (b : Nat), l.foldl min b = b ∨ l.foldl min b ∈ l := fun l => by
        induction l with
        | nil => intro b; exact .inl rfl
        | cons c l ihl =>
          intro b
          show l.foldl min (min b c) = b ∨ l.foldl min (min b c) ∈ c :: l
          rcases ihl (min b c) with e | e
          · rw [e]
            rcases Nat.le_total b c with hbc | hbc
            · exact .inl (Nat.min_eq_left hbc)
            · exact .inr (by rw [Nat.min_eq_right hbc]; exact List.mem_cons_self)
          · exact .inr (List.mem_cons_of_mem _ e)
      rw [first_eq h hx]
      unfold accF
      rcases key (x.kids.map fun k => val firstC 0 T k.toNat) i with e | e
      · rw [e]
        exact inD_self h hi
      · obtain ⟨a, ha, he⟩ := List.mem_map.1 e
        have ka := h i x hx a ha
        rw [← he, inD_eq h hx]
        simp only [Bool.or_eq_true, decide_eq_true_eq, List.any_eq_true]
        exact .inr ⟨a, ha, (ih a.toNat (by omega) (by omega)).1⟩
    · intro j hj
      rw [inD_eq h hx] at hj
      simp only [Bool.or_eq_true, decide_eq_true_eq, List.any_eq_true] at hj
      rcases hj with rfl | ⟨a, ha, hj⟩
      · exact first_le h hi
      · have ka := h i x hx a ha
        exact Nat.le_trans (first_kid h hx ha) ((ih a.toNat (by omega) (by omega)).2 j hj)
/-- All from the first one on hang on it. -/
def Whole (T : List Nd) (i : Nat) : Prop := ∀ j, val firstC 0 T i ≤ j → j ≤ i → inD T i j = true
theorem whole_iff {T : List Nd} (h : RightT T) {i : Nat} (hi : i < T.length) : val sizeC 0 T i = i - val firstC 0 T i + 1 ↔ Whole T i := by
  have hf := first_le h.kidsOk hi
  have hs := count_span (val firstC 0 T i) i T.length hi hf
  have hc := countP_iff (inD T i) (fun j => decide (val firstC 0 T i ≤ j) && decide (j ≤ i)) (List.range T.length) (fun j _ hj => by
    have h1 := inD_le h.kidsOk i hi j hj
    have h2 := (first_in h.kidsOk i hi).2 j hj
    simp; omega)
  rw [size_cnt h i hi]
  constructor
  · intro e j h1 h2
    exact hc.2 (by unfold cntD at e; omega) j (List.mem_range.2 (by omega)) (by simp; omega)
  · intro hw
    have h2 := countP_iff (fun j => decide (val firstC 0 T i ≤ j) && decide (j ≤ i)) (inD T i) (List.range T.length) (fun j _ hj => by
      simp only [Bool.and_eq_true, decide_eq_true_eq] at hj
      exact hw j hj.1 hj.2)
    unfold cntD
    omega
end Go.Proofs.YtbegplfijjbpcaaDoor.No
/- A kid's nodes are a tree just if all from the first one on hang on it. Pure. -/
namespace Go.Proofs.YtbegplfijjbpcaaDoor.No
open Go Go.RowKit

theorem form_mov (b : Int) (x : Nd) : formB (movN b x) = formB x := by
  unfold formB
  have e : (movN b x).kids.length = x.kids.length := by rw [mov_kids, List.length_map]
  rw [e]
  rfl
theorem rise_mov (b : Int) : ∀ (l : List Int) (i last : Int), riseB (i + b) (last + b) (l.map (· + b)) = riseB i last l
  | [], _, _ => rfl
  | a :: l, i, last => by
    simp only [List.map_cons, riseB]
    rw [rise_mov b l i a]
    have e1 : (last + b < a + b) = (last < a) := propext ⟨fun _ => by omega, fun _ => by omega⟩
    have e2 : (a + b < i + b) = (a < i) := propext ⟨fun _ => by omega, fun _ => by omega⟩
    simp only [e1, e2]
theorem rise_low {i last last' : Int} : ∀ {l : List Int}, riseB i last l = true → (∀ a ∈ l, last' < a) → riseB i last' l = true
  | [], _, _ => rfl
  | a :: l, h, h2 => by
    simp only [riseB, Bool.and_eq_true, decide_eq_true_eq] at h ⊢
    exact ⟨⟨h2 a List.mem_cons_self, h.1.2⟩, h.2⟩
theorem kids_mov (b : Int) (L : List Nd) : allKids (L.map (movN b)) = (allKids L).map (· + b) := by
  unfold allKids
  rw [List.flatMap_map, List.map_flatMap]
  rfl
theorem count_mov (b : Int) (L : List Int) (c : Int) : (L.map (· + b)).count (c + b) = L.count c := by
  induction L with
  | nil => rfl
  | cons a l ih =>
    rw [List.map_cons, List.count_cons, List.count_cons, ih]
    have e : ((a + b == c + b) = (a == c)) := by
      by_cases h : a = c
      · subst h; rw [beq_self_eq_true, beq_self_eq_true]
      · have : a + b ≠ c + b := by omega
        rw [beq_eq_false_iff_ne.2 this, beq_eq_false_iff_ne.2 h]
    rw [e]
theorem kidL_get {T : List Nd} {i : Nat} (k : Nat) : (kidL T i)[k]? = if val firstC 0 T i + k ≤ i then (T[val firstC 0 T i + k]?).map (movN (-((val firstC 0 T i : Nat) : Int))) else none := by
  unfold kidL
  rw [List.getElem?_map, List.getElem?_drop, List.getElem?_take]
  by_cases h : val firstC 0 T i + k ≤ i
  · rw [if_pos (by omega), if_pos h]
  · rw [if_neg (by omega), if_neg h]
    rfl
theorem kidL_len {T : List Nd} {i : Nat} (hi : i < T.length) (hf : val firstC 0 T i ≤ i) : (kidL T i).length = i + 1 - val firstC 0 T i := by
  unfold kidL
  rw [List.length_map, List.length_drop, List.length_take]
  omega
theorem kid_right {T : List Nd} (h : RightT T) {i : Nat} (hi : i < T.length) (hw : Whole T i) : RightT (kidL T i) := by
  have hf := first_le h.kidsOk hi
  have hl := kidL_len hi hf
  have hm := h.max
  obtain ⟨f, hfe⟩ : ∃ f, f = val firstC 0 T i := ⟨_, rfl⟩
  have kidf : ∀ (p : Nat) (y : Nd), f ≤ p → p ≤ i → T[p]? = some y → ∀ a ∈ y.kids, (f : Int) ≤ a := fun p y h1 h2 hy a ha => by
    have hk := h.kid hy a ha
    have := (first_in h.kidsOk i hi).2 a.toNat (inD_kid h.kidsOk hy ha i hi (hw p (by omega) h2))
    omega
  refine ⟨by omega, by omega, fun k x hx => ?_, fun k hk => ?_⟩
  · rw [kidL_get, ← hfe] at hx
    split at hx
    · rename_i hle
      obtain ⟨y, hy, rfl⟩ : ∃ y, T[f + k]? = some y ∧ movN (-(f : Int)) y = x := by
        cases hy : T[f + k]? with
        | none => rw [hy] at hx; cases hx
        | some y => rw [hy] at hx; exact ⟨y, rfl, by injection hx⟩
      have hn := h.node _ y hy
      refine ⟨by rw [form_mov]; exact hn.1, ?_⟩
      have h1 := rise_low (last' := -1 + (f : Int)) hn.2 (fun a ha => by have := kidf _ y (by omega) hle hy a ha; omega)
      rw [mov_kids]
      have h2 := rise_mov (-(f : Int)) y.kids ((f + k : Nat) : Int) (-1 + (f : Int))
      rw [h1, show ((f + k : Nat) : Int) + -(f : Int) = (k : Int) by omega, show (-1 : Int) + (f : Int) + -(f : Int) = -1 by omega] at h2
      exact h2
    · cases hx
  · rw [hl] at hk
    have e : allKids (kidL T i) = (allKids ((T.take (i + 1)).drop f)).map (· + -(f : Int)) := by
      unfold kidL
      rw [← hfe, kids_mov]
    rw [e]
    have e2 := count_mov (-(f : Int)) (allKids ((T.take (i + 1)).drop f)) ((f + k : Nat) : Int)
    rw [show ((f + k : Nat) : Int) + -(f : Int) = (k : Int) by omega] at e2
    rw [e2]
    have h1 := h.once (f + k) (by omega)
    have hsub : (allKids ((T.take (i + 1)).drop f)).count ((f + k : Nat) : Int) ≤ (allKids T).count ((f + k : Nat) : Int) := by
      have e3 : allKids T = allKids (T.take f) ++ (allKids ((T.take (i + 1)).drop f) ++ allKids (T.drop (i + 1))) := by
        have e4 : T = T.take f ++ ((T.take (i + 1)).drop f ++ T.drop (i + 1)) := by
          have a1 : (T.take (i + 1)).take f = T.take f := by rw [List.take_take, Nat.min_eq_left (by omega)]
          rw [← List.append_assoc, ← a1, List.take_append_drop, List.take_append_drop]
        have e5 := congrArg allKids e4
        unfold allKids at e5 ⊢
        rw [List.flatMap_append, List.flatMap_append] at e5
        exact e5
      rw [e3, List.count_append, List.count_append]
      omega
    obtain ⟨p, y, hy, hm2, hp⟩ := inD_par h.kidsOk i hi (f + k) (hw (f + k) (by omega) (by omega)) (by omega)
    have hpi := inD_le h.kidsOk i hi p hp
    have hpf := (first_in h.kidsOk i hi).2 p hp
    have hpos : 0 < (allKids ((T.take (i + 1)).drop f)).count ((f + k : Nat) : Int) := List.count_pos_iff.2 (List.mem_flatMap.2 ⟨y, List.mem_of_getElem? (i := p - f) (by rw [List.getElem?_drop, List.getElem?_take, if_pos (by omega), show f + (p - f) = p by omega]; exact hy), hm2⟩)
    omega
theorem kid_whole {T : List Nd} (h : RightT T) {i : Nat} (hi : i < T.length) (hr : RightT (kidL T i)) : Whole T i := by
  have hf := first_le h.kidsOk hi
  have hl := kidL_len hi hf
  obtain ⟨f, hfe⟩ : ∃ f, f = val firstC 0 T i := ⟨_, rfl⟩
  have key : ∀ m j, i - j = m → f ≤ j → j ≤ i → inD T i j = true := fun m => by
    induction m using Nat.strongRecOn with
    | _ m ih =>
      intro j hm h1 h2
      by_cases e : j = i
      · subst e
        exact inD_self h.kidsOk hi
      · have hc := hr.once (j - f) (by omega)
        have hmem : ((j - f : Nat) : Int) ∈ allKids (kidL T i) := List.count_pos_iff.1 (by omega)
        obtain ⟨x, hx, hax⟩ := List.mem_flatMap.1 hmem
        obtain ⟨k, hk⟩ := List.getElem?_of_mem hx
        have hkk := hr.kid hk _ hax
        rw [kidL_get, ← hfe] at hk
        split at hk
        · rename_i hle
          obtain ⟨y, hy, rfl⟩ : ∃ y, T[f + k]? = some y ∧ movN (-(f : Int)) y = x := by
            cases hy : T[f + k]? with
            | none => rw [hy] at hk; cases hk
            | some y => rw [hy] at hk; exact ⟨y, rfl, by injection hk⟩
          rw [mov_kids] at hax
          obtain ⟨b, hb, hbe⟩ := List.mem_map.1 hax
          have hbj : b = ((j : Nat) : Int) := by
            have : b + -(f : Int) = ((j - f : Nat) : Int) := hbe
            omega
          subst hbj
          have := inD_kid h.kidsOk hy hb i hi (ih (i - (f + k)) (by omega) (f + k) rfl (by omega) hle)
          rwa [Int.toNat_natCast] at this
        · cases hk
  intro j h1 h2
  exact key _ j rfl (by omega) h2
/-- THE PROGRAM's QUESTION. -/
theorem kid_iff {T : List Nd} (h : RightT T) {i : Nat} (hi : i < T.length) : rightB (kidL T i) = decide (val sizeC 0 T i = i - val firstC 0 T i + 1) := by
  by_cases hs : val sizeC 0 T i = i - val firstC 0 T i + 1
  · rw [decide_eq_true hs]
    exact (right_iff _).2 (kid_right h hi ((whole_iff h hi).1 hs))
  · rw [decide_eq_false hs]
    exact right_no (fun hr => hs ((whole_iff h hi).2 (kid_whole h hi hr)))
/-- A tree's kids are all nodes but the root. -/
theorem kids_len {T : List Nd} (h : RightT T) : (allKids T).length = T.length - 1 := by
  have hb : ∀ a ∈ allKids T, 0 ≤ a ∧ a < ((T.length - 1 : Nat) : Int) := fun a ha => by
    obtain ⟨x, hx, hax⟩ := List.mem_flatMap.1 ha
    obtain ⟨k, hk⟩ := List.getElem?_of_mem hx
    have := h.kid hk a hax
    have := (List.getElem?_eq_some_iff.1 hk).1
    omega
  have h1 := sum_count (fun _ => 1) (T.length - 1) (allKids T) hb
  have e1 : sumL ((allKids T).map fun a => (fun _ : Nat => 1) a.toNat) = (allKids T).length := by rw [sumL_const]; omega
  have e2 : ((List.range (T.length - 1)).map fun j : Nat => (allKids T).count (j : Int) * (fun _ => 1) j) = (List.range (T.length - 1)).map fun _ => 1 := by
    apply List.map_congr_left
    intro j hj
    have := List.mem_range.1 hj
    show (allKids T).count (j : Int) * 1 = 1
    rw [h.once j (by omega)]
  rw [e1, e2, sumL_const, List.length_range] at h1
  omega
end Go.Proofs.YtbegplfijjbpcaaDoor.No
/- What is joined, part by part. Pure. -/
namespace Go.Proofs.YtbegplfijjbpcaaDoor.No
open Go Go.RowKit

def lens (KS : List (List Nd)) : Nat := sumL (KS.map List.length)
theorem lens_snoc (KS : List (List Nd)) (K : List Nd) : lens (KS ++ [K]) = lens KS + K.length := by
  unfold lens
  rw [List.map_append, sumL_app]
  simp [sumL]
theorem lens_take {KS : List (List Nd)} {i : Nat} {K : List Nd} (h : KS[i]? = some K) : lens (KS.take (i + 1)) = lens (KS.take i) + K.length := by
  rw [List.take_add_one, h]
  exact lens_snoc _ _
theorem lens_le (KS : List (List Nd)) (i : Nat) : lens (KS.take i) ≤ lens KS := by
  have e : lens KS = lens (KS.take i) + lens (KS.drop i) := by
    unfold lens
    rw [← sumL_app, ← List.map_append, List.take_append_drop]
  omega
theorem roots_snoc : ∀ (KS : List (List Nd)) (K : List Nd) (off : Nat), rootsL (KS ++ [K]) off = rootsL KS off ++ [((off + lens KS + K.length : Nat) : Int) - 1]
  | [], K, off => by simp [rootsL, lens, sumL]
  | A :: KS, K, off => by
    show _ :: rootsL (KS ++ [K]) (off + A.length) = _
    rw [roots_snoc KS K (off + A.length)]
    have e : off + A.length + lens KS + K.length = off + lens (A :: KS) + K.length := by
      unfold lens
      rw [List.map_cons, sumL_cons]
      omega
    rw [e]
    rfl
theorem parts_snoc : ∀ (KS : List (List Nd)) (K : List Nd) (off : Nat), partsL (KS ++ [K]) off = partsL KS off ++ K.map (movN ((off + lens KS : Nat) : Int))
  | [], K, off => by simp [partsL, lens, sumL]
  | A :: KS, K, off => by
    show A.map _ ++ partsL (KS ++ [K]) (off + A.length) = A.map _ ++ partsL KS (off + A.length) ++ _
    rw [parts_snoc KS K (off + A.length), List.append_assoc]
    have e : off + A.length + lens KS = off + lens (A :: KS) := by
      unfold lens
      rw [List.map_cons, sumL_cons]
      omega
    rw [e]
theorem roots_take {KS : List (List Nd)} {i : Nat} {K : List Nd} (h : KS[i]? = some K) : rootsL (KS.take (i + 1)) 0 = rootsL (KS.take i) 0 ++ [((lens (KS.take i) + K.length : Nat) : Int) - 1] := by
  rw [List.take_add_one, h]
  have := roots_snoc (KS.take i) K 0
  rw [Nat.zero_add] at this
  exact this
theorem parts_take {KS : List (List Nd)} {i : Nat} {K : List Nd} (h : KS[i]? = some K) : partsL (KS.take (i + 1)) 0 = partsL (KS.take i) 0 ++ K.map (movN ((lens (KS.take i) : Nat) : Int)) := by
  rw [List.take_add_one, h]
  have := parts_snoc (KS.take i) K 0
  rw [Nat.zero_add] at this
  exact this
theorem parts_length (KS : List (List Nd)) : (partsL KS 0).length = lens KS := parts_len KS 0
/-- How many kids there are in some trees. -/
def kidsN (KS : List (List Nd)) : Nat := sumL (KS.map fun K => (allKids K).length)
theorem kidsN_take {KS : List (List Nd)} {i : Nat} {K : List Nd} (h : KS[i]? = some K) : kidsN (KS.take (i + 1)) = kidsN (KS.take i) + (allKids K).length := by
  rw [List.take_add_one, h]
  unfold kidsN
  rw [List.map_append, sumL_app]
  simp [sumL]
theorem kidsN_right : ∀ (KS : List (List Nd)), (∀ K ∈ KS, RightT K) → kidsN KS + KS.length = lens KS
  | [], _ => rfl
  | K :: KS, h => by
    have h1 := kidsN_right KS (fun A hA => h A (List.mem_cons_of_mem _ hA))
    have h2 := kids_len (h K List.mem_cons_self)
    have h3 := (h K List.mem_cons_self).pos
    unfold kidsN lens at *
    rw [List.map_cons, sumL_cons, List.map_cons, sumL_cons, List.length_cons]
    omega
theorem kidsN_le (KS : List (List Nd)) (i : Nat) : kidsN (KS.take i) ≤ kidsN KS := by
  have e : kidsN KS = kidsN (KS.take i) + kidsN (KS.drop i) := by
    unfold kidsN
    rw [← sumL_app, ← List.map_append, List.take_append_drop]
  omega
/-- A part that is no tree. -/
theorem join_bad {kind : Int} {text : List UInt8} {KS : List (List Nd)} {K : List Nd} (h : K ∈ KS) (hr : rightB K = false) : joinA kind text KS = ([], 70) := by
  unfold joinA
  have : KS.all rightB = false := by
    rw [List.all_eq_false]
    exact ⟨K, h, by rw [hr]; decide⟩
  rw [this]
  rfl
/-- Too many nodes. -/
theorem join_long {kind : Int} {text : List UInt8} {KS : List (List Nd)} (h : 400 ≤ lens KS) : joinA kind text KS = ([], 70) := by
  unfold joinA
  have : rightB (joinL kind text KS) = false := right_no (fun hr => by
    have := hr.max
    rw [join_len] at this
    unfold lens at h
    omega)
  rw [this, Bool.and_false]
  rfl
theorem join_wrong {kind : Int} {text : List UInt8} {KS : List (List Nd)} (h : rightB (joinL kind text KS) = false) : joinA kind text KS = ([], 70) := by
  unfold joinA
  rw [h, Bool.and_false]
  rfl
theorem join_right {kind : Int} {text : List UInt8} {KS : List (List Nd)} (hK : ∀ K ∈ KS, RightT K) (h : rightB (joinL kind text KS) = true) : joinA kind text KS = (joinL kind text KS, 0) := by
  unfold joinA
  have : KS.all rightB = true := by
    rw [List.all_eq_true]
    exact fun K hm => (right_iff K).2 (hK K hm)
  rw [this, h]
  rfl
theorem mov_zero (x : Nd) : movN 0 x = x := by
  have h : x.kids.map (· + (0 : Int)) = x.kids := by
    have : (fun a : Int => a + 0) = id := funext (fun a => Int.add_zero a)
    rw [this, List.map_id]
  cases x
  simp only [movN] at h ⊢
  rw [h]
end Go.Proofs.YtbegplfijjbpcaaDoor.No
